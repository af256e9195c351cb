/- ranges.Meet, hoist.Meet. -/
import Derived.Test.YtkcgbikgblkpjaaDoorRfits
import Derived.Test.YtkcgbikgblkpjaaDoorDefsm
namespace Go.Proofs.YtkcgbikgblkpjaaDoor
open Go.RowKit
namespace Hst

theorem anyS_yes {f : Int × Int → Bool} (d : List (Int × Int)) (k : Nat) (hk : k < d.length) (h : f d[k] = true) : (d.drop k).any f = true := by
  rw [List.drop_eq_getElem_cons hk, List.any_cons, h, Bool.true_or]
theorem anyS_no {f : Int × Int → Bool} (d : List (Int × Int)) (k : Nat) (hk : k < d.length) (h : f d[k] = false) : (d.drop k).any f = (d.drop (k + 1)).any f := by
  rw [List.drop_eq_getElem_cons hk, List.any_cons, h, Bool.false_or]
theorem anyS_end {f : Int × Int → Bool} (d : List (Int × Int)) (k : Nat) (hk : ¬ k < d.length) : (d.drop k).any f = false := by
  rw [List.drop_of_length_le (by omega)]; rfl
/-- Whether one span meets some of the others. -/
def meetS (sq : List (Int × Int)) (s : Int × Int) : Bool := sq.any fun t => !decide (mn s.2 t.2 < mx s.1 t.1)

set_option maxHeartbeats 2000000 in
theorem rmeet_any (v u : Value) (sp sq : List (Int × Int)) (base base' : Nat) (w : World) (hrow : SpanRow w base v sp) (hne : sp ≠ []) (hl : sp.length ≤ 1000) (hrow' : SpanRow w base' u sq) (hne' : sq ≠ []) (hl' : sq.length ≤ 1000) :
    Calls Tryd.prog 26 #[.agg #[v], .agg #[u]] w fun e w' => e = .returned (.bool (meetP sp sq)) ∧ Below w.heap.size w w' := by
  obtain ⟨g, cap, rfl, hg1, hg2, hcell⟩ := hrow.form hne
  obtain ⟨h, cap', rfl, hh1, hh2, hcell'⟩ := hrow'.form hne'
  have HC := hid hcell
  have HC' := hid hcell'
  clear hcell hrow hcell' hrow'
  have HP : Hid (meetP sp sq = sp.any (meetS sq)) := rfl
  go_enter Tryd.func26, Tryd.ntmps26
  go_wp2
  go_loopw [13] (fun i wr => ∃ (k : Nat), k ≤ sp.length ∧ i = .int .i64 k ∧ Below w.heap.size w wr ∧ w.heap.size + 2 ≤ wr.heap.size ∧ wr.cell? ⟨w.heap.size + 1, 0, none⟩ = some (.slice (some ⟨h, 0, none⟩) sq.length cap') ∧ Hid (meetP sp sq = (sp.drop k).any (meetS sq))) (fun i _ => sp.length - (intOf i).toNat)
  case atStart => exact ⟨0, by omega, rfl, ((Below.refl _ _).alloc (Nat.le_refl _) _).alloc (by simp) _, by simp, by simp, HP⟩
  case round =>
    obtain ⟨k, hk, rfl, hbel, hwz, hbox, hall⟩ := hrel
    clear HP
    have hz := hbel.size
    by_cases hlt : k < sp.length
    · obtain ⟨c0, c1⟩ := HC.out k hlt
      have hc0 := (hbel.cell (p := ⟨g, k * 2, none⟩) hg2).trans c0
      have hc1 := (hbel.cell (p := ⟨g, k * 2 + 1, none⟩) hg2).trans c1
      clear c0 c1
      have HY := hid (anyS_yes (f := meetS sq) sp k hlt)
      have HN := hid (anyS_no (f := meetS sq) sp k hlt)
      have HM : Hid (meetS sq sp[k] = sq.any fun t => !decide (mn sp[k].2 t.2 < mx sp[k].1 t.1)) := rfl
      generalize meetS sq sp[k] = ms at *
      generalize sp[k].1 = x at *
      generalize sp[k].2 = y at *
      have hwr : w.heap.size + 1 < wr.heap.size := by omega
      obtain ⟨wo, rfl⟩ : ∃ wo, wo = wr := ⟨_, rfl⟩
      go_wp2
      go_loopw [20] (fun i wq => ∃ (j : Nat), j ≤ sq.length ∧ i = .int .i64 j ∧ Below (wo.heap.size + 1) (wo.alloc (.cells #[.int .i64 x, .int .i64 y] 61)) wq ∧ Hid (ms = (sq.drop j).any fun t => !decide (mn y t.2 < mx x t.1))) (fun i _ => sq.length - (intOf i).toNat)
      case atStart => exact ⟨0, by omega, rfl, Below.refl _ _, HM⟩
      case round =>
        obtain ⟨j, hj, rfl, hbel2, hall2⟩ := hrel
        have hz2 := hbel2.size
        simp at hz2
        have HB := hid ((hbel.alloc hz _).trans (hbel2.mono (by omega)))
        have hbw := HB.out
        have hbox2 := (hbel2.cell (p := ⟨w.heap.size + 1, 0, none⟩) (by show w.heap.size + 1 < _; omega)).trans ((World.cell?_alloc_past _ _ _ hwr).trans hbox)
        have hx := hbel2.cell (p := ⟨wo.heap.size, 0, none⟩) (by show wo.heap.size < _; omega)
        have hy := hbel2.cell (p := ⟨wo.heap.size, 1, none⟩) (by show wo.heap.size < _; omega)
        simp at hx hy
        by_cases hjl : j < sq.length
        · obtain ⟨c0, c1⟩ := HC'.out j hjl
          have hd0 := (hbw.cell (p := ⟨h, j * 2, none⟩) hh2).trans c0
          have hd1 := (hbw.cell (p := ⟨h, j * 2 + 1, none⟩) hh2).trans c1
          have HY2 := hid (anyS_yes (f := fun t => !decide (mn y t.2 < mx x t.1)) sq j hjl)
          have HN2 := hid (anyS_no (f := fun t => !decide (mn y t.2 < mx x t.1)) sq j hjl)
          generalize sq[j].1 = p at *
          generalize sq[j].2 = q at *
          have hox : wo.heap.size < wr.heap.size := by omega
          clear c0 c1 hbox
          go_wp2_with fail
          refine (overlap_any _ _ _ _ _).mono ?_
          rintro e w3 ⟨rfl, hb3⟩
          have hz3 := hb3.size
          simp at hz3
          have HBi := hid ((hbel2.alloc (by omega) _).trans (hb3.mono (by simp; omega)))
          have HBx := hid ((hbw.alloc (by omega) _).trans (hb3.mono (by simp; omega)))
          clear hb3
          generalize hmx : mx x p = lo at *
          generalize hmn : mn y q = hi at *
          clear hmx hmn
          go_wp2_with fail
          refine (isEmpty_any _ _ _).mono ?_
          rintro e w4 ⟨rfl, hb4⟩
          have HBi4 := hid ((HBi.out.alloc (by omega) _).trans (hb4.mono (by simp; omega)))
          have HBx4 := hid ((HBx.out.alloc (by omega) _).trans (hb4.mono (by simp; omega)))
          clear hb4
          by_cases hem : hi < lo
          · have HF : Hid (ms = (sq.drop (j + 1)).any fun t => !decide (mn y t.2 < mx x t.1)) := by unfold Hid; rw [hall2.out, HN2.out (by simp [hem])]
            have hd : decide (hi < lo) = true := by simp [hem]
            go_wp2
            go_roundw
            case rel => exact ⟨j + 1, by omega, by go_num, HBi4.out, HF⟩
            case measure => simp [intOf]; omega
          · have HF : Hid (meetP sp sq = true) := by unfold Hid; rw [hall.out, HY.out (by rw [hall2.out, HY2.out (by simp [hem])])]
            have hd : decide (hi < lo) = false := by simp [hem]
            go_wp2
            go_ret
            exact ⟨ret_bool (by rw [HF.out]), HBx4.out⟩
        · have HF : Hid (meetP sp sq = (sp.drop (k + 1)).any (meetS sq)) := by unfold Hid; rw [hall.out, HN.out (by rw [hall2.out, anyS_end sq j hjl])]
          have hwz2 : w.heap.size + 2 ≤ wr.heap.size := by omega
          clear hx hy hbox hall
          go_wp2
          go_roundw
          case rel => exact ⟨k + 1, by omega, by go_num, HB.out, hwz2, hbox2, HF⟩
          case measure => simp [intOf]; omega
    · have HF : Hid (meetP sp sq = false) := by unfold Hid; rw [hall.out, anyS_end sp k hlt]
      go_wp2
      go_ret
      exact ⟨ret_bool (by rw [HF.out]), hbel⟩

/-- Meet of the program: its answer and its error. -/
def meetProg (r s : Tx) : Bool × Int := match rangeP r with
  | none => (false, 1)
  | some sp => match rangeP s with
    | none => (false, 1)
    | some sq => (meetP sp sq, 0)
theorem meetProg1 {r s : Tx} (h : rangeP r = none) : meetProg r s = (false, 1) := by simp [meetProg, h]
theorem meetProg2 {r s : Tx} {sp : List (Int × Int)} (h : rangeP r = some sp) (h' : rangeP s = none) : meetProg r s = (false, 1) := by simp [meetProg, h, h']
theorem meetProg3 {r s : Tx} {sp sq : List (Int × Int)} (h : rangeP r = some sp) (h' : rangeP s = some sq) : meetProg r s = (meetP sp sq, 0) := by simp [meetProg, h, h']

set_option maxHeartbeats 1000000 in
theorem pmeet_any (r s : ByteArray) (w : World) :
    Calls Tryd.prog 12 #[.string r, .string s] w fun e w' => e = .returned (.tuple #[.bool (meetProg (tx r) (tx s)).1, .int .i64 (meetProg (tx r) (tx s)).2]) ∧ Below w.heap.size w w' := by
  have HR := hid (fun w => rparse_any r w)
  have HV := hid (fun w => rparse_any s w)
  rcases hr : rangeP (tx r) with _ | sp
  · rw [meetProg1 hr]
    rw [hr] at HR
    clear hr
    go_enter Tryd.func12, Tryd.ntmps12
    go_wp2_with fail
    refine (HR.out _).mono ?_
    rintro e w1 ⟨xa, xn, xc, rfl, hb1, hsp⟩
    simp only [rok, Option.isSome_none]
    have hz1 := hb1.size
    clear hsp
    go_wp2
    go_ret2
    exact ⟨rfl, hb1.alloc hz1 _⟩
  · have hlen := rangeP_len hr
    have hne : sp ≠ [] := List.length_pos_iff.1 hlen.1
    rw [hr] at HR
    rcases hv : rangeP (tx s) with _ | sq
    · rw [meetProg2 hr hv]
      rw [hv] at HV
      clear hr hv
      go_enter Tryd.func12, Tryd.ntmps12
      go_wp2_with fail
      refine (HR.out _).mono ?_
      rintro e w1 ⟨xa, xn, xc, rfl, hb1, hsp⟩
      simp only [rok, Option.isSome_some]
      have hz1 := hb1.size
      clear hsp
      go_wp2_with fail
      refine (HV.out _).mono ?_
      rintro e w2 ⟨ya, yn, yc, rfl, hb2, hsq⟩
      simp only [rok, Option.isSome_none]
      have hz2 := hb2.size
      simp at hz2
      clear hsq
      have HB := hid ((hb1.alloc hz1 _).trans (hb2.mono (by simp; omega)))
      clear hb1 hb2
      go_wp2
      go_ret2
      exact ⟨rfl, HB.out.alloc (by omega) _⟩
    · have hlen' := rangeP_len hv
      have hne' : sq ≠ [] := List.length_pos_iff.1 hlen'.1
      rw [meetProg3 hr hv]
      rw [hv] at HV
      clear hr hv
      go_enter Tryd.func12, Tryd.ntmps12
      go_wp2_with fail
      refine (HR.out _).mono ?_
      rintro e w1 ⟨xa, xn, xc, rfl, hb1, hsp⟩
      simp only [rok, Option.isSome_some]
      have hz1 := hb1.size
      have HSP := hid (hsp sp rfl)
      clear hsp
      go_wp2_with fail
      refine (HV.out _).mono ?_
      rintro e w2 ⟨ya, yn, yc, rfl, hb2, hsq⟩
      simp only [rok, Option.isSome_some]
      have HSQ := hid (hsq sq rfl)
      clear hsq
      have HSP2 := hid (SpanRow.below (SpanRow.below HSP.out ((Below.refl _ _).alloc (Nat.le_refl _) _)) hb2)
      have HB := hid ((hb1.alloc hz1 _).trans (hb2.mono (by simp; omega)) : Below w.heap.size w w2)
      obtain ⟨hcc, hff⟩ := bcell hb2
      have hz2 := hb2.size
      simp at hcc hz2
      have hb0 := hcc w1.heap.size 0 (by omega)
      simp at hb0
      have h12 : w1.heap.size < w2.heap.size := by omega
      clear hb2 hff hcc
      go_wp2_with fail
      refine (rmeet_any _ _ sp sq _ _ _ (SpanRow.below HSP2.out ((Below.refl _ _).alloc (Nat.le_refl _) _)) hne (by omega) (SpanRow.below HSQ.out ((Below.refl _ _).alloc (Nat.le_refl _) _)) hne' (by omega)).mono ?_
      rintro e w3 ⟨rfl, hb3⟩
      have HB3 := hid ((HB.out.alloc (by omega) _).trans (hb3.mono (by simp; omega)))
      clear hb3
      go_wp2
      go_ret2
      exact ⟨rfl, HB3.out⟩

end Hst
end Go.Proofs.YtkcgbikgblkpjaaDoor
