/- (ranges.Range).Lowest, hoist.Lowest. -/
import Derived.Test.YtkcgbikgblkpjaaDoorRfits
import Derived.Test.YtkcgbikgblkpjaaDoorDefsl
import Derived.Test.YtkcgbikgblkpjaaDoorItoa
namespace Go.Proofs.YtkcgbikgblkpjaaDoor
open Go.RowKit
namespace Hst

theorem lg_empty (sp : List (Int × Int)) (k : Nat) (lo : Int) (fd : Bool) (hk : k < sp.length) (h : sp[k].2 < sp[k].1) : lowGo lo fd (sp.drop k) = lowGo lo fd (sp.drop (k + 1)) := by
  rw [List.drop_eq_getElem_cons hk]; simp only [lowGo, if_pos h]
theorem lg_take (sp : List (Int × Int)) (k : Nat) (lo : Int) (fd : Bool) (hk : k < sp.length) (h : ¬ sp[k].2 < sp[k].1) (h2 : fd = false ∨ sp[k].1 < lo) : lowGo lo fd (sp.drop k) = lowGo sp[k].1 true (sp.drop (k + 1)) := by
  rw [List.drop_eq_getElem_cons hk]; simp only [lowGo, if_neg h, if_pos h2]
theorem lg_keep (sp : List (Int × Int)) (k : Nat) (lo : Int) (fd : Bool) (hk : k < sp.length) (h : ¬ sp[k].2 < sp[k].1) (h2 : ¬ (fd = false ∨ sp[k].1 < lo)) : lowGo lo fd (sp.drop k) = lowGo lo true (sp.drop (k + 1)) := by
  rw [List.drop_eq_getElem_cons hk]; simp only [lowGo, if_neg h, if_neg h2]
theorem lg_end (sp : List (Int × Int)) (k : Nat) (lo : Int) (fd : Bool) (hk : ¬ k < sp.length) : lowGo lo fd (sp.drop k) = (lo, fd) := by
  rw [List.drop_of_length_le (by omega)]; rfl

set_option maxHeartbeats 2000000 in
theorem rlow_any (v : Value) (sp : List (Int × Int)) (base : Nat) (w : World) (hrow : SpanRow w base v sp) (hne : sp ≠ []) (hl : sp.length ≤ 1000) :
    Calls Tryd.prog 15 #[.agg #[v]] w fun e w' => e = .returned (.tuple #[.int .i64 (lowGo 0 false sp).1, .bool (lowGo 0 false sp).2]) ∧ Below w.heap.size w w' := by
  obtain ⟨g, cap, rfl, hg1, hg2, hcell⟩ := hrow.form hne
  have HC := hid hcell
  clear hcell hrow
  go_enter Tryd.func15, Tryd.ntmps15
  go_wp2
  go_loopw [4, 5, 11] (fun l f i wr => ∃ (k : Nat) (lo : Int) (fd : Bool), k ≤ sp.length ∧ l = .int .i64 lo ∧ f = .bool fd ∧ i = .int .i64 k ∧ Below w.heap.size w wr ∧ Hid (lowGo 0 false sp = lowGo lo fd (sp.drop k))) (fun _ _ i _ => sp.length - (intOf i).toNat)
  case atStart => exact ⟨0, 0, false, by omega, rfl, rfl, rfl, (Below.refl _ _).alloc (Nat.le_refl _) _, rfl⟩
  case round =>
    obtain ⟨k, lo, fd, hk, rfl, rfl, rfl, hbel, hall⟩ := hrel
    have hz := hbel.size
    by_cases hlt : k < sp.length
    · obtain ⟨c0, c1⟩ := HC.out k hlt
      have hc0 := (hbel.cell (p := ⟨g, k * 2, none⟩) hg2).trans c0
      have hc1 := (hbel.cell (p := ⟨g, k * 2 + 1, none⟩) hg2).trans c1
      have HE := hid (lg_empty sp k lo fd hlt)
      have HT := hid (lg_take sp k lo fd hlt)
      have HK := hid (lg_keep sp k lo fd hlt)
      clear c0 c1
      generalize sp[k].1 = x at *
      generalize sp[k].2 = y at *
      go_wp2_with fail
      refine (isEmpty_any _ _ _).mono ?_
      rintro e w3 ⟨rfl, hb3⟩
      have hz3 := hb3.size
      simp at hz3
      have d0 := (bcell hb3).1 wr.heap.size 0 (by simp)
      simp at d0
      have HB := hid ((hbel.alloc hz _).trans (hb3.mono (by simp; omega)))
      clear hb3 hc0 hc1
      by_cases hem : y < x
      · have hd : decide (y < x) = true := by simp [hem]
        have HF : Hid (lowGo 0 false sp = lowGo lo fd (sp.drop (k + 1))) := by unfold Hid; rw [hall.out, HE.out hem]
        go_wp2
        go_roundw
        case rel => exact ⟨k + 1, lo, fd, by omega, rfl, rfl, by go_num, HB.out, HF⟩
        case measure => simp [intOf]; omega
      · have hd : decide (y < x) = false := by simp [hem]
        cases fd
        · have HF : Hid (lowGo 0 false sp = lowGo x true (sp.drop (k + 1))) := by unfold Hid; rw [hall.out, HT.out (by omega) (.inl rfl)]
          clear HE HT HK hall
          go_wp2
          go_roundw
          case rel => exact ⟨k + 1, x, true, by omega, rfl, rfl, by go_num, HB.out, HF⟩
          case measure => simp [intOf]; omega
        · by_cases hxl : x < lo
          · have HF : Hid (lowGo 0 false sp = lowGo x true (sp.drop (k + 1))) := by unfold Hid; rw [hall.out, HT.out (by omega) (.inr hxl)]
            clear HE HT HK hall
            go_wp2
            go_roundw
            case rel => exact ⟨k + 1, x, true, by omega, rfl, rfl, by go_num, HB.out, HF⟩
            case measure => simp [intOf]; omega
          · have HF : Hid (lowGo 0 false sp = lowGo lo true (sp.drop (k + 1))) := by unfold Hid; rw [hall.out, HK.out (by omega) (by simp; omega)]
            clear HE HT HK hall
            go_wp2
            go_roundw
            case rel => exact ⟨k + 1, lo, true, by omega, rfl, rfl, by go_num, HB.out, HF⟩
            case measure => simp [intOf]; omega
    · have HF : Hid (lowGo 0 false sp = (lo, fd)) := by unfold Hid; rw [hall.out, lg_end sp k lo fd hlt]
      go_wp2
      go_ret2
      exact ⟨ret_int_bool (by rw [HF.out]) (by rw [HF.out]), hbel⟩

/-- A version at a place, written. -/
def placeT (n : Int) : Tx := verT (n / 10000).toNat (n / 100 % 100).toNat (n % 100).toNat
/-- Lowest of the program: its answer and its error. -/
def lowProg (r : Tx) : Tx × Int := match rangeP r with
  | none => ([], 1)
  | some sp => if (lowGo 0 false sp).2 = true then (placeT (lowGo 0 false sp).1, 0) else ([], 3)
theorem lowProg1 {r : Tx} (h : rangeP r = none) : lowProg r = ([], 1) := by simp [lowProg, h]
theorem lowProg2 {r : Tx} {sp : List (Int × Int)} (h : rangeP r = some sp) (h' : (lowGo 0 false sp).2 = false) : lowProg r = ([], 3) := by simp [lowProg, h, h']
theorem lowProg3 {r : Tx} {sp : List (Int × Int)} (h : rangeP r = some sp) (h' : (lowGo 0 false sp).2 = true) : lowProg r = (placeT (lowGo 0 false sp).1, 0) := by simp [lowProg, h, h']
theorem low_bd {r : Tx} {sp : List (Int × Int)} (h : rangeP r = some sp) (h' : (lowGo 0 false sp).2 = true) : 0 ≤ (lowGo 0 false sp).1 ∧ (lowGo 0 false sp).1 ≤ 999999 := by
  obtain ⟨i1, _, _, _⟩ := lowGo_spec sp 0 false
  rcases i1 h' with e | ⟨s, hs, hle, e⟩
  · simp at e
  · have hlow := rangeP_low h hs
    obtain ⟨p, hp, hpe⟩ := hlow.2 (by omega)
    have := place_bd (pointsR_valid hp)
    omega
theorem ret_str_int {k : IntKind} {a b : ByteArray} {c d : Int} (h : a = b) (h' : c = d) : Ending.returned (.tuple #[.string a, .int k c]) = .returned (.tuple #[.string b, .int k d]) := by rw [h, h']

set_option maxHeartbeats 1000000 in
theorem plow_any (r : ByteArray) (w : World) :
    Calls Tryd.prog 6 #[.string r] w fun e w' => e = .returned (.tuple #[.string (bs (lowProg (tx r)).1), .int .i64 (lowProg (tx r)).2]) ∧ Below w.heap.size w w' := by
  have HR := hid (fun w => rparse_any r w)
  rcases hr : rangeP (tx r) with _ | sp
  · rw [lowProg1 hr]
    rw [hr] at HR
    clear hr
    go_enter Tryd.func6, Tryd.ntmps6
    go_wp2_with fail
    refine (HR.out _).mono ?_
    rintro e w1 ⟨xa, xn, xc, rfl, hb1, hsp⟩
    simp only [rok, Option.isSome_none]
    have hz1 := hb1.size
    clear hsp
    go_wp2
    go_ret2
    exact ⟨rfl, hb1.alloc hz1 _⟩
  · have hlen := rangeP_len hr
    have hne : sp ≠ [] := List.length_pos_iff.1 hlen.1
    rw [hr] at HR
    rcases hf : (lowGo 0 false sp).2 with _ | _
    · rw [lowProg2 hr hf]
      have HLO := hid (fun v base w hrow => rlow_any v sp base w hrow hne (by omega))
      rw [hf] at HLO
      generalize (lowGo 0 false sp).1 = lo at *
      clear hr hf
      go_enter Tryd.func6, Tryd.ntmps6
      go_wp2_with fail
      refine (HR.out _).mono ?_
      rintro e w1 ⟨xa, xn, xc, rfl, hb1, hsp⟩
      simp only [rok, Option.isSome_some]
      have hz1 := hb1.size
      have HSP := hid (SpanRow.below (hsp sp rfl) ((Below.refl _ _).alloc (Nat.le_refl _) (.cells #[.slice xa xn xc] 40)))
      have HB := hid (hb1.alloc hz1 (.cells #[.slice xa xn xc] 40))
      clear hsp hb1
      go_wp2_with fail
      refine (HLO.out _ _ _ HSP.out).mono ?_
      rintro e w2 ⟨rfl, hb2⟩
      have HB2 := hid (HB.out.trans (hb2.mono (by simp; omega)))
      clear hb2
      go_wp2
      go_ret2
      exact ⟨rfl, HB2.out⟩
    · rw [lowProg3 hr hf]
      have hbd := low_bd hr hf
      have HLO := hid (fun v base w hrow => rlow_any v sp base w hrow hne (by omega))
      rw [hf] at HLO
      generalize (lowGo 0 false sp).1 = lo at *
      have HT := hid (fun w => text_any lo w hbd.1 hbd.2)
      have HPT : Hid (placeT lo = verT (lo / 10000).toNat (lo / 100 % 100).toNat (lo % 100).toNat) := rfl
      rw [← HPT.out] at HT
      generalize placeT lo = q at *
      clear hr hf HPT
      go_enter Tryd.func6, Tryd.ntmps6
      go_wp2_with fail
      refine (HR.out _).mono ?_
      rintro e w1 ⟨xa, xn, xc, rfl, hb1, hsp⟩
      simp only [rok, Option.isSome_some]
      have hz1 := hb1.size
      have HSP := hid (SpanRow.below (hsp sp rfl) ((Below.refl _ _).alloc (Nat.le_refl _) (.cells #[.slice xa xn xc] 40)))
      have HB := hid (hb1.alloc hz1 (.cells #[.slice xa xn xc] 40))
      clear hsp hb1
      go_wp2_with fail
      refine (HLO.out _ _ _ HSP.out).mono ?_
      rintro e w2 ⟨rfl, hb2⟩
      have HB2 := hid (HB.out.trans (hb2.mono (by simp; omega)))
      clear hb2
      go_wp2_with fail
      refine (HT.out _).mono ?_
      rintro e w3 ⟨rfl, rfl⟩
      go_wp2
      go_ret2
      exact ⟨rfl, HB2.out⟩

end Hst
end Go.Proofs.YtkcgbikgblkpjaaDoor
