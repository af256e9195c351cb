/- hoistref.Meet. -/
import Derived.Test.YtkcgbikgblkpjaaPoints
import Derived.Test.YtkcgbikgblkpjaaRfit
namespace Go.Proofs.Ytkcgbikgblkpjaa
open Go.RowKit
namespace Hst

theorem anyV_yes {f : V3 → Bool} (d : List V3) (k : Nat) (hk : k < d.length) (h : f d[k] = true) : (d.drop k).any f = true := by
  rw [List.drop_eq_getElem_cons hk, List.any_cons, h, Bool.true_or]
theorem anyV_no {f : V3 → Bool} (d : List V3) (k : Nat) (hk : k < d.length) (h : f d[k] = false) : (d.drop k).any f = (d.drop (k + 1)).any f := by
  rw [List.drop_eq_getElem_cons hk, List.any_cons, h, Bool.false_or]
theorem anyV_end {f : V3 → Bool} (d : List V3) (k : Nat) (hk : ¬ k < d.length) : (d.drop k).any f = false := by
  rw [List.drop_of_length_le (by omega)]; rfl
theorem vers_one (p : List V3) : ∀ u ∈ vers p, u.oneCell' = true := by
  intro u hu
  simp [vers] at hu
  obtain ⟨v, _, rfl | rfl | rfl⟩ := hu <;> rfl
theorem pointsR_ne (l : Tx) : pointsR l ≠ [] := by simp [pointsR]

theorem ver_cells {w : World} {base g n cap : Nat} {p : List V3} (h : w.ownsRow base 40 3 (.slice (some ⟨g, 0, none⟩) n cap) n (vers p)) (hn : p.length = n) : ∀ (j : Nat) (hj : j < p.length), w.cell? ⟨g, j * 3, none⟩ = some (.int .i64 p[j].a) ∧ w.cell? ⟨g, j * 3 + 1, none⟩ = some (.int .i64 p[j].b) ∧ w.cell? ⟨g, j * 3 + 2, none⟩ = some (.int .i64 p[j].c) := by
  intro j hj
  rw [World.ownsRow.cellAt h (j * 3) (by omega), World.ownsRow.cellAt h (j * 3 + 1) (by omega), World.ownsRow.cellAt h (j * 3 + 2) (by omega)]
  exact vers_at p j hj

/-- Meet of the document: its answer and its error. -/
def meetRef (r s : Tx) : Bool × Int := if isRangeR r = false ∨ isRangeR s = false then (false, 1) else (meetR r s, 0)
theorem meetRef1 {r s : Tx} (h : isRangeR r = false ∨ isRangeR s = false) : meetRef r s = (false, 1) := by simp [meetRef, h]
theorem meetRef2 {r s : Tx} (h : isRangeR r = true) (h' : isRangeR s = true) : meetRef r s = (meetR r s, 0) := by simp [meetRef, h, h']
theorem short_of {r : ByteArray} (hr : isRangeR (tx r) = true) : r.size ≤ 60 := by
  by_cases h : r.size ≤ 60
  · exact h
  · rw [isRangeR_long r h] at hr; simp at hr

set_option maxHeartbeats 2000000 in
theorem rmeetf_any (r s : ByteArray) (w : World) :
    Calls Try.prog 9 #[.string r, .string s] w fun e w' => e = .returned (.tuple #[.bool (meetRef (tx r) (tx s)).1, .int .i64 (meetRef (tx r) (tx s)).2]) ∧ Below w.heap.size w w' := by
  have HR := hid (fun w => isRange_any r w)
  have HV := hid (fun w => isRange_any s w)
  rcases hr : isRangeR (tx r) with _ | _
  · rw [meetRef1 (.inl hr)]
    rw [hr] at HR
    generalize isRangeR (tx s) = b2 at *
    clear hr
    go_enter Try.func9, Try.ntmps9
    go_wp2_with fail
    refine (HR.out _).mono ?_
    rintro e w1 ⟨rfl, hb1⟩
    go_wp2_with fail
    refine (HV.out _).mono ?_
    rintro e w2 ⟨rfl, hb2⟩
    have HB := hid (hb1.trans (hb2.mono hb1.size))
    clear hb1 hb2
    go_wp2
    go_ret2
    exact ⟨rfl, HB.out⟩
  · rcases hs : isRangeR (tx s) with _ | _
    · rw [meetRef1 (.inr hs)]
      rw [hr] at HR
      rw [hs] at HV
      clear hr hs
      go_enter Try.func9, Try.ntmps9
      go_wp2_with fail
      refine (HR.out _).mono ?_
      rintro e w1 ⟨rfl, hb1⟩
      go_wp2_with fail
      refine (HV.out _).mono ?_
      rintro e w2 ⟨rfl, hb2⟩
      have HB := hid (hb1.trans (hb2.mono hb1.size))
      clear hb1 hb2
      go_wp2
      go_ret2
      exact ⟨rfl, HB.out⟩
    · rw [meetRef2 hr hs]
      have h60 := short_of hr
      have h60' := short_of hs
      rw [hr] at HR
      rw [hs] at HV
      clear hr hs
      have HPR := hid (fun w => points_any r w h60)
      have HPS := hid (fun w => points_any s w h60')
      have HM : Hid (meetR (tx r) (tx s) = (pointsR (tx r) ++ pointsR (tx s)).any fun p => fitR (tx r) p && fitR (tx s) p) := rfl
      have hnr := pointsR_ne (tx r)
      have hns := pointsR_ne (tx s)
      obtain ⟨i0, hi, hz0, hz1, hz2⟩ := info_parts info_ver
      generalize pointsR (tx r) = P at *
      generalize pointsR (tx s) = Q at *
      go_enter Try.func9, Try.ntmps9
      go_wp2_with fail
      refine (HR.out _).mono ?_
      rintro e w1 ⟨rfl, hb1⟩
      go_wp2_with fail
      refine (HV.out _).mono ?_
      rintro e w2 ⟨rfl, hb2⟩
      have HB := hid (hb1.trans (hb2.mono hb1.size))
      clear hb1 hb2
      go_wp2_with fail
      refine (HPR.out _).mono ?_
      rintro e w3 ⟨vp, rfl, hvp, hlp, hb3⟩
      obtain ⟨gp, cp, rfl, hgp1, hgp2, hcp⟩ := hvp.form hnr
      clear hcp
      go_wp2_with fail
      refine (HPS.out _).mono ?_
      rintro e w4 ⟨vq, rfl, hvq, hlq, hb4⟩
      obtain ⟨gq, cq, rfl, hgq1, hgq2, hcq⟩ := hvq.form hns
      clear hcq
      have hz3 := hb3.size
      have hz4 := hb4.size
      have hvp4 : w4.ownsRow w2.heap.size 40 3 (.slice (some ⟨gp, 0, none⟩) P.length cp) P.length (vers P) := own_below hvp hb4
      have hB24 := hb3.trans (hb4.mono hz3)
      have hQ := List.length_pos_iff.2 hns
      have HNS := hid (hvq.cells (g := gq) rfl)
      have hql := vers_len Q
      have HQL := hid hql
      clear hql hb3 hb4 hvp hns hnr
      go_wp2_with (first | (at_builtin; refine wpList_append_lies _ rfl _ _ 45 rfl w2.heap.size 40 i0 (.agg #[.int .i64 0, .int .i64 0, .int .i64 0]) 3 24 Try.underlying45 hi hz0 hz1 hz2 rfl (by omega) _ _ _ rfl hvp4 ⟨gq, 0, none⟩ Q.length cq (vers Q) rfl HQL.out HNS.out (vers_one _) hQ (by unfold maxLen; omega) (by omega) (by omega) w4.heap.size rfl ?_; intro g5 c5 w5 hown5 hgrow hat hlt5))
      rw [vers_append] at hown5
      have hRL : (P ++ Q).length = P.length + Q.length := List.length_append
      generalize P ++ Q = R at *
      have HC := hid (ver_cells hown5 hRL)
      have hb5 := hB24.grown hgrow (by omega) (fun k hk => by have h' : some gp = some k := hk; simp at h'; omega)
      have HB5 := hid (HB.out.trans (hb5.mono HB.out.size))
      have HL := hid hRL
      clear hown5 hgrow hat hRL hvp4 hB24 hb5 HNS HQL hvq
      go_loopw [10] (fun i wr => ∃ (k : Nat), k ≤ P.length + Q.length ∧ i = .int .i64 k ∧ Below w5.heap.size w5 wr ∧ Hid (meetR (tx r) (tx s) = (R.drop k).any fun p => fitR (tx r) p && fitR (tx s) p)) (fun i _ => P.length + Q.length - (intOf i).toNat)
      case atStart => exact ⟨0, by omega, rfl, Below.refl _ _, HM⟩
      case round =>
        obtain ⟨k, hk, rfl, hbel, hall⟩ := hrel
        clear HM
        have hz := hbel.size
        have HBw := hid (HB5.out.trans (hbel.mono HB5.out.size))
        by_cases hlt : k < P.length + Q.length
        · have hkR : k < R.length := by have := HL.out; omega
          obtain ⟨c0, c1, c2⟩ := HC.out k hkR
          have d0 := (hbel.cell (p := ⟨g5, k * 3, none⟩) hlt5).trans c0
          have d1 := (hbel.cell (p := ⟨g5, k * 3 + 1, none⟩) hlt5).trans c1
          have d2 := (hbel.cell (p := ⟨g5, k * 3 + 2, none⟩) hlt5).trans c2
          have HY := hid (anyV_yes (f := fun p => fitR (tx r) p && fitR (tx s) p) R k hkR)
          have HN := hid (anyV_no (f := fun p => fitR (tx r) p && fitR (tx s) p) R k hkR)
          have HF1 := hid (fun w => fit_any r R[k].a R[k].b R[k].c w h60)
          have HF2 := hid (fun w => fit_any s R[k].a R[k].b R[k].c w h60')
          generalize R[k] = v at *
          obtain ⟨a, b, c⟩ := v
          simp only at d0 d1 d2
          generalize fitR (tx r) ⟨a, b, c⟩ = f1 at *
          generalize fitR (tx s) ⟨a, b, c⟩ = f2 at *
          have hg6 : g5 < wr.heap.size := by omega
          clear c0 c1 c2
          go_wp2_with fail
          refine (HF1.out _).mono ?_
          rintro e w6 ⟨rfl, hb6⟩
          have hz6 := hb6.size
          have e0 := (hb6.cell (p := ⟨g5, k * 3, none⟩) hg6).trans d0
          have e1 := (hb6.cell (p := ⟨g5, k * 3 + 1, none⟩) hg6).trans d1
          have e2 := (hb6.cell (p := ⟨g5, k * 3 + 2, none⟩) hg6).trans d2
          clear d0 d1 d2
          go_wp2_with fail
          refine (HF2.out _).mono ?_
          rintro e w7 ⟨rfl, hb7⟩
          have HB7 := hid (hb6.trans (hb7.mono hz6))
          have HBx := hid (HBw.out.trans (HB7.out.mono HBw.out.size))
          have HBr := hid (hbel.trans (HB7.out.mono hz))
          clear hb6 hb7 e0 e1 e2
          cases f1
          · have HF : Hid (meetR (tx r) (tx s) = (R.drop (k + 1)).any fun p => fitR (tx r) p && fitR (tx s) p) := by unfold Hid; rw [hall.out, HN.out rfl]
            clear hall HY HN
            go_wp2
            go_roundw
            case rel => exact ⟨k + 1, by omega, by go_num, HBr.out, HF⟩
            case measure => simp [intOf]; omega
          · cases f2
            · have HF : Hid (meetR (tx r) (tx s) = (R.drop (k + 1)).any fun p => fitR (tx r) p && fitR (tx s) p) := by unfold Hid; rw [hall.out, HN.out rfl]
              clear hall HY HN
              go_wp2
              go_roundw
              case rel => exact ⟨k + 1, by omega, by go_num, HBr.out, HF⟩
              case measure => simp [intOf]; omega
            · have HF : Hid (meetR (tx r) (tx s) = true) := by unfold Hid; rw [hall.out, HY.out rfl]
              clear hall HY HN
              go_wp2
              go_ret2
              exact ⟨ret_bool_int (by rw [HF.out]) rfl, HBx.out⟩
        · have HF : Hid (meetR (tx r) (tx s) = false) := by unfold Hid; rw [hall.out, anyV_end R k (by have := HL.out; omega)]
          go_wp2
          go_ret2
          exact ⟨ret_bool_int (by rw [HF.out]) rfl, HBw.out⟩

end Hst
end Go.Proofs.Ytkcgbikgblkpjaa
