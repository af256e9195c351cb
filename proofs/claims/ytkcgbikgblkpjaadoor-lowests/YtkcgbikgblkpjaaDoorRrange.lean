/- hoistref.IsRange, hoistref.Fit, hoistref.Fits. -/
import Derived.Test.YtkcgbikgblkpjaaDoorHolds
import Derived.Deep.RegionHeld3
import Derived.Deep.QuietTactic
namespace Go.Proofs.YtkcgbikgblkpjaaDoor
open Go.RowKit
namespace Hst

theorem al_yes (f : Tx → Bool) (d : List Tx) (k : Nat) (hk : k < d.length) (h : f d[k] = true) : (d.drop k).all f = (d.drop (k + 1)).all f := by
  rw [List.drop_eq_getElem_cons hk, List.all_cons, h, Bool.true_and]
theorem al_no (f : Tx → Bool) (d : List Tx) (k : Nat) (hk : k < d.length) (h : f d[k] = false) : (d.drop k).all f = false := by
  rw [List.drop_eq_getElem_cons hk, List.all_cons, h, Bool.false_and]
theorem al_end (f : Tx → Bool) (d : List Tx) (k : Nat) (hk : ¬ k < d.length) : (d.drop k).all f = true := by
  rw [List.drop_of_length_le (by omega)]; rfl
theorem piece_mem {n : Int} {s : ByteArray} {b : Nat} (hs : s.size ≤ b) : ∀ (j : Nat) (hj : j < (splitL n (tx s)).length), (bs (splitL n (tx s))[j]).size ≤ b := fun j hj => by
  have := piece_size n s j hj; omega

theorem isRangeR_long (s : ByteArray) (h : ¬ s.size ≤ 60) : isRangeR (tx s) = false := by
  unfold isRangeR; rw [tx_length]; simp; intro h'; omega
theorem isRangeR_short (s : ByteArray) (h : s.size ≤ 60) : isRangeR (tx s) = (splitL 124 (tx s)).all isAltR := by
  unfold isRangeR; rw [tx_length]; simp [h]

set_option maxHeartbeats 2000000 in
theorem isRange_any (s : ByteArray) (w : World) :
    Calls Tryd.prog 17 #[.string s] w fun e w' => e = .returned (.bool (isRangeR (tx s))) ∧ Below w.heap.size w w' := by
  by_cases h60 : s.size ≤ 60
  · have HP := hid (isRangeR_short s h60)
    go_enter Tryd.func17, Tryd.ntmps17
    go_wp2_with fail
    refine (rsplit_any s 124 _ (by omega)).mono ?_
    rintro e w1 ⟨v, rfl, hrow, hb1⟩
    obtain ⟨g, cap, rfl, hg1, hg2, hcell⟩ := hrow.form (splitL_ne _ _)
    have HS := hid (piece_mem (n := 124) h60)
    have hlen := splitL_len 124 (tx s)
    rw [tx_length] at hlen
    generalize splitL 124 (tx s) = d at *
    have HC := hid hcell
    clear hcell hrow
    go_wp2
    go_loopw [4] (fun i wr => ∃ (k : Nat), k ≤ d.length ∧ i = .int .i64 k ∧ Below w1.heap.size w1 wr ∧ Hid (isRangeR (tx s) = (d.drop k).all isAltR)) (fun i _ => d.length - (intOf i).toNat)
    case atStart => exact ⟨0, by omega, rfl, Below.refl _ _, by unfold Hid; rw [HP.out]; rfl⟩
    case round =>
      obtain ⟨k, hk, rfl, hbel, hall⟩ := hrel
      clear HP
      have hz := hbel.size
      have hz1 := hb1.size
      by_cases hlt : k < d.length
      · have hc := (hbel.cell (p := ⟨g, k, none⟩) hg2).trans (HC.out k hlt)
        have hps := HS.out k hlt
        have HA : Hid (isAltR d[k] = (splitL 38 (tx (bs d[k]))).all isCondR) := by unfold Hid; rw [tx_bs]; rfl
        have HY := hid (al_yes isAltR d k hlt)
        have HN := hid (al_no isAltR d k hlt)
        generalize isAltR d[k] = alt at *
        generalize bs d[k] = q at *
        go_wp2_with fail
        refine (rsplit_any q 38 _ (by omega)).mono ?_
        rintro e w2 ⟨v, rfl, hrow, hb2⟩
        obtain ⟨g2, cap2, rfl, hg3, hg4, hcell2⟩ := hrow.form (splitL_ne _ _)
        have HS2 := hid (piece_mem (n := 38) hps)
        have hlen2 := splitL_len 38 (tx q)
        rw [tx_length] at hlen2
        generalize splitL 38 (tx q) = m at *
        have HC2 := hid hcell2
        clear hcell2 hrow hc
        go_wp2
        go_loopw [6] (fun i wq => ∃ (j : Nat), j ≤ m.length ∧ i = .int .i64 j ∧ Below w2.heap.size w2 wq ∧ Hid (alt = (m.drop j).all isCondR)) (fun i _ => m.length - (intOf i).toNat)
        case atStart => exact ⟨0, by omega, rfl, Below.refl _ _, by unfold Hid; rw [HA.out]; rfl⟩
        case round =>
          obtain ⟨j, hj, rfl, hbel2, hall2⟩ := hrel
          clear HA
          have hz2 := hbel2.size
          have hz3 := hb2.size
          have HB := hid ((hbel.trans (hb2.mono hz)).trans (hbel2.mono (by omega)))
          have HBw := hid (hb1.trans (HB.out.mono hz1))
          by_cases hjl : j < m.length
          · have hc2 := (hbel2.cell (p := ⟨g2, j, none⟩) hg4).trans (HC2.out j hjl)
            have HH := hid (fun w => isCond_any (bs m[j]) w)
            rw [tx_bs] at HH
            have HY2 := hid (al_yes isCondR m j hjl)
            have HN2 := hid (al_no isCondR m j hjl)
            generalize isCondR m[j] = cnd at *
            generalize bs m[j] = q2 at *
            cases cnd
            · have HF : Hid (isRangeR (tx s) = false) := by unfold Hid; rw [hall.out, HN.out (by rw [hall2.out, HN2.out rfl])]
              go_wp2_with fail
              refine (HH.out _).mono ?_
              rintro e w3 ⟨rfl, hb3⟩
              have HB3 := hid (HBw.out.trans (hb3.mono (by omega)))
              clear hb3
              go_wp2
              go_ret
              exact ⟨ret_bool (by rw [HF.out]), HB3.out⟩
            · have HF : Hid (alt = (m.drop (j + 1)).all isCondR) := by unfold Hid; rw [hall2.out, HY2.out rfl]
              go_wp2_with fail
              refine (HH.out _).mono ?_
              rintro e w3 ⟨rfl, hb3⟩
              have HB3 := hid (hbel2.trans (hb3.mono hz2))
              clear hb3
              go_wp2
              go_roundw
              case rel => exact ⟨j + 1, by omega, by go_num, HB3.out, HF⟩
              case measure => simp [intOf]; omega
          · have HF : Hid (isRangeR (tx s) = (d.drop (k + 1)).all isAltR) := by unfold Hid; rw [hall.out, HY.out (by rw [hall2.out, al_end isCondR m j hjl])]
            clear hall
            go_wp2
            go_roundw
            case rel => exact ⟨k + 1, by omega, by go_num, HB.out, HF⟩
            case measure => simp [intOf]; omega
      · have HF : Hid (isRangeR (tx s) = true) := by unfold Hid; rw [hall.out, al_end isAltR d k hlt]
        have HB := hid (hb1.trans (hbel.mono hz1))
        go_wp2
        go_ret
        exact ⟨ret_bool (by rw [HF.out]), HB.out⟩
  · have HF := hid (isRangeR_long s h60)
    go_enter Tryd.func17, Tryd.ntmps17
    go_wp2
    go_ret
    exact ⟨ret_bool (by rw [HF.out]), Below.refl _ _⟩

end Hst
end Go.Proofs.YtkcgbikgblkpjaaDoor
