/- hoistref.Fit, hoistref.Fits. -/
import Derived.Test.YtkcgbikgblkpjaaDoorRrange
import Derived.Deep.DrawnRows
namespace Go.Proofs.YtkcgbikgblkpjaaDoor
open Go.RowKit
namespace Hst

theorem an_yes (f : Tx → Bool) (d : List Tx) (k : Nat) (hk : k < d.length) (h : f d[k] = true) : (d.drop k).any f = true := by
  rw [List.drop_eq_getElem_cons hk, List.any_cons, h, Bool.true_or]
theorem an_no (f : Tx → Bool) (d : List Tx) (k : Nat) (hk : k < d.length) (h : f d[k] = false) : (d.drop k).any f = (d.drop (k + 1)).any f := by
  rw [List.drop_eq_getElem_cons hk, List.any_cons, h, Bool.false_or]
theorem an_end (f : Tx → Bool) (d : List Tx) (k : Nat) (hk : ¬ k < d.length) : (d.drop k).any f = false := by
  rw [List.drop_of_length_le (by omega)]; rfl

/-- What is known of an alternative in the midst of its conditions. -/
def AltSt (alt bl : Bool) (m : List Tx) (v : V3) : Prop := (bl = true → alt = m.all (fun x => holdsR x v)) ∧ (bl = false → alt = false)

attribute [local go_sem ↓] Go.wp_at_zero Go.wp_at_succ

set_option maxHeartbeats 2000000 in
theorem fit_any (s : ByteArray) (a b c : Int) (w : World) (h60 : s.size ≤ 60) :
    Calls Tryd.prog 19 #[.string s, verV a b c] w fun e w' => e = .returned (.bool (fitR (tx s) ⟨a, b, c⟩)) ∧ Below w.heap.size w w' := by
  have HP : Hid (fitR (tx s) ⟨a, b, c⟩ = (splitL 124 (tx s)).any (fun x => altFitR x ⟨a, b, c⟩)) := rfl
  go_enter Tryd.func19, Tryd.ntmps19
  go_wp2_with fail
  refine (rsplit_any s 124 _ (by omega)).mono ?_
  rintro e w1 ⟨v, rfl, hrow, hb1⟩
  obtain ⟨g, cap, rfl, hg1, hg2, hcell⟩ := hrow.form (splitL_ne _ _)
  have HS := hid (piece_mem (n := 124) h60)
  have hlen := splitL_len 124 (tx s)
  rw [tx_length] at hlen
  generalize splitL 124 (tx s) = d at *
  have HC := hid hcell
  have hz1 := hb1.size
  simp at hz1
  have v0 := (bcell hb1).1 w.heap.size 0 (by simp)
  have v1 := (bcell hb1).1 w.heap.size 1 (by simp)
  have v2 := (bcell hb1).1 w.heap.size 2 (by simp)
  simp at v0 v1 v2
  have HB1 := hid (((Below.refl _ _).alloc (Nat.le_refl _) _).trans (hb1.mono (by simp)) : Below w.heap.size w w1)
  clear hcell hrow hb1
  go_wp2
  go_loopw [6] (fun i wr => ∃ (k : Nat), k ≤ d.length ∧ i = .int .i64 k ∧ Below w1.heap.size w1 wr ∧ Hid (fitR (tx s) ⟨a, b, c⟩ = (d.drop k).any (fun x => altFitR x ⟨a, b, c⟩))) (fun i _ => d.length - (intOf i).toNat)
  case atStart => exact ⟨0, by omega, rfl, Below.refl _ _, by unfold Hid; rw [HP.out]; rfl⟩
  case round =>
    obtain ⟨k, hk, rfl, hbel, hall⟩ := hrel
    clear HP
    have hz := hbel.size
    by_cases hlt : k < d.length
    · have hc := (hbel.cell (p := ⟨g, k, none⟩) hg2).trans (HC.out k hlt)
      have hps := HS.out k hlt
      have HA : Hid (altFitR d[k] ⟨a, b, c⟩ = (splitL 38 (tx (bs d[k]))).all (fun x => holdsR x ⟨a, b, c⟩)) := by unfold Hid; rw [tx_bs]; rfl
      have HY := hid (an_yes (fun x => altFitR x ⟨a, b, c⟩) d k hlt)
      have HN := hid (an_no (fun x => altFitR x ⟨a, b, c⟩) d k hlt)
      generalize altFitR d[k] ⟨a, b, c⟩ = alt at *
      generalize bs d[k] = q at *
      go_wp2_with fail
      refine (rsplit_any q 38 _ (by omega)).mono ?_
      rintro e w2 ⟨v, rfl, hrow, hb2⟩
      obtain ⟨g2, cap2, rfl, hg3, hg4, hcell2⟩ := hrow.form (splitL_ne _ _)
      have HS2 := hid (piece_mem (n := 38) hps)
      have hlen2 := splitL_len 38 (tx q)
      rw [tx_length] at hlen2
      generalize splitL 38 (tx q) = m at *
      have HC2 := hid hcell2
      have hz2 := hb2.size
      have HB2 := hid (hbel.trans (hb2.mono hz))
      have hB2 := HB2.out
      have u0 := (hB2.cell (p := ⟨w.heap.size, 0, none⟩) (by show w.heap.size < _; omega)).trans v0
      have u1 := (hB2.cell (p := ⟨w.heap.size, 1, none⟩) (by show w.heap.size < _; omega)).trans v1
      have u2 := (hB2.cell (p := ⟨w.heap.size, 2, none⟩) (by show w.heap.size < _; omega)).trans v2
      clear hcell2 hrow hc hB2 v0 v1 v2
      go_wp2
      go_loopw [8, 9] (fun al i wq => ∃ (j : Nat) (bl : Bool), j ≤ m.length ∧ al = .bool bl ∧ i = .int .i64 j ∧ Below w2.heap.size w2 wq ∧ AltSt alt bl (m.drop j) ⟨a, b, c⟩) (fun _ i _ => m.length - (intOf i).toNat)
      case atStart => exact ⟨0, true, by omega, rfl, rfl, Below.refl _ _, ⟨fun _ => by rw [HA.out]; rfl, fun h => by cases h⟩⟩
      case round =>
        obtain ⟨j, bl, hj, rfl, rfl, hbel2, hall2⟩ := hrel
        clear HA
        have hz4 := hbel2.size
        have HB := hid (HB2.out.trans (hbel2.mono (by omega)))
        have HBw := hid (HB1.out.trans (HB.out.mono (by omega)))
        cases bl
        · -- the alternative does not fit
          have HF : Hid (alt = false) := hall2.2 rfl
          have HF2 : Hid (fitR (tx s) ⟨a, b, c⟩ = (d.drop (k + 1)).any (fun x => altFitR x ⟨a, b, c⟩)) := by unfold Hid; rw [hall.out, HN.out HF.out]
          by_cases hjl : j < m.length
          all_goals
            go_wp2
            go_roundw
            case rel => exact ⟨k + 1, by omega, by go_num, HB.out, HF2⟩
            case measure => simp [intOf]; omega
        · by_cases hjl : j < m.length
          · have hc2 := (hbel2.cell (p := ⟨g2, j, none⟩) hg4).trans (HC2.out j hjl)
            have hh := fun w => holds_any (bs m[j]) a b c w
            rw [tx_bs] at hh
            have HH := hid hh
            have t0 := (hbel2.cell (p := ⟨w.heap.size, 0, none⟩) (by show w.heap.size < _; omega)).trans u0
            have t1 := (hbel2.cell (p := ⟨w.heap.size, 1, none⟩) (by show w.heap.size < _; omega)).trans u1
            have t2 := (hbel2.cell (p := ⟨w.heap.size, 2, none⟩) (by show w.heap.size < _; omega)).trans u2
            have HY2 := hid (al_yes (fun x => holdsR x ⟨a, b, c⟩) m j hjl)
            have HN2 := hid (al_no (fun x => holdsR x ⟨a, b, c⟩) m j hjl)
            generalize holdsR m[j] ⟨a, b, c⟩ = cnd at *
            generalize bs m[j] = q2 at *
            clear hh u0 u1 u2
            have HF : AltSt alt cnd (m.drop (j + 1)) ⟨a, b, c⟩ := ⟨fun h => by rw [hall2.1 rfl, HY2.out h], fun h => by rw [hall2.1 rfl, HN2.out h]⟩
            have hgq : g2 < wr.heap.size := by omega
            have hwq : w.heap.size < wr.heap.size := by omega
            have hj0 : (0 : Int) ≤ (j : Int) := by omega
            have hj1 : (j : Int) < (m.length : Int) := by omega
            go_wp2
            go_region_held3 (fun w' => w'.cell? ⟨g2, j, none⟩ = some (.string q2) ∧ w'.cell? ⟨w.heap.size, 0, none⟩ = some (.int .i64 a) ∧ w'.cell? ⟨w.heap.size, 1, none⟩ = some (.int .i64 b) ∧ w'.cell? ⟨w.heap.size, 2, none⟩ = some (.int .i64 c)) (go_keep)
              (first | (go_at_call 38; refine (HH.out _).mono ?_; rintro e w3 ⟨rfl, hb3⟩; have hz3 := (bcell hb3).1; simp at hz3))
            have HB3 := hid (hbel2.drew.trans (hb3.mono hz4))
            clear hb3
            go_wp2
            go_roundw
            case rel => exact ⟨j + 1, cnd, by omega, rfl, by go_num, HB3.out, HF⟩
            case measure => simp [intOf]; omega
          · have HF : Hid (fitR (tx s) ⟨a, b, c⟩ = true) := by unfold Hid; rw [hall.out, HY.out (by rw [hall2.1 rfl, al_end _ m j hjl])]
            go_wp2
            go_ret
            exact ⟨ret_bool (by rw [HF.out]), HBw.out⟩
    · have HF : Hid (fitR (tx s) ⟨a, b, c⟩ = false) := by unfold Hid; rw [hall.out, an_end _ d k hlt]
      have HB := hid (HB1.out.trans (hbel.mono (by omega)))
      go_wp2
      go_ret
      exact ⟨ret_bool (by rw [HF.out]), HB.out⟩

end Hst
end Go.Proofs.YtkcgbikgblkpjaaDoor
