/- versions.Parse, hoistref.Version. -/
import Derived.Test.YtkcgbikgblkpjaaDoorSplit
import Derived.Test.YtkcgbikgblkpjaaDoorPartr
namespace Go.Proofs.YtkcgbikgblkpjaaDoor
open Go.RowKit
namespace Hst

theorem splitL_piece (n : Int) : ∀ (l : Tx) (p : Tx), p ∈ splitL n l → p.length ≤ l.length
  | [], p, h => by simp [splitL] at h; subst h; simp
  | b :: r, p, h => by
    simp only [splitL] at h
    split at h
    · simp at h
      rcases h with rfl | h
      · simp
      · have := splitL_piece n r p h; simp; omega
    · have ih := splitL_piece n r
      rcases hs : splitL n r with _ | ⟨q, qs⟩
      · exact absurd hs (splitL_ne n r)
      · rw [hs] at h ih
        simp at h
        rcases h with rfl | h
        · have := ih q (by simp); simp; omega
        · have := ih p (by simp [h]); simp; omega
theorem piece_size (n : Int) (s : ByteArray) (j : Nat) (hj : j < (splitL n (tx s)).length) : (bs (splitL n (tx s))[j]).size ≤ s.size := by
  rw [bs_size, ← tx_length]
  exact splitL_piece n _ _ (List.getElem_mem hj)

theorem versionP_long (s : ByteArray) (h : 8 < s.size) : versionP (tx s) = none := by
  unfold versionP; rw [if_pos (by rw [tx_length]; exact h)]
theorem versionP_not (s : ByteArray) (h : ¬ (splitL 46 (tx s)).length = 3) : versionP (tx s) = none := by
  unfold versionP
  rw [if_pos h]
  split <;> rfl
theorem versionP_three (s : ByteArray) (h : s.size ≤ 8) (h3 : (splitL 46 (tx s)).length = 3) : versionP (tx s) = verGo 0 (splitL 46 (tx s)) := by
  unfold versionP; rw [if_neg (by rw [tx_length]; omega), if_neg (by omega)]
theorem vg_yes (d : List Tx) (k : Nat) (acc : Int) (hk : k < d.length) (h : oks (partP d[k]) = true) : verGo acc (d.drop k) = verGo (acc * 100 + ov (partP d[k])) (d.drop (k + 1)) := by
  rw [List.drop_eq_getElem_cons hk]
  rcases hp : partP d[k] with _ | n
  · rw [hp] at h; simp [oks] at h
  · simp [verGo, hp, ov]
theorem vg_no (d : List Tx) (k : Nat) (acc : Int) (hk : k < d.length) (h : oks (partP d[k]) = false) : verGo acc (d.drop k) = none := by
  rw [List.drop_eq_getElem_cons hk]
  rcases hp : partP d[k] with _ | n
  · simp [verGo, hp]
  · rw [hp] at h; simp [oks] at h
theorem vg_end (d : List Tx) (k : Nat) (acc : Int) (hk : ¬ k < d.length) : verGo acc (d.drop k) = some acc := by
  rw [List.drop_of_length_le (by omega)]; rfl

set_option maxHeartbeats 1000000 in
theorem vparse_any (s : ByteArray) (w : World) :
    Calls Tryd.prog 24 #[.string s] w fun e w' => e = .returned (.tuple #[.int .i64 (ov (versionP (tx s))), .bool (oks (versionP (tx s)))]) ∧ Below w.heap.size w w' := by
  by_cases h8 : s.size ≤ 8
  · go_enter Tryd.func24, Tryd.ntmps24
    go_wp2_with fail
    refine (psplit_any s 46 _ (by omega)).mono ?_
    rintro e w1 ⟨v, rfl, hrow, hb1⟩
    obtain ⟨g, cap, rfl, hg1, hg2, hcell⟩ := hrow.form (splitL_ne _ _)
    by_cases h3 : (splitL 46 (tx s)).length = 3
    · have HP : Hid (versionP (tx s) = verGo 0 (splitL 46 (tx s))) := versionP_three s h8 h3
      have hps : ∀ j (hj : j < (splitL 46 (tx s)).length), (bs (splitL 46 (tx s))[j]).size ≤ 100 := fun j hj => by have := piece_size 46 s j hj; omega
      generalize splitL 46 (tx s) = d at *
      have b3 : ((d.length : Int) != 3) = false := by simp; omega
      have HC := hid hcell; have HS := hid hps; have H3 := hid h3
      clear hcell hps hrow h3
      go_wp2
      go_loop [5, 20] (fun p i => ∃ (k : Nat) (acc : Int), k ≤ d.length ∧ 0 ≤ acc ∧ acc ≤ 999999 ∧ p = .int .i64 acc ∧ i = .int .i64 k ∧ Hid ((k = 0 → acc = 0) ∧ (k ≤ 1 → acc ≤ 99) ∧ (k ≤ 2 → acc ≤ 9999)) ∧ Hid (versionP (tx s) = verGo acc (d.drop k))) (fun _ i => d.length - (intOf i).toNat)
      case atStart => exact ⟨0, 0, by omega, by omega, by omega, rfl, rfl, ⟨fun _ => rfl, fun _ => by omega, fun _ => by omega⟩, by unfold Hid; rw [HP.out]; rfl⟩
      case round =>
        obtain ⟨k, acc, hk, ha0, ha1, rfl, rfl, hbd, hall⟩ := hrel
        have hd3 : d.length ≤ 3 := by have := H3.out; omega
        by_cases hlt : k < d.length
        · have hc := HC.out k hlt
          have hq := HS.out k hlt
          have ha2 : acc ≤ 9999 := hbd.out.2.2 (by omega)
          by_cases hok : oks (partP d[k]) = true
          · have HF : Hid (versionP (tx s) = verGo (acc * 100 + ov (partP d[k])) (d.drop (k + 1))) := by unfold Hid; rw [hall.out, vg_yes d k acc hlt hok]
            have hb := ov_partP_bd d[k]
            have hh := parsePart_any (bs d[k]) w1 hq
            rw [tx_bs] at hh
            rw [hok] at hh
            generalize ov (partP d[k]) = n at *
            generalize bs d[k] = q at *
            obtain ⟨hb0, hb9⟩ := hb
            have HBD : Hid ((k + 1 = 0 → acc * 100 + n = 0) ∧ (k + 1 ≤ 1 → acc * 100 + n ≤ 99) ∧ (k + 1 ≤ 2 → acc * 100 + n ≤ 9999)) := by
              have h := hbd.out
              refine ⟨fun h => by omega, fun h1 => ?_, fun h2 => ?_⟩
              · have := h.1 (by omega); omega
              · have := h.2.1 (by omega); omega
            have HH := hid hh
            clear hok hh hq
            go_wp2_with (go_at_call 41; refine (HH.out).mono ?_; rintro e w' ⟨rfl, rfl⟩)
            go_round
            case rel => exact ⟨k + 1, _, by omega, by omega, by omega, rfl, by go_num, HBD, HF⟩
            case measure => simp [intOf]; omega
          · have hok : oks (partP d[k]) = false := by simpa using hok
            have HF : Hid (versionP (tx s) = none) := by unfold Hid; rw [hall.out, vg_no d k acc hlt hok]
            have hh := parsePart_any (bs d[k]) w1 hq
            rw [tx_bs] at hh
            rw [hok] at hh
            generalize ov (partP d[k]) = n at *
            generalize bs d[k] = q at *
            have HH := hid hh
            clear hok hh hq
            go_wp2_with (go_at_call 41; refine (HH.out).mono ?_; rintro e w' ⟨rfl, rfl⟩)
            go_ret2
            exact ⟨ret_int_bool (by rw [HF.out]; rfl) (by rw [HF.out]; rfl), hb1⟩
        · have HF : Hid (versionP (tx s) = some acc) := by unfold Hid; rw [hall.out, vg_end d k acc hlt]
          go_wp2
          go_ret2
          exact ⟨ret_int_bool (by rw [HF.out]; rfl) (by rw [HF.out]; rfl), hb1⟩
    · have HF : Hid (versionP (tx s) = none) := versionP_not s h3
      generalize splitL 46 (tx s) = d at *
      have b3 : ((d.length : Int) != 3) = true := by simp; omega
      clear hcell hrow h3
      go_wp2
      go_ret2
      exact ⟨ret_int_bool (by rw [HF.out]; rfl) (by rw [HF.out]; rfl), hb1⟩
  · have HF : Hid (versionP (tx s) = none) := versionP_long s (by omega)
    go_enter Tryd.func24, Tryd.ntmps24
    go_wp2
    go_ret2
    exact ⟨ret_int_bool (by rw [HF.out]; rfl) (by rw [HF.out]; rfl), Below.refl _ _⟩


/-! ### hoistref.Version -/
theorem partR_bd (l : Tx) : -1 ≤ partR l ∧ partR l ≤ 99 := by
  unfold partR
  split
  · omega
  · rename_i h
    match l, h with
    | [], h => simp at h
    | [a], _ =>
      simp only [partGoR]
      split
      · rename_i hd; simp [dig] at hd; omega
      · omega
    | [a, b], _ =>
      simp only [partGoR]
      split
      · rename_i hd
        simp [dig] at hd
        split
        · rename_i hd'; simp [dig] at hd'; omega
        · omega
      · omega
    | _ :: _ :: _ :: _, h => simp at h
theorem versionR_long (s : ByteArray) (h : 8 < s.size) : versionR (tx s) = (⟨0, 0, 0⟩, false) := by
  unfold versionR; rw [if_pos (by rw [tx_length]; exact h)]
theorem versionR_not (s : ByteArray) (h : ¬ (splitL 46 (tx s)).length = 3) : versionR (tx s) = (⟨0, 0, 0⟩, false) := by
  unfold versionR
  rw [if_pos h]
  split <;> rfl
theorem three_of (d : List Tx) (h : d.length = 3) : ∃ x y z, d = [x, y, z] := by
  match d, h with
  | [x, y, z], _ => exact ⟨x, y, z, rfl⟩
theorem versionR_three (s : ByteArray) (h : s.size ≤ 8) {x y z : Tx} (h3 : splitL 46 (tx s) = [x, y, z]) : versionR (tx s) =
    (⟨partR x, partR y, partR z⟩, decide (0 ≤ partR x) && decide (0 ≤ partR y) && decide (0 ≤ partR z)) := by
  unfold versionR; rw [if_neg (by rw [tx_length]; omega), h3, if_neg (by simp)]
  simp
/-- A version's numbers and whether it is one, as a value. -/
abbrev verRV (r : V3 × Bool) : Value := .tuple #[verV r.1.a r.1.b r.1.c, .bool r.2]

set_option maxHeartbeats 1000000 in
theorem version_any (s : ByteArray) (w : World) :
    Calls Tryd.prog 36 #[.string s] w fun e w' => e = .returned (verRV (versionR (tx s))) ∧ Below w.heap.size w w' := by
  by_cases h8 : s.size ≤ 8
  · by_cases h3 : (splitL 46 (tx s)).length = 3
    · obtain ⟨x, y, z, hd⟩ := three_of _ h3
      have HP := versionR_three s h8 hd
      have hps : ∀ p ∈ splitL 46 (tx s), (bs p).size ≤ 100 := fun p hp => by have := splitL_piece 46 _ p hp; rw [bs_size]; rw [tx_length] at this; omega
      have HS := hid (rsplit_any s 46 (w.alloc (.cells #[.int .i64 0, .int .i64 0, .int .i64 0] 51)) (by omega))
      rw [hd] at HS hps
      rw [HP]
      clear HP h3 hd
      have P0 := hid (fun w => part_any (bs x) w (hps x (by simp)))
      have P1 := hid (fun w => part_any (bs y) w (hps y (by simp)))
      have P2 := hid (fun w => part_any (bs z) w (hps z (by simp)))
      rw [tx_bs] at P0 P1 P2
      clear hps
      go_enter Tryd.func36, Tryd.ntmps36
      go_wp2_with fail
      refine HS.out.mono ?_
      rintro e w1 ⟨v, rfl, hrow, hb1⟩
      obtain ⟨g, cap, rfl, hg1, hg2, hcell⟩ := hrow.form (by simp)
      have c0 := hcell 0 (by simp)
      have c1 := hcell 1 (by simp)
      have c2 := hcell 2 (by simp)
      simp only [List.getElem_cons_zero, List.getElem_cons_succ] at c0 c1 c2
      clear hcell hrow HS
      have hbx := partR_bd x; have hby := partR_bd y; have hbz := partR_bd z
      generalize hA : partR x = a at *
      generalize hB : partR y = b at *
      generalize hC : partR z = c at *
      have HA := hid hA; have HB' := hid hB; have HC := hid hC
      clear hA hB hC
      generalize bs x = q0 at *
      generalize bs y = q1 at *
      generalize bs z = q2 at *
      obtain ⟨hcc, hff⟩ := bcell hb1
      have hz1 : w.heap.size < w1.heap.size := by have := hb1.size; simp at this; omega
      have hB : Below w.heap.size w w1 := ((Below.refl _ _).alloc (Nat.le_refl _) _).trans (hb1.mono (by simp))
      have HB := hid hB
      clear hb1 hB
      by_cases ka : 0 ≤ a
      all_goals by_cases kb : 0 ≤ b
      all_goals by_cases kc : 0 ≤ c
      all_goals
        go_wp2_with fail
        refine (P0.out _).mono ?_
        rintro e w' ⟨rfl, rfl⟩
        go_wp2_with fail
        refine (P1.out _).mono ?_
        rintro e w' ⟨rfl, rfl⟩
        go_wp2_with fail
        refine (P2.out _).mono ?_
        rintro e w' ⟨rfl, rfl⟩
        go_wp2
        refine bodyPost_ret (v := .tuple #[verV a b c, .bool _]) (by simp [results, Tryd.results36, go_sem, hcc]; rfl) rfl ⟨?_, ?_⟩
        · rw [HA.out, HB'.out, HC.out]; simp [ka, kb, kc]
        · exact ((HB.out.setCell (Nat.le_refl _) _).setCell (Nat.le_refl _) _).setCell (Nat.le_refl _) _
    · rw [versionR_not s h3]
      have HS := hid (rsplit_any s 46 (w.alloc (.cells #[.int .i64 0, .int .i64 0, .int .i64 0] 51)) (by omega))
      go_enter Tryd.func36, Tryd.ntmps36
      go_wp2_with fail
      refine HS.out.mono ?_
      rintro e w1 ⟨v, rfl, hrow, hb1⟩
      obtain ⟨g, cap, rfl, hg1, hg2, hcell⟩ := hrow.form (splitL_ne _ _)
      have b3 : (((splitL 46 (tx s)).length : Int) != 3) = true := by simp; omega
      generalize splitL 46 (tx s) = d at *
      clear hcell hrow HS h3
      obtain ⟨hcc, hff⟩ := bcell hb1
      have HB := hid (((Below.refl _ _).alloc (Nat.le_refl _) _).trans (hb1.mono (by simp)) : Below w.heap.size w w1)
      clear hb1
      go_wp2
      refine bodyPost_ret (v := .tuple #[verV 0 0 0, .bool false]) (by simp [results, Tryd.results36, go_sem, hcc]) rfl ⟨rfl, ?_⟩
      exact ((HB.out.setCell (Nat.le_refl _) _).setCell (Nat.le_refl _) _).setCell (Nat.le_refl _) _
  · rw [versionR_long s (by omega)]
    go_enter Tryd.func36, Tryd.ntmps36
    go_wp2
    exact bodyPost_ret (v := .tuple #[verV 0 0 0, .bool false]) (by simp [results, Tryd.results36, go_sem]) rfl ⟨rfl, (Below.refl _ _).alloc (Nat.le_refl _) _⟩

end Hst
end Go.Proofs.YtkcgbikgblkpjaaDoor
