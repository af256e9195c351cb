/- Vers, Leafb, Leafc, Cond, Alt -/
import Derived.Test.YtecocheolbkneaaDoorW02
import Derived.Test.YtecocheolbkneaaDoorW01
namespace Go.Proofs.YtecocheolbkneaaDoor
open Go.RowKit
namespace Hst
set_option maxRecDepth 100000

theorem splitL_piece (n : Int) : ∀ (l : Tx) (p : Tx), p ∈ splitL n l → p.length ≤ l.length
  | [], p, h => by simp [splitL] at h; subst h; simp
  | b :: r, p, h => by
    simp only [splitL] at h
    split at h
    · simp at h
      rcases h with rfl | h
      · simp
      · have := splitL_piece n r p h; simp; omega
    · have ih := splitL_piece n r
      rcases hs : splitL n r with _ | ⟨q, qs⟩
      · exact absurd hs (splitL_ne n r)
      · rw [hs] at h ih
        simp at h
        rcases h with rfl | h
        · have := ih q (by simp); simp; omega
        · have := ih p (by simp [h]); simp; omega
theorem piece_size (n : Int) (s : ByteArray) (j : Nat) (hj : j < (splitL n (tx s)).length) : (bs (splitL n (tx s))[j]).size ≤ s.size := by
  rw [bs_size, ← tx_length]
  exact splitL_piece n _ _ (List.getElem_mem hj)

theorem versionP_long (s : ByteArray) (h : 8 < s.size) : versionP (tx s) = none := by
  unfold versionP; rw [if_pos (by rw [tx_length]; exact h)]
theorem versionP_not (s : ByteArray) (h : ¬ (splitL 46 (tx s)).length = 3) : versionP (tx s) = none := by
  unfold versionP
  rw [if_pos h]
  split <;> rfl
theorem versionP_three (s : ByteArray) (h : s.size ≤ 8) (h3 : (splitL 46 (tx s)).length = 3) : versionP (tx s) = verGo 0 (splitL 46 (tx s)) := by
  unfold versionP; rw [if_neg (by rw [tx_length]; omega), if_neg (by omega)]
theorem vg_yes (d : List Tx) (k : Nat) (acc : Int) (hk : k < d.length) (h : oks (partP d[k]) = true) : verGo acc (d.drop k) = verGo (acc * 100 + ov (partP d[k])) (d.drop (k + 1)) := by
  rw [List.drop_eq_getElem_cons hk]
  rcases hp : partP d[k] with _ | n
  · rw [hp] at h; simp [oks] at h
  · simp [verGo, hp, ov]
theorem vg_no (d : List Tx) (k : Nat) (acc : Int) (hk : k < d.length) (h : oks (partP d[k]) = false) : verGo acc (d.drop k) = none := by
  rw [List.drop_eq_getElem_cons hk]
  rcases hp : partP d[k] with _ | n
  · simp [verGo, hp]
  · rw [hp] at h; simp [oks] at h
theorem vg_end (d : List Tx) (k : Nat) (acc : Int) (hk : ¬ k < d.length) : verGo acc (d.drop k) = some acc := by
  rw [List.drop_of_length_le (by omega)]; rfl

set_option maxHeartbeats 1000000 in
theorem vparse_any (s : ByteArray) (w : World) :
    Calls Tryd.prog 40 #[.string s] w fun e w' => e = .returned (.tuple #[.int .i64 (ov (versionP (tx s))), .bool (oks (versionP (tx s)))]) ∧ Below w.heap.size w w' := by
  by_cases h8 : s.size ≤ 8
  · go_enter Tryd.func40, Tryd.ntmps40
    go_wp2_with fail
    refine (psplit_any s 46 _ (by omega)).mono ?_
    rintro e w1 ⟨v, rfl, hrow, hb1⟩
    obtain ⟨g, cap, rfl, hg1, hg2, hcell⟩ := hrow.form (splitL_ne _ _)
    by_cases h3 : (splitL 46 (tx s)).length = 3
    · have HP : Hid (versionP (tx s) = verGo 0 (splitL 46 (tx s))) := versionP_three s h8 h3
      have hps : ∀ j (hj : j < (splitL 46 (tx s)).length), (bs (splitL 46 (tx s))[j]).size ≤ 100 := fun j hj => by have := piece_size 46 s j hj; omega
      generalize splitL 46 (tx s) = d at *
      have b3 : ((d.length : Int) != 3) = false := by simp; omega
      have HC := hid hcell; have HS := hid hps; have H3 := hid h3
      clear hcell hps hrow h3
      go_wp2
      go_loop [5, 20] (fun p i => ∃ (k : Nat) (acc : Int), k ≤ d.length ∧ 0 ≤ acc ∧ acc ≤ 999999 ∧ p = .int .i64 acc ∧ i = .int .i64 k ∧ Hid ((k = 0 → acc = 0) ∧ (k ≤ 1 → acc ≤ 99) ∧ (k ≤ 2 → acc ≤ 9999)) ∧ Hid (versionP (tx s) = verGo acc (d.drop k))) (fun _ i => d.length - (intOf i).toNat)
      case atStart => exact ⟨0, 0, by omega, by omega, by omega, rfl, rfl, ⟨fun _ => rfl, fun _ => by omega, fun _ => by omega⟩, by unfold Hid; rw [HP.out]; rfl⟩
      case round =>
        obtain ⟨k, acc, hk, ha0, ha1, rfl, rfl, hbd, hall⟩ := hrel
        have hd3 : d.length ≤ 3 := by have := H3.out; omega
        by_cases hlt : k < d.length
        · have hc := HC.out k hlt
          have hq := HS.out k hlt
          have ha2 : acc ≤ 9999 := hbd.out.2.2 (by omega)
          by_cases hok : oks (partP d[k]) = true
          · have HF : Hid (versionP (tx s) = verGo (acc * 100 + ov (partP d[k])) (d.drop (k + 1))) := by unfold Hid; rw [hall.out, vg_yes d k acc hlt hok]
            have hb := ov_partP_bd d[k]
            have hh := parsePart_any (bs d[k]) w1 hq
            rw [tx_bs] at hh
            rw [hok] at hh
            generalize ov (partP d[k]) = n at *
            generalize bs d[k] = q at *
            obtain ⟨hb0, hb9⟩ := hb
            have HBD : Hid ((k + 1 = 0 → acc * 100 + n = 0) ∧ (k + 1 ≤ 1 → acc * 100 + n ≤ 99) ∧ (k + 1 ≤ 2 → acc * 100 + n ≤ 9999)) := by
              have h := hbd.out
              refine ⟨fun h => by omega, fun h1 => ?_, fun h2 => ?_⟩
              · have := h.1 (by omega); omega
              · have := h.2.1 (by omega); omega
            have HH := hid hh
            clear hok hh hq
            go_wp2_with (go_at_call 70; refine (HH.out).mono ?_; rintro e w' ⟨rfl, rfl⟩)
            go_round
            case rel => exact ⟨k + 1, _, by omega, by omega, by omega, rfl, by go_num, HBD, HF⟩
            case measure => simp [intOf]; omega
          · have hok : oks (partP d[k]) = false := by simpa using hok
            have HF : Hid (versionP (tx s) = none) := by unfold Hid; rw [hall.out, vg_no d k acc hlt hok]
            have hh := parsePart_any (bs d[k]) w1 hq
            rw [tx_bs] at hh
            rw [hok] at hh
            generalize ov (partP d[k]) = n at *
            generalize bs d[k] = q at *
            have HH := hid hh
            clear hok hh hq
            go_wp2_with (go_at_call 70; refine (HH.out).mono ?_; rintro e w' ⟨rfl, rfl⟩)
            go_ret2
            exact ⟨ret_int_bool (by rw [HF.out]; rfl) (by rw [HF.out]; rfl), hb1⟩
        · have HF : Hid (versionP (tx s) = some acc) := by unfold Hid; rw [hall.out, vg_end d k acc hlt]
          go_wp2
          go_ret2
          exact ⟨ret_int_bool (by rw [HF.out]; rfl) (by rw [HF.out]; rfl), hb1⟩
    · have HF : Hid (versionP (tx s) = none) := versionP_not s h3
      generalize splitL 46 (tx s) = d at *
      have b3 : ((d.length : Int) != 3) = true := by simp; omega
      clear hcell hrow h3
      go_wp2
      go_ret2
      exact ⟨ret_int_bool (by rw [HF.out]; rfl) (by rw [HF.out]; rfl), hb1⟩
  · have HF : Hid (versionP (tx s) = none) := versionP_long s (by omega)
    go_enter Tryd.func40, Tryd.ntmps40
    go_wp2
    go_ret2
    exact ⟨ret_int_bool (by rw [HF.out]; rfl) (by rw [HF.out]; rfl), Below.refl _ _⟩


/-! ### hoistref.Version -/
theorem partR_bd (l : Tx) : -1 ≤ partR l ∧ partR l ≤ 99 := by
  unfold partR
  split
  · omega
  · rename_i h
    match l, h with
    | [], h => simp at h
    | [a], _ =>
      simp only [partGoR]
      split
      · rename_i hd; simp [dig] at hd; omega
      · omega
    | [a, b], _ =>
      simp only [partGoR]
      split
      · rename_i hd
        simp [dig] at hd
        split
        · rename_i hd'; simp [dig] at hd'; omega
        · omega
      · omega
    | _ :: _ :: _ :: _, h => simp at h
theorem versionR_long (s : ByteArray) (h : 8 < s.size) : versionR (tx s) = (⟨0, 0, 0⟩, false) := by
  unfold versionR; rw [if_pos (by rw [tx_length]; exact h)]
theorem versionR_not (s : ByteArray) (h : ¬ (splitL 46 (tx s)).length = 3) : versionR (tx s) = (⟨0, 0, 0⟩, false) := by
  unfold versionR
  rw [if_pos h]
  split <;> rfl
theorem three_of (d : List Tx) (h : d.length = 3) : ∃ x y z, d = [x, y, z] := by
  match d, h with
  | [x, y, z], _ => exact ⟨x, y, z, rfl⟩
theorem versionR_three (s : ByteArray) (h : s.size ≤ 8) {x y z : Tx} (h3 : splitL 46 (tx s) = [x, y, z]) : versionR (tx s) =
    (⟨partR x, partR y, partR z⟩, decide (0 ≤ partR x) && decide (0 ≤ partR y) && decide (0 ≤ partR z)) := by
  unfold versionR; rw [if_neg (by rw [tx_length]; omega), h3, if_neg (by simp)]
  simp
/-- A version's numbers and whether it is one, as a value. -/
abbrev verRV (r : V3 × Bool) : Value := .tuple #[verV r.1.a r.1.b r.1.c, .bool r.2]

set_option maxHeartbeats 1000000 in
theorem version_any (s : ByteArray) (w : World) :
    Calls Tryd.prog 65 #[.string s] w fun e w' => e = .returned (verRV (versionR (tx s))) ∧ Below w.heap.size w w' := by
  by_cases h8 : s.size ≤ 8
  · by_cases h3 : (splitL 46 (tx s)).length = 3
    · obtain ⟨x, y, z, hd⟩ := three_of _ h3
      have HP := versionR_three s h8 hd
      have hps : ∀ p ∈ splitL 46 (tx s), (bs p).size ≤ 100 := fun p hp => by have := splitL_piece 46 _ p hp; rw [bs_size]; rw [tx_length] at this; omega
      have HS := hid (rsplit_any s 46 (w.alloc (.cells #[.int .i64 0, .int .i64 0, .int .i64 0] 74)) (by omega))
      rw [hd] at HS hps
      rw [HP]
      clear HP h3 hd
      have P0 := hid (fun w => part_any (bs x) w (hps x (by simp)))
      have P1 := hid (fun w => part_any (bs y) w (hps y (by simp)))
      have P2 := hid (fun w => part_any (bs z) w (hps z (by simp)))
      rw [tx_bs] at P0 P1 P2
      clear hps
      go_enter Tryd.func65, Tryd.ntmps65
      go_wp2_with fail
      refine HS.out.mono ?_
      rintro e w1 ⟨v, rfl, hrow, hb1⟩
      obtain ⟨g, cap, rfl, hg1, hg2, hcell⟩ := hrow.form (by simp)
      have c0 := hcell 0 (by simp)
      have c1 := hcell 1 (by simp)
      have c2 := hcell 2 (by simp)
      simp only [List.getElem_cons_zero, List.getElem_cons_succ] at c0 c1 c2
      clear hcell hrow HS
      have hbx := partR_bd x; have hby := partR_bd y; have hbz := partR_bd z
      generalize hA : partR x = a at *
      generalize hB : partR y = b at *
      generalize hC : partR z = c at *
      have HA := hid hA; have HB' := hid hB; have HC := hid hC
      clear hA hB hC
      generalize bs x = q0 at *
      generalize bs y = q1 at *
      generalize bs z = q2 at *
      obtain ⟨hcc, hff⟩ := bcell hb1
      have hz1 : w.heap.size < w1.heap.size := by have := hb1.size; simp at this; omega
      have hB : Below w.heap.size w w1 := ((Below.refl _ _).alloc (Nat.le_refl _) _).trans (hb1.mono (by simp))
      have HB := hid hB
      clear hb1 hB
      by_cases ka : 0 ≤ a
      all_goals by_cases kb : 0 ≤ b
      all_goals by_cases kc : 0 ≤ c
      all_goals
        go_wp2_with fail
        refine (P0.out _).mono ?_
        rintro e w' ⟨rfl, rfl⟩
        go_wp2_with fail
        refine (P1.out _).mono ?_
        rintro e w' ⟨rfl, rfl⟩
        go_wp2_with fail
        refine (P2.out _).mono ?_
        rintro e w' ⟨rfl, rfl⟩
        go_wp2
        refine bodyPost_ret (v := .tuple #[verV a b c, .bool _]) (by simp [results, Tryd.results65, go_sem, hcc]; rfl) rfl ⟨?_, ?_⟩
        · rw [HA.out, HB'.out, HC.out]; simp [ka, kb, kc]
        · exact ((HB.out.setCell (Nat.le_refl _) _).setCell (Nat.le_refl _) _).setCell (Nat.le_refl _) _
    · rw [versionR_not s h3]
      have HS := hid (rsplit_any s 46 (w.alloc (.cells #[.int .i64 0, .int .i64 0, .int .i64 0] 74)) (by omega))
      go_enter Tryd.func65, Tryd.ntmps65
      go_wp2_with fail
      refine HS.out.mono ?_
      rintro e w1 ⟨v, rfl, hrow, hb1⟩
      obtain ⟨g, cap, rfl, hg1, hg2, hcell⟩ := hrow.form (splitL_ne _ _)
      have b3 : (((splitL 46 (tx s)).length : Int) != 3) = true := by simp; omega
      generalize splitL 46 (tx s) = d at *
      clear hcell hrow HS h3
      obtain ⟨hcc, hff⟩ := bcell hb1
      have HB := hid (((Below.refl _ _).alloc (Nat.le_refl _) _).trans (hb1.mono (by simp)) : Below w.heap.size w w1)
      clear hb1
      go_wp2
      refine bodyPost_ret (v := .tuple #[verV 0 0 0, .bool false]) (by simp [results, Tryd.results65, go_sem, hcc]) rfl ⟨rfl, ?_⟩
      exact ((HB.out.setCell (Nat.le_refl _) _).setCell (Nat.le_refl _) _).setCell (Nat.le_refl _) _
  · rw [versionR_long s (by omega)]
    go_enter Tryd.func65, Tryd.ntmps65
    go_wp2
    exact bodyPost_ret (v := .tuple #[verV 0 0 0, .bool false]) (by simp [results, Tryd.results65, go_sem]) rfl ⟨rfl, (Below.refl _ _).alloc (Nat.le_refl _) _⟩

end Hst
end Go.Proofs.YtecocheolbkneaaDoor
namespace Go.Proofs.YtecocheolbkneaaDoor
open Go.RowKit
namespace Hst
set_option maxRecDepth 100000

set_option maxHeartbeats 1000000 in
theorem overlap_any (a b c d : Int) (w : World) :
    Calls Tryd.prog 71 #[spanV a b, spanV c d] w fun e w' => e = .returned (spanV (mx a c) (mn b d)) ∧ Below w.heap.size w w' := by
  unfold mx mn
  by_cases h1 : a < c
  all_goals by_cases h2 : d < b
  all_goals
    first | rw [if_pos h1] | rw [if_neg h1]
    first | rw [if_pos h2] | rw [if_neg h2]
    go_enter Tryd.func71, Tryd.ntmps71
    go_wp2
    refine bodyPost_ret (v := _) (by simp [results, Tryd.results71, go_sem]) rfl ⟨rfl, ?_⟩
    exact ((((Below.refl _ _).alloc (Nat.le_refl _) _).alloc (by simp) _).alloc (by simp; omega) _).alloc (by simp; omega) _

set_option maxHeartbeats 1000000 in
theorem below_any (a b c x y z : Int) (w : World) :
    Calls Tryd.prog 37 #[verV a b c, verV x y z] w fun e w' => e = .returned (.bool (belowB a b c x y z)) ∧ Below w.heap.size w w' := by
  unfold belowB
  by_cases h1 : a = x
  · have b1 : (a != x) = false := by simp [h1]
    by_cases h2 : b = y
    · have b2 : (b != y) = false := by simp [h2]
      rw [if_neg (by simp [h1]), if_neg (by simp [h2])]
      clear h1 h2
      go_enter Tryd.func37, Tryd.ntmps37
      go_wp2
      go_ret
      exact ⟨rfl, ((Below.refl _ _).alloc (Nat.le_refl _) _).alloc (by simp) _⟩
    · have b2 : (b != y) = true := by simp [h2]
      rw [if_neg (by simp [h1]), if_pos h2]
      clear h1 h2
      go_enter Tryd.func37, Tryd.ntmps37
      go_wp2
      go_ret
      exact ⟨rfl, ((Below.refl _ _).alloc (Nat.le_refl _) _).alloc (by simp) _⟩
  · have b1 : (a != x) = true := by simp [h1]
    rw [if_pos h1]
    clear h1
    go_enter Tryd.func37, Tryd.ntmps37
    go_wp2
    go_ret
    exact ⟨rfl, ((Below.refl _ _).alloc (Nat.le_refl _) _).alloc (by simp) _⟩


set_option maxHeartbeats 2000000 in
theorem spanOf_any (s : ByteArray) (v : Int) (w : World) (h0 : 0 ≤ v) (h1 : v ≤ 999999) :
    Calls Tryd.prog 93 #[.string s, .int .i64 v] w fun e w' => e = .returned (.tuple #[spanV (slo (spanOfP (tx s) v)) (shi (spanOfP (tx s) v)), .bool (sok (spanOfP (tx s) v))]) ∧ Below w.heap.size w w' := by
  by_cases c1 : tx s = [61]
  · have e : spanOfP (tx s) v = some (v, v) := by simp [spanOfP, c1]
    have b1 := str_eq s _ c1
    rw [e]
    clear e c1
    go_enter Tryd.func93, Tryd.ntmps93
    go_wp2
    exact bodyPost_ret (v := .tuple #[spanV (v) (v), .bool true]) (by simp [results, Tryd.results93, go_sem]) rfl ⟨rfl, (Below.refl _ _).alloc (Nat.le_refl _) _⟩
  have b1 := str_ne s _ c1
  by_cases c2 : tx s = [62]
  · have e : spanOfP (tx s) v = some (v + 1, 999999) := by simp [spanOfP, c2]
    have b2 := str_eq s _ c2
    rw [e]
    clear e c1 c2
    go_enter Tryd.func93, Tryd.ntmps93
    go_wp2
    exact bodyPost_ret (v := .tuple #[spanV (v + 1) (999999), .bool true]) (by simp [results, Tryd.results93, go_sem]) rfl ⟨rfl, (Below.refl _ _).alloc (Nat.le_refl _) _⟩
  have b2 := str_ne s _ c2
  by_cases c3 : tx s = [62, 61]
  · have e : spanOfP (tx s) v = some (v, 999999) := by simp [spanOfP, c3]
    have b3 := str_eq s _ c3
    rw [e]
    clear e c1 c2 c3
    go_enter Tryd.func93, Tryd.ntmps93
    go_wp2
    exact bodyPost_ret (v := .tuple #[spanV (v) (999999), .bool true]) (by simp [results, Tryd.results93, go_sem]) rfl ⟨rfl, (Below.refl _ _).alloc (Nat.le_refl _) _⟩
  have b3 := str_ne s _ c3
  by_cases c4 : tx s = [60]
  · have e : spanOfP (tx s) v = some (0, v - 1) := by simp [spanOfP, c4]
    have b4 := str_eq s _ c4
    rw [e]
    clear e c1 c2 c3 c4
    go_enter Tryd.func93, Tryd.ntmps93
    go_wp2
    exact bodyPost_ret (v := .tuple #[spanV (0) (v - 1), .bool true]) (by simp [results, Tryd.results93, go_sem]) rfl ⟨rfl, (Below.refl _ _).alloc (Nat.le_refl _) _⟩
  have b4 := str_ne s _ c4
  by_cases c5 : tx s = [60, 61]
  · have e : spanOfP (tx s) v = some (0, v) := by simp [spanOfP, c5]
    have b5 := str_eq s _ c5
    rw [e]
    clear e c1 c2 c3 c4 c5
    go_enter Tryd.func93, Tryd.ntmps93
    go_wp2
    exact bodyPost_ret (v := .tuple #[spanV (0) (v), .bool true]) (by simp [results, Tryd.results93, go_sem]) rfl ⟨rfl, (Below.refl _ _).alloc (Nat.le_refl _) _⟩
  have b5 := str_ne s _ c5
  by_cases c6 : tx s = [94]
  · have e : spanOfP (tx s) v = some (v, caretHi v) := by simp [spanOfP, c6]
    have b6 := str_eq s _ c6
    rw [e]
    clear e c1 c2 c3 c4 c5 c6
    go_enter Tryd.func93, Tryd.ntmps93
    go_wp2_with (go_at_call 105; refine (caret_any _ _ h0 h1).mono ?_; rintro e w' ⟨rfl, rfl⟩)
    exact bodyPost_ret (v := .tuple #[spanV (v) (caretHi v), .bool true]) (by simp [results, Tryd.results93, go_sem]) rfl ⟨rfl, (Below.refl _ _).alloc (Nat.le_refl _) _⟩
  have b6 := str_ne s _ c6
  by_cases c7 : tx s = [126]
  · have e : spanOfP (tx s) v = some (v, v - v % 100 + 100 - 1) := by simp [spanOfP, c7]
    have b7 := str_eq s _ c7
    rw [e]
    clear e c1 c2 c3 c4 c5 c6 c7
    go_enter Tryd.func93, Tryd.ntmps93
    go_wp2_with (go_at_call 106; refine (hiSecond_any _ _ h0 h1).mono ?_; rintro e w' ⟨rfl, rfl⟩)
    exact bodyPost_ret (v := .tuple #[spanV (v) (v - v % 100 + 100 - 1), .bool true]) (by simp [results, Tryd.results93, go_sem]) rfl ⟨rfl, (Below.refl _ _).alloc (Nat.le_refl _) _⟩
  have b7 := str_ne s _ c7
  have e : spanOfP (tx s) v = none := by simp [spanOfP, c1, c2, c3, c4, c5, c6, c7]
  rw [e]
  clear e c1 c2 c3 c4 c5 c6 c7
  go_enter Tryd.func93, Tryd.ntmps93
  go_wp2
  exact bodyPost_ret (v := .tuple #[spanV 0 0, .bool false]) (by simp [results, Tryd.results93, go_sem]) rfl ⟨rfl, (Below.refl _ _).alloc (Nat.le_refl _) _⟩

end Hst
end Go.Proofs.YtecocheolbkneaaDoor
namespace Go.Proofs.YtecocheolbkneaaDoor
open Go.RowKit
namespace Hst
set_option maxRecDepth 100000


theorem sl_dig (s : ByteArray) (k : Nat) (h : k < s.size) (hd : dig s[k] = true) : signLen ((tx s).drop k) = 0 := by
  rw [tx_drop s k h]; simp [signLen, hd]
theorem sl_no (s : ByteArray) (k : Nat) (h : k < s.size) (hd : dig s[k] = false) : signLen ((tx s).drop k) = signLen ((tx s).drop (k + 1)) + 1 := by
  rw [tx_drop s k h]; simp [signLen, hd]
theorem sl_end (s : ByteArray) (k : Nat) (h : ¬ k < s.size) : signLen ((tx s).drop k) = 0 := by
  rw [List.drop_of_length_le (by rw [tx_length]; omega)]; rfl

set_option maxHeartbeats 400000 in
theorem signLength_any (s : ByteArray) (w : World) (hs : s.size ≤ 100) :
    Calls Tryd.prog 92 #[.string s] w fun e w' => e = .returned (.int .i64 (signLen (tx s))) ∧ w' = w := by
  go_enter Tryd.func92, Tryd.ntmps92
  go_wp2
  go_loop [3] (fun i => ∃ k : Nat, k ≤ s.size ∧ i = .int .i64 k ∧ Hid (signLen (tx s) = k + signLen ((tx s).drop k))) (fun i => s.size - (intOf i).toNat)
  case atStart => exact ⟨0, Nat.zero_le _, rfl, by unfold Hid; simp⟩
  case round =>
    obtain ⟨k, hk, rfl, hall⟩ := hrel
    by_cases hlt : k < s.size
    · by_cases h1 : 48 ≤ ((s[k]'hlt).toNat : Int)
      · by_cases h2 : ((s[k]'hlt).toNat : Int) ≤ 57
        · have HF : Hid (signLen (tx s) = k) := by have := hall.out; rw [sl_dig s k hlt (dig_yes h1 h2)] at this; exact this
          go_wp2
          go_ret
          exact ⟨ret_int (by rw [HF.out]), rfl⟩
        · have HF : Hid (signLen (tx s) = k + 1 + signLen ((tx s).drop (k + 1))) := by have := hall.out; rw [sl_no s k hlt (dig_no2 (by omega))] at this; unfold Hid; omega
          go_wp2
          go_round
          case rel => exact ⟨k + 1, by omega, by go_num, HF⟩
          case measure => simp [intOf]; omega
      · have HF : Hid (signLen (tx s) = k + 1 + signLen ((tx s).drop (k + 1))) := by have := hall.out; rw [sl_no s k hlt (dig_no1 (by omega))] at this; unfold Hid; omega
        go_wp2
        go_round
        case rel => exact ⟨k + 1, by omega, by go_num, HF⟩
        case measure => simp [intOf]; omega
    · have HF : Hid (signLen (tx s) = k) := by have := hall.out; rw [sl_end s k hlt] at this; exact this
      have HE : Hid (k = s.size) := by unfold Hid; omega
      go_wp2
      go_ret
      exact ⟨ret_int (by rw [HF.out, HE.out]), rfl⟩

end Hst
end Go.Proofs.YtecocheolbkneaaDoor
namespace Go.Proofs.YtecocheolbkneaaDoor
open Go.RowKit
namespace Hst
set_option maxRecDepth 100000

theorem verGo_bd : ∀ (d : List Tx) (acc n : Int), 0 ≤ acc → verGo acc d = some n → 0 ≤ n ∧ n + 1 ≤ (acc + 1) * 100 ^ d.length
  | [], acc, n, h0, h => by simp [verGo] at h; subst h; simp; exact h0
  | p :: r, acc, n, h0, h => by
    simp only [verGo] at h
    rcases hp : partP p with _ | m
    · rw [hp] at h; simp at h
    · rw [hp] at h
      simp only at h
      have hb := partP_bd p m hp
      have ih := verGo_bd r (acc * 100 + m) n (by omega) h
      refine ⟨ih.1, Int.le_trans ih.2 ?_⟩
      have e : (acc + 1) * 100 ^ (p :: r).length = ((acc + 1) * 100) * 100 ^ r.length := by
        rw [List.length_cons, Int.pow_succ, Int.mul_assoc, Int.mul_comm (100 ^ r.length) 100]
      rw [e]
      apply Int.mul_le_mul_of_nonneg_right
      · omega
      · exact Int.pow_nonneg (by omega)
theorem versionP_bd (l : Tx) (n : Int) (h : versionP l = some n) : 0 ≤ n ∧ n ≤ 999999 := by
  unfold versionP at h
  split at h
  · simp at h
  · split at h
    · simp at h
    · rename_i h3
      have := verGo_bd _ 0 n (by omega) h
      rw [show (splitL 46 l).length = 3 from by omega] at this
      have e3 : (0 + 1 : Int) * 100 ^ 3 = 1000000 := by decide
      rw [e3] at this
      omega
theorem signLen_le : ∀ l : Tx, signLen l ≤ l.length
  | [] => by simp [signLen]
  | b :: r => by
    simp only [signLen]
    split
    · simp
    · have := signLen_le r; simp; omega

theorem condP_star (s : ByteArray) (h : tx s = [42]) : condP (tx s) = some (0, 999999) := by simp [condP, h]
theorem condP_none (s : ByteArray) (h : tx s ≠ [42]) (hv : versionP ((tx s).drop (signLen (tx s))) = none) : condP (tx s) = none := by
  simp [condP, h, hv]
theorem condP_some (s : ByteArray) (v : Int) (h : tx s ≠ [42]) (hv : versionP ((tx s).drop (signLen (tx s))) = some v) : condP (tx s) = spanOfP ((tx s).take (signLen (tx s))) v := by
  simp [condP, h, hv]

set_option maxHeartbeats 1000000 in
theorem pcond_any (s : ByteArray) (w : World) (hs : s.size ≤ 100) :
    Calls Tryd.prog 83 #[.string s] w fun e w' => e = .returned (.tuple #[spanV (slo (condP (tx s))) (shi (condP (tx s))), .bool (sok (condP (tx s)))]) ∧ Below w.heap.size w w' := by
  by_cases h42 : tx s = [42]
  · rw [condP_star s h42]
    have hb := str_eq s _ h42
    clear h42
    go_enter Tryd.func83, Tryd.ntmps83
    go_wp2_with fail
    refine (every_any _).mono ?_
    rintro e w1 ⟨rfl, hb1⟩
    obtain ⟨hcc, hff⟩ := bcell hb1
    have HB := hid (((Below.refl _ _).alloc (Nat.le_refl _) _).trans (hb1.mono (by simp)) : Below w.heap.size w w1)
    clear hb1
    go_wp2
    refine bodyPost_ret (v := .tuple #[spanV 0 999999, .bool true]) (by simp [results, Tryd.results83, go_sem, hcc]) rfl ⟨rfl, ?_⟩
    exact (HB.out.setCell (Nat.le_refl _) _).setCell (Nat.le_refl _) _
  · have hb := str_ne s _ h42
    have hk := signLen_le (tx s)
    rw [tx_length] at hk
    have HL := hid (fun w => signLength_any s w hs)
    have HV := hid (fun w => vparse_any (s.extract (signLen (tx s)) s.size) w)
    rw [ext_from, tx_bs, ← ext_from] at HV
    rcases hv : versionP ((tx s).drop (signLen (tx s))) with _ | v
    · rw [condP_none s h42 hv]
      rw [hv] at HV
      clear h42 hv
      generalize signLen (tx s) = k at *
      go_enter Tryd.func83, Tryd.ntmps83
      go_wp2_with fail
      refine (HL.out _).mono ?_
      rintro e w' ⟨rfl, rfl⟩
      go_wp2_with fail
      refine (HV.out _).mono ?_
      rintro e w1 ⟨rfl, hb1⟩
      obtain ⟨hcc, hff⟩ := bcell hb1
      have HB := hid (((Below.refl _ _).alloc (Nat.le_refl _) _).trans (hb1.mono (by simp)) : Below w.heap.size w w1)
      clear hb1
      simp only [oks, ov, Option.isSome_none, Option.getD_none]
      go_wp2
      refine bodyPost_ret (v := .tuple #[spanV 0 0, .bool false]) (by simp [results, Tryd.results83, go_sem, hcc]) rfl ⟨rfl, ?_⟩
      exact (HB.out.setCell (Nat.le_refl _) _).setCell (Nat.le_refl _) _
    · have hbd := versionP_bd _ _ hv
      rw [condP_some s v h42 hv]
      rw [hv] at HV
      have HO := hid (fun w => spanOf_any (s.extract 0 (signLen (tx s))) v w hbd.1 hbd.2)
      rw [ext_to, tx_bs, ← ext_to] at HO
      clear h42 hv
      generalize spanOfP ((tx s).take (signLen (tx s))) v = o at *
      generalize signLen (tx s) = k at *
      go_enter Tryd.func83, Tryd.ntmps83
      go_wp2_with fail
      refine (HL.out _).mono ?_
      rintro e w' ⟨rfl, rfl⟩
      go_wp2_with fail
      refine (HV.out _).mono ?_
      rintro e w1 ⟨rfl, hb1⟩
      obtain ⟨hcc, hff⟩ := bcell hb1
      have HB := hid (((Below.refl _ _).alloc (Nat.le_refl _) _).trans (hb1.mono (by simp)) : Below w.heap.size w w1)
      have hz1 : w.heap.size < w1.heap.size := by have := hb1.size; simp at this; omega
      clear hb1
      simp only [oks, ov, Option.isSome_some, Option.getD_some]
      go_wp2_with fail
      refine (HO.out _).mono ?_
      rintro e w2 ⟨rfl, hb2⟩
      obtain ⟨hcc2, hff2⟩ := bcell hb2
      have HB2 := hid (HB.out.trans (hb2.mono (by omega)) : Below w.heap.size w w2)
      clear hb2
      go_wp2
      refine bodyPost_ret (v := .tuple #[spanV (slo o) (shi o), .bool (sok o)]) (by simp [results, Tryd.results83, go_sem, hcc, hcc2, hz1]) rfl ⟨rfl, ?_⟩
      exact (HB2.out.setCell (Nat.le_refl _) _).setCell (Nat.le_refl _) _

end Hst
end Go.Proofs.YtecocheolbkneaaDoor
namespace Go.Proofs.YtecocheolbkneaaDoor
open Go.RowKit
namespace Hst
set_option maxRecDepth 100000

/-- The memory of parseAlternative in a round: R: the result's block; A: the block of 'all'; g: the pieces' row. -/
structure AltInv (w wr : World) (A g : Nat) (lo hi : Int) (d : List Tx) : Prop where
  bel : Below w.heap.size w wr
  rA : w.heap.size < A
  Ag : A < g
  gz : g < wr.heap.size
  c0 : wr.cell? ⟨A, 0, none⟩ = some (.int .i64 lo)
  c1 : wr.cell? ⟨A, 1, none⟩ = some (.int .i64 hi)
  f0 : wr.frozen? ⟨A, 0, none⟩ = false
  f1 : wr.frozen? ⟨A, 1, none⟩ = false
  r0 : wr.cell? ⟨w.heap.size, 0, none⟩ = some (.int .i64 0)
  r1 : wr.cell? ⟨w.heap.size, 1, none⟩ = some (.int .i64 0)
  s0 : wr.frozen? ⟨w.heap.size, 0, none⟩ = false
  s1 : wr.frozen? ⟨w.heap.size, 1, none⟩ = false
  row : ∀ (j : Nat) (hj : j < d.length), wr.cell? ⟨g, j, none⟩ = some (.string (bs d[j]))

theorem AltInv.step {w wr w2 : World} {A g : Nat} {lo hi : Int} {d : List Tx} (h : AltInv w wr A g lo hi d) (hb : Below wr.heap.size wr w2) : AltInv w w2 A g lo hi d := by
  have h1 := h.rA; have h2 := h.Ag; have h3 := h.gz
  obtain ⟨hc, hf⟩ := bcell hb
  refine ⟨h.bel.trans (hb.mono (by omega)), h1, h2, Nat.lt_of_lt_of_le h3 hb.size, ?_, ?_, ?_, ?_, ?_, ?_, ?_, ?_, ?_⟩
  · rw [hc _ _ (by omega)]; exact h.c0
  · rw [hc _ _ (by omega)]; exact h.c1
  · rw [hf _ _ (by omega)]; exact h.f0
  · rw [hf _ _ (by omega)]; exact h.f1
  · rw [hc _ _ (by omega)]; exact h.r0
  · rw [hc _ _ (by omega)]; exact h.r1
  · rw [hf _ _ (by omega)]; exact h.s0
  · rw [hf _ _ (by omega)]; exact h.s1
  · intro j hj; rw [hc _ _ (by omega)]; exact h.row j hj

theorem AltInv.store {w wr : World} {A g : Nat} {lo hi lo' hi' : Int} {d : List Tx} (h : AltInv w wr A g lo hi d) : AltInv w ((wr.setCell ⟨A, 0, none⟩ (.int .i64 lo')).setCell ⟨A, 1, none⟩ (.int .i64 hi')) A g lo' hi' d := by
  have h1 := h.rA; have h2 := h.Ag; have h3 := h.gz
  refine ⟨(h.bel.setCell (Nat.le_of_lt h1) _).setCell (Nat.le_of_lt h1) _, h1, h2, by simpa using h3, ?_, ?_, ?_, ?_, ?_, ?_, ?_, ?_, ?_⟩
  · simp [go_sem, h.c0]
  · simp [go_sem, h.c1]
  · simp [go_sem, h.f0]
  · simp [go_sem, h.f1]
  · simp [go_sem, h.r0]
  · simp [go_sem, h.r1]
  · simp [go_sem, h.s0]
  · simp [go_sem, h.s1]
  · intro j hj
    simp [go_sem, h.row j hj]

theorem ag_yes (d : List Tx) (k : Nat) (lo hi : Int) (hk : k < d.length) (h : sok (condP d[k]) = true) : altGo lo hi (d.drop k) = altGo (mx lo (slo (condP d[k]))) (mn hi (shi (condP d[k]))) (d.drop (k + 1)) := by
  rw [List.drop_eq_getElem_cons hk]
  rcases hp : condP d[k] with _ | n
  · rw [hp] at h; simp [sok] at h
  · simp [altGo, hp, slo, shi]
theorem ag_no (d : List Tx) (k : Nat) (lo hi : Int) (hk : k < d.length) (h : sok (condP d[k]) = false) : altGo lo hi (d.drop k) = none := by
  rw [List.drop_eq_getElem_cons hk]
  rcases hp : condP d[k] with _ | n
  · simp [altGo, hp]
  · rw [hp] at h; simp [sok] at h
theorem ag_end (d : List Tx) (k : Nat) (lo hi : Int) (hk : ¬ k < d.length) : altGo lo hi (d.drop k) = some (lo, hi) := by
  rw [List.drop_of_length_le (by omega)]; rfl

theorem alt_start {w w1 w2 : World} {g : Nat} {d : List Tx} (hb1 : Below (w.alloc (.cells #[.int .i64 0, .int .i64 0] 106)).heap.size (w.alloc (.cells #[.int .i64 0, .int .i64 0] 106)) w1)
    (hb2 : Below (w1.alloc (.cells #[.int .i64 0, .int .i64 999999] 106)).heap.size (w1.alloc (.cells #[.int .i64 0, .int .i64 999999] 106)) w2) (hg1 : w1.heap.size + 1 ≤ g) (hg2 : g < w2.heap.size)
    (hcell : ∀ (j : Nat) (hj : j < d.length), w2.cell? ⟨g, j, none⟩ = some (.string (bs d[j]))) : AltInv w w2 w1.heap.size g 0 999999 d := by
  have hz1 := hb1.size
  have hz2 := hb2.size
  obtain ⟨hc1, hf1⟩ := bcell hb1
  obtain ⟨hc2, hf2⟩ := bcell hb2
  simp at hz1 hz2 hc1 hf1 hc2 hf2
  have hB1 : Below w.heap.size w w1 := ((Below.refl _ _).alloc (Nat.le_refl _) _).trans (hb1.mono (by simp))
  refine ⟨hB1.trans (((Below.refl _ _).alloc (by omega) _).trans (hb2.mono (by simp; omega))), by omega, by omega, hg2, ?_, ?_, ?_, ?_, ?_, ?_, ?_, ?_, hcell⟩
  · rw [hc2 _ _ (by omega)]; simp
  · rw [hc2 _ _ (by omega)]; simp
  · rw [hf2 _ _ (by omega)]; simp
  · rw [hf2 _ _ (by omega)]; simp
  · rw [hc2 _ _ (by omega), World.cell?_alloc_past _ _ _ (by omega), hc1 _ _ (by omega)]; simp
  · rw [hc2 _ _ (by omega), World.cell?_alloc_past _ _ _ (by omega), hc1 _ _ (by omega)]; simp
  · rw [hf2 _ _ (by omega), World.frozen?_alloc_past _ _ _ (by omega), hf1 _ _ (by omega)]; simp
  · rw [hf2 _ _ (by omega), World.frozen?_alloc_past _ _ _ (by omega), hf1 _ _ (by omega)]; simp

set_option maxHeartbeats 1000000 in
theorem palt_any (s : ByteArray) (w : World) (hs : s.size ≤ 100) :
    Calls Tryd.prog 57 #[.string s] w fun e w' => e = .returned (.tuple #[spanV (slo (altP (tx s))) (shi (altP (tx s))), .bool (sok (altP (tx s)))]) ∧ Below w.heap.size w w' := by
  go_enter Tryd.func57, Tryd.ntmps57
  go_wp2_with fail
  refine (every_any _).mono ?_
  rintro e w1 ⟨rfl, hb1⟩
  go_wp2_with fail
  refine (psplit_any s 38 _ (by omega)).mono ?_
  rintro e w2 ⟨v, rfl, hrow, hb2⟩
  obtain ⟨g, cap, rfl, hg1, hg2, hcell⟩ := hrow.form (splitL_ne _ _)
  have hps : ∀ j (hj : j < (splitL 38 (tx s)).length), (bs (splitL 38 (tx s))[j]).size ≤ 100 := fun j hj => by have := piece_size 38 s j hj; omega
  have hlen := splitL_len 38 (tx s)
  have HP : Hid (altP (tx s) = altGo 0 999999 (splitL 38 (tx s))) := rfl
  rw [tx_length] at hlen
  generalize splitL 38 (tx s) = d at *
  have hz1 := hb1.size
  simp at hz1 hg1
  have INV := hid (alt_start hb1 hb2 hg1 hg2 hcell)
  have HC := hid hps
  clear hcell hps hrow hb1 hb2
  go_wp2
  go_loopw [13] (fun i wr => ∃ (k : Nat) (lo hi : Int), k ≤ d.length ∧ i = .int .i64 k ∧ AltInv w wr w1.heap.size g lo hi d ∧ Hid (altP (tx s) = altGo lo hi (d.drop k))) (fun i _ => d.length - (intOf i).toNat)
  case atStart => exact ⟨0, 0, 999999, by omega, rfl, INV.out, by unfold Hid; rw [HP.out]; rfl⟩
  case round =>
    obtain ⟨k, lo, hi, hk, rfl, hinv, hall⟩ := hrel
    clear INV HP
    obtain ⟨ebel, erA, eAg, egz, ec0, ec1, ef0, ef1, er0, er1, es0, es1, erow⟩ := id hinv
    have HI := hid hinv
    have HB := hid ebel
    have hAr : w1.heap.size < wr.heap.size := by omega
    have hRr : w.heap.size < wr.heap.size := by omega
    by_cases hlt : k < d.length
    · have hc := erow k hlt
      have hh := fun w => pcond_any (bs d[k]) w (HC.out k hlt)
      rw [tx_bs] at hh
      clear erow ebel hinv
      by_cases hok : sok (condP d[k]) = true
      · have HF : Hid (altP (tx s) = altGo (mx lo (slo (condP d[k]))) (mn hi (shi (condP d[k]))) (d.drop (k + 1))) := by unfold Hid; rw [hall.out, ag_yes d k lo hi hlt hok]
        rw [hok] at hh
        clear hall hok
        have HH := hid hh
        clear hh
        generalize condP d[k] = o at *
        generalize bs d[k] = q at *
        go_wp2_with fail
        refine (HH.out _).mono ?_
        rintro e w4 ⟨rfl, hb4⟩
        have HI4 := hid (HI.out.step hb4)
        obtain ⟨hcc4, hff4⟩ := bcell hb4
        have hz4 := hb4.size
        have hA4 : w1.heap.size < w4.heap.size := by omega
        have hR4 : w.heap.size < w4.heap.size := by omega
        clear hb4
        go_wp2_with fail
        refine (overlap_any _ _ _ _ _).mono ?_
        rintro e w5 ⟨rfl, hb5⟩
        have HI5 := hid ((HI4.out.step ((Below.refl _ _).alloc (Nat.le_refl _) _)).step hb5)
        obtain ⟨hcc5, hff5⟩ := bcell hb5
        have hz5 := hb5.size
        simp at hcc5 hff5 hz5
        have hA5 : w1.heap.size < w4.heap.size + 1 := by omega
        have hR5 : w.heap.size < w4.heap.size + 1 := by omega
        clear hb5
        go_wp2
        go_roundw
        case rel => exact ⟨k + 1, _, _, by omega, by go_num, HI5.out.store, HF⟩
        case measure => simp [intOf]; omega
      · have hok : sok (condP d[k]) = false := by simpa using hok
        have HF : Hid (altP (tx s) = none) := by unfold Hid; rw [hall.out, ag_no d k lo hi hlt hok]
        rw [hok] at hh
        clear hall hok
        have HH := hid hh
        clear hh
        generalize condP d[k] = o at *
        generalize bs d[k] = q at *
        go_wp2_with fail
        refine (HH.out _).mono ?_
        rintro e w4 ⟨rfl, hb4⟩
        have HI4 := hid (HI.out.step hb4)
        obtain ⟨hcc4, hff4⟩ := bcell hb4
        have hz4 := hb4.size
        have hA4 : w1.heap.size < w4.heap.size := by omega
        have hR4 : w.heap.size < w4.heap.size := by omega
        clear hb4
        go_wp2
        refine bodyPost_ret (v := .tuple #[spanV 0 0, .bool false]) (by simp [results, Tryd.results57, go_sem, *]) rfl ⟨by rw [HF.out]; rfl, ?_⟩
        exact Below.alloc ((HI4.out.bel.setCell (Nat.le_refl _) _).setCell (Nat.le_refl _) _) (by simp; omega) _
    · have HF : Hid (altP (tx s) = some (lo, hi)) := by unfold Hid; rw [hall.out, ag_end d k lo hi hlt]
      clear erow ebel hinv hall
      go_wp2
      refine bodyPost_ret (v := .tuple #[spanV lo hi, .bool true]) (by simp [results, Tryd.results57, go_sem, *]) rfl ⟨by rw [HF.out]; rfl, ?_⟩
      exact (HB.out.setCell (Nat.le_refl _) _).setCell (Nat.le_refl _) _

end Hst
end Go.Proofs.YtecocheolbkneaaDoor
