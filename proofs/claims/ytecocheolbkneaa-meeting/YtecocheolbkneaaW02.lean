/- Partr, Vers, Leafb, Leafc, Cond -/
import Derived.Test.YtecocheolbkneaaW01
import Derived.StillTactics
namespace Go.Proofs.Ytecocheolbkneaa
open Go.RowKit
namespace Hst
set_option maxRecDepth 100000

theorem pr_yes (s : ByteArray) (k : Nat) (acc : Int) (h : k < s.size) (hd : dig s[k] = true) :
    partGoR acc ((tx s).drop k) = partGoR (10 * acc + ((s[k].toNat : Int) - 48)) ((tx s).drop (k + 1)) := by
  rw [tx_drop s k h]; simp only [partGoR, hd, if_true]
theorem pr_no (s : ByteArray) (k : Nat) (acc : Int) (h : k < s.size) (hd : dig s[k] = false) : partGoR acc ((tx s).drop k) = -1 := by
  rw [tx_drop s k h]; simp [partGoR, hd]
theorem pr_end (s : ByteArray) (k : Nat) (acc : Int) (h : ¬ k < s.size) : partGoR acc ((tx s).drop k) = acc := by
  rw [List.drop_of_length_le (by rw [tx_length]; omega)]; rfl
theorem partR_short (s : ByteArray) (h : s.size < 1 ∨ 2 < s.size) : partR (tx s) = -1 := by
  unfold partR; rw [tx_length, if_pos (by omega)]
theorem partR_zero (s : ByteArray) (h : s.size = 2) (h1 : ((s[0]'(by omega)).toNat : Int) = 48) : partR (tx s) = -1 := by
  unfold partR; rw [tx_length, if_pos]
  refine .inr (.inr ⟨h, ?_⟩)
  rw [tx_head s (by omega), byte_eq (n := 48) (by omega) h1]; rfl
theorem partR_go (s : ByteArray) (hp : 0 < s.size) (h : s.size ≤ 2) (h1 : s.size = 2 → ¬ ((s[0]'(by omega)).toNat : Int) = 48) : partR (tx s) = partGoR 0 (tx s) := by
  unfold partR; rw [tx_length, if_neg]
  rintro (h2 | h2 | ⟨h2, h3⟩)
  · omega
  · omega
  · rw [tx_head s hp] at h3
    simp at h3
    exact h1 h2 (by rw [h3]; rfl)

set_option maxHeartbeats 1000000 in
theorem part_go (s : ByteArray) (w : World) (hp : 0 < s.size) (hs : s.size ≤ 2) (hz : ((s.size : Int) == 2) = false ∨ (((s.size : Int) == 2) = true ∧ (((s[0]'hp).toNat : Int) == 48) = false)) (hg : partR (tx s) = partGoR 0 (tx s)) :
    Calls Try.prog 23 #[.string s] w fun e w' => e = .returned (.int .i64 (partR (tx s))) ∧ w' = w := by
  have HG : Hid (partR (tx s) = partGoR 0 (tx s)) := hg
  clear hg
  rcases hz with hz | ⟨hz, hz1⟩
  all_goals
    go_enter Try.func23, Try.ntmps23
    go_wp2
    go_loop [3, 4] (fun p i => ∃ (k : Nat) (acc : Int), k ≤ s.size ∧ 0 ≤ acc ∧ acc ≤ 99 ∧ Hid ((k = 0 → acc = 0) ∧ (k ≤ 1 → acc ≤ 9)) ∧ p = .int .i64 acc ∧ i = .int .i64 k ∧ Hid (partR (tx s) = partGoR acc ((tx s).drop k))) (fun _ i => s.size - (intOf i).toNat)
    case atStart => exact ⟨0, 0, Nat.zero_le _, by omega, by omega, ⟨fun _ => rfl, fun _ => by omega⟩, rfl, rfl, by unfold Hid; rw [HG.out]; rfl⟩
    case round =>
      obtain ⟨k, acc, hk, ha0, ha2, ha1, rfl, rfl, hall⟩ := hrel
      by_cases hlt : k < s.size
      · have hb : ((s[k]'hlt).toNat : Int) < 256 := by have := (s[k]'hlt).toNat_lt; omega
        by_cases h1 : ((s[k]'hlt).toNat : Int) < 48
        · have HF : Hid (partR (tx s) = -1) := by unfold Hid; rw [hall.out, pr_no s k acc hlt (dig_no1 h1)]
          clear ha1
          go_wp2
          go_ret
          exact ⟨ret_int (by rw [HF.out]), rfl⟩
        · by_cases h2 : 57 < ((s[k]'hlt).toNat : Int)
          · have HF : Hid (partR (tx s) = -1) := by unfold Hid; rw [hall.out, pr_no s k acc hlt (dig_no2 h2)]
            clear ha1
            go_wp2
            go_ret
            exact ⟨ret_int (by rw [HF.out]), rfl⟩
          · have HF : Hid (partR (tx s) = partGoR (10 * acc + (((s[k]'hlt).toNat : Int) - 48)) ((tx s).drop (k + 1))) := by unfold Hid; rw [hall.out, pr_yes s k acc hlt (dig_yes (by omega) (by omega))]
            have HB : Hid ((k + 1 = 0 → 10 * acc + (((s[k]'hlt).toNat : Int) - 48) = 0) ∧ (k + 1 ≤ 1 → 10 * acc + (((s[k]'hlt).toNat : Int) - 48) ≤ 9)) := by
              have := ha1.out
              refine ⟨fun h => by omega, fun h => ?_⟩
              have := this.1 (by omega); omega
            have HC : 10 * acc + (((s[k]'hlt).toNat : Int) - 48) ≤ 99 := by have := ha1.out.2 (by omega); omega
            clear ha1
            go_wp2
            go_round
            case rel => exact ⟨k + 1, _, by omega, by omega, HC, HB, rfl, by go_num, HF⟩
            case measure => simp [intOf]; omega
      · have HF : Hid (partR (tx s) = acc) := by unfold Hid; rw [hall.out, pr_end s k acc hlt]
        clear ha1
        go_wp2
        go_ret
        exact ⟨ret_int (by rw [HF.out]), rfl⟩

set_option maxHeartbeats 1000000 in
theorem part_any (s : ByteArray) (w : World) (hs : s.size ≤ 100) :
    Calls Try.prog 23 #[.string s] w fun e w' => e = .returned (.int .i64 (partR (tx s))) ∧ w' = w := by
  by_cases hp : 0 < s.size
  · by_cases h1 : s.size ≤ 2
    · by_cases h2 : s.size = 2
      · by_cases h3 : ((s[0]'hp).toNat : Int) = 48
        · have HF : Hid (partR (tx s) = -1) := partR_zero s h2 h3
          have b2 : ((s.size : Int) == 2) = true := by simp [h2]
          have b3 : (((s[0]'hp).toNat : Int) == 48) = true := by simp [h3]
          clear h3 h2
          go_enter Try.func23, Try.ntmps23
          go_wp2
          go_ret
          exact ⟨ret_int (by rw [HF.out]), rfl⟩
        · exact part_go s w hp h1 (.inr ⟨by simp [h2], by simp [h3]⟩) (partR_go s hp h1 (fun _ => h3))
      · exact part_go s w hp h1 (.inl (by simp; omega)) (partR_go s hp h1 (fun h => absurd h h2))
    · have HF : Hid (partR (tx s) = -1) := partR_short s (by omega)
      go_enter Try.func23, Try.ntmps23
      go_wp2
      go_ret
      exact ⟨ret_int (by rw [HF.out]), rfl⟩
  · have HF : Hid (partR (tx s) = -1) := partR_short s (by omega)
    go_enter Try.func23, Try.ntmps23
    go_wp2
    go_ret
    exact ⟨ret_int (by rw [HF.out]), rfl⟩


/-! ### signed -/
theorem take2 (s : ByteArray) : tx (s.extract 0 2) = (tx s).take 2 := by rw [tx_extract]; simp
theorem sg_two (s : ByteArray) (h : (tx s).take 2 = [62, 61] ∨ (tx s).take 2 = [60, 61]) : signedR (tx s) = ((tx s).take 2, (tx s).drop 2) := by
  unfold signedR; rw [if_pos h]
theorem sg_one (s : ByteArray) (hp : 0 < s.size) (h : ¬ ((tx s).take 2 = [62, 61] ∨ (tx s).take 2 = [60, 61])) (hc : s[0] = 61 ∨ s[0] = 62 ∨ s[0] = 60 ∨ s[0] = 94 ∨ s[0] = 126) : signedR (tx s) = ((tx s).take 1, (tx s).drop 1) := by
  have e := tx_drop s 0 hp
  simp at e
  unfold signedR; rw [if_neg h, e]; simp only []; rw [if_pos hc]; simp
theorem sg_no (s : ByteArray) (h : ¬ ((tx s).take 2 = [62, 61] ∨ (tx s).take 2 = [60, 61])) (hc : ∀ hp : 0 < s.size, ¬ (s[0] = 61 ∨ s[0] = 62 ∨ s[0] = 60 ∨ s[0] = 94 ∨ s[0] = 126)) : signedR (tx s) = ([], tx s) := by
  by_cases hp : 0 < s.size
  · have e := tx_drop s 0 hp
    simp at e
    unfold signedR; rw [if_neg h, e]; simp only []; rw [if_neg (hc hp)]
  · have e : tx s = [] := List.length_eq_zero_iff.1 (by rw [tx_length]; omega)
    rw [e]; simp [signedR]
theorem byte_ne {b : UInt8} {n : Nat} (h : b ≠ n.toUInt8) (hn : n < 256) : ((b.toNat : Int) == (n : Int)) = false := by
  simp
  intro hh
  exact h (byte_eq hn (by exact_mod_cast hh))
theorem byte_is {b : UInt8} {n : Nat} (h : b = n.toUInt8) (hn : n < 256) : ((b.toNat : Int) == (n : Int)) = true := by
  subst h; simp; omega
theorem ext_to (s : ByteArray) (k : Nat) : s.extract 0 k = bs ((tx s).take k) := by rw [extract_bs]; simp
theorem ext_from (s : ByteArray) (k : Nat) : s.extract k s.size = bs ((tx s).drop k) := by
  rw [extract_bs, List.take_of_length_le (by simp [tx_length])]

set_option maxHeartbeats 1000000 in
theorem signed_two (s : ByteArray) (w : World) (hp : 2 ≤ s.size) (hc : ((s.extract 0 2).toList == [62, 61]) = true ∨ (((s.extract 0 2).toList == [62, 61]) = false ∧ ((s.extract 0 2).toList == [60, 61]) = true)) (hg : signedR (tx s) = ((tx s).take 2, (tx s).drop 2)) :
    Calls Try.prog 27 #[.string s] w fun e w' => e = .returned (.tuple #[.string (bs (signedR (tx s)).1), .string (bs (signedR (tx s)).2)]) ∧ Below w.heap.size w w' := by
  rw [hg, ← ext_to, ← ext_from]
  clear hg
  rcases hc with hc | ⟨hc, hc'⟩
  all_goals
    go_enter Try.func27, Try.ntmps27
    go_wp2
    go_region
    all_goals (try go_wp2)
    all_goals go_ret2
    all_goals exact ⟨rfl, (Below.refl _ _).drew⟩

/-- The tests on the first byte, as the walk asks them. -/
def SignTests (n : Int) : Prop :=
  (n == 61) = true ∨ ((n == 61) = false ∧ (n == 62) = true) ∨ ((n == 61) = false ∧ (n == 62) = false ∧ (n == 60) = true) ∨ ((n == 61) = false ∧ (n == 62) = false ∧ (n == 60) = false ∧ (n == 94) = true) ∨
  ((n == 61) = false ∧ (n == 62) = false ∧ (n == 60) = false ∧ (n == 94) = false ∧ (n == 126) = true)

set_option maxHeartbeats 4000000 in
theorem signed_one (s : ByteArray) (w : World) (hp : 0 < s.size) (h2 : s.size ≤ 1 ∨ (1 < s.size ∧ ((s.extract 0 2).toList == [62, 61]) = false ∧ ((s.extract 0 2).toList == [60, 61]) = false)) (hc : SignTests ((s[0]'hp).toNat : Int)) (hg : signedR (tx s) = ((tx s).take 1, (tx s).drop 1)) :
    Calls Try.prog 27 #[.string s] w fun e w' => e = .returned (.tuple #[.string (bs (signedR (tx s)).1), .string (bs (signedR (tx s)).2)]) ∧ Below w.heap.size w w' := by
  rw [hg, ← ext_to, ← ext_from]
  clear hg
  rcases hc with c1 | ⟨c1, c2⟩ | ⟨c1, c2, c3⟩ | ⟨c1, c2, c3, c4⟩ | ⟨c1, c2, c3, c4, c5⟩
  all_goals
    rcases h2 with h2 | ⟨h2, h3, h4⟩
    all_goals
      go_enter Try.func27, Try.ntmps27
      go_wp2
      go_region
      all_goals (try go_wp2)
      all_goals go_ret2
      all_goals exact ⟨rfl, (Below.refl _ _).drew⟩

set_option maxHeartbeats 4000000 in
theorem signed_no (s : ByteArray) (w : World) (h2 : s.size ≤ 1 ∨ (1 < s.size ∧ ((s.extract 0 2).toList == [62, 61]) = false ∧ ((s.extract 0 2).toList == [60, 61]) = false)) (hc : s.size = 0 ∨ ∃ hp : 0 < s.size, (((s[0]'hp).toNat : Int) == 61) = false ∧ (((s[0]'hp).toNat : Int) == 62) = false ∧ (((s[0]'hp).toNat : Int) == 60) = false ∧ (((s[0]'hp).toNat : Int) == 94) = false ∧ (((s[0]'hp).toNat : Int) == 126) = false) (hg : signedR (tx s) = ([], tx s)) :
    Calls Try.prog 27 #[.string s] w fun e w' => e = .returned (.tuple #[.string (bs (signedR (tx s)).1), .string (bs (signedR (tx s)).2)]) ∧ Below w.heap.size w w' := by
  rw [hg, bs_tx]
  clear hg
  rcases hc with hc | ⟨hp, c1, c2, c3, c4, c5⟩
  · have hc' : (s.size : Int) ≤ 0 := by omega
    clear h2 hc
    go_enter Try.func27, Try.ntmps27
    go_wp2
    go_ret2
    exact ⟨rfl, Below.refl _ _⟩
  · rcases h2 with h2 | ⟨h2, h3, h4⟩
    all_goals
      go_enter Try.func27, Try.ntmps27
      go_wp2
      go_ret2
      exact ⟨rfl, Below.refl _ _⟩

theorem signTests_of {b : UInt8} (h : b = 61 ∨ b = 62 ∨ b = 60 ∨ b = 94 ∨ b = 126) : SignTests (b.toNat : Int) := by
  unfold SignTests
  rcases h with h | h | h | h | h <;> subst h <;> simp

theorem signed_any (s : ByteArray) (w : World) :
    Calls Try.prog 27 #[.string s] w fun e w' => e = .returned (.tuple #[.string (bs (signedR (tx s)).1), .string (bs (signedR (tx s)).2)]) ∧ Below w.heap.size w w' := by
  have e2 := take2 s
  by_cases h1 : (tx s).take 2 = [62, 61]
  · have hl := congrArg List.length h1
    simp [tx_length] at hl
    exact signed_two s w (by omega) (.inl (str_eq _ _ (by rw [e2, h1]))) (sg_two s (.inl h1))
  · by_cases h2 : (tx s).take 2 = [60, 61]
    · have hl := congrArg List.length h2
      simp [tx_length] at hl
      exact signed_two s w (by omega) (.inr ⟨str_ne _ _ (by rw [e2]; exact h1), str_eq _ _ (by rw [e2, h2])⟩) (sg_two s (.inr h2))
    · have hn : s.size ≤ 1 ∨ (1 < s.size ∧ ((s.extract 0 2).toList == [62, 61]) = false ∧ ((s.extract 0 2).toList == [60, 61]) = false) := by
        by_cases hs : s.size ≤ 1
        · exact .inl hs
        · exact .inr ⟨by omega, str_ne _ _ (by rw [e2]; exact h1), str_ne _ _ (by rw [e2]; exact h2)⟩
      by_cases hp : 0 < s.size
      · by_cases hc : s[0] = 61 ∨ s[0] = 62 ∨ s[0] = 60 ∨ s[0] = 94 ∨ s[0] = 126
        · exact signed_one s w hp hn (signTests_of hc) (sg_one s hp (by simp [h1, h2]) hc)
        · refine signed_no s w hn (.inr ⟨hp, ?_⟩) (sg_no s (by simp [h1, h2]) (fun _ => hc))
          simp only [not_or] at hc
          exact ⟨byte_ne hc.1 (n := 61) (by omega), byte_ne hc.2.1 (n := 62) (by omega), byte_ne hc.2.2.1 (n := 60) (by omega), byte_ne hc.2.2.2.1 (n := 94) (by omega), byte_ne hc.2.2.2.2 (n := 126) (by omega)⟩
      · exact signed_no s w hn (.inl (by omega)) (sg_no s (by simp [h1, h2]) (fun h => absurd h hp))

end Hst
end Go.Proofs.Ytecocheolbkneaa
namespace Go.Proofs.Ytecocheolbkneaa
open Go.RowKit
namespace Hst
set_option maxRecDepth 100000

theorem splitL_piece (n : Int) : ∀ (l : Tx) (p : Tx), p ∈ splitL n l → p.length ≤ l.length
  | [], p, h => by simp [splitL] at h; subst h; simp
  | b :: r, p, h => by
    simp only [splitL] at h
    split at h
    · simp at h
      rcases h with rfl | h
      · simp
      · have := splitL_piece n r p h; simp; omega
    · have ih := splitL_piece n r
      rcases hs : splitL n r with _ | ⟨q, qs⟩
      · exact absurd hs (splitL_ne n r)
      · rw [hs] at h ih
        simp at h
        rcases h with rfl | h
        · have := ih q (by simp); simp; omega
        · have := ih p (by simp [h]); simp; omega
theorem piece_size (n : Int) (s : ByteArray) (j : Nat) (hj : j < (splitL n (tx s)).length) : (bs (splitL n (tx s))[j]).size ≤ s.size := by
  rw [bs_size, ← tx_length]
  exact splitL_piece n _ _ (List.getElem_mem hj)

theorem versionP_long (s : ByteArray) (h : 8 < s.size) : versionP (tx s) = none := by
  unfold versionP; rw [if_pos (by rw [tx_length]; exact h)]
theorem versionP_not (s : ByteArray) (h : ¬ (splitL 46 (tx s)).length = 3) : versionP (tx s) = none := by
  unfold versionP
  rw [if_pos h]
  split <;> rfl
theorem versionP_three (s : ByteArray) (h : s.size ≤ 8) (h3 : (splitL 46 (tx s)).length = 3) : versionP (tx s) = verGo 0 (splitL 46 (tx s)) := by
  unfold versionP; rw [if_neg (by rw [tx_length]; omega), if_neg (by omega)]
theorem vg_yes (d : List Tx) (k : Nat) (acc : Int) (hk : k < d.length) (h : oks (partP d[k]) = true) : verGo acc (d.drop k) = verGo (acc * 100 + ov (partP d[k])) (d.drop (k + 1)) := by
  rw [List.drop_eq_getElem_cons hk]
  rcases hp : partP d[k] with _ | n
  · rw [hp] at h; simp [oks] at h
  · simp [verGo, hp, ov]
theorem vg_no (d : List Tx) (k : Nat) (acc : Int) (hk : k < d.length) (h : oks (partP d[k]) = false) : verGo acc (d.drop k) = none := by
  rw [List.drop_eq_getElem_cons hk]
  rcases hp : partP d[k] with _ | n
  · simp [verGo, hp]
  · rw [hp] at h; simp [oks] at h
theorem vg_end (d : List Tx) (k : Nat) (acc : Int) (hk : ¬ k < d.length) : verGo acc (d.drop k) = some acc := by
  rw [List.drop_of_length_le (by omega)]; rfl

set_option maxHeartbeats 1000000 in
theorem vparse_any (s : ByteArray) (w : World) :
    Calls Try.prog 11 #[.string s] w fun e w' => e = .returned (.tuple #[.int .i64 (ov (versionP (tx s))), .bool (oks (versionP (tx s)))]) ∧ Below w.heap.size w w' := by
  by_cases h8 : s.size ≤ 8
  · go_enter Try.func11, Try.ntmps11
    go_wp2_with fail
    refine (psplit_any s 46 _ (by omega)).mono ?_
    rintro e w1 ⟨v, rfl, hrow, hb1⟩
    obtain ⟨g, cap, rfl, hg1, hg2, hcell⟩ := hrow.form (splitL_ne _ _)
    by_cases h3 : (splitL 46 (tx s)).length = 3
    · have HP : Hid (versionP (tx s) = verGo 0 (splitL 46 (tx s))) := versionP_three s h8 h3
      have hps : ∀ j (hj : j < (splitL 46 (tx s)).length), (bs (splitL 46 (tx s))[j]).size ≤ 100 := fun j hj => by have := piece_size 46 s j hj; omega
      generalize splitL 46 (tx s) = d at *
      have b3 : ((d.length : Int) != 3) = false := by simp; omega
      have HC := hid hcell; have HS := hid hps; have H3 := hid h3
      clear hcell hps hrow h3
      go_wp2
      go_loop [5, 20] (fun p i => ∃ (k : Nat) (acc : Int), k ≤ d.length ∧ 0 ≤ acc ∧ acc ≤ 999999 ∧ p = .int .i64 acc ∧ i = .int .i64 k ∧ Hid ((k = 0 → acc = 0) ∧ (k ≤ 1 → acc ≤ 99) ∧ (k ≤ 2 → acc ≤ 9999)) ∧ Hid (versionP (tx s) = verGo acc (d.drop k))) (fun _ i => d.length - (intOf i).toNat)
      case atStart => exact ⟨0, 0, by omega, by omega, by omega, rfl, rfl, ⟨fun _ => rfl, fun _ => by omega, fun _ => by omega⟩, by unfold Hid; rw [HP.out]; rfl⟩
      case round =>
        obtain ⟨k, acc, hk, ha0, ha1, rfl, rfl, hbd, hall⟩ := hrel
        have hd3 : d.length ≤ 3 := by have := H3.out; omega
        by_cases hlt : k < d.length
        · have hc := HC.out k hlt
          have hq := HS.out k hlt
          have ha2 : acc ≤ 9999 := hbd.out.2.2 (by omega)
          by_cases hok : oks (partP d[k]) = true
          · have HF : Hid (versionP (tx s) = verGo (acc * 100 + ov (partP d[k])) (d.drop (k + 1))) := by unfold Hid; rw [hall.out, vg_yes d k acc hlt hok]
            have hb := ov_partP_bd d[k]
            have hh := parsePart_any (bs d[k]) w1 hq
            rw [tx_bs] at hh
            rw [hok] at hh
            generalize ov (partP d[k]) = n at *
            generalize bs d[k] = q at *
            obtain ⟨hb0, hb9⟩ := hb
            have HBD : Hid ((k + 1 = 0 → acc * 100 + n = 0) ∧ (k + 1 ≤ 1 → acc * 100 + n ≤ 99) ∧ (k + 1 ≤ 2 → acc * 100 + n ≤ 9999)) := by
              have h := hbd.out
              refine ⟨fun h => by omega, fun h1 => ?_, fun h2 => ?_⟩
              · have := h.1 (by omega); omega
              · have := h.2.1 (by omega); omega
            have HH := hid hh
            clear hok hh hq
            go_wp2_with (go_at_call 20; refine (HH.out).mono ?_; rintro e w' ⟨rfl, rfl⟩)
            go_round
            case rel => exact ⟨k + 1, _, by omega, by omega, by omega, rfl, by go_num, HBD, HF⟩
            case measure => simp [intOf]; omega
          · have hok : oks (partP d[k]) = false := by simpa using hok
            have HF : Hid (versionP (tx s) = none) := by unfold Hid; rw [hall.out, vg_no d k acc hlt hok]
            have hh := parsePart_any (bs d[k]) w1 hq
            rw [tx_bs] at hh
            rw [hok] at hh
            generalize ov (partP d[k]) = n at *
            generalize bs d[k] = q at *
            have HH := hid hh
            clear hok hh hq
            go_wp2_with (go_at_call 20; refine (HH.out).mono ?_; rintro e w' ⟨rfl, rfl⟩)
            go_ret2
            exact ⟨ret_int_bool (by rw [HF.out]; rfl) (by rw [HF.out]; rfl), hb1⟩
        · have HF : Hid (versionP (tx s) = some acc) := by unfold Hid; rw [hall.out, vg_end d k acc hlt]
          go_wp2
          go_ret2
          exact ⟨ret_int_bool (by rw [HF.out]; rfl) (by rw [HF.out]; rfl), hb1⟩
    · have HF : Hid (versionP (tx s) = none) := versionP_not s h3
      generalize splitL 46 (tx s) = d at *
      have b3 : ((d.length : Int) != 3) = true := by simp; omega
      clear hcell hrow h3
      go_wp2
      go_ret2
      exact ⟨ret_int_bool (by rw [HF.out]; rfl) (by rw [HF.out]; rfl), hb1⟩
  · have HF : Hid (versionP (tx s) = none) := versionP_long s (by omega)
    go_enter Try.func11, Try.ntmps11
    go_wp2
    go_ret2
    exact ⟨ret_int_bool (by rw [HF.out]; rfl) (by rw [HF.out]; rfl), Below.refl _ _⟩


/-! ### hoistref.Version -/
theorem partR_bd (l : Tx) : -1 ≤ partR l ∧ partR l ≤ 99 := by
  unfold partR
  split
  · omega
  · rename_i h
    match l, h with
    | [], h => simp at h
    | [a], _ =>
      simp only [partGoR]
      split
      · rename_i hd; simp [dig] at hd; omega
      · omega
    | [a, b], _ =>
      simp only [partGoR]
      split
      · rename_i hd
        simp [dig] at hd
        split
        · rename_i hd'; simp [dig] at hd'; omega
        · omega
      · omega
    | _ :: _ :: _ :: _, h => simp at h
theorem versionR_long (s : ByteArray) (h : 8 < s.size) : versionR (tx s) = (⟨0, 0, 0⟩, false) := by
  unfold versionR; rw [if_pos (by rw [tx_length]; exact h)]
theorem versionR_not (s : ByteArray) (h : ¬ (splitL 46 (tx s)).length = 3) : versionR (tx s) = (⟨0, 0, 0⟩, false) := by
  unfold versionR
  rw [if_pos h]
  split <;> rfl
theorem three_of (d : List Tx) (h : d.length = 3) : ∃ x y z, d = [x, y, z] := by
  match d, h with
  | [x, y, z], _ => exact ⟨x, y, z, rfl⟩
theorem versionR_three (s : ByteArray) (h : s.size ≤ 8) {x y z : Tx} (h3 : splitL 46 (tx s) = [x, y, z]) : versionR (tx s) =
    (⟨partR x, partR y, partR z⟩, decide (0 ≤ partR x) && decide (0 ≤ partR y) && decide (0 ≤ partR z)) := by
  unfold versionR; rw [if_neg (by rw [tx_length]; omega), h3, if_neg (by simp)]
  simp
/-- A version's numbers and whether it is one, as a value. -/
abbrev verRV (r : V3 × Bool) : Value := .tuple #[verV r.1.a r.1.b r.1.c, .bool r.2]

set_option maxHeartbeats 1000000 in
theorem version_any (s : ByteArray) (w : World) :
    Calls Try.prog 14 #[.string s] w fun e w' => e = .returned (verRV (versionR (tx s))) ∧ Below w.heap.size w w' := by
  by_cases h8 : s.size ≤ 8
  · by_cases h3 : (splitL 46 (tx s)).length = 3
    · obtain ⟨x, y, z, hd⟩ := three_of _ h3
      have HP := versionR_three s h8 hd
      have hps : ∀ p ∈ splitL 46 (tx s), (bs p).size ≤ 100 := fun p hp => by have := splitL_piece 46 _ p hp; rw [bs_size]; rw [tx_length] at this; omega
      have HS := hid (rsplit_any s 46 (w.alloc (.cells #[.int .i64 0, .int .i64 0, .int .i64 0] 40)) (by omega))
      rw [hd] at HS hps
      rw [HP]
      clear HP h3 hd
      have P0 := hid (fun w => part_any (bs x) w (hps x (by simp)))
      have P1 := hid (fun w => part_any (bs y) w (hps y (by simp)))
      have P2 := hid (fun w => part_any (bs z) w (hps z (by simp)))
      rw [tx_bs] at P0 P1 P2
      clear hps
      go_enter Try.func14, Try.ntmps14
      go_wp2_with fail
      refine HS.out.mono ?_
      rintro e w1 ⟨v, rfl, hrow, hb1⟩
      obtain ⟨g, cap, rfl, hg1, hg2, hcell⟩ := hrow.form (by simp)
      have c0 := hcell 0 (by simp)
      have c1 := hcell 1 (by simp)
      have c2 := hcell 2 (by simp)
      simp only [List.getElem_cons_zero, List.getElem_cons_succ] at c0 c1 c2
      clear hcell hrow HS
      have hbx := partR_bd x; have hby := partR_bd y; have hbz := partR_bd z
      generalize hA : partR x = a at *
      generalize hB : partR y = b at *
      generalize hC : partR z = c at *
      have HA := hid hA; have HB' := hid hB; have HC := hid hC
      clear hA hB hC
      generalize bs x = q0 at *
      generalize bs y = q1 at *
      generalize bs z = q2 at *
      obtain ⟨hcc, hff⟩ := bcell hb1
      have hz1 : w.heap.size < w1.heap.size := by have := hb1.size; simp at this; omega
      have hB : Below w.heap.size w w1 := ((Below.refl _ _).alloc (Nat.le_refl _) _).trans (hb1.mono (by simp))
      have HB := hid hB
      clear hb1 hB
      by_cases ka : 0 ≤ a
      all_goals by_cases kb : 0 ≤ b
      all_goals by_cases kc : 0 ≤ c
      all_goals
        go_wp2_with fail
        refine (P0.out _).mono ?_
        rintro e w' ⟨rfl, rfl⟩
        go_wp2_with fail
        refine (P1.out _).mono ?_
        rintro e w' ⟨rfl, rfl⟩
        go_wp2_with fail
        refine (P2.out _).mono ?_
        rintro e w' ⟨rfl, rfl⟩
        go_wp2
        refine bodyPost_ret (v := .tuple #[verV a b c, .bool _]) (by simp [results, Try.results14, go_sem, hcc]; rfl) rfl ⟨?_, ?_⟩
        · rw [HA.out, HB'.out, HC.out]; simp [ka, kb, kc]
        · exact ((HB.out.setCell (Nat.le_refl _) _).setCell (Nat.le_refl _) _).setCell (Nat.le_refl _) _
    · rw [versionR_not s h3]
      have HS := hid (rsplit_any s 46 (w.alloc (.cells #[.int .i64 0, .int .i64 0, .int .i64 0] 40)) (by omega))
      go_enter Try.func14, Try.ntmps14
      go_wp2_with fail
      refine HS.out.mono ?_
      rintro e w1 ⟨v, rfl, hrow, hb1⟩
      obtain ⟨g, cap, rfl, hg1, hg2, hcell⟩ := hrow.form (splitL_ne _ _)
      have b3 : (((splitL 46 (tx s)).length : Int) != 3) = true := by simp; omega
      generalize splitL 46 (tx s) = d at *
      clear hcell hrow HS h3
      obtain ⟨hcc, hff⟩ := bcell hb1
      have HB := hid (((Below.refl _ _).alloc (Nat.le_refl _) _).trans (hb1.mono (by simp)) : Below w.heap.size w w1)
      clear hb1
      go_wp2
      refine bodyPost_ret (v := .tuple #[verV 0 0 0, .bool false]) (by simp [results, Try.results14, go_sem, hcc]) rfl ⟨rfl, ?_⟩
      exact ((HB.out.setCell (Nat.le_refl _) _).setCell (Nat.le_refl _) _).setCell (Nat.le_refl _) _
  · rw [versionR_long s (by omega)]
    go_enter Try.func14, Try.ntmps14
    go_wp2
    exact bodyPost_ret (v := .tuple #[verV 0 0 0, .bool false]) (by simp [results, Try.results14, go_sem]) rfl ⟨rfl, (Below.refl _ _).alloc (Nat.le_refl _) _⟩

end Hst
end Go.Proofs.Ytecocheolbkneaa
namespace Go.Proofs.Ytecocheolbkneaa
open Go.RowKit
namespace Hst
set_option maxRecDepth 100000

set_option maxHeartbeats 1000000 in
theorem overlap_any (a b c d : Int) (w : World) :
    Calls Try.prog 25 #[spanV a b, spanV c d] w fun e w' => e = .returned (spanV (mx a c) (mn b d)) ∧ Below w.heap.size w w' := by
  unfold mx mn
  by_cases h1 : a < c
  all_goals by_cases h2 : d < b
  all_goals
    first | rw [if_pos h1] | rw [if_neg h1]
    first | rw [if_pos h2] | rw [if_neg h2]
    go_enter Try.func25, Try.ntmps25
    go_wp2
    refine bodyPost_ret (v := _) (by simp [results, Try.results25, go_sem]) rfl ⟨rfl, ?_⟩
    exact ((((Below.refl _ _).alloc (Nat.le_refl _) _).alloc (by simp) _).alloc (by simp; omega) _).alloc (by simp; omega) _

set_option maxHeartbeats 1000000 in
theorem below_any (a b c x y z : Int) (w : World) :
    Calls Try.prog 31 #[verV a b c, verV x y z] w fun e w' => e = .returned (.bool (belowB a b c x y z)) ∧ Below w.heap.size w w' := by
  unfold belowB
  by_cases h1 : a = x
  · have b1 : (a != x) = false := by simp [h1]
    by_cases h2 : b = y
    · have b2 : (b != y) = false := by simp [h2]
      rw [if_neg (by simp [h1]), if_neg (by simp [h2])]
      clear h1 h2
      go_enter Try.func31, Try.ntmps31
      go_wp2
      go_ret
      exact ⟨rfl, ((Below.refl _ _).alloc (Nat.le_refl _) _).alloc (by simp) _⟩
    · have b2 : (b != y) = true := by simp [h2]
      rw [if_neg (by simp [h1]), if_pos h2]
      clear h1 h2
      go_enter Try.func31, Try.ntmps31
      go_wp2
      go_ret
      exact ⟨rfl, ((Below.refl _ _).alloc (Nat.le_refl _) _).alloc (by simp) _⟩
  · have b1 : (a != x) = true := by simp [h1]
    rw [if_pos h1]
    clear h1
    go_enter Try.func31, Try.ntmps31
    go_wp2
    go_ret
    exact ⟨rfl, ((Below.refl _ _).alloc (Nat.le_refl _) _).alloc (by simp) _⟩


set_option maxHeartbeats 2000000 in
theorem spanOf_any (s : ByteArray) (v : Int) (w : World) (h0 : 0 ≤ v) (h1 : v ≤ 999999) :
    Calls Try.prog 33 #[.string s, .int .i64 v] w fun e w' => e = .returned (.tuple #[spanV (slo (spanOfP (tx s) v)) (shi (spanOfP (tx s) v)), .bool (sok (spanOfP (tx s) v))]) ∧ Below w.heap.size w w' := by
  by_cases c1 : tx s = [61]
  · have e : spanOfP (tx s) v = some (v, v) := by simp [spanOfP, c1]
    have b1 := str_eq s _ c1
    rw [e]
    clear e c1
    go_enter Try.func33, Try.ntmps33
    go_wp2
    exact bodyPost_ret (v := .tuple #[spanV (v) (v), .bool true]) (by simp [results, Try.results33, go_sem]) rfl ⟨rfl, (Below.refl _ _).alloc (Nat.le_refl _) _⟩
  have b1 := str_ne s _ c1
  by_cases c2 : tx s = [62]
  · have e : spanOfP (tx s) v = some (v + 1, 999999) := by simp [spanOfP, c2]
    have b2 := str_eq s _ c2
    rw [e]
    clear e c1 c2
    go_enter Try.func33, Try.ntmps33
    go_wp2
    exact bodyPost_ret (v := .tuple #[spanV (v + 1) (999999), .bool true]) (by simp [results, Try.results33, go_sem]) rfl ⟨rfl, (Below.refl _ _).alloc (Nat.le_refl _) _⟩
  have b2 := str_ne s _ c2
  by_cases c3 : tx s = [62, 61]
  · have e : spanOfP (tx s) v = some (v, 999999) := by simp [spanOfP, c3]
    have b3 := str_eq s _ c3
    rw [e]
    clear e c1 c2 c3
    go_enter Try.func33, Try.ntmps33
    go_wp2
    exact bodyPost_ret (v := .tuple #[spanV (v) (999999), .bool true]) (by simp [results, Try.results33, go_sem]) rfl ⟨rfl, (Below.refl _ _).alloc (Nat.le_refl _) _⟩
  have b3 := str_ne s _ c3
  by_cases c4 : tx s = [60]
  · have e : spanOfP (tx s) v = some (0, v - 1) := by simp [spanOfP, c4]
    have b4 := str_eq s _ c4
    rw [e]
    clear e c1 c2 c3 c4
    go_enter Try.func33, Try.ntmps33
    go_wp2
    exact bodyPost_ret (v := .tuple #[spanV (0) (v - 1), .bool true]) (by simp [results, Try.results33, go_sem]) rfl ⟨rfl, (Below.refl _ _).alloc (Nat.le_refl _) _⟩
  have b4 := str_ne s _ c4
  by_cases c5 : tx s = [60, 61]
  · have e : spanOfP (tx s) v = some (0, v) := by simp [spanOfP, c5]
    have b5 := str_eq s _ c5
    rw [e]
    clear e c1 c2 c3 c4 c5
    go_enter Try.func33, Try.ntmps33
    go_wp2
    exact bodyPost_ret (v := .tuple #[spanV (0) (v), .bool true]) (by simp [results, Try.results33, go_sem]) rfl ⟨rfl, (Below.refl _ _).alloc (Nat.le_refl _) _⟩
  have b5 := str_ne s _ c5
  by_cases c6 : tx s = [94]
  · have e : spanOfP (tx s) v = some (v, caretHi v) := by simp [spanOfP, c6]
    have b6 := str_eq s _ c6
    rw [e]
    clear e c1 c2 c3 c4 c5 c6
    go_enter Try.func33, Try.ntmps33
    go_wp2_with (go_at_call 34; refine (caret_any _ _ h0 h1).mono ?_; rintro e w' ⟨rfl, rfl⟩)
    exact bodyPost_ret (v := .tuple #[spanV (v) (caretHi v), .bool true]) (by simp [results, Try.results33, go_sem]) rfl ⟨rfl, (Below.refl _ _).alloc (Nat.le_refl _) _⟩
  have b6 := str_ne s _ c6
  by_cases c7 : tx s = [126]
  · have e : spanOfP (tx s) v = some (v, v - v % 100 + 100 - 1) := by simp [spanOfP, c7]
    have b7 := str_eq s _ c7
    rw [e]
    clear e c1 c2 c3 c4 c5 c6 c7
    go_enter Try.func33, Try.ntmps33
    go_wp2_with (go_at_call 35; refine (hiSecond_any _ _ h0 h1).mono ?_; rintro e w' ⟨rfl, rfl⟩)
    exact bodyPost_ret (v := .tuple #[spanV (v) (v - v % 100 + 100 - 1), .bool true]) (by simp [results, Try.results33, go_sem]) rfl ⟨rfl, (Below.refl _ _).alloc (Nat.le_refl _) _⟩
  have b7 := str_ne s _ c7
  have e : spanOfP (tx s) v = none := by simp [spanOfP, c1, c2, c3, c4, c5, c6, c7]
  rw [e]
  clear e c1 c2 c3 c4 c5 c6 c7
  go_enter Try.func33, Try.ntmps33
  go_wp2
  exact bodyPost_ret (v := .tuple #[spanV 0 0, .bool false]) (by simp [results, Try.results33, go_sem]) rfl ⟨rfl, (Below.refl _ _).alloc (Nat.le_refl _) _⟩

end Hst
end Go.Proofs.Ytecocheolbkneaa
namespace Go.Proofs.Ytecocheolbkneaa
open Go.RowKit
namespace Hst
set_option maxRecDepth 100000


theorem sl_dig (s : ByteArray) (k : Nat) (h : k < s.size) (hd : dig s[k] = true) : signLen ((tx s).drop k) = 0 := by
  rw [tx_drop s k h]; simp [signLen, hd]
theorem sl_no (s : ByteArray) (k : Nat) (h : k < s.size) (hd : dig s[k] = false) : signLen ((tx s).drop k) = signLen ((tx s).drop (k + 1)) + 1 := by
  rw [tx_drop s k h]; simp [signLen, hd]
theorem sl_end (s : ByteArray) (k : Nat) (h : ¬ k < s.size) : signLen ((tx s).drop k) = 0 := by
  rw [List.drop_of_length_le (by rw [tx_length]; omega)]; rfl

set_option maxHeartbeats 400000 in
theorem signLength_any (s : ByteArray) (w : World) (hs : s.size ≤ 100) :
    Calls Try.prog 32 #[.string s] w fun e w' => e = .returned (.int .i64 (signLen (tx s))) ∧ w' = w := by
  go_enter Try.func32, Try.ntmps32
  go_wp2
  go_loop [3] (fun i => ∃ k : Nat, k ≤ s.size ∧ i = .int .i64 k ∧ Hid (signLen (tx s) = k + signLen ((tx s).drop k))) (fun i => s.size - (intOf i).toNat)
  case atStart => exact ⟨0, Nat.zero_le _, rfl, by unfold Hid; simp⟩
  case round =>
    obtain ⟨k, hk, rfl, hall⟩ := hrel
    by_cases hlt : k < s.size
    · by_cases h1 : 48 ≤ ((s[k]'hlt).toNat : Int)
      · by_cases h2 : ((s[k]'hlt).toNat : Int) ≤ 57
        · have HF : Hid (signLen (tx s) = k) := by have := hall.out; rw [sl_dig s k hlt (dig_yes h1 h2)] at this; exact this
          go_wp2
          go_ret
          exact ⟨ret_int (by rw [HF.out]), rfl⟩
        · have HF : Hid (signLen (tx s) = k + 1 + signLen ((tx s).drop (k + 1))) := by have := hall.out; rw [sl_no s k hlt (dig_no2 (by omega))] at this; unfold Hid; omega
          go_wp2
          go_round
          case rel => exact ⟨k + 1, by omega, by go_num, HF⟩
          case measure => simp [intOf]; omega
      · have HF : Hid (signLen (tx s) = k + 1 + signLen ((tx s).drop (k + 1))) := by have := hall.out; rw [sl_no s k hlt (dig_no1 (by omega))] at this; unfold Hid; omega
        go_wp2
        go_round
        case rel => exact ⟨k + 1, by omega, by go_num, HF⟩
        case measure => simp [intOf]; omega
    · have HF : Hid (signLen (tx s) = k) := by have := hall.out; rw [sl_end s k hlt] at this; exact this
      have HE : Hid (k = s.size) := by unfold Hid; omega
      go_wp2
      go_ret
      exact ⟨ret_int (by rw [HF.out, HE.out]), rfl⟩

end Hst
end Go.Proofs.Ytecocheolbkneaa
namespace Go.Proofs.Ytecocheolbkneaa
open Go.RowKit
namespace Hst
set_option maxRecDepth 100000

theorem verGo_bd : ∀ (d : List Tx) (acc n : Int), 0 ≤ acc → verGo acc d = some n → 0 ≤ n ∧ n + 1 ≤ (acc + 1) * 100 ^ d.length
  | [], acc, n, h0, h => by simp [verGo] at h; subst h; simp; exact h0
  | p :: r, acc, n, h0, h => by
    simp only [verGo] at h
    rcases hp : partP p with _ | m
    · rw [hp] at h; simp at h
    · rw [hp] at h
      simp only at h
      have hb := partP_bd p m hp
      have ih := verGo_bd r (acc * 100 + m) n (by omega) h
      refine ⟨ih.1, Int.le_trans ih.2 ?_⟩
      have e : (acc + 1) * 100 ^ (p :: r).length = ((acc + 1) * 100) * 100 ^ r.length := by
        rw [List.length_cons, Int.pow_succ, Int.mul_assoc, Int.mul_comm (100 ^ r.length) 100]
      rw [e]
      apply Int.mul_le_mul_of_nonneg_right
      · omega
      · exact Int.pow_nonneg (by omega)
theorem versionP_bd (l : Tx) (n : Int) (h : versionP l = some n) : 0 ≤ n ∧ n ≤ 999999 := by
  unfold versionP at h
  split at h
  · simp at h
  · split at h
    · simp at h
    · rename_i h3
      have := verGo_bd _ 0 n (by omega) h
      rw [show (splitL 46 l).length = 3 from by omega] at this
      have e3 : (0 + 1 : Int) * 100 ^ 3 = 1000000 := by decide
      rw [e3] at this
      omega
theorem signLen_le : ∀ l : Tx, signLen l ≤ l.length
  | [] => by simp [signLen]
  | b :: r => by
    simp only [signLen]
    split
    · simp
    · have := signLen_le r; simp; omega

theorem condP_star (s : ByteArray) (h : tx s = [42]) : condP (tx s) = some (0, 999999) := by simp [condP, h]
theorem condP_none (s : ByteArray) (h : tx s ≠ [42]) (hv : versionP ((tx s).drop (signLen (tx s))) = none) : condP (tx s) = none := by
  simp [condP, h, hv]
theorem condP_some (s : ByteArray) (v : Int) (h : tx s ≠ [42]) (hv : versionP ((tx s).drop (signLen (tx s))) = some v) : condP (tx s) = spanOfP ((tx s).take (signLen (tx s))) v := by
  simp [condP, h, hv]

set_option maxHeartbeats 1000000 in
theorem pcond_any (s : ByteArray) (w : World) (hs : s.size ≤ 100) :
    Calls Try.prog 30 #[.string s] w fun e w' => e = .returned (.tuple #[spanV (slo (condP (tx s))) (shi (condP (tx s))), .bool (sok (condP (tx s)))]) ∧ Below w.heap.size w w' := by
  by_cases h42 : tx s = [42]
  · rw [condP_star s h42]
    have hb := str_eq s _ h42
    clear h42
    go_enter Try.func30, Try.ntmps30
    go_wp2_with fail
    refine (every_any _).mono ?_
    rintro e w1 ⟨rfl, hb1⟩
    obtain ⟨hcc, hff⟩ := bcell hb1
    have HB := hid (((Below.refl _ _).alloc (Nat.le_refl _) _).trans (hb1.mono (by simp)) : Below w.heap.size w w1)
    clear hb1
    go_wp2
    refine bodyPost_ret (v := .tuple #[spanV 0 999999, .bool true]) (by simp [results, Try.results30, go_sem, hcc]) rfl ⟨rfl, ?_⟩
    exact (HB.out.setCell (Nat.le_refl _) _).setCell (Nat.le_refl _) _
  · have hb := str_ne s _ h42
    have hk := signLen_le (tx s)
    rw [tx_length] at hk
    have HL := hid (fun w => signLength_any s w hs)
    have HV := hid (fun w => vparse_any (s.extract (signLen (tx s)) s.size) w)
    rw [ext_from, tx_bs, ← ext_from] at HV
    rcases hv : versionP ((tx s).drop (signLen (tx s))) with _ | v
    · rw [condP_none s h42 hv]
      rw [hv] at HV
      clear h42 hv
      generalize signLen (tx s) = k at *
      go_enter Try.func30, Try.ntmps30
      go_wp2_with fail
      refine (HL.out _).mono ?_
      rintro e w' ⟨rfl, rfl⟩
      go_wp2_with fail
      refine (HV.out _).mono ?_
      rintro e w1 ⟨rfl, hb1⟩
      obtain ⟨hcc, hff⟩ := bcell hb1
      have HB := hid (((Below.refl _ _).alloc (Nat.le_refl _) _).trans (hb1.mono (by simp)) : Below w.heap.size w w1)
      clear hb1
      simp only [oks, ov, Option.isSome_none, Option.getD_none]
      go_wp2
      refine bodyPost_ret (v := .tuple #[spanV 0 0, .bool false]) (by simp [results, Try.results30, go_sem, hcc]) rfl ⟨rfl, ?_⟩
      exact (HB.out.setCell (Nat.le_refl _) _).setCell (Nat.le_refl _) _
    · have hbd := versionP_bd _ _ hv
      rw [condP_some s v h42 hv]
      rw [hv] at HV
      have HO := hid (fun w => spanOf_any (s.extract 0 (signLen (tx s))) v w hbd.1 hbd.2)
      rw [ext_to, tx_bs, ← ext_to] at HO
      clear h42 hv
      generalize spanOfP ((tx s).take (signLen (tx s))) v = o at *
      generalize signLen (tx s) = k at *
      go_enter Try.func30, Try.ntmps30
      go_wp2_with fail
      refine (HL.out _).mono ?_
      rintro e w' ⟨rfl, rfl⟩
      go_wp2_with fail
      refine (HV.out _).mono ?_
      rintro e w1 ⟨rfl, hb1⟩
      obtain ⟨hcc, hff⟩ := bcell hb1
      have HB := hid (((Below.refl _ _).alloc (Nat.le_refl _) _).trans (hb1.mono (by simp)) : Below w.heap.size w w1)
      have hz1 : w.heap.size < w1.heap.size := by have := hb1.size; simp at this; omega
      clear hb1
      simp only [oks, ov, Option.isSome_some, Option.getD_some]
      go_wp2_with fail
      refine (HO.out _).mono ?_
      rintro e w2 ⟨rfl, hb2⟩
      obtain ⟨hcc2, hff2⟩ := bcell hb2
      have HB2 := hid (HB.out.trans (hb2.mono (by omega)) : Below w.heap.size w w2)
      clear hb2
      go_wp2
      refine bodyPost_ret (v := .tuple #[spanV (slo o) (shi o), .bool (sok o)]) (by simp [results, Try.results30, go_sem, hcc, hcc2, hz1]) rfl ⟨rfl, ?_⟩
      exact (HB2.out.setCell (Nat.le_refl _) _).setCell (Nat.le_refl _) _

end Hst
end Go.Proofs.Ytecocheolbkneaa
