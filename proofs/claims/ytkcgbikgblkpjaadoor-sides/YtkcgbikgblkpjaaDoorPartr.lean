/- hoistref.part, hoistref.signed. -/
import Derived.Test.YtkcgbikgblkpjaaDoorPart
import Derived.StillTactics
namespace Go.Proofs.YtkcgbikgblkpjaaDoor
open Go.RowKit
namespace Hst

theorem pr_yes (s : ByteArray) (k : Nat) (acc : Int) (h : k < s.size) (hd : dig s[k] = true) :
    partGoR acc ((tx s).drop k) = partGoR (10 * acc + ((s[k].toNat : Int) - 48)) ((tx s).drop (k + 1)) := by
  rw [tx_drop s k h]; simp only [partGoR, hd, if_true]
theorem pr_no (s : ByteArray) (k : Nat) (acc : Int) (h : k < s.size) (hd : dig s[k] = false) : partGoR acc ((tx s).drop k) = -1 := by
  rw [tx_drop s k h]; simp [partGoR, hd]
theorem pr_end (s : ByteArray) (k : Nat) (acc : Int) (h : ¬ k < s.size) : partGoR acc ((tx s).drop k) = acc := by
  rw [List.drop_of_length_le (by rw [tx_length]; omega)]; rfl
theorem partR_short (s : ByteArray) (h : s.size < 1 ∨ 2 < s.size) : partR (tx s) = -1 := by
  unfold partR; rw [tx_length, if_pos (by omega)]
theorem partR_zero (s : ByteArray) (h : s.size = 2) (h1 : ((s[0]'(by omega)).toNat : Int) = 48) : partR (tx s) = -1 := by
  unfold partR; rw [tx_length, if_pos]
  refine .inr (.inr ⟨h, ?_⟩)
  rw [tx_head s (by omega), byte_eq (n := 48) (by omega) h1]; rfl
theorem partR_go (s : ByteArray) (hp : 0 < s.size) (h : s.size ≤ 2) (h1 : s.size = 2 → ¬ ((s[0]'(by omega)).toNat : Int) = 48) : partR (tx s) = partGoR 0 (tx s) := by
  unfold partR; rw [tx_length, if_neg]
  rintro (h2 | h2 | ⟨h2, h3⟩)
  · omega
  · omega
  · rw [tx_head s hp] at h3
    simp at h3
    exact h1 h2 (by rw [h3]; rfl)

set_option maxHeartbeats 1000000 in
theorem part_go (s : ByteArray) (w : World) (hp : 0 < s.size) (hs : s.size ≤ 2) (hz : ((s.size : Int) == 2) = false ∨ (((s.size : Int) == 2) = true ∧ (((s[0]'hp).toNat : Int) == 48) = false)) (hg : partR (tx s) = partGoR 0 (tx s)) :
    Calls Tryd.prog 45 #[.string s] w fun e w' => e = .returned (.int .i64 (partR (tx s))) ∧ w' = w := by
  have HG : Hid (partR (tx s) = partGoR 0 (tx s)) := hg
  clear hg
  rcases hz with hz | ⟨hz, hz1⟩
  all_goals
    go_enter Tryd.func45, Tryd.ntmps45
    go_wp2
    go_loop [3, 4] (fun p i => ∃ (k : Nat) (acc : Int), k ≤ s.size ∧ 0 ≤ acc ∧ acc ≤ 99 ∧ Hid ((k = 0 → acc = 0) ∧ (k ≤ 1 → acc ≤ 9)) ∧ p = .int .i64 acc ∧ i = .int .i64 k ∧ Hid (partR (tx s) = partGoR acc ((tx s).drop k))) (fun _ i => s.size - (intOf i).toNat)
    case atStart => exact ⟨0, 0, Nat.zero_le _, by omega, by omega, ⟨fun _ => rfl, fun _ => by omega⟩, rfl, rfl, by unfold Hid; rw [HG.out]; rfl⟩
    case round =>
      obtain ⟨k, acc, hk, ha0, ha2, ha1, rfl, rfl, hall⟩ := hrel
      by_cases hlt : k < s.size
      · have hb : ((s[k]'hlt).toNat : Int) < 256 := by have := (s[k]'hlt).toNat_lt; omega
        by_cases h1 : ((s[k]'hlt).toNat : Int) < 48
        · have HF : Hid (partR (tx s) = -1) := by unfold Hid; rw [hall.out, pr_no s k acc hlt (dig_no1 h1)]
          clear ha1
          go_wp2
          go_ret
          exact ⟨ret_int (by rw [HF.out]), rfl⟩
        · by_cases h2 : 57 < ((s[k]'hlt).toNat : Int)
          · have HF : Hid (partR (tx s) = -1) := by unfold Hid; rw [hall.out, pr_no s k acc hlt (dig_no2 h2)]
            clear ha1
            go_wp2
            go_ret
            exact ⟨ret_int (by rw [HF.out]), rfl⟩
          · have HF : Hid (partR (tx s) = partGoR (10 * acc + (((s[k]'hlt).toNat : Int) - 48)) ((tx s).drop (k + 1))) := by unfold Hid; rw [hall.out, pr_yes s k acc hlt (dig_yes (by omega) (by omega))]
            have HB : Hid ((k + 1 = 0 → 10 * acc + (((s[k]'hlt).toNat : Int) - 48) = 0) ∧ (k + 1 ≤ 1 → 10 * acc + (((s[k]'hlt).toNat : Int) - 48) ≤ 9)) := by
              have := ha1.out
              refine ⟨fun h => by omega, fun h => ?_⟩
              have := this.1 (by omega); omega
            have HC : 10 * acc + (((s[k]'hlt).toNat : Int) - 48) ≤ 99 := by have := ha1.out.2 (by omega); omega
            clear ha1
            go_wp2
            go_round
            case rel => exact ⟨k + 1, _, by omega, by omega, HC, HB, rfl, by go_num, HF⟩
            case measure => simp [intOf]; omega
      · have HF : Hid (partR (tx s) = acc) := by unfold Hid; rw [hall.out, pr_end s k acc hlt]
        clear ha1
        go_wp2
        go_ret
        exact ⟨ret_int (by rw [HF.out]), rfl⟩

set_option maxHeartbeats 1000000 in
theorem part_any (s : ByteArray) (w : World) (hs : s.size ≤ 100) :
    Calls Tryd.prog 45 #[.string s] w fun e w' => e = .returned (.int .i64 (partR (tx s))) ∧ w' = w := by
  by_cases hp : 0 < s.size
  · by_cases h1 : s.size ≤ 2
    · by_cases h2 : s.size = 2
      · by_cases h3 : ((s[0]'hp).toNat : Int) = 48
        · have HF : Hid (partR (tx s) = -1) := partR_zero s h2 h3
          have b2 : ((s.size : Int) == 2) = true := by simp [h2]
          have b3 : (((s[0]'hp).toNat : Int) == 48) = true := by simp [h3]
          clear h3 h2
          go_enter Tryd.func45, Tryd.ntmps45
          go_wp2
          go_ret
          exact ⟨ret_int (by rw [HF.out]), rfl⟩
        · exact part_go s w hp h1 (.inr ⟨by simp [h2], by simp [h3]⟩) (partR_go s hp h1 (fun _ => h3))
      · exact part_go s w hp h1 (.inl (by simp; omega)) (partR_go s hp h1 (fun h => absurd h h2))
    · have HF : Hid (partR (tx s) = -1) := partR_short s (by omega)
      go_enter Tryd.func45, Tryd.ntmps45
      go_wp2
      go_ret
      exact ⟨ret_int (by rw [HF.out]), rfl⟩
  · have HF : Hid (partR (tx s) = -1) := partR_short s (by omega)
    go_enter Tryd.func45, Tryd.ntmps45
    go_wp2
    go_ret
    exact ⟨ret_int (by rw [HF.out]), rfl⟩


/-! ### signed -/
theorem take2 (s : ByteArray) : tx (s.extract 0 2) = (tx s).take 2 := by rw [tx_extract]; simp
theorem sg_two (s : ByteArray) (h : (tx s).take 2 = [62, 61] ∨ (tx s).take 2 = [60, 61]) : signedR (tx s) = ((tx s).take 2, (tx s).drop 2) := by
  unfold signedR; rw [if_pos h]
theorem sg_one (s : ByteArray) (hp : 0 < s.size) (h : ¬ ((tx s).take 2 = [62, 61] ∨ (tx s).take 2 = [60, 61])) (hc : s[0] = 61 ∨ s[0] = 62 ∨ s[0] = 60 ∨ s[0] = 94 ∨ s[0] = 126) : signedR (tx s) = ((tx s).take 1, (tx s).drop 1) := by
  have e := tx_drop s 0 hp
  simp at e
  unfold signedR; rw [if_neg h, e]; simp only []; rw [if_pos hc]; simp
theorem sg_no (s : ByteArray) (h : ¬ ((tx s).take 2 = [62, 61] ∨ (tx s).take 2 = [60, 61])) (hc : ∀ hp : 0 < s.size, ¬ (s[0] = 61 ∨ s[0] = 62 ∨ s[0] = 60 ∨ s[0] = 94 ∨ s[0] = 126)) : signedR (tx s) = ([], tx s) := by
  by_cases hp : 0 < s.size
  · have e := tx_drop s 0 hp
    simp at e
    unfold signedR; rw [if_neg h, e]; simp only []; rw [if_neg (hc hp)]
  · have e : tx s = [] := List.length_eq_zero_iff.1 (by rw [tx_length]; omega)
    rw [e]; simp [signedR]
theorem byte_ne {b : UInt8} {n : Nat} (h : b ≠ n.toUInt8) (hn : n < 256) : ((b.toNat : Int) == (n : Int)) = false := by
  simp
  intro hh
  exact h (byte_eq hn (by exact_mod_cast hh))
theorem byte_is {b : UInt8} {n : Nat} (h : b = n.toUInt8) (hn : n < 256) : ((b.toNat : Int) == (n : Int)) = true := by
  subst h; simp; omega
theorem ext_to (s : ByteArray) (k : Nat) : s.extract 0 k = bs ((tx s).take k) := by rw [extract_bs]; simp
theorem ext_from (s : ByteArray) (k : Nat) : s.extract k s.size = bs ((tx s).drop k) := by
  rw [extract_bs, List.take_of_length_le (by simp [tx_length])]

set_option maxHeartbeats 1000000 in
theorem signed_two (s : ByteArray) (w : World) (hp : 2 ≤ s.size) (hc : ((s.extract 0 2).toList == [62, 61]) = true ∨ (((s.extract 0 2).toList == [62, 61]) = false ∧ ((s.extract 0 2).toList == [60, 61]) = true)) (hg : signedR (tx s) = ((tx s).take 2, (tx s).drop 2)) :
    Calls Tryd.prog 35 #[.string s] w fun e w' => e = .returned (.tuple #[.string (bs (signedR (tx s)).1), .string (bs (signedR (tx s)).2)]) ∧ Below w.heap.size w w' := by
  rw [hg, ← ext_to, ← ext_from]
  clear hg
  rcases hc with hc | ⟨hc, hc'⟩
  all_goals
    go_enter Tryd.func35, Tryd.ntmps35
    go_wp2
    go_region
    all_goals (try go_wp2)
    all_goals go_ret2
    all_goals exact ⟨rfl, (Below.refl _ _).drew⟩

/-- The tests on the first byte, as the walk asks them. -/
def SignTests (n : Int) : Prop :=
  (n == 61) = true ∨ ((n == 61) = false ∧ (n == 62) = true) ∨ ((n == 61) = false ∧ (n == 62) = false ∧ (n == 60) = true) ∨ ((n == 61) = false ∧ (n == 62) = false ∧ (n == 60) = false ∧ (n == 94) = true) ∨
  ((n == 61) = false ∧ (n == 62) = false ∧ (n == 60) = false ∧ (n == 94) = false ∧ (n == 126) = true)

set_option maxHeartbeats 4000000 in
theorem signed_one (s : ByteArray) (w : World) (hp : 0 < s.size) (h2 : s.size ≤ 1 ∨ (1 < s.size ∧ ((s.extract 0 2).toList == [62, 61]) = false ∧ ((s.extract 0 2).toList == [60, 61]) = false)) (hc : SignTests ((s[0]'hp).toNat : Int)) (hg : signedR (tx s) = ((tx s).take 1, (tx s).drop 1)) :
    Calls Tryd.prog 35 #[.string s] w fun e w' => e = .returned (.tuple #[.string (bs (signedR (tx s)).1), .string (bs (signedR (tx s)).2)]) ∧ Below w.heap.size w w' := by
  rw [hg, ← ext_to, ← ext_from]
  clear hg
  rcases hc with c1 | ⟨c1, c2⟩ | ⟨c1, c2, c3⟩ | ⟨c1, c2, c3, c4⟩ | ⟨c1, c2, c3, c4, c5⟩
  all_goals
    rcases h2 with h2 | ⟨h2, h3, h4⟩
    all_goals
      go_enter Tryd.func35, Tryd.ntmps35
      go_wp2
      go_region
      all_goals (try go_wp2)
      all_goals go_ret2
      all_goals exact ⟨rfl, (Below.refl _ _).drew⟩

set_option maxHeartbeats 4000000 in
theorem signed_no (s : ByteArray) (w : World) (h2 : s.size ≤ 1 ∨ (1 < s.size ∧ ((s.extract 0 2).toList == [62, 61]) = false ∧ ((s.extract 0 2).toList == [60, 61]) = false)) (hc : s.size = 0 ∨ ∃ hp : 0 < s.size, (((s[0]'hp).toNat : Int) == 61) = false ∧ (((s[0]'hp).toNat : Int) == 62) = false ∧ (((s[0]'hp).toNat : Int) == 60) = false ∧ (((s[0]'hp).toNat : Int) == 94) = false ∧ (((s[0]'hp).toNat : Int) == 126) = false) (hg : signedR (tx s) = ([], tx s)) :
    Calls Tryd.prog 35 #[.string s] w fun e w' => e = .returned (.tuple #[.string (bs (signedR (tx s)).1), .string (bs (signedR (tx s)).2)]) ∧ Below w.heap.size w w' := by
  rw [hg, bs_tx]
  clear hg
  rcases hc with hc | ⟨hp, c1, c2, c3, c4, c5⟩
  · have hc' : (s.size : Int) ≤ 0 := by omega
    clear h2 hc
    go_enter Tryd.func35, Tryd.ntmps35
    go_wp2
    go_ret2
    exact ⟨rfl, Below.refl _ _⟩
  · rcases h2 with h2 | ⟨h2, h3, h4⟩
    all_goals
      go_enter Tryd.func35, Tryd.ntmps35
      go_wp2
      go_ret2
      exact ⟨rfl, Below.refl _ _⟩

theorem signTests_of {b : UInt8} (h : b = 61 ∨ b = 62 ∨ b = 60 ∨ b = 94 ∨ b = 126) : SignTests (b.toNat : Int) := by
  unfold SignTests
  rcases h with h | h | h | h | h <;> subst h <;> simp

theorem signed_any (s : ByteArray) (w : World) :
    Calls Tryd.prog 35 #[.string s] w fun e w' => e = .returned (.tuple #[.string (bs (signedR (tx s)).1), .string (bs (signedR (tx s)).2)]) ∧ Below w.heap.size w w' := by
  have e2 := take2 s
  by_cases h1 : (tx s).take 2 = [62, 61]
  · have hl := congrArg List.length h1
    simp [tx_length] at hl
    exact signed_two s w (by omega) (.inl (str_eq _ _ (by rw [e2, h1]))) (sg_two s (.inl h1))
  · by_cases h2 : (tx s).take 2 = [60, 61]
    · have hl := congrArg List.length h2
      simp [tx_length] at hl
      exact signed_two s w (by omega) (.inr ⟨str_ne _ _ (by rw [e2]; exact h1), str_eq _ _ (by rw [e2, h2])⟩) (sg_two s (.inr h2))
    · have hn : s.size ≤ 1 ∨ (1 < s.size ∧ ((s.extract 0 2).toList == [62, 61]) = false ∧ ((s.extract 0 2).toList == [60, 61]) = false) := by
        by_cases hs : s.size ≤ 1
        · exact .inl hs
        · exact .inr ⟨by omega, str_ne _ _ (by rw [e2]; exact h1), str_ne _ _ (by rw [e2]; exact h2)⟩
      by_cases hp : 0 < s.size
      · by_cases hc : s[0] = 61 ∨ s[0] = 62 ∨ s[0] = 60 ∨ s[0] = 94 ∨ s[0] = 126
        · exact signed_one s w hp hn (signTests_of hc) (sg_one s hp (by simp [h1, h2]) hc)
        · refine signed_no s w hn (.inr ⟨hp, ?_⟩) (sg_no s (by simp [h1, h2]) (fun _ => hc))
          simp only [not_or] at hc
          exact ⟨byte_ne hc.1 (n := 61) (by omega), byte_ne hc.2.1 (n := 62) (by omega), byte_ne hc.2.2.1 (n := 60) (by omega), byte_ne hc.2.2.2.1 (n := 94) (by omega), byte_ne hc.2.2.2.2 (n := 126) (by omega)⟩
      · exact signed_no s w hn (.inl (by omega)) (sg_no s (by simp [h1, h2]) (fun h => absurd h hp))

end Hst
end Go.Proofs.YtkcgbikgblkpjaaDoor
