/- Numbers out of texts: versions.parsePart, hoistref.part. -/
import Derived.Test.YtkcgbikgblkpjaaDoorLeaf
namespace Go.Proofs.YtkcgbikgblkpjaaDoor
open Go.RowKit
namespace Hst

theorem pg_yes (s : ByteArray) (k : Nat) (acc : Int) (h : k < s.size) (hd : dig s[k] = true) (hn : acc * 10 + ((s[k].toNat : Int) - 48) ≤ 99) :
    partGo acc ((tx s).drop k) = partGo (acc * 10 + ((s[k].toNat : Int) - 48)) ((tx s).drop (k + 1)) := by
  rw [tx_drop s k h]; simp only [partGo, hd, if_true]; rw [if_neg (by omega)]
theorem pg_big (s : ByteArray) (k : Nat) (acc : Int) (h : k < s.size) (hd : dig s[k] = true) (hn : 99 < acc * 10 + ((s[k].toNat : Int) - 48)) :
    partGo acc ((tx s).drop k) = none := by
  rw [tx_drop s k h]; simp only [partGo, hd, if_true]; rw [if_pos (by omega)]
theorem pg_no (s : ByteArray) (k : Nat) (acc : Int) (h : k < s.size) (hd : dig s[k] = false) : partGo acc ((tx s).drop k) = none := by
  rw [tx_drop s k h]; simp [partGo, hd]
theorem pg_end (s : ByteArray) (k : Nat) (acc : Int) (h : ¬ k < s.size) : partGo acc ((tx s).drop k) = some acc := by
  rw [List.drop_of_length_le (by rw [tx_length]; omega)]; rfl
theorem partP_empty (s : ByteArray) (h : s.size = 0) : partP (tx s) = none := by
  have : tx s = [] := List.length_eq_zero_iff.1 (by rw [tx_length]; exact h)
  simp [partP, this]
theorem tx_head (s : ByteArray) (h : 0 < s.size) : (tx s).head? = some s[0] := by
  have := tx_drop s 0 h
  simp at this; rw [this]; rfl
theorem byte_eq {b : UInt8} {n : Nat} (hn : n < 256) (h : (b.toNat : Int) = n) : b = n.toUInt8 := by
  apply UInt8.toNat_inj.1
  simp; omega
theorem partP_zero (s : ByteArray) (h : 0 < s.size) (h1 : (s[0].toNat : Int) = 48) (h2 : 1 < s.size) : partP (tx s) = none := by
  have e : s[0] = (48 : UInt8) := byte_eq (n := 48) (by omega) h1
  have hl := tx_length s
  unfold partP
  rw [if_neg (by intro hh; rw [hh] at hl; simp at hl; omega), if_pos ⟨by rw [tx_head s h, e], by omega⟩]
theorem partP_go (s : ByteArray) (h : 0 < s.size) (h1 : ¬ ((s[0].toNat : Int) = 48 ∧ 1 < s.size)) : partP (tx s) = partGo 0 (tx s) := by
  have hl := tx_length s
  unfold partP
  rw [if_neg (by intro hh; rw [hh] at hl; simp at hl; omega), if_neg]
  rintro ⟨a, b⟩
  rw [tx_head s h] at a
  simp at a
  exact h1 ⟨by rw [a]; rfl, by omega⟩
theorem empty_eq (s : ByteArray) (h : 0 < s.size) : s.toList.isEmpty = false := by
  rw [tx_toList, List.isEmpty_eq_false_iff]
  intro hh
  have := tx_length s
  rw [hh] at this; simp at this; omega

set_option maxHeartbeats 1000000 in
theorem parsePart_go (s : ByteArray) (w : World) (hs : s.size ≤ 100) (hp : 0 < s.size) (hz : (((s[0]'hp).toNat : Int) == 48) = false ∨ ((((s[0]'hp).toNat : Int) == 48) = true ∧ (s.size : Int) ≤ 1)) (hg : partP (tx s) = partGo 0 (tx s)) :
    Calls Tryd.prog 41 #[.string s] w fun e w' => e = .returned (.tuple #[.int .i64 (ov (partP (tx s))), .bool (oks (partP (tx s)))]) ∧ w' = w := by
  have he := empty_eq s hp
  have HG : Hid (partP (tx s) = partGo 0 (tx s)) := hg
  clear hg
  rcases hz with hz | ⟨hz, hz1⟩
  all_goals
    go_enter Tryd.func41, Tryd.ntmps41
    go_wp2
    go_loop [4, 5] (fun p i => ∃ (k : Nat) (acc : Int), k ≤ s.size ∧ 0 ≤ acc ∧ acc ≤ 99 ∧ p = .int .i64 acc ∧ i = .int .i64 k ∧ Hid (partP (tx s) = partGo acc ((tx s).drop k))) (fun _ i => s.size - (intOf i).toNat)
    case atStart => exact ⟨0, 0, Nat.zero_le _, by omega, by omega, rfl, rfl, by unfold Hid; rw [HG.out]; rfl⟩
    case round =>
      obtain ⟨k, acc, hk, ha0, ha1, rfl, rfl, hall⟩ := hrel
      by_cases hlt : k < s.size
      · have hb : ((s[k]'hlt).toNat : Int) < 256 := by have := (s[k]'hlt).toNat_lt; omega
        by_cases h1 : ((s[k]'hlt).toNat : Int) < 48
        · have HF : Hid (partP (tx s) = none) := by unfold Hid; rw [hall.out, pg_no s k acc hlt (dig_no1 h1)]
          go_wp2
          go_ret2
          exact ⟨ret_int_bool (by rw [HF.out]; rfl) (by rw [HF.out]; rfl), rfl⟩
        · by_cases h2 : 57 < ((s[k]'hlt).toNat : Int)
          · have HF : Hid (partP (tx s) = none) := by unfold Hid; rw [hall.out, pg_no s k acc hlt (dig_no2 h2)]
            go_wp2
            go_ret2
            exact ⟨ret_int_bool (by rw [HF.out]; rfl) (by rw [HF.out]; rfl), rfl⟩
          · by_cases h3 : 99 < acc * 10 + (((s[k]'hlt).toNat : Int) - 48)
            · have HF : Hid (partP (tx s) = none) := by unfold Hid; rw [hall.out, pg_big s k acc hlt (dig_yes (by omega) (by omega)) h3]
              go_wp2
              go_ret2
              exact ⟨ret_int_bool (by rw [HF.out]; rfl) (by rw [HF.out]; rfl), rfl⟩
            · have HF : Hid (partP (tx s) = partGo (acc * 10 + (((s[k]'hlt).toNat : Int) - 48)) ((tx s).drop (k + 1))) := by unfold Hid; rw [hall.out, pg_yes s k acc hlt (dig_yes (by omega) (by omega)) (by omega)]
              go_wp2
              go_round
              case rel => exact ⟨k + 1, _, by omega, by omega, by omega, rfl, by go_num, HF⟩
              case measure => simp [intOf]; omega
      · have HF : Hid (partP (tx s) = some acc) := by unfold Hid; rw [hall.out, pg_end s k acc hlt]
        go_wp2
        go_ret2
        exact ⟨ret_int_bool (by rw [HF.out]; rfl) (by rw [HF.out]; rfl), rfl⟩

set_option maxHeartbeats 1000000 in
theorem parsePart_any (s : ByteArray) (w : World) (hs : s.size ≤ 100) :
    Calls Tryd.prog 41 #[.string s] w fun e w' => e = .returned (.tuple #[.int .i64 (ov (partP (tx s))), .bool (oks (partP (tx s)))]) ∧ w' = w := by
  by_cases hp : 0 < s.size
  · by_cases h1 : ((s[0]'hp).toNat : Int) = 48
    · by_cases h2 : 1 < s.size
      · have HF : Hid (partP (tx s) = none) := partP_zero s hp h1 h2
        have he := empty_eq s hp
        have hz : (((s[0]'hp).toNat : Int) == 48) = true := by simp [h1]
        clear h1
        go_enter Tryd.func41, Tryd.ntmps41
        go_wp2
        go_ret2
        exact ⟨ret_int_bool (by rw [HF.out]; rfl) (by rw [HF.out]; rfl), rfl⟩
      · exact parsePart_go s w hs hp (.inr ⟨by simp [h1], by omega⟩) (partP_go s hp (by omega))
    · exact parsePart_go s w hs hp (.inl (by simp [h1])) (partP_go s hp (by omega))
  · have HF : Hid (partP (tx s) = none) := partP_empty s (by omega)
    have he : s.toList.isEmpty = true := by
      rw [tx_toList, List.isEmpty_iff]
      exact List.length_eq_zero_iff.1 (by rw [tx_length]; omega)
    go_enter Tryd.func41, Tryd.ntmps41
    go_wp2
    go_ret2
    exact ⟨ret_int_bool (by rw [HF.out]; rfl) (by rw [HF.out]; rfl), rfl⟩

/-- What parsePart gives lies between 0 and 99. -/
theorem partGo_bd : ∀ (l : Tx) (acc : Int), 0 ≤ acc → acc ≤ 99 → ∀ n, partGo acc l = some n → 0 ≤ n ∧ n ≤ 99
  | [], acc, h0, h1, n, h => by simp [partGo] at h; omega
  | b :: r, acc, h0, h1, n, h => by
    simp only [partGo] at h
    split at h
    · rename_i hd
      split at h
      · simp at h
      · simp [dig] at hd
        exact partGo_bd r _ (by omega) (by omega) n h
    · simp at h
theorem partP_bd (l : Tx) (n : Int) (h : partP l = some n) : 0 ≤ n ∧ n ≤ 99 := by
  unfold partP at h
  split at h
  · simp at h
  · split at h
    · simp at h
    · exact partGo_bd l 0 (by omega) (by omega) n h
theorem ov_partP_bd (l : Tx) : 0 ≤ ov (partP l) ∧ ov (partP l) ≤ 99 := by
  rcases h : partP l with _ | n
  · simp [ov]
  · have := partP_bd l n h
    simp [ov]; omega

end Hst
end Go.Proofs.YtkcgbikgblkpjaaDoor
