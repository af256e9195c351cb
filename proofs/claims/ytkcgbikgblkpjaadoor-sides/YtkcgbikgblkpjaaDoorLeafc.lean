/- Loops over one text: signLength, part, parsePart. -/
import Derived.Test.YtkcgbikgblkpjaaDoorLeaf
namespace Go.Proofs.YtkcgbikgblkpjaaDoor
open Go.RowKit
namespace Hst


theorem sl_dig (s : ByteArray) (k : Nat) (h : k < s.size) (hd : dig s[k] = true) : signLen ((tx s).drop k) = 0 := by
  rw [tx_drop s k h]; simp [signLen, hd]
theorem sl_no (s : ByteArray) (k : Nat) (h : k < s.size) (hd : dig s[k] = false) : signLen ((tx s).drop k) = signLen ((tx s).drop (k + 1)) + 1 := by
  rw [tx_drop s k h]; simp [signLen, hd]
theorem sl_end (s : ByteArray) (k : Nat) (h : ¬ k < s.size) : signLen ((tx s).drop k) = 0 := by
  rw [List.drop_of_length_le (by rw [tx_length]; omega)]; rfl

set_option maxHeartbeats 400000 in
theorem signLength_any (s : ByteArray) (w : World) (hs : s.size ≤ 100) :
    Calls Tryd.prog 47 #[.string s] w fun e w' => e = .returned (.int .i64 (signLen (tx s))) ∧ w' = w := by
  go_enter Tryd.func47, Tryd.ntmps47
  go_wp2
  go_loop [3] (fun i => ∃ k : Nat, k ≤ s.size ∧ i = .int .i64 k ∧ Hid (signLen (tx s) = k + signLen ((tx s).drop k))) (fun i => s.size - (intOf i).toNat)
  case atStart => exact ⟨0, Nat.zero_le _, rfl, by unfold Hid; simp⟩
  case round =>
    obtain ⟨k, hk, rfl, hall⟩ := hrel
    by_cases hlt : k < s.size
    · by_cases h1 : 48 ≤ ((s[k]'hlt).toNat : Int)
      · by_cases h2 : ((s[k]'hlt).toNat : Int) ≤ 57
        · have HF : Hid (signLen (tx s) = k) := by have := hall.out; rw [sl_dig s k hlt (dig_yes h1 h2)] at this; exact this
          go_wp2
          go_ret
          exact ⟨ret_int (by rw [HF.out]), rfl⟩
        · have HF : Hid (signLen (tx s) = k + 1 + signLen ((tx s).drop (k + 1))) := by have := hall.out; rw [sl_no s k hlt (dig_no2 (by omega))] at this; unfold Hid; omega
          go_wp2
          go_round
          case rel => exact ⟨k + 1, by omega, by go_num, HF⟩
          case measure => simp [intOf]; omega
      · have HF : Hid (signLen (tx s) = k + 1 + signLen ((tx s).drop (k + 1))) := by have := hall.out; rw [sl_no s k hlt (dig_no1 (by omega))] at this; unfold Hid; omega
        go_wp2
        go_round
        case rel => exact ⟨k + 1, by omega, by go_num, HF⟩
        case measure => simp [intOf]; omega
    · have HF : Hid (signLen (tx s) = k) := by have := hall.out; rw [sl_end s k hlt] at this; exact this
      have HE : Hid (k = s.size) := by unfold Hid; omega
      go_wp2
      go_ret
      exact ⟨ret_int (by rw [HF.out, HE.out]), rfl⟩

end Hst
end Go.Proofs.YtkcgbikgblkpjaaDoor
