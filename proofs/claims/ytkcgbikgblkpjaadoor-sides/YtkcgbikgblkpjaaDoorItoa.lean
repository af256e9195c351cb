/- strconv.Itoa of a number from 0 to 99; versions.Text. -/
import Derived.Test.YtkcgbikgblkpjaaDoorLeaf
import Derived.ShutString
namespace Go.Proofs.YtkcgbikgblkpjaaDoor
open Go.RowKit
namespace Hst

/-- A number from 0 to 99, written. -/
def numT (n : Nat) : Tx := if n < 10 then [(48 + n).toUInt8] else [(48 + n / 10).toUInt8, (48 + n % 10).toUInt8]
theorem numT_len (n : Nat) : (numT n).length ≤ 2 := by unfold numT; split <;> simp
theorem hid' {p : Prop} (h : p) : Hid p := h
theorem ret_str {a b : ByteArray} (h : a = b) : Ending.returned (.string a) = .returned (.string b) := by rw [h]

theorem all_one (C : ByteArray) (hC : ∀ m, m < 10 → C.extract m (m + 1) = bs (numT m)) (n : Nat) (h : n < 10) : C.extract n (n + 1) = bs (numT n) := hC n h
theorem all_two (C : ByteArray) (hC : ∀ m, m < 100 → ¬ m < 10 → C.extract (m * 2) (m * 2 + 2) = bs (numT m)) (n : Nat) (h : n < 100) (h10 : ¬ n < 10) : C.extract (n * 2) (n * 2 + 2) = bs (numT n) := hC n h h10

set_option maxRecDepth 100000 in
set_option maxHeartbeats 1000000 in
theorem small_any (n : Nat) (w : World) (h : n < 100) :
    Calls Tryd.prog 49 #[.int .i64 n] w fun e w' => e = .returned (.string (bs (numT n))) ∧ w' = w := by
  by_cases h10 : n < 10
  · go_enter Tryd.func49, Tryd.ntmps49
    go_wp2
    go_ret
    refine ⟨ret_str (all_one _ ?_ n h10), rfl⟩
    decide +kernel
  · go_enter Tryd.func49, Tryd.ntmps49
    go_wp2
    go_ret
    refine ⟨ret_str (all_two _ ?_ n h h10), rfl⟩
    decide +kernel

set_option maxHeartbeats 1000000 in
theorem formatInt_any (n : Nat) (w : World) (h : n < 100) :
    Calls Tryd.prog 46 #[.int .i64 n, .int .i64 10] w fun e w' => e = .returned (.string (bs (numT n))) ∧ w' = w := by
  go_enter Tryd.func46, Tryd.ntmps46
  go_wp2_with (go_at_call 49; refine (small_any n _ h).mono ?_; rintro e w' ⟨rfl, rfl⟩)
  go_ret
  exact ⟨rfl, rfl⟩
set_option maxHeartbeats 1000000 in
theorem iitoa_any (n : Nat) (w : World) (h : n < 100) :
    Calls Tryd.prog 40 #[.int .i64 n] w fun e w' => e = .returned (.string (bs (numT n))) ∧ w' = w := by
  go_enter Tryd.func40, Tryd.ntmps40
  go_wp2_with (go_at_call 46; refine (formatInt_any n _ h).mono ?_; rintro e w' ⟨rfl, rfl⟩)
  go_ret
  exact ⟨rfl, rfl⟩
set_option maxHeartbeats 1000000 in
theorem itoa_nat (n : Nat) (w : World) (h : n < 100) :
    Calls Tryd.prog 22 #[.int .i64 n] w fun e w' => e = .returned (.string (bs (numT n))) ∧ w' = w := by
  go_enter Tryd.func22, Tryd.ntmps22
  go_wp2_with (go_at_call 40; refine (iitoa_any n _ h).mono ?_; rintro e w' ⟨rfl, rfl⟩)
  go_ret
  exact ⟨rfl, rfl⟩
theorem itoa_any (n : Int) (w : World) (h0 : 0 ≤ n) (h : n < 100) :
    Calls Tryd.prog 22 #[.int .i64 n] w fun e w' => e = .returned (.string (bs (numT n.toNat))) ∧ w' = w := by
  obtain ⟨m, rfl⟩ := Int.eq_ofNat_of_zero_le h0
  exact itoa_nat m w (by omega)

/-- A version's three numbers, written. -/
def verT (a b c : Nat) : Tx := numT a ++ [46] ++ numT b ++ [46] ++ numT c
theorem verT_len (a b c : Nat) : (verT a b c).length ≤ 8 := by
  have h1 := numT_len a; have h2 := numT_len b; have h3 := numT_len c
  simp [verT]; omega
theorem bs_append (l m : Tx) : bs l ++ bs m = bs (l ++ m) := by
  apply ByteArray.ext
  simp [bs]

set_option maxHeartbeats 1000000 in
theorem third_any (n : Int) (w : World) (h0 : 0 ≤ n) (h1 : n ≤ 999999) :
    Calls Tryd.prog 32 #[.int .i64 n] w fun e w' => e = .returned (.int .i64 (n % 100)) ∧ w' = w := by
  go_enter Tryd.func32, Tryd.ntmps32
  go_wp2
  go_ret
  exact ⟨rfl, rfl⟩

set_option maxHeartbeats 1000000 in
theorem text_any (n : Int) (w : World) (h0 : 0 ≤ n) (h1 : n ≤ 999999) :
    Calls Tryd.prog 16 #[.int .i64 n] w fun e w' => e = .returned (.string (bs (verT (n / 10000).toNat (n / 100 % 100).toNat (n % 100).toNat))) ∧ w' = w := by
  have HI1 := hid' (fun w => itoa_any (n / 10000) w (by omega) (by omega))
  have HI2 := hid' (fun w => itoa_any (n / 100 % 100) w (by omega) (by omega))
  have HI3 := hid' (fun w => itoa_any (n % 100) w (by omega) (by omega))
  have HE : Hid (bs (numT (n / 10000).toNat) ++ bs [46] ++ bs (numT (n / 100 % 100).toNat) ++ bs [46] ++ bs (numT (n % 100).toNat) = bs (verT (n / 10000).toNat (n / 100 % 100).toNat (n % 100).toNat)) := by
    unfold Hid; rw [bs_append, bs_append, bs_append, bs_append]; rfl
  have l1 : (bs (numT (n / 10000).toNat)).size ≤ 2 := by rw [bs_size]; exact numT_len _
  have l2 : (bs (numT (n / 100 % 100).toNat)).size ≤ 2 := by rw [bs_size]; exact numT_len _
  have l3 : (bs (numT (n % 100).toNat)).size ≤ 2 := by rw [bs_size]; exact numT_len _
  generalize bs (verT (n / 10000).toNat (n / 100 % 100).toNat (n % 100).toNat) = q at *
  generalize bs (numT (n / 10000).toNat) = q1 at *
  generalize bs (numT (n / 100 % 100).toNat) = q2 at *
  generalize bs (numT (n % 100).toNat) = q3 at *
  go_enter Tryd.func16, Tryd.ntmps16
  go_wp2_with fail
  refine (first_any _ _ h0 h1).mono ?_
  rintro e w' ⟨rfl, rfl⟩
  go_wp2_with fail
  refine (HI1.out _).mono ?_
  rintro e w' ⟨rfl, rfl⟩
  go_wp2_with fail
  refine (second_any _ _ h0 h1).mono ?_
  rintro e w' ⟨rfl, rfl⟩
  go_wp2_with fail
  refine (HI2.out _).mono ?_
  rintro e w' ⟨rfl, rfl⟩
  go_wp2_with fail
  refine (third_any _ _ h0 h1).mono ?_
  rintro e w' ⟨rfl, rfl⟩
  go_wp2_with fail
  refine (HI3.out _).mono ?_
  rintro e w' ⟨rfl, rfl⟩
  go_wp2
  go_ret
  exact ⟨ret_str HE.out, rfl⟩

end Hst
end Go.Proofs.YtkcgbikgblkpjaaDoor
