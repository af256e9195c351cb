/- More leaf functions: overlap, below, spanOf. -/
import Derived.Test.YtkcgbikgblkpjaaDoorLeaf
namespace Go.Proofs.YtkcgbikgblkpjaaDoor
open Go.RowKit
namespace Hst

set_option maxHeartbeats 1000000 in
theorem overlap_any (a b c d : Int) (w : World) :
    Calls Tryd.prog 42 #[spanV a b, spanV c d] w fun e w' => e = .returned (spanV (mx a c) (mn b d)) ∧ Below w.heap.size w w' := by
  unfold mx mn
  by_cases h1 : a < c
  all_goals by_cases h2 : d < b
  all_goals
    first | rw [if_pos h1] | rw [if_neg h1]
    first | rw [if_pos h2] | rw [if_neg h2]
    go_enter Tryd.func42, Tryd.ntmps42
    go_wp2
    refine bodyPost_ret (v := _) (by simp [results, Tryd.results42, go_sem]) rfl ⟨rfl, ?_⟩
    exact ((((Below.refl _ _).alloc (Nat.le_refl _) _).alloc (by simp) _).alloc (by simp; omega) _).alloc (by simp; omega) _

set_option maxHeartbeats 1000000 in
theorem below_any (a b c x y z : Int) (w : World) :
    Calls Tryd.prog 20 #[verV a b c, verV x y z] w fun e w' => e = .returned (.bool (belowB a b c x y z)) ∧ Below w.heap.size w w' := by
  unfold belowB
  by_cases h1 : a = x
  · have b1 : (a != x) = false := by simp [h1]
    by_cases h2 : b = y
    · have b2 : (b != y) = false := by simp [h2]
      rw [if_neg (by simp [h1]), if_neg (by simp [h2])]
      clear h1 h2
      go_enter Tryd.func20, Tryd.ntmps20
      go_wp2
      go_ret
      exact ⟨rfl, ((Below.refl _ _).alloc (Nat.le_refl _) _).alloc (by simp) _⟩
    · have b2 : (b != y) = true := by simp [h2]
      rw [if_neg (by simp [h1]), if_pos h2]
      clear h1 h2
      go_enter Tryd.func20, Tryd.ntmps20
      go_wp2
      go_ret
      exact ⟨rfl, ((Below.refl _ _).alloc (Nat.le_refl _) _).alloc (by simp) _⟩
  · have b1 : (a != x) = true := by simp [h1]
    rw [if_pos h1]
    clear h1
    go_enter Tryd.func20, Tryd.ntmps20
    go_wp2
    go_ret
    exact ⟨rfl, ((Below.refl _ _).alloc (Nat.le_refl _) _).alloc (by simp) _⟩


set_option maxHeartbeats 2000000 in
theorem spanOf_any (s : ByteArray) (v : Int) (w : World) (h0 : 0 ≤ v) (h1 : v ≤ 999999) :
    Calls Tryd.prog 48 #[.string s, .int .i64 v] w fun e w' => e = .returned (.tuple #[spanV (slo (spanOfP (tx s) v)) (shi (spanOfP (tx s) v)), .bool (sok (spanOfP (tx s) v))]) ∧ Below w.heap.size w w' := by
  by_cases c1 : tx s = [61]
  · have e : spanOfP (tx s) v = some (v, v) := by simp [spanOfP, c1]
    have b1 := str_eq s _ c1
    rw [e]
    clear e c1
    go_enter Tryd.func48, Tryd.ntmps48
    go_wp2
    exact bodyPost_ret (v := .tuple #[spanV (v) (v), .bool true]) (by simp [results, Tryd.results48, go_sem]) rfl ⟨rfl, (Below.refl _ _).alloc (Nat.le_refl _) _⟩
  have b1 := str_ne s _ c1
  by_cases c2 : tx s = [62]
  · have e : spanOfP (tx s) v = some (v + 1, 999999) := by simp [spanOfP, c2]
    have b2 := str_eq s _ c2
    rw [e]
    clear e c1 c2
    go_enter Tryd.func48, Tryd.ntmps48
    go_wp2
    exact bodyPost_ret (v := .tuple #[spanV (v + 1) (999999), .bool true]) (by simp [results, Tryd.results48, go_sem]) rfl ⟨rfl, (Below.refl _ _).alloc (Nat.le_refl _) _⟩
  have b2 := str_ne s _ c2
  by_cases c3 : tx s = [62, 61]
  · have e : spanOfP (tx s) v = some (v, 999999) := by simp [spanOfP, c3]
    have b3 := str_eq s _ c3
    rw [e]
    clear e c1 c2 c3
    go_enter Tryd.func48, Tryd.ntmps48
    go_wp2
    exact bodyPost_ret (v := .tuple #[spanV (v) (999999), .bool true]) (by simp [results, Tryd.results48, go_sem]) rfl ⟨rfl, (Below.refl _ _).alloc (Nat.le_refl _) _⟩
  have b3 := str_ne s _ c3
  by_cases c4 : tx s = [60]
  · have e : spanOfP (tx s) v = some (0, v - 1) := by simp [spanOfP, c4]
    have b4 := str_eq s _ c4
    rw [e]
    clear e c1 c2 c3 c4
    go_enter Tryd.func48, Tryd.ntmps48
    go_wp2
    exact bodyPost_ret (v := .tuple #[spanV (0) (v - 1), .bool true]) (by simp [results, Tryd.results48, go_sem]) rfl ⟨rfl, (Below.refl _ _).alloc (Nat.le_refl _) _⟩
  have b4 := str_ne s _ c4
  by_cases c5 : tx s = [60, 61]
  · have e : spanOfP (tx s) v = some (0, v) := by simp [spanOfP, c5]
    have b5 := str_eq s _ c5
    rw [e]
    clear e c1 c2 c3 c4 c5
    go_enter Tryd.func48, Tryd.ntmps48
    go_wp2
    exact bodyPost_ret (v := .tuple #[spanV (0) (v), .bool true]) (by simp [results, Tryd.results48, go_sem]) rfl ⟨rfl, (Below.refl _ _).alloc (Nat.le_refl _) _⟩
  have b5 := str_ne s _ c5
  by_cases c6 : tx s = [94]
  · have e : spanOfP (tx s) v = some (v, caretHi v) := by simp [spanOfP, c6]
    have b6 := str_eq s _ c6
    rw [e]
    clear e c1 c2 c3 c4 c5 c6
    go_enter Tryd.func48, Tryd.ntmps48
    go_wp2_with (go_at_call 53; refine (caret_any _ _ h0 h1).mono ?_; rintro e w' ⟨rfl, rfl⟩)
    exact bodyPost_ret (v := .tuple #[spanV (v) (caretHi v), .bool true]) (by simp [results, Tryd.results48, go_sem]) rfl ⟨rfl, (Below.refl _ _).alloc (Nat.le_refl _) _⟩
  have b6 := str_ne s _ c6
  by_cases c7 : tx s = [126]
  · have e : spanOfP (tx s) v = some (v, v - v % 100 + 100 - 1) := by simp [spanOfP, c7]
    have b7 := str_eq s _ c7
    rw [e]
    clear e c1 c2 c3 c4 c5 c6 c7
    go_enter Tryd.func48, Tryd.ntmps48
    go_wp2_with (go_at_call 54; refine (hiSecond_any _ _ h0 h1).mono ?_; rintro e w' ⟨rfl, rfl⟩)
    exact bodyPost_ret (v := .tuple #[spanV (v) (v - v % 100 + 100 - 1), .bool true]) (by simp [results, Tryd.results48, go_sem]) rfl ⟨rfl, (Below.refl _ _).alloc (Nat.le_refl _) _⟩
  have b7 := str_ne s _ c7
  have e : spanOfP (tx s) v = none := by simp [spanOfP, c1, c2, c3, c4, c5, c6, c7]
  rw [e]
  clear e c1 c2 c3 c4 c5 c6 c7
  go_enter Tryd.func48, Tryd.ntmps48
  go_wp2
  exact bodyPost_ret (v := .tuple #[spanV 0 0, .bool false]) (by simp [results, Tryd.results48, go_sem]) rfl ⟨rfl, (Below.refl _ _).alloc (Nat.le_refl _) _⟩

end Hst
end Go.Proofs.YtkcgbikgblkpjaaDoor
