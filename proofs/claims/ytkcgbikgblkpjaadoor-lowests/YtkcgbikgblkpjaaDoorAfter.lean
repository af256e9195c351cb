/- hoistref.after. -/
import Derived.Test.YtkcgbikgblkpjaaDoorDefsm
import Derived.Test.YtkcgbikgblkpjaaDoorLeaf
namespace Go.Proofs.YtkcgbikgblkpjaaDoor
open Go.RowKit
namespace Hst

set_option maxHeartbeats 1000000 in
theorem after_any (a b c : Int) (w : World) (ha0 : 0 ≤ a) (ha1 : a ≤ 99) (hb0 : 0 ≤ b) (hb1 : b ≤ 99) (hc0 : 0 ≤ c) (hc1 : c ≤ 99) :
    Calls Tryd.prog 37 #[verV a b c] w fun e w' => e = .returned (.tuple #[verV (afterR ⟨a, b, c⟩).1.a (afterR ⟨a, b, c⟩).1.b (afterR ⟨a, b, c⟩).1.c, .bool (afterR ⟨a, b, c⟩).2]) ∧ Below w.heap.size w w' := by
  by_cases h1 : c < 99
  · have e : afterR ⟨a, b, c⟩ = (⟨a, b, c + 1⟩, true) := by simp [afterR, h1]
    rw [e]
    go_enter Tryd.func37, Tryd.ntmps37
    go_wp2
    exact bodyPost_ret (v := .tuple #[verV a b (c + 1), .bool true]) (by simp [results, Tryd.results37, go_sem]) rfl ⟨rfl, ((Below.refl _ _).alloc (Nat.le_refl _) _).alloc (by simp) _⟩
  · by_cases h2 : b < 99
    · have e : afterR ⟨a, b, c⟩ = (⟨a, b + 1, 0⟩, true) := by simp [afterR, h1, h2]
      rw [e]
      go_enter Tryd.func37, Tryd.ntmps37
      go_wp2
      exact bodyPost_ret (v := .tuple #[verV a (b + 1) 0, .bool true]) (by simp [results, Tryd.results37, go_sem]) rfl ⟨rfl, ((Below.refl _ _).alloc (Nat.le_refl _) _).alloc (by simp) _⟩
    · by_cases h3 : a < 99
      · have e : afterR ⟨a, b, c⟩ = (⟨a + 1, 0, 0⟩, true) := by simp [afterR, h1, h2, h3]
        rw [e]
        go_enter Tryd.func37, Tryd.ntmps37
        go_wp2
        exact bodyPost_ret (v := .tuple #[verV (a + 1) 0 0, .bool true]) (by simp [results, Tryd.results37, go_sem]) rfl ⟨rfl, ((Below.refl _ _).alloc (Nat.le_refl _) _).alloc (by simp) _⟩
      · have e : afterR ⟨a, b, c⟩ = (⟨a, b, c⟩, false) := by simp [afterR, h1, h2, h3]
        rw [e]
        go_enter Tryd.func37, Tryd.ntmps37
        go_wp2
        exact bodyPost_ret (v := .tuple #[verV a b c, .bool false]) (by simp [results, Tryd.results37, go_sem]) rfl ⟨rfl, ((Below.refl _ _).alloc (Nat.le_refl _) _).alloc (by simp) _⟩

end Hst
end Go.Proofs.YtkcgbikgblkpjaaDoor
