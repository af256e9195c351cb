/- hoistkeep.pick, version, place. -/
import Derived.Test.YtkcgbikgblkpjaaDoorItoa
namespace Go.Proofs.YtkcgbikgblkpjaaDoor
open Go.RowKit
namespace Hst

/-- The number that a raw number speaks of, of a hundred. -/
def pickN (c : Int) : Nat := (if c < 0 then (-(c + 1)) % 100 else c % 100).toNat
theorem pickN_lt (c : Int) : pickN c < 100 := by unfold pickN; split <;> omega

set_option maxHeartbeats 1000000 in
theorem pick_any (c : Int) (w : World) (h0 : -9223372036854775808 ≤ c) (h1 : c ≤ 9223372036854775807) :
    Calls Tryd.prog 23 #[.int .i64 c, .int .i64 100] w fun e w' => e = .returned (.int .i64 (pickN c)) ∧ w' = w := by
  unfold pickN
  by_cases hc : c < 0
  · rw [if_pos hc]
    have e : (((-(c + 1)) % 100).toNat : Int) = (-(c + 1)) % 100 := by omega
    rw [e]
    have HE : Hid (-(c + 1).tmod 100 = (-(c + 1)) % 100) := by
      unfold Hid
      rw [← Int.neg_tmod, Int.tmod_eq_emod_of_nonneg (by omega)]
    go_enter Tryd.func23, Tryd.ntmps23
    go_wp2
    go_ret
    exact ⟨ret_int HE.out, rfl⟩
  · rw [if_neg hc]
    have e : ((c % 100).toNat : Int) = c % 100 := by omega
    rw [e]
    go_enter Tryd.func23, Tryd.ntmps23
    go_wp2
    go_ret
    exact ⟨rfl, rfl⟩

/-- An int that fits its kind. -/
structure I64 (c : Int) : Prop where
  lo : -9223372036854775808 ≤ c
  hi : c ≤ 9223372036854775807

set_option maxHeartbeats 1000000 in
theorem kversion_any (a b c : Int) (w : World) (ha : I64 a) (hb : I64 b) (hc : I64 c) :
    Calls Tryd.prog 10 #[.int .i64 a, .int .i64 b, .int .i64 c] w fun e w' => e = .returned (.string (bs (verT (pickN a) (pickN b) (pickN c)))) ∧ w' = w := by
  have HP1 := hid' (fun w => pick_any a w ha.lo ha.hi)
  have HP2 := hid' (fun w => pick_any b w hb.lo hb.hi)
  have HP3 := hid' (fun w => pick_any c w hc.lo hc.hi)
  have HI1 := hid' (fun w => itoa_nat (pickN a) w (pickN_lt a))
  have HI2 := hid' (fun w => itoa_nat (pickN b) w (pickN_lt b))
  have HI3 := hid' (fun w => itoa_nat (pickN c) w (pickN_lt c))
  have HE : Hid (bs (numT (pickN a)) ++ bs [46] ++ bs (numT (pickN b)) ++ bs [46] ++ bs (numT (pickN c)) = bs (verT (pickN a) (pickN b) (pickN c))) := by
    unfold Hid; rw [bs_append, bs_append, bs_append, bs_append]; rfl
  have l1 : (bs (numT (pickN a))).size ≤ 2 := by rw [bs_size]; exact numT_len _
  have l2 : (bs (numT (pickN b))).size ≤ 2 := by rw [bs_size]; exact numT_len _
  have l3 : (bs (numT (pickN c))).size ≤ 2 := by rw [bs_size]; exact numT_len _
  generalize bs (verT (pickN a) (pickN b) (pickN c)) = q at *
  generalize bs (numT (pickN a)) = q1 at *
  generalize bs (numT (pickN b)) = q2 at *
  generalize bs (numT (pickN c)) = q3 at *
  generalize pickN a = na at *
  generalize pickN b = nb at *
  generalize pickN c = nc at *
  go_enter Tryd.func10, Tryd.ntmps10
  go_wp2_with fail
  refine (HP1.out _).mono ?_
  rintro e w' ⟨rfl, rfl⟩
  go_wp2_with fail
  refine (HI1.out _).mono ?_
  rintro e w' ⟨rfl, rfl⟩
  go_wp2_with fail
  refine (HP2.out _).mono ?_
  rintro e w' ⟨rfl, rfl⟩
  go_wp2_with fail
  refine (HI2.out _).mono ?_
  rintro e w' ⟨rfl, rfl⟩
  go_wp2_with fail
  refine (HP3.out _).mono ?_
  rintro e w' ⟨rfl, rfl⟩
  go_wp2_with fail
  refine (HI3.out _).mono ?_
  rintro e w' ⟨rfl, rfl⟩
  go_wp2
  go_ret
  exact ⟨ret_str HE.out, rfl⟩

def placeN (a b c : Int) : Int := ((pickN a : Int) * 100 + pickN b) * 100 + pickN c

set_option maxHeartbeats 1000000 in
theorem kplace_any (a b c : Int) (w : World) (ha : I64 a) (hb : I64 b) (hc : I64 c) :
    Calls Tryd.prog 13 #[.int .i64 a, .int .i64 b, .int .i64 c] w fun e w' => e = .returned (.int .i64 (placeN a b c)) ∧ w' = w := by
  have HP1 := hid' (fun w => pick_any a w ha.lo ha.hi)
  have HP2 := hid' (fun w => pick_any b w hb.lo hb.hi)
  have HP3 := hid' (fun w => pick_any c w hc.lo hc.hi)
  have l1 := pickN_lt a; have l2 := pickN_lt b; have l3 := pickN_lt c
  unfold placeN
  generalize pickN a = na at *
  generalize pickN b = nb at *
  generalize pickN c = nc at *
  go_enter Tryd.func13, Tryd.ntmps13
  go_wp2_with fail
  refine (HP1.out _).mono ?_
  rintro e w' ⟨rfl, rfl⟩
  go_wp2_with fail
  refine (HP2.out _).mono ?_
  rintro e w' ⟨rfl, rfl⟩
  go_wp2_with fail
  refine (HP3.out _).mono ?_
  rintro e w' ⟨rfl, rfl⟩
  go_wp2
  go_ret
  exact ⟨rfl, rfl⟩

end Hst
end Go.Proofs.YtkcgbikgblkpjaaDoor
