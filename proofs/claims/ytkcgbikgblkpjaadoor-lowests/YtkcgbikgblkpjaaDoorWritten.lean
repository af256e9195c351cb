/- hoistref.digits, hoistref.Written. -/
import Derived.Test.YtkcgbikgblkpjaaDoorItoa
import Derived.Laws.IdiomStrings
namespace Go.Proofs.YtkcgbikgblkpjaaDoor
open Go.RowKit
namespace Hst

theorem byte_of (n : Nat) (h : n < 256) : ((n.toUInt8.toNat : Nat) : Int) = n := by simp; omega

set_option maxHeartbeats 1000000 in
theorem digits_nat (n : Nat) (w : World) (h : n < 100) :
    Calls Tryd.prog 39 #[.int .i64 n] w fun e w' => e = .returned (.string (bs (numT n))) ∧ Below w.heap.size w w' := by
  by_cases h10 : n < 10
  · have e : numT n = [(48 + n).toUInt8] := by simp [numT, h10]
    have hcv : (convert 75 9 (.slice (some ⟨w.heap.size, 0, none⟩) 1 1)).run Tryd.prog (w.alloc (.cells #[.int .u8 (48 + (n : Int))] 5)) = .ok (.string (bs [(48 + n).toUInt8])) (w.alloc (.cells #[.int .u8 (48 + (n : Int))] 5)) := run_convert_bytes_back (P := Tryd.prog) (w.alloc (.cells #[.int .u8 (48 + (n : Int))] 5)) 75 9 5 ⟨w.heap.size, 0, none⟩ 1 [(48 + n).toUInt8] Tryd.underlying75 Tryd.underlying5 Tryd.underlying9 (fun j hj => by
      match j, hj with
      | 0, _ => simp only [List.getElem_cons_zero, byte_of (48 + n) (by omega)]; simp [Addr.add])
    rw [e]
    clear e
    generalize bs [(48 + n).toUInt8] = q at *
    go_enter Tryd.func39, Tryd.ntmps39
    go_wp2
    go_ret
    exact ⟨rfl, (Below.refl _ _).alloc (Nat.le_refl _) _⟩
  · have e : numT n = [(48 + n / 10).toUInt8, (48 + n % 10).toUInt8] := by simp [numT, h10]
    have hcv : (convert 75 9 (.slice (some ⟨w.heap.size, 0, none⟩) 2 2)).run Tryd.prog (w.alloc (.cells #[.int .u8 (48 + (n : Int) / 10), .int .u8 (48 + (n : Int) % 10)] 5)) = .ok (.string (bs [(48 + n / 10).toUInt8, (48 + n % 10).toUInt8])) (w.alloc (.cells #[.int .u8 (48 + (n : Int) / 10), .int .u8 (48 + (n : Int) % 10)] 5)) := run_convert_bytes_back (P := Tryd.prog) (w.alloc (.cells #[.int .u8 (48 + (n : Int) / 10), .int .u8 (48 + (n : Int) % 10)] 5)) 75 9 5 ⟨w.heap.size, 0, none⟩ 2 [(48 + n / 10).toUInt8, (48 + n % 10).toUInt8] Tryd.underlying75 Tryd.underlying5 Tryd.underlying9 (fun j hj => by
      match j, hj with
      | 0, _ => simp only [List.getElem_cons_zero, byte_of (48 + n / 10) (by omega)]; simp [Addr.add]
      | 1, _ => simp only [List.getElem_cons_zero, List.getElem_cons_succ, byte_of (48 + n % 10) (by omega)]; simp [Addr.add])
    rw [e]
    clear e
    generalize bs [(48 + n / 10).toUInt8, (48 + n % 10).toUInt8] = q at *
    go_enter Tryd.func39, Tryd.ntmps39
    go_wp2
    go_ret
    exact ⟨rfl, (Below.refl _ _).alloc (Nat.le_refl _) _⟩
theorem digits_any (n : Int) (w : World) (h0 : 0 ≤ n) (h : n ≤ 99) :
    Calls Tryd.prog 39 #[.int .i64 n] w fun e w' => e = .returned (.string (bs (numT n.toNat))) ∧ Below w.heap.size w w' := by
  obtain ⟨m, rfl⟩ := Int.eq_ofNat_of_zero_le h0
  exact digits_nat m w (by omega)

set_option maxHeartbeats 1000000 in
theorem written_any (a b c : Int) (w : World) (ha0 : 0 ≤ a) (ha1 : a ≤ 99) (hb0 : 0 ≤ b) (hb1 : b ≤ 99) (hc0 : 0 ≤ c) (hc1 : c ≤ 99) :
    Calls Tryd.prog 21 #[verV a b c] w fun e w' => e = .returned (.string (bs (verT a.toNat b.toNat c.toNat))) ∧ Below w.heap.size w w' := by
  have HI1 := hid' (fun w => digits_any a w ha0 ha1)
  have HI2 := hid' (fun w => digits_any b w hb0 hb1)
  have HI3 := hid' (fun w => digits_any c w hc0 hc1)
  have HE : Hid (bs (numT a.toNat) ++ bs [46] ++ bs (numT b.toNat) ++ bs [46] ++ bs (numT c.toNat) = bs (verT a.toNat b.toNat c.toNat)) := by
    unfold Hid; rw [bs_append, bs_append, bs_append, bs_append]; rfl
  have l1 : (bs (numT a.toNat)).size ≤ 2 := by rw [bs_size]; exact numT_len _
  have l2 : (bs (numT b.toNat)).size ≤ 2 := by rw [bs_size]; exact numT_len _
  have l3 : (bs (numT c.toNat)).size ≤ 2 := by rw [bs_size]; exact numT_len _
  generalize bs (verT a.toNat b.toNat c.toNat) = q at *
  generalize bs (numT a.toNat) = q1 at *
  generalize bs (numT b.toNat) = q2 at *
  generalize bs (numT c.toNat) = q3 at *
  go_enter Tryd.func21, Tryd.ntmps21
  go_wp2_with fail
  refine (HI1.out _).mono ?_
  rintro e w1 ⟨rfl, hw1⟩
  have hz1 := hw1.size
  simp at hz1
  have d1 := (bcell hw1).1 w.heap.size 1 (by simp)
  have d2 := (bcell hw1).1 w.heap.size 2 (by simp)
  simp at d1 d2
  have HB1 := hid' (((Below.refl _ _).alloc (Nat.le_refl _) _).trans (hw1.mono (by simp)) : Below w.heap.size w w1)
  clear hw1
  go_wp2_with fail
  refine (HI2.out _).mono ?_
  rintro e w2 ⟨rfl, hw2⟩
  have hz2 := hw2.size
  have e2 := ((bcell hw2).1 w.heap.size 2 (by omega)).trans d2
  have HB2 := hid' (HB1.out.trans (hw2.mono (by omega)))
  clear hw2 d1 d2
  go_wp2_with fail
  refine (HI3.out _).mono ?_
  rintro e w3 ⟨rfl, hw3⟩
  have HB3 := hid' (HB2.out.trans (hw3.mono (by omega)))
  clear hw3 e2
  go_wp2
  go_ret
  exact ⟨ret_str HE.out, HB3.out⟩

end Hst
end Go.Proofs.YtkcgbikgblkpjaaDoor
