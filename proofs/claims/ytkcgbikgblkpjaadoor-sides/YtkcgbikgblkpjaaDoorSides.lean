/- The law Sides. -/
import Derived.Test.YtkcgbikgblkpjaaDoorKeepv
import Derived.Test.YtkcgbikgblkpjaaDoorSidemath
namespace Go.Proofs.YtkcgbikgblkpjaaDoor
open Go.RowKit
namespace Hst

set_option maxHeartbeats 1000000 in
theorem known_any (w : World) :
    Calls Tryd.prog 9 #[] w fun e w' => e = .returned (.bool true) ∧ Below w.heap.size w w' := by
  have H1 : Hid (∀ w, Calls Tryd.prog 11 #[.string ⟨#[94, 49, 46, 50, 46, 48]⟩, .string ⟨#[49, 46, 57, 46, 57]⟩] w fun e w' => e = .returned (.tuple #[.bool true, .int .i64 0]) ∧ Below w.heap.size w w') := by
    intro w
    have h := pfits_any (bs [94, 49, 46, 50, 46, 48]) (bs [49, 46, 57, 46, 57]) w
    rw [tx_bs, tx_bs, known1] at h
    exact h
  have H2 : Hid (∀ w, Calls Tryd.prog 11 #[.string ⟨#[94, 49, 46, 50, 46, 48]⟩, .string ⟨#[50, 46, 48, 46, 48]⟩] w fun e w' => e = .returned (.tuple #[.bool false, .int .i64 0]) ∧ Below w.heap.size w w') := by
    intro w
    have h := pfits_any (bs [94, 49, 46, 50, 46, 48]) (bs [50, 46, 48, 46, 48]) w
    rw [tx_bs, tx_bs, known2] at h
    exact h
  go_enter Tryd.func9, Tryd.ntmps9
  go_wp2_with fail
  refine (H1.out _).mono ?_
  rintro e w1 ⟨rfl, hb1⟩
  go_wp2_with fail
  refine (H2.out _).mono ?_
  rintro e w2 ⟨rfl, hb2⟩
  have HB := hid' (hb1.trans (hb2.mono hb1.size))
  clear hb1 hb2
  go_wp2
  go_ret
  exact ⟨rfl, HB.out⟩

/-- What a call of Fits answers. -/
def FitsAns (r v : ByteArray) (a : Bool) (e : Int) : Prop := ∀ w, Calls Tryd.prog 11 #[.string r, .string v] w fun x w' => x = .returned (.tuple #[.bool a, .int .i64 e]) ∧ Below w.heap.size w w'
def MeetAns (r v : ByteArray) (a : Bool) (e : Int) : Prop := ∀ w, Calls Tryd.prog 12 #[.string r, .string v] w fun x w' => x = .returned (.tuple #[.bool a, .int .i64 e]) ∧ Below w.heap.size w w'
def LowAns (r q : ByteArray) (e : Int) : Prop := ∀ w, Calls Tryd.prog 6 #[.string r] w fun x w' => x = .returned (.tuple #[.string q, .int .i64 e]) ∧ Below w.heap.size w w'
def VerAns (x y z : Int) (v : ByteArray) : Prop := ∀ w, Calls Tryd.prog 10 #[.int .i64 x, .int .i64 y, .int .i64 z] w fun e w' => e = .returned (.string v) ∧ w' = w
theorem fitsAns {r v : ByteArray} {a : Bool} {e : Int} (h : fitsProg (tx r) (tx v) = (a, e)) : FitsAns r v a e := by
  intro w
  have := pfits_any r v w
  rw [h] at this
  exact this
theorem meetAns {r v : ByteArray} {a : Bool} {e : Int} (h : meetProg (tx r) (tx v) = (a, e)) : MeetAns r v a e := by
  intro w
  have := pmeet_any r v w
  rw [h] at this
  exact this
theorem lowAns {r : ByteArray} {q : Tx} {e : Int} (h : lowProg (tx r) = (q, e)) : LowAns r (bs q) e := by
  intro w
  have := plow_any r w
  rw [h] at this
  exact this

set_option maxRecDepth 100000 in
set_option maxHeartbeats 2000000 in
/-- One of the two is no range. -/
theorem sides_no (r s v : ByteArray) (x y z : Int) (w : World) (hv : VerAns x y z v) (a b : Bool) (e f : Int) (h1 : FitsAns r v a e) (h2 : FitsAns s v b f)
    (hc : (e = 1 ∧ a = false ∧ f = 1 ∧ b = false) ∨ (e = 1 ∧ a = false ∧ f = 0) ∨ (e = 0 ∧ f = 1 ∧ b = false)) :
    Calls Tryd.prog 4 #[.string r, .string s, .int .i64 x, .int .i64 y, .int .i64 z] w fun e w' => e = .returned (.bool true) ∧ Below w.heap.size w w' := by
  rcases hc with ⟨rfl, rfl, rfl, rfl⟩ | ⟨rfl, rfl, rfl⟩ | ⟨rfl, rfl, rfl⟩
  all_goals
    go_enter Tryd.func4, Tryd.ntmps4
    go_wp2_with fail
    refine (known_any _).mono ?_
    rintro e w1 ⟨rfl, hb1⟩
    have HB1 := hid' hb1
    clear hb1
    go_wp2_with fail
    refine (hv _).mono ?_
    rintro e w' ⟨rfl, rfl⟩
    go_wp2_with fail
    refine (h1 _).mono ?_
    rintro e w2 ⟨rfl, hb2⟩
    have HB2 := hid' (HB1.out.trans (hb2.mono HB1.out.size))
    clear hb2
    go_wp2_with fail
    refine (h2 _).mono ?_
    rintro e w3 ⟨rfl, hb3⟩
    have HB3 := hid' (HB2.out.trans (hb3.mono HB2.out.size))
    clear hb3
    go_wp2
    go_ret
    exact ⟨rfl, HB3.out⟩

set_option maxRecDepth 100000 in
set_option maxHeartbeats 4000000 in
/-- Both are ranges, and nothing fits the first. -/
theorem sides_none (r s v : ByteArray) (x y z : Int) (w : World) (hv : VerAns x y z v) (a b c m : Bool) (g : Int) (h1 : FitsAns r v a 0) (h2 : FitsAns s v b 0) (h3 : FitsAns (r ++ ⟨#[124]⟩ ++ s) v c g)
    (hm1 : MeetAns r s m 0) (hm2 : MeetAns s r m 0) (hr : r.size ≤ 60) (hs : s.size ≤ 60) (hlen : (r.size + s.size + 1 ≤ 60 ∧ g = 0 ∧ c = (a || b)) ∨ (60 < r.size + s.size + 1 ∧ g = 1 ∧ c = false))
    (ha : a = false) (q : ByteArray) (hq : q.toList.isEmpty = true) (hlo : LowAns r q 3) :
    Calls Tryd.prog 4 #[.string r, .string s, .int .i64 x, .int .i64 y, .int .i64 z] w fun e w' => e = .returned (.bool true) ∧ Below w.heap.size w w' := by
  subst ha
  rcases hlen with ⟨hl, rfl, rfl⟩ | ⟨hl, rfl, rfl⟩
  all_goals
    try simp only [Bool.false_or] at h3
    go_enter Tryd.func4, Tryd.ntmps4
    go_wp2_with fail
    refine (known_any _).mono ?_
    rintro e w1 ⟨rfl, hb1⟩
    have HB1 := hid' hb1
    clear hb1
    go_wp2_with fail
    refine (hv _).mono ?_
    rintro e w' ⟨rfl, rfl⟩
    go_wp2_with fail
    refine (h1 _).mono ?_
    rintro e w2 ⟨rfl, hb2⟩
    have HB2 := hid' (HB1.out.trans (hb2.mono HB1.out.size))
    clear hb2
    go_wp2_with fail
    refine (h2 _).mono ?_
    rintro e w3 ⟨rfl, hb3⟩
    have HB3 := hid' (HB2.out.trans (hb3.mono HB2.out.size))
    clear hb3
    go_wp2_with fail
    refine (h3 _).mono ?_
    rintro e w4 ⟨rfl, hb4⟩
    have HB4 := hid' (HB3.out.trans (hb4.mono HB3.out.size))
    clear hb4
    go_wp2_with fail
    refine (hm1 _).mono ?_
    rintro e w5 ⟨rfl, hb5⟩
    have HB5 := hid' (HB4.out.trans (hb5.mono HB4.out.size))
    clear hb5
    go_wp2_with fail
    refine (hm2 _).mono ?_
    rintro e w6 ⟨rfl, hb6⟩
    have HB6 := hid' (HB5.out.trans (hb6.mono HB5.out.size))
    clear hb6
    go_wp2_with fail
    refine (hlo _).mono ?_
    rintro e w7 ⟨rfl, hb7⟩
    have HB7 := hid' (HB6.out.trans (hb7.mono HB6.out.size))
    clear hb7
    go_wp2
    go_ret
    exact ⟨rfl, HB7.out⟩

set_option maxRecDepth 100000 in
set_option maxHeartbeats 4000000 in
/-- Both are ranges, and the first has a lowest version. -/
theorem sides_some (r s v : ByteArray) (x y z : Int) (w : World) (hv : VerAns x y z v) (a b c m : Bool) (g : Int) (h1 : FitsAns r v a 0) (h2 : FitsAns s v b 0) (h3 : FitsAns (r ++ ⟨#[124]⟩ ++ s) v c g)
    (hm1 : MeetAns r s m 0) (hm2 : MeetAns s r m 0) (hr : r.size ≤ 60) (hs : s.size ≤ 60) (hlen : (r.size + s.size + 1 ≤ 60 ∧ g = 0 ∧ c = (a || b)) ∨ (60 < r.size + s.size + 1 ∧ g = 1 ∧ c = false))
    (hmm : a = true → b = true → m = true) (q : ByteArray) (hlo : LowAns r q 0) (hq : q.size ≤ 8) (h4 : FitsAns r q true 0) (up : Bool) (h5 : FitsAns (⟨#[62, 61]⟩ ++ q) v up 0) (hup : a = true → up = true) :
    Calls Tryd.prog 4 #[.string r, .string s, .int .i64 x, .int .i64 y, .int .i64 z] w fun e w' => e = .returned (.bool true) ∧ Below w.heap.size w w' := by
  have hcs : (a = false ∧ up = false) ∨ (a = false ∧ up = true) ∨ (a = true ∧ up = true ∧ b = false) ∨ (a = true ∧ up = true ∧ b = true ∧ m = true) := by
    cases a <;> cases up <;> cases b <;> simp_all
  clear hmm hup
  rcases hcs with ⟨rfl, rfl⟩ | ⟨rfl, rfl⟩ | ⟨rfl, rfl, rfl⟩ | ⟨rfl, rfl, rfl, rfl⟩
  all_goals
    rcases hlen with ⟨hl, rfl, rfl⟩ | ⟨hl, rfl, rfl⟩
    all_goals
      try simp only [Bool.true_or] at h3
      go_enter Tryd.func4, Tryd.ntmps4
      go_wp2_with fail
      refine (known_any _).mono ?_
      rintro e w1 ⟨rfl, hb1⟩
      have HB1 := hid' hb1
      clear hb1
      go_wp2_with fail
      refine (hv _).mono ?_
      rintro e w' ⟨rfl, rfl⟩
      go_wp2_with fail
      refine (h1 _).mono ?_
      rintro e w2 ⟨rfl, hb2⟩
      have HB2 := hid' (HB1.out.trans (hb2.mono HB1.out.size))
      clear hb2
      go_wp2_with fail
      refine (h2 _).mono ?_
      rintro e w3 ⟨rfl, hb3⟩
      have HB3 := hid' (HB2.out.trans (hb3.mono HB2.out.size))
      clear hb3
      go_wp2_with fail
      refine (h3 _).mono ?_
      rintro e w4 ⟨rfl, hb4⟩
      have HB4 := hid' (HB3.out.trans (hb4.mono HB3.out.size))
      clear hb4
      go_wp2_with fail
      refine (hm1 _).mono ?_
      rintro e w5 ⟨rfl, hb5⟩
      have HB5 := hid' (HB4.out.trans (hb5.mono HB4.out.size))
      clear hb5
      go_wp2_with fail
      refine (hm2 _).mono ?_
      rintro e w6 ⟨rfl, hb6⟩
      have HB6 := hid' (HB5.out.trans (hb6.mono HB5.out.size))
      clear hb6
      go_wp2_with fail
      refine (hlo _).mono ?_
      rintro e w7 ⟨rfl, hb7⟩
      have HB7 := hid' (HB6.out.trans (hb7.mono HB6.out.size))
      clear hb7
      go_wp2_with fail
      refine (h4 _).mono ?_
      rintro e w8 ⟨rfl, hb8⟩
      have HB8 := hid' (HB7.out.trans (hb8.mono HB7.out.size))
      clear hb8
      go_wp2_with fail
      refine (h5 _).mono ?_
      rintro e w9 ⟨rfl, hb9⟩
      have HB9 := hid' (HB8.out.trans (hb9.mono HB8.out.size))
      clear hb9
      go_wp2
      go_ret
      exact ⟨rfl, HB9.out⟩

end Hst
end Go.Proofs.YtkcgbikgblkpjaaDoor
