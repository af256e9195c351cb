/- Defs, Leaf, Numt, Kdefs, Sdefs, Tdefs -/
import Derived.Lib.Strings
import Derived.Test.YtecocheolbkneaaDoorRows
import Derived.WalkKit
import Derived.WalkSpells
import Derived.WalkLawsBesides
namespace Go.Proofs.YtecocheolbkneaaDoor
namespace Hst

abbrev Tx := List UInt8
/-- A text's bytes. -/
def tx (s : ByteArray) : Tx := s.data.toList
/-- The text of some bytes. -/
def bs (l : Tx) : ByteArray := ⟨l.toArray⟩
theorem tx_bs (l : Tx) : tx (bs l) = l := by simp [tx, bs]
theorem bs_tx (s : ByteArray) : bs (tx s) = s := Lib.mk_data s
theorem tx_length (s : ByteArray) : (tx s).length = s.size := (Lib.size_eq s).symm
theorem bs_size (l : Tx) : (bs l).size = l.length := by rw [← tx_length, tx_bs]
theorem tx_extract (s : ByteArray) (a b : Nat) : tx (s.extract a b) = ((tx s).drop a).take (b - a) := Lib.extract_data s a b
theorem extract_bs (s : ByteArray) (a b : Nat) : s.extract a b = bs (((tx s).drop a).take (b - a)) := Lib.extract_eq s a b
theorem tx_drop (s : ByteArray) (k : Nat) (h : k < s.size) : (tx s).drop k = s[k] :: (tx s).drop (k + 1) := by
  rw [List.drop_eq_getElem_cons (by rw [tx_length]; exact h)]; rfl
theorem tx_take (s : ByteArray) (k : Nat) (h : k < s.size) : (tx s).take (k + 1) = (tx s).take k ++ [s[k]] := by
  rw [List.take_succ_eq_append_getElem (by rw [tx_length]; exact h)]; rfl
theorem tx_drop_end (s : ByteArray) : (tx s).drop s.size = [] := List.drop_of_length_le (by rw [tx_length]; exact Nat.le_refl _)
theorem tx_toList (s : ByteArray) : s.toList = tx s := Lib.toList_data s

/-- A byte that is a digit. -/
def dig (b : UInt8) : Bool := decide (48 ≤ b.toNat) && decide (b.toNat ≤ 57)
theorem dig_yes {b : UInt8} (h1 : (48 : Int) ≤ (b.toNat : Int)) (h2 : (b.toNat : Int) ≤ 57) : dig b = true := by
  simp [dig]; omega
theorem dig_no1 {b : UInt8} (h1 : (b.toNat : Int) < 48) : dig b = false := by
  simp [dig]; omega
theorem dig_no2 {b : UInt8} (h1 : (57 : Int) < (b.toNat : Int)) : dig b = false := by
  simp [dig]; omega

/-- How many bytes stand ahead of the first digit. -/
def signLen : Tx → Nat
  | [] => 0
  | b :: r => if dig b then 0 else signLen r + 1

/-- A text, at each byte n. -/
def splitL (n : Int) : Tx → List Tx
  | [] => [[]]
  | b :: r => if (b.toNat : Int) = n then [] :: splitL n r else
    match splitL n r with
    | [] => [[b]]
    | p :: ps => (b :: p) :: ps

theorem splitL_ne (n : Int) (l : Tx) : splitL n l ≠ [] := by
  cases l with
  | nil => simp [splitL]
  | cons b r => simp only [splitL]; split; · simp
                split <;> simp

theorem splitL_len (n : Int) (l : Tx) : (splitL n l).length ≤ l.length + 1 := by
  induction l with
  | nil => simp [splitL]
  | cons b r ih =>
    simp only [splitL]
    split
    · simp; exact ih
    · split
      · simp
      · rename_i h; rw [h] at ih; simp at ih ⊢; omega

/-- One byte more, that is no mark: the last piece grows. -/
theorem splitL_snoc_no (n : Int) (l : Tx) (b : UInt8) (hb : (b.toNat : Int) ≠ n) (d : List Tx) (p : Tx) (h : splitL n l = d ++ [p]) : splitL n (l ++ [b]) = d ++ [p ++ [b]] := by
  induction l generalizing d p with
  | nil =>
    simp [splitL] at h
    cases d with
    | nil => simp at h; subst h; simp [splitL, hb]
    | cons x y => simp at h
  | cons c r ih =>
    simp only [splitL, List.cons_append] at h ⊢
    by_cases hc : (c.toNat : Int) = n
    · rw [if_pos hc] at h ⊢
      cases d with
      | nil => simp at h; exact absurd h.2 (splitL_ne n r)
      | cons x y =>
        simp at h
        obtain ⟨rfl, h⟩ := h
        rw [ih y p h]; simp
    · rw [if_neg hc] at h ⊢
      rcases hs : splitL n r with _ | ⟨q, qs⟩
      · exact absurd hs (splitL_ne n r)
      · rw [hs] at h
        simp only at h
        cases d with
        | nil =>
          simp at h
          obtain ⟨rfl, rfl⟩ := h
          rw [ih [] q (by simp [hs])]; simp
        | cons x y =>
          simp at h
          obtain ⟨rfl, rfl⟩ := h
          rw [ih (q :: y) p (by simp [hs])]; simp

/-- One byte more, a mark: a new piece. -/
theorem splitL_snoc_yes (n : Int) (l : Tx) (b : UInt8) (hb : (b.toNat : Int) = n) : splitL n (l ++ [b]) = splitL n l ++ [[]] := by
  induction l with
  | nil => simp [splitL, hb]
  | cons c r ih =>
    simp only [splitL, List.cons_append]
    by_cases hc : (c.toNat : Int) = n
    · rw [if_pos hc, if_pos hc, ih]; simp
    · rw [if_neg hc, if_neg hc, ih]
      rcases hs : splitL n r with _ | ⟨q, qs⟩
      · exact absurd hs (splitL_ne n r)
      · simp

/-- What stands after k bytes: the pieces that are done, and where the next one begins. -/
def SplitAt (n : Int) (l : Tx) (k st : Nat) (d : List Tx) : Prop := splitL n (l.take k) = d ++ [(l.take k).drop st] ∧ st ≤ k

theorem splitAt_start (n : Int) (l : Tx) : SplitAt n l 0 0 [] := ⟨by simp [splitL], Nat.le_refl _⟩
theorem splitAt_no {n : Int} {l : Tx} {k st : Nat} {d : List Tx} (h : SplitAt n l k st d) (hk : k < l.length) (hb : ((l[k]'hk).toNat : Int) ≠ n) : SplitAt n l (k + 1) st d := by
  refine ⟨?_, by have := h.2; omega⟩
  have e := List.take_succ_eq_append_getElem hk
  rw [e, splitL_snoc_no n _ _ hb d _ h.1, List.drop_append_of_le_length (by simp; have := h.2; omega)]
theorem splitAt_yes {n : Int} {l : Tx} {k st : Nat} {d : List Tx} (h : SplitAt n l k st d) (hk : k < l.length) (hb : ((l[k]'hk).toNat : Int) = n) : SplitAt n l (k + 1) (k + 1) (d ++ [(l.drop st).take (k - st)]) := by
  refine ⟨?_, Nat.le_refl _⟩
  have e := List.take_succ_eq_append_getElem hk
  rw [e, splitL_snoc_yes n _ _ hb, h.1, List.drop_of_length_le (l := List.take k l ++ [l[k]]) (by simp; omega), List.drop_take]
theorem splitAt_end {n : Int} {l : Tx} {st : Nat} {d : List Tx} (h : SplitAt n l l.length st d) : splitL n l = d ++ [(l.drop st).take (l.length - st)] := by
  have := h.1
  rw [List.take_of_length_le (Nat.le_refl _)] at this
  rw [this, List.take_of_length_le (by simp)]
theorem splitAt_len {n : Int} {l : Tx} {k st : Nat} {d : List Tx} (h : SplitAt n l k st d) : d.length ≤ k := by
  have h1 := splitL_len n (l.take k)
  rw [h.1] at h1; simp at h1
  have := Nat.min_le_left k l.length
  omega

/-! ### numbers -/
/-- What the loop of parsePart comes to. -/
def partGo (acc : Int) : Tx → Option Int
  | [] => some acc
  | b :: r => if dig b = true then (if 99 < acc * 10 + ((b.toNat : Int) - 48) then none else partGo (acc * 10 + ((b.toNat : Int) - 48)) r) else none
/-- parsePart. -/
def partP (l : Tx) : Option Int := if l = [] then none else if l.head? = some 48 ∧ 1 < l.length then none else partGo 0 l
def ov (o : Option Int) : Int := o.getD 0
def oks (o : Option Int) : Bool := o.isSome
/-- What the loop of part comes to. -/
def partGoR (acc : Int) : Tx → Int
  | [] => acc
  | b :: r => if dig b = true then partGoR (10 * acc + ((b.toNat : Int) - 48)) r else -1
/-- part. -/
def partR (l : Tx) : Int := if l.length < 1 ∨ 2 < l.length ∨ (l.length = 2 ∧ l.head? = some 48) then -1 else partGoR 0 l

/-! ### versions -/
def verGo (acc : Int) : List Tx → Option Int
  | [] => some acc
  | p :: r => match partP p with
    | none => none
    | some n => verGo (acc * 100 + n) r
def versionP (l : Tx) : Option Int := if 8 < l.length then none else if (splitL 46 l).length ≠ 3 then none else verGo 0 (splitL 46 l)
structure V3 where
  a : Int
  b : Int
  c : Int
def versionR (l : Tx) : V3 × Bool := if 8 < l.length then (⟨0, 0, 0⟩, false) else if (splitL 46 l).length ≠ 3 then (⟨0, 0, 0⟩, false) else
  (⟨partR ((splitL 46 l).getD 0 []), partR ((splitL 46 l).getD 1 []), partR ((splitL 46 l).getD 2 [])⟩,
    decide (0 ≤ partR ((splitL 46 l).getD 0 [])) && decide (0 ≤ partR ((splitL 46 l).getD 1 [])) && decide (0 ≤ partR ((splitL 46 l).getD 2 [])))

/-! ### conditions -/
def mx (a b : Int) : Int := if a < b then b else a
def mn (a b : Int) : Int := if b < a then b else a
/-- The highest version that '^' lets by. -/
def caretHi (n : Int) : Int := if n / 10000 ≠ 0 then n - n % 10000 + 10000 - 1 else if n / 100 % 100 ≠ 0 then n - n % 100 + 100 - 1 else n
def belowB (a b c x y z : Int) : Bool := if a ≠ x then decide (a < x) else if b ≠ y then decide (b < y) else decide (c < z)
def spanOfP (sg : Tx) (v : Int) : Option (Int × Int) :=
  if sg = [61] then some (v, v) else if sg = [62] then some (v + 1, 999999) else if sg = [62, 61] then some (v, 999999) else
  if sg = [60] then some (0, v - 1) else if sg = [60, 61] then some (0, v) else if sg = [94] then some (v, caretHi v) else
  if sg = [126] then some (v, v - v % 100 + 100 - 1) else none
def condP (l : Tx) : Option (Int × Int) := if l = [42] then some (0, 999999) else
  match versionP (l.drop (signLen l)) with
  | none => none
  | some v => spanOfP (l.take (signLen l)) v
def slo (o : Option (Int × Int)) : Int := (o.getD (0, 0)).1
def shi (o : Option (Int × Int)) : Int := (o.getD (0, 0)).2
def sok (o : Option (Int × Int)) : Bool := o.isSome
def signedR (l : Tx) : Tx × Tx :=
  if l.take 2 = [62, 61] ∨ l.take 2 = [60, 61] then (l.take 2, l.drop 2) else
  match l with
  | [] => ([], [])
  | b :: r => if b = 61 ∨ b = 62 ∨ b = 60 ∨ b = 94 ∨ b = 126 then ([b], r) else ([], b :: r)
def isCondR (l : Tx) : Bool := decide (l = [42]) || (!(signedR l).1.isEmpty && (versionR (signedR l).2).2)
def eq3 (v w : V3) : Bool := decide (v.a = w.a) && decide (v.b = w.b) && decide (v.c = w.c)
def holdsS (sg : Tx) (w v : V3) : Bool :=
  let low := belowB v.a v.b v.c w.a w.b w.c
  if sg = [61] then eq3 v w else if sg = [62] then !low && !eq3 v w else if sg = [62, 61] then !low else
  if sg = [60] then low else if sg = [60, 61] then low || eq3 v w else
  if sg = [126] then !low && decide (v.a = w.a) && decide (v.b = w.b) else
  if sg = [94] then (if w.a ≠ 0 then !low && decide (v.a = w.a) else if w.b ≠ 0 then !low && decide (v.a = 0) && decide (v.b = w.b) else eq3 v w) else true
def holdsR (l : Tx) (v : V3) : Bool := holdsS (signedR l).1 (versionR (signedR l).2).1 v

/-! ### ranges -/
def altGo (lo hi : Int) : List Tx → Option (Int × Int)
  | [] => some (lo, hi)
  | c :: r => match condP c with
    | none => none
    | some s => altGo (mx lo s.1) (mn hi s.2) r
def altP (l : Tx) : Option (Int × Int) := altGo 0 999999 (splitL 38 l)
def rangeGo (acc : List (Int × Int)) : List Tx → Option (List (Int × Int))
  | [] => some acc
  | a :: r => match altP a with
    | none => none
    | some s => rangeGo (acc ++ [s]) r
def rangeP (l : Tx) : Option (List (Int × Int)) := if 60 < l.length then none else rangeGo [] (splitL 124 l)
def fitsP (sp : List (Int × Int)) (v : Int) : Bool := sp.any fun s => decide (s.1 ≤ v) && decide (v ≤ s.2)
def isAltR (l : Tx) : Bool := (splitL 38 l).all isCondR
def isRangeR (l : Tx) : Bool := decide (l.length ≤ 60) && (splitL 124 l).all isAltR
def altFitR (l : Tx) (v : V3) : Bool := (splitL 38 l).all fun c => holdsR c v
def fitR (l : Tx) (v : V3) : Bool := (splitL 124 l).any fun a => altFitR a v

/-- Fits of the program: its answer and its error. -/
def fitsProg (r v : Tx) : Bool × Int := match rangeP r with
  | none => (false, 1)
  | some sp => match versionP v with
    | none => (false, 2)
    | some n => (fitsP sp n, 0)
theorem fitsProg1 {r v : Tx} (h : rangeP r = none) : fitsProg r v = (false, 1) := by simp [fitsProg, h]
theorem fitsProg2 {r v : Tx} {sp : List (Int × Int)} (h : rangeP r = some sp) (h' : versionP v = none) : fitsProg r v = (false, 2) := by simp [fitsProg, h, h']
theorem fitsProg3 {r v : Tx} {sp : List (Int × Int)} {n : Int} (h : rangeP r = some sp) (h' : versionP v = some n) : fitsProg r v = (fitsP sp n, 0) := by simp [fitsProg, h, h']

end Hst
end Go.Proofs.YtecocheolbkneaaDoor
namespace Go.Proofs.YtecocheolbkneaaDoor
open Go.RowKit
namespace Hst
set_option maxRecDepth 100000

theorem bcell {W w1 : World} (hb : Below W.heap.size W w1) : (∀ b o, b < W.heap.size → w1.cell? ⟨b, o, none⟩ = W.cell? ⟨b, o, none⟩) ∧ (∀ b o, b < W.heap.size → w1.frozen? ⟨b, o, none⟩ = W.frozen? ⟨b, o, none⟩) :=
  ⟨fun b o h => hb.cell (p := ⟨b, o, none⟩) h, fun b o h => hb.frozen (p := ⟨b, o, none⟩) h⟩

theorem ret_int {k : IntKind} {a b : Int} (h : a = b) : Ending.returned (.int k a) = .returned (.int k b) := by rw [h]
theorem ret_bool {a b : Bool} (h : a = b) : Ending.returned (.bool a) = .returned (.bool b) := by rw [h]
theorem ret_int_bool {k : IntKind} {a b : Int} {c d : Bool} (h : a = b) (h' : c = d) : Ending.returned (.tuple #[.int k a, .bool c]) = .returned (.tuple #[.int k b, .bool d]) := by rw [h, h']
theorem ret_bool_int {k : IntKind} {a b : Int} {c d : Bool} (h' : c = d) (h : a = b) : Ending.returned (.tuple #[.bool c, .int k a]) = .returned (.tuple #[.bool d, .int k b]) := by rw [h, h']
theorem ret_str2 {a b c d : ByteArray} (h : a = b) (h' : c = d) : Ending.returned (.tuple #[.string a, .string c]) = .returned (.tuple #[.string b, .string d]) := by rw [h, h']
theorem str_eq (s : ByteArray) (l : Tx) (h : tx s = l) : (s.toList == l) = true := by rw [tx_toList, h]; simp
theorem str_ne (s : ByteArray) (l : Tx) (h : tx s ≠ l) : (s.toList == l) = false := by rw [tx_toList]; simp [h]

set_option maxHeartbeats 400000 in
theorem num_any (n : Int) (w : World) :
    Calls Tryd.prog 11 #[.int .i64 n] w fun e w' => e = .returned (.int .i64 n) ∧ w' = w := by
  go_enter Tryd.func11, Tryd.ntmps11
  go_wp2
  go_ret
  exact ⟨rfl, rfl⟩

set_option maxHeartbeats 400000 in
theorem first_any (n : Int) (w : World) (h0 : 0 ≤ n) (h1 : n ≤ 999999) :
    Calls Tryd.prog 59 #[.int .i64 n] w fun e w' => e = .returned (.int .i64 (n / 10000)) ∧ w' = w := by
  go_enter Tryd.func59, Tryd.ntmps59
  go_wp2
  go_ret
  exact ⟨rfl, rfl⟩

set_option maxHeartbeats 400000 in
theorem second_any (n : Int) (w : World) (h0 : 0 ≤ n) (h1 : n ≤ 999999) :
    Calls Tryd.prog 60 #[.int .i64 n] w fun e w' => e = .returned (.int .i64 (n / 100 % 100)) ∧ w' = w := by
  go_enter Tryd.func60, Tryd.ntmps60
  go_wp2
  go_ret
  exact ⟨rfl, rfl⟩

set_option maxHeartbeats 400000 in
theorem hiFirst_any (n : Int) (w : World) (h0 : 0 ≤ n) (h1 : n ≤ 999999) :
    Calls Tryd.prog 119 #[.int .i64 n] w fun e w' => e = .returned (.int .i64 (n - n % 10000 + 10000 - 1)) ∧ w' = w := by
  go_enter Tryd.func119, Tryd.ntmps119
  go_wp2
  go_ret
  exact ⟨rfl, rfl⟩

set_option maxHeartbeats 400000 in
theorem hiSecond_any (n : Int) (w : World) (h0 : 0 ≤ n) (h1 : n ≤ 999999) :
    Calls Tryd.prog 106 #[.int .i64 n] w fun e w' => e = .returned (.int .i64 (n - n % 100 + 100 - 1)) ∧ w' = w := by
  go_enter Tryd.func106, Tryd.ntmps106
  go_wp2
  go_ret
  exact ⟨rfl, rfl⟩

set_option maxHeartbeats 400000 in
theorem caret_any (n : Int) (w : World) (h0 : 0 ≤ n) (h1 : n ≤ 999999) :
    Calls Tryd.prog 105 #[.int .i64 n] w fun e w' => e = .returned (.int .i64 (caretHi n)) ∧ w' = w := by
  unfold caretHi
  by_cases c1 : n / 10000 = 0
  · have b1 : (n / 10000 != 0) = false := by simp [c1]
    by_cases c2 : n / 100 % 100 = 0
    · have b2 : (n / 100 % 100 != 0) = false := by simp [c2]
      rw [if_neg (by omega), if_neg (by omega)]
      have H1 : Hid (n / 10000 = 0) := c1; have H2 : Hid (n / 100 % 100 = 0) := c2
      clear c1 c2
      go_enter Tryd.func105, Tryd.ntmps105
      go_wp2_with (first | (go_at_call 59; refine (first_any _ _ h0 h1).mono ?_; rintro e w' ⟨rfl, rfl⟩) | (go_at_call 60; refine (second_any _ _ h0 h1).mono ?_; rintro e w' ⟨rfl, rfl⟩))
      go_ret
      exact ⟨rfl, rfl⟩
    · have b2 : (n / 100 % 100 != 0) = true := by simp [c2]
      rw [if_neg (by omega), if_pos c2]
      have H1 : Hid (n / 10000 = 0) := c1
      clear c1 c2
      go_enter Tryd.func105, Tryd.ntmps105
      go_wp2_with (first | (go_at_call 59; refine (first_any _ _ h0 h1).mono ?_; rintro e w' ⟨rfl, rfl⟩) | (go_at_call 60; refine (second_any _ _ h0 h1).mono ?_; rintro e w' ⟨rfl, rfl⟩) | (go_at_call 106; refine (hiSecond_any _ _ h0 h1).mono ?_; rintro e w' ⟨rfl, rfl⟩))
      go_ret
      exact ⟨rfl, rfl⟩
  · have b1 : (n / 10000 != 0) = true := by simp [c1]
    rw [if_pos c1]
    clear c1
    go_enter Tryd.func105, Tryd.ntmps105
    go_wp2_with (first | (go_at_call 59; refine (first_any _ _ h0 h1).mono ?_; rintro e w' ⟨rfl, rfl⟩) | (go_at_call 119; refine (hiFirst_any _ _ h0 h1).mono ?_; rintro e w' ⟨rfl, rfl⟩))
    go_ret
    exact ⟨rfl, rfl⟩

/-- A span, as a value. -/
abbrev spanV (lo hi : Int) : Value := .agg #[.int .i64 lo, .int .i64 hi]
/-- A version's three numbers, as a value. -/
abbrev verV (a b c : Int) : Value := .agg #[.int .i64 a, .int .i64 b, .int .i64 c]

set_option maxHeartbeats 400000 in
theorem every_any (w : World) :
    Calls Tryd.prog 82 #[] w fun e w' => e = .returned (spanV 0 999999) ∧ Below w.heap.size w w' := by
  go_enter Tryd.func82, Tryd.ntmps82
  go_wp2
  exact bodyPost_ret (v := spanV 0 999999) (by simp [results, Tryd.results82, go_sem]) rfl ⟨rfl, (Below.refl _ _).alloc (Nat.le_refl _) _⟩

set_option maxHeartbeats 400000 in
theorem isEmpty_any (lo hi : Int) (w : World) :
    Calls Tryd.prog 58 #[spanV lo hi] w fun e w' => e = .returned (.bool (decide (hi < lo))) ∧ Below w.heap.size w w' := by
  go_enter Tryd.func58, Tryd.ntmps58
  go_wp2
  go_ret
  exact ⟨rfl, (Below.refl _ _).alloc (Nat.le_refl _) _⟩

end Hst
end Go.Proofs.YtecocheolbkneaaDoor
namespace Go.Proofs.YtecocheolbkneaaDoor
open Go.RowKit
namespace Hst

/-- A number from 0 to 99, written. -/
def numT (n : Nat) : Tx := if n < 10 then [(48 + n).toUInt8] else [(48 + n / 10).toUInt8, (48 + n % 10).toUInt8]
theorem numT_len (n : Nat) : (numT n).length ≤ 2 := by unfold numT; split <;> simp
theorem hid' {p : Prop} (h : p) : Hid p := h
theorem ret_str {a b : ByteArray} (h : a = b) : Ending.returned (.string a) = .returned (.string b) := by rw [h]

/-- A version's three numbers, written. -/
def verT (a b c : Nat) : Tx := numT a ++ [46] ++ numT b ++ [46] ++ numT c
theorem verT_len (a b c : Nat) : (verT a b c).length ≤ 8 := by
  have h1 := numT_len a; have h2 := numT_len b; have h3 := numT_len c
  simp [verT]; omega
theorem bs_append (l m : Tx) : bs l ++ bs m = bs (l ++ m) := by
  apply ByteArray.ext
  simp [bs]

end Hst
end Go.Proofs.YtecocheolbkneaaDoor
namespace Go.Proofs.YtecocheolbkneaaDoor
namespace Hst
set_option maxRecDepth 100000

/-- Which of n things a raw number speaks of. -/
def pickZ (c : Int) (n : Nat) : Nat := (if c < 0 then (-(c + 1)) % (n : Int) else c % (n : Int)).toNat
theorem pickZ_lt (c : Int) {n : Nat} (h : 0 < n) : pickZ c n < n := by
  unfold pickZ
  have h1 := Int.emod_lt_of_pos (-(c + 1)) (b := (n : Int)) (by omega)
  have h2 := Int.emod_lt_of_pos c (b := (n : Int)) (by omega)
  have h3 := Int.emod_nonneg (-(c + 1)) (b := (n : Int)) (by omega)
  have h4 := Int.emod_nonneg c (b := (n : Int)) (by omega)
  split <;> omega

structure WantX where
  name : Int
  sign : Int
  major : Int
  minor : Int
/-- A raw number as it comes in. -/
def Raw (c : Int) : Prop := -9223372036854775808 ≤ c ∧ c ≤ 9223372036854775807
structure WantOk (x : WantX) : Prop where
  name : Raw x.name
  sign : Raw x.sign
  major : Raw x.major
  minor : Raw x.minor
structure ItemX where
  name : Int
  major : Int
  minor : Int
  wv : Value
  wants : List WantX
structure ItemOk (x : ItemX) : Prop where
  name : Raw x.name
  major : Raw x.major
  minor : Raw x.minor
  wants : ∀ y ∈ x.wants, WantOk y
def wantC (x : WantX) : List Value := [.int .i64 x.name, .int .i64 x.sign, .int .i64 x.major, .int .i64 x.minor]
theorem wantC_len (x : WantX) : (wantC x).length = 4 := rfl
def itemC (x : ItemX) : List Value := [.int .i64 x.name, .int .i64 x.major, .int .i64 x.minor, x.wv]
theorem itemC_len (x : ItemX) : (itemC x).length = 4 := rfl

def nameL : List Tx := [[97], [98], [99], [100], [101, 102], [120, 121, 122], [98], [99]]
def nameT (j : Nat) : Tx := nameL.getD j []
def nameK (k : Int) : Tx := nameT (pickZ k 8)
def numberK (a b : Int) : Tx := numT (pickZ a 3) ++ [46] ++ numT (pickZ b 3) ++ [46, 48]
def signL : List Tx := [[42], [94], [94], [61], [62, 61], [60, 61], [126], [60]]
def signT (j : Nat) : Tx := signL.getD j []
def rngK (x : WantX) : Tx := if pickZ x.sign 8 = 0 then [42] else signT (pickZ x.sign 8) ++ numberK x.major x.minor
def headK (name major minor : Int) : Tx := nameK name ++ [64] ++ numberK major minor
def wantT (x : WantX) : Tx := nameK x.name ++ rngK x
/-- The needs as text. -/
def wantsT : Bool → List WantX → Tx
  | _, [] => []
  | first, x :: r => (if first = true then [58] else [44]) ++ wantT x ++ wantsT false r
def entryK (x : ItemX) (back : Bool) : Tx := headK x.name x.major x.minor ++ wantsT true (if back = true then x.wants.reverse else x.wants)

theorem nameT_len (j : Nat) : (nameT j).length ≤ 3 := by
  unfold nameT
  rcases Nat.lt_or_ge j 8 with h | h
  · have : ∀ i : Fin 8, (nameL.getD i.1 []).length ≤ 3 := by decide
    exact this ⟨j, h⟩
  · rw [List.getD_eq_getElem?_getD, List.getElem?_eq_none (by simpa [nameL] using h)]; simp
theorem signT_len (j : Nat) : (signT j).length ≤ 2 := by
  unfold signT
  rcases Nat.lt_or_ge j 8 with h | h
  · have : ∀ i : Fin 8, (signL.getD i.1 []).length ≤ 2 := by decide
    exact this ⟨j, h⟩
  · rw [List.getD_eq_getElem?_getD, List.getElem?_eq_none (by simpa [signL] using h)]; simp
theorem nameK_len (k : Int) : (nameK k).length ≤ 3 := nameT_len _
theorem numberK_len (a b : Int) : (numberK a b).length ≤ 7 := by
  have h1 := numT_len (pickZ a 3); have h2 := numT_len (pickZ b 3)
  simp [numberK]; omega
theorem rngK_len (x : WantX) : (rngK x).length ≤ 9 := by
  unfold rngK
  have h1 := numberK_len x.major x.minor
  have h2 := signT_len (pickZ x.sign 8)
  split
  · simp
  · simp; omega
theorem headK_len (a b c : Int) : (headK a b c).length ≤ 11 := by
  have h1 := nameK_len a; have h2 := numberK_len b c
  simp [headK]; omega
theorem wantT_len (x : WantX) : (wantT x).length ≤ 12 := by
  have h1 := nameK_len x.name; have h2 := rngK_len x
  simp [wantT]; omega

end Hst
end Go.Proofs.YtecocheolbkneaaDoor
namespace Go.Proofs.YtecocheolbkneaaDoor
namespace Hst

structure NeedD where
  name : Tx
  rng : Tx
structure EntryD where
  name : Tx
  v : V3
  needs : List NeedD
structure PackD where
  path : Tx
  of : Nat
structure WhoD where
  path : Tx
  n : NeedD

/-- The order of texts. -/
def less (a b : Tx) : Bool := Op.bytesLess a b
def low (b : UInt8) : Bool := decide (97 ≤ b.toNat) && decide (b.toNat ≤ 122)
def isNameR (l : Tx) : Bool := decide (1 ≤ l.length) && decide (l.length ≤ 3) && l.all low
/-- How many letters stand ahead. -/
def lowLen : Tx → Nat
  | [] => 0
  | b :: r => if low b then lowLen r + 1 else 0
def needR (l : Tx) : NeedD × Bool := (⟨l.take (lowLen l), l.drop (lowLen l)⟩, isNameR (l.take (lowLen l)) && isRangeR (l.drop (lowLen l)))
/-- Where a need goes among others, sought from the end of the first k. -/
def insPos (x : NeedD) (out : List NeedD) : Nat → Nat
  | 0 => 0
  | k + 1 => if less x.name ((out.getD k ⟨[], []⟩).name) then insPos x out k else k + 1
def insR (x : NeedD) (out : List NeedD) : List NeedD := out.take (insPos x out out.length) ++ [x] ++ out.drop (insPos x out out.length)
def sortGo (out : List NeedD) : List NeedD → List NeedD
  | [] => out
  | x :: r => sortGo (insR x out) r
def sortedR (l : List NeedD) : List NeedD := sortGo [] l
def needsGo (acc : List NeedD) : List Tx → Option (List NeedD)
  | [] => some acc
  | t :: r => if (needR t).2 = true then needsGo (acc ++ [(needR t).1]) r else none
def needsR (s : Tx) : Option (List NeedD) := needsGo [] (splitL 44 s)
/-- A text at its first byte n. -/
def cutR (n : Int) : Tx → Tx × Tx × Bool
  | [] => ([], [], false)
  | b :: r => if (b.toNat : Int) = n then ([], r, true) else (b :: (cutR n r).1, (cutR n r).2.1, (cutR n r).2.2)

/-- The needs behind ':' of an entry, and whether they are needs. -/
def tailR (s : Tx) : List NeedD × Bool := match needsR s with
  | none => ([], false)
  | some l => (sortedR l, decide (l.length ≤ 6))
def entryR (s : Tx) : EntryD × Bool :=
  if (cutR 58 s).2.2 = true then
    (⟨(cutR 64 (cutR 58 s).1).1, (versionR (cutR 64 (cutR 58 s).1).2.1).1, (tailR (cutR 58 s).2.1).1⟩,
      (cutR 64 (cutR 58 s).1).2.2 && (versionR (cutR 64 (cutR 58 s).1).2.1).2 && (isNameR (cutR 64 (cutR 58 s).1).1 && (tailR (cutR 58 s).2.1).2))
  else
    (⟨(cutR 64 (cutR 58 s).1).1, (versionR (cutR 64 (cutR 58 s).1).2.1).1, []⟩,
      (cutR 64 (cutR 58 s).1).2.2 && (versionR (cutR 64 (cutR 58 s).1).2.1).2 && isNameR (cutR 64 (cutR 58 s).1).1)
def stockGo (acc : List EntryD) : List Tx → Option (List EntryD)
  | [] => some acc
  | t :: r => if (entryR t).2 = true then stockGo (acc ++ [(entryR t).1]) r else none
def stockR (s : Tx) : Option (List EntryD) := if s = [] then some [] else match stockGo [] (splitL 59 s) with
  | none => none
  | some l => if l.length ≤ 40 then some l else none
def sameE (e f : EntryD) : Bool := decide (e.name = f.name) && eq3 e.v f.v
def twiceN (pre : List NeedD) : List NeedD → Bool
  | [] => false
  | n :: r => (pre.any fun m => decide (m.name = n.name)) || twiceN (pre ++ [n]) r
def againGo (pre : List EntryD) : List EntryD → Bool
  | [] => false
  | e :: r => (pre.any fun f => sameE f e) || (twiceN [] e.needs || againGo (pre ++ [e]) r)
def againR (l : List EntryD) : Bool := againGo [] l
def newR (s : Tx) : Option (List EntryD) × Int := if 4000 < s.length then (none, 4) else match stockR s with
  | none => (none, 5)
  | some l => if againR l = true then (none, 6) else (some l, 0)

/-! ### trees -/
def isEnd (p : Tx) (i : Nat) : Bool := decide (i = p.length) || (decide (i = 0) || decide (p.getD i 0 = 47))
/-- The folders of a path, from i outwards. -/
def foldersGo (p : Tx) : Nat → List Tx
  | 0 => if isEnd p 0 then [p.take 0] else []
  | i + 1 => if isEnd p (i + 1) then p.take (i + 1) :: foldersGo p i else foldersGo p i
def foldersR (p : Tx) : List Tx := foldersGo p p.length
def joinR (p n : Tx) : Tx := if p = [] then n else p ++ [47] ++ n
/-- The index of the first package at a path. -/
def atGo (path : Tx) (i : Nat) : List PackD → Option Nat
  | [] => none
  | p :: r => if p.path = path then some i else atGo path (i + 1) r
def atR (l : List PackD) (path : Tx) : Option Nat := atGo path 0 l
def findGo (l : List PackD) (name : Tx) : List Tx → Option Nat
  | [] => none
  | f :: r => match atR l (joinR f name) with
    | some k => some k
    | none => findGo l name r
def findR (l : List PackD) (path name : Tx) : Option Nat := findGo l name (foldersR path)
def verOf (st : List EntryD) (k : Nat) : V3 := (st.getD k ⟨[], ⟨0, 0, 0⟩, []⟩).v
def needsOf (st : List EntryD) (k : Nat) : List NeedD := (st.getD k ⟨[], ⟨0, 0, 0⟩, []⟩).needs
def packAt (l : List PackD) (k : Nat) : PackD := l.getD k ⟨[], 0⟩
def metR (st : List EntryD) (l : List PackD) (w : WhoD) : Bool := match findR l w.path w.n.name with
  | none => false
  | some k => fitR w.n.rng (verOf st (packAt l k).of)
def allR (st : List EntryD) (needs : List NeedD) (l : List PackD) : List WhoD :=
  (needs.map fun n => ⟨[], n⟩) ++ l.flatMap fun p => (needsOf st p.of).map fun n => ⟨p.path, n⟩
def allMetR (st : List EntryD) (l : List PackD) (who : List WhoD) : Bool := who.all fun w => metR st l w
def hasR (l : List Tx) (p : Tx) : Bool := l.any fun x => decide (x = p)
/-- One pass of inUse: who counts adds what is found. -/
def passGo (l : List PackD) (used : List Tx) (more : Bool) : List WhoD → List Tx × Bool
  | [] => (used, more)
  | w :: r =>
    if (decide (w.path = []) || hasR used w.path) = true then
      match findR l w.path w.n.name with
      | none => passGo l used more r
      | some k => if hasR used (packAt l k).path = true then passGo l used more r else passGo l (used ++ [(packAt l k).path]) true r
    else passGo l used more r
def useGo (l : List PackD) (who : List WhoD) : Nat → List Tx → List Tx
  | 0, used => used
  | f + 1, used => if (passGo l used false who).2 = true then useGo l who f (passGo l used false who).1 else (passGo l used false who).1
def inUseR (st : List EntryD) (needs : List NeedD) (l : List PackD) : List Tx := useGo l (allR st needs l) (l.length + 1) []
def placedGo (p : PackD) (done : Bool) : List PackD → List PackD
  | [] => if done = true then [] else [p]
  | x :: r => if done = false ∧ less p.path x.path = true then p :: x :: placedGo p true r else x :: placedGo p done r
def placedR (l : List PackD) (p : PackD) : List PackD := placedGo p false l
def prunedGo (used : List Tx) (out : List PackD) : List PackD → List PackD
  | [] => out
  | p :: r => if hasR used p.path = true then prunedGo used (placedR out p) r else prunedGo used out r
def prunedR (st : List EntryD) (needs : List NeedD) (l : List PackD) : List PackD := prunedGo (inUseR st needs l) [] l
def favouredR (l : List PackD) (k : Nat) : Bool := l.any fun p => decide (p.of = k)
def greatGo (n : NeedD) (liked : Bool) (tree : List PackD) (st : List EntryD) (best : Option Nat) (i : Nat) : List EntryD → Option Nat
  | [] => best
  | e :: r =>
    if (decide (e.name = n.name) && fitR n.rng e.v) = true ∧ ((!liked) || favouredR tree i) = true ∧ (match best with | none => true | some b => belowB (verOf st b).a (verOf st b).b (verOf st b).c e.v.a e.v.b e.v.c) = true
    then greatGo n liked tree st (some i) (i + 1) r else greatGo n liked tree st best (i + 1) r
def greatestR (st : List EntryD) (n : NeedD) (liked : Bool) (tree : List PackD) : Option Nat := greatGo n liked tree st none 0 st
def chooseR (st : List EntryD) (n : NeedD) (tree : List PackD) : Option Nat := match greatestR st n true tree with
  | some k => some k
  | none => greatestR st n false tree
/-- lay: the folders are tried from the outermost on. -/
def layGo (st : List EntryD) (l : List PackD) (w : WhoD) (k : Nat) (done : List WhoD) : List Tx → List PackD
  | [] => l
  | f :: r =>
    if atR l (joinR f w.n.name) = none ∧ findR (l ++ [⟨joinR f w.n.name, k⟩]) w.path w.n.name = some l.length ∧ allMetR st (l ++ [⟨joinR f w.n.name, k⟩]) done = true
    then l ++ [⟨joinR f w.n.name, k⟩] else layGo st l w k done r
def layR (st : List EntryD) (l : List PackD) (w : WhoD) (k : Nat) (done : List WhoD) : List PackD := layGo st l w k done (foldersR w.path).reverse
/-- build: with fuel (at most 40 packages, so the list of those who need ends). -/
def buildGo (st : List EntryD) (tree : List PackD) : Nat → List PackD → List WhoD → List WhoD → Option (List PackD) × Int
  | 0, _, _, _ => (none, 9)
  | _ + 1, l, _, [] => (some l, 0)
  | f + 1, l, done, w :: todo =>
    if metR st l w = true then buildGo st tree f l (done ++ [w]) todo else
    match chooseR st w.n tree with
    | none => (none, 8)
    | some k => if 40 ≤ l.length then (none, 9) else
      buildGo st tree f (layR st l w k done) (done ++ [w]) (todo ++ allR st [] ((layR st l w k done).drop ((layR st l w k done).length - 1)))
def buildR (st : List EntryD) (needs : List NeedD) (tree : List PackD) : Option (List PackD) × Int := match buildGo st tree 1000 [] [] (allR st needs []) with
  | (none, e) => (none, e)
  | (some l, _) => (some (prunedR st needs l), 0)
def restR (l : List NeedD) (name : Tx) : List NeedD := l.filter fun n => !decide (n.name = name)
/-- A site: its stock, its needs, its packages. -/
structure SiteD where
  stock : List EntryD
  needs : List NeedD
  packs : List PackD
def settleR (s : SiteD) (needs : List NeedD) (tree : List PackD) : SiteD × Int := match buildR s.stock needs tree with
  | (none, e) => (s, e)
  | (some l, _) => (⟨s.stock, needs, l⟩, 0)
def addR (s : SiteD) (text : Tx) : SiteD × Int := if (needR text).2 = false then (s, 5) else
  if 6 ≤ (restR s.needs (needR text).1.name).length then (s, 7) else settleR s (sortedR (restR s.needs (needR text).1.name ++ [(needR text).1])) s.packs
def dropR (s : SiteD) (name : Tx) : SiteD × Int := if (restR s.needs name).length = s.needs.length then (s, 3) else settleR s (restR s.needs name) s.packs
def updateR (s : SiteD) : SiteD × Int := settleR s s.needs []
def neededGo : Bool → List NeedD → Tx
  | _, [] => []
  | first, n :: r => (if first = true then [] else [44]) ++ n.name ++ n.rng ++ neededGo false r
def neededR (s : SiteD) : Tx := neededGo true s.needs

end Hst
end Go.Proofs.YtecocheolbkneaaDoor
namespace Go.Proofs.YtecocheolbkneaaDoor
namespace Hst
set_option maxRecDepth 100000

def vtx (v : V3) : Tx := verT v.a.toNat v.b.toNat v.c.toNat
def textGo (st : List EntryD) : Bool → List PackD → Tx
  | _, [] => []
  | first, p :: r => (if first = true then [] else [59]) ++ p.path ++ [64] ++ vtx (verOf st p.of) ++ textGo st false r
def textR (st : List EntryD) (l : List PackD) : Tx := textGo st true l
theorem txg_next (st : List EntryD) (l : List PackD) (k : Nat) (h : k < l.length) (b : Bool) : textGo st b (l.drop k) = (if b = true then [] else [59]) ++ l[k].path ++ [64] ++ vtx (verOf st l[k].of) ++ textGo st false (l.drop (k + 1)) := by
  rw [List.drop_eq_getElem_cons h]; rfl
theorem txg_end (st : List EntryD) (l : List PackD) (k : Nat) (h : ¬ k < l.length) (b : Bool) : textGo st b (l.drop k) = [] := by
  rw [List.drop_of_length_le (by omega)]; cases b <;> rfl
def V3Ok (v : V3) : Prop := (0 ≤ v.a ∧ v.a ≤ 99) ∧ (0 ≤ v.b ∧ v.b ≤ 99) ∧ (0 ≤ v.c ∧ v.c ≤ 99)
/-- What Look answers, by the document. -/
def lookR (l : List PackD) (path name : Tx) : Tx × Int :=
  if (decide (0 < path.length) && (atR l path).isNone) = true then ([], 10) else if isNameR name = false then ([], 11) else match findR l path name with
  | none => ([], 3)
  | some k => ((packAt l k).path, 0)
theorem lkd_path {l : List PackD} {path name : Tx} (h0 : 0 < path.length) (h : atR l path = none) : lookR l path name = ([], 10) := by unfold lookR; rw [if_pos (by simp [h0, h])]
theorem lkd_name {l : List PackD} {path name : Tx} (h : (decide (0 < path.length) && (atR l path).isNone) = false) (h' : isNameR name = false) : lookR l path name = ([], 11) := by unfold lookR; rw [if_neg (by rw [h]; simp), if_pos h']
theorem lkd_find {l : List PackD} {path name : Tx} (h : (decide (0 < path.length) && (atR l path).isNone) = false) (h' : isNameR name = true) : lookR l path name = match findR l path name with
    | none => ([], 3)
    | some k => ((packAt l k).path, 0) := by unfold lookR; rw [if_neg (by rw [h]; simp), if_neg (by rw [h']; simp)]

end Hst
end Go.Proofs.YtecocheolbkneaaDoor
