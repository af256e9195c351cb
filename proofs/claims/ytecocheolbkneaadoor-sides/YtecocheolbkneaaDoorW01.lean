/- Defs, Leaf, Numt, Itoa, Keepv -/
import Derived.Lib.Strings
import Derived.Test.YtecocheolbkneaaDoorRows
import Derived.WalkKit
import Derived.WalkSpells
import Derived.WalkLawsBesides
import Derived.ShutString
namespace Go.Proofs.YtecocheolbkneaaDoor
namespace Hst

abbrev Tx := List UInt8
/-- A text's bytes. -/
def tx (s : ByteArray) : Tx := s.data.toList
/-- The text of some bytes. -/
def bs (l : Tx) : ByteArray := ⟨l.toArray⟩
theorem tx_bs (l : Tx) : tx (bs l) = l := by simp [tx, bs]
theorem bs_tx (s : ByteArray) : bs (tx s) = s := Lib.mk_data s
theorem tx_length (s : ByteArray) : (tx s).length = s.size := (Lib.size_eq s).symm
theorem bs_size (l : Tx) : (bs l).size = l.length := by rw [← tx_length, tx_bs]
theorem tx_extract (s : ByteArray) (a b : Nat) : tx (s.extract a b) = ((tx s).drop a).take (b - a) := Lib.extract_data s a b
theorem extract_bs (s : ByteArray) (a b : Nat) : s.extract a b = bs (((tx s).drop a).take (b - a)) := Lib.extract_eq s a b
theorem tx_drop (s : ByteArray) (k : Nat) (h : k < s.size) : (tx s).drop k = s[k] :: (tx s).drop (k + 1) := by
  rw [List.drop_eq_getElem_cons (by rw [tx_length]; exact h)]; rfl
theorem tx_take (s : ByteArray) (k : Nat) (h : k < s.size) : (tx s).take (k + 1) = (tx s).take k ++ [s[k]] := by
  rw [List.take_succ_eq_append_getElem (by rw [tx_length]; exact h)]; rfl
theorem tx_drop_end (s : ByteArray) : (tx s).drop s.size = [] := List.drop_of_length_le (by rw [tx_length]; exact Nat.le_refl _)
theorem tx_toList (s : ByteArray) : s.toList = tx s := Lib.toList_data s

/-- A byte that is a digit. -/
def dig (b : UInt8) : Bool := decide (48 ≤ b.toNat) && decide (b.toNat ≤ 57)
theorem dig_yes {b : UInt8} (h1 : (48 : Int) ≤ (b.toNat : Int)) (h2 : (b.toNat : Int) ≤ 57) : dig b = true := by
  simp [dig]; omega
theorem dig_no1 {b : UInt8} (h1 : (b.toNat : Int) < 48) : dig b = false := by
  simp [dig]; omega
theorem dig_no2 {b : UInt8} (h1 : (57 : Int) < (b.toNat : Int)) : dig b = false := by
  simp [dig]; omega

/-- How many bytes stand ahead of the first digit. -/
def signLen : Tx → Nat
  | [] => 0
  | b :: r => if dig b then 0 else signLen r + 1

/-- A text, at each byte n. -/
def splitL (n : Int) : Tx → List Tx
  | [] => [[]]
  | b :: r => if (b.toNat : Int) = n then [] :: splitL n r else
    match splitL n r with
    | [] => [[b]]
    | p :: ps => (b :: p) :: ps

theorem splitL_ne (n : Int) (l : Tx) : splitL n l ≠ [] := by
  cases l with
  | nil => simp [splitL]
  | cons b r => simp only [splitL]; split; · simp
                split <;> simp

theorem splitL_len (n : Int) (l : Tx) : (splitL n l).length ≤ l.length + 1 := by
  induction l with
  | nil => simp [splitL]
  | cons b r ih =>
    simp only [splitL]
    split
    · simp; exact ih
    · split
      · simp
      · rename_i h; rw [h] at ih; simp at ih ⊢; omega

/-- One byte more, that is no mark: the last piece grows. -/
theorem splitL_snoc_no (n : Int) (l : Tx) (b : UInt8) (hb : (b.toNat : Int) ≠ n) (d : List Tx) (p : Tx) (h : splitL n l = d ++ [p]) : splitL n (l ++ [b]) = d ++ [p ++ [b]] := by
  induction l generalizing d p with
  | nil =>
    simp [splitL] at h
    cases d with
    | nil => simp at h; subst h; simp [splitL, hb]
    | cons x y => simp at h
  | cons c r ih =>
    simp only [splitL, List.cons_append] at h ⊢
    by_cases hc : (c.toNat : Int) = n
    · rw [if_pos hc] at h ⊢
      cases d with
      | nil => simp at h; exact absurd h.2 (splitL_ne n r)
      | cons x y =>
        simp at h
        obtain ⟨rfl, h⟩ := h
        rw [ih y p h]; simp
    · rw [if_neg hc] at h ⊢
      rcases hs : splitL n r with _ | ⟨q, qs⟩
      · exact absurd hs (splitL_ne n r)
      · rw [hs] at h
        simp only at h
        cases d with
        | nil =>
          simp at h
          obtain ⟨rfl, rfl⟩ := h
          rw [ih [] q (by simp [hs])]; simp
        | cons x y =>
          simp at h
          obtain ⟨rfl, rfl⟩ := h
          rw [ih (q :: y) p (by simp [hs])]; simp

/-- One byte more, a mark: a new piece. -/
theorem splitL_snoc_yes (n : Int) (l : Tx) (b : UInt8) (hb : (b.toNat : Int) = n) : splitL n (l ++ [b]) = splitL n l ++ [[]] := by
  induction l with
  | nil => simp [splitL, hb]
  | cons c r ih =>
    simp only [splitL, List.cons_append]
    by_cases hc : (c.toNat : Int) = n
    · rw [if_pos hc, if_pos hc, ih]; simp
    · rw [if_neg hc, if_neg hc, ih]
      rcases hs : splitL n r with _ | ⟨q, qs⟩
      · exact absurd hs (splitL_ne n r)
      · simp

/-- What stands after k bytes: the pieces that are done, and where the next one begins. -/
def SplitAt (n : Int) (l : Tx) (k st : Nat) (d : List Tx) : Prop := splitL n (l.take k) = d ++ [(l.take k).drop st] ∧ st ≤ k

theorem splitAt_start (n : Int) (l : Tx) : SplitAt n l 0 0 [] := ⟨by simp [splitL], Nat.le_refl _⟩
theorem splitAt_no {n : Int} {l : Tx} {k st : Nat} {d : List Tx} (h : SplitAt n l k st d) (hk : k < l.length) (hb : ((l[k]'hk).toNat : Int) ≠ n) : SplitAt n l (k + 1) st d := by
  refine ⟨?_, by have := h.2; omega⟩
  have e := List.take_succ_eq_append_getElem hk
  rw [e, splitL_snoc_no n _ _ hb d _ h.1, List.drop_append_of_le_length (by simp; have := h.2; omega)]
theorem splitAt_yes {n : Int} {l : Tx} {k st : Nat} {d : List Tx} (h : SplitAt n l k st d) (hk : k < l.length) (hb : ((l[k]'hk).toNat : Int) = n) : SplitAt n l (k + 1) (k + 1) (d ++ [(l.drop st).take (k - st)]) := by
  refine ⟨?_, Nat.le_refl _⟩
  have e := List.take_succ_eq_append_getElem hk
  rw [e, splitL_snoc_yes n _ _ hb, h.1, List.drop_of_length_le (l := List.take k l ++ [l[k]]) (by simp; omega), List.drop_take]
theorem splitAt_end {n : Int} {l : Tx} {st : Nat} {d : List Tx} (h : SplitAt n l l.length st d) : splitL n l = d ++ [(l.drop st).take (l.length - st)] := by
  have := h.1
  rw [List.take_of_length_le (Nat.le_refl _)] at this
  rw [this, List.take_of_length_le (by simp)]
theorem splitAt_len {n : Int} {l : Tx} {k st : Nat} {d : List Tx} (h : SplitAt n l k st d) : d.length ≤ k := by
  have h1 := splitL_len n (l.take k)
  rw [h.1] at h1; simp at h1
  have := Nat.min_le_left k l.length
  omega

/-! ### numbers -/
/-- What the loop of parsePart comes to. -/
def partGo (acc : Int) : Tx → Option Int
  | [] => some acc
  | b :: r => if dig b = true then (if 99 < acc * 10 + ((b.toNat : Int) - 48) then none else partGo (acc * 10 + ((b.toNat : Int) - 48)) r) else none
/-- parsePart. -/
def partP (l : Tx) : Option Int := if l = [] then none else if l.head? = some 48 ∧ 1 < l.length then none else partGo 0 l
def ov (o : Option Int) : Int := o.getD 0
def oks (o : Option Int) : Bool := o.isSome
/-- What the loop of part comes to. -/
def partGoR (acc : Int) : Tx → Int
  | [] => acc
  | b :: r => if dig b = true then partGoR (10 * acc + ((b.toNat : Int) - 48)) r else -1
/-- part. -/
def partR (l : Tx) : Int := if l.length < 1 ∨ 2 < l.length ∨ (l.length = 2 ∧ l.head? = some 48) then -1 else partGoR 0 l

/-! ### versions -/
def verGo (acc : Int) : List Tx → Option Int
  | [] => some acc
  | p :: r => match partP p with
    | none => none
    | some n => verGo (acc * 100 + n) r
def versionP (l : Tx) : Option Int := if 8 < l.length then none else if (splitL 46 l).length ≠ 3 then none else verGo 0 (splitL 46 l)
structure V3 where
  a : Int
  b : Int
  c : Int
def versionR (l : Tx) : V3 × Bool := if 8 < l.length then (⟨0, 0, 0⟩, false) else if (splitL 46 l).length ≠ 3 then (⟨0, 0, 0⟩, false) else
  (⟨partR ((splitL 46 l).getD 0 []), partR ((splitL 46 l).getD 1 []), partR ((splitL 46 l).getD 2 [])⟩,
    decide (0 ≤ partR ((splitL 46 l).getD 0 [])) && decide (0 ≤ partR ((splitL 46 l).getD 1 [])) && decide (0 ≤ partR ((splitL 46 l).getD 2 [])))

/-! ### conditions -/
def mx (a b : Int) : Int := if a < b then b else a
def mn (a b : Int) : Int := if b < a then b else a
/-- The highest version that '^' lets by. -/
def caretHi (n : Int) : Int := if n / 10000 ≠ 0 then n - n % 10000 + 10000 - 1 else if n / 100 % 100 ≠ 0 then n - n % 100 + 100 - 1 else n
def belowB (a b c x y z : Int) : Bool := if a ≠ x then decide (a < x) else if b ≠ y then decide (b < y) else decide (c < z)
def spanOfP (sg : Tx) (v : Int) : Option (Int × Int) :=
  if sg = [61] then some (v, v) else if sg = [62] then some (v + 1, 999999) else if sg = [62, 61] then some (v, 999999) else
  if sg = [60] then some (0, v - 1) else if sg = [60, 61] then some (0, v) else if sg = [94] then some (v, caretHi v) else
  if sg = [126] then some (v, v - v % 100 + 100 - 1) else none
def condP (l : Tx) : Option (Int × Int) := if l = [42] then some (0, 999999) else
  match versionP (l.drop (signLen l)) with
  | none => none
  | some v => spanOfP (l.take (signLen l)) v
def slo (o : Option (Int × Int)) : Int := (o.getD (0, 0)).1
def shi (o : Option (Int × Int)) : Int := (o.getD (0, 0)).2
def sok (o : Option (Int × Int)) : Bool := o.isSome
def signedR (l : Tx) : Tx × Tx :=
  if l.take 2 = [62, 61] ∨ l.take 2 = [60, 61] then (l.take 2, l.drop 2) else
  match l with
  | [] => ([], [])
  | b :: r => if b = 61 ∨ b = 62 ∨ b = 60 ∨ b = 94 ∨ b = 126 then ([b], r) else ([], b :: r)
def isCondR (l : Tx) : Bool := decide (l = [42]) || (!(signedR l).1.isEmpty && (versionR (signedR l).2).2)
def eq3 (v w : V3) : Bool := decide (v.a = w.a) && decide (v.b = w.b) && decide (v.c = w.c)
def holdsS (sg : Tx) (w v : V3) : Bool :=
  let low := belowB v.a v.b v.c w.a w.b w.c
  if sg = [61] then eq3 v w else if sg = [62] then !low && !eq3 v w else if sg = [62, 61] then !low else
  if sg = [60] then low else if sg = [60, 61] then low || eq3 v w else
  if sg = [126] then !low && decide (v.a = w.a) && decide (v.b = w.b) else
  if sg = [94] then (if w.a ≠ 0 then !low && decide (v.a = w.a) else if w.b ≠ 0 then !low && decide (v.a = 0) && decide (v.b = w.b) else eq3 v w) else true
def holdsR (l : Tx) (v : V3) : Bool := holdsS (signedR l).1 (versionR (signedR l).2).1 v

/-! ### ranges -/
def altGo (lo hi : Int) : List Tx → Option (Int × Int)
  | [] => some (lo, hi)
  | c :: r => match condP c with
    | none => none
    | some s => altGo (mx lo s.1) (mn hi s.2) r
def altP (l : Tx) : Option (Int × Int) := altGo 0 999999 (splitL 38 l)
def rangeGo (acc : List (Int × Int)) : List Tx → Option (List (Int × Int))
  | [] => some acc
  | a :: r => match altP a with
    | none => none
    | some s => rangeGo (acc ++ [s]) r
def rangeP (l : Tx) : Option (List (Int × Int)) := if 60 < l.length then none else rangeGo [] (splitL 124 l)
def fitsP (sp : List (Int × Int)) (v : Int) : Bool := sp.any fun s => decide (s.1 ≤ v) && decide (v ≤ s.2)
def isAltR (l : Tx) : Bool := (splitL 38 l).all isCondR
def isRangeR (l : Tx) : Bool := decide (l.length ≤ 60) && (splitL 124 l).all isAltR
def altFitR (l : Tx) (v : V3) : Bool := (splitL 38 l).all fun c => holdsR c v
def fitR (l : Tx) (v : V3) : Bool := (splitL 124 l).any fun a => altFitR a v

/-- Fits of the program: its answer and its error. -/
def fitsProg (r v : Tx) : Bool × Int := match rangeP r with
  | none => (false, 1)
  | some sp => match versionP v with
    | none => (false, 2)
    | some n => (fitsP sp n, 0)
theorem fitsProg1 {r v : Tx} (h : rangeP r = none) : fitsProg r v = (false, 1) := by simp [fitsProg, h]
theorem fitsProg2 {r v : Tx} {sp : List (Int × Int)} (h : rangeP r = some sp) (h' : versionP v = none) : fitsProg r v = (false, 2) := by simp [fitsProg, h, h']
theorem fitsProg3 {r v : Tx} {sp : List (Int × Int)} {n : Int} (h : rangeP r = some sp) (h' : versionP v = some n) : fitsProg r v = (fitsP sp n, 0) := by simp [fitsProg, h, h']

end Hst
end Go.Proofs.YtecocheolbkneaaDoor
namespace Go.Proofs.YtecocheolbkneaaDoor
open Go.RowKit
namespace Hst
set_option maxRecDepth 100000

theorem bcell {W w1 : World} (hb : Below W.heap.size W w1) : (∀ b o, b < W.heap.size → w1.cell? ⟨b, o, none⟩ = W.cell? ⟨b, o, none⟩) ∧ (∀ b o, b < W.heap.size → w1.frozen? ⟨b, o, none⟩ = W.frozen? ⟨b, o, none⟩) :=
  ⟨fun b o h => hb.cell (p := ⟨b, o, none⟩) h, fun b o h => hb.frozen (p := ⟨b, o, none⟩) h⟩

theorem ret_int {k : IntKind} {a b : Int} (h : a = b) : Ending.returned (.int k a) = .returned (.int k b) := by rw [h]
theorem ret_bool {a b : Bool} (h : a = b) : Ending.returned (.bool a) = .returned (.bool b) := by rw [h]
theorem ret_int_bool {k : IntKind} {a b : Int} {c d : Bool} (h : a = b) (h' : c = d) : Ending.returned (.tuple #[.int k a, .bool c]) = .returned (.tuple #[.int k b, .bool d]) := by rw [h, h']
theorem ret_bool_int {k : IntKind} {a b : Int} {c d : Bool} (h' : c = d) (h : a = b) : Ending.returned (.tuple #[.bool c, .int k a]) = .returned (.tuple #[.bool d, .int k b]) := by rw [h, h']
theorem ret_str2 {a b c d : ByteArray} (h : a = b) (h' : c = d) : Ending.returned (.tuple #[.string a, .string c]) = .returned (.tuple #[.string b, .string d]) := by rw [h, h']
theorem str_eq (s : ByteArray) (l : Tx) (h : tx s = l) : (s.toList == l) = true := by rw [tx_toList, h]; simp
theorem str_ne (s : ByteArray) (l : Tx) (h : tx s ≠ l) : (s.toList == l) = false := by rw [tx_toList]; simp [h]

set_option maxHeartbeats 400000 in
theorem num_any (n : Int) (w : World) :
    Calls Tryd.prog 11 #[.int .i64 n] w fun e w' => e = .returned (.int .i64 n) ∧ w' = w := by
  go_enter Tryd.func11, Tryd.ntmps11
  go_wp2
  go_ret
  exact ⟨rfl, rfl⟩

set_option maxHeartbeats 400000 in
theorem first_any (n : Int) (w : World) (h0 : 0 ≤ n) (h1 : n ≤ 999999) :
    Calls Tryd.prog 59 #[.int .i64 n] w fun e w' => e = .returned (.int .i64 (n / 10000)) ∧ w' = w := by
  go_enter Tryd.func59, Tryd.ntmps59
  go_wp2
  go_ret
  exact ⟨rfl, rfl⟩

set_option maxHeartbeats 400000 in
theorem second_any (n : Int) (w : World) (h0 : 0 ≤ n) (h1 : n ≤ 999999) :
    Calls Tryd.prog 60 #[.int .i64 n] w fun e w' => e = .returned (.int .i64 (n / 100 % 100)) ∧ w' = w := by
  go_enter Tryd.func60, Tryd.ntmps60
  go_wp2
  go_ret
  exact ⟨rfl, rfl⟩

set_option maxHeartbeats 400000 in
theorem hiFirst_any (n : Int) (w : World) (h0 : 0 ≤ n) (h1 : n ≤ 999999) :
    Calls Tryd.prog 119 #[.int .i64 n] w fun e w' => e = .returned (.int .i64 (n - n % 10000 + 10000 - 1)) ∧ w' = w := by
  go_enter Tryd.func119, Tryd.ntmps119
  go_wp2
  go_ret
  exact ⟨rfl, rfl⟩

set_option maxHeartbeats 400000 in
theorem hiSecond_any (n : Int) (w : World) (h0 : 0 ≤ n) (h1 : n ≤ 999999) :
    Calls Tryd.prog 106 #[.int .i64 n] w fun e w' => e = .returned (.int .i64 (n - n % 100 + 100 - 1)) ∧ w' = w := by
  go_enter Tryd.func106, Tryd.ntmps106
  go_wp2
  go_ret
  exact ⟨rfl, rfl⟩

set_option maxHeartbeats 400000 in
theorem caret_any (n : Int) (w : World) (h0 : 0 ≤ n) (h1 : n ≤ 999999) :
    Calls Tryd.prog 105 #[.int .i64 n] w fun e w' => e = .returned (.int .i64 (caretHi n)) ∧ w' = w := by
  unfold caretHi
  by_cases c1 : n / 10000 = 0
  · have b1 : (n / 10000 != 0) = false := by simp [c1]
    by_cases c2 : n / 100 % 100 = 0
    · have b2 : (n / 100 % 100 != 0) = false := by simp [c2]
      rw [if_neg (by omega), if_neg (by omega)]
      have H1 : Hid (n / 10000 = 0) := c1; have H2 : Hid (n / 100 % 100 = 0) := c2
      clear c1 c2
      go_enter Tryd.func105, Tryd.ntmps105
      go_wp2_with (first | (go_at_call 59; refine (first_any _ _ h0 h1).mono ?_; rintro e w' ⟨rfl, rfl⟩) | (go_at_call 60; refine (second_any _ _ h0 h1).mono ?_; rintro e w' ⟨rfl, rfl⟩))
      go_ret
      exact ⟨rfl, rfl⟩
    · have b2 : (n / 100 % 100 != 0) = true := by simp [c2]
      rw [if_neg (by omega), if_pos c2]
      have H1 : Hid (n / 10000 = 0) := c1
      clear c1 c2
      go_enter Tryd.func105, Tryd.ntmps105
      go_wp2_with (first | (go_at_call 59; refine (first_any _ _ h0 h1).mono ?_; rintro e w' ⟨rfl, rfl⟩) | (go_at_call 60; refine (second_any _ _ h0 h1).mono ?_; rintro e w' ⟨rfl, rfl⟩) | (go_at_call 106; refine (hiSecond_any _ _ h0 h1).mono ?_; rintro e w' ⟨rfl, rfl⟩))
      go_ret
      exact ⟨rfl, rfl⟩
  · have b1 : (n / 10000 != 0) = true := by simp [c1]
    rw [if_pos c1]
    clear c1
    go_enter Tryd.func105, Tryd.ntmps105
    go_wp2_with (first | (go_at_call 59; refine (first_any _ _ h0 h1).mono ?_; rintro e w' ⟨rfl, rfl⟩) | (go_at_call 119; refine (hiFirst_any _ _ h0 h1).mono ?_; rintro e w' ⟨rfl, rfl⟩))
    go_ret
    exact ⟨rfl, rfl⟩

/-- A span, as a value. -/
abbrev spanV (lo hi : Int) : Value := .agg #[.int .i64 lo, .int .i64 hi]
/-- A version's three numbers, as a value. -/
abbrev verV (a b c : Int) : Value := .agg #[.int .i64 a, .int .i64 b, .int .i64 c]

set_option maxHeartbeats 400000 in
theorem every_any (w : World) :
    Calls Tryd.prog 82 #[] w fun e w' => e = .returned (spanV 0 999999) ∧ Below w.heap.size w w' := by
  go_enter Tryd.func82, Tryd.ntmps82
  go_wp2
  exact bodyPost_ret (v := spanV 0 999999) (by simp [results, Tryd.results82, go_sem]) rfl ⟨rfl, (Below.refl _ _).alloc (Nat.le_refl _) _⟩

set_option maxHeartbeats 400000 in
theorem isEmpty_any (lo hi : Int) (w : World) :
    Calls Tryd.prog 58 #[spanV lo hi] w fun e w' => e = .returned (.bool (decide (hi < lo))) ∧ Below w.heap.size w w' := by
  go_enter Tryd.func58, Tryd.ntmps58
  go_wp2
  go_ret
  exact ⟨rfl, (Below.refl _ _).alloc (Nat.le_refl _) _⟩

end Hst
end Go.Proofs.YtecocheolbkneaaDoor
namespace Go.Proofs.YtecocheolbkneaaDoor
open Go.RowKit
namespace Hst

/-- A number from 0 to 99, written. -/
def numT (n : Nat) : Tx := if n < 10 then [(48 + n).toUInt8] else [(48 + n / 10).toUInt8, (48 + n % 10).toUInt8]
theorem numT_len (n : Nat) : (numT n).length ≤ 2 := by unfold numT; split <;> simp
theorem hid' {p : Prop} (h : p) : Hid p := h
theorem ret_str {a b : ByteArray} (h : a = b) : Ending.returned (.string a) = .returned (.string b) := by rw [h]

/-- A version's three numbers, written. -/
def verT (a b c : Nat) : Tx := numT a ++ [46] ++ numT b ++ [46] ++ numT c
theorem verT_len (a b c : Nat) : (verT a b c).length ≤ 8 := by
  have h1 := numT_len a; have h2 := numT_len b; have h3 := numT_len c
  simp [verT]; omega
theorem bs_append (l m : Tx) : bs l ++ bs m = bs (l ++ m) := by
  apply ByteArray.ext
  simp [bs]

end Hst
end Go.Proofs.YtecocheolbkneaaDoor
namespace Go.Proofs.YtecocheolbkneaaDoor
open Go.RowKit
namespace Hst
set_option maxRecDepth 100000

theorem all_one (C : ByteArray) (hC : ∀ m, m < 10 → C.extract m (m + 1) = bs (numT m)) (n : Nat) (h : n < 10) : C.extract n (n + 1) = bs (numT n) := hC n h
theorem all_two (C : ByteArray) (hC : ∀ m, m < 100 → ¬ m < 10 → C.extract (m * 2) (m * 2 + 2) = bs (numT m)) (n : Nat) (h : n < 100) (h10 : ¬ n < 10) : C.extract (n * 2) (n * 2 + 2) = bs (numT n) := hC n h h10

set_option maxRecDepth 100000 in
set_option maxHeartbeats 1000000 in
theorem small_any (n : Nat) (w : World) (h : n < 100) :
    Calls Tryd.prog 94 #[.int .i64 n] w fun e w' => e = .returned (.string (bs (numT n))) ∧ w' = w := by
  by_cases h10 : n < 10
  · go_enter Tryd.func94, Tryd.ntmps94
    go_wp2
    go_ret
    refine ⟨ret_str (all_one _ ?_ n h10), rfl⟩
    decide +kernel
  · go_enter Tryd.func94, Tryd.ntmps94
    go_wp2
    go_ret
    refine ⟨ret_str (all_two _ ?_ n h h10), rfl⟩
    decide +kernel

set_option maxHeartbeats 1000000 in
theorem formatInt_any (n : Nat) (w : World) (h : n < 100) :
    Calls Tryd.prog 85 #[.int .i64 n, .int .i64 10] w fun e w' => e = .returned (.string (bs (numT n))) ∧ w' = w := by
  go_enter Tryd.func85, Tryd.ntmps85
  go_wp2_with (go_at_call 94; refine (small_any n _ h).mono ?_; rintro e w' ⟨rfl, rfl⟩)
  go_ret
  exact ⟨rfl, rfl⟩
set_option maxHeartbeats 1000000 in
theorem iitoa_any (n : Nat) (w : World) (h : n < 100) :
    Calls Tryd.prog 69 #[.int .i64 n] w fun e w' => e = .returned (.string (bs (numT n))) ∧ w' = w := by
  go_enter Tryd.func69, Tryd.ntmps69
  go_wp2_with (go_at_call 85; refine (formatInt_any n _ h).mono ?_; rintro e w' ⟨rfl, rfl⟩)
  go_ret
  exact ⟨rfl, rfl⟩
set_option maxHeartbeats 1000000 in
theorem itoa_nat (n : Nat) (w : World) (h : n < 100) :
    Calls Tryd.prog 39 #[.int .i64 n] w fun e w' => e = .returned (.string (bs (numT n))) ∧ w' = w := by
  go_enter Tryd.func39, Tryd.ntmps39
  go_wp2_with (go_at_call 69; refine (iitoa_any n _ h).mono ?_; rintro e w' ⟨rfl, rfl⟩)
  go_ret
  exact ⟨rfl, rfl⟩
theorem itoa_any (n : Int) (w : World) (h0 : 0 ≤ n) (h : n < 100) :
    Calls Tryd.prog 39 #[.int .i64 n] w fun e w' => e = .returned (.string (bs (numT n.toNat))) ∧ w' = w := by
  obtain ⟨m, rfl⟩ := Int.eq_ofNat_of_zero_le h0
  exact itoa_nat m w (by omega)

set_option maxHeartbeats 1000000 in
theorem third_any (n : Int) (w : World) (h0 : 0 ≤ n) (h1 : n ≤ 999999) :
    Calls Tryd.prog 61 #[.int .i64 n] w fun e w' => e = .returned (.int .i64 (n % 100)) ∧ w' = w := by
  go_enter Tryd.func61, Tryd.ntmps61
  go_wp2
  go_ret
  exact ⟨rfl, rfl⟩

set_option maxHeartbeats 1000000 in
theorem text_any (n : Int) (w : World) (h0 : 0 ≤ n) (h1 : n ≤ 999999) :
    Calls Tryd.prog 33 #[.int .i64 n] w fun e w' => e = .returned (.string (bs (verT (n / 10000).toNat (n / 100 % 100).toNat (n % 100).toNat))) ∧ w' = w := by
  have HI1 := hid' (fun w => itoa_any (n / 10000) w (by omega) (by omega))
  have HI2 := hid' (fun w => itoa_any (n / 100 % 100) w (by omega) (by omega))
  have HI3 := hid' (fun w => itoa_any (n % 100) w (by omega) (by omega))
  have HE : Hid (bs (numT (n / 10000).toNat) ++ bs [46] ++ bs (numT (n / 100 % 100).toNat) ++ bs [46] ++ bs (numT (n % 100).toNat) = bs (verT (n / 10000).toNat (n / 100 % 100).toNat (n % 100).toNat)) := by
    unfold Hid; rw [bs_append, bs_append, bs_append, bs_append]; rfl
  have l1 : (bs (numT (n / 10000).toNat)).size ≤ 2 := by rw [bs_size]; exact numT_len _
  have l2 : (bs (numT (n / 100 % 100).toNat)).size ≤ 2 := by rw [bs_size]; exact numT_len _
  have l3 : (bs (numT (n % 100).toNat)).size ≤ 2 := by rw [bs_size]; exact numT_len _
  generalize bs (verT (n / 10000).toNat (n / 100 % 100).toNat (n % 100).toNat) = q at *
  generalize bs (numT (n / 10000).toNat) = q1 at *
  generalize bs (numT (n / 100 % 100).toNat) = q2 at *
  generalize bs (numT (n % 100).toNat) = q3 at *
  go_enter Tryd.func33, Tryd.ntmps33
  go_wp2_with fail
  refine (first_any _ _ h0 h1).mono ?_
  rintro e w' ⟨rfl, rfl⟩
  go_wp2_with fail
  refine (HI1.out _).mono ?_
  rintro e w' ⟨rfl, rfl⟩
  go_wp2_with fail
  refine (second_any _ _ h0 h1).mono ?_
  rintro e w' ⟨rfl, rfl⟩
  go_wp2_with fail
  refine (HI2.out _).mono ?_
  rintro e w' ⟨rfl, rfl⟩
  go_wp2_with fail
  refine (third_any _ _ h0 h1).mono ?_
  rintro e w' ⟨rfl, rfl⟩
  go_wp2_with fail
  refine (HI3.out _).mono ?_
  rintro e w' ⟨rfl, rfl⟩
  go_wp2
  go_ret
  exact ⟨ret_str HE.out, rfl⟩

end Hst
end Go.Proofs.YtecocheolbkneaaDoor
namespace Go.Proofs.YtecocheolbkneaaDoor
open Go.RowKit
namespace Hst
set_option maxRecDepth 100000

/-- The number that a raw number speaks of, of a hundred. -/
def pickN (c : Int) : Nat := (if c < 0 then (-(c + 1)) % 100 else c % 100).toNat
theorem pickN_lt (c : Int) : pickN c < 100 := by unfold pickN; split <;> omega

set_option maxHeartbeats 1000000 in
theorem vpick_any (c : Int) (w : World) (h0 : -9223372036854775808 ≤ c) (h1 : c ≤ 9223372036854775807) :
    Calls Tryd.prog 22 #[.int .i64 c, .int .i64 100] w fun e w' => e = .returned (.int .i64 (pickN c)) ∧ w' = w := by
  unfold pickN
  by_cases hc : c < 0
  · rw [if_pos hc]
    have e : (((-(c + 1)) % 100).toNat : Int) = (-(c + 1)) % 100 := by omega
    rw [e]
    have HE : Hid (-(c + 1).tmod 100 = (-(c + 1)) % 100) := by
      unfold Hid
      rw [← Int.neg_tmod, Int.tmod_eq_emod_of_nonneg (by omega)]
    go_enter Tryd.func22, Tryd.ntmps22
    go_wp2
    go_ret
    exact ⟨ret_int HE.out, rfl⟩
  · rw [if_neg hc]
    have e : ((c % 100).toNat : Int) = c % 100 := by omega
    rw [e]
    go_enter Tryd.func22, Tryd.ntmps22
    go_wp2
    go_ret
    exact ⟨rfl, rfl⟩

/-- An int that fits its kind. -/
structure I64 (c : Int) : Prop where
  lo : -9223372036854775808 ≤ c
  hi : c ≤ 9223372036854775807

set_option maxHeartbeats 1000000 in
theorem kversion_any (a b c : Int) (w : World) (ha : I64 a) (hb : I64 b) (hc : I64 c) :
    Calls Tryd.prog 13 #[.int .i64 a, .int .i64 b, .int .i64 c] w fun e w' => e = .returned (.string (bs (verT (pickN a) (pickN b) (pickN c)))) ∧ w' = w := by
  have HP1 := hid' (fun w => vpick_any a w ha.lo ha.hi)
  have HP2 := hid' (fun w => vpick_any b w hb.lo hb.hi)
  have HP3 := hid' (fun w => vpick_any c w hc.lo hc.hi)
  have HI1 := hid' (fun w => itoa_nat (pickN a) w (pickN_lt a))
  have HI2 := hid' (fun w => itoa_nat (pickN b) w (pickN_lt b))
  have HI3 := hid' (fun w => itoa_nat (pickN c) w (pickN_lt c))
  have HE : Hid (bs (numT (pickN a)) ++ bs [46] ++ bs (numT (pickN b)) ++ bs [46] ++ bs (numT (pickN c)) = bs (verT (pickN a) (pickN b) (pickN c))) := by
    unfold Hid; rw [bs_append, bs_append, bs_append, bs_append]; rfl
  have l1 : (bs (numT (pickN a))).size ≤ 2 := by rw [bs_size]; exact numT_len _
  have l2 : (bs (numT (pickN b))).size ≤ 2 := by rw [bs_size]; exact numT_len _
  have l3 : (bs (numT (pickN c))).size ≤ 2 := by rw [bs_size]; exact numT_len _
  generalize bs (verT (pickN a) (pickN b) (pickN c)) = q at *
  generalize bs (numT (pickN a)) = q1 at *
  generalize bs (numT (pickN b)) = q2 at *
  generalize bs (numT (pickN c)) = q3 at *
  generalize pickN a = na at *
  generalize pickN b = nb at *
  generalize pickN c = nc at *
  go_enter Tryd.func13, Tryd.ntmps13
  go_wp2_with fail
  refine (HP1.out _).mono ?_
  rintro e w' ⟨rfl, rfl⟩
  go_wp2_with fail
  refine (HI1.out _).mono ?_
  rintro e w' ⟨rfl, rfl⟩
  go_wp2_with fail
  refine (HP2.out _).mono ?_
  rintro e w' ⟨rfl, rfl⟩
  go_wp2_with fail
  refine (HI2.out _).mono ?_
  rintro e w' ⟨rfl, rfl⟩
  go_wp2_with fail
  refine (HP3.out _).mono ?_
  rintro e w' ⟨rfl, rfl⟩
  go_wp2_with fail
  refine (HI3.out _).mono ?_
  rintro e w' ⟨rfl, rfl⟩
  go_wp2
  go_ret
  exact ⟨ret_str HE.out, rfl⟩

def placeN (a b c : Int) : Int := ((pickN a : Int) * 100 + pickN b) * 100 + pickN c

set_option maxHeartbeats 1000000 in
theorem kplace_any (a b c : Int) (w : World) (ha : I64 a) (hb : I64 b) (hc : I64 c) :
    Calls Tryd.prog 16 #[.int .i64 a, .int .i64 b, .int .i64 c] w fun e w' => e = .returned (.int .i64 (placeN a b c)) ∧ w' = w := by
  have HP1 := hid' (fun w => vpick_any a w ha.lo ha.hi)
  have HP2 := hid' (fun w => vpick_any b w hb.lo hb.hi)
  have HP3 := hid' (fun w => vpick_any c w hc.lo hc.hi)
  have l1 := pickN_lt a; have l2 := pickN_lt b; have l3 := pickN_lt c
  unfold placeN
  generalize pickN a = na at *
  generalize pickN b = nb at *
  generalize pickN c = nc at *
  go_enter Tryd.func16, Tryd.ntmps16
  go_wp2_with fail
  refine (HP1.out _).mono ?_
  rintro e w' ⟨rfl, rfl⟩
  go_wp2_with fail
  refine (HP2.out _).mono ?_
  rintro e w' ⟨rfl, rfl⟩
  go_wp2_with fail
  refine (HP3.out _).mono ?_
  rintro e w' ⟨rfl, rfl⟩
  go_wp2
  go_ret
  exact ⟨rfl, rfl⟩

end Hst
end Go.Proofs.YtecocheolbkneaaDoor
