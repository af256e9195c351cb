/- The plain functions: what the program's and the document's text functions compute, over lists of bytes. No program in sight. -/
import Derived.Lib.Strings
namespace Go.Proofs.YtkcgbikgblkpjaaDoor
namespace Hst

abbrev Tx := List UInt8
/-- A text's bytes. -/
def tx (s : ByteArray) : Tx := s.data.toList
/-- The text of some bytes. -/
def bs (l : Tx) : ByteArray := ⟨l.toArray⟩
theorem tx_bs (l : Tx) : tx (bs l) = l := by simp [tx, bs]
theorem bs_tx (s : ByteArray) : bs (tx s) = s := Lib.mk_data s
theorem tx_length (s : ByteArray) : (tx s).length = s.size := (Lib.size_eq s).symm
theorem bs_size (l : Tx) : (bs l).size = l.length := by rw [← tx_length, tx_bs]
theorem tx_extract (s : ByteArray) (a b : Nat) : tx (s.extract a b) = ((tx s).drop a).take (b - a) := Lib.extract_data s a b
theorem extract_bs (s : ByteArray) (a b : Nat) : s.extract a b = bs (((tx s).drop a).take (b - a)) := Lib.extract_eq s a b
theorem tx_drop (s : ByteArray) (k : Nat) (h : k < s.size) : (tx s).drop k = s[k] :: (tx s).drop (k + 1) := by
  rw [List.drop_eq_getElem_cons (by rw [tx_length]; exact h)]; rfl
theorem tx_take (s : ByteArray) (k : Nat) (h : k < s.size) : (tx s).take (k + 1) = (tx s).take k ++ [s[k]] := by
  rw [List.take_succ_eq_append_getElem (by rw [tx_length]; exact h)]; rfl
theorem tx_drop_end (s : ByteArray) : (tx s).drop s.size = [] := List.drop_of_length_le (by rw [tx_length]; exact Nat.le_refl _)
theorem tx_toList (s : ByteArray) : s.toList = tx s := Lib.toList_data s

/-- A byte that is a digit. -/
def dig (b : UInt8) : Bool := decide (48 ≤ b.toNat) && decide (b.toNat ≤ 57)
theorem dig_yes {b : UInt8} (h1 : (48 : Int) ≤ (b.toNat : Int)) (h2 : (b.toNat : Int) ≤ 57) : dig b = true := by
  simp [dig]; omega
theorem dig_no1 {b : UInt8} (h1 : (b.toNat : Int) < 48) : dig b = false := by
  simp [dig]; omega
theorem dig_no2 {b : UInt8} (h1 : (57 : Int) < (b.toNat : Int)) : dig b = false := by
  simp [dig]; omega

/-- How many bytes stand ahead of the first digit. -/
def signLen : Tx → Nat
  | [] => 0
  | b :: r => if dig b then 0 else signLen r + 1

/-- A text, at each byte n. -/
def splitL (n : Int) : Tx → List Tx
  | [] => [[]]
  | b :: r => if (b.toNat : Int) = n then [] :: splitL n r else
    match splitL n r with
    | [] => [[b]]
    | p :: ps => (b :: p) :: ps

theorem splitL_ne (n : Int) (l : Tx) : splitL n l ≠ [] := by
  cases l with
  | nil => simp [splitL]
  | cons b r => simp only [splitL]; split; · simp
                split <;> simp

theorem splitL_len (n : Int) (l : Tx) : (splitL n l).length ≤ l.length + 1 := by
  induction l with
  | nil => simp [splitL]
  | cons b r ih =>
    simp only [splitL]
    split
    · simp; exact ih
    · split
      · simp
      · rename_i h; rw [h] at ih; simp at ih ⊢; omega

/-- One byte more, that is no mark: the last piece grows. -/
theorem splitL_snoc_no (n : Int) (l : Tx) (b : UInt8) (hb : (b.toNat : Int) ≠ n) (d : List Tx) (p : Tx) (h : splitL n l = d ++ [p]) : splitL n (l ++ [b]) = d ++ [p ++ [b]] := by
  induction l generalizing d p with
  | nil =>
    simp [splitL] at h
    cases d with
    | nil => simp at h; subst h; simp [splitL, hb]
    | cons x y => simp at h
  | cons c r ih =>
    simp only [splitL, List.cons_append] at h ⊢
    by_cases hc : (c.toNat : Int) = n
    · rw [if_pos hc] at h ⊢
      cases d with
      | nil => simp at h; exact absurd h.2 (splitL_ne n r)
      | cons x y =>
        simp at h
        obtain ⟨rfl, h⟩ := h
        rw [ih y p h]; simp
    · rw [if_neg hc] at h ⊢
      rcases hs : splitL n r with _ | ⟨q, qs⟩
      · exact absurd hs (splitL_ne n r)
      · rw [hs] at h
        simp only at h
        cases d with
        | nil =>
          simp at h
          obtain ⟨rfl, rfl⟩ := h
          rw [ih [] q (by simp [hs])]; simp
        | cons x y =>
          simp at h
          obtain ⟨rfl, rfl⟩ := h
          rw [ih (q :: y) p (by simp [hs])]; simp

/-- One byte more, a mark: a new piece. -/
theorem splitL_snoc_yes (n : Int) (l : Tx) (b : UInt8) (hb : (b.toNat : Int) = n) : splitL n (l ++ [b]) = splitL n l ++ [[]] := by
  induction l with
  | nil => simp [splitL, hb]
  | cons c r ih =>
    simp only [splitL, List.cons_append]
    by_cases hc : (c.toNat : Int) = n
    · rw [if_pos hc, if_pos hc, ih]; simp
    · rw [if_neg hc, if_neg hc, ih]
      rcases hs : splitL n r with _ | ⟨q, qs⟩
      · exact absurd hs (splitL_ne n r)
      · simp

/-- What stands after k bytes: the pieces that are done, and where the next one begins. -/
def SplitAt (n : Int) (l : Tx) (k st : Nat) (d : List Tx) : Prop := splitL n (l.take k) = d ++ [(l.take k).drop st] ∧ st ≤ k

theorem splitAt_start (n : Int) (l : Tx) : SplitAt n l 0 0 [] := ⟨by simp [splitL], Nat.le_refl _⟩
theorem splitAt_no {n : Int} {l : Tx} {k st : Nat} {d : List Tx} (h : SplitAt n l k st d) (hk : k < l.length) (hb : ((l[k]'hk).toNat : Int) ≠ n) : SplitAt n l (k + 1) st d := by
  refine ⟨?_, by have := h.2; omega⟩
  have e := List.take_succ_eq_append_getElem hk
  rw [e, splitL_snoc_no n _ _ hb d _ h.1, List.drop_append_of_le_length (by simp; have := h.2; omega)]
theorem splitAt_yes {n : Int} {l : Tx} {k st : Nat} {d : List Tx} (h : SplitAt n l k st d) (hk : k < l.length) (hb : ((l[k]'hk).toNat : Int) = n) : SplitAt n l (k + 1) (k + 1) (d ++ [(l.drop st).take (k - st)]) := by
  refine ⟨?_, Nat.le_refl _⟩
  have e := List.take_succ_eq_append_getElem hk
  rw [e, splitL_snoc_yes n _ _ hb, h.1, List.drop_of_length_le (l := List.take k l ++ [l[k]]) (by simp; omega), List.drop_take]
theorem splitAt_end {n : Int} {l : Tx} {st : Nat} {d : List Tx} (h : SplitAt n l l.length st d) : splitL n l = d ++ [(l.drop st).take (l.length - st)] := by
  have := h.1
  rw [List.take_of_length_le (Nat.le_refl _)] at this
  rw [this, List.take_of_length_le (by simp)]
theorem splitAt_len {n : Int} {l : Tx} {k st : Nat} {d : List Tx} (h : SplitAt n l k st d) : d.length ≤ k := by
  have h1 := splitL_len n (l.take k)
  rw [h.1] at h1; simp at h1
  have := Nat.min_le_left k l.length
  omega

/-! ### numbers -/
/-- What the loop of parsePart comes to. -/
def partGo (acc : Int) : Tx → Option Int
  | [] => some acc
  | b :: r => if dig b = true then (if 99 < acc * 10 + ((b.toNat : Int) - 48) then none else partGo (acc * 10 + ((b.toNat : Int) - 48)) r) else none
/-- parsePart. -/
def partP (l : Tx) : Option Int := if l = [] then none else if l.head? = some 48 ∧ 1 < l.length then none else partGo 0 l
def ov (o : Option Int) : Int := o.getD 0
def oks (o : Option Int) : Bool := o.isSome
/-- What the loop of part comes to. -/
def partGoR (acc : Int) : Tx → Int
  | [] => acc
  | b :: r => if dig b = true then partGoR (10 * acc + ((b.toNat : Int) - 48)) r else -1
/-- part. -/
def partR (l : Tx) : Int := if l.length < 1 ∨ 2 < l.length ∨ (l.length = 2 ∧ l.head? = some 48) then -1 else partGoR 0 l

/-! ### versions -/
def verGo (acc : Int) : List Tx → Option Int
  | [] => some acc
  | p :: r => match partP p with
    | none => none
    | some n => verGo (acc * 100 + n) r
def versionP (l : Tx) : Option Int := if 8 < l.length then none else if (splitL 46 l).length ≠ 3 then none else verGo 0 (splitL 46 l)
structure V3 where
  a : Int
  b : Int
  c : Int
def versionR (l : Tx) : V3 × Bool := if 8 < l.length then (⟨0, 0, 0⟩, false) else if (splitL 46 l).length ≠ 3 then (⟨0, 0, 0⟩, false) else
  (⟨partR ((splitL 46 l).getD 0 []), partR ((splitL 46 l).getD 1 []), partR ((splitL 46 l).getD 2 [])⟩,
    decide (0 ≤ partR ((splitL 46 l).getD 0 [])) && decide (0 ≤ partR ((splitL 46 l).getD 1 [])) && decide (0 ≤ partR ((splitL 46 l).getD 2 [])))

/-! ### conditions -/
def mx (a b : Int) : Int := if a < b then b else a
def mn (a b : Int) : Int := if b < a then b else a
/-- The highest version that '^' lets by. -/
def caretHi (n : Int) : Int := if n / 10000 ≠ 0 then n - n % 10000 + 10000 - 1 else if n / 100 % 100 ≠ 0 then n - n % 100 + 100 - 1 else n
def belowB (a b c x y z : Int) : Bool := if a ≠ x then decide (a < x) else if b ≠ y then decide (b < y) else decide (c < z)
def spanOfP (sg : Tx) (v : Int) : Option (Int × Int) :=
  if sg = [61] then some (v, v) else if sg = [62] then some (v + 1, 999999) else if sg = [62, 61] then some (v, 999999) else
  if sg = [60] then some (0, v - 1) else if sg = [60, 61] then some (0, v) else if sg = [94] then some (v, caretHi v) else
  if sg = [126] then some (v, v - v % 100 + 100 - 1) else none
def condP (l : Tx) : Option (Int × Int) := if l = [42] then some (0, 999999) else
  match versionP (l.drop (signLen l)) with
  | none => none
  | some v => spanOfP (l.take (signLen l)) v
def slo (o : Option (Int × Int)) : Int := (o.getD (0, 0)).1
def shi (o : Option (Int × Int)) : Int := (o.getD (0, 0)).2
def sok (o : Option (Int × Int)) : Bool := o.isSome
def signedR (l : Tx) : Tx × Tx :=
  if l.take 2 = [62, 61] ∨ l.take 2 = [60, 61] then (l.take 2, l.drop 2) else
  match l with
  | [] => ([], [])
  | b :: r => if b = 61 ∨ b = 62 ∨ b = 60 ∨ b = 94 ∨ b = 126 then ([b], r) else ([], b :: r)
def isCondR (l : Tx) : Bool := decide (l = [42]) || (!(signedR l).1.isEmpty && (versionR (signedR l).2).2)
def eq3 (v w : V3) : Bool := decide (v.a = w.a) && decide (v.b = w.b) && decide (v.c = w.c)
def holdsS (sg : Tx) (w v : V3) : Bool :=
  let low := belowB v.a v.b v.c w.a w.b w.c
  if sg = [61] then eq3 v w else if sg = [62] then !low && !eq3 v w else if sg = [62, 61] then !low else
  if sg = [60] then low else if sg = [60, 61] then low || eq3 v w else
  if sg = [126] then !low && decide (v.a = w.a) && decide (v.b = w.b) else
  if sg = [94] then (if w.a ≠ 0 then !low && decide (v.a = w.a) else if w.b ≠ 0 then !low && decide (v.a = 0) && decide (v.b = w.b) else eq3 v w) else true
def holdsR (l : Tx) (v : V3) : Bool := holdsS (signedR l).1 (versionR (signedR l).2).1 v

/-! ### ranges -/
def altGo (lo hi : Int) : List Tx → Option (Int × Int)
  | [] => some (lo, hi)
  | c :: r => match condP c with
    | none => none
    | some s => altGo (mx lo s.1) (mn hi s.2) r
def altP (l : Tx) : Option (Int × Int) := altGo 0 999999 (splitL 38 l)
def rangeGo (acc : List (Int × Int)) : List Tx → Option (List (Int × Int))
  | [] => some acc
  | a :: r => match altP a with
    | none => none
    | some s => rangeGo (acc ++ [s]) r
def rangeP (l : Tx) : Option (List (Int × Int)) := if 60 < l.length then none else rangeGo [] (splitL 124 l)
def fitsP (sp : List (Int × Int)) (v : Int) : Bool := sp.any fun s => decide (s.1 ≤ v) && decide (v ≤ s.2)
def isAltR (l : Tx) : Bool := (splitL 38 l).all isCondR
def isRangeR (l : Tx) : Bool := decide (l.length ≤ 60) && (splitL 124 l).all isAltR
def altFitR (l : Tx) (v : V3) : Bool := (splitL 38 l).all fun c => holdsR c v
def fitR (l : Tx) (v : V3) : Bool := (splitL 124 l).any fun a => altFitR a v

end Hst
end Go.Proofs.YtkcgbikgblkpjaaDoor
