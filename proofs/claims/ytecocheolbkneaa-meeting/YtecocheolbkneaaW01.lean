/- Defs, Leaf, Split, Part -/
import Derived.Lib.Strings
import Derived.Test.YtecocheolbkneaaRows
import Derived.WalkKit
import Derived.WalkSpells
import Derived.WalkLawsBesides
import Derived.Deep.AppendLies
namespace Go.Proofs.Ytecocheolbkneaa
namespace Hst

abbrev Tx := List UInt8
/-- A text's bytes. -/
def tx (s : ByteArray) : Tx := s.data.toList
/-- The text of some bytes. -/
def bs (l : Tx) : ByteArray := ⟨l.toArray⟩
theorem tx_bs (l : Tx) : tx (bs l) = l := by simp [tx, bs]
theorem bs_tx (s : ByteArray) : bs (tx s) = s := Lib.mk_data s
theorem tx_length (s : ByteArray) : (tx s).length = s.size := (Lib.size_eq s).symm
theorem bs_size (l : Tx) : (bs l).size = l.length := by rw [← tx_length, tx_bs]
theorem tx_extract (s : ByteArray) (a b : Nat) : tx (s.extract a b) = ((tx s).drop a).take (b - a) := Lib.extract_data s a b
theorem extract_bs (s : ByteArray) (a b : Nat) : s.extract a b = bs (((tx s).drop a).take (b - a)) := Lib.extract_eq s a b
theorem tx_drop (s : ByteArray) (k : Nat) (h : k < s.size) : (tx s).drop k = s[k] :: (tx s).drop (k + 1) := by
  rw [List.drop_eq_getElem_cons (by rw [tx_length]; exact h)]; rfl
theorem tx_take (s : ByteArray) (k : Nat) (h : k < s.size) : (tx s).take (k + 1) = (tx s).take k ++ [s[k]] := by
  rw [List.take_succ_eq_append_getElem (by rw [tx_length]; exact h)]; rfl
theorem tx_drop_end (s : ByteArray) : (tx s).drop s.size = [] := List.drop_of_length_le (by rw [tx_length]; exact Nat.le_refl _)
theorem tx_toList (s : ByteArray) : s.toList = tx s := Lib.toList_data s

/-- A byte that is a digit. -/
def dig (b : UInt8) : Bool := decide (48 ≤ b.toNat) && decide (b.toNat ≤ 57)
theorem dig_yes {b : UInt8} (h1 : (48 : Int) ≤ (b.toNat : Int)) (h2 : (b.toNat : Int) ≤ 57) : dig b = true := by
  simp [dig]; omega
theorem dig_no1 {b : UInt8} (h1 : (b.toNat : Int) < 48) : dig b = false := by
  simp [dig]; omega
theorem dig_no2 {b : UInt8} (h1 : (57 : Int) < (b.toNat : Int)) : dig b = false := by
  simp [dig]; omega

/-- How many bytes stand ahead of the first digit. -/
def signLen : Tx → Nat
  | [] => 0
  | b :: r => if dig b then 0 else signLen r + 1

/-- A text, at each byte n. -/
def splitL (n : Int) : Tx → List Tx
  | [] => [[]]
  | b :: r => if (b.toNat : Int) = n then [] :: splitL n r else
    match splitL n r with
    | [] => [[b]]
    | p :: ps => (b :: p) :: ps

theorem splitL_ne (n : Int) (l : Tx) : splitL n l ≠ [] := by
  cases l with
  | nil => simp [splitL]
  | cons b r => simp only [splitL]; split; · simp
                split <;> simp

theorem splitL_len (n : Int) (l : Tx) : (splitL n l).length ≤ l.length + 1 := by
  induction l with
  | nil => simp [splitL]
  | cons b r ih =>
    simp only [splitL]
    split
    · simp; exact ih
    · split
      · simp
      · rename_i h; rw [h] at ih; simp at ih ⊢; omega

/-- One byte more, that is no mark: the last piece grows. -/
theorem splitL_snoc_no (n : Int) (l : Tx) (b : UInt8) (hb : (b.toNat : Int) ≠ n) (d : List Tx) (p : Tx) (h : splitL n l = d ++ [p]) : splitL n (l ++ [b]) = d ++ [p ++ [b]] := by
  induction l generalizing d p with
  | nil =>
    simp [splitL] at h
    cases d with
    | nil => simp at h; subst h; simp [splitL, hb]
    | cons x y => simp at h
  | cons c r ih =>
    simp only [splitL, List.cons_append] at h ⊢
    by_cases hc : (c.toNat : Int) = n
    · rw [if_pos hc] at h ⊢
      cases d with
      | nil => simp at h; exact absurd h.2 (splitL_ne n r)
      | cons x y =>
        simp at h
        obtain ⟨rfl, h⟩ := h
        rw [ih y p h]; simp
    · rw [if_neg hc] at h ⊢
      rcases hs : splitL n r with _ | ⟨q, qs⟩
      · exact absurd hs (splitL_ne n r)
      · rw [hs] at h
        simp only at h
        cases d with
        | nil =>
          simp at h
          obtain ⟨rfl, rfl⟩ := h
          rw [ih [] q (by simp [hs])]; simp
        | cons x y =>
          simp at h
          obtain ⟨rfl, rfl⟩ := h
          rw [ih (q :: y) p (by simp [hs])]; simp

/-- One byte more, a mark: a new piece. -/
theorem splitL_snoc_yes (n : Int) (l : Tx) (b : UInt8) (hb : (b.toNat : Int) = n) : splitL n (l ++ [b]) = splitL n l ++ [[]] := by
  induction l with
  | nil => simp [splitL, hb]
  | cons c r ih =>
    simp only [splitL, List.cons_append]
    by_cases hc : (c.toNat : Int) = n
    · rw [if_pos hc, if_pos hc, ih]; simp
    · rw [if_neg hc, if_neg hc, ih]
      rcases hs : splitL n r with _ | ⟨q, qs⟩
      · exact absurd hs (splitL_ne n r)
      · simp

/-- What stands after k bytes: the pieces that are done, and where the next one begins. -/
def SplitAt (n : Int) (l : Tx) (k st : Nat) (d : List Tx) : Prop := splitL n (l.take k) = d ++ [(l.take k).drop st] ∧ st ≤ k

theorem splitAt_start (n : Int) (l : Tx) : SplitAt n l 0 0 [] := ⟨by simp [splitL], Nat.le_refl _⟩
theorem splitAt_no {n : Int} {l : Tx} {k st : Nat} {d : List Tx} (h : SplitAt n l k st d) (hk : k < l.length) (hb : ((l[k]'hk).toNat : Int) ≠ n) : SplitAt n l (k + 1) st d := by
  refine ⟨?_, by have := h.2; omega⟩
  have e := List.take_succ_eq_append_getElem hk
  rw [e, splitL_snoc_no n _ _ hb d _ h.1, List.drop_append_of_le_length (by simp; have := h.2; omega)]
theorem splitAt_yes {n : Int} {l : Tx} {k st : Nat} {d : List Tx} (h : SplitAt n l k st d) (hk : k < l.length) (hb : ((l[k]'hk).toNat : Int) = n) : SplitAt n l (k + 1) (k + 1) (d ++ [(l.drop st).take (k - st)]) := by
  refine ⟨?_, Nat.le_refl _⟩
  have e := List.take_succ_eq_append_getElem hk
  rw [e, splitL_snoc_yes n _ _ hb, h.1, List.drop_of_length_le (l := List.take k l ++ [l[k]]) (by simp; omega), List.drop_take]
theorem splitAt_end {n : Int} {l : Tx} {st : Nat} {d : List Tx} (h : SplitAt n l l.length st d) : splitL n l = d ++ [(l.drop st).take (l.length - st)] := by
  have := h.1
  rw [List.take_of_length_le (Nat.le_refl _)] at this
  rw [this, List.take_of_length_le (by simp)]
theorem splitAt_len {n : Int} {l : Tx} {k st : Nat} {d : List Tx} (h : SplitAt n l k st d) : d.length ≤ k := by
  have h1 := splitL_len n (l.take k)
  rw [h.1] at h1; simp at h1
  have := Nat.min_le_left k l.length
  omega

/-! ### numbers -/
/-- What the loop of parsePart comes to. -/
def partGo (acc : Int) : Tx → Option Int
  | [] => some acc
  | b :: r => if dig b = true then (if 99 < acc * 10 + ((b.toNat : Int) - 48) then none else partGo (acc * 10 + ((b.toNat : Int) - 48)) r) else none
/-- parsePart. -/
def partP (l : Tx) : Option Int := if l = [] then none else if l.head? = some 48 ∧ 1 < l.length then none else partGo 0 l
def ov (o : Option Int) : Int := o.getD 0
def oks (o : Option Int) : Bool := o.isSome
/-- What the loop of part comes to. -/
def partGoR (acc : Int) : Tx → Int
  | [] => acc
  | b :: r => if dig b = true then partGoR (10 * acc + ((b.toNat : Int) - 48)) r else -1
/-- part. -/
def partR (l : Tx) : Int := if l.length < 1 ∨ 2 < l.length ∨ (l.length = 2 ∧ l.head? = some 48) then -1 else partGoR 0 l

/-! ### versions -/
def verGo (acc : Int) : List Tx → Option Int
  | [] => some acc
  | p :: r => match partP p with
    | none => none
    | some n => verGo (acc * 100 + n) r
def versionP (l : Tx) : Option Int := if 8 < l.length then none else if (splitL 46 l).length ≠ 3 then none else verGo 0 (splitL 46 l)
structure V3 where
  a : Int
  b : Int
  c : Int
def versionR (l : Tx) : V3 × Bool := if 8 < l.length then (⟨0, 0, 0⟩, false) else if (splitL 46 l).length ≠ 3 then (⟨0, 0, 0⟩, false) else
  (⟨partR ((splitL 46 l).getD 0 []), partR ((splitL 46 l).getD 1 []), partR ((splitL 46 l).getD 2 [])⟩,
    decide (0 ≤ partR ((splitL 46 l).getD 0 [])) && decide (0 ≤ partR ((splitL 46 l).getD 1 [])) && decide (0 ≤ partR ((splitL 46 l).getD 2 [])))

/-! ### conditions -/
def mx (a b : Int) : Int := if a < b then b else a
def mn (a b : Int) : Int := if b < a then b else a
/-- The highest version that '^' lets by. -/
def caretHi (n : Int) : Int := if n / 10000 ≠ 0 then n - n % 10000 + 10000 - 1 else if n / 100 % 100 ≠ 0 then n - n % 100 + 100 - 1 else n
def belowB (a b c x y z : Int) : Bool := if a ≠ x then decide (a < x) else if b ≠ y then decide (b < y) else decide (c < z)
def spanOfP (sg : Tx) (v : Int) : Option (Int × Int) :=
  if sg = [61] then some (v, v) else if sg = [62] then some (v + 1, 999999) else if sg = [62, 61] then some (v, 999999) else
  if sg = [60] then some (0, v - 1) else if sg = [60, 61] then some (0, v) else if sg = [94] then some (v, caretHi v) else
  if sg = [126] then some (v, v - v % 100 + 100 - 1) else none
def condP (l : Tx) : Option (Int × Int) := if l = [42] then some (0, 999999) else
  match versionP (l.drop (signLen l)) with
  | none => none
  | some v => spanOfP (l.take (signLen l)) v
def slo (o : Option (Int × Int)) : Int := (o.getD (0, 0)).1
def shi (o : Option (Int × Int)) : Int := (o.getD (0, 0)).2
def sok (o : Option (Int × Int)) : Bool := o.isSome
def signedR (l : Tx) : Tx × Tx :=
  if l.take 2 = [62, 61] ∨ l.take 2 = [60, 61] then (l.take 2, l.drop 2) else
  match l with
  | [] => ([], [])
  | b :: r => if b = 61 ∨ b = 62 ∨ b = 60 ∨ b = 94 ∨ b = 126 then ([b], r) else ([], b :: r)
def isCondR (l : Tx) : Bool := decide (l = [42]) || (!(signedR l).1.isEmpty && (versionR (signedR l).2).2)
def eq3 (v w : V3) : Bool := decide (v.a = w.a) && decide (v.b = w.b) && decide (v.c = w.c)
def holdsS (sg : Tx) (w v : V3) : Bool :=
  let low := belowB v.a v.b v.c w.a w.b w.c
  if sg = [61] then eq3 v w else if sg = [62] then !low && !eq3 v w else if sg = [62, 61] then !low else
  if sg = [60] then low else if sg = [60, 61] then low || eq3 v w else
  if sg = [126] then !low && decide (v.a = w.a) && decide (v.b = w.b) else
  if sg = [94] then (if w.a ≠ 0 then !low && decide (v.a = w.a) else if w.b ≠ 0 then !low && decide (v.a = 0) && decide (v.b = w.b) else eq3 v w) else true
def holdsR (l : Tx) (v : V3) : Bool := holdsS (signedR l).1 (versionR (signedR l).2).1 v

/-! ### ranges -/
def altGo (lo hi : Int) : List Tx → Option (Int × Int)
  | [] => some (lo, hi)
  | c :: r => match condP c with
    | none => none
    | some s => altGo (mx lo s.1) (mn hi s.2) r
def altP (l : Tx) : Option (Int × Int) := altGo 0 999999 (splitL 38 l)
def rangeGo (acc : List (Int × Int)) : List Tx → Option (List (Int × Int))
  | [] => some acc
  | a :: r => match altP a with
    | none => none
    | some s => rangeGo (acc ++ [s]) r
def rangeP (l : Tx) : Option (List (Int × Int)) := if 60 < l.length then none else rangeGo [] (splitL 124 l)
def fitsP (sp : List (Int × Int)) (v : Int) : Bool := sp.any fun s => decide (s.1 ≤ v) && decide (v ≤ s.2)
def isAltR (l : Tx) : Bool := (splitL 38 l).all isCondR
def isRangeR (l : Tx) : Bool := decide (l.length ≤ 60) && (splitL 124 l).all isAltR
def altFitR (l : Tx) (v : V3) : Bool := (splitL 38 l).all fun c => holdsR c v
def fitR (l : Tx) (v : V3) : Bool := (splitL 124 l).any fun a => altFitR a v

/-- Fits of the program: its answer and its error. -/
def fitsProg (r v : Tx) : Bool × Int := match rangeP r with
  | none => (false, 1)
  | some sp => match versionP v with
    | none => (false, 2)
    | some n => (fitsP sp n, 0)
theorem fitsProg1 {r v : Tx} (h : rangeP r = none) : fitsProg r v = (false, 1) := by simp [fitsProg, h]
theorem fitsProg2 {r v : Tx} {sp : List (Int × Int)} (h : rangeP r = some sp) (h' : versionP v = none) : fitsProg r v = (false, 2) := by simp [fitsProg, h, h']
theorem fitsProg3 {r v : Tx} {sp : List (Int × Int)} {n : Int} (h : rangeP r = some sp) (h' : versionP v = some n) : fitsProg r v = (fitsP sp n, 0) := by simp [fitsProg, h, h']

end Hst
end Go.Proofs.Ytecocheolbkneaa
namespace Go.Proofs.Ytecocheolbkneaa
open Go.RowKit
namespace Hst
set_option maxRecDepth 100000

theorem bcell {W w1 : World} (hb : Below W.heap.size W w1) : (∀ b o, b < W.heap.size → w1.cell? ⟨b, o, none⟩ = W.cell? ⟨b, o, none⟩) ∧ (∀ b o, b < W.heap.size → w1.frozen? ⟨b, o, none⟩ = W.frozen? ⟨b, o, none⟩) :=
  ⟨fun b o h => hb.cell (p := ⟨b, o, none⟩) h, fun b o h => hb.frozen (p := ⟨b, o, none⟩) h⟩

theorem ret_int {k : IntKind} {a b : Int} (h : a = b) : Ending.returned (.int k a) = .returned (.int k b) := by rw [h]
theorem ret_bool {a b : Bool} (h : a = b) : Ending.returned (.bool a) = .returned (.bool b) := by rw [h]
theorem ret_int_bool {k : IntKind} {a b : Int} {c d : Bool} (h : a = b) (h' : c = d) : Ending.returned (.tuple #[.int k a, .bool c]) = .returned (.tuple #[.int k b, .bool d]) := by rw [h, h']
theorem ret_bool_int {k : IntKind} {a b : Int} {c d : Bool} (h' : c = d) (h : a = b) : Ending.returned (.tuple #[.bool c, .int k a]) = .returned (.tuple #[.bool d, .int k b]) := by rw [h, h']
theorem ret_str2 {a b c d : ByteArray} (h : a = b) (h' : c = d) : Ending.returned (.tuple #[.string a, .string c]) = .returned (.tuple #[.string b, .string d]) := by rw [h, h']
theorem str_eq (s : ByteArray) (l : Tx) (h : tx s = l) : (s.toList == l) = true := by rw [tx_toList, h]; simp
theorem str_ne (s : ByteArray) (l : Tx) (h : tx s ≠ l) : (s.toList == l) = false := by rw [tx_toList]; simp [h]

set_option maxHeartbeats 400000 in
theorem num_any (n : Int) (w : World) :
    Calls Try.prog 7 #[.int .i64 n] w fun e w' => e = .returned (.int .i64 n) ∧ w' = w := by
  go_enter Try.func7, Try.ntmps7
  go_wp2
  go_ret
  exact ⟨rfl, rfl⟩

set_option maxHeartbeats 400000 in
theorem first_any (n : Int) (w : World) (h0 : 0 ≤ n) (h1 : n ≤ 999999) :
    Calls Try.prog 36 #[.int .i64 n] w fun e w' => e = .returned (.int .i64 (n / 10000)) ∧ w' = w := by
  go_enter Try.func36, Try.ntmps36
  go_wp2
  go_ret
  exact ⟨rfl, rfl⟩

set_option maxHeartbeats 400000 in
theorem second_any (n : Int) (w : World) (h0 : 0 ≤ n) (h1 : n ≤ 999999) :
    Calls Try.prog 38 #[.int .i64 n] w fun e w' => e = .returned (.int .i64 (n / 100 % 100)) ∧ w' = w := by
  go_enter Try.func38, Try.ntmps38
  go_wp2
  go_ret
  exact ⟨rfl, rfl⟩

set_option maxHeartbeats 400000 in
theorem hiFirst_any (n : Int) (w : World) (h0 : 0 ≤ n) (h1 : n ≤ 999999) :
    Calls Try.prog 37 #[.int .i64 n] w fun e w' => e = .returned (.int .i64 (n - n % 10000 + 10000 - 1)) ∧ w' = w := by
  go_enter Try.func37, Try.ntmps37
  go_wp2
  go_ret
  exact ⟨rfl, rfl⟩

set_option maxHeartbeats 400000 in
theorem hiSecond_any (n : Int) (w : World) (h0 : 0 ≤ n) (h1 : n ≤ 999999) :
    Calls Try.prog 35 #[.int .i64 n] w fun e w' => e = .returned (.int .i64 (n - n % 100 + 100 - 1)) ∧ w' = w := by
  go_enter Try.func35, Try.ntmps35
  go_wp2
  go_ret
  exact ⟨rfl, rfl⟩

set_option maxHeartbeats 400000 in
theorem caret_any (n : Int) (w : World) (h0 : 0 ≤ n) (h1 : n ≤ 999999) :
    Calls Try.prog 34 #[.int .i64 n] w fun e w' => e = .returned (.int .i64 (caretHi n)) ∧ w' = w := by
  unfold caretHi
  by_cases c1 : n / 10000 = 0
  · have b1 : (n / 10000 != 0) = false := by simp [c1]
    by_cases c2 : n / 100 % 100 = 0
    · have b2 : (n / 100 % 100 != 0) = false := by simp [c2]
      rw [if_neg (by omega), if_neg (by omega)]
      have H1 : Hid (n / 10000 = 0) := c1; have H2 : Hid (n / 100 % 100 = 0) := c2
      clear c1 c2
      go_enter Try.func34, Try.ntmps34
      go_wp2_with (first | (go_at_call 36; refine (first_any _ _ h0 h1).mono ?_; rintro e w' ⟨rfl, rfl⟩) | (go_at_call 38; refine (second_any _ _ h0 h1).mono ?_; rintro e w' ⟨rfl, rfl⟩))
      go_ret
      exact ⟨rfl, rfl⟩
    · have b2 : (n / 100 % 100 != 0) = true := by simp [c2]
      rw [if_neg (by omega), if_pos c2]
      have H1 : Hid (n / 10000 = 0) := c1
      clear c1 c2
      go_enter Try.func34, Try.ntmps34
      go_wp2_with (first | (go_at_call 36; refine (first_any _ _ h0 h1).mono ?_; rintro e w' ⟨rfl, rfl⟩) | (go_at_call 38; refine (second_any _ _ h0 h1).mono ?_; rintro e w' ⟨rfl, rfl⟩) | (go_at_call 35; refine (hiSecond_any _ _ h0 h1).mono ?_; rintro e w' ⟨rfl, rfl⟩))
      go_ret
      exact ⟨rfl, rfl⟩
  · have b1 : (n / 10000 != 0) = true := by simp [c1]
    rw [if_pos c1]
    clear c1
    go_enter Try.func34, Try.ntmps34
    go_wp2_with (first | (go_at_call 36; refine (first_any _ _ h0 h1).mono ?_; rintro e w' ⟨rfl, rfl⟩) | (go_at_call 37; refine (hiFirst_any _ _ h0 h1).mono ?_; rintro e w' ⟨rfl, rfl⟩))
    go_ret
    exact ⟨rfl, rfl⟩

/-- A span, as a value. -/
abbrev spanV (lo hi : Int) : Value := .agg #[.int .i64 lo, .int .i64 hi]
/-- A version's three numbers, as a value. -/
abbrev verV (a b c : Int) : Value := .agg #[.int .i64 a, .int .i64 b, .int .i64 c]

set_option maxHeartbeats 400000 in
theorem every_any (w : World) :
    Calls Try.prog 29 #[] w fun e w' => e = .returned (spanV 0 999999) ∧ Below w.heap.size w w' := by
  go_enter Try.func29, Try.ntmps29
  go_wp2
  exact bodyPost_ret (v := spanV 0 999999) (by simp [results, Try.results29, go_sem]) rfl ⟨rfl, (Below.refl _ _).alloc (Nat.le_refl _) _⟩

set_option maxHeartbeats 400000 in
theorem isEmpty_any (lo hi : Int) (w : World) :
    Calls Try.prog 26 #[spanV lo hi] w fun e w' => e = .returned (.bool (decide (hi < lo))) ∧ Below w.heap.size w w' := by
  go_enter Try.func26, Try.ntmps26
  go_wp2
  go_ret
  exact ⟨rfl, (Below.refl _ _).alloc (Nat.le_refl _) _⟩

end Hst
end Go.Proofs.Ytecocheolbkneaa
namespace Go.Proofs.Ytecocheolbkneaa
open Go.RowKit
namespace Hst
set_option maxRecDepth 100000

theorem info_str : (Try.prog.info? 9).map (fun i => (i.zero, i.size, i.bytes)) = some (some (.string ByteArray.empty), 1, 16) := by kernel_rfl

/-- The cells of a list of texts. -/
def strs (d : List Tx) : List Value := d.map fun p => Value.string (bs p)
theorem strs_snoc (d : List Tx) (p : Tx) : strs d ++ [Value.string (bs p)] = strs (d ++ [p]) := by simp [strs]
theorem strs_len (d : List Tx) : (strs d).length = d.length := by simp [strs]

/-- One piece more. -/
theorem step_own {w w1 wr : World} {v : Value} {d : List Tx} {p : Tx} {q : ByteArray} {g cap : Nat} {o : Obj} (hq : q = bs p) (hown : wr.ownsRow w.heap.size 9 1 v d.length (strs d)) (hbel : Below w.heap.size w wr)
    (hown1 : w1.ownsRow w.heap.size 9 1 (.slice (some ⟨g, 0, none⟩) (d.length + 1) cap) (d.length + 1) (strs d ++ [Value.string q])) (hgrow : (wr.alloc o).grownBy w1 v.ownBlock) :
    w1.ownsRow w.heap.size 9 1 (.slice (some ⟨g, 0, none⟩) (d.length + 1) cap) (d ++ [p]).length (strs (d ++ [p])) ∧ Below w.heap.size w w1 := by
  subst hq
  refine ⟨?_, ?_⟩
  · rw [strs_snoc] at hown1
    simpa using hown1
  · have hz := hbel.size
    exact (hbel.alloc hz _).grown hgrow (by simp; omega) (fun k hk => (hown.lt k hk).1)
theorem one_str (q : ByteArray) : ∀ u ∈ [Value.string q], u.oneCell' = true := by intro u hu; simp at hu; subst hu; rfl
theorem form_ne {w : World} {base n : Nat} {v : Value} {xs : List Value} {e : Nat} (h : w.ownsRow base e 1 v n xs) (hn : 0 < n) : ∃ g cap, v = .slice (some ⟨g, 0, none⟩) n cap ∧ base ≤ g ∧ g < w.heap.size := by
  obtain ⟨h1, h2⟩ := h
  rcases h2 with ⟨rfl, h2⟩ | ⟨g, cap, cur, hv, hg, hh, r⟩
  · omega
  · exact ⟨g, cap, hv, hg, lt_of_block hh⟩

/-- The row of texts that a call has made. -/
def Row (w : World) (base : Nat) (v : Value) (d : List Tx) : Prop := w.ownsRow base 9 1 v d.length (strs d)

theorem hid {p : Prop} (h : p) : Hid p := h
theorem row_of {w wr : World} {v : Value} {d e : List Tx} (hown : wr.ownsRow w.heap.size 9 1 v d.length (strs d)) (h : e = d) (hbel : Below w.heap.size w wr) : Row wr w.heap.size v e ∧ Below w.heap.size w wr := by
  subst h
  exact ⟨hown, hbel⟩

set_option maxHeartbeats 1000000 in
theorem rsplit_any (s : ByteArray) (n : Int) (w : World) (hs : s.size ≤ 100000) :
    Calls Try.prog 21 #[.string s, .int .u8 n] w fun e w' => ∃ v, e = .returned v ∧ Row w' w.heap.size v (splitL n (tx s)) ∧ Below w.heap.size w w' := by
  obtain ⟨i0, hi, hz0, hz1, hz2⟩ := info_parts info_str
  go_enter Try.func21, Try.ntmps21
  go_wp2
  go_loopw [5, 6, 7] (fun v st i wr => ∃ (k fr : Nat) (d : List Tx), k ≤ s.size + 1 ∧ fr ≤ k ∧ d.length ≤ k ∧ st = .int .i64 fr ∧ i = .int .i64 k ∧ wr.ownsRow w.heap.size 9 1 v d.length (strs d) ∧ Below w.heap.size w wr ∧ Hid ((k ≤ s.size ∧ SplitAt n (tx s) k fr d) ∨ (k = s.size + 1 ∧ splitL n (tx s) = d))) (fun _ _ i _ => s.size + 1 - (intOf i).toNat)
  case atStart => exact ⟨0, 0, [], by omega, by omega, by simp, rfl, rfl, World.ownsRow_nil _ _ _ _, Below.refl _ _, .inl ⟨by omega, splitAt_start _ _⟩⟩
  case round =>
    obtain ⟨k, fr, d, hk, hfr, hd, rfl, rfl, hown, hbel, hall⟩ := hrel
    have hsz := hbel.size
    by_cases hlt : k < s.size
    · have hSA : Hid (SplitAt n (tx s) k fr d) := by rcases hall.out with h | h; · exact h.2
                                                     · omega
      have hne : ((k : Int) == (s.size : Int)) = false := by simp; omega
      by_cases hb : ((s[k]'hlt).toNat : Int) = n
      · have hbb : (((s[k]'hlt).toNat : Int) == n) = true := by simp [hb]
        have HN : Hid (SplitAt n (tx s) (k + 1) (k + 1) (d ++ [((tx s).drop fr).take (k - fr)])) := splitAt_yes hSA.out (by rw [tx_length]; exact hlt) hb
        have hl2 : d.length ≤ k := hd
        clear hb hall hSA
        go_wp2_with (first
          | (at_builtin; refine wpList_append_lies _ rfl _ _ 47 rfl w.heap.size 9 i0 (.string ByteArray.empty) 1 16 Try.underlying47 hi hz0 hz1 hz2 rfl (by omega) _ _ _ rfl (hown.alloc _) ⟨wr.heap.size, 0, none⟩ 1 1 [.string (s.extract fr k)] rfl rfl (cell_one_new _ _ _) (one_str _) (by omega) (by unfold maxLen; omega) (by omega) (by simp; omega) (wr.heap.size + 1) (by simp) ?_; intro g cap w1 hown1 hgrow hat hlt1))
        have R := step_own (extract_bs s fr k) hown hbel hown1 hgrow
        clear hown1 hgrow hown
        go_wp2
        go_roundw
        case rel => exact ⟨k + 1, k + 1, _, by omega, by omega, by simp; omega, by go_num, by go_num, R.1, R.2, .inl ⟨by omega, HN.out⟩⟩
        case measure => simp [intOf]; omega
      · have hbb : (((s[k]'hlt).toNat : Int) == n) = false := by simp [hb]
        have HN : Hid (SplitAt n (tx s) (k + 1) fr d) := splitAt_no hSA.out (by rw [tx_length]; exact hlt) hb
        clear hb hall hSA
        go_wp2
        go_roundw
        case rel => exact ⟨k + 1, fr, d, by omega, by omega, by omega, rfl, by go_num, hown, hbel, .inl ⟨by omega, HN.out⟩⟩
        case measure => simp [intOf]; omega
    · by_cases hend : k = s.size
      · subst hend
        have hSA : SplitAt n (tx s) s.size fr d := by
          rcases hall.out with h | h
          · exact h.2
          · omega
        have HN : Hid (splitL n (tx s) = d ++ [((tx s).drop fr).take (s.size - fr)]) := by
          have hx := tx_length s
          rw [← hx] at hSA ⊢
          exact splitAt_end hSA
        clear hall hSA
        go_wp2_with (first
          | (at_builtin; refine wpList_append_lies _ rfl _ _ 47 rfl w.heap.size 9 i0 (.string ByteArray.empty) 1 16 Try.underlying47 hi hz0 hz1 hz2 rfl (by omega) _ _ _ rfl (hown.alloc _) ⟨wr.heap.size, 0, none⟩ 1 1 [.string (s.extract fr s.size)] rfl rfl (cell_one_new _ _ _) (one_str _) (by omega) (by unfold maxLen; omega) (by omega) (by simp; omega) (wr.heap.size + 1) (by simp) ?_; intro g cap w1 hown1 hgrow hat hlt1))
        have R := step_own (extract_bs s fr s.size) hown hbel hown1 hgrow
        clear hown1 hgrow hown
        go_wp2
        go_roundw
        case rel => exact ⟨s.size + 1, s.size + 1, _, by omega, by omega, by simp <;> omega, by go_num, by go_num, R.1, R.2, .inr ⟨rfl, HN.out⟩⟩
        case measure => simp [intOf] <;> omega
      · have HN : Hid (splitL n (tx s) = d) := by
          rcases hall.out with h | h
          · omega
          · exact h.2
        have HR := hid (row_of hown HN.out hbel)
        clear hown hbel hall HN
        go_wp2
        go_ret
        exact ⟨_, rfl, HR.out.1, HR.out.2⟩

set_option maxHeartbeats 1000000 in
theorem psplit_any (s : ByteArray) (n : Int) (w : World) (hs : s.size ≤ 100000) :
    Calls Try.prog 18 #[.string s, .int .u8 n] w fun e w' => ∃ v, e = .returned v ∧ Row w' w.heap.size v (splitL n (tx s)) ∧ Below w.heap.size w w' := by
  obtain ⟨i0, hi, hz0, hz1, hz2⟩ := info_parts info_str
  go_enter Try.func18, Try.ntmps18
  go_wp2
  go_loopw [5, 6, 7] (fun v st i wr => ∃ (k fr : Nat) (d : List Tx), k ≤ s.size ∧ fr ≤ k ∧ d.length ≤ k ∧ st = .int .i64 fr ∧ i = .int .i64 k ∧ wr.ownsRow w.heap.size 9 1 v d.length (strs d) ∧ Below w.heap.size w wr ∧ Hid (SplitAt n (tx s) k fr d)) (fun _ _ i _ => s.size - (intOf i).toNat)
  case atStart => exact ⟨0, 0, [], by omega, by omega, by simp, rfl, rfl, World.ownsRow_nil _ _ _ _, Below.refl _ _, splitAt_start _ _⟩
  case round =>
    obtain ⟨k, fr, d, hk, hfr, hd, rfl, rfl, hown, hbel, hSA⟩ := hrel
    have hsz := hbel.size
    by_cases hlt : k < s.size
    · by_cases hb : ((s[k]'hlt).toNat : Int) = n
      · have hbb : (((s[k]'hlt).toNat : Int) == n) = true := by simp [hb]
        have HN : Hid (SplitAt n (tx s) (k + 1) (k + 1) (d ++ [((tx s).drop fr).take (k - fr)])) := splitAt_yes hSA.out (by rw [tx_length]; exact hlt) hb
        clear hb hSA
        go_wp2_with (first
          | (at_builtin; refine wpList_append_lies _ rfl _ _ 47 rfl w.heap.size 9 i0 (.string ByteArray.empty) 1 16 Try.underlying47 hi hz0 hz1 hz2 rfl (by omega) _ _ _ rfl (hown.alloc _) ⟨wr.heap.size, 0, none⟩ 1 1 [.string (s.extract fr k)] rfl rfl (cell_one_new _ _ _) (one_str _) (by omega) (by unfold maxLen; omega) (by omega) (by simp; omega) (wr.heap.size + 1) (by simp) ?_; intro g cap w1 hown1 hgrow hat hlt1))
        have R := step_own (extract_bs s fr k) hown hbel hown1 hgrow
        clear hown1 hgrow hown
        go_wp2
        go_roundw
        case rel => exact ⟨k + 1, k + 1, _, by omega, by omega, by simp; omega, by go_num, by go_num, R.1, R.2, HN.out⟩
        case measure => simp [intOf]; omega
      · have hbb : (((s[k]'hlt).toNat : Int) == n) = false := by simp [hb]
        have HN : Hid (SplitAt n (tx s) (k + 1) fr d) := splitAt_no hSA.out (by rw [tx_length]; exact hlt) hb
        clear hb hSA
        go_wp2
        go_roundw
        case rel => exact ⟨k + 1, fr, d, by omega, by omega, by omega, rfl, by go_num, hown, hbel, HN.out⟩
        case measure => simp [intOf]; omega
    · have hend : k = s.size := by omega
      subst hend
      have HN : Hid (splitL n (tx s) = d ++ [((tx s).drop fr).take (s.size - fr)]) := by
        have hx := tx_length s
        have h2 := hSA.out
        rw [← hx] at h2 ⊢
        exact splitAt_end h2
      clear hSA
      go_wp2_with (first
        | (at_builtin; refine wpList_append_lies _ rfl _ _ 47 rfl w.heap.size 9 i0 (.string ByteArray.empty) 1 16 Try.underlying47 hi hz0 hz1 hz2 rfl (by omega) _ _ _ rfl (hown.alloc _) ⟨wr.heap.size, 0, none⟩ 1 1 [.string (s.extract fr s.size)] rfl rfl (cell_one_new _ _ _) (one_str _) (by omega) (by unfold maxLen; omega) (by omega) (by simp; omega) (wr.heap.size + 1) (by simp) ?_; intro g cap w1 hown1 hgrow hat hlt1))
      have R := step_own (extract_bs s fr s.size) hown hbel hown1 hgrow
      have HR : Hid (Row w1 w.heap.size (.slice (some ⟨g, 0, none⟩) (d.length + 1) cap) (splitL n (tx s)) ∧ Below w.heap.size w w1) := by
        unfold Hid Row
        rw [HN.out]
        exact R
      clear hown1 hgrow hown R
      go_wp2
      go_ret
      exact ⟨_, rfl, HR.out.1, HR.out.2⟩

/-- What the walk wants of such a row: its form, its cells. -/
theorem Row.form {w : World} {base : Nat} {v : Value} {d : List Tx} (h : Row w base v d) (hd : d ≠ []) : ∃ g cap, v = .slice (some ⟨g, 0, none⟩) d.length cap ∧ base ≤ g ∧ g < w.heap.size ∧ ∀ (j : Nat) (hj : j < d.length), w.cell? ⟨g, j, none⟩ = some (.string (bs d[j])) := by
  have hn : 0 < d.length := List.length_pos_iff.2 hd
  obtain ⟨g, cap, rfl, h1, h2⟩ := form_ne h hn
  refine ⟨g, cap, rfl, h1, h2, fun j hj => ?_⟩
  rw [World.ownsRow.cellAt h j (by omega)]
  simp [strs, hj]

end Hst
end Go.Proofs.Ytecocheolbkneaa
namespace Go.Proofs.Ytecocheolbkneaa
open Go.RowKit
namespace Hst
set_option maxRecDepth 100000

theorem pg_yes (s : ByteArray) (k : Nat) (acc : Int) (h : k < s.size) (hd : dig s[k] = true) (hn : acc * 10 + ((s[k].toNat : Int) - 48) ≤ 99) :
    partGo acc ((tx s).drop k) = partGo (acc * 10 + ((s[k].toNat : Int) - 48)) ((tx s).drop (k + 1)) := by
  rw [tx_drop s k h]; simp only [partGo, hd, if_true]; rw [if_neg (by omega)]
theorem pg_big (s : ByteArray) (k : Nat) (acc : Int) (h : k < s.size) (hd : dig s[k] = true) (hn : 99 < acc * 10 + ((s[k].toNat : Int) - 48)) :
    partGo acc ((tx s).drop k) = none := by
  rw [tx_drop s k h]; simp only [partGo, hd, if_true]; rw [if_pos (by omega)]
theorem pg_no (s : ByteArray) (k : Nat) (acc : Int) (h : k < s.size) (hd : dig s[k] = false) : partGo acc ((tx s).drop k) = none := by
  rw [tx_drop s k h]; simp [partGo, hd]
theorem pg_end (s : ByteArray) (k : Nat) (acc : Int) (h : ¬ k < s.size) : partGo acc ((tx s).drop k) = some acc := by
  rw [List.drop_of_length_le (by rw [tx_length]; omega)]; rfl
theorem partP_empty (s : ByteArray) (h : s.size = 0) : partP (tx s) = none := by
  have : tx s = [] := List.length_eq_zero_iff.1 (by rw [tx_length]; exact h)
  simp [partP, this]
theorem tx_head (s : ByteArray) (h : 0 < s.size) : (tx s).head? = some s[0] := by
  have := tx_drop s 0 h
  simp at this; rw [this]; rfl
theorem byte_eq {b : UInt8} {n : Nat} (hn : n < 256) (h : (b.toNat : Int) = n) : b = n.toUInt8 := by
  apply UInt8.toNat_inj.1
  simp; omega
theorem partP_zero (s : ByteArray) (h : 0 < s.size) (h1 : (s[0].toNat : Int) = 48) (h2 : 1 < s.size) : partP (tx s) = none := by
  have e : s[0] = (48 : UInt8) := byte_eq (n := 48) (by omega) h1
  have hl := tx_length s
  unfold partP
  rw [if_neg (by intro hh; rw [hh] at hl; simp at hl; omega), if_pos ⟨by rw [tx_head s h, e], by omega⟩]
theorem partP_go (s : ByteArray) (h : 0 < s.size) (h1 : ¬ ((s[0].toNat : Int) = 48 ∧ 1 < s.size)) : partP (tx s) = partGo 0 (tx s) := by
  have hl := tx_length s
  unfold partP
  rw [if_neg (by intro hh; rw [hh] at hl; simp at hl; omega), if_neg]
  rintro ⟨a, b⟩
  rw [tx_head s h] at a
  simp at a
  exact h1 ⟨by rw [a]; rfl, by omega⟩
theorem empty_eq (s : ByteArray) (h : 0 < s.size) : s.toList.isEmpty = false := by
  rw [tx_toList, List.isEmpty_eq_false_iff]
  intro hh
  have := tx_length s
  rw [hh] at this; simp at this; omega

set_option maxHeartbeats 1000000 in
theorem parsePart_go (s : ByteArray) (w : World) (hs : s.size ≤ 100) (hp : 0 < s.size) (hz : (((s[0]'hp).toNat : Int) == 48) = false ∨ ((((s[0]'hp).toNat : Int) == 48) = true ∧ (s.size : Int) ≤ 1)) (hg : partP (tx s) = partGo 0 (tx s)) :
    Calls Try.prog 20 #[.string s] w fun e w' => e = .returned (.tuple #[.int .i64 (ov (partP (tx s))), .bool (oks (partP (tx s)))]) ∧ w' = w := by
  have he := empty_eq s hp
  have HG : Hid (partP (tx s) = partGo 0 (tx s)) := hg
  clear hg
  rcases hz with hz | ⟨hz, hz1⟩
  all_goals
    go_enter Try.func20, Try.ntmps20
    go_wp2
    go_loop [4, 5] (fun p i => ∃ (k : Nat) (acc : Int), k ≤ s.size ∧ 0 ≤ acc ∧ acc ≤ 99 ∧ p = .int .i64 acc ∧ i = .int .i64 k ∧ Hid (partP (tx s) = partGo acc ((tx s).drop k))) (fun _ i => s.size - (intOf i).toNat)
    case atStart => exact ⟨0, 0, Nat.zero_le _, by omega, by omega, rfl, rfl, by unfold Hid; rw [HG.out]; rfl⟩
    case round =>
      obtain ⟨k, acc, hk, ha0, ha1, rfl, rfl, hall⟩ := hrel
      by_cases hlt : k < s.size
      · have hb : ((s[k]'hlt).toNat : Int) < 256 := by have := (s[k]'hlt).toNat_lt; omega
        by_cases h1 : ((s[k]'hlt).toNat : Int) < 48
        · have HF : Hid (partP (tx s) = none) := by unfold Hid; rw [hall.out, pg_no s k acc hlt (dig_no1 h1)]
          go_wp2
          go_ret2
          exact ⟨ret_int_bool (by rw [HF.out]; rfl) (by rw [HF.out]; rfl), rfl⟩
        · by_cases h2 : 57 < ((s[k]'hlt).toNat : Int)
          · have HF : Hid (partP (tx s) = none) := by unfold Hid; rw [hall.out, pg_no s k acc hlt (dig_no2 h2)]
            go_wp2
            go_ret2
            exact ⟨ret_int_bool (by rw [HF.out]; rfl) (by rw [HF.out]; rfl), rfl⟩
          · by_cases h3 : 99 < acc * 10 + (((s[k]'hlt).toNat : Int) - 48)
            · have HF : Hid (partP (tx s) = none) := by unfold Hid; rw [hall.out, pg_big s k acc hlt (dig_yes (by omega) (by omega)) h3]
              go_wp2
              go_ret2
              exact ⟨ret_int_bool (by rw [HF.out]; rfl) (by rw [HF.out]; rfl), rfl⟩
            · have HF : Hid (partP (tx s) = partGo (acc * 10 + (((s[k]'hlt).toNat : Int) - 48)) ((tx s).drop (k + 1))) := by unfold Hid; rw [hall.out, pg_yes s k acc hlt (dig_yes (by omega) (by omega)) (by omega)]
              go_wp2
              go_round
              case rel => exact ⟨k + 1, _, by omega, by omega, by omega, rfl, by go_num, HF⟩
              case measure => simp [intOf]; omega
      · have HF : Hid (partP (tx s) = some acc) := by unfold Hid; rw [hall.out, pg_end s k acc hlt]
        go_wp2
        go_ret2
        exact ⟨ret_int_bool (by rw [HF.out]; rfl) (by rw [HF.out]; rfl), rfl⟩

set_option maxHeartbeats 1000000 in
theorem parsePart_any (s : ByteArray) (w : World) (hs : s.size ≤ 100) :
    Calls Try.prog 20 #[.string s] w fun e w' => e = .returned (.tuple #[.int .i64 (ov (partP (tx s))), .bool (oks (partP (tx s)))]) ∧ w' = w := by
  by_cases hp : 0 < s.size
  · by_cases h1 : ((s[0]'hp).toNat : Int) = 48
    · by_cases h2 : 1 < s.size
      · have HF : Hid (partP (tx s) = none) := partP_zero s hp h1 h2
        have he := empty_eq s hp
        have hz : (((s[0]'hp).toNat : Int) == 48) = true := by simp [h1]
        clear h1
        go_enter Try.func20, Try.ntmps20
        go_wp2
        go_ret2
        exact ⟨ret_int_bool (by rw [HF.out]; rfl) (by rw [HF.out]; rfl), rfl⟩
      · exact parsePart_go s w hs hp (.inr ⟨by simp [h1], by omega⟩) (partP_go s hp (by omega))
    · exact parsePart_go s w hs hp (.inl (by simp [h1])) (partP_go s hp (by omega))
  · have HF : Hid (partP (tx s) = none) := partP_empty s (by omega)
    have he : s.toList.isEmpty = true := by
      rw [tx_toList, List.isEmpty_iff]
      exact List.length_eq_zero_iff.1 (by rw [tx_length]; omega)
    go_enter Try.func20, Try.ntmps20
    go_wp2
    go_ret2
    exact ⟨ret_int_bool (by rw [HF.out]; rfl) (by rw [HF.out]; rfl), rfl⟩

/-- What parsePart gives lies between 0 and 99. -/
theorem partGo_bd : ∀ (l : Tx) (acc : Int), 0 ≤ acc → acc ≤ 99 → ∀ n, partGo acc l = some n → 0 ≤ n ∧ n ≤ 99
  | [], acc, h0, h1, n, h => by simp [partGo] at h; omega
  | b :: r, acc, h0, h1, n, h => by
    simp only [partGo] at h
    split at h
    · rename_i hd
      split at h
      · simp at h
      · simp [dig] at hd
        exact partGo_bd r _ (by omega) (by omega) n h
    · simp at h
theorem partP_bd (l : Tx) (n : Int) (h : partP l = some n) : 0 ≤ n ∧ n ≤ 99 := by
  unfold partP at h
  split at h
  · simp at h
  · split at h
    · simp at h
    · exact partGo_bd l 0 (by omega) (by omega) n h
theorem ov_partP_bd (l : Tx) : 0 ≤ ov (partP l) ∧ ov (partP l) ≤ 99 := by
  rcases h : partP l with _ | n
  · simp [ov]
  · have := partP_bd l n h
    simp [ov]; omega

end Hst
end Go.Proofs.Ytecocheolbkneaa
