/- Defs, Leaf, Split, Sdefs, Numt, Heap -/
import Derived.Lib.Strings
import Derived.Test.YtecocheolbkneaaGreatDoorRows
import Derived.WalkKit
import Derived.WalkSpells
import Derived.WalkLawsBesides
import Derived.Deep.AppendLies
namespace Go.Proofs.YtecocheolbkneaaGreatDoor
namespace Hst

abbrev Tx := List UInt8
/-- A text's bytes. -/
def tx (s : ByteArray) : Tx := s.data.toList
/-- The text of some bytes. -/
def bs (l : Tx) : ByteArray := ⟨l.toArray⟩
theorem tx_bs (l : Tx) : tx (bs l) = l := by simp [tx, bs]
theorem bs_tx (s : ByteArray) : bs (tx s) = s := Lib.mk_data s
theorem tx_length (s : ByteArray) : (tx s).length = s.size := (Lib.size_eq s).symm
theorem bs_size (l : Tx) : (bs l).size = l.length := by rw [← tx_length, tx_bs]
theorem tx_extract (s : ByteArray) (a b : Nat) : tx (s.extract a b) = ((tx s).drop a).take (b - a) := Lib.extract_data s a b
theorem extract_bs (s : ByteArray) (a b : Nat) : s.extract a b = bs (((tx s).drop a).take (b - a)) := Lib.extract_eq s a b
theorem tx_drop (s : ByteArray) (k : Nat) (h : k < s.size) : (tx s).drop k = s[k] :: (tx s).drop (k + 1) := by
  rw [List.drop_eq_getElem_cons (by rw [tx_length]; exact h)]; rfl
theorem tx_take (s : ByteArray) (k : Nat) (h : k < s.size) : (tx s).take (k + 1) = (tx s).take k ++ [s[k]] := by
  rw [List.take_succ_eq_append_getElem (by rw [tx_length]; exact h)]; rfl
theorem tx_drop_end (s : ByteArray) : (tx s).drop s.size = [] := List.drop_of_length_le (by rw [tx_length]; exact Nat.le_refl _)
theorem tx_toList (s : ByteArray) : s.toList = tx s := Lib.toList_data s

/-- A byte that is a digit. -/
def dig (b : UInt8) : Bool := decide (48 ≤ b.toNat) && decide (b.toNat ≤ 57)
theorem dig_yes {b : UInt8} (h1 : (48 : Int) ≤ (b.toNat : Int)) (h2 : (b.toNat : Int) ≤ 57) : dig b = true := by
  simp [dig]; omega
theorem dig_no1 {b : UInt8} (h1 : (b.toNat : Int) < 48) : dig b = false := by
  simp [dig]; omega
theorem dig_no2 {b : UInt8} (h1 : (57 : Int) < (b.toNat : Int)) : dig b = false := by
  simp [dig]; omega

/-- How many bytes stand ahead of the first digit. -/
def signLen : Tx → Nat
  | [] => 0
  | b :: r => if dig b then 0 else signLen r + 1

/-- A text, at each byte n. -/
def splitL (n : Int) : Tx → List Tx
  | [] => [[]]
  | b :: r => if (b.toNat : Int) = n then [] :: splitL n r else
    match splitL n r with
    | [] => [[b]]
    | p :: ps => (b :: p) :: ps

theorem splitL_ne (n : Int) (l : Tx) : splitL n l ≠ [] := by
  cases l with
  | nil => simp [splitL]
  | cons b r => simp only [splitL]; split; · simp
                split <;> simp

theorem splitL_len (n : Int) (l : Tx) : (splitL n l).length ≤ l.length + 1 := by
  induction l with
  | nil => simp [splitL]
  | cons b r ih =>
    simp only [splitL]
    split
    · simp; exact ih
    · split
      · simp
      · rename_i h; rw [h] at ih; simp at ih ⊢; omega

/-- One byte more, that is no mark: the last piece grows. -/
theorem splitL_snoc_no (n : Int) (l : Tx) (b : UInt8) (hb : (b.toNat : Int) ≠ n) (d : List Tx) (p : Tx) (h : splitL n l = d ++ [p]) : splitL n (l ++ [b]) = d ++ [p ++ [b]] := by
  induction l generalizing d p with
  | nil =>
    simp [splitL] at h
    cases d with
    | nil => simp at h; subst h; simp [splitL, hb]
    | cons x y => simp at h
  | cons c r ih =>
    simp only [splitL, List.cons_append] at h ⊢
    by_cases hc : (c.toNat : Int) = n
    · rw [if_pos hc] at h ⊢
      cases d with
      | nil => simp at h; exact absurd h.2 (splitL_ne n r)
      | cons x y =>
        simp at h
        obtain ⟨rfl, h⟩ := h
        rw [ih y p h]; simp
    · rw [if_neg hc] at h ⊢
      rcases hs : splitL n r with _ | ⟨q, qs⟩
      · exact absurd hs (splitL_ne n r)
      · rw [hs] at h
        simp only at h
        cases d with
        | nil =>
          simp at h
          obtain ⟨rfl, rfl⟩ := h
          rw [ih [] q (by simp [hs])]; simp
        | cons x y =>
          simp at h
          obtain ⟨rfl, rfl⟩ := h
          rw [ih (q :: y) p (by simp [hs])]; simp

/-- One byte more, a mark: a new piece. -/
theorem splitL_snoc_yes (n : Int) (l : Tx) (b : UInt8) (hb : (b.toNat : Int) = n) : splitL n (l ++ [b]) = splitL n l ++ [[]] := by
  induction l with
  | nil => simp [splitL, hb]
  | cons c r ih =>
    simp only [splitL, List.cons_append]
    by_cases hc : (c.toNat : Int) = n
    · rw [if_pos hc, if_pos hc, ih]; simp
    · rw [if_neg hc, if_neg hc, ih]
      rcases hs : splitL n r with _ | ⟨q, qs⟩
      · exact absurd hs (splitL_ne n r)
      · simp

/-- What stands after k bytes: the pieces that are done, and where the next one begins. -/
def SplitAt (n : Int) (l : Tx) (k st : Nat) (d : List Tx) : Prop := splitL n (l.take k) = d ++ [(l.take k).drop st] ∧ st ≤ k

theorem splitAt_start (n : Int) (l : Tx) : SplitAt n l 0 0 [] := ⟨by simp [splitL], Nat.le_refl _⟩
theorem splitAt_no {n : Int} {l : Tx} {k st : Nat} {d : List Tx} (h : SplitAt n l k st d) (hk : k < l.length) (hb : ((l[k]'hk).toNat : Int) ≠ n) : SplitAt n l (k + 1) st d := by
  refine ⟨?_, by have := h.2; omega⟩
  have e := List.take_succ_eq_append_getElem hk
  rw [e, splitL_snoc_no n _ _ hb d _ h.1, List.drop_append_of_le_length (by simp; have := h.2; omega)]
theorem splitAt_yes {n : Int} {l : Tx} {k st : Nat} {d : List Tx} (h : SplitAt n l k st d) (hk : k < l.length) (hb : ((l[k]'hk).toNat : Int) = n) : SplitAt n l (k + 1) (k + 1) (d ++ [(l.drop st).take (k - st)]) := by
  refine ⟨?_, Nat.le_refl _⟩
  have e := List.take_succ_eq_append_getElem hk
  rw [e, splitL_snoc_yes n _ _ hb, h.1, List.drop_of_length_le (l := List.take k l ++ [l[k]]) (by simp; omega), List.drop_take]
theorem splitAt_end {n : Int} {l : Tx} {st : Nat} {d : List Tx} (h : SplitAt n l l.length st d) : splitL n l = d ++ [(l.drop st).take (l.length - st)] := by
  have := h.1
  rw [List.take_of_length_le (Nat.le_refl _)] at this
  rw [this, List.take_of_length_le (by simp)]
theorem splitAt_len {n : Int} {l : Tx} {k st : Nat} {d : List Tx} (h : SplitAt n l k st d) : d.length ≤ k := by
  have h1 := splitL_len n (l.take k)
  rw [h.1] at h1; simp at h1
  have := Nat.min_le_left k l.length
  omega

/-! ### numbers -/
/-- What the loop of parsePart comes to. -/
def partGo (acc : Int) : Tx → Option Int
  | [] => some acc
  | b :: r => if dig b = true then (if 99 < acc * 10 + ((b.toNat : Int) - 48) then none else partGo (acc * 10 + ((b.toNat : Int) - 48)) r) else none
/-- parsePart. -/
def partP (l : Tx) : Option Int := if l = [] then none else if l.head? = some 48 ∧ 1 < l.length then none else partGo 0 l
def ov (o : Option Int) : Int := o.getD 0
def oks (o : Option Int) : Bool := o.isSome
/-- What the loop of part comes to. -/
def partGoR (acc : Int) : Tx → Int
  | [] => acc
  | b :: r => if dig b = true then partGoR (10 * acc + ((b.toNat : Int) - 48)) r else -1
/-- part. -/
def partR (l : Tx) : Int := if l.length < 1 ∨ 2 < l.length ∨ (l.length = 2 ∧ l.head? = some 48) then -1 else partGoR 0 l

/-! ### versions -/
def verGo (acc : Int) : List Tx → Option Int
  | [] => some acc
  | p :: r => match partP p with
    | none => none
    | some n => verGo (acc * 100 + n) r
def versionP (l : Tx) : Option Int := if 8 < l.length then none else if (splitL 46 l).length ≠ 3 then none else verGo 0 (splitL 46 l)
structure V3 where
  a : Int
  b : Int
  c : Int
def versionR (l : Tx) : V3 × Bool := if 8 < l.length then (⟨0, 0, 0⟩, false) else if (splitL 46 l).length ≠ 3 then (⟨0, 0, 0⟩, false) else
  (⟨partR ((splitL 46 l).getD 0 []), partR ((splitL 46 l).getD 1 []), partR ((splitL 46 l).getD 2 [])⟩,
    decide (0 ≤ partR ((splitL 46 l).getD 0 [])) && decide (0 ≤ partR ((splitL 46 l).getD 1 [])) && decide (0 ≤ partR ((splitL 46 l).getD 2 [])))

/-! ### conditions -/
def mx (a b : Int) : Int := if a < b then b else a
def mn (a b : Int) : Int := if b < a then b else a
/-- The highest version that '^' lets by. -/
def caretHi (n : Int) : Int := if n / 10000 ≠ 0 then n - n % 10000 + 10000 - 1 else if n / 100 % 100 ≠ 0 then n - n % 100 + 100 - 1 else n
def belowB (a b c x y z : Int) : Bool := if a ≠ x then decide (a < x) else if b ≠ y then decide (b < y) else decide (c < z)
def spanOfP (sg : Tx) (v : Int) : Option (Int × Int) :=
  if sg = [61] then some (v, v) else if sg = [62] then some (v + 1, 999999) else if sg = [62, 61] then some (v, 999999) else
  if sg = [60] then some (0, v - 1) else if sg = [60, 61] then some (0, v) else if sg = [94] then some (v, caretHi v) else
  if sg = [126] then some (v, v - v % 100 + 100 - 1) else none
def condP (l : Tx) : Option (Int × Int) := if l = [42] then some (0, 999999) else
  match versionP (l.drop (signLen l)) with
  | none => none
  | some v => spanOfP (l.take (signLen l)) v
def slo (o : Option (Int × Int)) : Int := (o.getD (0, 0)).1
def shi (o : Option (Int × Int)) : Int := (o.getD (0, 0)).2
def sok (o : Option (Int × Int)) : Bool := o.isSome
def signedR (l : Tx) : Tx × Tx :=
  if l.take 2 = [62, 61] ∨ l.take 2 = [60, 61] then (l.take 2, l.drop 2) else
  match l with
  | [] => ([], [])
  | b :: r => if b = 61 ∨ b = 62 ∨ b = 60 ∨ b = 94 ∨ b = 126 then ([b], r) else ([], b :: r)
def isCondR (l : Tx) : Bool := decide (l = [42]) || (!(signedR l).1.isEmpty && (versionR (signedR l).2).2)
def eq3 (v w : V3) : Bool := decide (v.a = w.a) && decide (v.b = w.b) && decide (v.c = w.c)
def holdsS (sg : Tx) (w v : V3) : Bool :=
  let low := belowB v.a v.b v.c w.a w.b w.c
  if sg = [61] then eq3 v w else if sg = [62] then !low && !eq3 v w else if sg = [62, 61] then !low else
  if sg = [60] then low else if sg = [60, 61] then low || eq3 v w else
  if sg = [126] then !low && decide (v.a = w.a) && decide (v.b = w.b) else
  if sg = [94] then (if w.a ≠ 0 then !low && decide (v.a = w.a) else if w.b ≠ 0 then !low && decide (v.a = 0) && decide (v.b = w.b) else eq3 v w) else true
def holdsR (l : Tx) (v : V3) : Bool := holdsS (signedR l).1 (versionR (signedR l).2).1 v

/-! ### ranges -/
def altGo (lo hi : Int) : List Tx → Option (Int × Int)
  | [] => some (lo, hi)
  | c :: r => match condP c with
    | none => none
    | some s => altGo (mx lo s.1) (mn hi s.2) r
def altP (l : Tx) : Option (Int × Int) := altGo 0 999999 (splitL 38 l)
def rangeGo (acc : List (Int × Int)) : List Tx → Option (List (Int × Int))
  | [] => some acc
  | a :: r => match altP a with
    | none => none
    | some s => rangeGo (acc ++ [s]) r
def rangeP (l : Tx) : Option (List (Int × Int)) := if 60 < l.length then none else rangeGo [] (splitL 124 l)
def fitsP (sp : List (Int × Int)) (v : Int) : Bool := sp.any fun s => decide (s.1 ≤ v) && decide (v ≤ s.2)
def isAltR (l : Tx) : Bool := (splitL 38 l).all isCondR
def isRangeR (l : Tx) : Bool := decide (l.length ≤ 60) && (splitL 124 l).all isAltR
def altFitR (l : Tx) (v : V3) : Bool := (splitL 38 l).all fun c => holdsR c v
def fitR (l : Tx) (v : V3) : Bool := (splitL 124 l).any fun a => altFitR a v

/-- Fits of the program: its answer and its error. -/
def fitsProg (r v : Tx) : Bool × Int := match rangeP r with
  | none => (false, 1)
  | some sp => match versionP v with
    | none => (false, 2)
    | some n => (fitsP sp n, 0)
theorem fitsProg1 {r v : Tx} (h : rangeP r = none) : fitsProg r v = (false, 1) := by simp [fitsProg, h]
theorem fitsProg2 {r v : Tx} {sp : List (Int × Int)} (h : rangeP r = some sp) (h' : versionP v = none) : fitsProg r v = (false, 2) := by simp [fitsProg, h, h']
theorem fitsProg3 {r v : Tx} {sp : List (Int × Int)} {n : Int} (h : rangeP r = some sp) (h' : versionP v = some n) : fitsProg r v = (fitsP sp n, 0) := by simp [fitsProg, h, h']

end Hst
end Go.Proofs.YtecocheolbkneaaGreatDoor
namespace Go.Proofs.YtecocheolbkneaaGreatDoor
open Go.RowKit
namespace Hst
set_option maxRecDepth 100000

theorem bcell {W w1 : World} (hb : Below W.heap.size W w1) : (∀ b o, b < W.heap.size → w1.cell? ⟨b, o, none⟩ = W.cell? ⟨b, o, none⟩) ∧ (∀ b o, b < W.heap.size → w1.frozen? ⟨b, o, none⟩ = W.frozen? ⟨b, o, none⟩) :=
  ⟨fun b o h => hb.cell (p := ⟨b, o, none⟩) h, fun b o h => hb.frozen (p := ⟨b, o, none⟩) h⟩

theorem ret_int {k : IntKind} {a b : Int} (h : a = b) : Ending.returned (.int k a) = .returned (.int k b) := by rw [h]
theorem ret_bool {a b : Bool} (h : a = b) : Ending.returned (.bool a) = .returned (.bool b) := by rw [h]
theorem ret_int_bool {k : IntKind} {a b : Int} {c d : Bool} (h : a = b) (h' : c = d) : Ending.returned (.tuple #[.int k a, .bool c]) = .returned (.tuple #[.int k b, .bool d]) := by rw [h, h']
theorem ret_bool_int {k : IntKind} {a b : Int} {c d : Bool} (h' : c = d) (h : a = b) : Ending.returned (.tuple #[.bool c, .int k a]) = .returned (.tuple #[.bool d, .int k b]) := by rw [h, h']
theorem ret_str2 {a b c d : ByteArray} (h : a = b) (h' : c = d) : Ending.returned (.tuple #[.string a, .string c]) = .returned (.tuple #[.string b, .string d]) := by rw [h, h']
theorem str_eq (s : ByteArray) (l : Tx) (h : tx s = l) : (s.toList == l) = true := by rw [tx_toList, h]; simp
theorem str_ne (s : ByteArray) (l : Tx) (h : tx s ≠ l) : (s.toList == l) = false := by rw [tx_toList]; simp [h]

set_option maxHeartbeats 400000 in
theorem num_any (n : Int) (w : World) :
    Calls Tryz.prog 51 #[.int .i64 n] w fun e w' => e = .returned (.int .i64 n) ∧ w' = w := by
  go_enter Tryz.func51, Tryz.ntmps51
  go_wp2
  go_ret
  exact ⟨rfl, rfl⟩

set_option maxHeartbeats 400000 in
theorem first_any (n : Int) (w : World) (h0 : 0 ≤ n) (h1 : n ≤ 999999) :
    Calls Tryz.prog 107 #[.int .i64 n] w fun e w' => e = .returned (.int .i64 (n / 10000)) ∧ w' = w := by
  go_enter Tryz.func107, Tryz.ntmps107
  go_wp2
  go_ret
  exact ⟨rfl, rfl⟩

set_option maxHeartbeats 400000 in
theorem second_any (n : Int) (w : World) (h0 : 0 ≤ n) (h1 : n ≤ 999999) :
    Calls Tryz.prog 108 #[.int .i64 n] w fun e w' => e = .returned (.int .i64 (n / 100 % 100)) ∧ w' = w := by
  go_enter Tryz.func108, Tryz.ntmps108
  go_wp2
  go_ret
  exact ⟨rfl, rfl⟩

set_option maxHeartbeats 400000 in
theorem hiFirst_any (n : Int) (w : World) (h0 : 0 ≤ n) (h1 : n ≤ 999999) :
    Calls Tryz.prog 190 #[.int .i64 n] w fun e w' => e = .returned (.int .i64 (n - n % 10000 + 10000 - 1)) ∧ w' = w := by
  go_enter Tryz.func190, Tryz.ntmps190
  go_wp2
  go_ret
  exact ⟨rfl, rfl⟩

set_option maxHeartbeats 400000 in
theorem hiSecond_any (n : Int) (w : World) (h0 : 0 ≤ n) (h1 : n ≤ 999999) :
    Calls Tryz.prog 187 #[.int .i64 n] w fun e w' => e = .returned (.int .i64 (n - n % 100 + 100 - 1)) ∧ w' = w := by
  go_enter Tryz.func187, Tryz.ntmps187
  go_wp2
  go_ret
  exact ⟨rfl, rfl⟩

set_option maxHeartbeats 400000 in
theorem caret_any (n : Int) (w : World) (h0 : 0 ≤ n) (h1 : n ≤ 999999) :
    Calls Tryz.prog 186 #[.int .i64 n] w fun e w' => e = .returned (.int .i64 (caretHi n)) ∧ w' = w := by
  unfold caretHi
  by_cases c1 : n / 10000 = 0
  · have b1 : (n / 10000 != 0) = false := by simp [c1]
    by_cases c2 : n / 100 % 100 = 0
    · have b2 : (n / 100 % 100 != 0) = false := by simp [c2]
      rw [if_neg (by omega), if_neg (by omega)]
      have H1 : Hid (n / 10000 = 0) := c1; have H2 : Hid (n / 100 % 100 = 0) := c2
      clear c1 c2
      go_enter Tryz.func186, Tryz.ntmps186
      go_wp2_with (first | (go_at_call 107; refine (first_any _ _ h0 h1).mono ?_; rintro e w' ⟨rfl, rfl⟩) | (go_at_call 108; refine (second_any _ _ h0 h1).mono ?_; rintro e w' ⟨rfl, rfl⟩))
      go_ret
      exact ⟨rfl, rfl⟩
    · have b2 : (n / 100 % 100 != 0) = true := by simp [c2]
      rw [if_neg (by omega), if_pos c2]
      have H1 : Hid (n / 10000 = 0) := c1
      clear c1 c2
      go_enter Tryz.func186, Tryz.ntmps186
      go_wp2_with (first | (go_at_call 107; refine (first_any _ _ h0 h1).mono ?_; rintro e w' ⟨rfl, rfl⟩) | (go_at_call 108; refine (second_any _ _ h0 h1).mono ?_; rintro e w' ⟨rfl, rfl⟩) | (go_at_call 187; refine (hiSecond_any _ _ h0 h1).mono ?_; rintro e w' ⟨rfl, rfl⟩))
      go_ret
      exact ⟨rfl, rfl⟩
  · have b1 : (n / 10000 != 0) = true := by simp [c1]
    rw [if_pos c1]
    clear c1
    go_enter Tryz.func186, Tryz.ntmps186
    go_wp2_with (first | (go_at_call 107; refine (first_any _ _ h0 h1).mono ?_; rintro e w' ⟨rfl, rfl⟩) | (go_at_call 190; refine (hiFirst_any _ _ h0 h1).mono ?_; rintro e w' ⟨rfl, rfl⟩))
    go_ret
    exact ⟨rfl, rfl⟩

/-- A span, as a value. -/
abbrev spanV (lo hi : Int) : Value := .agg #[.int .i64 lo, .int .i64 hi]
/-- A version's three numbers, as a value. -/
abbrev verV (a b c : Int) : Value := .agg #[.int .i64 a, .int .i64 b, .int .i64 c]

set_option maxHeartbeats 400000 in
theorem every_any (w : World) :
    Calls Tryz.prog 165 #[] w fun e w' => e = .returned (spanV 0 999999) ∧ Below w.heap.size w w' := by
  go_enter Tryz.func165, Tryz.ntmps165
  go_wp2
  exact bodyPost_ret (v := spanV 0 999999) (by simp [results, Tryz.results165, go_sem]) rfl ⟨rfl, (Below.refl _ _).alloc (Nat.le_refl _) _⟩

set_option maxHeartbeats 400000 in
theorem isEmpty_any (lo hi : Int) (w : World) :
    Calls Tryz.prog 157 #[spanV lo hi] w fun e w' => e = .returned (.bool (decide (hi < lo))) ∧ Below w.heap.size w w' := by
  go_enter Tryz.func157, Tryz.ntmps157
  go_wp2
  go_ret
  exact ⟨rfl, (Below.refl _ _).alloc (Nat.le_refl _) _⟩

end Hst
end Go.Proofs.YtecocheolbkneaaGreatDoor
namespace Go.Proofs.YtecocheolbkneaaGreatDoor
open Go.RowKit
namespace Hst
set_option maxRecDepth 100000

theorem info_str : (Tryz.prog.info? 9).map (fun i => (i.zero, i.size, i.bytes)) = some (some (.string ByteArray.empty), 1, 16) := by kernel_rfl

/-- The cells of a list of texts. -/
def strs (d : List Tx) : List Value := d.map fun p => Value.string (bs p)
theorem strs_snoc (d : List Tx) (p : Tx) : strs d ++ [Value.string (bs p)] = strs (d ++ [p]) := by simp [strs]
theorem strs_len (d : List Tx) : (strs d).length = d.length := by simp [strs]

/-- One piece more. -/
theorem step_own {w w1 wr : World} {v : Value} {d : List Tx} {p : Tx} {q : ByteArray} {g cap : Nat} {o : Obj} (hq : q = bs p) (hown : wr.ownsRow w.heap.size 9 1 v d.length (strs d)) (hbel : Below w.heap.size w wr)
    (hown1 : w1.ownsRow w.heap.size 9 1 (.slice (some ⟨g, 0, none⟩) (d.length + 1) cap) (d.length + 1) (strs d ++ [Value.string q])) (hgrow : (wr.alloc o).grownBy w1 v.ownBlock) :
    w1.ownsRow w.heap.size 9 1 (.slice (some ⟨g, 0, none⟩) (d.length + 1) cap) (d ++ [p]).length (strs (d ++ [p])) ∧ Below w.heap.size w w1 := by
  subst hq
  refine ⟨?_, ?_⟩
  · rw [strs_snoc] at hown1
    simpa using hown1
  · have hz := hbel.size
    exact (hbel.alloc hz _).grown hgrow (by simp; omega) (fun k hk => (hown.lt k hk).1)
theorem one_str (q : ByteArray) : ∀ u ∈ [Value.string q], u.oneCell' = true := by intro u hu; simp at hu; subst hu; rfl
theorem form_ne {w : World} {base n : Nat} {v : Value} {xs : List Value} {e : Nat} (h : w.ownsRow base e 1 v n xs) (hn : 0 < n) : ∃ g cap, v = .slice (some ⟨g, 0, none⟩) n cap ∧ base ≤ g ∧ g < w.heap.size := by
  obtain ⟨h1, h2⟩ := h
  rcases h2 with ⟨rfl, h2⟩ | ⟨g, cap, cur, hv, hg, hh, r⟩
  · omega
  · exact ⟨g, cap, hv, hg, lt_of_block hh⟩

/-- The row of texts that a call has made. -/
def Row (w : World) (base : Nat) (v : Value) (d : List Tx) : Prop := w.ownsRow base 9 1 v d.length (strs d)

theorem hid {p : Prop} (h : p) : Hid p := h
theorem row_of {w wr : World} {v : Value} {d e : List Tx} (hown : wr.ownsRow w.heap.size 9 1 v d.length (strs d)) (h : e = d) (hbel : Below w.heap.size w wr) : Row wr w.heap.size v e ∧ Below w.heap.size w wr := by
  subst h
  exact ⟨hown, hbel⟩

set_option maxHeartbeats 1000000 in
theorem rsplit_any (s : ByteArray) (n : Int) (w : World) (hs : s.size ≤ 100000) :
    Calls Tryz.prog 119 #[.string s, .int .u8 n] w fun e w' => ∃ v, e = .returned v ∧ Row w' w.heap.size v (splitL n (tx s)) ∧ Below w.heap.size w w' := by
  obtain ⟨i0, hi, hz0, hz1, hz2⟩ := info_parts info_str
  go_enter Tryz.func119, Tryz.ntmps119
  go_wp2
  go_loopw [5, 6, 7] (fun v st i wr => ∃ (k fr : Nat) (d : List Tx), k ≤ s.size + 1 ∧ fr ≤ k ∧ d.length ≤ k ∧ st = .int .i64 fr ∧ i = .int .i64 k ∧ wr.ownsRow w.heap.size 9 1 v d.length (strs d) ∧ Below w.heap.size w wr ∧ Hid ((k ≤ s.size ∧ SplitAt n (tx s) k fr d) ∨ (k = s.size + 1 ∧ splitL n (tx s) = d))) (fun _ _ i _ => s.size + 1 - (intOf i).toNat)
  case atStart => exact ⟨0, 0, [], by omega, by omega, by simp, rfl, rfl, World.ownsRow_nil _ _ _ _, Below.refl _ _, .inl ⟨by omega, splitAt_start _ _⟩⟩
  case round =>
    obtain ⟨k, fr, d, hk, hfr, hd, rfl, rfl, hown, hbel, hall⟩ := hrel
    have hsz := hbel.size
    by_cases hlt : k < s.size
    · have hSA : Hid (SplitAt n (tx s) k fr d) := by rcases hall.out with h | h; · exact h.2
                                                     · omega
      have hne : ((k : Int) == (s.size : Int)) = false := by simp; omega
      by_cases hb : ((s[k]'hlt).toNat : Int) = n
      · have hbb : (((s[k]'hlt).toNat : Int) == n) = true := by simp [hb]
        have HN : Hid (SplitAt n (tx s) (k + 1) (k + 1) (d ++ [((tx s).drop fr).take (k - fr)])) := splitAt_yes hSA.out (by rw [tx_length]; exact hlt) hb
        have hl2 : d.length ≤ k := hd
        clear hb hall hSA
        go_wp2_with (first
          | (at_builtin; refine wpList_append_lies _ rfl _ _ 42 rfl w.heap.size 9 i0 (.string ByteArray.empty) 1 16 Tryz.underlying42 hi hz0 hz1 hz2 rfl (by omega) _ _ _ rfl (hown.alloc _) ⟨wr.heap.size, 0, none⟩ 1 1 [.string (s.extract fr k)] rfl rfl (cell_one_new _ _ _) (one_str _) (by omega) (by unfold maxLen; omega) (by omega) (by simp; omega) (wr.heap.size + 1) (by simp) ?_; intro g cap w1 hown1 hgrow hat hlt1))
        have R := step_own (extract_bs s fr k) hown hbel hown1 hgrow
        clear hown1 hgrow hown
        go_wp2
        go_roundw
        case rel => exact ⟨k + 1, k + 1, _, by omega, by omega, by simp; omega, by go_num, by go_num, R.1, R.2, .inl ⟨by omega, HN.out⟩⟩
        case measure => simp [intOf]; omega
      · have hbb : (((s[k]'hlt).toNat : Int) == n) = false := by simp [hb]
        have HN : Hid (SplitAt n (tx s) (k + 1) fr d) := splitAt_no hSA.out (by rw [tx_length]; exact hlt) hb
        clear hb hall hSA
        go_wp2
        go_roundw
        case rel => exact ⟨k + 1, fr, d, by omega, by omega, by omega, rfl, by go_num, hown, hbel, .inl ⟨by omega, HN.out⟩⟩
        case measure => simp [intOf]; omega
    · by_cases hend : k = s.size
      · subst hend
        have hSA : SplitAt n (tx s) s.size fr d := by
          rcases hall.out with h | h
          · exact h.2
          · omega
        have HN : Hid (splitL n (tx s) = d ++ [((tx s).drop fr).take (s.size - fr)]) := by
          have hx := tx_length s
          rw [← hx] at hSA ⊢
          exact splitAt_end hSA
        clear hall hSA
        go_wp2_with (first
          | (at_builtin; refine wpList_append_lies _ rfl _ _ 42 rfl w.heap.size 9 i0 (.string ByteArray.empty) 1 16 Tryz.underlying42 hi hz0 hz1 hz2 rfl (by omega) _ _ _ rfl (hown.alloc _) ⟨wr.heap.size, 0, none⟩ 1 1 [.string (s.extract fr s.size)] rfl rfl (cell_one_new _ _ _) (one_str _) (by omega) (by unfold maxLen; omega) (by omega) (by simp; omega) (wr.heap.size + 1) (by simp) ?_; intro g cap w1 hown1 hgrow hat hlt1))
        have R := step_own (extract_bs s fr s.size) hown hbel hown1 hgrow
        clear hown1 hgrow hown
        go_wp2
        go_roundw
        case rel => exact ⟨s.size + 1, s.size + 1, _, by omega, by omega, by simp <;> omega, by go_num, by go_num, R.1, R.2, .inr ⟨rfl, HN.out⟩⟩
        case measure => simp [intOf] <;> omega
      · have HN : Hid (splitL n (tx s) = d) := by
          rcases hall.out with h | h
          · omega
          · exact h.2
        have HR := hid (row_of hown HN.out hbel)
        clear hown hbel hall HN
        go_wp2
        go_ret
        exact ⟨_, rfl, HR.out.1, HR.out.2⟩

set_option maxHeartbeats 1000000 in
theorem psplit_any (s : ByteArray) (n : Int) (w : World) (hs : s.size ≤ 100000) :
    Calls Tryz.prog 110 #[.string s, .int .u8 n] w fun e w' => ∃ v, e = .returned v ∧ Row w' w.heap.size v (splitL n (tx s)) ∧ Below w.heap.size w w' := by
  obtain ⟨i0, hi, hz0, hz1, hz2⟩ := info_parts info_str
  go_enter Tryz.func110, Tryz.ntmps110
  go_wp2
  go_loopw [5, 6, 7] (fun v st i wr => ∃ (k fr : Nat) (d : List Tx), k ≤ s.size ∧ fr ≤ k ∧ d.length ≤ k ∧ st = .int .i64 fr ∧ i = .int .i64 k ∧ wr.ownsRow w.heap.size 9 1 v d.length (strs d) ∧ Below w.heap.size w wr ∧ Hid (SplitAt n (tx s) k fr d)) (fun _ _ i _ => s.size - (intOf i).toNat)
  case atStart => exact ⟨0, 0, [], by omega, by omega, by simp, rfl, rfl, World.ownsRow_nil _ _ _ _, Below.refl _ _, splitAt_start _ _⟩
  case round =>
    obtain ⟨k, fr, d, hk, hfr, hd, rfl, rfl, hown, hbel, hSA⟩ := hrel
    have hsz := hbel.size
    by_cases hlt : k < s.size
    · by_cases hb : ((s[k]'hlt).toNat : Int) = n
      · have hbb : (((s[k]'hlt).toNat : Int) == n) = true := by simp [hb]
        have HN : Hid (SplitAt n (tx s) (k + 1) (k + 1) (d ++ [((tx s).drop fr).take (k - fr)])) := splitAt_yes hSA.out (by rw [tx_length]; exact hlt) hb
        clear hb hSA
        go_wp2_with (first
          | (at_builtin; refine wpList_append_lies _ rfl _ _ 42 rfl w.heap.size 9 i0 (.string ByteArray.empty) 1 16 Tryz.underlying42 hi hz0 hz1 hz2 rfl (by omega) _ _ _ rfl (hown.alloc _) ⟨wr.heap.size, 0, none⟩ 1 1 [.string (s.extract fr k)] rfl rfl (cell_one_new _ _ _) (one_str _) (by omega) (by unfold maxLen; omega) (by omega) (by simp; omega) (wr.heap.size + 1) (by simp) ?_; intro g cap w1 hown1 hgrow hat hlt1))
        have R := step_own (extract_bs s fr k) hown hbel hown1 hgrow
        clear hown1 hgrow hown
        go_wp2
        go_roundw
        case rel => exact ⟨k + 1, k + 1, _, by omega, by omega, by simp; omega, by go_num, by go_num, R.1, R.2, HN.out⟩
        case measure => simp [intOf]; omega
      · have hbb : (((s[k]'hlt).toNat : Int) == n) = false := by simp [hb]
        have HN : Hid (SplitAt n (tx s) (k + 1) fr d) := splitAt_no hSA.out (by rw [tx_length]; exact hlt) hb
        clear hb hSA
        go_wp2
        go_roundw
        case rel => exact ⟨k + 1, fr, d, by omega, by omega, by omega, rfl, by go_num, hown, hbel, HN.out⟩
        case measure => simp [intOf]; omega
    · have hend : k = s.size := by omega
      subst hend
      have HN : Hid (splitL n (tx s) = d ++ [((tx s).drop fr).take (s.size - fr)]) := by
        have hx := tx_length s
        have h2 := hSA.out
        rw [← hx] at h2 ⊢
        exact splitAt_end h2
      clear hSA
      go_wp2_with (first
        | (at_builtin; refine wpList_append_lies _ rfl _ _ 42 rfl w.heap.size 9 i0 (.string ByteArray.empty) 1 16 Tryz.underlying42 hi hz0 hz1 hz2 rfl (by omega) _ _ _ rfl (hown.alloc _) ⟨wr.heap.size, 0, none⟩ 1 1 [.string (s.extract fr s.size)] rfl rfl (cell_one_new _ _ _) (one_str _) (by omega) (by unfold maxLen; omega) (by omega) (by simp; omega) (wr.heap.size + 1) (by simp) ?_; intro g cap w1 hown1 hgrow hat hlt1))
      have R := step_own (extract_bs s fr s.size) hown hbel hown1 hgrow
      have HR : Hid (Row w1 w.heap.size (.slice (some ⟨g, 0, none⟩) (d.length + 1) cap) (splitL n (tx s)) ∧ Below w.heap.size w w1) := by
        unfold Hid Row
        rw [HN.out]
        exact R
      clear hown1 hgrow hown R
      go_wp2
      go_ret
      exact ⟨_, rfl, HR.out.1, HR.out.2⟩

/-- What the walk wants of such a row: its form, its cells. -/
theorem Row.form {w : World} {base : Nat} {v : Value} {d : List Tx} (h : Row w base v d) (hd : d ≠ []) : ∃ g cap, v = .slice (some ⟨g, 0, none⟩) d.length cap ∧ base ≤ g ∧ g < w.heap.size ∧ ∀ (j : Nat) (hj : j < d.length), w.cell? ⟨g, j, none⟩ = some (.string (bs d[j])) := by
  have hn : 0 < d.length := List.length_pos_iff.2 hd
  obtain ⟨g, cap, rfl, h1, h2⟩ := form_ne h hn
  refine ⟨g, cap, rfl, h1, h2, fun j hj => ?_⟩
  rw [World.ownsRow.cellAt h j (by omega)]
  simp [strs, hj]

end Hst
end Go.Proofs.YtecocheolbkneaaGreatDoor
namespace Go.Proofs.YtecocheolbkneaaGreatDoor
namespace Hst

structure NeedD where
  name : Tx
  rng : Tx
structure EntryD where
  name : Tx
  v : V3
  needs : List NeedD
structure PackD where
  path : Tx
  of : Nat
structure WhoD where
  path : Tx
  n : NeedD

/-- The order of texts. -/
def less (a b : Tx) : Bool := Op.bytesLess a b
def low (b : UInt8) : Bool := decide (97 ≤ b.toNat) && decide (b.toNat ≤ 122)
def isNameR (l : Tx) : Bool := decide (1 ≤ l.length) && decide (l.length ≤ 3) && l.all low
/-- How many letters stand ahead. -/
def lowLen : Tx → Nat
  | [] => 0
  | b :: r => if low b then lowLen r + 1 else 0
def needR (l : Tx) : NeedD × Bool := (⟨l.take (lowLen l), l.drop (lowLen l)⟩, isNameR (l.take (lowLen l)) && isRangeR (l.drop (lowLen l)))
/-- Where a need goes among others, sought from the end of the first k. -/
def insPos (x : NeedD) (out : List NeedD) : Nat → Nat
  | 0 => 0
  | k + 1 => if less x.name ((out.getD k ⟨[], []⟩).name) then insPos x out k else k + 1
def insR (x : NeedD) (out : List NeedD) : List NeedD := out.take (insPos x out out.length) ++ [x] ++ out.drop (insPos x out out.length)
def sortGo (out : List NeedD) : List NeedD → List NeedD
  | [] => out
  | x :: r => sortGo (insR x out) r
def sortedR (l : List NeedD) : List NeedD := sortGo [] l
def needsGo (acc : List NeedD) : List Tx → Option (List NeedD)
  | [] => some acc
  | t :: r => if (needR t).2 = true then needsGo (acc ++ [(needR t).1]) r else none
def needsR (s : Tx) : Option (List NeedD) := needsGo [] (splitL 44 s)
/-- A text at its first byte n. -/
def cutR (n : Int) : Tx → Tx × Tx × Bool
  | [] => ([], [], false)
  | b :: r => if (b.toNat : Int) = n then ([], r, true) else (b :: (cutR n r).1, (cutR n r).2.1, (cutR n r).2.2)

/-- The needs behind ':' of an entry, and whether they are needs. -/
def tailR (s : Tx) : List NeedD × Bool := match needsR s with
  | none => ([], false)
  | some l => (sortedR l, decide (l.length ≤ 6))
def entryR (s : Tx) : EntryD × Bool :=
  if (cutR 58 s).2.2 = true then
    (⟨(cutR 64 (cutR 58 s).1).1, (versionR (cutR 64 (cutR 58 s).1).2.1).1, (tailR (cutR 58 s).2.1).1⟩,
      (cutR 64 (cutR 58 s).1).2.2 && (versionR (cutR 64 (cutR 58 s).1).2.1).2 && (isNameR (cutR 64 (cutR 58 s).1).1 && (tailR (cutR 58 s).2.1).2))
  else
    (⟨(cutR 64 (cutR 58 s).1).1, (versionR (cutR 64 (cutR 58 s).1).2.1).1, []⟩,
      (cutR 64 (cutR 58 s).1).2.2 && (versionR (cutR 64 (cutR 58 s).1).2.1).2 && isNameR (cutR 64 (cutR 58 s).1).1)
def stockGo (acc : List EntryD) : List Tx → Option (List EntryD)
  | [] => some acc
  | t :: r => if (entryR t).2 = true then stockGo (acc ++ [(entryR t).1]) r else none
def stockR (s : Tx) : Option (List EntryD) := if s = [] then some [] else match stockGo [] (splitL 59 s) with
  | none => none
  | some l => if l.length ≤ 40 then some l else none
def sameE (e f : EntryD) : Bool := decide (e.name = f.name) && eq3 e.v f.v
def twiceN (pre : List NeedD) : List NeedD → Bool
  | [] => false
  | n :: r => (pre.any fun m => decide (m.name = n.name)) || twiceN (pre ++ [n]) r
def againGo (pre : List EntryD) : List EntryD → Bool
  | [] => false
  | e :: r => (pre.any fun f => sameE f e) || (twiceN [] e.needs || againGo (pre ++ [e]) r)
def againR (l : List EntryD) : Bool := againGo [] l
def newR (s : Tx) : Option (List EntryD) × Int := if 4000 < s.length then (none, 4) else match stockR s with
  | none => (none, 5)
  | some l => if againR l = true then (none, 6) else (some l, 0)

/-! ### trees -/
def isEnd (p : Tx) (i : Nat) : Bool := decide (i = p.length) || (decide (i = 0) || decide (p.getD i 0 = 47))
/-- The folders of a path, from i outwards. -/
def foldersGo (p : Tx) : Nat → List Tx
  | 0 => if isEnd p 0 then [p.take 0] else []
  | i + 1 => if isEnd p (i + 1) then p.take (i + 1) :: foldersGo p i else foldersGo p i
def foldersR (p : Tx) : List Tx := foldersGo p p.length
def joinR (p n : Tx) : Tx := if p = [] then n else p ++ [47] ++ n
/-- The index of the first package at a path. -/
def atGo (path : Tx) (i : Nat) : List PackD → Option Nat
  | [] => none
  | p :: r => if p.path = path then some i else atGo path (i + 1) r
def atR (l : List PackD) (path : Tx) : Option Nat := atGo path 0 l
def findGo (l : List PackD) (name : Tx) : List Tx → Option Nat
  | [] => none
  | f :: r => match atR l (joinR f name) with
    | some k => some k
    | none => findGo l name r
def findR (l : List PackD) (path name : Tx) : Option Nat := findGo l name (foldersR path)
def verOf (st : List EntryD) (k : Nat) : V3 := (st.getD k ⟨[], ⟨0, 0, 0⟩, []⟩).v
def needsOf (st : List EntryD) (k : Nat) : List NeedD := (st.getD k ⟨[], ⟨0, 0, 0⟩, []⟩).needs
def packAt (l : List PackD) (k : Nat) : PackD := l.getD k ⟨[], 0⟩
def metR (st : List EntryD) (l : List PackD) (w : WhoD) : Bool := match findR l w.path w.n.name with
  | none => false
  | some k => fitR w.n.rng (verOf st (packAt l k).of)
def allR (st : List EntryD) (needs : List NeedD) (l : List PackD) : List WhoD :=
  (needs.map fun n => ⟨[], n⟩) ++ l.flatMap fun p => (needsOf st p.of).map fun n => ⟨p.path, n⟩
def allMetR (st : List EntryD) (l : List PackD) (who : List WhoD) : Bool := who.all fun w => metR st l w
def hasR (l : List Tx) (p : Tx) : Bool := l.any fun x => decide (x = p)
/-- One pass of inUse: who counts adds what is found. -/
def passGo (l : List PackD) (used : List Tx) (more : Bool) : List WhoD → List Tx × Bool
  | [] => (used, more)
  | w :: r =>
    if (decide (w.path = []) || hasR used w.path) = true then
      match findR l w.path w.n.name with
      | none => passGo l used more r
      | some k => if hasR used (packAt l k).path = true then passGo l used more r else passGo l (used ++ [(packAt l k).path]) true r
    else passGo l used more r
def useGo (l : List PackD) (who : List WhoD) : Nat → List Tx → List Tx
  | 0, used => used
  | f + 1, used => if (passGo l used false who).2 = true then useGo l who f (passGo l used false who).1 else (passGo l used false who).1
def inUseR (st : List EntryD) (needs : List NeedD) (l : List PackD) : List Tx := useGo l (allR st needs l) (l.length + 1) []
def placedGo (p : PackD) (done : Bool) : List PackD → List PackD
  | [] => if done = true then [] else [p]
  | x :: r => if done = false ∧ less p.path x.path = true then p :: x :: placedGo p true r else x :: placedGo p done r
def placedR (l : List PackD) (p : PackD) : List PackD := placedGo p false l
def prunedGo (used : List Tx) (out : List PackD) : List PackD → List PackD
  | [] => out
  | p :: r => if hasR used p.path = true then prunedGo used (placedR out p) r else prunedGo used out r
def prunedR (st : List EntryD) (needs : List NeedD) (l : List PackD) : List PackD := prunedGo (inUseR st needs l) [] l
def favouredR (l : List PackD) (k : Nat) : Bool := l.any fun p => decide (p.of = k)
def greatGo (n : NeedD) (liked : Bool) (tree : List PackD) (st : List EntryD) (best : Option Nat) (i : Nat) : List EntryD → Option Nat
  | [] => best
  | e :: r =>
    if (decide (e.name = n.name) && fitR n.rng e.v) = true ∧ ((!liked) || favouredR tree i) = true ∧ (match best with | none => true | some b => belowB (verOf st b).a (verOf st b).b (verOf st b).c e.v.a e.v.b e.v.c) = true
    then greatGo n liked tree st (some i) (i + 1) r else greatGo n liked tree st best (i + 1) r
def greatestR (st : List EntryD) (n : NeedD) (liked : Bool) (tree : List PackD) : Option Nat := greatGo n liked tree st none 0 st
def chooseR (st : List EntryD) (n : NeedD) (tree : List PackD) : Option Nat := match greatestR st n true tree with
  | some k => some k
  | none => greatestR st n false tree
/-- lay: the folders are tried from the outermost on. -/
def layGo (st : List EntryD) (l : List PackD) (w : WhoD) (k : Nat) (done : List WhoD) : List Tx → List PackD
  | [] => l
  | f :: r =>
    if atR l (joinR f w.n.name) = none ∧ findR (l ++ [⟨joinR f w.n.name, k⟩]) w.path w.n.name = some l.length ∧ allMetR st (l ++ [⟨joinR f w.n.name, k⟩]) done = true
    then l ++ [⟨joinR f w.n.name, k⟩] else layGo st l w k done r
def layR (st : List EntryD) (l : List PackD) (w : WhoD) (k : Nat) (done : List WhoD) : List PackD := layGo st l w k done (foldersR w.path).reverse
/-- build: with fuel (at most 40 packages, so the list of those who need ends). -/
def buildGo (st : List EntryD) (tree : List PackD) : Nat → List PackD → List WhoD → List WhoD → Option (List PackD) × Int
  | 0, _, _, _ => (none, 9)
  | _ + 1, l, _, [] => (some l, 0)
  | f + 1, l, done, w :: todo =>
    if metR st l w = true then buildGo st tree f l (done ++ [w]) todo else
    match chooseR st w.n tree with
    | none => (none, 8)
    | some k => if 40 ≤ l.length then (none, 9) else
      buildGo st tree f (layR st l w k done) (done ++ [w]) (todo ++ allR st [] ((layR st l w k done).drop ((layR st l w k done).length - 1)))
def buildR (st : List EntryD) (needs : List NeedD) (tree : List PackD) : Option (List PackD) × Int := match buildGo st tree 1000 [] [] (allR st needs []) with
  | (none, e) => (none, e)
  | (some l, _) => (some (prunedR st needs l), 0)
def restR (l : List NeedD) (name : Tx) : List NeedD := l.filter fun n => !decide (n.name = name)
/-- A site: its stock, its needs, its packages. -/
structure SiteD where
  stock : List EntryD
  needs : List NeedD
  packs : List PackD
def settleR (s : SiteD) (needs : List NeedD) (tree : List PackD) : SiteD × Int := match buildR s.stock needs tree with
  | (none, e) => (s, e)
  | (some l, _) => (⟨s.stock, needs, l⟩, 0)
def addR (s : SiteD) (text : Tx) : SiteD × Int := if (needR text).2 = false then (s, 5) else
  if 6 ≤ (restR s.needs (needR text).1.name).length then (s, 7) else settleR s (sortedR (restR s.needs (needR text).1.name ++ [(needR text).1])) s.packs
def dropR (s : SiteD) (name : Tx) : SiteD × Int := if (restR s.needs name).length = s.needs.length then (s, 3) else settleR s (restR s.needs name) s.packs
def updateR (s : SiteD) : SiteD × Int := settleR s s.needs []
def neededGo : Bool → List NeedD → Tx
  | _, [] => []
  | first, n :: r => (if first = true then [] else [44]) ++ n.name ++ n.rng ++ neededGo false r
def neededR (s : SiteD) : Tx := neededGo true s.needs

end Hst
end Go.Proofs.YtecocheolbkneaaGreatDoor
namespace Go.Proofs.YtecocheolbkneaaGreatDoor
open Go.RowKit
namespace Hst

/-- A number from 0 to 99, written. -/
def numT (n : Nat) : Tx := if n < 10 then [(48 + n).toUInt8] else [(48 + n / 10).toUInt8, (48 + n % 10).toUInt8]
theorem numT_len (n : Nat) : (numT n).length ≤ 2 := by unfold numT; split <;> simp
theorem hid' {p : Prop} (h : p) : Hid p := h
theorem ret_str {a b : ByteArray} (h : a = b) : Ending.returned (.string a) = .returned (.string b) := by rw [h]

/-- A version's three numbers, written. -/
def verT (a b c : Nat) : Tx := numT a ++ [46] ++ numT b ++ [46] ++ numT c
theorem verT_len (a b c : Nat) : (verT a b c).length ≤ 8 := by
  have h1 := numT_len a; have h2 := numT_len b; have h3 := numT_len c
  simp [verT]; omega
theorem bs_append (l m : Tx) : bs l ++ bs m = bs (l ++ m) := by
  apply ByteArray.ext
  simp [bs]

end Hst
end Go.Proofs.YtecocheolbkneaaGreatDoor
namespace Go.Proofs.YtecocheolbkneaaGreatDoor
open Go.RowKit
namespace Hst

theorem flat_len {α : Type} (f : α → List Value) (k : Nat) (hk : ∀ x, (f x).length = k) : ∀ l : List α, (l.flatMap f).length = l.length * k
  | [] => by simp
  | x :: r => by
    have := flat_len f k hk r
    simp only [List.flatMap_cons, List.length_append, List.length_cons, hk x, this]
    rw [Nat.add_mul, Nat.one_mul, Nat.add_comm]
theorem flat_at {α : Type} (f : α → List Value) (k : Nat) (hk : ∀ x, (f x).length = k) : ∀ (l : List α) (i j : Nat) (hi : i < l.length), j < k → (l.flatMap f)[i * k + j]? = (f l[i])[j]?
  | [], i, j, hi, _ => by simp at hi
  | x :: r, 0, j, _, hj => by
    simp only [List.flatMap_cons, Nat.zero_mul, Nat.zero_add, List.getElem_cons_zero]
    rw [List.getElem?_append_left (by rw [hk x]; exact hj)]
  | x :: r, i + 1, j, hi, hj => by
    have ih := flat_at f k hk r i j (by simpa using hi) hj
    simp only [List.flatMap_cons, List.getElem_cons_succ]
    rw [List.getElem?_append_right (by rw [hk x, Nat.add_mul]; omega), hk x, ← ih]
    congr 1
    rw [Nat.add_mul]; omega

/-- What a slice of n elements, of 'size' cells each, shows. -/
structure RowR (w : World) (a : Option Addr) (n cap size : Nat) (cs : List Value) : Prop where
  len : cs.length = n * size
  cap : n ≤ cap
  at' : 0 < n → ∃ g o, a = some ⟨g, o, none⟩ ∧ g < w.heap.size ∧ ∀ i, i < n * size → w.cell? ⟨g, o + i, none⟩ = cs[i]?

theorem RowR.below {w w' : World} {a : Option Addr} {n cap size : Nat} {cs : List Value} (h : RowR w a n cap size cs) (hb : Below w.heap.size w w') : RowR w' a n cap size cs :=
  ⟨h.len, h.cap, fun hn => by
    obtain ⟨g, o, ha, hg, hc⟩ := h.at' hn
    exact ⟨g, o, ha, Nat.lt_of_lt_of_le hg hb.size, fun i hi => by rw [(bcell hb).1 _ _ hg]; exact hc i hi⟩⟩
theorem RowR.grown {w w' : World} {a : Option Addr} {n cap size b : Nat} {cs : List Value} (h : RowR w a n cap size cs) (hg : w.grownBy w' (some b)) (hne : ∀ g o, a = some ⟨g, o, none⟩ → b ≠ g) : RowR w' a n cap size cs :=
  ⟨h.len, h.cap, fun hn => by
    obtain ⟨g, o, ha, hlt, hc⟩ := h.at' hn
    refine ⟨g, o, ha, Nat.lt_of_lt_of_le hlt hg.size, fun i hi => ?_⟩
    rw [hg.cell_far ⟨g, o + i, none⟩ hlt (by simp; exact fun e => hne g o ha e.symm)]
    exact hc i hi⟩
theorem RowR.of_own {w : World} {base e size n cap : Nat} {a : Option Addr} {xs : List Value} (h : w.ownsRow base e size (.slice a n cap) n xs) : RowR w a n cap size xs := by
  obtain ⟨h1, h2⟩ := h
  rcases h2 with ⟨h2, h3⟩ | ⟨g, cap', cur, hv, hg, hh, hc, _, _, _⟩
  · simp at h2
    obtain ⟨rfl, rfl, rfl⟩ := h2
    exact ⟨h1, Nat.le_refl _, fun h => by omega⟩
  · simp at hv
    obtain ⟨rfl, rfl⟩ := hv
    refine ⟨h1, hc, fun _ => ⟨g, 0, rfl, lt_of_block hh, fun i hi => ?_⟩⟩
    have h' : w.ownsRow base e size (.slice (some ⟨g, 0, none⟩) n cap) n xs := ⟨h1, .inr ⟨g, cap, cur, rfl, hg, hh, hc, by assumption, by assumption, by assumption⟩⟩
    rw [Nat.zero_add]
    exact h'.cellAt i hi
/-- The slice value that a call has made: it is a slice. -/
theorem own_slice {w : World} {base e size n : Nat} {v : Value} {xs : List Value} (h : w.ownsRow base e size v n xs) : ∃ a cap, v = .slice a n cap := by
  obtain ⟨_, h2⟩ := h
  rcases h2 with ⟨h2, h3⟩ | ⟨g, cap', cur, hv, _⟩
  · subst h3; exact ⟨none, 0, h2⟩
  · exact ⟨_, _, hv⟩

/-! ### the cells of each kind of element -/
def needC (n : NeedD) : List Value := [.string (bs n.name), .string (bs n.rng)]
def packC (p : PackD) : List Value := [.string (bs p.path), .int .i64 p.of]
def whoC (x : WhoD) : List Value := [.string (bs x.path), .string (bs x.n.name), .string (bs x.n.rng)]
def strC (t : Tx) : List Value := [.string (bs t)]

end Hst
end Go.Proofs.YtecocheolbkneaaGreatDoor
