/- Split, Heap, Part, Partr -/
import Derived.Test.YtecocheolbkneaaDoorW01
import Derived.Deep.AppendLies
import Derived.StillTactics
namespace Go.Proofs.YtecocheolbkneaaDoor
open Go.RowKit
namespace Hst
set_option maxRecDepth 100000

theorem info_str : (Tryd.prog.info? 9).map (fun i => (i.zero, i.size, i.bytes)) = some (some (.string ByteArray.empty), 1, 16) := by kernel_rfl

/-- The cells of a list of texts. -/
def strs (d : List Tx) : List Value := d.map fun p => Value.string (bs p)
theorem strs_snoc (d : List Tx) (p : Tx) : strs d ++ [Value.string (bs p)] = strs (d ++ [p]) := by simp [strs]
theorem strs_len (d : List Tx) : (strs d).length = d.length := by simp [strs]

/-- One piece more. -/
theorem step_own {w w1 wr : World} {v : Value} {d : List Tx} {p : Tx} {q : ByteArray} {g cap : Nat} {o : Obj} (hq : q = bs p) (hown : wr.ownsRow w.heap.size 9 1 v d.length (strs d)) (hbel : Below w.heap.size w wr)
    (hown1 : w1.ownsRow w.heap.size 9 1 (.slice (some ⟨g, 0, none⟩) (d.length + 1) cap) (d.length + 1) (strs d ++ [Value.string q])) (hgrow : (wr.alloc o).grownBy w1 v.ownBlock) :
    w1.ownsRow w.heap.size 9 1 (.slice (some ⟨g, 0, none⟩) (d.length + 1) cap) (d ++ [p]).length (strs (d ++ [p])) ∧ Below w.heap.size w w1 := by
  subst hq
  refine ⟨?_, ?_⟩
  · rw [strs_snoc] at hown1
    simpa using hown1
  · have hz := hbel.size
    exact (hbel.alloc hz _).grown hgrow (by simp; omega) (fun k hk => (hown.lt k hk).1)
theorem one_str (q : ByteArray) : ∀ u ∈ [Value.string q], u.oneCell' = true := by intro u hu; simp at hu; subst hu; rfl
theorem form_ne {w : World} {base n : Nat} {v : Value} {xs : List Value} {e : Nat} (h : w.ownsRow base e 1 v n xs) (hn : 0 < n) : ∃ g cap, v = .slice (some ⟨g, 0, none⟩) n cap ∧ base ≤ g ∧ g < w.heap.size := by
  obtain ⟨h1, h2⟩ := h
  rcases h2 with ⟨rfl, h2⟩ | ⟨g, cap, cur, hv, hg, hh, r⟩
  · omega
  · exact ⟨g, cap, hv, hg, lt_of_block hh⟩

/-- The row of texts that a call has made. -/
def Row (w : World) (base : Nat) (v : Value) (d : List Tx) : Prop := w.ownsRow base 9 1 v d.length (strs d)

theorem hid {p : Prop} (h : p) : Hid p := h
theorem row_of {w wr : World} {v : Value} {d e : List Tx} (hown : wr.ownsRow w.heap.size 9 1 v d.length (strs d)) (h : e = d) (hbel : Below w.heap.size w wr) : Row wr w.heap.size v e ∧ Below w.heap.size w wr := by
  subst h
  exact ⟨hown, hbel⟩

set_option maxHeartbeats 1000000 in
theorem rsplit_any (s : ByteArray) (n : Int) (w : World) (hs : s.size ≤ 100000) :
    Calls Tryd.prog 62 #[.string s, .int .u8 n] w fun e w' => ∃ v, e = .returned v ∧ Row w' w.heap.size v (splitL n (tx s)) ∧ Below w.heap.size w w' := by
  obtain ⟨i0, hi, hz0, hz1, hz2⟩ := info_parts info_str
  go_enter Tryd.func62, Tryd.ntmps62
  go_wp2
  go_loopw [5, 6, 7] (fun v st i wr => ∃ (k fr : Nat) (d : List Tx), k ≤ s.size + 1 ∧ fr ≤ k ∧ d.length ≤ k ∧ st = .int .i64 fr ∧ i = .int .i64 k ∧ wr.ownsRow w.heap.size 9 1 v d.length (strs d) ∧ Below w.heap.size w wr ∧ Hid ((k ≤ s.size ∧ SplitAt n (tx s) k fr d) ∨ (k = s.size + 1 ∧ splitL n (tx s) = d))) (fun _ _ i _ => s.size + 1 - (intOf i).toNat)
  case atStart => exact ⟨0, 0, [], by omega, by omega, by simp, rfl, rfl, World.ownsRow_nil _ _ _ _, Below.refl _ _, .inl ⟨by omega, splitAt_start _ _⟩⟩
  case round =>
    obtain ⟨k, fr, d, hk, hfr, hd, rfl, rfl, hown, hbel, hall⟩ := hrel
    have hsz := hbel.size
    by_cases hlt : k < s.size
    · have hSA : Hid (SplitAt n (tx s) k fr d) := by rcases hall.out with h | h; · exact h.2
                                                     · omega
      have hne : ((k : Int) == (s.size : Int)) = false := by simp; omega
      by_cases hb : ((s[k]'hlt).toNat : Int) = n
      · have hbb : (((s[k]'hlt).toNat : Int) == n) = true := by simp [hb]
        have HN : Hid (SplitAt n (tx s) (k + 1) (k + 1) (d ++ [((tx s).drop fr).take (k - fr)])) := splitAt_yes hSA.out (by rw [tx_length]; exact hlt) hb
        have hl2 : d.length ≤ k := hd
        clear hb hall hSA
        go_wp2_with (first
          | (at_builtin; refine wpList_append_lies _ rfl _ _ 35 rfl w.heap.size 9 i0 (.string ByteArray.empty) 1 16 Tryd.underlying35 hi hz0 hz1 hz2 rfl (by omega) _ _ _ rfl (hown.alloc _) ⟨wr.heap.size, 0, none⟩ 1 1 [.string (s.extract fr k)] rfl rfl (cell_one_new _ _ _) (one_str _) (by omega) (by unfold maxLen; omega) (by omega) (by simp; omega) (wr.heap.size + 1) (by simp) ?_; intro g cap w1 hown1 hgrow hat hlt1))
        have R := step_own (extract_bs s fr k) hown hbel hown1 hgrow
        clear hown1 hgrow hown
        go_wp2
        go_roundw
        case rel => exact ⟨k + 1, k + 1, _, by omega, by omega, by simp; omega, by go_num, by go_num, R.1, R.2, .inl ⟨by omega, HN.out⟩⟩
        case measure => simp [intOf]; omega
      · have hbb : (((s[k]'hlt).toNat : Int) == n) = false := by simp [hb]
        have HN : Hid (SplitAt n (tx s) (k + 1) fr d) := splitAt_no hSA.out (by rw [tx_length]; exact hlt) hb
        clear hb hall hSA
        go_wp2
        go_roundw
        case rel => exact ⟨k + 1, fr, d, by omega, by omega, by omega, rfl, by go_num, hown, hbel, .inl ⟨by omega, HN.out⟩⟩
        case measure => simp [intOf]; omega
    · by_cases hend : k = s.size
      · subst hend
        have hSA : SplitAt n (tx s) s.size fr d := by
          rcases hall.out with h | h
          · exact h.2
          · omega
        have HN : Hid (splitL n (tx s) = d ++ [((tx s).drop fr).take (s.size - fr)]) := by
          have hx := tx_length s
          rw [← hx] at hSA ⊢
          exact splitAt_end hSA
        clear hall hSA
        go_wp2_with (first
          | (at_builtin; refine wpList_append_lies _ rfl _ _ 35 rfl w.heap.size 9 i0 (.string ByteArray.empty) 1 16 Tryd.underlying35 hi hz0 hz1 hz2 rfl (by omega) _ _ _ rfl (hown.alloc _) ⟨wr.heap.size, 0, none⟩ 1 1 [.string (s.extract fr s.size)] rfl rfl (cell_one_new _ _ _) (one_str _) (by omega) (by unfold maxLen; omega) (by omega) (by simp; omega) (wr.heap.size + 1) (by simp) ?_; intro g cap w1 hown1 hgrow hat hlt1))
        have R := step_own (extract_bs s fr s.size) hown hbel hown1 hgrow
        clear hown1 hgrow hown
        go_wp2
        go_roundw
        case rel => exact ⟨s.size + 1, s.size + 1, _, by omega, by omega, by simp <;> omega, by go_num, by go_num, R.1, R.2, .inr ⟨rfl, HN.out⟩⟩
        case measure => simp [intOf] <;> omega
      · have HN : Hid (splitL n (tx s) = d) := by
          rcases hall.out with h | h
          · omega
          · exact h.2
        have HR := hid (row_of hown HN.out hbel)
        clear hown hbel hall HN
        go_wp2
        go_ret
        exact ⟨_, rfl, HR.out.1, HR.out.2⟩

set_option maxHeartbeats 1000000 in
theorem psplit_any (s : ByteArray) (n : Int) (w : World) (hs : s.size ≤ 100000) :
    Calls Tryd.prog 56 #[.string s, .int .u8 n] w fun e w' => ∃ v, e = .returned v ∧ Row w' w.heap.size v (splitL n (tx s)) ∧ Below w.heap.size w w' := by
  obtain ⟨i0, hi, hz0, hz1, hz2⟩ := info_parts info_str
  go_enter Tryd.func56, Tryd.ntmps56
  go_wp2
  go_loopw [5, 6, 7] (fun v st i wr => ∃ (k fr : Nat) (d : List Tx), k ≤ s.size ∧ fr ≤ k ∧ d.length ≤ k ∧ st = .int .i64 fr ∧ i = .int .i64 k ∧ wr.ownsRow w.heap.size 9 1 v d.length (strs d) ∧ Below w.heap.size w wr ∧ Hid (SplitAt n (tx s) k fr d)) (fun _ _ i _ => s.size - (intOf i).toNat)
  case atStart => exact ⟨0, 0, [], by omega, by omega, by simp, rfl, rfl, World.ownsRow_nil _ _ _ _, Below.refl _ _, splitAt_start _ _⟩
  case round =>
    obtain ⟨k, fr, d, hk, hfr, hd, rfl, rfl, hown, hbel, hSA⟩ := hrel
    have hsz := hbel.size
    by_cases hlt : k < s.size
    · by_cases hb : ((s[k]'hlt).toNat : Int) = n
      · have hbb : (((s[k]'hlt).toNat : Int) == n) = true := by simp [hb]
        have HN : Hid (SplitAt n (tx s) (k + 1) (k + 1) (d ++ [((tx s).drop fr).take (k - fr)])) := splitAt_yes hSA.out (by rw [tx_length]; exact hlt) hb
        clear hb hSA
        go_wp2_with (first
          | (at_builtin; refine wpList_append_lies _ rfl _ _ 35 rfl w.heap.size 9 i0 (.string ByteArray.empty) 1 16 Tryd.underlying35 hi hz0 hz1 hz2 rfl (by omega) _ _ _ rfl (hown.alloc _) ⟨wr.heap.size, 0, none⟩ 1 1 [.string (s.extract fr k)] rfl rfl (cell_one_new _ _ _) (one_str _) (by omega) (by unfold maxLen; omega) (by omega) (by simp; omega) (wr.heap.size + 1) (by simp) ?_; intro g cap w1 hown1 hgrow hat hlt1))
        have R := step_own (extract_bs s fr k) hown hbel hown1 hgrow
        clear hown1 hgrow hown
        go_wp2
        go_roundw
        case rel => exact ⟨k + 1, k + 1, _, by omega, by omega, by simp; omega, by go_num, by go_num, R.1, R.2, HN.out⟩
        case measure => simp [intOf]; omega
      · have hbb : (((s[k]'hlt).toNat : Int) == n) = false := by simp [hb]
        have HN : Hid (SplitAt n (tx s) (k + 1) fr d) := splitAt_no hSA.out (by rw [tx_length]; exact hlt) hb
        clear hb hSA
        go_wp2
        go_roundw
        case rel => exact ⟨k + 1, fr, d, by omega, by omega, by omega, rfl, by go_num, hown, hbel, HN.out⟩
        case measure => simp [intOf]; omega
    · have hend : k = s.size := by omega
      subst hend
      have HN : Hid (splitL n (tx s) = d ++ [((tx s).drop fr).take (s.size - fr)]) := by
        have hx := tx_length s
        have h2 := hSA.out
        rw [← hx] at h2 ⊢
        exact splitAt_end h2
      clear hSA
      go_wp2_with (first
        | (at_builtin; refine wpList_append_lies _ rfl _ _ 35 rfl w.heap.size 9 i0 (.string ByteArray.empty) 1 16 Tryd.underlying35 hi hz0 hz1 hz2 rfl (by omega) _ _ _ rfl (hown.alloc _) ⟨wr.heap.size, 0, none⟩ 1 1 [.string (s.extract fr s.size)] rfl rfl (cell_one_new _ _ _) (one_str _) (by omega) (by unfold maxLen; omega) (by omega) (by simp; omega) (wr.heap.size + 1) (by simp) ?_; intro g cap w1 hown1 hgrow hat hlt1))
      have R := step_own (extract_bs s fr s.size) hown hbel hown1 hgrow
      have HR : Hid (Row w1 w.heap.size (.slice (some ⟨g, 0, none⟩) (d.length + 1) cap) (splitL n (tx s)) ∧ Below w.heap.size w w1) := by
        unfold Hid Row
        rw [HN.out]
        exact R
      clear hown1 hgrow hown R
      go_wp2
      go_ret
      exact ⟨_, rfl, HR.out.1, HR.out.2⟩

/-- What the walk wants of such a row: its form, its cells. -/
theorem Row.form {w : World} {base : Nat} {v : Value} {d : List Tx} (h : Row w base v d) (hd : d ≠ []) : ∃ g cap, v = .slice (some ⟨g, 0, none⟩) d.length cap ∧ base ≤ g ∧ g < w.heap.size ∧ ∀ (j : Nat) (hj : j < d.length), w.cell? ⟨g, j, none⟩ = some (.string (bs d[j])) := by
  have hn : 0 < d.length := List.length_pos_iff.2 hd
  obtain ⟨g, cap, rfl, h1, h2⟩ := form_ne h hn
  refine ⟨g, cap, rfl, h1, h2, fun j hj => ?_⟩
  rw [World.ownsRow.cellAt h j (by omega)]
  simp [strs, hj]

end Hst
end Go.Proofs.YtecocheolbkneaaDoor
namespace Go.Proofs.YtecocheolbkneaaDoor
open Go.RowKit
namespace Hst

theorem flat_len {α : Type} (f : α → List Value) (k : Nat) (hk : ∀ x, (f x).length = k) : ∀ l : List α, (l.flatMap f).length = l.length * k
  | [] => by simp
  | x :: r => by
    have := flat_len f k hk r
    simp only [List.flatMap_cons, List.length_append, List.length_cons, hk x, this]
    rw [Nat.add_mul, Nat.one_mul, Nat.add_comm]
theorem flat_at {α : Type} (f : α → List Value) (k : Nat) (hk : ∀ x, (f x).length = k) : ∀ (l : List α) (i j : Nat) (hi : i < l.length), j < k → (l.flatMap f)[i * k + j]? = (f l[i])[j]?
  | [], i, j, hi, _ => by simp at hi
  | x :: r, 0, j, _, hj => by
    simp only [List.flatMap_cons, Nat.zero_mul, Nat.zero_add, List.getElem_cons_zero]
    rw [List.getElem?_append_left (by rw [hk x]; exact hj)]
  | x :: r, i + 1, j, hi, hj => by
    have ih := flat_at f k hk r i j (by simpa using hi) hj
    simp only [List.flatMap_cons, List.getElem_cons_succ]
    rw [List.getElem?_append_right (by rw [hk x, Nat.add_mul]; omega), hk x, ← ih]
    congr 1
    rw [Nat.add_mul]; omega

/-- What a slice of n elements, of 'size' cells each, shows. -/
structure RowR (w : World) (a : Option Addr) (n cap size : Nat) (cs : List Value) : Prop where
  len : cs.length = n * size
  cap : n ≤ cap
  at' : 0 < n → ∃ g o, a = some ⟨g, o, none⟩ ∧ g < w.heap.size ∧ ∀ i, i < n * size → w.cell? ⟨g, o + i, none⟩ = cs[i]?

theorem RowR.below {w w' : World} {a : Option Addr} {n cap size : Nat} {cs : List Value} (h : RowR w a n cap size cs) (hb : Below w.heap.size w w') : RowR w' a n cap size cs :=
  ⟨h.len, h.cap, fun hn => by
    obtain ⟨g, o, ha, hg, hc⟩ := h.at' hn
    exact ⟨g, o, ha, Nat.lt_of_lt_of_le hg hb.size, fun i hi => by rw [(bcell hb).1 _ _ hg]; exact hc i hi⟩⟩
theorem RowR.grown {w w' : World} {a : Option Addr} {n cap size b : Nat} {cs : List Value} (h : RowR w a n cap size cs) (hg : w.grownBy w' (some b)) (hne : ∀ g o, a = some ⟨g, o, none⟩ → b ≠ g) : RowR w' a n cap size cs :=
  ⟨h.len, h.cap, fun hn => by
    obtain ⟨g, o, ha, hlt, hc⟩ := h.at' hn
    refine ⟨g, o, ha, Nat.lt_of_lt_of_le hlt hg.size, fun i hi => ?_⟩
    rw [hg.cell_far ⟨g, o + i, none⟩ hlt (by simp; exact fun e => hne g o ha e.symm)]
    exact hc i hi⟩
theorem RowR.of_own {w : World} {base e size n cap : Nat} {a : Option Addr} {xs : List Value} (h : w.ownsRow base e size (.slice a n cap) n xs) : RowR w a n cap size xs := by
  obtain ⟨h1, h2⟩ := h
  rcases h2 with ⟨h2, h3⟩ | ⟨g, cap', cur, hv, hg, hh, hc, _, _, _⟩
  · simp at h2
    obtain ⟨rfl, rfl, rfl⟩ := h2
    exact ⟨h1, Nat.le_refl _, fun h => by omega⟩
  · simp at hv
    obtain ⟨rfl, rfl⟩ := hv
    refine ⟨h1, hc, fun _ => ⟨g, 0, rfl, lt_of_block hh, fun i hi => ?_⟩⟩
    have h' : w.ownsRow base e size (.slice (some ⟨g, 0, none⟩) n cap) n xs := ⟨h1, .inr ⟨g, cap, cur, rfl, hg, hh, hc, by assumption, by assumption, by assumption⟩⟩
    rw [Nat.zero_add]
    exact h'.cellAt i hi
/-- The slice value that a call has made: it is a slice. -/
theorem own_slice {w : World} {base e size n : Nat} {v : Value} {xs : List Value} (h : w.ownsRow base e size v n xs) : ∃ a cap, v = .slice a n cap := by
  obtain ⟨_, h2⟩ := h
  rcases h2 with ⟨h2, h3⟩ | ⟨g, cap', cur, hv, _⟩
  · subst h3; exact ⟨none, 0, h2⟩
  · exact ⟨_, _, hv⟩

/-! ### the cells of each kind of element -/
def needC (n : NeedD) : List Value := [.string (bs n.name), .string (bs n.rng)]
def packC (p : PackD) : List Value := [.string (bs p.path), .int .i64 p.of]
def whoC (x : WhoD) : List Value := [.string (bs x.path), .string (bs x.n.name), .string (bs x.n.rng)]
def strC (t : Tx) : List Value := [.string (bs t)]

end Hst
end Go.Proofs.YtecocheolbkneaaDoor
namespace Go.Proofs.YtecocheolbkneaaDoor
open Go.RowKit
namespace Hst
set_option maxRecDepth 100000

theorem pg_yes (s : ByteArray) (k : Nat) (acc : Int) (h : k < s.size) (hd : dig s[k] = true) (hn : acc * 10 + ((s[k].toNat : Int) - 48) ≤ 99) :
    partGo acc ((tx s).drop k) = partGo (acc * 10 + ((s[k].toNat : Int) - 48)) ((tx s).drop (k + 1)) := by
  rw [tx_drop s k h]; simp only [partGo, hd, if_true]; rw [if_neg (by omega)]
theorem pg_big (s : ByteArray) (k : Nat) (acc : Int) (h : k < s.size) (hd : dig s[k] = true) (hn : 99 < acc * 10 + ((s[k].toNat : Int) - 48)) :
    partGo acc ((tx s).drop k) = none := by
  rw [tx_drop s k h]; simp only [partGo, hd, if_true]; rw [if_pos (by omega)]
theorem pg_no (s : ByteArray) (k : Nat) (acc : Int) (h : k < s.size) (hd : dig s[k] = false) : partGo acc ((tx s).drop k) = none := by
  rw [tx_drop s k h]; simp [partGo, hd]
theorem pg_end (s : ByteArray) (k : Nat) (acc : Int) (h : ¬ k < s.size) : partGo acc ((tx s).drop k) = some acc := by
  rw [List.drop_of_length_le (by rw [tx_length]; omega)]; rfl
theorem partP_empty (s : ByteArray) (h : s.size = 0) : partP (tx s) = none := by
  have : tx s = [] := List.length_eq_zero_iff.1 (by rw [tx_length]; exact h)
  simp [partP, this]
theorem tx_head (s : ByteArray) (h : 0 < s.size) : (tx s).head? = some s[0] := by
  have := tx_drop s 0 h
  simp at this; rw [this]; rfl
theorem byte_eq {b : UInt8} {n : Nat} (hn : n < 256) (h : (b.toNat : Int) = n) : b = n.toUInt8 := by
  apply UInt8.toNat_inj.1
  simp; omega
theorem partP_zero (s : ByteArray) (h : 0 < s.size) (h1 : (s[0].toNat : Int) = 48) (h2 : 1 < s.size) : partP (tx s) = none := by
  have e : s[0] = (48 : UInt8) := byte_eq (n := 48) (by omega) h1
  have hl := tx_length s
  unfold partP
  rw [if_neg (by intro hh; rw [hh] at hl; simp at hl; omega), if_pos ⟨by rw [tx_head s h, e], by omega⟩]
theorem partP_go (s : ByteArray) (h : 0 < s.size) (h1 : ¬ ((s[0].toNat : Int) = 48 ∧ 1 < s.size)) : partP (tx s) = partGo 0 (tx s) := by
  have hl := tx_length s
  unfold partP
  rw [if_neg (by intro hh; rw [hh] at hl; simp at hl; omega), if_neg]
  rintro ⟨a, b⟩
  rw [tx_head s h] at a
  simp at a
  exact h1 ⟨by rw [a]; rfl, by omega⟩
theorem empty_eq (s : ByteArray) (h : 0 < s.size) : s.toList.isEmpty = false := by
  rw [tx_toList, List.isEmpty_eq_false_iff]
  intro hh
  have := tx_length s
  rw [hh] at this; simp at this; omega

set_option maxHeartbeats 1000000 in
theorem parsePart_go (s : ByteArray) (w : World) (hs : s.size ≤ 100) (hp : 0 < s.size) (hz : (((s[0]'hp).toNat : Int) == 48) = false ∨ ((((s[0]'hp).toNat : Int) == 48) = true ∧ (s.size : Int) ≤ 1)) (hg : partP (tx s) = partGo 0 (tx s)) :
    Calls Tryd.prog 70 #[.string s] w fun e w' => e = .returned (.tuple #[.int .i64 (ov (partP (tx s))), .bool (oks (partP (tx s)))]) ∧ w' = w := by
  have he := empty_eq s hp
  have HG : Hid (partP (tx s) = partGo 0 (tx s)) := hg
  clear hg
  rcases hz with hz | ⟨hz, hz1⟩
  all_goals
    go_enter Tryd.func70, Tryd.ntmps70
    go_wp2
    go_loop [4, 5] (fun p i => ∃ (k : Nat) (acc : Int), k ≤ s.size ∧ 0 ≤ acc ∧ acc ≤ 99 ∧ p = .int .i64 acc ∧ i = .int .i64 k ∧ Hid (partP (tx s) = partGo acc ((tx s).drop k))) (fun _ i => s.size - (intOf i).toNat)
    case atStart => exact ⟨0, 0, Nat.zero_le _, by omega, by omega, rfl, rfl, by unfold Hid; rw [HG.out]; rfl⟩
    case round =>
      obtain ⟨k, acc, hk, ha0, ha1, rfl, rfl, hall⟩ := hrel
      by_cases hlt : k < s.size
      · have hb : ((s[k]'hlt).toNat : Int) < 256 := by have := (s[k]'hlt).toNat_lt; omega
        by_cases h1 : ((s[k]'hlt).toNat : Int) < 48
        · have HF : Hid (partP (tx s) = none) := by unfold Hid; rw [hall.out, pg_no s k acc hlt (dig_no1 h1)]
          go_wp2
          go_ret2
          exact ⟨ret_int_bool (by rw [HF.out]; rfl) (by rw [HF.out]; rfl), rfl⟩
        · by_cases h2 : 57 < ((s[k]'hlt).toNat : Int)
          · have HF : Hid (partP (tx s) = none) := by unfold Hid; rw [hall.out, pg_no s k acc hlt (dig_no2 h2)]
            go_wp2
            go_ret2
            exact ⟨ret_int_bool (by rw [HF.out]; rfl) (by rw [HF.out]; rfl), rfl⟩
          · by_cases h3 : 99 < acc * 10 + (((s[k]'hlt).toNat : Int) - 48)
            · have HF : Hid (partP (tx s) = none) := by unfold Hid; rw [hall.out, pg_big s k acc hlt (dig_yes (by omega) (by omega)) h3]
              go_wp2
              go_ret2
              exact ⟨ret_int_bool (by rw [HF.out]; rfl) (by rw [HF.out]; rfl), rfl⟩
            · have HF : Hid (partP (tx s) = partGo (acc * 10 + (((s[k]'hlt).toNat : Int) - 48)) ((tx s).drop (k + 1))) := by unfold Hid; rw [hall.out, pg_yes s k acc hlt (dig_yes (by omega) (by omega)) (by omega)]
              go_wp2
              go_round
              case rel => exact ⟨k + 1, _, by omega, by omega, by omega, rfl, by go_num, HF⟩
              case measure => simp [intOf]; omega
      · have HF : Hid (partP (tx s) = some acc) := by unfold Hid; rw [hall.out, pg_end s k acc hlt]
        go_wp2
        go_ret2
        exact ⟨ret_int_bool (by rw [HF.out]; rfl) (by rw [HF.out]; rfl), rfl⟩

set_option maxHeartbeats 1000000 in
theorem parsePart_any (s : ByteArray) (w : World) (hs : s.size ≤ 100) :
    Calls Tryd.prog 70 #[.string s] w fun e w' => e = .returned (.tuple #[.int .i64 (ov (partP (tx s))), .bool (oks (partP (tx s)))]) ∧ w' = w := by
  by_cases hp : 0 < s.size
  · by_cases h1 : ((s[0]'hp).toNat : Int) = 48
    · by_cases h2 : 1 < s.size
      · have HF : Hid (partP (tx s) = none) := partP_zero s hp h1 h2
        have he := empty_eq s hp
        have hz : (((s[0]'hp).toNat : Int) == 48) = true := by simp [h1]
        clear h1
        go_enter Tryd.func70, Tryd.ntmps70
        go_wp2
        go_ret2
        exact ⟨ret_int_bool (by rw [HF.out]; rfl) (by rw [HF.out]; rfl), rfl⟩
      · exact parsePart_go s w hs hp (.inr ⟨by simp [h1], by omega⟩) (partP_go s hp (by omega))
    · exact parsePart_go s w hs hp (.inl (by simp [h1])) (partP_go s hp (by omega))
  · have HF : Hid (partP (tx s) = none) := partP_empty s (by omega)
    have he : s.toList.isEmpty = true := by
      rw [tx_toList, List.isEmpty_iff]
      exact List.length_eq_zero_iff.1 (by rw [tx_length]; omega)
    go_enter Tryd.func70, Tryd.ntmps70
    go_wp2
    go_ret2
    exact ⟨ret_int_bool (by rw [HF.out]; rfl) (by rw [HF.out]; rfl), rfl⟩

/-- What parsePart gives lies between 0 and 99. -/
theorem partGo_bd : ∀ (l : Tx) (acc : Int), 0 ≤ acc → acc ≤ 99 → ∀ n, partGo acc l = some n → 0 ≤ n ∧ n ≤ 99
  | [], acc, h0, h1, n, h => by simp [partGo] at h; omega
  | b :: r, acc, h0, h1, n, h => by
    simp only [partGo] at h
    split at h
    · rename_i hd
      split at h
      · simp at h
      · simp [dig] at hd
        exact partGo_bd r _ (by omega) (by omega) n h
    · simp at h
theorem partP_bd (l : Tx) (n : Int) (h : partP l = some n) : 0 ≤ n ∧ n ≤ 99 := by
  unfold partP at h
  split at h
  · simp at h
  · split at h
    · simp at h
    · exact partGo_bd l 0 (by omega) (by omega) n h
theorem ov_partP_bd (l : Tx) : 0 ≤ ov (partP l) ∧ ov (partP l) ≤ 99 := by
  rcases h : partP l with _ | n
  · simp [ov]
  · have := partP_bd l n h
    simp [ov]; omega

end Hst
end Go.Proofs.YtecocheolbkneaaDoor
namespace Go.Proofs.YtecocheolbkneaaDoor
open Go.RowKit
namespace Hst
set_option maxRecDepth 100000

theorem pr_yes (s : ByteArray) (k : Nat) (acc : Int) (h : k < s.size) (hd : dig s[k] = true) :
    partGoR acc ((tx s).drop k) = partGoR (10 * acc + ((s[k].toNat : Int) - 48)) ((tx s).drop (k + 1)) := by
  rw [tx_drop s k h]; simp only [partGoR, hd, if_true]
theorem pr_no (s : ByteArray) (k : Nat) (acc : Int) (h : k < s.size) (hd : dig s[k] = false) : partGoR acc ((tx s).drop k) = -1 := by
  rw [tx_drop s k h]; simp [partGoR, hd]
theorem pr_end (s : ByteArray) (k : Nat) (acc : Int) (h : ¬ k < s.size) : partGoR acc ((tx s).drop k) = acc := by
  rw [List.drop_of_length_le (by rw [tx_length]; omega)]; rfl
theorem partR_short (s : ByteArray) (h : s.size < 1 ∨ 2 < s.size) : partR (tx s) = -1 := by
  unfold partR; rw [tx_length, if_pos (by omega)]
theorem partR_zero (s : ByteArray) (h : s.size = 2) (h1 : ((s[0]'(by omega)).toNat : Int) = 48) : partR (tx s) = -1 := by
  unfold partR; rw [tx_length, if_pos]
  refine .inr (.inr ⟨h, ?_⟩)
  rw [tx_head s (by omega), byte_eq (n := 48) (by omega) h1]; rfl
theorem partR_go (s : ByteArray) (hp : 0 < s.size) (h : s.size ≤ 2) (h1 : s.size = 2 → ¬ ((s[0]'(by omega)).toNat : Int) = 48) : partR (tx s) = partGoR 0 (tx s) := by
  unfold partR; rw [tx_length, if_neg]
  rintro (h2 | h2 | ⟨h2, h3⟩)
  · omega
  · omega
  · rw [tx_head s hp] at h3
    simp at h3
    exact h1 h2 (by rw [h3]; rfl)

set_option maxHeartbeats 1000000 in
theorem part_go (s : ByteArray) (w : World) (hp : 0 < s.size) (hs : s.size ≤ 2) (hz : ((s.size : Int) == 2) = false ∨ (((s.size : Int) == 2) = true ∧ (((s[0]'hp).toNat : Int) == 48) = false)) (hg : partR (tx s) = partGoR 0 (tx s)) :
    Calls Tryd.prog 84 #[.string s] w fun e w' => e = .returned (.int .i64 (partR (tx s))) ∧ w' = w := by
  have HG : Hid (partR (tx s) = partGoR 0 (tx s)) := hg
  clear hg
  rcases hz with hz | ⟨hz, hz1⟩
  all_goals
    go_enter Tryd.func84, Tryd.ntmps84
    go_wp2
    go_loop [3, 4] (fun p i => ∃ (k : Nat) (acc : Int), k ≤ s.size ∧ 0 ≤ acc ∧ acc ≤ 99 ∧ Hid ((k = 0 → acc = 0) ∧ (k ≤ 1 → acc ≤ 9)) ∧ p = .int .i64 acc ∧ i = .int .i64 k ∧ Hid (partR (tx s) = partGoR acc ((tx s).drop k))) (fun _ i => s.size - (intOf i).toNat)
    case atStart => exact ⟨0, 0, Nat.zero_le _, by omega, by omega, ⟨fun _ => rfl, fun _ => by omega⟩, rfl, rfl, by unfold Hid; rw [HG.out]; rfl⟩
    case round =>
      obtain ⟨k, acc, hk, ha0, ha2, ha1, rfl, rfl, hall⟩ := hrel
      by_cases hlt : k < s.size
      · have hb : ((s[k]'hlt).toNat : Int) < 256 := by have := (s[k]'hlt).toNat_lt; omega
        by_cases h1 : ((s[k]'hlt).toNat : Int) < 48
        · have HF : Hid (partR (tx s) = -1) := by unfold Hid; rw [hall.out, pr_no s k acc hlt (dig_no1 h1)]
          clear ha1
          go_wp2
          go_ret
          exact ⟨ret_int (by rw [HF.out]), rfl⟩
        · by_cases h2 : 57 < ((s[k]'hlt).toNat : Int)
          · have HF : Hid (partR (tx s) = -1) := by unfold Hid; rw [hall.out, pr_no s k acc hlt (dig_no2 h2)]
            clear ha1
            go_wp2
            go_ret
            exact ⟨ret_int (by rw [HF.out]), rfl⟩
          · have HF : Hid (partR (tx s) = partGoR (10 * acc + (((s[k]'hlt).toNat : Int) - 48)) ((tx s).drop (k + 1))) := by unfold Hid; rw [hall.out, pr_yes s k acc hlt (dig_yes (by omega) (by omega))]
            have HB : Hid ((k + 1 = 0 → 10 * acc + (((s[k]'hlt).toNat : Int) - 48) = 0) ∧ (k + 1 ≤ 1 → 10 * acc + (((s[k]'hlt).toNat : Int) - 48) ≤ 9)) := by
              have := ha1.out
              refine ⟨fun h => by omega, fun h => ?_⟩
              have := this.1 (by omega); omega
            have HC : 10 * acc + (((s[k]'hlt).toNat : Int) - 48) ≤ 99 := by have := ha1.out.2 (by omega); omega
            clear ha1
            go_wp2
            go_round
            case rel => exact ⟨k + 1, _, by omega, by omega, HC, HB, rfl, by go_num, HF⟩
            case measure => simp [intOf]; omega
      · have HF : Hid (partR (tx s) = acc) := by unfold Hid; rw [hall.out, pr_end s k acc hlt]
        clear ha1
        go_wp2
        go_ret
        exact ⟨ret_int (by rw [HF.out]), rfl⟩

set_option maxHeartbeats 1000000 in
theorem part_any (s : ByteArray) (w : World) (hs : s.size ≤ 100) :
    Calls Tryd.prog 84 #[.string s] w fun e w' => e = .returned (.int .i64 (partR (tx s))) ∧ w' = w := by
  by_cases hp : 0 < s.size
  · by_cases h1 : s.size ≤ 2
    · by_cases h2 : s.size = 2
      · by_cases h3 : ((s[0]'hp).toNat : Int) = 48
        · have HF : Hid (partR (tx s) = -1) := partR_zero s h2 h3
          have b2 : ((s.size : Int) == 2) = true := by simp [h2]
          have b3 : (((s[0]'hp).toNat : Int) == 48) = true := by simp [h3]
          clear h3 h2
          go_enter Tryd.func84, Tryd.ntmps84
          go_wp2
          go_ret
          exact ⟨ret_int (by rw [HF.out]), rfl⟩
        · exact part_go s w hp h1 (.inr ⟨by simp [h2], by simp [h3]⟩) (partR_go s hp h1 (fun _ => h3))
      · exact part_go s w hp h1 (.inl (by simp; omega)) (partR_go s hp h1 (fun h => absurd h h2))
    · have HF : Hid (partR (tx s) = -1) := partR_short s (by omega)
      go_enter Tryd.func84, Tryd.ntmps84
      go_wp2
      go_ret
      exact ⟨ret_int (by rw [HF.out]), rfl⟩
  · have HF : Hid (partR (tx s) = -1) := partR_short s (by omega)
    go_enter Tryd.func84, Tryd.ntmps84
    go_wp2
    go_ret
    exact ⟨ret_int (by rw [HF.out]), rfl⟩


/-! ### signed -/
theorem take2 (s : ByteArray) : tx (s.extract 0 2) = (tx s).take 2 := by rw [tx_extract]; simp
theorem sg_two (s : ByteArray) (h : (tx s).take 2 = [62, 61] ∨ (tx s).take 2 = [60, 61]) : signedR (tx s) = ((tx s).take 2, (tx s).drop 2) := by
  unfold signedR; rw [if_pos h]
theorem sg_one (s : ByteArray) (hp : 0 < s.size) (h : ¬ ((tx s).take 2 = [62, 61] ∨ (tx s).take 2 = [60, 61])) (hc : s[0] = 61 ∨ s[0] = 62 ∨ s[0] = 60 ∨ s[0] = 94 ∨ s[0] = 126) : signedR (tx s) = ((tx s).take 1, (tx s).drop 1) := by
  have e := tx_drop s 0 hp
  simp at e
  unfold signedR; rw [if_neg h, e]; simp only []; rw [if_pos hc]; simp
theorem sg_no (s : ByteArray) (h : ¬ ((tx s).take 2 = [62, 61] ∨ (tx s).take 2 = [60, 61])) (hc : ∀ hp : 0 < s.size, ¬ (s[0] = 61 ∨ s[0] = 62 ∨ s[0] = 60 ∨ s[0] = 94 ∨ s[0] = 126)) : signedR (tx s) = ([], tx s) := by
  by_cases hp : 0 < s.size
  · have e := tx_drop s 0 hp
    simp at e
    unfold signedR; rw [if_neg h, e]; simp only []; rw [if_neg (hc hp)]
  · have e : tx s = [] := List.length_eq_zero_iff.1 (by rw [tx_length]; omega)
    rw [e]; simp [signedR]
theorem byte_ne {b : UInt8} {n : Nat} (h : b ≠ n.toUInt8) (hn : n < 256) : ((b.toNat : Int) == (n : Int)) = false := by
  simp
  intro hh
  exact h (byte_eq hn (by exact_mod_cast hh))
theorem byte_is {b : UInt8} {n : Nat} (h : b = n.toUInt8) (hn : n < 256) : ((b.toNat : Int) == (n : Int)) = true := by
  subst h; simp; omega
theorem ext_to (s : ByteArray) (k : Nat) : s.extract 0 k = bs ((tx s).take k) := by rw [extract_bs]; simp
theorem ext_from (s : ByteArray) (k : Nat) : s.extract k s.size = bs ((tx s).drop k) := by
  rw [extract_bs, List.take_of_length_le (by simp [tx_length])]

set_option maxHeartbeats 1000000 in
theorem signed_two (s : ByteArray) (w : World) (hp : 2 ≤ s.size) (hc : ((s.extract 0 2).toList == [62, 61]) = true ∨ (((s.extract 0 2).toList == [62, 61]) = false ∧ ((s.extract 0 2).toList == [60, 61]) = true)) (hg : signedR (tx s) = ((tx s).take 2, (tx s).drop 2)) :
    Calls Tryd.prog 64 #[.string s] w fun e w' => e = .returned (.tuple #[.string (bs (signedR (tx s)).1), .string (bs (signedR (tx s)).2)]) ∧ Below w.heap.size w w' := by
  rw [hg, ← ext_to, ← ext_from]
  clear hg
  rcases hc with hc | ⟨hc, hc'⟩
  all_goals
    go_enter Tryd.func64, Tryd.ntmps64
    go_wp2
    go_region
    all_goals (try go_wp2)
    all_goals go_ret2
    all_goals exact ⟨rfl, (Below.refl _ _).drew⟩

/-- The tests on the first byte, as the walk asks them. -/
def SignTests (n : Int) : Prop :=
  (n == 61) = true ∨ ((n == 61) = false ∧ (n == 62) = true) ∨ ((n == 61) = false ∧ (n == 62) = false ∧ (n == 60) = true) ∨ ((n == 61) = false ∧ (n == 62) = false ∧ (n == 60) = false ∧ (n == 94) = true) ∨
  ((n == 61) = false ∧ (n == 62) = false ∧ (n == 60) = false ∧ (n == 94) = false ∧ (n == 126) = true)

set_option maxHeartbeats 4000000 in
theorem signed_one (s : ByteArray) (w : World) (hp : 0 < s.size) (h2 : s.size ≤ 1 ∨ (1 < s.size ∧ ((s.extract 0 2).toList == [62, 61]) = false ∧ ((s.extract 0 2).toList == [60, 61]) = false)) (hc : SignTests ((s[0]'hp).toNat : Int)) (hg : signedR (tx s) = ((tx s).take 1, (tx s).drop 1)) :
    Calls Tryd.prog 64 #[.string s] w fun e w' => e = .returned (.tuple #[.string (bs (signedR (tx s)).1), .string (bs (signedR (tx s)).2)]) ∧ Below w.heap.size w w' := by
  rw [hg, ← ext_to, ← ext_from]
  clear hg
  rcases hc with c1 | ⟨c1, c2⟩ | ⟨c1, c2, c3⟩ | ⟨c1, c2, c3, c4⟩ | ⟨c1, c2, c3, c4, c5⟩
  all_goals
    rcases h2 with h2 | ⟨h2, h3, h4⟩
    all_goals
      go_enter Tryd.func64, Tryd.ntmps64
      go_wp2
      go_region
      all_goals (try go_wp2)
      all_goals go_ret2
      all_goals exact ⟨rfl, (Below.refl _ _).drew⟩

set_option maxHeartbeats 4000000 in
theorem signed_no (s : ByteArray) (w : World) (h2 : s.size ≤ 1 ∨ (1 < s.size ∧ ((s.extract 0 2).toList == [62, 61]) = false ∧ ((s.extract 0 2).toList == [60, 61]) = false)) (hc : s.size = 0 ∨ ∃ hp : 0 < s.size, (((s[0]'hp).toNat : Int) == 61) = false ∧ (((s[0]'hp).toNat : Int) == 62) = false ∧ (((s[0]'hp).toNat : Int) == 60) = false ∧ (((s[0]'hp).toNat : Int) == 94) = false ∧ (((s[0]'hp).toNat : Int) == 126) = false) (hg : signedR (tx s) = ([], tx s)) :
    Calls Tryd.prog 64 #[.string s] w fun e w' => e = .returned (.tuple #[.string (bs (signedR (tx s)).1), .string (bs (signedR (tx s)).2)]) ∧ Below w.heap.size w w' := by
  rw [hg, bs_tx]
  clear hg
  rcases hc with hc | ⟨hp, c1, c2, c3, c4, c5⟩
  · have hc' : (s.size : Int) ≤ 0 := by omega
    clear h2 hc
    go_enter Tryd.func64, Tryd.ntmps64
    go_wp2
    go_ret2
    exact ⟨rfl, Below.refl _ _⟩
  · rcases h2 with h2 | ⟨h2, h3, h4⟩
    all_goals
      go_enter Tryd.func64, Tryd.ntmps64
      go_wp2
      go_ret2
      exact ⟨rfl, Below.refl _ _⟩

theorem signTests_of {b : UInt8} (h : b = 61 ∨ b = 62 ∨ b = 60 ∨ b = 94 ∨ b = 126) : SignTests (b.toNat : Int) := by
  unfold SignTests
  rcases h with h | h | h | h | h <;> subst h <;> simp

theorem signed_any (s : ByteArray) (w : World) :
    Calls Tryd.prog 64 #[.string s] w fun e w' => e = .returned (.tuple #[.string (bs (signedR (tx s)).1), .string (bs (signedR (tx s)).2)]) ∧ Below w.heap.size w w' := by
  have e2 := take2 s
  by_cases h1 : (tx s).take 2 = [62, 61]
  · have hl := congrArg List.length h1
    simp [tx_length] at hl
    exact signed_two s w (by omega) (.inl (str_eq _ _ (by rw [e2, h1]))) (sg_two s (.inl h1))
  · by_cases h2 : (tx s).take 2 = [60, 61]
    · have hl := congrArg List.length h2
      simp [tx_length] at hl
      exact signed_two s w (by omega) (.inr ⟨str_ne _ _ (by rw [e2]; exact h1), str_eq _ _ (by rw [e2, h2])⟩) (sg_two s (.inr h2))
    · have hn : s.size ≤ 1 ∨ (1 < s.size ∧ ((s.extract 0 2).toList == [62, 61]) = false ∧ ((s.extract 0 2).toList == [60, 61]) = false) := by
        by_cases hs : s.size ≤ 1
        · exact .inl hs
        · exact .inr ⟨by omega, str_ne _ _ (by rw [e2]; exact h1), str_ne _ _ (by rw [e2]; exact h2)⟩
      by_cases hp : 0 < s.size
      · by_cases hc : s[0] = 61 ∨ s[0] = 62 ∨ s[0] = 60 ∨ s[0] = 94 ∨ s[0] = 126
        · exact signed_one s w hp hn (signTests_of hc) (sg_one s hp (by simp [h1, h2]) hc)
        · refine signed_no s w hn (.inr ⟨hp, ?_⟩) (sg_no s (by simp [h1, h2]) (fun _ => hc))
          simp only [not_or] at hc
          exact ⟨byte_ne hc.1 (n := 61) (by omega), byte_ne hc.2.1 (n := 62) (by omega), byte_ne hc.2.2.1 (n := 60) (by omega), byte_ne hc.2.2.2.1 (n := 94) (by omega), byte_ne hc.2.2.2.2 (n := 126) (by omega)⟩
      · exact signed_no s w hn (.inl (by omega)) (sg_no s (by simp [h1, h2]) (fun h => absurd h hp))

end Hst
end Go.Proofs.YtecocheolbkneaaDoor
