/- pieces.Split and hoistref.split. -/
import Derived.Test.YtkcgbikgblkpjaaDoorLeaf
import Derived.Deep.AppendLies
namespace Go.Proofs.YtkcgbikgblkpjaaDoor
open Go.RowKit
namespace Hst

theorem info_str : (Tryd.prog.info? 9).map (fun i => (i.zero, i.size, i.bytes)) = some (some (.string ByteArray.empty), 1, 16) := by kernel_rfl

/-- The cells of a list of texts. -/
def strs (d : List Tx) : List Value := d.map fun p => Value.string (bs p)
theorem strs_snoc (d : List Tx) (p : Tx) : strs d ++ [Value.string (bs p)] = strs (d ++ [p]) := by simp [strs]
theorem strs_len (d : List Tx) : (strs d).length = d.length := by simp [strs]

/-- One piece more. -/
theorem step_own {w w1 wr : World} {v : Value} {d : List Tx} {p : Tx} {q : ByteArray} {g cap : Nat} {o : Obj} (hq : q = bs p) (hown : wr.ownsRow w.heap.size 9 1 v d.length (strs d)) (hbel : Below w.heap.size w wr)
    (hown1 : w1.ownsRow w.heap.size 9 1 (.slice (some ⟨g, 0, none⟩) (d.length + 1) cap) (d.length + 1) (strs d ++ [Value.string q])) (hgrow : (wr.alloc o).grownBy w1 v.ownBlock) :
    w1.ownsRow w.heap.size 9 1 (.slice (some ⟨g, 0, none⟩) (d.length + 1) cap) (d ++ [p]).length (strs (d ++ [p])) ∧ Below w.heap.size w w1 := by
  subst hq
  refine ⟨?_, ?_⟩
  · rw [strs_snoc] at hown1
    simpa using hown1
  · have hz := hbel.size
    exact (hbel.alloc hz _).grown hgrow (by simp; omega) (fun k hk => (hown.lt k hk).1)
theorem one_str (q : ByteArray) : ∀ u ∈ [Value.string q], u.oneCell' = true := by intro u hu; simp at hu; subst hu; rfl
theorem form_ne {w : World} {base n : Nat} {v : Value} {xs : List Value} {e : Nat} (h : w.ownsRow base e 1 v n xs) (hn : 0 < n) : ∃ g cap, v = .slice (some ⟨g, 0, none⟩) n cap ∧ base ≤ g ∧ g < w.heap.size := by
  obtain ⟨h1, h2⟩ := h
  rcases h2 with ⟨rfl, h2⟩ | ⟨g, cap, cur, hv, hg, hh, r⟩
  · omega
  · exact ⟨g, cap, hv, hg, lt_of_block hh⟩

/-- The row of texts that a call has made. -/
def Row (w : World) (base : Nat) (v : Value) (d : List Tx) : Prop := w.ownsRow base 9 1 v d.length (strs d)

theorem hid {p : Prop} (h : p) : Hid p := h
theorem row_of {w wr : World} {v : Value} {d e : List Tx} (hown : wr.ownsRow w.heap.size 9 1 v d.length (strs d)) (h : e = d) (hbel : Below w.heap.size w wr) : Row wr w.heap.size v e ∧ Below w.heap.size w wr := by
  subst h
  exact ⟨hown, hbel⟩

set_option maxHeartbeats 1000000 in
theorem rsplit_any (s : ByteArray) (n : Int) (w : World) (hs : s.size ≤ 100) :
    Calls Tryd.prog 33 #[.string s, .int .u8 n] w fun e w' => ∃ v, e = .returned v ∧ Row w' w.heap.size v (splitL n (tx s)) ∧ Below w.heap.size w w' := by
  obtain ⟨i0, hi, hz0, hz1, hz2⟩ := info_parts info_str
  go_enter Tryd.func33, Tryd.ntmps33
  go_wp2
  go_loopw [5, 6, 7] (fun v st i wr => ∃ (k fr : Nat) (d : List Tx), k ≤ s.size + 1 ∧ fr ≤ k ∧ d.length ≤ k ∧ st = .int .i64 fr ∧ i = .int .i64 k ∧ wr.ownsRow w.heap.size 9 1 v d.length (strs d) ∧ Below w.heap.size w wr ∧ Hid ((k ≤ s.size ∧ SplitAt n (tx s) k fr d) ∨ (k = s.size + 1 ∧ splitL n (tx s) = d))) (fun _ _ i _ => s.size + 1 - (intOf i).toNat)
  case atStart => exact ⟨0, 0, [], by omega, by omega, by simp, rfl, rfl, World.ownsRow_nil _ _ _ _, Below.refl _ _, .inl ⟨by omega, splitAt_start _ _⟩⟩
  case round =>
    obtain ⟨k, fr, d, hk, hfr, hd, rfl, rfl, hown, hbel, hall⟩ := hrel
    have hsz := hbel.size
    by_cases hlt : k < s.size
    · have hSA : Hid (SplitAt n (tx s) k fr d) := by rcases hall.out with h | h; · exact h.2
                                                     · omega
      have hne : ((k : Int) == (s.size : Int)) = false := by simp; omega
      by_cases hb : ((s[k]'hlt).toNat : Int) = n
      · have hbb : (((s[k]'hlt).toNat : Int) == n) = true := by simp [hb]
        have HN : Hid (SplitAt n (tx s) (k + 1) (k + 1) (d ++ [((tx s).drop fr).take (k - fr)])) := splitAt_yes hSA.out (by rw [tx_length]; exact hlt) hb
        have hl2 : d.length ≤ k := hd
        clear hb hall hSA
        go_wp2_with (first
          | (at_builtin; refine wpList_append_lies _ rfl _ _ 35 rfl w.heap.size 9 i0 (.string ByteArray.empty) 1 16 Tryd.underlying35 hi hz0 hz1 hz2 rfl (by omega) _ _ _ rfl (hown.alloc _) ⟨wr.heap.size, 0, none⟩ 1 1 [.string (s.extract fr k)] rfl rfl (cell_one_new _ _ _) (one_str _) (by omega) (by unfold maxLen; omega) (by omega) (by simp; omega) (wr.heap.size + 1) (by simp) ?_; intro g cap w1 hown1 hgrow hat hlt1))
        have R := step_own (extract_bs s fr k) hown hbel hown1 hgrow
        clear hown1 hgrow hown
        go_wp2
        go_roundw
        case rel => exact ⟨k + 1, k + 1, _, by omega, by omega, by simp; omega, by go_num, by go_num, R.1, R.2, .inl ⟨by omega, HN.out⟩⟩
        case measure => simp [intOf]; omega
      · have hbb : (((s[k]'hlt).toNat : Int) == n) = false := by simp [hb]
        have HN : Hid (SplitAt n (tx s) (k + 1) fr d) := splitAt_no hSA.out (by rw [tx_length]; exact hlt) hb
        clear hb hall hSA
        go_wp2
        go_roundw
        case rel => exact ⟨k + 1, fr, d, by omega, by omega, by omega, rfl, by go_num, hown, hbel, .inl ⟨by omega, HN.out⟩⟩
        case measure => simp [intOf]; omega
    · by_cases hend : k = s.size
      · subst hend
        have hSA : SplitAt n (tx s) s.size fr d := by
          rcases hall.out with h | h
          · exact h.2
          · omega
        have HN : Hid (splitL n (tx s) = d ++ [((tx s).drop fr).take (s.size - fr)]) := by
          have hx := tx_length s
          rw [← hx] at hSA ⊢
          exact splitAt_end hSA
        clear hall hSA
        go_wp2_with (first
          | (at_builtin; refine wpList_append_lies _ rfl _ _ 35 rfl w.heap.size 9 i0 (.string ByteArray.empty) 1 16 Tryd.underlying35 hi hz0 hz1 hz2 rfl (by omega) _ _ _ rfl (hown.alloc _) ⟨wr.heap.size, 0, none⟩ 1 1 [.string (s.extract fr s.size)] rfl rfl (cell_one_new _ _ _) (one_str _) (by omega) (by unfold maxLen; omega) (by omega) (by simp; omega) (wr.heap.size + 1) (by simp) ?_; intro g cap w1 hown1 hgrow hat hlt1))
        have R := step_own (extract_bs s fr s.size) hown hbel hown1 hgrow
        clear hown1 hgrow hown
        go_wp2
        go_roundw
        case rel => exact ⟨s.size + 1, s.size + 1, _, by omega, by omega, by simp <;> omega, by go_num, by go_num, R.1, R.2, .inr ⟨rfl, HN.out⟩⟩
        case measure => simp [intOf] <;> omega
      · have HN : Hid (splitL n (tx s) = d) := by
          rcases hall.out with h | h
          · omega
          · exact h.2
        have HR := hid (row_of hown HN.out hbel)
        clear hown hbel hall HN
        go_wp2
        go_ret
        exact ⟨_, rfl, HR.out.1, HR.out.2⟩

set_option maxHeartbeats 1000000 in
theorem psplit_any (s : ByteArray) (n : Int) (w : World) (hs : s.size ≤ 100) :
    Calls Tryd.prog 27 #[.string s, .int .u8 n] w fun e w' => ∃ v, e = .returned v ∧ Row w' w.heap.size v (splitL n (tx s)) ∧ Below w.heap.size w w' := by
  obtain ⟨i0, hi, hz0, hz1, hz2⟩ := info_parts info_str
  go_enter Tryd.func27, Tryd.ntmps27
  go_wp2
  go_loopw [5, 6, 7] (fun v st i wr => ∃ (k fr : Nat) (d : List Tx), k ≤ s.size ∧ fr ≤ k ∧ d.length ≤ k ∧ st = .int .i64 fr ∧ i = .int .i64 k ∧ wr.ownsRow w.heap.size 9 1 v d.length (strs d) ∧ Below w.heap.size w wr ∧ Hid (SplitAt n (tx s) k fr d)) (fun _ _ i _ => s.size - (intOf i).toNat)
  case atStart => exact ⟨0, 0, [], by omega, by omega, by simp, rfl, rfl, World.ownsRow_nil _ _ _ _, Below.refl _ _, splitAt_start _ _⟩
  case round =>
    obtain ⟨k, fr, d, hk, hfr, hd, rfl, rfl, hown, hbel, hSA⟩ := hrel
    have hsz := hbel.size
    by_cases hlt : k < s.size
    · by_cases hb : ((s[k]'hlt).toNat : Int) = n
      · have hbb : (((s[k]'hlt).toNat : Int) == n) = true := by simp [hb]
        have HN : Hid (SplitAt n (tx s) (k + 1) (k + 1) (d ++ [((tx s).drop fr).take (k - fr)])) := splitAt_yes hSA.out (by rw [tx_length]; exact hlt) hb
        clear hb hSA
        go_wp2_with (first
          | (at_builtin; refine wpList_append_lies _ rfl _ _ 35 rfl w.heap.size 9 i0 (.string ByteArray.empty) 1 16 Tryd.underlying35 hi hz0 hz1 hz2 rfl (by omega) _ _ _ rfl (hown.alloc _) ⟨wr.heap.size, 0, none⟩ 1 1 [.string (s.extract fr k)] rfl rfl (cell_one_new _ _ _) (one_str _) (by omega) (by unfold maxLen; omega) (by omega) (by simp; omega) (wr.heap.size + 1) (by simp) ?_; intro g cap w1 hown1 hgrow hat hlt1))
        have R := step_own (extract_bs s fr k) hown hbel hown1 hgrow
        clear hown1 hgrow hown
        go_wp2
        go_roundw
        case rel => exact ⟨k + 1, k + 1, _, by omega, by omega, by simp; omega, by go_num, by go_num, R.1, R.2, HN.out⟩
        case measure => simp [intOf]; omega
      · have hbb : (((s[k]'hlt).toNat : Int) == n) = false := by simp [hb]
        have HN : Hid (SplitAt n (tx s) (k + 1) fr d) := splitAt_no hSA.out (by rw [tx_length]; exact hlt) hb
        clear hb hSA
        go_wp2
        go_roundw
        case rel => exact ⟨k + 1, fr, d, by omega, by omega, by omega, rfl, by go_num, hown, hbel, HN.out⟩
        case measure => simp [intOf]; omega
    · have hend : k = s.size := by omega
      subst hend
      have HN : Hid (splitL n (tx s) = d ++ [((tx s).drop fr).take (s.size - fr)]) := by
        have hx := tx_length s
        have h2 := hSA.out
        rw [← hx] at h2 ⊢
        exact splitAt_end h2
      clear hSA
      go_wp2_with (first
        | (at_builtin; refine wpList_append_lies _ rfl _ _ 35 rfl w.heap.size 9 i0 (.string ByteArray.empty) 1 16 Tryd.underlying35 hi hz0 hz1 hz2 rfl (by omega) _ _ _ rfl (hown.alloc _) ⟨wr.heap.size, 0, none⟩ 1 1 [.string (s.extract fr s.size)] rfl rfl (cell_one_new _ _ _) (one_str _) (by omega) (by unfold maxLen; omega) (by omega) (by simp; omega) (wr.heap.size + 1) (by simp) ?_; intro g cap w1 hown1 hgrow hat hlt1))
      have R := step_own (extract_bs s fr s.size) hown hbel hown1 hgrow
      have HR : Hid (Row w1 w.heap.size (.slice (some ⟨g, 0, none⟩) (d.length + 1) cap) (splitL n (tx s)) ∧ Below w.heap.size w w1) := by
        unfold Hid Row
        rw [HN.out]
        exact R
      clear hown1 hgrow hown R
      go_wp2
      go_ret
      exact ⟨_, rfl, HR.out.1, HR.out.2⟩

/-- What the walk wants of such a row: its form, its cells. -/
theorem Row.form {w : World} {base : Nat} {v : Value} {d : List Tx} (h : Row w base v d) (hd : d ≠ []) : ∃ g cap, v = .slice (some ⟨g, 0, none⟩) d.length cap ∧ base ≤ g ∧ g < w.heap.size ∧ ∀ (j : Nat) (hj : j < d.length), w.cell? ⟨g, j, none⟩ = some (.string (bs d[j])) := by
  have hn : 0 < d.length := List.length_pos_iff.2 hd
  obtain ⟨g, cap, rfl, h1, h2⟩ := form_ne h hn
  refine ⟨g, cap, rfl, h1, h2, fun j hj => ?_⟩
  rw [World.ownsRow.cellAt h j (by omega)]
  simp [strs, hj]

end Hst
end Go.Proofs.YtkcgbikgblkpjaaDoor
