/- Pneedb, Treea, Pneedc, Rcond, Holds -/
import Derived.Test.YtecocheolbkneaaDoorW13
import Derived.Test.YtecocheolbkneaaDoorW02
import Derived.Test.YtecocheolbkneaaDoorW03
namespace Go.Proofs.YtecocheolbkneaaDoor
open Go.RowKit
namespace Hst
set_option maxRecDepth 100000

theorem grow_far {w w1 : World} {v : Value} (hg : w.grownBy w1 v.ownBlock) {b : Nat} (hb : b < w.heap.size) (hne : ∀ k, v.ownBlock = some k → k ≠ b) : ∀ o, w1.cell? ⟨b, o, none⟩ = w.cell? ⟨b, o, none⟩ := fun o =>
  hg.cell_far ⟨b, o, none⟩ hb (by intro h; exact hne _ h.symm rfl)
theorem ig_put {α : Type} (key : α → Tx) (x : α) (l : List α) (k : Nat) (hk : k < l.length) (h : less (key x) (key l[k]) = true) : insG key x false (l.drop k) = [x, l[k]] ++ insG key x true (l.drop (k + 1)) := by
  rw [List.drop_eq_getElem_cons hk]; simp [insG, h]
theorem ig_no {α : Type} (key : α → Tx) (x : α) (l : List α) (k : Nat) (hk : k < l.length) (h : less (key x) (key l[k]) = false) : insG key x false (l.drop k) = [l[k]] ++ insG key x false (l.drop (k + 1)) := by
  rw [List.drop_eq_getElem_cons hk]; simp [insG, h]
theorem ig_on {α : Type} (key : α → Tx) (x : α) (l : List α) (k : Nat) (hk : k < l.length) : insG key x true (l.drop k) = [l[k]] ++ insG key x true (l.drop (k + 1)) := by
  rw [List.drop_eq_getElem_cons hk]; simp [insG]
theorem ig_end {α : Type} (key : α → Tx) (x : α) (l : List α) (k : Nat) (hk : ¬ k < l.length) (b : Bool) : insG key x b (l.drop k) = if b = true then [] else [x] := by
  rw [List.drop_of_length_le (by omega)]; rfl
theorem insG_mem {α : Type} (key : α → Tx) (x : α) : ∀ (l : List α) (b : Bool) (y : α), y ∈ insG key x b l → y = x ∨ y ∈ l
  | [], b, y, h => by cases b <;> simp [insG] at h; exact .inl h
  | z :: r, b, y, h => by
    simp only [insG] at h
    split at h
    · simp only [List.mem_cons] at h
      rcases h with h | h | h
      · exact .inl h
      · exact .inr (by simp [h])
      · rcases insG_mem key x r true y h with h | h
        · exact .inl h
        · exact .inr (by simp [h])
    · simp only [List.mem_cons] at h
      rcases h with h | h
      · exact .inr (by simp [h])
      · rcases insG_mem key x r b y h with h | h
        · exact .inl h
        · exact .inr (by simp [h])

set_option maxHeartbeats 2000000 in
theorem withN_any (v : Value) (l : List NeedX) (x : NeedX) (w : World) (hl : NeedsIn w v l) (hx : NeedIn w x) (hn : l.length ≤ 100000) :
    Calls Tryd.prog 50 #[v, needXV x] w fun e w' => ∃ v', e = .returned v' ∧ NeedsIn w' v' (withN l x) ∧ Below w.heap.size w w' := by
  obtain ⟨i0, hi, hz0, hz1, hz2⟩ := info_parts info_needX
  obtain ⟨a, cap, rfl⟩ := hl.1.form
  obtain ⟨xa, xc, hxf⟩ := hx.form
  have HL := hid' hl
  have HX := hid' hx
  obtain ⟨xn, xsp, xs, xt⟩ := x
  simp only at hxf
  subst hxf
  clear hl hx
  have HP : Hid (withN l ⟨xn, .slice xa xs.length xc, xs, xt⟩ = [] ++ insG (fun n => n.name) ⟨xn, .slice xa xs.length xc, xs, xt⟩ false (l.drop 0)) := rfl
  go_enter Tryd.func50, Tryd.ntmps50
  go_wp2
  have hbw := (Below.refl w.heap.size w).alloc (Nat.le_refl _) (.cells #[.string (bs xn), .slice xa xs.length xc, .string (bs xt)] 86)
  have e0 : (w.alloc (.cells #[.string (bs xn), .slice xa xs.length xc, .string (bs xt)] 86)).cell? ⟨w.heap.size, 0, none⟩ = some (.string (bs xn)) := by simp
  have e1 : (w.alloc (.cells #[.string (bs xn), .slice xa xs.length xc, .string (bs xt)] 86)).cell? ⟨w.heap.size, 1, none⟩ = some (.slice xa xs.length xc) := by simp
  have e2 : (w.alloc (.cells #[.string (bs xn), .slice xa xs.length xc, .string (bs xt)] 86)).cell? ⟨w.heap.size, 2, none⟩ = some (.string (bs xt)) := by simp
  have hsz : (w.alloc (.cells #[.string (bs xn), .slice xa xs.length xc, .string (bs xt)] 86)).heap.size = w.heap.size + 1 := by simp
  generalize w.alloc (.cells #[.string (bs xn), .slice xa xs.length xc, .string (bs xt)] 86) = W at *
  have HW := hid' hbw
  have HL1 := hid' (HL.out.below hbw)
  have HS := hid' hsz
  clear hbw
  generalize hx0 : (⟨xn, .slice xa xs.length xc, xs, xt⟩ : NeedX) = x0 at *
  have HX0 := hid' hx0
  clear hx0
  go_loopw [5, 6, 11] (fun v b i wr => ∃ (k : Nat) (pl : Bool) (acc : List NeedX), k ≤ l.length ∧ acc.length ≤ 2 * k ∧ b = .bool pl ∧ i = .int .i64 k ∧ wr.ownsRow W.heap.size 86 3 v acc.length (acc.flatMap needXC) ∧ Below W.heap.size W wr ∧ Hid (withN l x0 = acc ++ insG (fun n => n.name) x0 pl (l.drop k))) (fun _ _ i _ => l.length - (intOf i).toNat)
  case atStart => exact ⟨0, false, [], Nat.zero_le _, by simp, rfl, rfl, World.ownsRow_nil _ _ _ _, Below.refl _ _, HP⟩
  case round =>
    obtain ⟨k, pl, acc, hk, hacc, rfl, rfl, hown, hbel, hall⟩ := hrel
    have hz := hbel.size
    have hwz : w.heap.size < W.heap.size := by have := HS.out; omega
    have hwr : w.heap.size < wr.heap.size := by omega
    obtain ⟨hcc, -⟩ := bcell hbel
    have d0 := (hcc w.heap.size 0 hwz).trans e0
    have d1 := (hcc w.heap.size 1 hwz).trans e1
    have d2 := (hcc w.heap.size 2 hwz).trans e2
    clear hcc HP
    by_cases hlt : k < l.length
    · obtain ⟨g, o, cap', hv, hg, hc⟩ := (HL1.out.below hbel).1.needs hlt
      simp at hv
      obtain ⟨rfl, rfl⟩ := hv
      obtain ⟨c0, c1, c2⟩ := hc k hlt
      obtain ⟨sa, sc, hsp⟩ := (HL.out.2 l[k] (List.getElem_mem hlt)).form
      clear hc
      cases pl
      · by_cases hlo : less x0.name l[k].name = true
        · have HF : Hid (withN l x0 = ((acc ++ [x0]) ++ [l[k]]) ++ insG (fun n => n.name) x0 true (l.drop (k + 1))) := by unfold Hid; rw [hall.out, ig_put _ x0 l k hlt hlo]; simp
          have hb : Op.bytesLess (bs xn).toList (bs l[k].name).toList = true := by rw [tx_toList, tx_toList, tx_bs, tx_bs]; rw [← HX0.out] at hlo; exact hlo
          clear hlo hall
          generalize l[k] = y at *
          obtain ⟨yn, ysp, ys, yt⟩ := y
          simp only at hsp c0 c1 c2 hb
          subst hsp
          go_wp2_with (first
            | (at_builtin; refine wpList_append_lies _ rfl _ _ 89 rfl W.heap.size 86 i0 (.agg #[.string ByteArray.empty, .slice none 0 0, .string ByteArray.empty]) 3 56 Tryd.underlying89 hi hz0 hz1 hz2 rfl (by omega) _ _ _ rfl ((hown.alloc _).alloc _) ⟨wr.heap.size + 1, 0, none⟩ 1 1 [.string (bs xn), .slice xa xs.length xc, .string (bs xt)] rfl rfl (news_3b _ _ _ _ _ _) (needX_one ⟨xn, _, xs, xt⟩ rfl) (by omega) (by unfold maxLen; omega) (by omega) (by simp; omega) (wr.heap.size + 2) (by simp) ?_; intro g1 cap1 w1 hown1 hgrow hat hlt1; have R := step_gen2 needXC (x := ⟨xn, .slice xa xs.length xc, xs, xt⟩) rfl hown hbel (((Below.refl _ _).alloc (Nat.le_refl _) _).alloc (by simp) _) hown1 hgrow; have hfar := grow_far hgrow (b := wr.heap.size) (by simp <;> omega) (fun q hq => by have := (hown.lt q hq).2; omega); have f0 := hfar 0; have f1 := hfar 1; have f2 := hfar 2; simp at f0 f1 f2; have hw1 : wr.heap.size < w1.heap.size := (by have := hgrow.size; simp at this; omega); clear hown1 hgrow hown hfar; obtain ⟨hown2, hbel2⟩ := R; have hzz := hbel2.size; have hlen2 : (acc ++ [(⟨xn, .slice xa xs.length xc, xs, xt⟩ : NeedX)]).length = acc.length + 1 := List.length_append)
            | (at_builtin; refine wpList_append_lies _ rfl _ _ 89 rfl W.heap.size 86 i0 (.agg #[.string ByteArray.empty, .slice none 0 0, .string ByteArray.empty]) 3 56 Tryd.underlying89 hi hz0 hz1 hz2 rfl (by omega) _ _ _ rfl (hown2.alloc _) ⟨w1.heap.size, 0, none⟩ 1 1 [.string (bs yn), .slice sa ys.length sc, .string (bs yt)] rfl rfl (news_3 _ _ _ _ _) (needX_one ⟨yn, _, ys, yt⟩ rfl) (by omega) (by unfold maxLen; omega) (by omega) (by simp; omega) (w1.heap.size + 1) (by simp) ?_; intro g3 cap3 w3 hown3 hgrow3 hat3 hlt3))
          have R := step_gen2 needXC (x := ⟨yn, .slice sa ys.length sc, ys, yt⟩) rfl hown2 hbel2 ((Below.refl _ _).alloc (Nat.le_refl _) _) hown3 hgrow3
          clear hown3 hgrow3 hown2
          rw [← HX0.out] at HF
          go_wp2
          go_roundw
          case rel => exact ⟨k + 1, true, acc ++ [⟨xn, .slice xa xs.length xc, xs, xt⟩] ++ [⟨yn, .slice sa ys.length sc, ys, yt⟩], by omega, by simp; omega, rfl, by go_num, by have h := R.1; rw [hlen2] at h; exact h, R.2, by rw [← HX0.out]; exact HF⟩
          case measure => simp [intOf] <;> omega
        · have hlo : less x0.name l[k].name = false := by simpa using hlo
          have HF : Hid (withN l x0 = (acc ++ [l[k]]) ++ insG (fun n => n.name) x0 false (l.drop (k + 1))) := by unfold Hid; rw [hall.out, ig_no _ x0 l k hlt hlo]; simp
          have hb : Op.bytesLess (bs xn).toList (bs l[k].name).toList = false := by rw [tx_toList, tx_toList, tx_bs, tx_bs]; rw [← HX0.out] at hlo; exact hlo
          clear hlo hall
          generalize l[k] = y at *
          obtain ⟨yn, ysp, ys, yt⟩ := y
          simp only at hsp c0 c1 c2 hb
          subst hsp
          go_wp2_with (first | (at_builtin; refine wpList_append_lies _ rfl _ _ 89 rfl W.heap.size 86 i0 (.agg #[.string ByteArray.empty, .slice none 0 0, .string ByteArray.empty]) 3 56 Tryd.underlying89 hi hz0 hz1 hz2 rfl (by omega) _ _ _ rfl ((hown.alloc _).alloc _) ⟨wr.heap.size + 1, 0, none⟩ 1 1 [.string (bs yn), .slice sa ys.length sc, .string (bs yt)] rfl rfl (news_3b _ _ _ _ _ _) (needX_one ⟨yn, _, ys, yt⟩ rfl) (by omega) (by unfold maxLen; omega) (by omega) (by simp; omega) (wr.heap.size + 2) (by simp) ?_; intro g1 cap1 w1 hown1 hgrow hat hlt1))
          have R := step_gen2 needXC (x := ⟨yn, .slice sa ys.length sc, ys, yt⟩) rfl hown hbel (((Below.refl _ _).alloc (Nat.le_refl _) _).alloc (by simp) _) hown1 hgrow
          clear hown1 hgrow hown
          go_wp2
          go_roundw
          case rel => exact ⟨k + 1, false, _, by omega, by simp; omega, rfl, by go_num, R.1, R.2, HF⟩
          case measure => simp [intOf] <;> omega
      · have HF : Hid (withN l x0 = (acc ++ [l[k]]) ++ insG (fun n => n.name) x0 true (l.drop (k + 1))) := by unfold Hid; rw [hall.out, ig_on _ x0 l k hlt]; simp
        clear hall
        generalize l[k] = y at *
        obtain ⟨yn, ysp, ys, yt⟩ := y
        simp only at hsp c0 c1 c2
        subst hsp
        go_wp2_with (first | (at_builtin; refine wpList_append_lies _ rfl _ _ 89 rfl W.heap.size 86 i0 (.agg #[.string ByteArray.empty, .slice none 0 0, .string ByteArray.empty]) 3 56 Tryd.underlying89 hi hz0 hz1 hz2 rfl (by omega) _ _ _ rfl ((hown.alloc _).alloc _) ⟨wr.heap.size + 1, 0, none⟩ 1 1 [.string (bs yn), .slice sa ys.length sc, .string (bs yt)] rfl rfl (news_3b _ _ _ _ _ _) (needX_one ⟨yn, _, ys, yt⟩ rfl) (by omega) (by unfold maxLen; omega) (by omega) (by simp; omega) (wr.heap.size + 2) (by simp) ?_; intro g1 cap1 w1 hown1 hgrow hat hlt1))
        have R := step_gen2 needXC (x := ⟨yn, .slice sa ys.length sc, ys, yt⟩) rfl hown hbel (((Below.refl _ _).alloc (Nat.le_refl _) _).alloc (by simp) _) hown1 hgrow
        clear hown1 hgrow hown
        go_wp2
        go_roundw
        case rel => exact ⟨k + 1, true, _, by omega, by simp; omega, rfl, by go_num, R.1, R.2, HF⟩
        case measure => simp [intOf] <;> omega
    · have hfin := ig_end (fun n : NeedX => n.name) x0 l k hlt pl
      have HM := hid' (insG_mem (fun n : NeedX => n.name) x0 l false)
      have HIN : ∀ (w' : World), Below w.heap.size w w' → ∀ n ∈ withN l x0, NeedIn w' n := by
        intro w' hb n hn
        rcases HM.out n hn with rfl | h
        · exact HX.out.below hb
        · exact (HL.out.2 n h).below hb
      have HI := hid' HIN
      clear HIN HM
      cases pl
      · have HF : Hid (withN l x0 = acc ++ [x0]) := by unfold Hid; rw [hall.out, hfin]; simp
        clear hall hfin
        go_wp2_with (first | (at_builtin; refine wpList_append_lies _ rfl _ _ 89 rfl W.heap.size 86 i0 (.agg #[.string ByteArray.empty, .slice none 0 0, .string ByteArray.empty]) 3 56 Tryd.underlying89 hi hz0 hz1 hz2 rfl (by omega) _ _ _ rfl (hown.alloc _) ⟨wr.heap.size, 0, none⟩ 1 1 [.string (bs xn), .slice xa xs.length xc, .string (bs xt)] rfl rfl (news_3 _ _ _ _ _) (needX_one ⟨xn, _, xs, xt⟩ rfl) (by omega) (by unfold maxLen; omega) (by omega) (by simp; omega) (wr.heap.size + 1) (by simp) ?_; intro g1 cap1 w1 hown1 hgrow hat hlt1))
        have R := step_gen2 needXC (x := ⟨xn, .slice xa xs.length xc, xs, xt⟩) rfl hown hbel ((Below.refl _ _).alloc (Nat.le_refl _) _) hown1 hgrow
        clear hown1 hgrow hown
        have HR := hid' R
        have HB := hid' (HW.out.trans (R.2.mono (by omega)))
        clear R hbel
        go_wp2
        go_ret
        refine ⟨_, rfl, ⟨?_, ?_⟩, HB.out⟩
        · rw [HX0.out, HF.out, ← HX0.out]
          exact RowX.of_own HR.out.1
        · rw [HX0.out]
          exact HI.out _ HB.out
      · have HF : Hid (withN l x0 = acc) := by unfold Hid; rw [hall.out, hfin]; simp
        have HR := hid' (And.intro hown hbel)
        have HB := hid' (HW.out.trans (hbel.mono (by omega)))
        clear hown hbel hall
        go_wp2
        go_ret
        refine ⟨_, rfl, ⟨?_, ?_⟩, HB.out⟩
        · rw [HX0.out, HF.out]
          exact RowX.of_own HR.out.1
        · rw [HX0.out]
          exact HI.out _ HB.out

end Hst
end Go.Proofs.YtecocheolbkneaaDoor
namespace Go.Proofs.YtecocheolbkneaaDoor
open Go.RowKit
namespace Hst
set_option maxRecDepth 100000

/-- A slice of packages. -/
def PacksR (w : World) (a : Option Addr) (n cap : Nat) (l : List PackD) : Prop := n = l.length ∧ RowR w a n cap 2 (l.flatMap packC)
theorem packC_len (p : PackD) : (packC p).length = 2 := rfl
theorem PacksR.below {w w' : World} {a : Option Addr} {n cap : Nat} {l : List PackD} (h : PacksR w a n cap l) (hb : Below w.heap.size w w') : PacksR w' a n cap l := ⟨h.1, h.2.below hb⟩
theorem PacksR.cells {w : World} {a : Option Addr} {n cap : Nat} {l : List PackD} (h : PacksR w a n cap l) {k : Nat} (hk : k < l.length) :
    ∃ g o, a = some ⟨g, o, none⟩ ∧ g < w.heap.size ∧ ∀ (j : Nat) (hj : j < l.length), w.cell? ⟨g, o + j * 2, none⟩ = some (.string (bs l[j].path)) ∧ w.cell? ⟨g, o + j * 2 + 1, none⟩ = some (.int .i64 l[j].of) := by
  obtain ⟨rfl, hr⟩ := h
  obtain ⟨g, o, ha, hg, hc⟩ := hr.at' (by omega)
  refine ⟨g, o, ha, hg, fun j hj => ⟨?_, ?_⟩⟩
  · have := hc (j * 2 + 0) (by omega)
    rw [flat_at packC 2 packC_len l j 0 hj (by omega)] at this
    exact this
  · have := hc (j * 2 + 1) (by omega)
    rw [flat_at packC 2 packC_len l j 1 hj (by omega)] at this
    exact this
/-- A slice of texts. -/
def StrsR (w : World) (a : Option Addr) (n cap : Nat) (l : List Tx) : Prop := n = l.length ∧ RowR w a n cap 1 (l.flatMap strC)
theorem strC_len (p : Tx) : (strC p).length = 1 := rfl
theorem StrsR.below {w w' : World} {a : Option Addr} {n cap : Nat} {l : List Tx} (h : StrsR w a n cap l) (hb : Below w.heap.size w w') : StrsR w' a n cap l := ⟨h.1, h.2.below hb⟩
theorem StrsR.cells {w : World} {a : Option Addr} {n cap : Nat} {l : List Tx} (h : StrsR w a n cap l) {k : Nat} (hk : k < l.length) :
    ∃ g o, a = some ⟨g, o, none⟩ ∧ g < w.heap.size ∧ ∀ (j : Nat) (hj : j < l.length), w.cell? ⟨g, o + j, none⟩ = some (.string (bs l[j])) := by
  obtain ⟨rfl, hr⟩ := h
  obtain ⟨g, o, ha, hg, hc⟩ := hr.at' (by omega)
  refine ⟨g, o, ha, hg, fun j hj => ?_⟩
  have := hc (j * 1 + 0) (by omega)
  rw [flat_at strC 1 strC_len l j 0 hj (by omega)] at this
  simpa [strC] using this
theorem strs_flat (d : List Tx) : strs d = d.flatMap strC := by
  induction d with
  | nil => rfl
  | cons x r ih => simp [strs, strC] at ih ⊢; rw [← ih]
theorem StrsR.of_row {w : World} {base : Nat} {a : Option Addr} {n cap : Nat} {d : List Tx} (h : Row w base (.slice a n cap) d) (hn : n = d.length) : StrsR w a n cap d := by
  subst hn
  unfold Row at h
  rw [strs_flat] at h
  exact ⟨rfl, RowR.of_own h⟩
theorem beq_bs (a b : Tx) : ((bs a).toList == (bs b).toList) = decide (a = b) := by
  rw [tx_toList, tx_toList, tx_bs, tx_bs]
  by_cases h : a = b <;> simp [h]

/-- An index, or -1. -/
def idx (o : Option Nat) : Int := match o with
  | none => -1
  | some k => k
theorem at_step_yes (l : List PackD) (path : Tx) (k i : Nat) (hk : k < l.length) (h : l[k].path = path) : atGo path i (l.drop k) = some i := by
  rw [List.drop_eq_getElem_cons hk]; simp [atGo, h]
theorem at_step_no (l : List PackD) (path : Tx) (k i : Nat) (hk : k < l.length) (h : ¬ l[k].path = path) : atGo path i (l.drop k) = atGo path (i + 1) (l.drop (k + 1)) := by
  rw [List.drop_eq_getElem_cons hk]; simp [atGo, h]
theorem at_step_end (l : List PackD) (path : Tx) (k i : Nat) (hk : ¬ k < l.length) : atGo path i (l.drop k) = none := by
  rw [List.drop_of_length_le (by omega)]; rfl

theorem has_yes (l : List Tx) (p : Tx) (k : Nat) (hk : k < l.length) (h : l[k] = p) : hasR (l.drop k) p = true := by
  rw [List.drop_eq_getElem_cons hk]; simp [hasR, h]
theorem has_no (l : List Tx) (p : Tx) (k : Nat) (hk : k < l.length) (h : ¬ l[k] = p) : hasR (l.drop k) p = hasR (l.drop (k + 1)) p := by
  rw [List.drop_eq_getElem_cons hk]; unfold hasR; rw [List.any_cons]; simp [h]
theorem has_end (l : List Tx) (p : Tx) (k : Nat) (hk : ¬ k < l.length) : hasR (l.drop k) p = false := by
  rw [List.drop_of_length_le (by omega)]; rfl

theorem bs_cat (a b : ByteArray) : a ++ b = bs (tx a ++ tx b) := by rw [← bs_append, bs_tx, bs_tx]
end Hst
end Go.Proofs.YtecocheolbkneaaDoor
namespace Go.Proofs.YtecocheolbkneaaDoor
open Go.RowKit
namespace Hst
set_option maxRecDepth 100000

theorem hn_yes (l : List NeedX) (p : Tx) (k : Nat) (hk : k < l.length) (h : l[k].name = p) : hasN (l.drop k) p = true := by
  rw [List.drop_eq_getElem_cons hk]; unfold hasN; rw [List.any_cons]; simp [h]
theorem hn_no (l : List NeedX) (p : Tx) (k : Nat) (hk : k < l.length) (h : ¬ l[k].name = p) : hasN (l.drop k) p = hasN (l.drop (k + 1)) p := by
  rw [List.drop_eq_getElem_cons hk]; unfold hasN; rw [List.any_cons]; simp [h]
theorem hn_end (l : List NeedX) (p : Tx) (k : Nat) (hk : ¬ k < l.length) : hasN (l.drop k) p = false := by
  rw [List.drop_of_length_le (by omega)]; rfl

/-- Whether two neighbours from place k on have one name (k ahead of them all). -/
theorem tw_yes (l : List NeedX) (k : Nat) (hk : k + 1 < l.length) (h : l[k].name = l[k + 1].name) : twiceX (l.drop k) = true := by
  rw [List.drop_eq_getElem_cons (by omega), List.drop_eq_getElem_cons hk]; simp [twiceX, h]
theorem tw_no (l : List NeedX) (k : Nat) (hk : k + 1 < l.length) (h : ¬ l[k].name = l[k + 1].name) : twiceX (l.drop k) = twiceX (l.drop (k + 1)) := by
  rw [List.drop_eq_getElem_cons (by omega), List.drop_eq_getElem_cons hk]; simp [twiceX, h]
theorem tw_end (l : List NeedX) (k : Nat) (hk : ¬ k + 1 < l.length) : twiceX (l.drop k) = false := by
  have h : (l.drop k).length ≤ 1 := by simp; omega
  rcases hd : l.drop k with _ | ⟨x, _ | ⟨y, r⟩⟩
  · rfl
  · rfl
  · rw [hd] at h; simp at h

attribute [local go_sem ↓] Go.wp_at_zero Go.wp_at_succ

set_option maxHeartbeats 2000000 in
theorem twiceX_any (v : Value) (l : List NeedX) (w : World) (hl : NeedsIn w v l) (hn : l.length ≤ 100000) :
    Calls Tryd.prog 99 #[v] w fun e w' => e = .returned (.bool (twiceX l)) ∧ Below w.heap.size w w' := by
  obtain ⟨a, cap, rfl⟩ := hl.1.form
  have HL := hid' hl
  clear hl
  go_enter Tryd.func99, Tryd.ntmps99
  go_wp2
  go_loopw [3] (fun i wr => ∃ k : Nat, k ≤ l.length ∧ i = .int .i64 ((k : Int) + 1) ∧ Below w.heap.size w wr ∧ Hid (twiceX l = twiceX (l.drop k))) (fun i _ => l.length + 1 - (intOf i).toNat)
  case atStart => exact ⟨0, Nat.zero_le _, rfl, Below.refl _ _, rfl⟩
  case round =>
    obtain ⟨k, hk, rfl, hbel, hall⟩ := hrel
    have hz := hbel.size
    by_cases hlt : k + 1 < l.length
    · obtain ⟨g, o, cap', hv, hg, hc⟩ := (HL.out.below hbel).1.needs (show k < l.length by omega)
      simp at hv
      obtain ⟨rfl, rfl⟩ := hv
      have c0 := (hc k (by omega)).1
      have c1 := (hc (k + 1) hlt).1
      clear hc
      have i0 : (0 : Int) ≤ (k : Int) + 1 := by omega
      have i1 : (k : Int) + 1 < (l.length : Int) := by omega
      have i2 : IntKind.i64.wrap ((k : Int) + 1 - 1) = (k : Int) := by rw [IntKind.wrap_i64]; omega
      have i6 : IntKind.i64.wrap (k : Int) = (k : Int) := by rw [IntKind.wrap_i64]; omega
      have i5 : ((k : Int) + 1).toNat = k + 1 := by omega
      have i3 : (0 : Int) ≤ (k : Int) := by omega
      have i4 : (k : Int) < (l.length : Int) := by omega
      by_cases he : l[k].name = l[k + 1].name
      · have HF : Hid (twiceX l = true) := by unfold Hid; rw [hall.out, tw_yes l k hlt he]
        have hb : ((bs l[k].name).toList == (bs l[k + 1].name).toList) = true := by rw [he]; simp
        clear he hall
        generalize bs l[k].name = q at *
        generalize bs l[k + 1].name = r at *
        go_wp2
        go_region_held3 (fun w' => w'.cell? ⟨g, o + k * 3, none⟩ = some (.string q) ∧ w'.cell? ⟨g, o + (k + 1) * 3, none⟩ = some (.string r)) (go_keep) (fail)
        go_wp2
        go_ret
        exact ⟨ret_bool (by rw [HF.out]), hbel.drew⟩
      · have HF : Hid (twiceX l = twiceX (l.drop (k + 1))) := by unfold Hid; rw [hall.out, tw_no l k hlt he]
        have hb : ((bs l[k].name).toList == (bs l[k + 1].name).toList) = false := by rw [tx_toList, tx_toList, tx_bs, tx_bs]; simp [he]
        clear he hall
        generalize bs l[k].name = q at *
        generalize bs l[k + 1].name = r at *
        go_wp2
        go_region_held3 (fun w' => w'.cell? ⟨g, o + k * 3, none⟩ = some (.string q) ∧ w'.cell? ⟨g, o + (k + 1) * 3, none⟩ = some (.string r)) (go_keep) (fail)
        go_wp2
        go_roundw
        case rel => exact ⟨k + 1, by omega, by go_num, hbel.drew, HF⟩
        case measure => simp [intOf] <;> omega
    · have HF : Hid (twiceX l = false) := by unfold Hid; rw [hall.out, tw_end l k hlt]
      go_wp2
      go_ret
      exact ⟨ret_bool (by rw [HF.out]), hbel⟩

/-! ### Join -/
theorem jg_first (sep : Tx) (l : List Tx) (hk : 0 < l.length) : joinGo sep true (l.drop 0) = l[0] ++ joinGo sep false (l.drop 1) := by
  rw [List.drop_eq_getElem_cons hk]; simp [joinGo]
theorem jg_next (sep : Tx) (l : List Tx) (k : Nat) (hk : k < l.length) : joinGo sep false (l.drop k) = sep ++ l[k] ++ joinGo sep false (l.drop (k + 1)) := by
  rw [List.drop_eq_getElem_cons hk]; simp [joinGo]
theorem jg_end (sep : Tx) (l : List Tx) (k : Nat) (hk : ¬ k < l.length) (b : Bool) : joinGo sep b (l.drop k) = [] := by
  rw [List.drop_of_length_le (by omega)]; rfl
theorem dz (k : Nat) : decide (k + 1 = 0) = false := by simp
/-- How long a row of texts is at the most. -/
def lens (l : List Tx) : Nat := (l.map List.length).sum

set_option maxHeartbeats 2000000 in
theorem join_all (v : Value) (l : List Tx) (p : ByteArray) (w : World) (hl : RowX strC 1 9 w v l) (hn : l.length ≤ 1000) (hp : p.size ≤ 1000) (hs : ∀ x ∈ l, x.length ≤ 1000) :
    Calls Tryd.prog 81 #[v, .string p] w fun e w' => e = .returned (.string (bs (joinT (tx p) l))) ∧ Below w.heap.size w w' := by
  obtain ⟨a, cap, rfl⟩ := hl.form
  have HL := hid' hl
  have HS := hid' hs
  clear hl hs
  go_enter Tryd.func81, Tryd.ntmps81
  go_wp2
  go_loopw [5, 10] (fun t i wr => ∃ (k : Nat) (acc : Tx), k ≤ l.length ∧ acc.length ≤ 2000 * k ∧ i = .int .i64 k ∧ t = .string (bs acc) ∧ Below w.heap.size w wr ∧ Hid (joinT (tx p) l = acc ++ joinGo (tx p) (decide (k = 0)) (l.drop k))) (fun _ i _ => l.length - (intOf i).toNat)
  case atStart => exact ⟨0, [], Nat.zero_le _, by simp, rfl, rfl, Below.refl _ _, rfl⟩
  case round =>
    obtain ⟨k, acc, hk, hacc, rfl, rfl, hbel, hall⟩ := hrel
    have hz := hbel.size
    by_cases hlt : k < l.length
    · obtain ⟨g, o, cap', hv, hg, hc⟩ := (HL.out.below hbel).cells strC_len hlt
      simp at hv
      obtain ⟨rfl, rfl⟩ := hv
      have c0 := hc k hlt 0 (by omega)
      simp [strC] at c0
      have hx := HS.out l[k] (List.getElem_mem hlt)
      have ha : (bs acc).size ≤ 2000 * k := by rw [bs_size]; exact hacc
      have hq : (bs l[k]).size ≤ 1000 := by rw [bs_size]; exact hx
      clear hc
      by_cases h0 : k = 0
      · subst h0
        have HF : Hid (joinT (tx p) l = (acc ++ l[0]) ++ joinGo (tx p) false (l.drop (0 + 1))) := by
          unfold Hid; rw [hall.out]; simp only [decide_true]; rw [jg_first (tx p) l hlt]; simp
        clear hall
        have HA : Hid (bs acc ++ bs l[0] = bs (acc ++ l[0])) := bs_append _ _
        have hal : (acc ++ l[0]).length ≤ 2000 * (0 + 1) := by simp; omega
        generalize acc ++ l[0] = nx at *
        generalize bs l[0] = q at *
        generalize bs acc = q' at *
        simp at c0
        go_wp2
        go_roundw
        case rel => exact ⟨0 + 1, nx, by omega, hal, by go_num, by rw [HA.out], hbel, by rw [dz]; exact HF⟩
        case measure => simp [intOf] <;> omega
      · have HF : Hid (joinT (tx p) l = (acc ++ tx p ++ l[k]) ++ joinGo (tx p) false (l.drop (k + 1))) := by
          unfold Hid; rw [hall.out]; have e : decide (k = 0) = false := by simp [h0]
          rw [e, jg_next (tx p) l k hlt]; simp
        clear hall
        have HA : Hid (bs acc ++ p ++ bs l[k] = bs (acc ++ tx p ++ l[k])) := by unfold Hid; rw [← bs_append, ← bs_append, bs_tx]
        have hal : (acc ++ tx p ++ l[k]).length ≤ 2000 * (k + 1) := by simp [tx_length]; omega
        generalize acc ++ tx p ++ l[k] = nx at *
        generalize bs l[k] = q at *
        generalize bs acc = q' at *
        have hb3 : 0 < k := by omega
        go_wp2
        go_roundw
        case rel => exact ⟨k + 1, nx, by omega, hal, by go_num, by rw [HA.out], hbel, by rw [dz]; exact HF⟩
        case measure => simp [intOf] <;> omega
    · have HF : Hid (joinT (tx p) l = acc) := by unfold Hid; rw [hall.out, jg_end (tx p) l k hlt]; simp
      go_wp2
      go_ret
      exact ⟨ret_str (by rw [HF.out]), hbel⟩

end Hst
end Go.Proofs.YtecocheolbkneaaDoor
namespace Go.Proofs.YtecocheolbkneaaDoor
open Go.RowKit
namespace Hst
set_option maxRecDepth 100000

theorem empty_yes (l : Tx) (h : l = []) : (bs l).toList.isEmpty = true := by rw [tx_toList, tx_bs, h]; rfl
theorem empty_no (l : Tx) (h : l ≠ []) : (bs l).toList.isEmpty = false := by rw [tx_toList, tx_bs]; simp [h]

set_option maxHeartbeats 1000000 in
theorem isCond_any (s : ByteArray) (w : World) :
    Calls Tryd.prog 63 #[.string s] w fun e w' => e = .returned (.bool (isCondR (tx s))) ∧ Below w.heap.size w w' := by
  have HS := hid (fun w => signed_any s w)
  have HV := hid (fun w => version_any (bs (signedR (tx s)).2) w)
  rw [tx_bs] at HV
  have HF : Hid (isCondR (tx s) = (decide (tx s = [42]) || (!(signedR (tx s)).1.isEmpty && (versionR (signedR (tx s)).2).2))) := rfl
  generalize hsg : (signedR (tx s)).1 = sg at *
  generalize hrs : (signedR (tx s)).2 = rs at *
  clear hsg hrs
  generalize hvr : versionR rs = vr at *
  clear hvr
  obtain ⟨⟨a, b, c⟩, ok⟩ := vr
  by_cases h42 : tx s = [42]
  · have HF : Hid (isCondR (tx s) = true) := by unfold Hid; rw [HF.out]; simp [h42]
    have hb := str_eq s _ h42
    clear h42
    go_enter Tryd.func63, Tryd.ntmps63
    go_wp2_with fail
    refine (HS.out _).mono ?_
    rintro e w1 ⟨rfl, hb1⟩
    go_wp2_with fail
    refine (HV.out _).mono ?_
    rintro e w2 ⟨rfl, hb2⟩
    have HB := hid (hb1.trans (hb2.mono hb1.size))
    have hz := HB.out.size
    clear hb1 hb2
    go_wp2
    go_ret
    exact ⟨ret_bool (by rw [HF.out]), HB.out.alloc hz _⟩
  · have hb := str_ne s _ h42
    by_cases hsg : sg = []
    · have HF : Hid (isCondR (tx s) = false) := by unfold Hid; rw [HF.out]; simp [h42, hsg]
      have he := empty_yes sg hsg
      clear h42 hsg
      generalize bs sg = q at *
      go_enter Tryd.func63, Tryd.ntmps63
      go_wp2_with fail
      refine (HS.out _).mono ?_
      rintro e w1 ⟨rfl, hb1⟩
      go_wp2_with fail
      refine (HV.out _).mono ?_
      rintro e w2 ⟨rfl, hb2⟩
      have HB := hid (hb1.trans (hb2.mono hb1.size))
      have hz := HB.out.size
      clear hb1 hb2
      go_wp2
      go_ret
      exact ⟨ret_bool (by rw [HF.out]), HB.out.alloc hz _⟩
    · have HF : Hid (isCondR (tx s) = ok) := by unfold Hid; rw [HF.out]; simp [h42, hsg]
      have he := empty_no sg hsg
      clear h42 hsg
      generalize bs sg = q at *
      go_enter Tryd.func63, Tryd.ntmps63
      go_wp2_with fail
      refine (HS.out _).mono ?_
      rintro e w1 ⟨rfl, hb1⟩
      go_wp2_with fail
      refine (HV.out _).mono ?_
      rintro e w2 ⟨rfl, hb2⟩
      have HB := hid (hb1.trans (hb2.mono hb1.size))
      have hz := HB.out.size
      clear hb1 hb2
      go_wp2
      go_ret
      exact ⟨ret_bool (by rw [HF.out]), HB.out.alloc hz _⟩

end Hst
end Go.Proofs.YtecocheolbkneaaDoor
namespace Go.Proofs.YtecocheolbkneaaDoor
open Go.RowKit
namespace Hst
set_option maxRecDepth 100000

theorem bse (l m : Tx) (h : l = m) : ((bs l).toList == m) = true := by rw [tx_toList, tx_bs, h]; simp
theorem bsn (l m : Tx) (h : l ≠ m) : ((bs l).toList == m) = false := by rw [tx_toList, tx_bs]; simp [h]

theorem eq3_t {a b c x y z : Int} (h1 : a = x) (h2 : b = y) (h3 : c = z) : eq3 ⟨a, b, c⟩ ⟨x, y, z⟩ = true := by simp [eq3, h1, h2, h3]
theorem eq3_f1 {a b c x y z : Int} (h1 : ¬ a = x) : eq3 ⟨a, b, c⟩ ⟨x, y, z⟩ = false := by simp [eq3, h1]
theorem eq3_f2 {a b c x y z : Int} (h1 : ¬ b = y) : eq3 ⟨a, b, c⟩ ⟨x, y, z⟩ = false := by simp [eq3, h1]
theorem eq3_f3 {a b c x y z : Int} (h1 : ¬ c = z) : eq3 ⟨a, b, c⟩ ⟨x, y, z⟩ = false := by simp [eq3, h1]
theorem hs_eq {a b c x y z : Int} : holdsS [61] ⟨x, y, z⟩ ⟨a, b, c⟩ = eq3 ⟨a, b, c⟩ ⟨x, y, z⟩ := by simp [holdsS]
theorem hs_gt {a b c x y z : Int} : holdsS [62] ⟨x, y, z⟩ ⟨a, b, c⟩ = (!belowB a b c x y z && !eq3 ⟨a, b, c⟩ ⟨x, y, z⟩) := by simp [holdsS]
theorem hs_ge {a b c x y z : Int} : holdsS [62, 61] ⟨x, y, z⟩ ⟨a, b, c⟩ = !belowB a b c x y z := by simp [holdsS]
theorem hs_lt {a b c x y z : Int} : holdsS [60] ⟨x, y, z⟩ ⟨a, b, c⟩ = belowB a b c x y z := by simp [holdsS]
theorem hs_le {a b c x y z : Int} : holdsS [60, 61] ⟨x, y, z⟩ ⟨a, b, c⟩ = (belowB a b c x y z || eq3 ⟨a, b, c⟩ ⟨x, y, z⟩) := by simp [holdsS]
theorem hs_ti {a b c x y z : Int} : holdsS [126] ⟨x, y, z⟩ ⟨a, b, c⟩ = (!belowB a b c x y z && decide (a = x) && decide (b = y)) := by simp [holdsS]
theorem hs_c1 {a b c x y z : Int} (h : ¬ x = 0) : holdsS [94] ⟨x, y, z⟩ ⟨a, b, c⟩ = (!belowB a b c x y z && decide (a = x)) := by simp [holdsS, h]
theorem hs_c2 {a b c x y z : Int} (h : x = 0) (h' : ¬ y = 0) : holdsS [94] ⟨x, y, z⟩ ⟨a, b, c⟩ = (!belowB a b c x y z && decide (a = 0) && decide (b = y)) := by simp [holdsS, h, h']
theorem hs_c3 {a b c x y z : Int} (h : x = 0) (h' : y = 0) : holdsS [94] ⟨x, y, z⟩ ⟨a, b, c⟩ = eq3 ⟨a, b, c⟩ ⟨x, y, z⟩ := by simp [holdsS, h, h']
theorem hs_no {sg : Tx} (k1 : ¬ sg = [61]) (k2 : ¬ sg = [62]) (k3 : ¬ sg = [62, 61]) (k4 : ¬ sg = [60]) (k5 : ¬ sg = [60, 61]) (k6 : ¬ sg = [126]) (k7 : ¬ sg = [94]) (w v : V3) : holdsS sg w v = true := by simp [holdsS, k1, k2, k3, k4, k5, k6, k7]

set_option maxHeartbeats 8000000 in
theorem holds_any (s : ByteArray) (a b c : Int) (w : World) :
    Calls Tryd.prog 67 #[.string s, verV a b c] w fun e w' => e = .returned (.bool (holdsR (tx s) ⟨a, b, c⟩)) ∧ Below w.heap.size w w' := by
  have HS := hid (fun w => signed_any s w)
  have HV := hid (fun w => version_any (bs (signedR (tx s)).2) w)
  rw [tx_bs] at HV
  have HF : Hid (holdsR (tx s) ⟨a, b, c⟩ = holdsS (signedR (tx s)).1 (versionR (signedR (tx s)).2).1 ⟨a, b, c⟩) := rfl
  generalize hsg : (signedR (tx s)).1 = sg at *
  generalize hrs : (signedR (tx s)).2 = rs at *
  clear hsg hrs
  generalize hvr : versionR rs = vr at *
  clear hvr
  obtain ⟨⟨x, y, z⟩, ok⟩ := vr
  go_enter Tryd.func67, Tryd.ntmps67
  go_wp2_with fail
  refine (HS.out _).mono ?_
  rintro e w1 ⟨rfl, hb1⟩
  go_wp2_with fail
  refine (HV.out _).mono ?_
  rintro e w2 ⟨rfl, hb2⟩
  have hb12 := hb1.trans (hb2.mono hb1.size)
  obtain ⟨hcc, hff⟩ := bcell hb12
  have hz := hb12.size
  simp at hcc hz
  have c0 := hcc w.heap.size 0 (by omega)
  have c1 := hcc w.heap.size 1 (by omega)
  have c2 := hcc w.heap.size 2 (by omega)
  simp at c0 c1 c2
  have hwz : w.heap.size < w2.heap.size := by omega
  have HB := hid (((Below.refl _ _).alloc (Nat.le_refl _) _).trans (hb12.mono (by simp)) : Below w.heap.size w w2)
  clear hb1 hb2 hcc hff hb12
  go_wp2_with fail
  refine (below_any _ _ _ _ _ _ _).mono ?_
  rintro e w3 ⟨rfl, hb3⟩
  obtain ⟨hcc, hff⟩ := bcell hb3
  have hz3 := hb3.size
  simp at hcc hz3
  have d0 := (hcc w.heap.size 0 (by omega)).trans ((World.cell?_alloc_past _ _ _ hwz).trans c0)
  have d1 := (hcc w.heap.size 1 (by omega)).trans ((World.cell?_alloc_past _ _ _ hwz).trans c1)
  have d2 := (hcc w.heap.size 2 (by omega)).trans ((World.cell?_alloc_past _ _ _ hwz).trans c2)
  have e0 := hcc w2.heap.size 0 (by omega)
  have e1 := hcc w2.heap.size 1 (by omega)
  have e2 := hcc w2.heap.size 2 (by omega)
  simp at e0 e1 e2
  have HB3 := hid ((HB.out.alloc (by omega) _).trans (hb3.mono (by simp; omega)) : Below w.heap.size w w3)
  generalize hlow : belowB a b c x y z = low at *
  have HLOW := hid hlow
  clear hb3 hcc hff c0 c1 c2 hlow
  by_cases k1 : sg = [61]
  · have q1 := bse sg _ k1
    have K := hid k1
    clear k1
    generalize bs sg = q at *
    by_cases pa : a = x
    · have bpa : (a == x) = true := by simp [pa]
      have Ppa := hid pa
      clear pa
      by_cases pb : b = y
      · have bpb : (b == y) = true := by simp [pb]
        have Ppb := hid pb
        clear pb
        by_cases pc : c = z
        · have bpc : (c == z) = true := by simp [pc]
          have Ppc := hid pc
          clear pc
          go_wp2
          go_ret
          exact ⟨ret_bool (by rw [HF.out, K.out, hs_eq, eq3_t Ppa.out Ppb.out Ppc.out] <;> rfl), HB3.out⟩
        · have bpc : (c == z) = false := by simp [pc]
          have Ppc := hid pc
          clear pc
          go_wp2
          go_ret
          exact ⟨ret_bool (by rw [HF.out, K.out, hs_eq, eq3_f3 Ppc.out] <;> rfl), HB3.out⟩
      · have bpb : (b == y) = false := by simp [pb]
        have Ppb := hid pb
        clear pb
        go_wp2
        go_ret
        exact ⟨ret_bool (by rw [HF.out, K.out, hs_eq, eq3_f2 Ppb.out] <;> rfl), HB3.out⟩
    · have bpa : (a == x) = false := by simp [pa]
      have Ppa := hid pa
      clear pa
      go_wp2
      go_ret
      exact ⟨ret_bool (by rw [HF.out, K.out, hs_eq, eq3_f1 Ppa.out] <;> rfl), HB3.out⟩
  have q1 := bsn sg _ k1
  by_cases k2 : sg = [62]
  · have q2 := bse sg _ k2
    have K := hid k2
    clear k1 k2
    generalize bs sg = q at *
    cases low
    · skip
      by_cases pa : a = x
      · have bpa : (a == x) = true := by simp [pa]
        have Ppa := hid pa
        clear pa
        by_cases pb : b = y
        · have bpb : (b == y) = true := by simp [pb]
          have Ppb := hid pb
          clear pb
          by_cases pc : c = z
          · have bpc : (c == z) = true := by simp [pc]
            have Ppc := hid pc
            clear pc
            go_wp2
            go_ret
            exact ⟨ret_bool (by rw [HF.out, K.out, hs_gt, HLOW.out, eq3_t Ppa.out Ppb.out Ppc.out] <;> rfl), HB3.out⟩
          · have bpc : (c == z) = false := by simp [pc]
            have Ppc := hid pc
            clear pc
            go_wp2
            go_ret
            exact ⟨ret_bool (by rw [HF.out, K.out, hs_gt, HLOW.out, eq3_f3 Ppc.out] <;> rfl), HB3.out⟩
        · have bpb : (b == y) = false := by simp [pb]
          have Ppb := hid pb
          clear pb
          go_wp2
          go_ret
          exact ⟨ret_bool (by rw [HF.out, K.out, hs_gt, HLOW.out, eq3_f2 Ppb.out] <;> rfl), HB3.out⟩
      · have bpa : (a == x) = false := by simp [pa]
        have Ppa := hid pa
        clear pa
        go_wp2
        go_ret
        exact ⟨ret_bool (by rw [HF.out, K.out, hs_gt, HLOW.out, eq3_f1 Ppa.out] <;> rfl), HB3.out⟩
    · skip
      go_wp2
      go_ret
      exact ⟨ret_bool (by rw [HF.out, K.out, hs_gt, HLOW.out] <;> rfl), HB3.out⟩
  have q2 := bsn sg _ k2
  by_cases k3 : sg = [62, 61]
  · have q3 := bse sg _ k3
    have K := hid k3
    clear k1 k2 k3
    generalize bs sg = q at *
    go_wp2
    go_ret
    exact ⟨ret_bool (by rw [HF.out, K.out, hs_ge, HLOW.out] <;> rfl), HB3.out⟩
  have q3 := bsn sg _ k3
  by_cases k4 : sg = [60]
  · have q4 := bse sg _ k4
    have K := hid k4
    clear k1 k2 k3 k4
    generalize bs sg = q at *
    go_wp2
    go_ret
    exact ⟨ret_bool (by rw [HF.out, K.out, hs_lt, HLOW.out] <;> rfl), HB3.out⟩
  have q4 := bsn sg _ k4
  by_cases k5 : sg = [60, 61]
  · have q5 := bse sg _ k5
    have K := hid k5
    clear k1 k2 k3 k4 k5
    generalize bs sg = q at *
    cases low
    · skip
      by_cases pa : a = x
      · have bpa : (a == x) = true := by simp [pa]
        have Ppa := hid pa
        clear pa
        by_cases pb : b = y
        · have bpb : (b == y) = true := by simp [pb]
          have Ppb := hid pb
          clear pb
          by_cases pc : c = z
          · have bpc : (c == z) = true := by simp [pc]
            have Ppc := hid pc
            clear pc
            go_wp2
            go_ret
            exact ⟨ret_bool (by rw [HF.out, K.out, hs_le, HLOW.out, eq3_t Ppa.out Ppb.out Ppc.out] <;> rfl), HB3.out⟩
          · have bpc : (c == z) = false := by simp [pc]
            have Ppc := hid pc
            clear pc
            go_wp2
            go_ret
            exact ⟨ret_bool (by rw [HF.out, K.out, hs_le, HLOW.out, eq3_f3 Ppc.out] <;> rfl), HB3.out⟩
        · have bpb : (b == y) = false := by simp [pb]
          have Ppb := hid pb
          clear pb
          go_wp2
          go_ret
          exact ⟨ret_bool (by rw [HF.out, K.out, hs_le, HLOW.out, eq3_f2 Ppb.out] <;> rfl), HB3.out⟩
      · have bpa : (a == x) = false := by simp [pa]
        have Ppa := hid pa
        clear pa
        go_wp2
        go_ret
        exact ⟨ret_bool (by rw [HF.out, K.out, hs_le, HLOW.out, eq3_f1 Ppa.out] <;> rfl), HB3.out⟩
    · skip
      go_wp2
      go_ret
      exact ⟨ret_bool (by rw [HF.out, K.out, hs_le, HLOW.out] <;> rfl), HB3.out⟩
  have q5 := bsn sg _ k5
  by_cases k6 : sg = [126]
  · have q6 := bse sg _ k6
    have K := hid k6
    clear k1 k2 k3 k4 k5 k6
    generalize bs sg = q at *
    cases low
    · skip
      by_cases pa : a = x
      · have bpa : (a == x) = true := by simp [pa]
        have Ppa := hid pa
        clear pa
        by_cases pb : b = y
        · have bpb : (b == y) = true := by simp [pb]
          have Ppb := hid pb
          clear pb
          go_wp2
          go_ret
          exact ⟨ret_bool (by rw [HF.out, K.out, hs_ti, HLOW.out, decide_eq_true Ppa.out, decide_eq_true Ppb.out] <;> rfl), HB3.out⟩
        · have bpb : (b == y) = false := by simp [pb]
          have Ppb := hid pb
          clear pb
          go_wp2
          go_ret
          exact ⟨ret_bool (by rw [HF.out, K.out, hs_ti, HLOW.out, decide_eq_true Ppa.out, decide_eq_false Ppb.out] <;> rfl), HB3.out⟩
      · have bpa : (a == x) = false := by simp [pa]
        have Ppa := hid pa
        clear pa
        go_wp2
        go_ret
        exact ⟨ret_bool (by rw [HF.out, K.out, hs_ti, HLOW.out, decide_eq_false Ppa.out] <;> rfl), HB3.out⟩
    · skip
      go_wp2
      go_ret
      exact ⟨ret_bool (by rw [HF.out, K.out, hs_ti, HLOW.out] <;> rfl), HB3.out⟩
  have q6 := bsn sg _ k6
  by_cases k7 : sg = [94]
  · have q7 := bse sg _ k7
    have K := hid k7
    clear k1 k2 k3 k4 k5 k6 k7
    generalize bs sg = q at *
    by_cases px : x = 0
    · have bpx : (x != 0) = false := by simp [px]
      have Ppx := hid px
      clear px
      by_cases py : y = 0
      · have bpy : (y != 0) = false := by simp [py]
        have Ppy := hid py
        clear py
        by_cases pa : a = x
        · have bpa : (a == x) = true := by simp [pa]
          have Ppa := hid pa
          clear pa
          by_cases pb : b = y
          · have bpb : (b == y) = true := by simp [pb]
            have Ppb := hid pb
            clear pb
            by_cases pc : c = z
            · have bpc : (c == z) = true := by simp [pc]
              have Ppc := hid pc
              clear pc
              go_wp2
              go_ret
              exact ⟨ret_bool (by rw [HF.out, K.out, hs_c3 Ppx.out Ppy.out, eq3_t Ppa.out Ppb.out Ppc.out] <;> rfl), HB3.out⟩
            · have bpc : (c == z) = false := by simp [pc]
              have Ppc := hid pc
              clear pc
              go_wp2
              go_ret
              exact ⟨ret_bool (by rw [HF.out, K.out, hs_c3 Ppx.out Ppy.out, eq3_f3 Ppc.out] <;> rfl), HB3.out⟩
          · have bpb : (b == y) = false := by simp [pb]
            have Ppb := hid pb
            clear pb
            go_wp2
            go_ret
            exact ⟨ret_bool (by rw [HF.out, K.out, hs_c3 Ppx.out Ppy.out, eq3_f2 Ppb.out] <;> rfl), HB3.out⟩
        · have bpa : (a == x) = false := by simp [pa]
          have Ppa := hid pa
          clear pa
          go_wp2
          go_ret
          exact ⟨ret_bool (by rw [HF.out, K.out, hs_c3 Ppx.out Ppy.out, eq3_f1 Ppa.out] <;> rfl), HB3.out⟩
      · have bpy : (y != 0) = true := by simp [py]
        have Ppy := hid py
        clear py
        cases low
        · skip
          by_cases pa : a = 0
          · have bpa : (a == 0) = true := by simp [pa]
            have Ppa := hid pa
            clear pa
            by_cases pb : b = y
            · have bpb : (b == y) = true := by simp [pb]
              have Ppb := hid pb
              clear pb
              go_wp2
              go_ret
              exact ⟨ret_bool (by rw [HF.out, K.out, hs_c2 Ppx.out Ppy.out, HLOW.out, decide_eq_true Ppa.out, decide_eq_true Ppb.out] <;> rfl), HB3.out⟩
            · have bpb : (b == y) = false := by simp [pb]
              have Ppb := hid pb
              clear pb
              go_wp2
              go_ret
              exact ⟨ret_bool (by rw [HF.out, K.out, hs_c2 Ppx.out Ppy.out, HLOW.out, decide_eq_true Ppa.out, decide_eq_false Ppb.out] <;> rfl), HB3.out⟩
          · have bpa : (a == 0) = false := by simp [pa]
            have Ppa := hid pa
            clear pa
            go_wp2
            go_ret
            exact ⟨ret_bool (by rw [HF.out, K.out, hs_c2 Ppx.out Ppy.out, HLOW.out, decide_eq_false Ppa.out] <;> rfl), HB3.out⟩
        · skip
          go_wp2
          go_ret
          exact ⟨ret_bool (by rw [HF.out, K.out, hs_c2 Ppx.out Ppy.out, HLOW.out] <;> rfl), HB3.out⟩
    · have bpx : (x != 0) = true := by simp [px]
      have Ppx := hid px
      clear px
      cases low
      · skip
        by_cases pa : a = x
        · have bpa : (a == x) = true := by simp [pa]
          have Ppa := hid pa
          clear pa
          go_wp2
          go_ret
          exact ⟨ret_bool (by rw [HF.out, K.out, hs_c1 Ppx.out, HLOW.out, decide_eq_true Ppa.out] <;> rfl), HB3.out⟩
        · have bpa : (a == x) = false := by simp [pa]
          have Ppa := hid pa
          clear pa
          go_wp2
          go_ret
          exact ⟨ret_bool (by rw [HF.out, K.out, hs_c1 Ppx.out, HLOW.out, decide_eq_false Ppa.out] <;> rfl), HB3.out⟩
      · skip
        go_wp2
        go_ret
        exact ⟨ret_bool (by rw [HF.out, K.out, hs_c1 Ppx.out, HLOW.out] <;> rfl), HB3.out⟩
  have q7 := bsn sg _ k7
  have K := hid (hs_no k1 k2 k3 k4 k5 k6 k7 ⟨x, y, z⟩ ⟨a, b, c⟩)
  clear k1 k2 k3 k4 k5 k6 k7
  generalize bs sg = q at *
  go_wp2
  go_ret
  exact ⟨ret_bool (by rw [HF.out, K.out]), HB3.out⟩

end Hst
end Go.Proofs.YtecocheolbkneaaDoor
