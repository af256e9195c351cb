/- Pneedb, Treea, Pneedc, Rcond -/
import Derived.Test.YtecocheolbkneaaGreatDoorW08
import Derived.Test.YtecocheolbkneaaGreatDoorW01
import Derived.Test.YtecocheolbkneaaGreatDoorW03
namespace Go.Proofs.YtecocheolbkneaaGreatDoor
open Go.RowKit
namespace Hst
set_option maxRecDepth 100000

theorem grow_far {w w1 : World} {v : Value} (hg : w.grownBy w1 v.ownBlock) {b : Nat} (hb : b < w.heap.size) (hne : ∀ k, v.ownBlock = some k → k ≠ b) : ∀ o, w1.cell? ⟨b, o, none⟩ = w.cell? ⟨b, o, none⟩ := fun o =>
  hg.cell_far ⟨b, o, none⟩ hb (by intro h; exact hne _ h.symm rfl)
theorem ig_put {α : Type} (key : α → Tx) (x : α) (l : List α) (k : Nat) (hk : k < l.length) (h : less (key x) (key l[k]) = true) : insG key x false (l.drop k) = [x, l[k]] ++ insG key x true (l.drop (k + 1)) := by
  rw [List.drop_eq_getElem_cons hk]; simp [insG, h]
theorem ig_no {α : Type} (key : α → Tx) (x : α) (l : List α) (k : Nat) (hk : k < l.length) (h : less (key x) (key l[k]) = false) : insG key x false (l.drop k) = [l[k]] ++ insG key x false (l.drop (k + 1)) := by
  rw [List.drop_eq_getElem_cons hk]; simp [insG, h]
theorem ig_on {α : Type} (key : α → Tx) (x : α) (l : List α) (k : Nat) (hk : k < l.length) : insG key x true (l.drop k) = [l[k]] ++ insG key x true (l.drop (k + 1)) := by
  rw [List.drop_eq_getElem_cons hk]; simp [insG]
theorem ig_end {α : Type} (key : α → Tx) (x : α) (l : List α) (k : Nat) (hk : ¬ k < l.length) (b : Bool) : insG key x b (l.drop k) = if b = true then [] else [x] := by
  rw [List.drop_of_length_le (by omega)]; rfl
theorem insG_mem {α : Type} (key : α → Tx) (x : α) : ∀ (l : List α) (b : Bool) (y : α), y ∈ insG key x b l → y = x ∨ y ∈ l
  | [], b, y, h => by cases b <;> simp [insG] at h; exact .inl h
  | z :: r, b, y, h => by
    simp only [insG] at h
    split at h
    · simp only [List.mem_cons] at h
      rcases h with h | h | h
      · exact .inl h
      · exact .inr (by simp [h])
      · rcases insG_mem key x r true y h with h | h
        · exact .inl h
        · exact .inr (by simp [h])
    · simp only [List.mem_cons] at h
      rcases h with h | h
      · exact .inr (by simp [h])
      · rcases insG_mem key x r b y h with h | h
        · exact .inl h
        · exact .inr (by simp [h])

set_option maxHeartbeats 2000000 in
theorem withN_any (v : Value) (l : List NeedX) (x : NeedX) (w : World) (hl : NeedsIn w v l) (hx : NeedIn w x) (hn : l.length ≤ 100000) :
    Calls Tryz.prog 67 #[v, needXV x] w fun e w' => ∃ v', e = .returned v' ∧ NeedsIn w' v' (withN l x) ∧ Below w.heap.size w w' := by
  obtain ⟨i0, hi, hz0, hz1, hz2⟩ := info_parts info_needX
  obtain ⟨a, cap, rfl⟩ := hl.1.form
  obtain ⟨xa, xc, hxf⟩ := hx.form
  have HL := hid' hl
  have HX := hid' hx
  obtain ⟨xn, xsp, xs, xt⟩ := x
  simp only at hxf
  subst hxf
  clear hl hx
  have HP : Hid (withN l ⟨xn, .slice xa xs.length xc, xs, xt⟩ = [] ++ insG (fun n => n.name) ⟨xn, .slice xa xs.length xc, xs, xt⟩ false (l.drop 0)) := rfl
  go_enter Tryz.func67, Tryz.ntmps67
  go_wp2
  have hbw := (Below.refl w.heap.size w).alloc (Nat.le_refl _) (.cells #[.string (bs xn), .slice xa xs.length xc, .string (bs xt)] 105)
  have e0 : (w.alloc (.cells #[.string (bs xn), .slice xa xs.length xc, .string (bs xt)] 105)).cell? ⟨w.heap.size, 0, none⟩ = some (.string (bs xn)) := by simp
  have e1 : (w.alloc (.cells #[.string (bs xn), .slice xa xs.length xc, .string (bs xt)] 105)).cell? ⟨w.heap.size, 1, none⟩ = some (.slice xa xs.length xc) := by simp
  have e2 : (w.alloc (.cells #[.string (bs xn), .slice xa xs.length xc, .string (bs xt)] 105)).cell? ⟨w.heap.size, 2, none⟩ = some (.string (bs xt)) := by simp
  have hsz : (w.alloc (.cells #[.string (bs xn), .slice xa xs.length xc, .string (bs xt)] 105)).heap.size = w.heap.size + 1 := by simp
  generalize w.alloc (.cells #[.string (bs xn), .slice xa xs.length xc, .string (bs xt)] 105) = W at *
  have HW := hid' hbw
  have HL1 := hid' (HL.out.below hbw)
  have HS := hid' hsz
  clear hbw
  generalize hx0 : (⟨xn, .slice xa xs.length xc, xs, xt⟩ : NeedX) = x0 at *
  have HX0 := hid' hx0
  clear hx0
  go_loopw [5, 6, 11] (fun v b i wr => ∃ (k : Nat) (pl : Bool) (acc : List NeedX), k ≤ l.length ∧ acc.length ≤ 2 * k ∧ b = .bool pl ∧ i = .int .i64 k ∧ wr.ownsRow W.heap.size 105 3 v acc.length (acc.flatMap needXC) ∧ Below W.heap.size W wr ∧ Hid (withN l x0 = acc ++ insG (fun n => n.name) x0 pl (l.drop k))) (fun _ _ i _ => l.length - (intOf i).toNat)
  case atStart => exact ⟨0, false, [], Nat.zero_le _, by simp, rfl, rfl, World.ownsRow_nil _ _ _ _, Below.refl _ _, HP⟩
  case round =>
    obtain ⟨k, pl, acc, hk, hacc, rfl, rfl, hown, hbel, hall⟩ := hrel
    have hz := hbel.size
    have hwz : w.heap.size < W.heap.size := by have := HS.out; omega
    have hwr : w.heap.size < wr.heap.size := by omega
    obtain ⟨hcc, -⟩ := bcell hbel
    have d0 := (hcc w.heap.size 0 hwz).trans e0
    have d1 := (hcc w.heap.size 1 hwz).trans e1
    have d2 := (hcc w.heap.size 2 hwz).trans e2
    clear hcc HP
    by_cases hlt : k < l.length
    · obtain ⟨g, o, cap', hv, hg, hc⟩ := (HL1.out.below hbel).1.needs hlt
      simp at hv
      obtain ⟨rfl, rfl⟩ := hv
      obtain ⟨c0, c1, c2⟩ := hc k hlt
      obtain ⟨sa, sc, hsp⟩ := (HL.out.2 l[k] (List.getElem_mem hlt)).form
      clear hc
      cases pl
      · by_cases hlo : less x0.name l[k].name = true
        · have HF : Hid (withN l x0 = ((acc ++ [x0]) ++ [l[k]]) ++ insG (fun n => n.name) x0 true (l.drop (k + 1))) := by unfold Hid; rw [hall.out, ig_put _ x0 l k hlt hlo]; simp
          have hb : Op.bytesLess (bs xn).toList (bs l[k].name).toList = true := by rw [tx_toList, tx_toList, tx_bs, tx_bs]; rw [← HX0.out] at hlo; exact hlo
          clear hlo hall
          generalize l[k] = y at *
          obtain ⟨yn, ysp, ys, yt⟩ := y
          simp only at hsp c0 c1 c2 hb
          subst hsp
          go_wp2_with (first
            | (at_builtin; refine wpList_append_lies _ rfl _ _ 70 rfl W.heap.size 105 i0 (.agg #[.string ByteArray.empty, .slice none 0 0, .string ByteArray.empty]) 3 56 Tryz.underlying70 hi hz0 hz1 hz2 rfl (by omega) _ _ _ rfl ((hown.alloc _).alloc _) ⟨wr.heap.size + 1, 0, none⟩ 1 1 [.string (bs xn), .slice xa xs.length xc, .string (bs xt)] rfl rfl (news_3b _ _ _ _ _ _) (needX_one ⟨xn, _, xs, xt⟩ rfl) (by omega) (by unfold maxLen; omega) (by omega) (by simp; omega) (wr.heap.size + 2) (by simp) ?_; intro g1 cap1 w1 hown1 hgrow hat hlt1; have R := step_gen2 needXC (x := ⟨xn, .slice xa xs.length xc, xs, xt⟩) rfl hown hbel (((Below.refl _ _).alloc (Nat.le_refl _) _).alloc (by simp) _) hown1 hgrow; have hfar := grow_far hgrow (b := wr.heap.size) (by simp <;> omega) (fun q hq => by have := (hown.lt q hq).2; omega); have f0 := hfar 0; have f1 := hfar 1; have f2 := hfar 2; simp at f0 f1 f2; have hw1 : wr.heap.size < w1.heap.size := (by have := hgrow.size; simp at this; omega); clear hown1 hgrow hown hfar; obtain ⟨hown2, hbel2⟩ := R; have hzz := hbel2.size; have hlen2 : (acc ++ [(⟨xn, .slice xa xs.length xc, xs, xt⟩ : NeedX)]).length = acc.length + 1 := List.length_append)
            | (at_builtin; refine wpList_append_lies _ rfl _ _ 70 rfl W.heap.size 105 i0 (.agg #[.string ByteArray.empty, .slice none 0 0, .string ByteArray.empty]) 3 56 Tryz.underlying70 hi hz0 hz1 hz2 rfl (by omega) _ _ _ rfl (hown2.alloc _) ⟨w1.heap.size, 0, none⟩ 1 1 [.string (bs yn), .slice sa ys.length sc, .string (bs yt)] rfl rfl (news_3 _ _ _ _ _) (needX_one ⟨yn, _, ys, yt⟩ rfl) (by omega) (by unfold maxLen; omega) (by omega) (by simp; omega) (w1.heap.size + 1) (by simp) ?_; intro g3 cap3 w3 hown3 hgrow3 hat3 hlt3))
          have R := step_gen2 needXC (x := ⟨yn, .slice sa ys.length sc, ys, yt⟩) rfl hown2 hbel2 ((Below.refl _ _).alloc (Nat.le_refl _) _) hown3 hgrow3
          clear hown3 hgrow3 hown2
          rw [← HX0.out] at HF
          go_wp2
          go_roundw
          case rel => exact ⟨k + 1, true, acc ++ [⟨xn, .slice xa xs.length xc, xs, xt⟩] ++ [⟨yn, .slice sa ys.length sc, ys, yt⟩], by omega, by simp; omega, rfl, by go_num, by have h := R.1; rw [hlen2] at h; exact h, R.2, by rw [← HX0.out]; exact HF⟩
          case measure => simp [intOf] <;> omega
        · have hlo : less x0.name l[k].name = false := by simpa using hlo
          have HF : Hid (withN l x0 = (acc ++ [l[k]]) ++ insG (fun n => n.name) x0 false (l.drop (k + 1))) := by unfold Hid; rw [hall.out, ig_no _ x0 l k hlt hlo]; simp
          have hb : Op.bytesLess (bs xn).toList (bs l[k].name).toList = false := by rw [tx_toList, tx_toList, tx_bs, tx_bs]; rw [← HX0.out] at hlo; exact hlo
          clear hlo hall
          generalize l[k] = y at *
          obtain ⟨yn, ysp, ys, yt⟩ := y
          simp only at hsp c0 c1 c2 hb
          subst hsp
          go_wp2_with (first | (at_builtin; refine wpList_append_lies _ rfl _ _ 70 rfl W.heap.size 105 i0 (.agg #[.string ByteArray.empty, .slice none 0 0, .string ByteArray.empty]) 3 56 Tryz.underlying70 hi hz0 hz1 hz2 rfl (by omega) _ _ _ rfl ((hown.alloc _).alloc _) ⟨wr.heap.size + 1, 0, none⟩ 1 1 [.string (bs yn), .slice sa ys.length sc, .string (bs yt)] rfl rfl (news_3b _ _ _ _ _ _) (needX_one ⟨yn, _, ys, yt⟩ rfl) (by omega) (by unfold maxLen; omega) (by omega) (by simp; omega) (wr.heap.size + 2) (by simp) ?_; intro g1 cap1 w1 hown1 hgrow hat hlt1))
          have R := step_gen2 needXC (x := ⟨yn, .slice sa ys.length sc, ys, yt⟩) rfl hown hbel (((Below.refl _ _).alloc (Nat.le_refl _) _).alloc (by simp) _) hown1 hgrow
          clear hown1 hgrow hown
          go_wp2
          go_roundw
          case rel => exact ⟨k + 1, false, _, by omega, by simp; omega, rfl, by go_num, R.1, R.2, HF⟩
          case measure => simp [intOf] <;> omega
      · have HF : Hid (withN l x0 = (acc ++ [l[k]]) ++ insG (fun n => n.name) x0 true (l.drop (k + 1))) := by unfold Hid; rw [hall.out, ig_on _ x0 l k hlt]; simp
        clear hall
        generalize l[k] = y at *
        obtain ⟨yn, ysp, ys, yt⟩ := y
        simp only at hsp c0 c1 c2
        subst hsp
        go_wp2_with (first | (at_builtin; refine wpList_append_lies _ rfl _ _ 70 rfl W.heap.size 105 i0 (.agg #[.string ByteArray.empty, .slice none 0 0, .string ByteArray.empty]) 3 56 Tryz.underlying70 hi hz0 hz1 hz2 rfl (by omega) _ _ _ rfl ((hown.alloc _).alloc _) ⟨wr.heap.size + 1, 0, none⟩ 1 1 [.string (bs yn), .slice sa ys.length sc, .string (bs yt)] rfl rfl (news_3b _ _ _ _ _ _) (needX_one ⟨yn, _, ys, yt⟩ rfl) (by omega) (by unfold maxLen; omega) (by omega) (by simp; omega) (wr.heap.size + 2) (by simp) ?_; intro g1 cap1 w1 hown1 hgrow hat hlt1))
        have R := step_gen2 needXC (x := ⟨yn, .slice sa ys.length sc, ys, yt⟩) rfl hown hbel (((Below.refl _ _).alloc (Nat.le_refl _) _).alloc (by simp) _) hown1 hgrow
        clear hown1 hgrow hown
        go_wp2
        go_roundw
        case rel => exact ⟨k + 1, true, _, by omega, by simp; omega, rfl, by go_num, R.1, R.2, HF⟩
        case measure => simp [intOf] <;> omega
    · have hfin := ig_end (fun n : NeedX => n.name) x0 l k hlt pl
      have HM := hid' (insG_mem (fun n : NeedX => n.name) x0 l false)
      have HIN : ∀ (w' : World), Below w.heap.size w w' → ∀ n ∈ withN l x0, NeedIn w' n := by
        intro w' hb n hn
        rcases HM.out n hn with rfl | h
        · exact HX.out.below hb
        · exact (HL.out.2 n h).below hb
      have HI := hid' HIN
      clear HIN HM
      cases pl
      · have HF : Hid (withN l x0 = acc ++ [x0]) := by unfold Hid; rw [hall.out, hfin]; simp
        clear hall hfin
        go_wp2_with (first | (at_builtin; refine wpList_append_lies _ rfl _ _ 70 rfl W.heap.size 105 i0 (.agg #[.string ByteArray.empty, .slice none 0 0, .string ByteArray.empty]) 3 56 Tryz.underlying70 hi hz0 hz1 hz2 rfl (by omega) _ _ _ rfl (hown.alloc _) ⟨wr.heap.size, 0, none⟩ 1 1 [.string (bs xn), .slice xa xs.length xc, .string (bs xt)] rfl rfl (news_3 _ _ _ _ _) (needX_one ⟨xn, _, xs, xt⟩ rfl) (by omega) (by unfold maxLen; omega) (by omega) (by simp; omega) (wr.heap.size + 1) (by simp) ?_; intro g1 cap1 w1 hown1 hgrow hat hlt1))
        have R := step_gen2 needXC (x := ⟨xn, .slice xa xs.length xc, xs, xt⟩) rfl hown hbel ((Below.refl _ _).alloc (Nat.le_refl _) _) hown1 hgrow
        clear hown1 hgrow hown
        have HR := hid' R
        have HB := hid' (HW.out.trans (R.2.mono (by omega)))
        clear R hbel
        go_wp2
        go_ret
        refine ⟨_, rfl, ⟨?_, ?_⟩, HB.out⟩
        · rw [HX0.out, HF.out, ← HX0.out]
          exact RowX.of_own HR.out.1
        · rw [HX0.out]
          exact HI.out _ HB.out
      · have HF : Hid (withN l x0 = acc) := by unfold Hid; rw [hall.out, hfin]; simp
        have HR := hid' (And.intro hown hbel)
        have HB := hid' (HW.out.trans (hbel.mono (by omega)))
        clear hown hbel hall
        go_wp2
        go_ret
        refine ⟨_, rfl, ⟨?_, ?_⟩, HB.out⟩
        · rw [HX0.out, HF.out]
          exact RowX.of_own HR.out.1
        · rw [HX0.out]
          exact HI.out _ HB.out

end Hst
end Go.Proofs.YtecocheolbkneaaGreatDoor
namespace Go.Proofs.YtecocheolbkneaaGreatDoor
open Go.RowKit
namespace Hst
set_option maxRecDepth 100000

/-- A slice of packages. -/
def PacksR (w : World) (a : Option Addr) (n cap : Nat) (l : List PackD) : Prop := n = l.length ∧ RowR w a n cap 2 (l.flatMap packC)
theorem packC_len (p : PackD) : (packC p).length = 2 := rfl
theorem PacksR.below {w w' : World} {a : Option Addr} {n cap : Nat} {l : List PackD} (h : PacksR w a n cap l) (hb : Below w.heap.size w w') : PacksR w' a n cap l := ⟨h.1, h.2.below hb⟩
theorem PacksR.cells {w : World} {a : Option Addr} {n cap : Nat} {l : List PackD} (h : PacksR w a n cap l) {k : Nat} (hk : k < l.length) :
    ∃ g o, a = some ⟨g, o, none⟩ ∧ g < w.heap.size ∧ ∀ (j : Nat) (hj : j < l.length), w.cell? ⟨g, o + j * 2, none⟩ = some (.string (bs l[j].path)) ∧ w.cell? ⟨g, o + j * 2 + 1, none⟩ = some (.int .i64 l[j].of) := by
  obtain ⟨rfl, hr⟩ := h
  obtain ⟨g, o, ha, hg, hc⟩ := hr.at' (by omega)
  refine ⟨g, o, ha, hg, fun j hj => ⟨?_, ?_⟩⟩
  · have := hc (j * 2 + 0) (by omega)
    rw [flat_at packC 2 packC_len l j 0 hj (by omega)] at this
    exact this
  · have := hc (j * 2 + 1) (by omega)
    rw [flat_at packC 2 packC_len l j 1 hj (by omega)] at this
    exact this
/-- A slice of texts. -/
def StrsR (w : World) (a : Option Addr) (n cap : Nat) (l : List Tx) : Prop := n = l.length ∧ RowR w a n cap 1 (l.flatMap strC)
theorem strC_len (p : Tx) : (strC p).length = 1 := rfl
theorem StrsR.below {w w' : World} {a : Option Addr} {n cap : Nat} {l : List Tx} (h : StrsR w a n cap l) (hb : Below w.heap.size w w') : StrsR w' a n cap l := ⟨h.1, h.2.below hb⟩
theorem StrsR.cells {w : World} {a : Option Addr} {n cap : Nat} {l : List Tx} (h : StrsR w a n cap l) {k : Nat} (hk : k < l.length) :
    ∃ g o, a = some ⟨g, o, none⟩ ∧ g < w.heap.size ∧ ∀ (j : Nat) (hj : j < l.length), w.cell? ⟨g, o + j, none⟩ = some (.string (bs l[j])) := by
  obtain ⟨rfl, hr⟩ := h
  obtain ⟨g, o, ha, hg, hc⟩ := hr.at' (by omega)
  refine ⟨g, o, ha, hg, fun j hj => ?_⟩
  have := hc (j * 1 + 0) (by omega)
  rw [flat_at strC 1 strC_len l j 0 hj (by omega)] at this
  simpa [strC] using this
theorem strs_flat (d : List Tx) : strs d = d.flatMap strC := by
  induction d with
  | nil => rfl
  | cons x r ih => simp [strs, strC] at ih ⊢; rw [← ih]
theorem StrsR.of_row {w : World} {base : Nat} {a : Option Addr} {n cap : Nat} {d : List Tx} (h : Row w base (.slice a n cap) d) (hn : n = d.length) : StrsR w a n cap d := by
  subst hn
  unfold Row at h
  rw [strs_flat] at h
  exact ⟨rfl, RowR.of_own h⟩
theorem beq_bs (a b : Tx) : ((bs a).toList == (bs b).toList) = decide (a = b) := by
  rw [tx_toList, tx_toList, tx_bs, tx_bs]
  by_cases h : a = b <;> simp [h]

/-- An index, or -1. -/
def idx (o : Option Nat) : Int := match o with
  | none => -1
  | some k => k
theorem at_step_yes (l : List PackD) (path : Tx) (k i : Nat) (hk : k < l.length) (h : l[k].path = path) : atGo path i (l.drop k) = some i := by
  rw [List.drop_eq_getElem_cons hk]; simp [atGo, h]
theorem at_step_no (l : List PackD) (path : Tx) (k i : Nat) (hk : k < l.length) (h : ¬ l[k].path = path) : atGo path i (l.drop k) = atGo path (i + 1) (l.drop (k + 1)) := by
  rw [List.drop_eq_getElem_cons hk]; simp [atGo, h]
theorem at_step_end (l : List PackD) (path : Tx) (k i : Nat) (hk : ¬ k < l.length) : atGo path i (l.drop k) = none := by
  rw [List.drop_of_length_le (by omega)]; rfl

set_option maxHeartbeats 1000000 in
theorem at_any (a : Option Addr) (n cap : Nat) (l : List PackD) (p : ByteArray) (w : World) (hl : PacksR w a n cap l) (hn : n ≤ 100000) :
    Calls Tryz.prog 91 #[.slice a n cap, .string p] w fun e w' => e = .returned (.int .i64 (idx (atR l (tx p)))) ∧ w' = w := by
  have hnl := hl.1
  have HP : Hid (atR l (tx p) = atGo (tx p) 0 l) := rfl
  have HL := hid' hl
  have HN := hid' hnl
  clear hl hnl
  go_enter Tryz.func91, Tryz.ntmps91
  go_wp2
  go_loop [5] (fun i => ∃ k : Nat, k ≤ n ∧ i = .int .i64 k ∧ Hid (atR l (tx p) = atGo (tx p) k (l.drop k))) (fun i => n - (intOf i).toNat)
  case atStart => exact ⟨0, Nat.zero_le _, rfl, HP⟩
  case round =>
    obtain ⟨k, hk, rfl, hall⟩ := hrel
    by_cases hlt : k < n
    · have hkl : k < l.length := by have := HN.out; omega
      obtain ⟨g, o, rfl, hg, hc⟩ := HL.out.cells hkl
      have c0 := (hc k hkl).1
      clear hc
      by_cases he : l[k].path = tx p
      · have HF : Hid (atR l (tx p) = some k) := by unfold Hid; rw [hall.out, at_step_yes l (tx p) k k hkl he]
        have hb : ((bs l[k].path).toList == p.toList) = true := by rw [he, bs_tx]; simp
        generalize bs l[k].path = q at *
        clear he hall
        go_wp2
        go_ret
        exact ⟨ret_int (by rw [HF.out]; rfl), rfl⟩
      · have HF : Hid (atR l (tx p) = atGo (tx p) (k + 1) (l.drop (k + 1))) := by unfold Hid; rw [hall.out, at_step_no l (tx p) k k hkl he]
        have hb : ((bs l[k].path).toList == p.toList) = false := by rw [tx_toList, tx_toList, tx_bs]; simp [he]
        generalize bs l[k].path = q at *
        clear he hall
        go_wp2
        go_round
        case rel => exact ⟨k + 1, by omega, by go_num, HF⟩
        case measure => simp [intOf]; omega
    · have HF : Hid (atR l (tx p) = none) := by unfold Hid; rw [hall.out, at_step_end l (tx p) k k (by have := HN.out; omega)]
      go_wp2
      go_ret
      exact ⟨ret_int (by rw [HF.out]; rfl), rfl⟩

theorem has_yes (l : List Tx) (p : Tx) (k : Nat) (hk : k < l.length) (h : l[k] = p) : hasR (l.drop k) p = true := by
  rw [List.drop_eq_getElem_cons hk]; simp [hasR, h]
theorem has_no (l : List Tx) (p : Tx) (k : Nat) (hk : k < l.length) (h : ¬ l[k] = p) : hasR (l.drop k) p = hasR (l.drop (k + 1)) p := by
  rw [List.drop_eq_getElem_cons hk]; unfold hasR; rw [List.any_cons]; simp [h]
theorem has_end (l : List Tx) (p : Tx) (k : Nat) (hk : ¬ k < l.length) : hasR (l.drop k) p = false := by
  rw [List.drop_of_length_le (by omega)]; rfl

set_option maxHeartbeats 1000000 in
theorem has_any (a : Option Addr) (n cap : Nat) (l : List Tx) (p : ByteArray) (w : World) (hl : StrsR w a n cap l) (hn : n ≤ 100000) :
    Calls Tryz.prog 139 #[.slice a n cap, .string p] w fun e w' => e = .returned (.bool (hasR l (tx p))) ∧ w' = w := by
  have HP : Hid (hasR l (tx p) = hasR (l.drop 0) (tx p)) := rfl
  have HN := hid' hl.1
  have HL := hid' hl
  clear hl
  go_enter Tryz.func139, Tryz.ntmps139
  go_wp2
  go_loop [5] (fun i => ∃ k : Nat, k ≤ n ∧ i = .int .i64 k ∧ Hid (hasR l (tx p) = hasR (l.drop k) (tx p))) (fun i => n - (intOf i).toNat)
  case atStart => exact ⟨0, Nat.zero_le _, rfl, HP⟩
  case round =>
    obtain ⟨k, hk, rfl, hall⟩ := hrel
    clear HP
    by_cases hlt : k < n
    · have hkl : k < l.length := by have := HN.out; omega
      obtain ⟨g, o, rfl, hg, hc⟩ := HL.out.cells hkl
      have c0 := hc k hkl
      clear hc
      by_cases he : l[k] = tx p
      · have HF : Hid (hasR l (tx p) = true) := by unfold Hid; rw [hall.out, has_yes l (tx p) k hkl he]
        have hb : ((bs l[k]).toList == p.toList) = true := by rw [he, bs_tx]; simp
        generalize bs l[k] = q at *
        clear he hall
        go_wp2
        go_ret
        exact ⟨ret_bool (by rw [HF.out]), rfl⟩
      · have HF : Hid (hasR l (tx p) = hasR (l.drop (k + 1)) (tx p)) := by unfold Hid; rw [hall.out, has_no l (tx p) k hkl he]
        have hb : ((bs l[k]).toList == p.toList) = false := by rw [tx_toList, tx_toList, tx_bs]; simp [he]
        generalize bs l[k] = q at *
        clear he hall
        go_wp2
        go_round
        case rel => exact ⟨k + 1, by omega, by go_num, HF⟩
        case measure => simp [intOf]; omega
    · have HF : Hid (hasR l (tx p) = false) := by unfold Hid; rw [hall.out, has_end l (tx p) k (by have := HN.out; omega)]
      go_wp2
      go_ret
      exact ⟨ret_bool (by rw [HF.out]), rfl⟩

theorem bs_cat (a b : ByteArray) : a ++ b = bs (tx a ++ tx b) := by rw [← bs_append, bs_tx, bs_tx]
set_option maxHeartbeats 1000000 in
theorem join_any (p n : ByteArray) (w : World) (hp : p.size ≤ 100000) (hn : n.size ≤ 100000) :
    Calls Tryz.prog 133 #[.string p, .string n] w fun e w' => e = .returned (.string (bs (joinR (tx p) (tx n)))) ∧ w' = w := by
  by_cases h : p.size = 0
  · have hb : ((p.size : Int) == 0) = true := by simp [h]
    have HE : Hid (joinR (tx p) (tx n) = tx n) := by
      unfold Hid joinR; rw [if_pos (List.length_eq_zero_iff.1 (by rw [tx_length]; exact h))]
    clear h
    go_enter Tryz.func133, Tryz.ntmps133
    go_wp2
    go_ret
    exact ⟨ret_str (by rw [HE.out, bs_tx]), rfl⟩
  · have hb : ((p.size : Int) == 0) = false := beq_eq_false_iff_ne.2 (by omega)
    have HE : Hid (joinR (tx p) (tx n) = tx p ++ [47] ++ tx n) := by
      unfold Hid joinR; rw [if_neg]; intro e; have := tx_length p; rw [e] at this; simp at this; omega
    go_enter Tryz.func133, Tryz.ntmps133
    go_wp2
    go_ret
    refine ⟨ret_str ?_, rfl⟩
    rw [HE.out, ← bs_append, ← bs_append, bs_tx, bs_tx]; rfl

end Hst
end Go.Proofs.YtecocheolbkneaaGreatDoor
namespace Go.Proofs.YtecocheolbkneaaGreatDoor
open Go.RowKit
namespace Hst
set_option maxRecDepth 100000

theorem hn_yes (l : List NeedX) (p : Tx) (k : Nat) (hk : k < l.length) (h : l[k].name = p) : hasN (l.drop k) p = true := by
  rw [List.drop_eq_getElem_cons hk]; unfold hasN; rw [List.any_cons]; simp [h]
theorem hn_no (l : List NeedX) (p : Tx) (k : Nat) (hk : k < l.length) (h : ¬ l[k].name = p) : hasN (l.drop k) p = hasN (l.drop (k + 1)) p := by
  rw [List.drop_eq_getElem_cons hk]; unfold hasN; rw [List.any_cons]; simp [h]
theorem hn_end (l : List NeedX) (p : Tx) (k : Nat) (hk : ¬ k < l.length) : hasN (l.drop k) p = false := by
  rw [List.drop_of_length_le (by omega)]; rfl

set_option maxHeartbeats 1000000 in
theorem hasN_any (v : Value) (l : List NeedX) (p : ByteArray) (w : World) (hl : NeedsIn w v l) (hn : l.length ≤ 100000) :
    Calls Tryz.prog 40 #[v, .string p] w fun e w' => e = .returned (.bool (hasN l (tx p))) ∧ Below w.heap.size w w' := by
  obtain ⟨a, cap, rfl⟩ := hl.1.form
  have HL := hid' hl
  clear hl
  go_enter Tryz.func40, Tryz.ntmps40
  go_wp2
  go_loopw [9] (fun i wr => ∃ k : Nat, k ≤ l.length ∧ i = .int .i64 k ∧ Below w.heap.size w wr ∧ Hid (hasN l (tx p) = hasN (l.drop k) (tx p))) (fun i _ => l.length - (intOf i).toNat)
  case atStart => exact ⟨0, Nat.zero_le _, rfl, Below.refl _ _, rfl⟩
  case round =>
    obtain ⟨k, hk, rfl, hbel, hall⟩ := hrel
    have hz := hbel.size
    by_cases hlt : k < l.length
    · obtain ⟨g, o, cap', hv, hg, hc⟩ := (HL.out.below hbel).1.needs hlt
      simp at hv
      obtain ⟨rfl, rfl⟩ := hv
      obtain ⟨c0, c1, c2⟩ := hc k hlt
      obtain ⟨sa, sc, hsp⟩ := (HL.out.2 l[k] (List.getElem_mem hlt)).form
      clear hc
      by_cases he : l[k].name = tx p
      · have HF : Hid (hasN l (tx p) = true) := by unfold Hid; rw [hall.out, hn_yes l (tx p) k hlt he]
        have hb : ((bs l[k].name).toList == p.toList) = true := by rw [he, bs_tx]; simp
        clear he hall
        generalize l[k] = x at *
        go_wp2
        go_ret
        exact ⟨ret_bool (by rw [HF.out]), hbel.alloc hz _⟩
      · have HF : Hid (hasN l (tx p) = hasN (l.drop (k + 1)) (tx p)) := by unfold Hid; rw [hall.out, hn_no l (tx p) k hlt he]
        have hb : ((bs l[k].name).toList == p.toList) = false := by rw [tx_toList, tx_toList, tx_bs]; simp [he]
        clear he hall
        generalize l[k] = x at *
        go_wp2
        go_roundw
        case rel => exact ⟨k + 1, by omega, by go_num, hbel.alloc hz _, HF⟩
        case measure => simp [intOf] <;> omega
    · have HF : Hid (hasN l (tx p) = false) := by unfold Hid; rw [hall.out, hn_end l (tx p) k hlt]
      go_wp2
      go_ret
      exact ⟨ret_bool (by rw [HF.out]), hbel⟩

/-- Whether two neighbours from place k on have one name (k ahead of them all). -/
theorem tw_yes (l : List NeedX) (k : Nat) (hk : k + 1 < l.length) (h : l[k].name = l[k + 1].name) : twiceX (l.drop k) = true := by
  rw [List.drop_eq_getElem_cons (by omega), List.drop_eq_getElem_cons hk]; simp [twiceX, h]
theorem tw_no (l : List NeedX) (k : Nat) (hk : k + 1 < l.length) (h : ¬ l[k].name = l[k + 1].name) : twiceX (l.drop k) = twiceX (l.drop (k + 1)) := by
  rw [List.drop_eq_getElem_cons (by omega), List.drop_eq_getElem_cons hk]; simp [twiceX, h]
theorem tw_end (l : List NeedX) (k : Nat) (hk : ¬ k + 1 < l.length) : twiceX (l.drop k) = false := by
  have h : (l.drop k).length ≤ 1 := by simp; omega
  rcases hd : l.drop k with _ | ⟨x, _ | ⟨y, r⟩⟩
  · rfl
  · rfl
  · rw [hd] at h; simp at h

attribute [local go_sem ↓] Go.wp_at_zero Go.wp_at_succ

set_option maxHeartbeats 2000000 in
theorem twiceX_any (v : Value) (l : List NeedX) (w : World) (hl : NeedsIn w v l) (hn : l.length ≤ 100000) :
    Calls Tryz.prog 143 #[v] w fun e w' => e = .returned (.bool (twiceX l)) ∧ Below w.heap.size w w' := by
  obtain ⟨a, cap, rfl⟩ := hl.1.form
  have HL := hid' hl
  clear hl
  go_enter Tryz.func143, Tryz.ntmps143
  go_wp2
  go_loopw [3] (fun i wr => ∃ k : Nat, k ≤ l.length ∧ i = .int .i64 ((k : Int) + 1) ∧ Below w.heap.size w wr ∧ Hid (twiceX l = twiceX (l.drop k))) (fun i _ => l.length + 1 - (intOf i).toNat)
  case atStart => exact ⟨0, Nat.zero_le _, rfl, Below.refl _ _, rfl⟩
  case round =>
    obtain ⟨k, hk, rfl, hbel, hall⟩ := hrel
    have hz := hbel.size
    by_cases hlt : k + 1 < l.length
    · obtain ⟨g, o, cap', hv, hg, hc⟩ := (HL.out.below hbel).1.needs (show k < l.length by omega)
      simp at hv
      obtain ⟨rfl, rfl⟩ := hv
      have c0 := (hc k (by omega)).1
      have c1 := (hc (k + 1) hlt).1
      clear hc
      have i0 : (0 : Int) ≤ (k : Int) + 1 := by omega
      have i1 : (k : Int) + 1 < (l.length : Int) := by omega
      have i2 : IntKind.i64.wrap ((k : Int) + 1 - 1) = (k : Int) := by rw [IntKind.wrap_i64]; omega
      have i6 : IntKind.i64.wrap (k : Int) = (k : Int) := by rw [IntKind.wrap_i64]; omega
      have i5 : ((k : Int) + 1).toNat = k + 1 := by omega
      have i3 : (0 : Int) ≤ (k : Int) := by omega
      have i4 : (k : Int) < (l.length : Int) := by omega
      by_cases he : l[k].name = l[k + 1].name
      · have HF : Hid (twiceX l = true) := by unfold Hid; rw [hall.out, tw_yes l k hlt he]
        have hb : ((bs l[k].name).toList == (bs l[k + 1].name).toList) = true := by rw [he]; simp
        clear he hall
        generalize bs l[k].name = q at *
        generalize bs l[k + 1].name = r at *
        go_wp2
        go_region_held3 (fun w' => w'.cell? ⟨g, o + k * 3, none⟩ = some (.string q) ∧ w'.cell? ⟨g, o + (k + 1) * 3, none⟩ = some (.string r)) (go_keep) (fail)
        go_wp2
        go_ret
        exact ⟨ret_bool (by rw [HF.out]), hbel.drew⟩
      · have HF : Hid (twiceX l = twiceX (l.drop (k + 1))) := by unfold Hid; rw [hall.out, tw_no l k hlt he]
        have hb : ((bs l[k].name).toList == (bs l[k + 1].name).toList) = false := by rw [tx_toList, tx_toList, tx_bs, tx_bs]; simp [he]
        clear he hall
        generalize bs l[k].name = q at *
        generalize bs l[k + 1].name = r at *
        go_wp2
        go_region_held3 (fun w' => w'.cell? ⟨g, o + k * 3, none⟩ = some (.string q) ∧ w'.cell? ⟨g, o + (k + 1) * 3, none⟩ = some (.string r)) (go_keep) (fail)
        go_wp2
        go_roundw
        case rel => exact ⟨k + 1, by omega, by go_num, hbel.drew, HF⟩
        case measure => simp [intOf] <;> omega
    · have HF : Hid (twiceX l = false) := by unfold Hid; rw [hall.out, tw_end l k hlt]
      go_wp2
      go_ret
      exact ⟨ret_bool (by rw [HF.out]), hbel⟩

/-! ### Join -/
theorem jg_first (sep : Tx) (l : List Tx) (hk : 0 < l.length) : joinGo sep true (l.drop 0) = l[0] ++ joinGo sep false (l.drop 1) := by
  rw [List.drop_eq_getElem_cons hk]; simp [joinGo]
theorem jg_next (sep : Tx) (l : List Tx) (k : Nat) (hk : k < l.length) : joinGo sep false (l.drop k) = sep ++ l[k] ++ joinGo sep false (l.drop (k + 1)) := by
  rw [List.drop_eq_getElem_cons hk]; simp [joinGo]
theorem jg_end (sep : Tx) (l : List Tx) (k : Nat) (hk : ¬ k < l.length) (b : Bool) : joinGo sep b (l.drop k) = [] := by
  rw [List.drop_of_length_le (by omega)]; rfl
theorem dz (k : Nat) : decide (k + 1 = 0) = false := by simp
/-- How long a row of texts is at the most. -/
def lens (l : List Tx) : Nat := (l.map List.length).sum

set_option maxHeartbeats 2000000 in
theorem join_all (v : Value) (l : List Tx) (p : ByteArray) (w : World) (hl : RowX strC 1 9 w v l) (hn : l.length ≤ 1000) (hp : p.size ≤ 1000) (hs : ∀ x ∈ l, x.length ≤ 1000) :
    Calls Tryz.prog 69 #[v, .string p] w fun e w' => e = .returned (.string (bs (joinT (tx p) l))) ∧ Below w.heap.size w w' := by
  obtain ⟨a, cap, rfl⟩ := hl.form
  have HL := hid' hl
  have HS := hid' hs
  clear hl hs
  go_enter Tryz.func69, Tryz.ntmps69
  go_wp2
  go_loopw [5, 10] (fun t i wr => ∃ (k : Nat) (acc : Tx), k ≤ l.length ∧ acc.length ≤ 2000 * k ∧ i = .int .i64 k ∧ t = .string (bs acc) ∧ Below w.heap.size w wr ∧ Hid (joinT (tx p) l = acc ++ joinGo (tx p) (decide (k = 0)) (l.drop k))) (fun _ i _ => l.length - (intOf i).toNat)
  case atStart => exact ⟨0, [], Nat.zero_le _, by simp, rfl, rfl, Below.refl _ _, rfl⟩
  case round =>
    obtain ⟨k, acc, hk, hacc, rfl, rfl, hbel, hall⟩ := hrel
    have hz := hbel.size
    by_cases hlt : k < l.length
    · obtain ⟨g, o, cap', hv, hg, hc⟩ := (HL.out.below hbel).cells strC_len hlt
      simp at hv
      obtain ⟨rfl, rfl⟩ := hv
      have c0 := hc k hlt 0 (by omega)
      simp [strC] at c0
      have hx := HS.out l[k] (List.getElem_mem hlt)
      have ha : (bs acc).size ≤ 2000 * k := by rw [bs_size]; exact hacc
      have hq : (bs l[k]).size ≤ 1000 := by rw [bs_size]; exact hx
      clear hc
      by_cases h0 : k = 0
      · subst h0
        have HF : Hid (joinT (tx p) l = (acc ++ l[0]) ++ joinGo (tx p) false (l.drop (0 + 1))) := by
          unfold Hid; rw [hall.out]; simp only [decide_true]; rw [jg_first (tx p) l hlt]; simp
        clear hall
        have HA : Hid (bs acc ++ bs l[0] = bs (acc ++ l[0])) := bs_append _ _
        have hal : (acc ++ l[0]).length ≤ 2000 * (0 + 1) := by simp; omega
        generalize acc ++ l[0] = nx at *
        generalize bs l[0] = q at *
        generalize bs acc = q' at *
        simp at c0
        go_wp2
        go_roundw
        case rel => exact ⟨0 + 1, nx, by omega, hal, by go_num, by rw [HA.out], hbel, by rw [dz]; exact HF⟩
        case measure => simp [intOf] <;> omega
      · have HF : Hid (joinT (tx p) l = (acc ++ tx p ++ l[k]) ++ joinGo (tx p) false (l.drop (k + 1))) := by
          unfold Hid; rw [hall.out]; have e : decide (k = 0) = false := by simp [h0]
          rw [e, jg_next (tx p) l k hlt]; simp
        clear hall
        have HA : Hid (bs acc ++ p ++ bs l[k] = bs (acc ++ tx p ++ l[k])) := by unfold Hid; rw [← bs_append, ← bs_append, bs_tx]
        have hal : (acc ++ tx p ++ l[k]).length ≤ 2000 * (k + 1) := by simp [tx_length]; omega
        generalize acc ++ tx p ++ l[k] = nx at *
        generalize bs l[k] = q at *
        generalize bs acc = q' at *
        have hb3 : 0 < k := by omega
        go_wp2
        go_roundw
        case rel => exact ⟨k + 1, nx, by omega, hal, by go_num, by rw [HA.out], hbel, by rw [dz]; exact HF⟩
        case measure => simp [intOf] <;> omega
    · have HF : Hid (joinT (tx p) l = acc) := by unfold Hid; rw [hall.out, jg_end (tx p) l k hlt]; simp
      go_wp2
      go_ret
      exact ⟨ret_str (by rw [HF.out]), hbel⟩

end Hst
end Go.Proofs.YtecocheolbkneaaGreatDoor
namespace Go.Proofs.YtecocheolbkneaaGreatDoor
open Go.RowKit
namespace Hst
set_option maxRecDepth 100000

theorem empty_yes (l : Tx) (h : l = []) : (bs l).toList.isEmpty = true := by rw [tx_toList, tx_bs, h]; rfl
theorem empty_no (l : Tx) (h : l ≠ []) : (bs l).toList.isEmpty = false := by rw [tx_toList, tx_bs]; simp [h]

set_option maxHeartbeats 1000000 in
theorem isCond_any (s : ByteArray) (w : World) :
    Calls Tryz.prog 153 #[.string s] w fun e w' => e = .returned (.bool (isCondR (tx s))) ∧ Below w.heap.size w w' := by
  have HS := hid (fun w => signed_any s w)
  have HV := hid (fun w => version_any (bs (signedR (tx s)).2) w)
  rw [tx_bs] at HV
  have HF : Hid (isCondR (tx s) = (decide (tx s = [42]) || (!(signedR (tx s)).1.isEmpty && (versionR (signedR (tx s)).2).2))) := rfl
  generalize hsg : (signedR (tx s)).1 = sg at *
  generalize hrs : (signedR (tx s)).2 = rs at *
  clear hsg hrs
  generalize hvr : versionR rs = vr at *
  clear hvr
  obtain ⟨⟨a, b, c⟩, ok⟩ := vr
  by_cases h42 : tx s = [42]
  · have HF : Hid (isCondR (tx s) = true) := by unfold Hid; rw [HF.out]; simp [h42]
    have hb := str_eq s _ h42
    clear h42
    go_enter Tryz.func153, Tryz.ntmps153
    go_wp2_with fail
    refine (HS.out _).mono ?_
    rintro e w1 ⟨rfl, hb1⟩
    go_wp2_with fail
    refine (HV.out _).mono ?_
    rintro e w2 ⟨rfl, hb2⟩
    have HB := hid (hb1.trans (hb2.mono hb1.size))
    have hz := HB.out.size
    clear hb1 hb2
    go_wp2
    go_ret
    exact ⟨ret_bool (by rw [HF.out]), HB.out.alloc hz _⟩
  · have hb := str_ne s _ h42
    by_cases hsg : sg = []
    · have HF : Hid (isCondR (tx s) = false) := by unfold Hid; rw [HF.out]; simp [h42, hsg]
      have he := empty_yes sg hsg
      clear h42 hsg
      generalize bs sg = q at *
      go_enter Tryz.func153, Tryz.ntmps153
      go_wp2_with fail
      refine (HS.out _).mono ?_
      rintro e w1 ⟨rfl, hb1⟩
      go_wp2_with fail
      refine (HV.out _).mono ?_
      rintro e w2 ⟨rfl, hb2⟩
      have HB := hid (hb1.trans (hb2.mono hb1.size))
      have hz := HB.out.size
      clear hb1 hb2
      go_wp2
      go_ret
      exact ⟨ret_bool (by rw [HF.out]), HB.out.alloc hz _⟩
    · have HF : Hid (isCondR (tx s) = ok) := by unfold Hid; rw [HF.out]; simp [h42, hsg]
      have he := empty_no sg hsg
      clear h42 hsg
      generalize bs sg = q at *
      go_enter Tryz.func153, Tryz.ntmps153
      go_wp2_with fail
      refine (HS.out _).mono ?_
      rintro e w1 ⟨rfl, hb1⟩
      go_wp2_with fail
      refine (HV.out _).mono ?_
      rintro e w2 ⟨rfl, hb2⟩
      have HB := hid (hb1.trans (hb2.mono hb1.size))
      have hz := HB.out.size
      clear hb1 hb2
      go_wp2
      go_ret
      exact ⟨ret_bool (by rw [HF.out]), HB.out.alloc hz _⟩

end Hst
end Go.Proofs.YtecocheolbkneaaGreatDoor
