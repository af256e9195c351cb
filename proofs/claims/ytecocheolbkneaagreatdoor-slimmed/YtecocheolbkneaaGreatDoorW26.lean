/- Siteb, Sitec, Dplaced -/
import Derived.Test.YtecocheolbkneaaGreatDoorW25
import Derived.Test.YtecocheolbkneaaGreatDoorW13
import Derived.Test.YtecocheolbkneaaGreatDoorW19
import Derived.Deep.DeepCutAuto
import Derived.Deep.RegionLaw
namespace Go.Proofs.YtecocheolbkneaaGreatDoor
open Go.RowKit
namespace Hst
set_option maxRecDepth 100000

/-- A slice of those who need. -/
def WhosR (w : World) (a : Option Addr) (n cap : Nat) (l : List WhoD) : Prop := n = l.length ∧ RowR w a n cap 3 (l.flatMap whoC)
theorem whoC_len (p : WhoD) : (whoC p).length = 3 := rfl
theorem WhosR.below {w w' : World} {a : Option Addr} {n cap : Nat} {l : List WhoD} (h : WhosR w a n cap l) (hb : Below w.heap.size w w') : WhosR w' a n cap l := ⟨h.1, h.2.below hb⟩
theorem WhosR.cells {w : World} {a : Option Addr} {n cap : Nat} {l : List WhoD} (h : WhosR w a n cap l) {k : Nat} (hk : k < l.length) :
    ∃ g o, a = some ⟨g, o, none⟩ ∧ g < w.heap.size ∧ ∀ (j : Nat) (hj : j < l.length), w.cell? ⟨g, o + j * 3, none⟩ = some (.string (bs l[j].path)) ∧ w.cell? ⟨g, o + j * 3 + 1, none⟩ = some (.string (bs l[j].n.name)) ∧ w.cell? ⟨g, o + j * 3 + 2, none⟩ = some (.string (bs l[j].n.rng)) := by
  obtain ⟨rfl, hr⟩ := h
  obtain ⟨g, o, ha, hg, hc⟩ := hr.at' (by omega)
  have get : ∀ j (hj : j < l.length) i, i < 3 → w.cell? ⟨g, o + (j * 3 + i), none⟩ = (whoC l[j])[i]? := fun j hj i hi => by
    rw [hc (j * 3 + i) (by omega), flat_at whoC 3 whoC_len l j i hj hi]
  exact ⟨g, o, ha, hg, fun j hj => ⟨get j hj 0 (by omega), get j hj 1 (by omega), get j hj 2 (by omega)⟩⟩

/-- What bounds a need, and somebody who needs. -/
def NeedOk (n : NeedD) : Prop := n.name.length ≤ 3 ∧ n.rng.length ≤ 60
def WhoOk (x : WhoD) : Prop := x.path.length ≤ 50000 ∧ NeedOk x.n

theorem am_yes (st : List EntryD) (l : List PackD) (who : List WhoD) (k : Nat) (hk : k < who.length) (h : metR st l who[k] = true) : allMetR st l (who.drop k) = allMetR st l (who.drop (k + 1)) := by
  rw [List.drop_eq_getElem_cons hk]; unfold allMetR; rw [List.all_cons, h, Bool.true_and]
theorem am_no (st : List EntryD) (l : List PackD) (who : List WhoD) (k : Nat) (hk : k < who.length) (h : metR st l who[k] = false) : allMetR st l (who.drop k) = false := by
  rw [List.drop_eq_getElem_cons hk]; unfold allMetR; rw [List.all_cons, h, Bool.false_and]
theorem am_end (st : List EntryD) (l : List PackD) (who : List WhoD) (k : Nat) (hk : ¬ k < who.length) : allMetR st l (who.drop k) = true := by
  rw [List.drop_of_length_le (by omega)]; rfl

set_option maxHeartbeats 1000000 in
theorem allMet_any (b : Nat) (s : SiteD) (a : Option Addr) (n cap : Nat) (l : List PackD) (a' : Option Addr) (n' cap' : Nat) (who : List WhoD) (w : World) (hs : SiteAt w b s) (hl : PacksR w a n cap l) (hn : n ≤ 100000) (hw : WhosR w a' n' cap' who) (hn' : n' ≤ 100000)
    (hwo : ∀ x ∈ who, WhoOk x) (hof : ∀ p ∈ l, p.of < s.stock.length) :
    Calls Tryz.prog 98 #[.pointer (some ⟨b, 0, none⟩), .slice a n cap, .slice a' n' cap'] w fun e w' => e = .returned (.bool (allMetR s.stock l who)) ∧ Below w.heap.size w w' := by
  have HS := hid' hs; have HL := hid' hl; have HW := hid' hw; have HO := hid' hwo; have HN := hid' hw.1; have HOF := hid' hof
  clear hs hl hw hwo hof
  go_enter Tryz.func98, Tryz.ntmps98
  go_wp2
  go_loopw [7] (fun i wr => ∃ k : Nat, k ≤ n' ∧ i = .int .i64 k ∧ Below w.heap.size w wr ∧ Hid (allMetR s.stock l who = allMetR s.stock l (who.drop k))) (fun i _ => n' - (intOf i).toNat)
  case atStart => exact ⟨0, Nat.zero_le _, rfl, Below.refl _ _, rfl⟩
  case round =>
    obtain ⟨k, hk, rfl, hbel, hall⟩ := hrel
    have hz := hbel.size
    by_cases hlt : k < n'
    · have hkl : k < who.length := by have := HN.out; omega
      obtain ⟨g, o, rfl, hg, hc⟩ := (HW.out.below hbel).cells hkl
      obtain ⟨c0, c1, c2⟩ := hc k hkl
      have hok := HO.out who[k] (List.getElem_mem hkl)
      have HM := hid' (met_any b s a n cap l who[k] wr (HS.out.below hbel) (HL.out.below hbel) hn hok.1 (by have := hok.2.1; omega) hok.2.2 HOF.out)
      have HY := hid' (am_yes s.stock l who k hkl)
      have HX := hid' (am_no s.stock l who k hkl)
      clear hc hok
      generalize metR s.stock l who[k] = mt at *
      generalize who[k] = x at *
      cases mt
      · have HF : Hid (allMetR s.stock l who = false) := by unfold Hid; rw [hall.out, HX.out rfl]
        clear hall HY HX
        go_wp2_with fail
        refine HM.out.mono ?_
        rintro e w1 ⟨rfl, hb1⟩
        have HB := hid' (hbel.trans (hb1.mono hz))
        clear hb1
        go_wp2
        go_ret
        exact ⟨ret_bool (by rw [HF.out]), HB.out⟩
      · have HF : Hid (allMetR s.stock l who = allMetR s.stock l (who.drop (k + 1))) := by unfold Hid; rw [hall.out, HY.out rfl]
        clear hall HY HX
        go_wp2_with fail
        refine HM.out.mono ?_
        rintro e w1 ⟨rfl, hb1⟩
        have HB := hid' (hbel.trans (hb1.mono hz))
        clear hb1
        go_wp2
        go_roundw
        case rel => exact ⟨k + 1, by omega, by go_num, HB.out, HF⟩
        case measure => simp [intOf] <;> omega
    · have HF : Hid (allMetR s.stock l who = true) := by unfold Hid; rw [hall.out, am_end s.stock l who k (by have := HN.out; omega)]
      go_wp2
      go_ret
      exact ⟨ret_bool (by rw [HF.out]), hbel⟩

theorem fv_yes (l : List PackD) (m k : Nat) (hk : k < l.length) (h : l[k].of = m) : favouredR (l.drop k) m = true := by
  rw [List.drop_eq_getElem_cons hk]; unfold favouredR; rw [List.any_cons]; simp [h]
theorem fv_no (l : List PackD) (m k : Nat) (hk : k < l.length) (h : ¬ l[k].of = m) : favouredR (l.drop k) m = favouredR (l.drop (k + 1)) m := by
  rw [List.drop_eq_getElem_cons hk]; unfold favouredR; rw [List.any_cons]; simp [h]
theorem fv_end (l : List PackD) (m k : Nat) (hk : ¬ k < l.length) : favouredR (l.drop k) m = false := by
  rw [List.drop_of_length_le (by omega)]; rfl

set_option maxHeartbeats 1000000 in
theorem favoured_any (a : Option Addr) (n cap : Nat) (l : List PackD) (m : Nat) (w : World) (hl : PacksR w a n cap l) (hn : n ≤ 100000) :
    Calls Tryz.prog 180 #[.slice a n cap, .int .i64 m] w fun e w' => e = .returned (.bool (favouredR l m)) ∧ w' = w := by
  have HN := hid' hl.1
  have HL := hid' hl
  clear hl
  go_enter Tryz.func180, Tryz.ntmps180
  go_wp2
  go_loop [5] (fun i => ∃ k : Nat, k ≤ n ∧ i = .int .i64 k ∧ Hid (favouredR l m = favouredR (l.drop k) m)) (fun i => n - (intOf i).toNat)
  case atStart => exact ⟨0, Nat.zero_le _, rfl, rfl⟩
  case round =>
    obtain ⟨k, hk, rfl, hall⟩ := hrel
    by_cases hlt : k < n
    · have hkl : k < l.length := by have := HN.out; omega
      obtain ⟨g, o, rfl, hg, hc⟩ := HL.out.cells hkl
      have c0 := (hc k hkl).2
      clear hc
      by_cases he : l[k].of = m
      · have HF : Hid (favouredR l m = true) := by unfold Hid; rw [hall.out, fv_yes l m k hkl he]
        have hb : ((l[k].of : Int) == (m : Int)) = true := by simp [he]
        generalize l[k].of = q at *
        clear he hall
        go_wp2
        go_ret
        exact ⟨ret_bool (by rw [HF.out]), rfl⟩
      · have HF : Hid (favouredR l m = favouredR (l.drop (k + 1)) m) := by unfold Hid; rw [hall.out, fv_no l m k hkl he]
        have hb : ((l[k].of : Int) == (m : Int)) = false := beq_eq_false_iff_ne.2 (by omega)
        generalize l[k].of = q at *
        clear he hall
        go_wp2
        go_round
        case rel => exact ⟨k + 1, by omega, by go_num, HF⟩
        case measure => simp [intOf] <;> omega
    · have HF : Hid (favouredR l m = false) := by unfold Hid; rw [hall.out, fv_end l m k (by have := HN.out; omega)]
      go_wp2
      go_ret
      exact ⟨ret_bool (by rw [HF.out]), rfl⟩

/-- One element more, whatever its kind. -/
theorem step_gen {α : Type} (f : α → List Value) {e k : Nat} {W w w1 wr : World} {v : Value} {acc : List α} {x : α} {g cap : Nat} (hown : wr.ownsRow w.heap.size e k v acc.length (acc.flatMap f)) (hbel : Below w.heap.size w wr) (hb4 : Below wr.heap.size wr W)
    (hown1 : w1.ownsRow w.heap.size e k (.slice (some ⟨g, 0, none⟩) (acc.length + 1) cap) (acc.length + 1) (acc.flatMap f ++ f x)) (hgrow : W.grownBy w1 v.ownBlock) :
    w1.ownsRow w.heap.size e k (.slice (some ⟨g, 0, none⟩) (acc.length + 1) cap) (acc ++ [x]).length ((acc ++ [x]).flatMap f) ∧ Below w.heap.size w w1 := by
  have hz := hbel.size
  refine ⟨?_, ?_⟩
  · have e1 : (acc ++ [x]).flatMap f = acc.flatMap f ++ f x := by simp
    rw [e1]
    simpa using hown1
  · exact (hbel.trans (hb4.mono hz)).grown hgrow (Nat.le_trans hz hb4.size) (fun k hk => (hown.lt k hk).1)
theorem info_need : (Tryz.prog.info? 135).map (fun i => (i.zero, i.size, i.bytes)) = some (some (.agg #[.string ByteArray.empty, .string ByteArray.empty]), 2, 32) := by kernel_rfl
theorem need_one (n : NeedD) : ∀ u ∈ needC n, u.oneCell' = true := by intro u hu; simp [needC] at hu; rcases hu with rfl | rfl <;> rfl
theorem news_one (w : World) (x y : Value) (t : TypeId) : ∀ j u, [x, y][j]? = some u → (w.alloc (.cells #[x, y] t)).cell? ((⟨w.heap.size, 0, none⟩ : Addr).add j) = some u := by
  intro j u hu
  exact World.news_of_block (heap_alloc_new w (.cells #[x, y] t)) j u (by simpa using hu)
theorem rs_no (l : List NeedD) (name : Tx) (k : Nat) (hk : k < l.length) (h : l[k].name = name) : restR (l.drop k) name = restR (l.drop (k + 1)) name := by
  rw [List.drop_eq_getElem_cons hk]; unfold restR; rw [List.filter_cons]; simp [h]
theorem rs_yes (l : List NeedD) (name : Tx) (k : Nat) (hk : k < l.length) (h : ¬ l[k].name = name) : restR (l.drop k) name = l[k] :: restR (l.drop (k + 1)) name := by
  rw [List.drop_eq_getElem_cons hk]; unfold restR; rw [List.filter_cons]; simp [h]
theorem rs_end (l : List NeedD) (name : Tx) (k : Nat) (hk : ¬ k < l.length) : restR (l.drop k) name = [] := by
  rw [List.drop_of_length_le (by omega)]; rfl

set_option maxHeartbeats 1000000 in
theorem rest_any (a : Option Addr) (n cap : Nat) (l : List NeedD) (p : ByteArray) (w : World) (hl : NeedsR w a n cap l) (hn : n ≤ 100000) :
    Calls Tryz.prog 85 #[.slice a n cap, .string p] w fun e w' => ∃ v, e = .returned v ∧ w'.ownsRow w.heap.size 135 2 v (restR l (tx p)).length ((restR l (tx p)).flatMap needC) ∧ Below w.heap.size w w' := by
  obtain ⟨i0, hi, hz0, hz1, hz2⟩ := info_parts info_need
  have HN := hid' hl.1
  have HL := hid' hl
  clear hl
  go_enter Tryz.func85, Tryz.ntmps85
  go_wp2
  go_loopw [5, 6] (fun v i wr => ∃ (k : Nat) (acc : List NeedD), k ≤ n ∧ acc.length ≤ k ∧ i = .int .i64 k ∧ wr.ownsRow w.heap.size 135 2 v acc.length (acc.flatMap needC) ∧ Below w.heap.size w wr ∧ Hid (restR l (tx p) = acc ++ restR (l.drop k) (tx p))) (fun _ i _ => n - (intOf i).toNat)
  case atStart => exact ⟨0, [], Nat.zero_le _, by simp, rfl, World.ownsRow_nil _ _ _ _, Below.refl _ _, rfl⟩
  case round =>
    obtain ⟨k, acc, hk, hacc, rfl, hown, hbel, hall⟩ := hrel
    have hz := hbel.size
    by_cases hlt : k < n
    · have hkl : k < l.length := by have := HN.out; omega
      obtain ⟨g, o, rfl, hg, hc⟩ := (HL.out.below hbel).cells hkl
      obtain ⟨c0, c1⟩ := hc k hkl
      clear hc
      by_cases he : l[k].name = tx p
      · have HF : Hid (restR l (tx p) = acc ++ restR (l.drop (k + 1)) (tx p)) := by unfold Hid; rw [hall.out, rs_no l (tx p) k hkl he]
        have hb : ((bs l[k].name).toList == p.toList) = true := by rw [he, bs_tx]; simp
        generalize bs l[k].name = q1 at *
        generalize bs l[k].rng = q2 at *
        clear he hall
        go_wp2
        go_roundw
        case rel => exact ⟨k + 1, acc, by omega, by omega, by go_num, hown, hbel, HF⟩
        case measure => simp [intOf] <;> omega
      · have HF : Hid (restR l (tx p) = (acc ++ [l[k]]) ++ restR (l.drop (k + 1)) (tx p)) := by unfold Hid; rw [hall.out, rs_yes l (tx p) k hkl he]; simp
        have hb : ((bs l[k].name).toList == p.toList) = false := by rw [tx_toList, tx_toList, tx_bs]; simp [he]
        generalize l[k] = x at *
        clear he hall
        go_wp2_with (first
          | (at_builtin; refine wpList_append_lies _ rfl _ _ 126 rfl w.heap.size 135 i0 (.agg #[.string ByteArray.empty, .string ByteArray.empty]) 2 32 Tryz.underlying126 hi hz0 hz1 hz2 rfl (by omega) _ _ _ rfl (hown.alloc _) ⟨wr.heap.size, 0, none⟩ 1 1 [.string (bs x.name), .string (bs x.rng)] rfl rfl (news_one _ _ _ _) (need_one x) (by omega) (by unfold maxLen; omega) (by omega) (by simp; omega) (wr.heap.size + 1) (by simp) ?_; intro g1 cap1 w1 hown1 hgrow hat hlt1))
        have R := step_gen needC (x := x) hown hbel ((Below.refl _ _).alloc (Nat.le_refl _) _) hown1 hgrow
        clear hown1 hgrow hown
        go_wp2
        go_roundw
        case rel => exact ⟨k + 1, _, by omega, by simp; omega, by go_num, R.1, R.2, HF⟩
        case measure => simp [intOf] <;> omega
    · have HF : Hid (restR l (tx p) = acc) := by unfold Hid; rw [hall.out, rs_end l (tx p) k (by have := HN.out; omega)]; simp
      have HR := hid' (And.intro hown hbel)
      clear hown hbel hall
      go_wp2
      go_ret
      exact ⟨_, rfl, by rw [HF.out]; exact HR.out.1, HR.out.2⟩

end Hst
end Go.Proofs.YtecocheolbkneaaGreatDoor
namespace Go.Proofs.YtecocheolbkneaaGreatDoor
open Go.RowKit
namespace Hst
set_option maxRecDepth 100000

theorem info_who : (Tryz.prog.info? 200).map (fun i => (i.zero, i.size, i.bytes)) = some (some (.agg #[.string ByteArray.empty, .string ByteArray.empty, .string ByteArray.empty]), 3, 48) := by kernel_rfl
theorem who_one (x : WhoD) : ∀ u ∈ whoC x, u.oneCell' = true := by intro u hu; simp [whoC] at hu; rcases hu with rfl | rfl | rfl <;> rfl
theorem news_three (w : World) (x y z : Value) (t : TypeId) : ∀ j u, [x, y, z][j]? = some u → (w.alloc (.cells #[x, y, z] t)).cell? ((⟨w.heap.size, 0, none⟩ : Addr).add j) = some u := by
  intro j u hu
  exact World.news_of_block (heap_alloc_new w (.cells #[x, y, z] t)) j u (by simpa using hu)
/-- What a package adds. -/
def addsR (st : List EntryD) (p : PackD) : List WhoD := (needsOf st p.of).map fun n => ⟨p.path, n⟩
theorem allR_eq (st : List EntryD) (nd : List NeedD) (l : List PackD) : allR st nd l = (nd.map fun n => (⟨[], n⟩ : WhoD)) ++ l.flatMap (addsR st) := rfl

attribute [local go_sem ↓] Go.wp_at_zero Go.wp_at_succ

set_option maxHeartbeats 4000000 in
theorem all_any (b : Nat) (s : SiteD) (a : Option Addr) (n cap : Nat) (nd : List NeedD) (a' : Option Addr) (n' cap' : Nat) (l : List PackD) (w : World) (hs : SiteAt w b s) (hd : NeedsR w a n cap nd) (hn : n ≤ 1000) (hl : PacksR w a' n' cap' l) (hn' : n' ≤ 1000)
    (hof : ∀ p ∈ l, p.of < s.stock.length) (hnd : ∀ e ∈ s.stock, e.needs.length ≤ 1000) :
    Calls Tryz.prog 97 #[.pointer (some ⟨b, 0, none⟩), .slice a n cap, .slice a' n' cap'] w fun e w' => ∃ v, e = .returned v ∧ w'.ownsRow w.heap.size 200 3 v (allR s.stock nd l).length ((allR s.stock nd l).flatMap whoC) ∧ Below w.heap.size w w' := by
  obtain ⟨i0, hi, hz0, hz1, hz2⟩ := info_parts info_who
  have HS := hid' hs; have HL := hid' hl; have HD := hid' hd; have HN := hid' hd.1; have HN' := hid' hl.1; have HOF := hid' hof; have HND := hid' hnd
  clear hs hl hd hof hnd
  go_enter Tryz.func97, Tryz.ntmps97
  go_wp2
  go_loopw [7, 8] (fun v i wr => ∃ (k : Nat) (acc : List WhoD), k ≤ n ∧ acc.length ≤ k ∧ i = .int .i64 k ∧ wr.ownsRow w.heap.size 200 3 v acc.length (acc.flatMap whoC) ∧ Below w.heap.size w wr ∧ Hid (allR s.stock nd l = acc ++ (((nd.drop k).map fun n => (⟨[], n⟩ : WhoD)) ++ l.flatMap (addsR s.stock)))) (fun _ i _ => n - (intOf i).toNat)
  case atStart => exact ⟨0, [], Nat.zero_le _, by simp, rfl, World.ownsRow_nil _ _ _ _, Below.refl _ _, rfl⟩
  case round =>
    obtain ⟨k, acc, hk, hacc, rfl, hown, hbel, hall⟩ := hrel
    have hz := hbel.size
    by_cases hlt : k < n
    · have hkl : k < nd.length := by have := HN.out; omega
      obtain ⟨g, o, rfl, hg, hc⟩ := (HD.out.below hbel).cells hkl
      obtain ⟨c0, c1⟩ := hc k hkl
      clear hc
      have HF : Hid (allR s.stock nd l = (acc ++ [⟨[], nd[k]⟩]) ++ (((nd.drop (k + 1)).map fun n => (⟨[], n⟩ : WhoD)) ++ l.flatMap (addsR s.stock))) := by
        unfold Hid; rw [hall.out, List.drop_eq_getElem_cons hkl, List.map_cons]; simp only [List.append_assoc, List.cons_append, List.nil_append]
      generalize nd[k] = x at *
      clear hall
      go_wp2_with (first
        | (at_builtin; refine wpList_append_lies _ rfl _ _ 150 rfl w.heap.size 200 i0 (.agg #[.string ByteArray.empty, .string ByteArray.empty, .string ByteArray.empty]) 3 48 Tryz.underlying150 hi hz0 hz1 hz2 rfl (by omega) _ _ _ rfl (hown.alloc _) ⟨wr.heap.size, 0, none⟩ 1 1 [.string ⟨#[]⟩, .string (bs x.name), .string (bs x.rng)] rfl rfl (news_three _ _ _ _ _) (who_one ⟨[], x⟩) (by omega) (by unfold maxLen; omega) (by omega) (by simp; omega) (wr.heap.size + 1) (by simp) ?_; intro g1 cap1 w1 hown1 hgrow hat hlt1))
      have R := step_gen whoC (x := ⟨[], x⟩) hown hbel ((Below.refl _ _).alloc (Nat.le_refl _) _) hown1 hgrow
      clear hown1 hgrow hown
      go_wp2
      go_roundw
      case rel => exact ⟨k + 1, _, by omega, by simp; omega, by go_num, R.1, R.2, HF⟩
      case measure => simp [intOf] <;> omega
    · have HF : Hid (allR s.stock nd l = acc ++ l.flatMap (addsR s.stock)) := by
        unfold Hid; rw [hall.out, List.drop_of_length_le (by have := HN.out; omega)]; simp
      clear hall
      go_wp2
      go_loopw [7, 9] (fun v i wr => ∃ (k : Nat) (acc : List WhoD), k ≤ n' ∧ acc.length ≤ 1000 + 1000 * k ∧ i = .int .i64 k ∧ wr.ownsRow w.heap.size 200 3 v acc.length (acc.flatMap whoC) ∧ Below w.heap.size w wr ∧ Hid (allR s.stock nd l = acc ++ (l.drop k).flatMap (addsR s.stock))) (fun _ i _ => n' - (intOf i).toNat)
      case atStart => exact ⟨0, acc, Nat.zero_le _, by omega, rfl, hown, hbel, HF⟩
      case round =>
        clear HF hown hbel hz
        obtain ⟨k2, ac, hk2, hac, rfl, hown, hbel, hall⟩ := hrel
        have hz := hbel.size
        by_cases hlt2 : k2 < n'
        · have hkl : k2 < l.length := by have := HN'.out; omega
          obtain ⟨g, o, rfl, hg, hc⟩ := HL.out.cells hkl
          obtain ⟨c0, c1⟩ := hc k2 hkl
          obtain ⟨sa, sn, sc, es, hsr⟩ := HS.out.stock
          have hofk := HOF.out l[k2] (List.getElem_mem hkl)
          have HSL := hid' hsr.len
          obtain ⟨gs, os, rfl, hgs, hcs⟩ := hsr.cells hofk
          obtain ⟨na, nn, nc, q4, hnr⟩ := (hcs l[k2].of hofk).2.2.2.2
          have hnl := HND.out s.stock[l[k2].of] (List.getElem_mem hofk)
          have HA : Hid (allR s.stock nd l = ac ++ ((s.stock[l[k2].of].needs.map fun n => (⟨l[k2].path, n⟩ : WhoD)) ++ (l.drop (k2 + 1)).flatMap (addsR s.stock))) := by
            unfold Hid
            rw [hall.out, List.drop_eq_getElem_cons hkl, List.flatMap_cons]
            have e : addsR s.stock l[k2] = s.stock[l[k2].of].needs.map fun n => (⟨l[k2].path, n⟩ : WhoD) := by
              unfold addsR needsOf
              rw [List.getD_eq_getElem?_getD, List.getElem?_eq_getElem hofk]; rfl
            rw [e]
          clear hc hcs hsr hall
          generalize s.stock[l[k2].of].needs = m at *
          generalize l[k2].path = pt at *
          generalize l[k2].of = mo at *
          have j0 : (0 : Int) ≤ (k2 : Int) := by omega
          have j1 : (k2 : Int) < (n' : Int) := by omega
          have j2 : (0 : Int) ≤ (mo : Int) := by omega
          have j3 : (mo : Int) < (sn : Int) := by have h1 := HSL.out; omega
          have HNR := hid' hnr
          have HNL := hid' hnr.1
          have hnn : nn ≤ 1000 := by have := hnr.1; omega
          have d1 := (hbel.cell (p := ⟨g, o + k2 * 2 + 1, none⟩) hg).trans c1
          have d2 := (hbel.cell (p := ⟨b, 0, none⟩) HS.out.lt).trans es
          have d3 := (hbel.cell (p := ⟨gs, os + mo * 5 + 4, none⟩) hgs).trans q4
          have HC0 := hid' c0
          clear hnr c0 c1 es q4
          obtain ⟨wo, rfl⟩ : ∃ wo, wo = wr := ⟨_, rfl⟩
          go_wp2
          go_region_held3 (fun w' => w'.cell? ⟨b, 0, none⟩ = some (.slice (some ⟨gs, os, none⟩) sn sc) ∧ w'.cell? ⟨g, o + k2 * 2 + 1, none⟩ = some (.int .i64 mo) ∧ w'.cell? ⟨gs, os + mo * 5 + 4, none⟩ = some (.slice na nn nc)) (go_keep) (fail)
          clear d1 d2 d3
          go_wp2
          go_loopw [7, 11] (fun v i wr => ∃ (j : Nat) (a3 : List WhoD), j ≤ nn ∧ a3.length ≤ 1000 + 1000 * k2 + j ∧ i = .int .i64 j ∧ wr.ownsRow w.heap.size 200 3 v a3.length (a3.flatMap whoC) ∧ Below w.heap.size w wr ∧ Hid (allR s.stock nd l = a3 ++ (((m.drop j).map fun n => (⟨pt, n⟩ : WhoD)) ++ (l.drop (k2 + 1)).flatMap (addsR s.stock)))) (fun _ i _ => nn - (intOf i).toNat)
          case atStart => exact ⟨0, ac, Nat.zero_le _, by omega, rfl, hown.drew, hbel.drew, HA⟩
          case round =>
            clear hown hbel hz HA
            obtain ⟨j, a3, hj, ha3, rfl, hown, hbel, hall⟩ := hrel
            have hz := hbel.size
            by_cases hlt3 : j < nn
            · have hjl : j < m.length := by have := HNL.out; omega
              obtain ⟨gn, on, rfl, hgn, hcn⟩ := HNR.out.cells hjl
              obtain ⟨n0, n1⟩ := hcn j hjl
              have e0 := (hbel.cell (p := ⟨g, o + k2 * 2, none⟩) hg).trans HC0.out
              have e1 := (hbel.cell (p := ⟨gn, on + j * 2, none⟩) hgn).trans n0
              have e2 := (hbel.cell (p := ⟨gn, on + j * 2 + 1, none⟩) hgn).trans n1
              have HF : Hid (allR s.stock nd l = (a3 ++ [⟨pt, m[j]⟩]) ++ (((m.drop (j + 1)).map fun n => (⟨pt, n⟩ : WhoD)) ++ (l.drop (k2 + 1)).flatMap (addsR s.stock))) := by
                unfold Hid; rw [hall.out, List.drop_eq_getElem_cons hjl, List.map_cons]; simp only [List.append_assoc, List.cons_append, List.nil_append]
              generalize m[j] = x at *
              have y0 : (0 : Int) ≤ (j : Int) := by omega
              have y1 : (j : Int) < (nn : Int) := by omega
              have hg2 : g < wr.heap.size := by omega
              have hgn2 : gn < wr.heap.size := by omega
              clear hall n0 n1 hcn
              go_wp2
              go_region_held3 (fun w' => w'.cell? ⟨g, o + k2 * 2, none⟩ = some (.string (bs pt)) ∧ w'.cell? ⟨gn, on + j * 2, none⟩ = some (.string (bs x.name)) ∧ w'.cell? ⟨gn, on + j * 2 + 1, none⟩ = some (.string (bs x.rng))) (first | (go_keep; done) | (go_split_ands; refine ⟨?_, ?_, ?_⟩ <;> (rw [hgrow.cell_far _ (by simp; omega) (by intro h; have := hown.lt _ h.symm; simp at this; omega)]; simp [*, go_sem])))
                ((refine step_append_lies _ (by rfl) _ _ 150 (by rfl) w.heap.size 200 i0 (.agg #[.string ByteArray.empty, .string ByteArray.empty, .string ByteArray.empty]) 3 48 Tryz.underlying150 hi hz0 hz1 hz2 (by rfl) (by omega) _ _ _ (by rfl) (by first | exact (hown.alloc _).drew | exact hown.drew.alloc _) ⟨wr.heap.size, 0, none⟩ 1 1 [.string (bs pt), .string (bs x.name), .string (bs x.rng)] (by rfl) (by rfl) (by first | exact news_three _ _ _ _ _) (who_one ⟨pt, x⟩) (by omega) (by unfold maxLen; omega) (by omega) (by simp; omega) (wr.heap.size + 1) (by simp) ?_; intro g1 cap1 w1 hown1 hgrow hat hlt1))
              have R := step_gen whoC (x := ⟨pt, x⟩) hown hbel (by first | exact ((Below.refl _ _).alloc (Nat.le_refl _) _).drew | exact (Below.refl _ _).drew.alloc (by simp) _) hown1 hgrow
              clear hown1 hgrow hown
              go_wp2
              go_roundw
              case rel => exact ⟨j + 1, _, by omega, by simp; omega, by go_num, R.1, R.2, HF⟩
              case measure => simp [intOf] <;> omega
            · have HF : Hid (allR s.stock nd l = a3 ++ (l.drop (k2 + 1)).flatMap (addsR s.stock)) := by
                unfold Hid; rw [hall.out, List.drop_of_length_le (by have := HNL.out; omega)]; simp only [List.map_nil, List.nil_append]
              clear hall
              go_wp2
              go_roundw
              case rel => exact ⟨k2 + 1, a3, by omega, by omega, by go_num, hown, hbel, HF⟩
              case measure => simp [intOf] <;> omega
        · have HF : Hid (allR s.stock nd l = ac) := by
            unfold Hid; rw [hall.out, List.drop_of_length_le (by have := HN'.out; omega)]; simp only [List.flatMap_nil, List.append_nil]
          have HR := hid' (And.intro hown hbel)
          clear hown hbel hall
          go_wp2
          go_ret
          exact ⟨_, rfl, by rw [HF.out]; exact HR.out.1, HR.out.2⟩

end Hst
end Go.Proofs.YtecocheolbkneaaGreatDoor
namespace Go.Proofs.YtecocheolbkneaaGreatDoor
open Go.RowKit
namespace Hst
set_option maxRecDepth 100000

def NeedsI (w : World) (v : Value) (l : List NeedD) : Prop := RowX needC 2 135 w v l
def PacksI (w : World) (v : Value) (l : List PackD) : Prop := RowX packC 2 146 w v l
def WhosI (w : World) (v : Value) (l : List WhoD) : Prop := RowX whoC 3 200 w v l
def EntsI (w : World) (v : Value) (zs : List (EntryD × Value)) : Prop := RowX entC 5 179 w v zs ∧ ∀ z ∈ zs, NeedsI w z.2 z.1.needs
theorem NeedsI.r {w : World} {a : Option Addr} {n cap : Nat} {l : List NeedD} (h : NeedsI w (.slice a n cap) l) : NeedsR w a n cap l := by
  obtain ⟨a', c', e, hr, _⟩ := h
  simp at e
  obtain ⟨rfl, rfl, rfl⟩ := e
  exact ⟨rfl, hr⟩
theorem PacksI.r {w : World} {a : Option Addr} {n cap : Nat} {l : List PackD} (h : PacksI w (.slice a n cap) l) : PacksR w a n cap l := by
  obtain ⟨a', c', e, hr, _⟩ := h
  simp at e
  obtain ⟨rfl, rfl, rfl⟩ := e
  exact ⟨rfl, hr⟩
theorem WhosI.r {w : World} {a : Option Addr} {n cap : Nat} {l : List WhoD} (h : WhosI w (.slice a n cap) l) : WhosR w a n cap l := by
  obtain ⟨a', c', e, hr, _⟩ := h
  simp at e
  obtain ⟨rfl, rfl, rfl⟩ := e
  exact ⟨rfl, hr⟩
theorem EntsI.below {w w' : World} {v : Value} {l : List (EntryD × Value)} (h : EntsI w v l) (hb : Below w.heap.size w w') : EntsI w' v l := ⟨h.1.below hb, fun z hz => RowX.below (h.2 z hz) hb⟩
structure DAt (w : World) (b : Nat) (s : SiteD) : Prop where
  lt : b < w.heap.size
  tag : tagOf w b = some 129
  stock : ∃ v zs, w.cell? ⟨b, 0, none⟩ = some v ∧ EntsI w v zs ∧ zs.map Prod.fst = s.stock
  needs : ∃ v, w.cell? ⟨b, 1, none⟩ = some v ∧ NeedsI w v s.needs
  packs : ∃ v, w.cell? ⟨b, 2, none⟩ = some v ∧ PacksI w v s.packs
  f1 : w.frozen? ⟨b, 1, none⟩ = false
  f2 : w.frozen? ⟨b, 2, none⟩ = false
theorem DAt.below {w w' : World} {b : Nat} {s : SiteD} (h : DAt w b s) (hb : Below w.heap.size w w') : DAt w' b s := by
  obtain ⟨hc, hf⟩ := bcell hb
  obtain ⟨v0, zs, e0, r0, z0⟩ := h.stock
  obtain ⟨v1, e1, r1⟩ := h.needs
  obtain ⟨v2, e2, r2⟩ := h.packs
  exact ⟨Nat.lt_of_lt_of_le h.lt hb.size, by rw [tagOf_below hb h.lt]; exact h.tag, ⟨v0, zs, by rw [hc _ _ h.lt]; exact e0, r0.below hb, z0⟩, ⟨v1, by rw [hc _ _ h.lt]; exact e1, RowX.below r1 hb⟩, ⟨v2, by rw [hc _ _ h.lt]; exact e2, RowX.below r2 hb⟩, by rw [hf _ _ h.lt]; exact h.f1, by rw [hf _ _ h.lt]; exact h.f2⟩
theorem DAt.site {w : World} {b : Nat} {s : SiteD} (h : DAt w b s) : SiteAt w b s := by
  obtain ⟨v0, zs, e0, r0, z0⟩ := h.stock
  obtain ⟨v1, e1, r1⟩ := h.needs
  obtain ⟨v2, e2, r2⟩ := h.packs
  obtain ⟨a0, c0, rfl, hr0, _⟩ := r0.1
  obtain ⟨a1, c1, rfl, hr1, _⟩ := r1
  obtain ⟨a2, c2, rfl, hr2, _⟩ := r2
  refine ⟨h.lt, ⟨a0, _, c0, e0, zs, z0, rfl, hr0, fun z hz => ?_⟩, ⟨a1, _, c1, e1, rfl, hr1⟩, ⟨a2, _, c2, e2, rfl, hr2⟩, h.f1, h.f2⟩
  obtain ⟨a, c, e, hr, _⟩ := r0.2 z hz
  exact ⟨a, _, c, e, rfl, hr⟩

theorem info_packD : (Tryz.prog.info? 146).map (fun i => (i.zero, i.size, i.bytes)) = some (some (.agg #[.string ByteArray.empty, .int .i64 0]), 2, 24) := by kernel_rfl
theorem packD_one (p : PackD) : ∀ u ∈ packC p, u.oneCell' = true := by intro u hu; simp [packC] at hu; rcases hu with rfl | rfl <;> rfl
theorem news_2' (w : World) (x y : Value) (t : TypeId) : ∀ j u, [x, y][j]? = some u → (w.alloc (.cells #[x, y] t)).cell? ((⟨w.heap.size, 0, none⟩ : Addr).add j) = some u := by
  intro j u hu
  exact World.news_of_block (heap_alloc_new w (.cells #[x, y] t)) j u (by simpa using hu)
theorem RowX.packs {w : World} {v : Value} {l : List PackD} (h : RowX packC 2 146 w v l) {k : Nat} (hk : k < l.length) :
    ∃ g o cap, v = .slice (some ⟨g, o, none⟩) l.length cap ∧ g < w.heap.size ∧ ∀ (j : Nat) (hj : j < l.length), w.cell? ⟨g, o + j * 2, none⟩ = some (.string (bs l[j].path)) ∧ w.cell? ⟨g, o + j * 2 + 1, none⟩ = some (.int .i64 l[j].of) := by
  obtain ⟨g, o, cap, hv, hg, hc⟩ := h.cells packC_len hk
  exact ⟨g, o, cap, hv, hg, fun j hj => ⟨hc j hj 0 (by omega), hc j hj 1 (by omega)⟩⟩
theorem placed_ins (p : PackD) : ∀ (l : List PackD) (b : Bool), placedGo p b l = insG (fun q => q.path) p b l
  | [], b => by cases b <;> rfl
  | x :: r, b => by
    simp only [placedGo, insG]
    split
    · rw [placed_ins p r true]
    · rw [placed_ins p r b]
theorem placedR_eq (l : List PackD) (p : PackD) : placedR l p = insG (fun q => q.path) p false l := placed_ins p l false

attribute [local go_sem ↓] Go.wp_at_zero Go.wp_at_succ

set_option maxHeartbeats 4000000 in
theorem placed_any (v : Value) (l : List PackD) (x : PackD) (w : World) (hl : PacksI w v l) (hn : l.length ≤ 100000) :
    Calls Tryz.prog 137 #[v, .agg #[.string (bs x.path), .int .i64 x.of]] w fun e w' => ∃ v', e = .returned v' ∧ PacksI w' v' (placedR l x) ∧ Below w.heap.size w w' := by
  obtain ⟨i0, hi, iz0, iz1, iz2⟩ := info_parts info_packD
  obtain ⟨a, cap, rfl⟩ := RowX.form hl
  rw [placedR_eq]
  obtain ⟨xp, xo⟩ := x
  have hbw := (Below.refl w.heap.size w).alloc (Nat.le_refl _) (.cells #[.string (bs xp), .int .i64 (xo : Nat)] 146)
  have HL1 := hid' (RowX.below hl hbw)
  have HW := hid' hbw
  have e0 : (w.alloc (.cells #[.string (bs xp), .int .i64 (xo : Nat)] 146)).cell? ⟨w.heap.size, 0, none⟩ = some (.string (bs xp)) := by simp
  have e1 : (w.alloc (.cells #[.string (bs xp), .int .i64 (xo : Nat)] 146)).cell? ⟨w.heap.size, 1, none⟩ = some (.int .i64 xo) := by simp
  have hsz : (w.alloc (.cells #[.string (bs xp), .int .i64 (xo : Nat)] 146)).heap.size = w.heap.size + 1 := by simp
  have HP : Hid (insG (fun q => q.path) ⟨xp, xo⟩ false l = [] ++ insG (fun q => q.path) ⟨xp, xo⟩ false (l.drop 0)) := rfl
  clear hl hbw
  go_enter Tryz.func137, Tryz.ntmps137
  go_wp2
  generalize w.alloc (.cells #[.string (bs xp), .int .i64 (xo : Nat)] 146) = W at *
  have HS := hid' hsz
  generalize hres : insG (fun q : PackD => q.path) ⟨xp, xo⟩ false l = res at *
  have HRES := hid' hres
  clear hres
  go_loopw [5, 6, 7] (fun v b i wr => ∃ (k : Nat) (pl : Bool) (acc : List PackD), k ≤ l.length ∧ acc.length ≤ 2 * k ∧ b = .bool pl ∧ i = .int .i64 k ∧ wr.ownsRow W.heap.size 146 2 v acc.length (acc.flatMap packC) ∧ Below W.heap.size W wr ∧ Hid (res = acc ++ insG (fun q => q.path) ⟨xp, xo⟩ pl (l.drop k))) (fun _ _ i _ => l.length - (intOf i).toNat)
  case atStart => exact ⟨0, false, [], Nat.zero_le _, by simp, rfl, rfl, World.ownsRow_nil _ _ _ _, Below.refl _ _, HP⟩
  case round =>
    obtain ⟨k, pl, acc, hk, hacc, rfl, rfl, hown, hbel, hall⟩ := hrel
    have hz := hbel.size
    have hwz : w.heap.size < W.heap.size := by have := HS.out; omega
    have hwr : w.heap.size < wr.heap.size := by omega
    obtain ⟨hcc, -⟩ := bcell hbel
    have d0 := (hcc w.heap.size 0 hwz).trans e0
    have d1 := (hcc w.heap.size 1 hwz).trans e1
    clear hcc HP
    by_cases hlt : k < l.length
    · obtain ⟨g, o, cap', hv, hg, hc⟩ := (RowX.below HL1.out hbel).packs hlt
      simp at hv
      obtain ⟨rfl, rfl⟩ := hv
      obtain ⟨c0, c1⟩ := hc k hlt
      have hgW : g < W.heap.size := by
        obtain ⟨g', o', _, hv', hg', _⟩ := RowX.packs HL1.out hlt
        simp at hv'; omega
      have k0 : (0 : Int) ≤ (k : Int) := by omega
      have k1 : (k : Int) < (l.length : Int) := by omega
      clear hc
      cases pl
      · by_cases hlo : less xp l[k].path = true
        · have HF : Hid (res = ((acc ++ [⟨xp, xo⟩]) ++ [l[k]]) ++ insG (fun q => q.path) ⟨xp, xo⟩ true (l.drop (k + 1))) := by unfold Hid; rw [hall.out, ig_put (fun q : PackD => q.path) ⟨xp, xo⟩ l k hlt hlo]; simp
          have hb : Op.bytesLess (bs xp).toList (bs l[k].path).toList = true := by rw [tx_toList, tx_toList, tx_bs, tx_bs]; exact hlo
          clear hlo hall
          generalize l[k] = y at *
          obtain ⟨yp, yo⟩ := y
          simp only at c0 c1 hb
          go_wp2
          go_region_held3 (fun w' => w'.cell? ⟨w.heap.size, 0, none⟩ = some (.string (bs xp)) ∧ w'.cell? ⟨g, o + k * 2, none⟩ = some (.string (bs yp))) (go_keep) (fail)
          have q0 := ((bcell hbel).1 g (o + k * 2) hgW).symm.trans c0
          have q1 := ((bcell hbel).1 g (o + k * 2 + 1) hgW).symm.trans c1
          go_wp2_with (first
            | (at_builtin; refine wpList_append_lies _ rfl _ _ 127 rfl W.heap.size 146 i0 (.agg #[.string ByteArray.empty, .int .i64 0]) 2 24 Tryz.underlying127 hi iz0 iz1 iz2 rfl (by omega) _ _ _ rfl (by first | exact (hown.alloc _).drew | exact hown.drew.alloc _) ⟨wr.heap.size, 0, none⟩ 1 1 [.string (bs xp), .int .i64 (xo : Nat)] rfl rfl (by first | exact news_2' _ _ _ _) (packD_one ⟨xp, xo⟩) (by omega) (by unfold maxLen; omega) (by omega) (by simp; omega) (wr.heap.size + 1) (by simp) ?_; intro g1 cap1 w1 hown1 hgrow hat hlt1; have R := step_gen2 packC (x := ⟨xp, xo⟩) rfl hown hbel (by first | exact ((Below.refl _ _).alloc (Nat.le_refl _) _).drew | exact (Below.refl _ _).drew.alloc (by simp) _) hown1 hgrow; have hcc := (bcell R.2).1; have f0 := (hcc g (o + k * 2) hgW).trans q0; have f1 := (hcc g (o + k * 2 + 1) hgW).trans q1; clear hown1 hgrow hown hcc; obtain ⟨hown2, hbel2⟩ := R; have hzz := hbel2.size; have hg1 : g < w1.heap.size := (by omega); have hlen2 : (acc ++ [(⟨xp, xo⟩ : PackD)]).length = acc.length + 1 := List.length_append)
            | (at_builtin; refine wpList_append_lies _ rfl _ _ 127 rfl W.heap.size 146 i0 (.agg #[.string ByteArray.empty, .int .i64 0]) 2 24 Tryz.underlying127 hi iz0 iz1 iz2 rfl (by omega) _ _ _ rfl (hown2.alloc _) ⟨w1.heap.size, 0, none⟩ 1 1 [.string (bs yp), .int .i64 (yo : Nat)] rfl rfl (by first | exact news_2' _ _ _ _) (packD_one ⟨yp, yo⟩) (by omega) (by unfold maxLen; omega) (by omega) (by simp; omega) (w1.heap.size + 1) (by simp) ?_; intro g3 cap3 w3 hown3 hgrow3 hat3 hlt3))
          have R := step_gen2 packC (x := ⟨yp, yo⟩) rfl hown2 hbel2 ((Below.refl _ _).alloc (Nat.le_refl _) _) hown3 hgrow3
          clear hown3 hgrow3 hown2
          go_wp2
          go_roundw
          case rel => exact ⟨k + 1, true, acc ++ [⟨xp, xo⟩] ++ [⟨yp, yo⟩], by omega, by simp; omega, rfl, by go_num, by have h := R.1; rw [hlen2] at h; exact h, R.2, HF⟩
          case measure => simp [intOf] <;> omega
        · have hlo : less xp l[k].path = false := by simpa using hlo
          have HF : Hid (res = (acc ++ [l[k]]) ++ insG (fun q => q.path) ⟨xp, xo⟩ false (l.drop (k + 1))) := by unfold Hid; rw [hall.out, ig_no (fun q : PackD => q.path) ⟨xp, xo⟩ l k hlt hlo]; simp
          have hb : Op.bytesLess (bs xp).toList (bs l[k].path).toList = false := by rw [tx_toList, tx_toList, tx_bs, tx_bs]; exact hlo
          clear hlo hall
          generalize l[k] = y at *
          obtain ⟨yp, yo⟩ := y
          simp only at c0 c1 hb
          go_wp2
          go_region_held3 (fun w' => w'.cell? ⟨w.heap.size, 0, none⟩ = some (.string (bs xp)) ∧ w'.cell? ⟨g, o + k * 2, none⟩ = some (.string (bs yp))) (go_keep) (fail)
          go_wp2_with (first | (at_builtin; refine wpList_append_lies _ rfl _ _ 127 rfl W.heap.size 146 i0 (.agg #[.string ByteArray.empty, .int .i64 0]) 2 24 Tryz.underlying127 hi iz0 iz1 iz2 rfl (by omega) _ _ _ rfl (by first | exact (hown.alloc _).drew | exact hown.drew.alloc _) ⟨wr.heap.size, 0, none⟩ 1 1 [.string (bs yp), .int .i64 (yo : Nat)] rfl rfl (by first | exact news_2' _ _ _ _) (packD_one ⟨yp, yo⟩) (by omega) (by unfold maxLen; omega) (by omega) (by simp; omega) (wr.heap.size + 1) (by simp) ?_; intro g1 cap1 w1 hown1 hgrow hat hlt1))
          have R := step_gen2 packC (x := ⟨yp, yo⟩) rfl hown hbel (by first | exact ((Below.refl _ _).alloc (Nat.le_refl _) _).drew | exact (Below.refl _ _).drew.alloc (by simp) _) hown1 hgrow
          clear hown1 hgrow hown
          go_wp2
          go_roundw
          case rel => exact ⟨k + 1, false, _, by omega, by simp; omega, rfl, by go_num, R.1, R.2, HF⟩
          case measure => simp [intOf] <;> omega
      · have HF : Hid (res = (acc ++ [l[k]]) ++ insG (fun q => q.path) ⟨xp, xo⟩ true (l.drop (k + 1))) := by unfold Hid; rw [hall.out, ig_on (fun q : PackD => q.path) ⟨xp, xo⟩ l k hlt]; simp
        clear hall
        generalize l[k] = y at *
        obtain ⟨yp, yo⟩ := y
        simp only at c0 c1
        go_wp2
        go_region
        go_wp2_with (first | (at_builtin; refine wpList_append_lies _ rfl _ _ 127 rfl W.heap.size 146 i0 (.agg #[.string ByteArray.empty, .int .i64 0]) 2 24 Tryz.underlying127 hi iz0 iz1 iz2 rfl (by omega) _ _ _ rfl (by first | exact (hown.alloc _).drew | exact hown.drew.alloc _) ⟨wr.heap.size, 0, none⟩ 1 1 [.string (bs yp), .int .i64 (yo : Nat)] rfl rfl (by first | exact news_2' _ _ _ _) (packD_one ⟨yp, yo⟩) (by omega) (by unfold maxLen; omega) (by omega) (by simp; omega) (wr.heap.size + 1) (by simp) ?_; intro g1 cap1 w1 hown1 hgrow hat hlt1))
        have R := step_gen2 packC (x := ⟨yp, yo⟩) rfl hown hbel (by first | exact ((Below.refl _ _).alloc (Nat.le_refl _) _).drew | exact (Below.refl _ _).drew.alloc (by simp) _) hown1 hgrow
        clear hown1 hgrow hown
        go_wp2
        go_roundw
        case rel => exact ⟨k + 1, true, _, by omega, by simp; omega, rfl, by go_num, R.1, R.2, HF⟩
        case measure => simp [intOf] <;> omega
    · have hfin := ig_end (fun q : PackD => q.path) ⟨xp, xo⟩ l k hlt pl
      cases pl
      · have HF : Hid (res = acc ++ [⟨xp, xo⟩]) := by unfold Hid; rw [hall.out, hfin]; simp
        clear hall hfin
        go_wp2_with (first | (at_builtin; refine wpList_append_lies _ rfl _ _ 127 rfl W.heap.size 146 i0 (.agg #[.string ByteArray.empty, .int .i64 0]) 2 24 Tryz.underlying127 hi iz0 iz1 iz2 rfl (by omega) _ _ _ rfl (hown.alloc _) ⟨wr.heap.size, 0, none⟩ 1 1 [.string (bs xp), .int .i64 (xo : Nat)] rfl rfl (by first | exact news_2' _ _ _ _) (packD_one ⟨xp, xo⟩) (by omega) (by unfold maxLen; omega) (by omega) (by simp; omega) (wr.heap.size + 1) (by simp) ?_; intro g1 cap1 w1 hown1 hgrow hat hlt1))
        have R := step_gen2 packC (x := ⟨xp, xo⟩) rfl hown hbel ((Below.refl _ _).alloc (Nat.le_refl _) _) hown1 hgrow
        clear hown1 hgrow hown
        have HR := hid' R
        have HB := hid' (HW.out.trans (R.2.mono (by omega)))
        clear R hbel
        go_wp2
        go_ret
        refine ⟨_, rfl, ?_, HB.out⟩
        rw [HRES.out, HF.out]
        exact RowX.of_own HR.out.1
      · have HF : Hid (res = acc) := by unfold Hid; rw [hall.out, hfin]; simp
        have HR := hid' (And.intro hown hbel)
        have HB := hid' (HW.out.trans (hbel.mono (by omega)))
        clear hown hbel hall
        go_wp2
        go_ret
        refine ⟨_, rfl, ?_, HB.out⟩
        rw [HRES.out, HF.out]
        exact RowX.of_own HR.out.1

end Hst
end Go.Proofs.YtecocheolbkneaaGreatDoor
