/- Dplaced, Dinuse, Dpruned -/
import Derived.Test.YtecocheolbkneaaGreatDoorW20
import Derived.Test.YtecocheolbkneaaGreatDoorW11
import Derived.Test.YtecocheolbkneaaGreatDoorW17
import Derived.Deep.DeepCutAuto
import Derived.Deep.RegionLaw
namespace Go.Proofs.YtecocheolbkneaaGreatDoor
open Go.RowKit
namespace Hst
set_option maxRecDepth 100000

def NeedsI (w : World) (v : Value) (l : List NeedD) : Prop := RowX needC 2 135 w v l
def PacksI (w : World) (v : Value) (l : List PackD) : Prop := RowX packC 2 146 w v l
def WhosI (w : World) (v : Value) (l : List WhoD) : Prop := RowX whoC 3 200 w v l
def EntsI (w : World) (v : Value) (zs : List (EntryD × Value)) : Prop := RowX entC 5 179 w v zs ∧ ∀ z ∈ zs, NeedsI w z.2 z.1.needs
theorem NeedsI.r {w : World} {a : Option Addr} {n cap : Nat} {l : List NeedD} (h : NeedsI w (.slice a n cap) l) : NeedsR w a n cap l := by
  obtain ⟨a', c', e, hr, _⟩ := h
  simp at e
  obtain ⟨rfl, rfl, rfl⟩ := e
  exact ⟨rfl, hr⟩
theorem PacksI.r {w : World} {a : Option Addr} {n cap : Nat} {l : List PackD} (h : PacksI w (.slice a n cap) l) : PacksR w a n cap l := by
  obtain ⟨a', c', e, hr, _⟩ := h
  simp at e
  obtain ⟨rfl, rfl, rfl⟩ := e
  exact ⟨rfl, hr⟩
theorem WhosI.r {w : World} {a : Option Addr} {n cap : Nat} {l : List WhoD} (h : WhosI w (.slice a n cap) l) : WhosR w a n cap l := by
  obtain ⟨a', c', e, hr, _⟩ := h
  simp at e
  obtain ⟨rfl, rfl, rfl⟩ := e
  exact ⟨rfl, hr⟩
theorem EntsI.below {w w' : World} {v : Value} {l : List (EntryD × Value)} (h : EntsI w v l) (hb : Below w.heap.size w w') : EntsI w' v l := ⟨h.1.below hb, fun z hz => RowX.below (h.2 z hz) hb⟩
structure DAt (w : World) (b : Nat) (s : SiteD) : Prop where
  lt : b < w.heap.size
  tag : tagOf w b = some 129
  stock : ∃ v zs, w.cell? ⟨b, 0, none⟩ = some v ∧ EntsI w v zs ∧ zs.map Prod.fst = s.stock
  needs : ∃ v, w.cell? ⟨b, 1, none⟩ = some v ∧ NeedsI w v s.needs
  packs : ∃ v, w.cell? ⟨b, 2, none⟩ = some v ∧ PacksI w v s.packs
  f1 : w.frozen? ⟨b, 1, none⟩ = false
  f2 : w.frozen? ⟨b, 2, none⟩ = false
theorem DAt.below {w w' : World} {b : Nat} {s : SiteD} (h : DAt w b s) (hb : Below w.heap.size w w') : DAt w' b s := by
  obtain ⟨hc, hf⟩ := bcell hb
  obtain ⟨v0, zs, e0, r0, z0⟩ := h.stock
  obtain ⟨v1, e1, r1⟩ := h.needs
  obtain ⟨v2, e2, r2⟩ := h.packs
  exact ⟨Nat.lt_of_lt_of_le h.lt hb.size, by rw [tagOf_below hb h.lt]; exact h.tag, ⟨v0, zs, by rw [hc _ _ h.lt]; exact e0, r0.below hb, z0⟩, ⟨v1, by rw [hc _ _ h.lt]; exact e1, RowX.below r1 hb⟩, ⟨v2, by rw [hc _ _ h.lt]; exact e2, RowX.below r2 hb⟩, by rw [hf _ _ h.lt]; exact h.f1, by rw [hf _ _ h.lt]; exact h.f2⟩
theorem DAt.site {w : World} {b : Nat} {s : SiteD} (h : DAt w b s) : SiteAt w b s := by
  obtain ⟨v0, zs, e0, r0, z0⟩ := h.stock
  obtain ⟨v1, e1, r1⟩ := h.needs
  obtain ⟨v2, e2, r2⟩ := h.packs
  obtain ⟨a0, c0, rfl, hr0, _⟩ := r0.1
  obtain ⟨a1, c1, rfl, hr1, _⟩ := r1
  obtain ⟨a2, c2, rfl, hr2, _⟩ := r2
  refine ⟨h.lt, ⟨a0, _, c0, e0, zs, z0, rfl, hr0, fun z hz => ?_⟩, ⟨a1, _, c1, e1, rfl, hr1⟩, ⟨a2, _, c2, e2, rfl, hr2⟩, h.f1, h.f2⟩
  obtain ⟨a, c, e, hr, _⟩ := r0.2 z hz
  exact ⟨a, _, c, e, rfl, hr⟩

theorem info_packD : (Tryz.prog.info? 146).map (fun i => (i.zero, i.size, i.bytes)) = some (some (.agg #[.string ByteArray.empty, .int .i64 0]), 2, 24) := by kernel_rfl
theorem packD_one (p : PackD) : ∀ u ∈ packC p, u.oneCell' = true := by intro u hu; simp [packC] at hu; rcases hu with rfl | rfl <;> rfl
theorem news_2' (w : World) (x y : Value) (t : TypeId) : ∀ j u, [x, y][j]? = some u → (w.alloc (.cells #[x, y] t)).cell? ((⟨w.heap.size, 0, none⟩ : Addr).add j) = some u := by
  intro j u hu
  exact World.news_of_block (heap_alloc_new w (.cells #[x, y] t)) j u (by simpa using hu)
theorem RowX.packs {w : World} {v : Value} {l : List PackD} (h : RowX packC 2 146 w v l) {k : Nat} (hk : k < l.length) :
    ∃ g o cap, v = .slice (some ⟨g, o, none⟩) l.length cap ∧ g < w.heap.size ∧ ∀ (j : Nat) (hj : j < l.length), w.cell? ⟨g, o + j * 2, none⟩ = some (.string (bs l[j].path)) ∧ w.cell? ⟨g, o + j * 2 + 1, none⟩ = some (.int .i64 l[j].of) := by
  obtain ⟨g, o, cap, hv, hg, hc⟩ := h.cells packC_len hk
  exact ⟨g, o, cap, hv, hg, fun j hj => ⟨hc j hj 0 (by omega), hc j hj 1 (by omega)⟩⟩
theorem placed_ins (p : PackD) : ∀ (l : List PackD) (b : Bool), placedGo p b l = insG (fun q => q.path) p b l
  | [], b => by cases b <;> rfl
  | x :: r, b => by
    simp only [placedGo, insG]
    split
    · rw [placed_ins p r true]
    · rw [placed_ins p r b]
theorem placedR_eq (l : List PackD) (p : PackD) : placedR l p = insG (fun q => q.path) p false l := placed_ins p l false

attribute [local go_sem ↓] Go.wp_at_zero Go.wp_at_succ

set_option maxHeartbeats 4000000 in
theorem placed_any (v : Value) (l : List PackD) (x : PackD) (w : World) (hl : PacksI w v l) (hn : l.length ≤ 100000) :
    Calls Tryz.prog 137 #[v, .agg #[.string (bs x.path), .int .i64 x.of]] w fun e w' => ∃ v', e = .returned v' ∧ PacksI w' v' (placedR l x) ∧ Below w.heap.size w w' := by
  obtain ⟨i0, hi, iz0, iz1, iz2⟩ := info_parts info_packD
  obtain ⟨a, cap, rfl⟩ := RowX.form hl
  rw [placedR_eq]
  obtain ⟨xp, xo⟩ := x
  have hbw := (Below.refl w.heap.size w).alloc (Nat.le_refl _) (.cells #[.string (bs xp), .int .i64 (xo : Nat)] 146)
  have HL1 := hid' (RowX.below hl hbw)
  have HW := hid' hbw
  have e0 : (w.alloc (.cells #[.string (bs xp), .int .i64 (xo : Nat)] 146)).cell? ⟨w.heap.size, 0, none⟩ = some (.string (bs xp)) := by simp
  have e1 : (w.alloc (.cells #[.string (bs xp), .int .i64 (xo : Nat)] 146)).cell? ⟨w.heap.size, 1, none⟩ = some (.int .i64 xo) := by simp
  have hsz : (w.alloc (.cells #[.string (bs xp), .int .i64 (xo : Nat)] 146)).heap.size = w.heap.size + 1 := by simp
  have HP : Hid (insG (fun q => q.path) ⟨xp, xo⟩ false l = [] ++ insG (fun q => q.path) ⟨xp, xo⟩ false (l.drop 0)) := rfl
  clear hl hbw
  go_enter Tryz.func137, Tryz.ntmps137
  go_wp2
  generalize w.alloc (.cells #[.string (bs xp), .int .i64 (xo : Nat)] 146) = W at *
  have HS := hid' hsz
  generalize hres : insG (fun q : PackD => q.path) ⟨xp, xo⟩ false l = res at *
  have HRES := hid' hres
  clear hres
  go_loopw [5, 6, 7] (fun v b i wr => ∃ (k : Nat) (pl : Bool) (acc : List PackD), k ≤ l.length ∧ acc.length ≤ 2 * k ∧ b = .bool pl ∧ i = .int .i64 k ∧ wr.ownsRow W.heap.size 146 2 v acc.length (acc.flatMap packC) ∧ Below W.heap.size W wr ∧ Hid (res = acc ++ insG (fun q => q.path) ⟨xp, xo⟩ pl (l.drop k))) (fun _ _ i _ => l.length - (intOf i).toNat)
  case atStart => exact ⟨0, false, [], Nat.zero_le _, by simp, rfl, rfl, World.ownsRow_nil _ _ _ _, Below.refl _ _, HP⟩
  case round =>
    obtain ⟨k, pl, acc, hk, hacc, rfl, rfl, hown, hbel, hall⟩ := hrel
    have hz := hbel.size
    have hwz : w.heap.size < W.heap.size := by have := HS.out; omega
    have hwr : w.heap.size < wr.heap.size := by omega
    obtain ⟨hcc, -⟩ := bcell hbel
    have d0 := (hcc w.heap.size 0 hwz).trans e0
    have d1 := (hcc w.heap.size 1 hwz).trans e1
    clear hcc HP
    by_cases hlt : k < l.length
    · obtain ⟨g, o, cap', hv, hg, hc⟩ := (RowX.below HL1.out hbel).packs hlt
      simp at hv
      obtain ⟨rfl, rfl⟩ := hv
      obtain ⟨c0, c1⟩ := hc k hlt
      have hgW : g < W.heap.size := by
        obtain ⟨g', o', _, hv', hg', _⟩ := RowX.packs HL1.out hlt
        simp at hv'; omega
      have k0 : (0 : Int) ≤ (k : Int) := by omega
      have k1 : (k : Int) < (l.length : Int) := by omega
      clear hc
      cases pl
      · by_cases hlo : less xp l[k].path = true
        · have HF : Hid (res = ((acc ++ [⟨xp, xo⟩]) ++ [l[k]]) ++ insG (fun q => q.path) ⟨xp, xo⟩ true (l.drop (k + 1))) := by unfold Hid; rw [hall.out, ig_put (fun q : PackD => q.path) ⟨xp, xo⟩ l k hlt hlo]; simp
          have hb : Op.bytesLess (bs xp).toList (bs l[k].path).toList = true := by rw [tx_toList, tx_toList, tx_bs, tx_bs]; exact hlo
          clear hlo hall
          generalize l[k] = y at *
          obtain ⟨yp, yo⟩ := y
          simp only at c0 c1 hb
          go_wp2
          go_region_held3 (fun w' => w'.cell? ⟨w.heap.size, 0, none⟩ = some (.string (bs xp)) ∧ w'.cell? ⟨g, o + k * 2, none⟩ = some (.string (bs yp))) (go_keep) (fail)
          have q0 := ((bcell hbel).1 g (o + k * 2) hgW).symm.trans c0
          have q1 := ((bcell hbel).1 g (o + k * 2 + 1) hgW).symm.trans c1
          go_wp2_with (first
            | (at_builtin; refine wpList_append_lies _ rfl _ _ 127 rfl W.heap.size 146 i0 (.agg #[.string ByteArray.empty, .int .i64 0]) 2 24 Tryz.underlying127 hi iz0 iz1 iz2 rfl (by omega) _ _ _ rfl (by first | exact (hown.alloc _).drew | exact hown.drew.alloc _) ⟨wr.heap.size, 0, none⟩ 1 1 [.string (bs xp), .int .i64 (xo : Nat)] rfl rfl (by first | exact news_2' _ _ _ _) (packD_one ⟨xp, xo⟩) (by omega) (by unfold maxLen; omega) (by omega) (by simp; omega) (wr.heap.size + 1) (by simp) ?_; intro g1 cap1 w1 hown1 hgrow hat hlt1; have R := step_gen2 packC (x := ⟨xp, xo⟩) rfl hown hbel (by first | exact ((Below.refl _ _).alloc (Nat.le_refl _) _).drew | exact (Below.refl _ _).drew.alloc (by simp) _) hown1 hgrow; have hcc := (bcell R.2).1; have f0 := (hcc g (o + k * 2) hgW).trans q0; have f1 := (hcc g (o + k * 2 + 1) hgW).trans q1; clear hown1 hgrow hown hcc; obtain ⟨hown2, hbel2⟩ := R; have hzz := hbel2.size; have hg1 : g < w1.heap.size := (by omega); have hlen2 : (acc ++ [(⟨xp, xo⟩ : PackD)]).length = acc.length + 1 := List.length_append)
            | (at_builtin; refine wpList_append_lies _ rfl _ _ 127 rfl W.heap.size 146 i0 (.agg #[.string ByteArray.empty, .int .i64 0]) 2 24 Tryz.underlying127 hi iz0 iz1 iz2 rfl (by omega) _ _ _ rfl (hown2.alloc _) ⟨w1.heap.size, 0, none⟩ 1 1 [.string (bs yp), .int .i64 (yo : Nat)] rfl rfl (by first | exact news_2' _ _ _ _) (packD_one ⟨yp, yo⟩) (by omega) (by unfold maxLen; omega) (by omega) (by simp; omega) (w1.heap.size + 1) (by simp) ?_; intro g3 cap3 w3 hown3 hgrow3 hat3 hlt3))
          have R := step_gen2 packC (x := ⟨yp, yo⟩) rfl hown2 hbel2 ((Below.refl _ _).alloc (Nat.le_refl _) _) hown3 hgrow3
          clear hown3 hgrow3 hown2
          go_wp2
          go_roundw
          case rel => exact ⟨k + 1, true, acc ++ [⟨xp, xo⟩] ++ [⟨yp, yo⟩], by omega, by simp; omega, rfl, by go_num, by have h := R.1; rw [hlen2] at h; exact h, R.2, HF⟩
          case measure => simp [intOf] <;> omega
        · have hlo : less xp l[k].path = false := by simpa using hlo
          have HF : Hid (res = (acc ++ [l[k]]) ++ insG (fun q => q.path) ⟨xp, xo⟩ false (l.drop (k + 1))) := by unfold Hid; rw [hall.out, ig_no (fun q : PackD => q.path) ⟨xp, xo⟩ l k hlt hlo]; simp
          have hb : Op.bytesLess (bs xp).toList (bs l[k].path).toList = false := by rw [tx_toList, tx_toList, tx_bs, tx_bs]; exact hlo
          clear hlo hall
          generalize l[k] = y at *
          obtain ⟨yp, yo⟩ := y
          simp only at c0 c1 hb
          go_wp2
          go_region_held3 (fun w' => w'.cell? ⟨w.heap.size, 0, none⟩ = some (.string (bs xp)) ∧ w'.cell? ⟨g, o + k * 2, none⟩ = some (.string (bs yp))) (go_keep) (fail)
          go_wp2_with (first | (at_builtin; refine wpList_append_lies _ rfl _ _ 127 rfl W.heap.size 146 i0 (.agg #[.string ByteArray.empty, .int .i64 0]) 2 24 Tryz.underlying127 hi iz0 iz1 iz2 rfl (by omega) _ _ _ rfl (by first | exact (hown.alloc _).drew | exact hown.drew.alloc _) ⟨wr.heap.size, 0, none⟩ 1 1 [.string (bs yp), .int .i64 (yo : Nat)] rfl rfl (by first | exact news_2' _ _ _ _) (packD_one ⟨yp, yo⟩) (by omega) (by unfold maxLen; omega) (by omega) (by simp; omega) (wr.heap.size + 1) (by simp) ?_; intro g1 cap1 w1 hown1 hgrow hat hlt1))
          have R := step_gen2 packC (x := ⟨yp, yo⟩) rfl hown hbel (by first | exact ((Below.refl _ _).alloc (Nat.le_refl _) _).drew | exact (Below.refl _ _).drew.alloc (by simp) _) hown1 hgrow
          clear hown1 hgrow hown
          go_wp2
          go_roundw
          case rel => exact ⟨k + 1, false, _, by omega, by simp; omega, rfl, by go_num, R.1, R.2, HF⟩
          case measure => simp [intOf] <;> omega
      · have HF : Hid (res = (acc ++ [l[k]]) ++ insG (fun q => q.path) ⟨xp, xo⟩ true (l.drop (k + 1))) := by unfold Hid; rw [hall.out, ig_on (fun q : PackD => q.path) ⟨xp, xo⟩ l k hlt]; simp
        clear hall
        generalize l[k] = y at *
        obtain ⟨yp, yo⟩ := y
        simp only at c0 c1
        go_wp2
        go_region
        go_wp2_with (first | (at_builtin; refine wpList_append_lies _ rfl _ _ 127 rfl W.heap.size 146 i0 (.agg #[.string ByteArray.empty, .int .i64 0]) 2 24 Tryz.underlying127 hi iz0 iz1 iz2 rfl (by omega) _ _ _ rfl (by first | exact (hown.alloc _).drew | exact hown.drew.alloc _) ⟨wr.heap.size, 0, none⟩ 1 1 [.string (bs yp), .int .i64 (yo : Nat)] rfl rfl (by first | exact news_2' _ _ _ _) (packD_one ⟨yp, yo⟩) (by omega) (by unfold maxLen; omega) (by omega) (by simp; omega) (wr.heap.size + 1) (by simp) ?_; intro g1 cap1 w1 hown1 hgrow hat hlt1))
        have R := step_gen2 packC (x := ⟨yp, yo⟩) rfl hown hbel (by first | exact ((Below.refl _ _).alloc (Nat.le_refl _) _).drew | exact (Below.refl _ _).drew.alloc (by simp) _) hown1 hgrow
        clear hown1 hgrow hown
        go_wp2
        go_roundw
        case rel => exact ⟨k + 1, true, _, by omega, by simp; omega, rfl, by go_num, R.1, R.2, HF⟩
        case measure => simp [intOf] <;> omega
    · have hfin := ig_end (fun q : PackD => q.path) ⟨xp, xo⟩ l k hlt pl
      cases pl
      · have HF : Hid (res = acc ++ [⟨xp, xo⟩]) := by unfold Hid; rw [hall.out, hfin]; simp
        clear hall hfin
        go_wp2_with (first | (at_builtin; refine wpList_append_lies _ rfl _ _ 127 rfl W.heap.size 146 i0 (.agg #[.string ByteArray.empty, .int .i64 0]) 2 24 Tryz.underlying127 hi iz0 iz1 iz2 rfl (by omega) _ _ _ rfl (hown.alloc _) ⟨wr.heap.size, 0, none⟩ 1 1 [.string (bs xp), .int .i64 (xo : Nat)] rfl rfl (by first | exact news_2' _ _ _ _) (packD_one ⟨xp, xo⟩) (by omega) (by unfold maxLen; omega) (by omega) (by simp; omega) (wr.heap.size + 1) (by simp) ?_; intro g1 cap1 w1 hown1 hgrow hat hlt1))
        have R := step_gen2 packC (x := ⟨xp, xo⟩) rfl hown hbel ((Below.refl _ _).alloc (Nat.le_refl _) _) hown1 hgrow
        clear hown1 hgrow hown
        have HR := hid' R
        have HB := hid' (HW.out.trans (R.2.mono (by omega)))
        clear R hbel
        go_wp2
        go_ret
        refine ⟨_, rfl, ?_, HB.out⟩
        rw [HRES.out, HF.out]
        exact RowX.of_own HR.out.1
      · have HF : Hid (res = acc) := by unfold Hid; rw [hall.out, hfin]; simp
        have HR := hid' (And.intro hown hbel)
        have HB := hid' (HW.out.trans (hbel.mono (by omega)))
        clear hown hbel hall
        go_wp2
        go_ret
        refine ⟨_, rfl, ?_, HB.out⟩
        rw [HRES.out, HF.out]
        exact RowX.of_own HR.out.1

end Hst
end Go.Proofs.YtecocheolbkneaaGreatDoor
namespace Go.Proofs.YtecocheolbkneaaGreatDoor
open Go.RowKit
namespace Hst
set_option maxRecDepth 100000

/-- What is used: no path twice, all of the tree. -/
structure UsD (l : List PackD) (used : List Tx) : Prop where
  nd : used.Nodup
  sub : ∀ p ∈ used, p ∈ l.map fun q => q.path
theorem UsD.le {l : List PackD} {used : List Tx} (h : UsD l used) : used.length ≤ l.length := by
  have := nodup_le used (l.map fun q => q.path) h.nd h.sub
  simpa using this
theorem packAt_mem {l : List PackD} {k : Nat} (h : k < l.length) : packAt l k = l[k] := by unfold packAt; rw [List.getD_eq_getElem?_getD, List.getElem?_eq_getElem h]; rfl
theorem UsD.push {l : List PackD} {used : List Tx} (h : UsD l used) {k : Nat} (hk : k < l.length) (hh : hasR used (packAt l k).path = false) : UsD l (used ++ [(packAt l k).path]) := by
  have hn : (packAt l k).path ∉ used := fun hm => by
    unfold hasR at hh
    have := List.any_eq_false.1 hh _ hm
    simp at this
  refine ⟨?_, fun p hp => ?_⟩
  · rw [List.nodup_append]
    refine ⟨h.nd, by simp, fun a ha b hb => ?_⟩
    simp only [List.mem_singleton] at hb
    subst hb
    exact fun e => hn (e ▸ ha)
  · simp only [List.mem_append, List.mem_singleton] at hp
    rcases hp with hp | rfl
    · exact h.sub p hp
    · rw [packAt_mem hk]; exact List.mem_map.2 ⟨l[k], List.getElem_mem hk, rfl⟩
def cnt (used : List Tx) (p : Tx) : Bool := decide (p = []) || hasR used p
theorem pg_off {l : List PackD} {used : List Tx} {more : Bool} {who : List WhoD} {i : Nat} (hi : i < who.length) (h : cnt used who[i].path = false) : passGo l used more (who.drop i) = passGo l used more (who.drop (i + 1)) := by
  rw [List.drop_eq_getElem_cons hi, passGo]; unfold cnt at h; rw [if_neg (by rw [h]; simp)]
theorem pg_none {l : List PackD} {used : List Tx} {more : Bool} {who : List WhoD} {i : Nat} (hi : i < who.length) (h : findR l who[i].path who[i].n.name = none) : passGo l used more (who.drop i) = passGo l used more (who.drop (i + 1)) := by
  rw [List.drop_eq_getElem_cons hi, passGo, h]; simp only; split <;> rfl
theorem pg_old {l : List PackD} {used : List Tx} {more : Bool} {who : List WhoD} {i k : Nat} (hi : i < who.length) (h : findR l who[i].path who[i].n.name = some k) (hh : hasR used (packAt l k).path = true) : passGo l used more (who.drop i) = passGo l used more (who.drop (i + 1)) := by
  rw [List.drop_eq_getElem_cons hi, passGo, h]; simp only; rw [if_pos hh]; split <;> rfl
theorem pg_new {l : List PackD} {used : List Tx} {more : Bool} {who : List WhoD} {i k : Nat} (hi : i < who.length) (h0 : cnt used who[i].path = true) (h : findR l who[i].path who[i].n.name = some k) (hh : hasR used (packAt l k).path = false) : passGo l used more (who.drop i) = passGo l (used ++ [(packAt l k).path]) true (who.drop (i + 1)) := by
  rw [List.drop_eq_getElem_cons hi, passGo, h]; simp only; unfold cnt at h0; rw [if_pos h0, if_neg (by rw [hh]; simp)]
theorem pg_fin {l : List PackD} {used : List Tx} {more : Bool} {who : List WhoD} {i : Nat} (hi : ¬ i < who.length) : passGo l used more (who.drop i) = (used, more) := by
  rw [List.drop_of_length_le (by omega)]; rfl
theorem usg_more {l : List PackD} {who : List WhoD} {f : Nat} {used u' : List Tx} (h : passGo l used false who = (u', true)) : useGo l who (f + 1) used = useGo l who f u' := by
  rw [useGo, h]; rfl
theorem usg_done {l : List PackD} {who : List WhoD} {f : Nat} {used u' : List Tx} (h : passGo l used false who = (u', false)) : useGo l who (f + 1) used = u' := by
  rw [useGo, h]; rfl
def lenOf : Value → Nat
  | .slice _ n _ => n
  | _ => 0
def flagOf : Value → Bool
  | .bool b => b
  | _ => false
theorem RowX.whoD {w : World} {v : Value} {l : List WhoD} (h : RowX whoC 3 200 w v l) {k : Nat} (hk : k < l.length) :
    ∃ g o cap, v = .slice (some ⟨g, o, none⟩) l.length cap ∧ g < w.heap.size ∧ ∀ (j : Nat) (hj : j < l.length), w.cell? ⟨g, o + j * 3, none⟩ = some (.string (bs l[j].path)) ∧ w.cell? ⟨g, o + j * 3 + 1, none⟩ = some (.string (bs l[j].n.name)) ∧ w.cell? ⟨g, o + j * 3 + 2, none⟩ = some (.string (bs l[j].n.rng)) := by
  obtain ⟨g, o, cap, hv, hg, hc⟩ := h.cells whoC_len hk
  exact ⟨g, o, cap, hv, hg, fun j hj => ⟨hc j hj 0 (by omega), hc j hj 1 (by omega), hc j hj 2 (by omega)⟩⟩

attribute [local go_sem ↓] Go.wp_at_zero Go.wp_at_succ

set_option maxHeartbeats 8000000 in
theorem inUseD_any (b : Nat) (s : SiteD) (nv : Value) (nd : List NeedD) (v : Value) (l : List PackD) (w : World) (hs : DAt w b s) (hn : NeedsI w nv nd) (hl : PacksI w v l) (hnl : nd.length ≤ 1000) (hll : l.length ≤ 1000) (hof : ∀ p ∈ l, p.of < s.stock.length) (hst : ∀ e ∈ s.stock, e.needs.length ≤ 1000) (hwo : ∀ x ∈ allR s.stock nd l, WhoOk x) (hwl : (allR s.stock nd l).length ≤ 100000) :
    Calls Tryz.prog 99 #[.pointer (some ⟨b, 0, none⟩), nv, v] w fun e w' => ∃ v', e = .returned v' ∧ RowX strC 1 9 w' v' (inUseR s.stock nd l) ∧ Below w.heap.size w w' := by
  obtain ⟨i0, hi, iz0, iz1, iz2⟩ := info_parts info_str
  obtain ⟨na, nc, rfl⟩ := RowX.form hn
  obtain ⟨la, lc, rfl⟩ := RowX.form hl
  have HAL := hid' (all_any b s na nd.length nc nd la l.length lc l w (DAt.site hs) (NeedsI.r hn) hnl (PacksI.r hl) hll hof hst)
  have HL := hid' hl
  have HIU : Hid (inUseR s.stock nd l = useGo l (allR s.stock nd l) (l.length + 1) []) := rfl
  have HWO := hid' hwo
  generalize inUseR s.stock nd l = res at *
  generalize allR s.stock nd l = who at *
  have HFI := hid' (fun p q w h hp hq => find_any la l.length lc l p q w h (by omega) hp hq)
  clear hs hn hl hwo
  go_enter Tryz.func99, Tryz.ntmps99
  go_wp2_with fail
  refine HAL.out.mono ?_
  rintro e w1 ⟨wv, rfl, hown0, hb1⟩
  obtain ⟨wa, wcp, rfl⟩ := own_slice hown0
  have HWI := hid' (show WhosI w1 (.slice wa who.length wcp) who from RowX.of_own hown0)
  have HB1 := hid' hb1
  have HL1 := hid' (RowX.below HL.out hb1)
  have hz1 := hb1.size
  have HU0 : Hid (UsD l []) := ⟨by simp, by simp⟩
  clear hown0 hb1 HL
  go_wp2
  go_loopw [8, 9] (fun v8 v9 wr => ∃ (used : List Tx) (more : Bool) (f : Nat), v9 = .bool more ∧ used.length ≤ 1000 ∧ wr.ownsRow w1.heap.size 9 1 v8 used.length (used.flatMap strC) ∧ Below w1.heap.size w1 wr ∧ Hid (UsD l used ∧ (more = true → l.length + 1 ≤ used.length + f ∧ res = useGo l who f used) ∧ (more = false → res = used))) (fun v8 v9 _ => if flagOf v9 = true then l.length + 2 - lenOf v8 else 0)
  case atStart => exact ⟨[], true, l.length + 1, rfl, by simp, World.ownsRow_nil _ _ _ _, Below.refl _ _, ⟨HU0.out, fun _ => ⟨by simp, HIU.out⟩, fun h => absurd h (by simp)⟩⟩
  case round =>
    obtain ⟨used, more, f, rfl, hul, hown, hbel, hall⟩ := hrel
    have hz := hbel.size
    cases more
    · have HF := hid' (hall.out.2.2 rfl)
      have HR := hid' (show RowX strC 1 9 wr _ used from RowX.of_own hown)
      have HBE := hid' (HB1.out.trans (hbel.mono hz1))
      obtain ⟨ua, uc, rfl⟩ := own_slice hown
      clear hall hown hbel
      go_wp2
      go_ret
      refine ⟨_, rfl, ?_, HBE.out⟩
      rw [HF.out]; exact HR.out
    · obtain ⟨hf1, hf2⟩ := hall.out.2.1 rfl
      have HUD := hid' hall.out.1
      have HF1 := hid' hf1
      have HF2 := hid' hf2
      obtain ⟨ua, uc, rfl⟩ := own_slice hown
      obtain ⟨wo, rfl⟩ : ∃ wo, wo = wr := ⟨_, rfl⟩
      clear hall hf1 hf2
      go_wp2
      go_loopw [8, 9, 10] (fun v8 v9 i wr => ∃ (us : List Tx) (mo : Bool) (k : Nat), k ≤ who.length ∧ v9 = .bool mo ∧ i = .int .i64 k ∧ us.length ≤ 1000 ∧ wr.ownsRow w1.heap.size 9 1 v8 us.length (us.flatMap strC) ∧ Below w1.heap.size w1 wr ∧ Hid (UsD l us ∧ ((mo = true → used.length + 1 ≤ us.length) ∧ used.length ≤ us.length) ∧ passGo l used false who = passGo l us mo (who.drop k))) (fun _ _ i _ => who.length - (intOf i).toNat)
      case atStart => exact ⟨used, false, 0, Nat.zero_le _, rfl, rfl, hul, hown, hbel, ⟨HUD.out, ⟨fun h => absurd h (by simp), Nat.le_refl _⟩, rfl⟩⟩
      case round =>
        obtain ⟨us, mo, k, hk, rfl, rfl, husl, hown, hbel, hall⟩ := hrel
        have hz2 := hbel.size
        have HUS := hid' hall.out.1; have HMO := hid' hall.out.2.1; have HPG := hid' hall.out.2.2
        obtain ⟨sa, sc, rfl⟩ := own_slice hown
        clear hall
        by_cases hlt : k < who.length
        · obtain ⟨g, o, cap', hv, hg, hc⟩ := (RowX.below HWI.out hbel).whoD hlt
          simp at hv
          obtain ⟨rfl, rfl⟩ := hv
          obtain ⟨c0, c1, c2⟩ := hc k hlt
          have hwk := HWO.out who[k] (List.getElem_mem hlt)
          have P1 := hid' (pg_off (l := l) (used := us) (more := mo) hlt)
          have P2 := hid' (pg_none (l := l) (used := us) (more := mo) hlt)
          have P3 := hid' (fun q => pg_old (l := l) (used := us) (more := mo) (k := q) hlt)
          have P4 := hid' (fun q => pg_new (l := l) (used := us) (more := mo) (k := q) hlt)
          have HFK := hid' (fun w h => HFI.out (bs who[k].path) (bs who[k].n.name) w h (by rw [bs_size]; exact hwk.1) (by rw [bs_size]; have := hwk.2.1; omega))
          rw [tx_bs, tx_bs] at HFK
          have HHK := hid' (fun p w h => has_any sa us.length sc us p w h (by omega))
          have HSR : Hid (StrsR wr sa us.length sc us) := ⟨rfl, RowR.of_own hown⟩
          have HO := hid' hown
          have HBL := hid' hbel
          have k0 : (0 : Int) ≤ (k : Int) := by omega
          have k1 : (k : Int) < (who.length : Int) := by omega
          clear hc hwk hown hbel
          generalize who[k] = x at *
          obtain ⟨xp, xn, xr⟩ := x
          simp only at c0 c1 c2 P1 P2 P3 P4 HFK
          have HHX := hid' (HHK.out (bs xp) wr HSR.out)
          rw [tx_bs] at HHX
          go_upto_region 9 with fail
          go_cut [11] (fun t wc => t = .bool (cnt us xp) ∧ wc = wr)
          case first =>
            by_cases hx0 : xp = []
            · have hb : (((bs xp).size : Int) == 0) = true := by rw [hx0]; rfl
              have HB : Hid (cnt us xp = true) := by unfold Hid cnt; simp [hx0]
              clear hx0
              go_wp2
              go_meet
              exact ⟨by rw [HB.out], rfl⟩
            · have hb : (((bs xp).size : Int) == 0) = false := by
                apply beq_eq_false_iff_ne.2
                rw [bs_size]
                have := List.length_pos_iff.2 hx0
                omega
              have HB : Hid (cnt us xp = hasR us xp) := by unfold Hid cnt; simp [hx0]
              clear hx0
              go_wp2_with fail
              refine HHX.out.mono ?_
              rintro e w2 ⟨rfl, rfl⟩
              go_wp2
              go_meet
              exact ⟨by rw [HB.out], rfl⟩
          case rest =>
            obtain ⟨rfl, rfl⟩ := hcut
            generalize hcn : cnt us xp = cn at *
            have HLR := hid' (PacksI.r (RowX.below HL1.out HBL.out))
            go_wp2
            go_region_held3 (fun w' => w'.cell? ⟨g, o + k * 3, none⟩ = some (.string (bs xp)) ∧ w'.cell? ⟨g, o + k * 3 + 1, none⟩ = some (.string (bs xn))) (go_keep)
              (first | (go_at_call 93; refine (HFK.out _ (by first | exact HLR.out | exact HLR.out.below (Below.refl _ _).drew)).mono ?_; rintro e w2 ⟨rfl, hb2⟩; have hy2 := (bcell hb2).1; simp at hy2))
            have hb2' := (Below.refl wc.heap.size wc).drew.trans (hb2.mono (by simp))
            have HB2 := hid' (HBL.out.trans (hb2'.mono hz2))
            have HO2 := hid' (own_below HO.out hb2')
            have hz3 := HB2.out.size
            clear hb2 hb2' hy2
            rcases hfd : findR l xp xn with _ | q
            · have HF : Hid (passGo l used false who = passGo l us mo (who.drop (k + 1))) := by unfold Hid; rw [HPG.out]; exact P2.out hfd
              clear hfd P1 P2 P3 P4 hcn
              simp only [idx]
              cases cn
              all_goals
                go_wp2
                go_roundw
                case rel => exact ⟨us, mo, k + 1, by omega, rfl, by go_num, husl, HO2.out, HB2.out, ⟨HUS.out, HMO.out, HF.out⟩⟩
                case measure => simp [intOf] <;> omega
            · have hql := findR_lt hfd
              cases cn
              · have HF : Hid (passGo l used false who = passGo l us mo (who.drop (k + 1))) := by unfold Hid; rw [HPG.out]; exact P1.out (by first | exact hcn | rfl | trivial)
                clear hfd P1 P2 P3 P4 hcn
                simp only [idx]
                have hq0 : (0 : Int) ≤ (q : Int) := by omega
                go_wp2
                go_roundw
                case rel => exact ⟨us, mo, k + 1, by omega, rfl, by go_num, husl, HO2.out, HB2.out, ⟨HUS.out, HMO.out, HF.out⟩⟩
                case measure => simp [intOf] <;> omega
              · have hpq := packAt_mem hql
                obtain ⟨g2, o2, cap2, hv2, hg2, hc2⟩ := RowX.packs (RowX.below HL1.out HB2.out) hql
                simp at hv2
                obtain ⟨rfl, rfl⟩ := hv2
                have d0 := (hc2 q hql).1
                have HP3 := hid' (P3.out q hfd)
                have HP4 := hid' (P4.out q (by first | exact hcn | rfl | trivial) hfd)
                have HPU := hid' (fun h => HUS.out.push hql h)
                rw [hpq] at HP3 HP4 HPU
                have HH2 := hid' (HHK.out (bs l[q].path) w2 ⟨rfl, RowR.of_own HO2.out⟩)
                rw [tx_bs] at HH2
                have hq0 : (0 : Int) ≤ (q : Int) := by omega
                have hq1 : (q : Int) < (l.length : Int) := by omega
                clear hc2 hpq hfd P1 P2 P3 P4 hcn
                generalize l[q].path = qp at *
                simp only [idx]
                rcases hha : hasR us qp with _ | _
                · have HF : Hid (passGo l used false who = passGo l (us ++ [qp]) true (who.drop (k + 1))) := by unfold Hid; rw [HPG.out]; exact HP4.out hha
                  have HUS2 := hid' (HPU.out hha)
                  have HLEN : Hid (used.length + 1 ≤ us.length + 1) := Nat.succ_le_succ HMO.out.2
                  have hul2 := HUS2.out.le
                  rw [hha] at HH2
                  clear hha HP3 HP4 HPU
                  have hown2 := HO2.out
                  go_wp2_with fail
                  refine HH2.out.mono ?_
                  rintro e w4 ⟨rfl, rfl⟩
                  go_wp2_with (first | (at_builtin; refine wpList_append_lies _ rfl _ _ 42 rfl w1.heap.size 9 i0 (.string ByteArray.empty) 1 16 Tryz.underlying42 hi iz0 iz1 iz2 rfl (by omega) _ _ _ rfl (hown2.alloc _) ⟨w4.heap.size, 0, none⟩ 1 1 [.string (bs qp)] rfl rfl (by first | exact cell_one_new _ _ _) (one_str _) (by omega) (by unfold maxLen; omega) (by omega) (by simp; omega) (w4.heap.size + 1) (by simp) ?_; intro g5 cap5 w5 hown5 hgrow5 hat5 hlt5))
                  have R := step_gen2 strC (x := qp) rfl hown2 HB2.out ((Below.refl _ _).alloc (Nat.le_refl _) _) hown5 hgrow5
                  have HR1 := hid' R.1
                  have HR2 := hid' R.2
                  have HMO2 : Hid (used.length + 1 ≤ (us ++ [qp]).length) := by
                    unfold Hid
                    rw [List.length_append, List.length_singleton]
                    exact HLEN.out
                  clear R hown5 hgrow5 hat5 hown2
                  go_wp2
                  go_roundw
                  case rel => exact ⟨us ++ [qp], true, k + 1, by omega, rfl, by go_num, by omega, HR1.out, HR2.out, ⟨HUS2.out, ⟨fun _ => HMO2.out, Nat.le_of_succ_le HMO2.out⟩, HF.out⟩⟩
                  case measure => simp [intOf] <;> omega
                · have HF : Hid (passGo l used false who = passGo l us mo (who.drop (k + 1))) := by unfold Hid; rw [HPG.out]; exact HP3.out hha
                  rw [hha] at HH2
                  clear hha HP3 HP4 HPU
                  go_wp2_with fail
                  refine HH2.out.mono ?_
                  rintro e w4 ⟨rfl, rfl⟩
                  go_wp2
                  go_roundw
                  case rel => exact ⟨us, mo, k + 1, by omega, rfl, by go_num, husl, HO2.out, HB2.out, ⟨HUS.out, HMO.out, HF.out⟩⟩
                  case measure => simp [intOf] <;> omega
        · have hfin := pg_fin (l := l) (used := us) (more := mo) hlt
          have hfz : 1 ≤ f := by have h1 := HF1.out; have h2 := HUD.out.le; omega
          obtain ⟨f', rfl⟩ : ∃ f', f = f' + 1 := ⟨f - 1, by omega⟩
          have HUL := hid' HUS.out.le
          cases mo
          · have HR : Hid (res = us) := by unfold Hid; rw [HF2.out]; exact usg_done (by rw [HPG.out, hfin])
            clear hfin
            go_wp2
            go_roundw
            case rel => exact ⟨us, false, 0, rfl, husl, hown, hbel, ⟨HUS.out, fun h => absurd h (by simp), fun _ => HR.out⟩⟩
            case measure => have h2 := HUD.out.le; simp [flagOf, lenOf]; omega
          · have HR : Hid (res = useGo l who f' us) := by unfold Hid; rw [HF2.out]; exact usg_more (by rw [HPG.out, hfin])
            have hmo := HMO.out.1 rfl
            clear hfin
            go_wp2
            go_roundw
            case rel => exact ⟨us, true, f', rfl, husl, hown, hbel, ⟨HUS.out, fun _ => ⟨by have := HF1.out; omega, HR.out⟩, fun h => absurd h (by simp)⟩⟩
            case measure => have h2 := HUD.out.le; have h3 := HUL.out; simp [flagOf, lenOf]; omega

end Hst
end Go.Proofs.YtecocheolbkneaaGreatDoor
namespace Go.Proofs.YtecocheolbkneaaGreatDoor
open Go.RowKit
namespace Hst
set_option maxRecDepth 100000

theorem prn_yes (used : List Tx) (out l : List PackD) (k : Nat) (hk : k < l.length) (h : hasR used l[k].path = true) : prunedGo used out (l.drop k) = prunedGo used (placedR out l[k]) (l.drop (k + 1)) := by
  rw [List.drop_eq_getElem_cons hk, prunedGo, if_pos h]
theorem prn_no (used : List Tx) (out l : List PackD) (k : Nat) (hk : k < l.length) (h : hasR used l[k].path = false) : prunedGo used out (l.drop k) = prunedGo used out (l.drop (k + 1)) := by
  rw [List.drop_eq_getElem_cons hk, prunedGo, if_neg (by rw [h]; simp)]
theorem prn_end (used : List Tx) (out l : List PackD) (k : Nat) (hk : ¬ k < l.length) : prunedGo used out (l.drop k) = out := by
  rw [List.drop_of_length_le (by omega)]; rfl
theorem placedR_len (l : List PackD) (p : PackD) : (placedR l p).length = l.length + 1 := by rw [placedR_eq]; exact insG_len' _ p l false
theorem useGo_ud {l : List PackD} {who : List WhoD} : ∀ (w : List WhoD) (used : List Tx) (more : Bool), UsD l used → UsD l (passGo l used more w).1
  | [], used, more, h => h
  | x :: r, used, more, h => by
    rw [passGo]
    split
    · rcases hf : findR l x.path x.n.name with _ | k
      · exact useGo_ud (who := who) r used more h
      · simp only
        by_cases hh : hasR used (packAt l k).path = true
        · rw [if_pos hh]; exact useGo_ud (who := who) r used more h
        · rw [if_neg hh]; exact useGo_ud (who := who) r _ true (h.push (findR_lt hf) (by simpa using hh))
    · exact useGo_ud (who := who) r used more h
theorem useGo_us {l : List PackD} {who : List WhoD} : ∀ (f : Nat) (used : List Tx), UsD l used → UsD l (useGo l who f used)
  | 0, used, h => h
  | f + 1, used, h => by
    rw [useGo]
    have h1 := useGo_ud (who := who) who used false h
    split
    · exact useGo_us f _ h1
    · exact h1
theorem inUseR_le (st : List EntryD) (nd : List NeedD) (l : List PackD) : (inUseR st nd l).length ≤ l.length := (useGo_us (who := allR st nd l) (l.length + 1) [] ⟨by simp, by simp⟩).le

set_option maxHeartbeats 4000000 in
theorem prunedD_any (b : Nat) (s : SiteD) (nv : Value) (nd : List NeedD) (v : Value) (l : List PackD) (w : World) (hs : DAt w b s) (hn : NeedsI w nv nd) (hl : PacksI w v l) (hnl : nd.length ≤ 1000) (hll : l.length ≤ 1000) (hof : ∀ p ∈ l, p.of < s.stock.length) (hst : ∀ e ∈ s.stock, e.needs.length ≤ 1000) (hwo : ∀ x ∈ allR s.stock nd l, WhoOk x) (hwl : (allR s.stock nd l).length ≤ 100000) :
    Calls Tryz.prog 101 #[.pointer (some ⟨b, 0, none⟩), nv, v] w fun e w' => ∃ v', e = .returned v' ∧ PacksI w' v' (prunedR s.stock nd l) ∧ Below w.heap.size w w' := by
  obtain ⟨na, nc, rfl⟩ := RowX.form hn
  obtain ⟨la, lc, rfl⟩ := RowX.form hl
  have HIU := hid' (inUseD_any b s (.slice na nd.length nc) nd (.slice la l.length lc) l w hs hn hl hnl hll hof hst hwo hwl)
  have HUL := hid' (inUseR_le s.stock nd l)
  have HL := hid' hl
  have HPR : Hid (prunedR s.stock nd l = prunedGo (inUseR s.stock nd l) [] (l.drop 0)) := rfl
  generalize prunedR s.stock nd l = res at *
  generalize inUseR s.stock nd l = used at *
  clear hs hn hl hwo hof hst
  go_enter Tryz.func101, Tryz.ntmps101
  go_wp2_with fail
  refine HIU.out.mono ?_
  rintro e w1 ⟨uv, rfl, hrow, hb1⟩
  obtain ⟨ua, uc, rfl⟩ := RowX.form hrow
  have HU := hid' hrow
  have HB1 := hid' hb1
  have HL1 := hid' (RowX.below HL.out hb1)
  have hz1 := hb1.size
  clear hrow hb1 HL
  go_wp2
  go_loopw [8, 9] (fun v8 i wr => ∃ (k : Nat) (out : List PackD) (a : Option Addr) (n c : Nat), k ≤ l.length ∧ out.length ≤ k ∧ v8 = .slice a n c ∧ i = .int .i64 k ∧ Below w1.heap.size w1 wr ∧ Hid (PacksI wr (.slice a n c) out ∧ res = prunedGo used out (l.drop k))) (fun _ i _ => l.length - (intOf i).toNat)
  case atStart => exact ⟨0, [], none, 0, 0, Nat.zero_le _, by simp, rfl, rfl, Below.refl _ _, ⟨RowX.nil _ _ _ _, HPR.out⟩⟩
  case round =>
    obtain ⟨k, out, oa, on, oc, hk, hol, rfl, rfl, hbel, hall⟩ := hrel
    have hz := hbel.size
    have HOI := hid' hall.out.1
    have HRE := hid' hall.out.2
    clear hall
    by_cases hlt : k < l.length
    · obtain ⟨g, o, cap', hv, hg, hc⟩ := (RowX.below HL1.out hbel).packs hlt
      simp at hv
      obtain ⟨rfl, rfl⟩ := hv
      obtain ⟨c0, c1⟩ := hc k hlt
      have hur := RowX.below HU.out hbel
      have HSR : Hid (StrsR wr ua used.length uc used) := by
        obtain ⟨a', c', e, hr, _⟩ := hur
        simp at e
        obtain ⟨rfl, rfl⟩ := e
        exact ⟨rfl, hr⟩
      have HHA := hid' (has_any ua used.length uc used (bs l[k].path) wr HSR.out (by have := HUL.out; omega))
      rw [tx_bs] at HHA
      have HPL := hid' (placed_any (.slice oa on oc) out l[k] wr HOI.out (by omega))
      have hpl := placedR_len out l[k]
      have k0 : (0 : Int) ≤ (k : Int) := by omega
      have k1 : (k : Int) < (l.length : Int) := by omega
      clear hc hur
      rcases hha : hasR used l[k].path with _ | _
      · have HF : Hid (res = prunedGo used out (l.drop (k + 1))) := by unfold Hid; rw [HRE.out, prn_no used out l k hlt hha]
        rw [hha] at HHA
        clear hha hpl HPL
        generalize l[k] = x at *
        go_wp2_with fail
        refine HHA.out.mono ?_
        rintro e w2 ⟨rfl, rfl⟩
        go_wp2
        go_roundw
        case rel => exact ⟨k + 1, out, oa, on, oc, by omega, by omega, rfl, by go_num, hbel, ⟨HOI.out, HF.out⟩⟩
        case measure => simp [intOf] <;> omega
      · have HF : Hid (res = prunedGo used (placedR out l[k]) (l.drop (k + 1))) := by unfold Hid; rw [HRE.out, prn_yes used out l k hlt hha]
        rw [hha] at HHA
        clear hha
        have HPN : Hid ((placedR out l[k]).length ≤ k + 1) := by unfold Hid; omega
        clear hpl
        generalize l[k] = x at *
        obtain ⟨xp, xo⟩ := x
        simp only at c0 c1 HHA HPL
        go_wp2_with fail
        refine HHA.out.mono ?_
        rintro e w2 ⟨rfl, rfl⟩
        go_wp2_with fail
        refine HPL.out.mono ?_
        rintro e w3 ⟨v3, rfl, hin3, hb3⟩
        obtain ⟨pa, pc, rfl⟩ := RowX.form hin3
        have HB3 := hid' (hbel.trans (hb3.mono hz))
        have HI3 := hid' hin3
        clear hb3 hin3
        go_wp2
        go_roundw
        case rel => exact ⟨k + 1, placedR out ⟨xp, xo⟩, pa, _, pc, by omega, HPN.out, rfl, by go_num, HB3.out, ⟨HI3.out, HF.out⟩⟩
        case measure => simp [intOf] <;> omega
    · have HF : Hid (res = out) := by unfold Hid; rw [HRE.out, prn_end used out l k hlt]
      have HBE := hid' (HB1.out.trans (hbel.mono hz1))
      go_wp2
      go_ret
      refine ⟨_, rfl, ?_, HBE.out⟩
      rw [HF.out]; exact HOI.out

end Hst
end Go.Proofs.YtecocheolbkneaaGreatDoor
