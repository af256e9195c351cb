/- Puse, Pmv, Pinuse -/
import Derived.Test.YtecocheolbkneaaDoorW18
namespace Go.Proofs.YtecocheolbkneaaDoor
namespace Hst

theorem insG_true {α : Type} (key : α → Tx) (x : α) : ∀ l : List α, insG key x true l = l
  | [] => rfl
  | y :: r => by simp [insG, insG_true key x r]
theorem insG_perm {α : Type} (key : α → Tx) (x : α) : ∀ l : List α, (insG key x false l).Perm (x :: l)
  | [] => by simp [insG]
  | y :: r => by
    simp only [insG, true_and]
    split
    · rw [insG_true]
    · exact ((insG_perm key x r).cons y).trans (List.Perm.swap x y r)
theorem nodup_le {α : Type} [DecidableEq α] : ∀ (l m : List α), l.Nodup → (∀ x ∈ l, x ∈ m) → l.length ≤ m.length
  | [], m, _, _ => by simp
  | x :: r, m, hn, hs => by
    have hx := hs x (by simp)
    have h1 : (m.erase x).length = m.length - 1 := List.length_erase_of_mem hx
    have h2 := nodup_le r (m.erase x) (List.nodup_cons.1 hn).2 (fun y hy => by
      have hne : y ≠ x := fun e => (List.nodup_cons.1 hn).1 (e ▸ hy)
      exact (List.mem_erase_of_ne hne).2 (hs y (by simp [hy])))
    have h3 : 0 < m.length := List.length_pos_of_mem hx
    simp; omega
/-- What holds of the used packages and of the list. -/
structure UInv (t : List PkX) (used : List PkX) (list : List WhX) : Prop where
  nd : (used.map fun p => p.path).Nodup
  sub : ∀ p ∈ used, p ∈ t
  len : list.length = used.length + 1
theorem UInv.le {t used : List PkX} {list : List WhX} (h : UInv t used list) : used.length ≤ t.length := by
  have := nodup_le (used.map fun p => p.path) (t.map fun p => p.path) h.nd (fun x hx => by
    simp only [List.mem_map] at hx ⊢
    obtain ⟨p, hp, e⟩ := hx
    exact ⟨p, h.sub p hp, e⟩)
  simpa using this
theorem findGo_in (l : List PkX) (n : Tx) : ∀ (m : Nat) (f : Tx) (p : PkX), f.length ≤ m → findP l n f = some p → p ∈ l
  | m, f, p, hm, h => by
    rw [findP_eq] at h
    by_cases h0 : f = []
    · rw [dif_pos h0] at h; exact List.mem_of_find?_eq_some h
    · rw [dif_neg h0] at h
      rcases hi : inP l f n with _ | q
      · rw [hi] at h
        have hlt := folderP_lt h0
        cases m with
        | zero => have := List.length_pos_iff.2 h0; omega
        | succ m => exact findGo_in l n m _ p (by omega) h
      · rw [hi] at h; simp at h; subst h; exact List.mem_of_find?_eq_some hi
theorem findP_in {l : List PkX} {n f : Tx} {p : PkX} (h : findP l n f = some p) : p ∈ l := findGo_in l n _ f p (Nat.le_refl _) h
theorem UInv.step {t used : List PkX} {list : List WhX} (h : UInv t used list) {p : PkX} (hp : p ∈ t) (hh : hasAtP used p.path = false) (x : WhX) : UInv t (withP used p) (list ++ [x]) := by
  have hperm := insG_perm (fun p : PkX => p.path) p used
  refine ⟨?_, fun q hq => ?_, ?_⟩
  · have h1 : ((withP used p).map fun p => p.path).Perm (p.path :: used.map fun p => p.path) := hperm.map _
    refine h1.nodup_iff.2 (List.nodup_cons.2 ⟨fun hm => ?_, h.nd⟩)
    simp only [List.mem_map] at hm
    obtain ⟨q, hq, e⟩ := hm
    unfold hasAtP at hh
    have := List.any_eq_false.1 hh q hq
    simp at this
    exact this e
  · rcases List.mem_cons.1 (hperm.mem_iff.1 hq) with rfl | hq
    · exact hp
    · exact h.sub q hq
  · have := insG_len' (fun p : PkX => p.path) p used false
    unfold withP
    rw [this]
    simp [h.len]
theorem ug_none {t used : List PkX} {path : Tx} {list : List WhX} {nd : List NeedX} {j : Nat} (hj : j < nd.length) (h : findP t nd[j].name path = none) : usedGo t path used list (nd.drop j) = usedGo t path used list (nd.drop (j + 1)) := by
  rw [List.drop_eq_getElem_cons hj, usedGo, h]
theorem ug_has {t used : List PkX} {path : Tx} {list : List WhX} {nd : List NeedX} {j : Nat} {p : PkX} (hj : j < nd.length) (h : findP t nd[j].name path = some p) (hh : hasAtP used p.path = true) : usedGo t path used list (nd.drop j) = usedGo t path used list (nd.drop (j + 1)) := by
  rw [List.drop_eq_getElem_cons hj, usedGo, h]; simp only; rw [if_pos hh]
theorem ug_new {t used : List PkX} {path : Tx} {list : List WhX} {nd : List NeedX} {j : Nat} {p : PkX} (hj : j < nd.length) (h : findP t nd[j].name path = some p) (hh : hasAtP used p.path = false) : usedGo t path used list (nd.drop j) = usedGo t path (withP used p) (list ++ [⟨p.path, p.e.needs, p.e.nd⟩]) (nd.drop (j + 1)) := by
  rw [List.drop_eq_getElem_cons hj, usedGo, h]; simp only; rw [if_neg (by rw [hh]; simp)]
theorem ug_end {t used : List PkX} {path : Tx} {list : List WhX} {nd : List NeedX} {j : Nat} (hj : ¬ j < nd.length) : usedGo t path used list (nd.drop j) = (used, list) := by
  rw [List.drop_of_length_le (by omega)]; rfl
theorem iu_step {t used : List PkX} {list : List WhX} {f i : Nat} (hi : i < list.length) : inUseGo t (f + 1) i used list = inUseGo t f (i + 1) (usedGo t list[i].path used list list[i].nd).1 (usedGo t list[i].path used list list[i].nd).2 := by
  rw [inUseGo, List.getElem?_eq_getElem hi]
theorem iu_end {t used : List PkX} {list : List WhX} {f i : Nat} (hi : ¬ i < list.length) : inUseGo t (f + 1) i used list = used := by
  rw [inUseGo, List.getElem?_eq_none (by omega)]

end Hst
end Go.Proofs.YtecocheolbkneaaDoor
namespace Go.Proofs.YtecocheolbkneaaDoor
open Go.RowKit
namespace Hst

structure Mv (c B : Nat) (w w' : World) (lv lv' : Value) : Prop where
  below : Below B w w'
  free : ∀ s, s < w.heap.size → s ≠ c → lv.ownBlock ≠ some s → w'.heap[s]? = w.heap[s]? ∧ lv'.ownBlock ≠ some s
theorem Mv.refl (c B : Nat) (w : World) (lv : Value) : Mv c B w w lv lv := ⟨Below.refl _ _, fun _ _ _ h => ⟨rfl, h⟩⟩
theorem Mv.trans {c B : Nat} {w w1 w2 : World} {l0 l1 l2 : Value} (h : Mv c B w w1 l0 l1) (k : Mv c B w1 w2 l1 l2) : Mv c B w w2 l0 l2 :=
  ⟨h.below.trans k.below, fun s h1 h2 h3 => by
    obtain ⟨a, b⟩ := h.free s h1 h2 h3
    obtain ⟨a', b'⟩ := k.free s (Nat.lt_of_lt_of_le h1 h.below.size) h2 b
    exact ⟨a'.trans a, b'⟩⟩
theorem Mv.of_below {c B : Nat} {w w' : World} {lv : Value} (h : Below w.heap.size w w') (hB : B ≤ w.heap.size) : Mv c B w w' lv lv := ⟨h.mono hB, fun s h1 _ h3 => ⟨h.block s h1, h3⟩⟩
theorem RowX.mv {α : Type} {f : α → List Value} {size n B' : Nat} {t : TypeId} {c B : Nat} {w w' : World} {v lv lv' : Value} {l : List α} {xs : List Value} (h : RowX f size t w v l) (ho : w.ownsRow B' 145 2 lv n xs) (hc : tagOf w c = some 96) (hm : Mv c B w w' lv lv') (h1 : t ≠ 145) (h2 : t ≠ 96) : RowX f size t w' v l := by
  obtain ⟨a, cap, e, hr, ht⟩ := h
  have hfar : ∀ g o, 0 < l.length → a = some ⟨g, o, none⟩ → g < w.heap.size → w'.heap[g]? = w.heap[g]? := fun g o h0 ha hlt => by
    refine (hm.free g hlt (fun e => ?_) (fun e => ?_)).1
    · subst e; have := ht g o h0 ha; rw [hc] at this; exact h2 (by simpa using this.symm)
    · have := tag_of_own ho e; rw [ht g o h0 ha] at this; exact h1 (by simpa using this)
  refine ⟨a, cap, e, ⟨hr.len, hr.cap, fun hn => ?_⟩, fun g o h0 ha => ?_⟩
  · obtain ⟨g, o, ha, hlt, hcc⟩ := hr.at' hn
    exact ⟨g, o, ha, Nat.lt_of_lt_of_le hlt hm.below.size, fun i hi => by rw [World.cell?_of_block (w := w) (hfar g o hn ha hlt)]; exact hcc i hi⟩
  · obtain ⟨g', o', ha', hlt, _⟩ := hr.at' h0
    rw [ha] at ha'
    simp at ha'
    have hq := hfar g o h0 ha (by omega)
    unfold tagOf
    rw [hq]
    exact ht g o h0 ha

/-- The used tree and the list, in memory. -/
structure UAt (w : World) (c B : Nat) (lv : Value) (used : List PkX) (list : List WhX) : Prop where
  own : w.ownsRow B 145 2 lv list.length (list.flatMap whXC)
  wh : ∀ x ∈ list, NeedsIn w x.needs x.nd
  cell : ∃ v, w.cell? ⟨c, 0, none⟩ = some v ∧ PksIn w v used
  fr : w.frozen? ⟨c, 0, none⟩ = false
  tag : tagOf w c = some 96
  lt : c < w.heap.size
theorem UAt.below {w w' : World} {c B : Nat} {lv : Value} {used : List PkX} {list : List WhX} (h : UAt w c B lv used list) (hb : Below w.heap.size w w') : UAt w' c B lv used list := by
  obtain ⟨v, e, r⟩ := h.cell
  exact ⟨own_below h.own hb, fun x hx => (h.wh x hx).below hb, ⟨v, by rw [(bcell hb).1 c 0 h.lt]; exact e, r.below hb⟩, by rw [(bcell hb).2 c 0 h.lt]; exact h.fr, by rw [tagOf_below hb h.lt]; exact h.tag, Nat.lt_of_lt_of_le h.lt hb.size⟩
theorem NeedIn.mv {w w' : World} {c B : Nat} {lv lv' : Value} {used : List PkX} {list : List WhX} {x : NeedX} (h : NeedIn w x) (hu : UAt w c B lv used list) (hm : Mv c B w w' lv lv') : NeedIn w' x :=
  ⟨RowX.mv h.sp hu.own hu.tag hm (by decide) (by decide), h.ne, h.le, h.nm, h.tx⟩
theorem NeedsIn.mv {w w' : World} {c B : Nat} {lv lv' : Value} {used : List PkX} {list : List WhX} {v : Value} {l : List NeedX} (h : NeedsIn w v l) (hu : UAt w c B lv used list) (hm : Mv c B w w' lv lv') : NeedsIn w' v l :=
  ⟨RowX.mv h.1 hu.own hu.tag hm (by decide) (by decide), fun n hn => (h.2 n hn).mv hu hm⟩
theorem EntIn.mv {w w' : World} {c B : Nat} {lv lv' : Value} {used : List PkX} {list : List WhX} {e : EntX} (h : EntIn w e) (hu : UAt w c B lv used list) (hm : Mv c B w w' lv lv') : EntIn w' e := ⟨h.1.mv hu hm, h.2⟩
theorem PksIn.mv {w w' : World} {c B : Nat} {lv lv' : Value} {used : List PkX} {list : List WhX} {v : Value} {l : List PkX} (h : PksIn w v l) (hu : UAt w c B lv used list) (hm : Mv c B w w' lv lv') : PksIn w' v l :=
  ⟨RowX.mv h.1 hu.own hu.tag hm (by decide) (by decide), fun n hn => (h.2 n hn).mv hu hm⟩
theorem UAt.set {w : World} {c B : Nat} {lv : Value} {used used' : List PkX} {list : List WhX} (h : UAt w c B lv used list) (hB : B ≤ c) {v : Value} (hv : PksIn w v used') :
    UAt (w.setCell ⟨c, 0, none⟩ v) c B lv used' list ∧ Mv c B w (w.setCell ⟨c, 0, none⟩ v) lv lv := by
  obtain ⟨v0, e0, _⟩ := h.cell
  have hbut := But.set w c 0 v
  have f := h.fr
  refine ⟨⟨own_but h.own hbut (.inr (by rw [h.tag]; decide)), fun x hx => (h.wh x hx).off hbut (odd_of h.tag (by decide) (by decide)), ⟨v, by simp [go_sem, *], hv.off hbut h.tag (by decide) (by decide) (by decide)⟩, by simp [go_sem, *], by rw [tag_set]; exact h.tag, by simpa using h.lt⟩, ?_⟩
  exact ⟨(Below.refl _ _).setCell hB _, fun s h1 h2 h3 => ⟨hbut.block s h1 h2, h3⟩⟩
theorem UAt.push {w w1 : World} {c B : Nat} {lv : Value} {used : List PkX} {list : List WhX} (h : UAt w c B lv used list) {x : WhX} (hx : NeedsIn w x.needs x.nd) {g cap : Nat} (hBz : B ≤ w.heap.size)
    (hown : w1.ownsRow B 145 2 (.slice (some ⟨g, 0, none⟩) (list.length + 1) cap) (list.length + 1) (list.flatMap whXC ++ whXC x)) (hg : w.grownBy w1 lv.ownBlock) (hat : lv.ownBlock = some g ∨ g = w.heap.size) :
    UAt w1 c B (.slice (some ⟨g, 0, none⟩) (list.length + 1) cap) used (list ++ [x]) ∧ Mv c B w w1 lv (.slice (some ⟨g, 0, none⟩) (list.length + 1) cap) := by
  obtain ⟨v0, e0, r0⟩ := h.cell
  have hne : some c ≠ lv.ownBlock := fun e => by
    have := tag_of_own h.own e.symm; rw [h.tag] at this; exact absurd this (by decide)
  have hcb : w1.heap[c]? = w.heap[c]? := hg.block c h.lt hne
  have e1' : (list ++ [x]).flatMap whXC = list.flatMap whXC ++ whXC x := by simp
  have e2' : (list ++ [x]).length = list.length + 1 := by simp
  refine ⟨⟨by rw [e1', e2']; exact hown, fun y hy => ?_, ⟨v0, by rw [World.cell?_of_block (w := w) hcb]; exact e0, ⟨RowX.grown r0.1 hg h.own (by decide), fun e he => (r0.2 e he).grown hg h.own (by decide) (by decide)⟩⟩, by rw [World.frozen?_of_block (w := w) hcb]; exact h.fr, by unfold tagOf; rw [hcb]; exact h.tag, Nat.lt_of_lt_of_le h.lt hg.size⟩, ?_⟩
  · simp only [List.mem_append, List.mem_singleton] at hy
    rcases hy with hy | rfl
    · exact (h.wh y hy).grown hg h.own (by decide) (by decide)
    · exact hx.grown hg h.own (by decide) (by decide)
  · refine ⟨(Below.refl B w).grown hg hBz (fun q hq => (h.own.lt q hq).1), fun s h1 h2 h3 => ⟨hg.block s h1 (fun e => h3 e.symm), ?_⟩⟩
    simp [Value.ownBlock]
    intro e
    rcases hat with hat | hat
    · exact h3 (by rw [hat, e])
    · omega

end Hst
end Go.Proofs.YtecocheolbkneaaDoor
namespace Go.Proofs.YtecocheolbkneaaDoor
open Go.RowKit
namespace Hst
set_option maxRecDepth 100000

def LInv (list : List WhX) : Prop := ∀ x ∈ list, x.path.length ≤ 50000 ∧ x.nd.length ≤ 1000
theorem LInv.push {list : List WhX} (h : LInv list) {x : WhX} (h1 : x.path.length ≤ 50000) (h2 : x.nd.length ≤ 1000) : LInv (list ++ [x]) := by
  intro y hy
  simp only [List.mem_append, List.mem_singleton] at hy
  rcases hy with hy | rfl
  · exact h y hy
  · exact ⟨h1, h2⟩
theorem RowX.whs {w : World} {v : Value} {l : List WhX} (h : RowX whXC 2 145 w v l) {k : Nat} (hk : k < l.length) :
    ∃ g o cap, v = .slice (some ⟨g, o, none⟩) l.length cap ∧ g < w.heap.size ∧ ∀ (j : Nat) (hj : j < l.length), w.cell? ⟨g, o + j * 2, none⟩ = some (.string (bs l[j].path)) ∧ w.cell? ⟨g, o + j * 2 + 1, none⟩ = some l[j].needs := by
  obtain ⟨g, o, cap, hv, hg, hc⟩ := h.cells whXC_len hk
  exact ⟨g, o, cap, hv, hg, fun j hj => ⟨hc j hj 0 (by omega), hc j hj 1 (by omega)⟩⟩

set_option maxHeartbeats 4000000 in
theorem inUse_any' (v : Value) (t : List PkX) (sv : Value) (site : List NeedX) (w : World) (hl : PksIn w v t) (hs : NeedsIn w sv site) (htl : t.length ≤ 1000) (hpo : PathsOk t) (hsl : site.length ≤ 1000) :
    Calls Tryd.prog 91 #[.agg #[v], sv] w fun e w' => ∃ v', e = .returned (.agg #[v']) ∧ PksIn w' v' (inUseP t sv site) ∧ Below w.heap.size w w' := by
  obtain ⟨i0, hi, iz0, iz1, iz2⟩ := info_parts info_whX
  obtain ⟨ta, tc, rfl⟩ := hl.1.form
  obtain ⟨sa, sc, rfl⟩ := hs.1.form
  have HIU : Hid (inUseP t (.slice sa site.length sc) site = inUseGo t (t.length + 2 - 0) 0 [] [⟨[], .slice sa site.length sc, site⟩]) := rfl
  generalize inUseP t (.slice sa site.length sc) site = res at *
  have hbw := ((((Below.refl w.heap.size w).alloc (Nat.le_refl _) (.cells #[.slice ta t.length tc] 96)).alloc (by simp) (.cells #[.slice none 0 0] 96)).alloc (by simp; omega) (.cells #[.slice none 0 0] 96)).alloc (by simp; omega) (.cells #[.string ⟨#[]⟩, .slice sa site.length sc] 145)
  have HL := hid' (hl.below hbw)
  have HS := hid' (hs.below hbw)
  have HBW := hid' hbw
  have HPO := hid' hpo
  have eb : ((((w.alloc (.cells #[.slice ta t.length tc] 96)).alloc (.cells #[.slice none 0 0] 96)).alloc (.cells #[.slice none 0 0] 96)).alloc (.cells #[.string ⟨#[]⟩, .slice sa site.length sc] 145)).cell? ⟨w.heap.size, 0, none⟩ = some (.slice ta t.length tc) := by simp [go_sem]
  have er : ((((w.alloc (.cells #[.slice ta t.length tc] 96)).alloc (.cells #[.slice none 0 0] 96)).alloc (.cells #[.slice none 0 0] 96)).alloc (.cells #[.string ⟨#[]⟩, .slice sa site.length sc] 145)).cell? ⟨w.heap.size + 1, 0, none⟩ = some (.slice none 0 0) ∧ ((((w.alloc (.cells #[.slice ta t.length tc] 96)).alloc (.cells #[.slice none 0 0] 96)).alloc (.cells #[.slice none 0 0] 96)).alloc (.cells #[.string ⟨#[]⟩, .slice sa site.length sc] 145)).frozen? ⟨w.heap.size + 1, 0, none⟩ = false := by constructor <;> simp [go_sem]
  have ec : ((((w.alloc (.cells #[.slice ta t.length tc] 96)).alloc (.cells #[.slice none 0 0] 96)).alloc (.cells #[.slice none 0 0] 96)).alloc (.cells #[.string ⟨#[]⟩, .slice sa site.length sc] 145)).cell? ⟨w.heap.size + 1 + 1, 0, none⟩ = some (.slice none 0 0) ∧ ((((w.alloc (.cells #[.slice ta t.length tc] 96)).alloc (.cells #[.slice none 0 0] 96)).alloc (.cells #[.slice none 0 0] 96)).alloc (.cells #[.string ⟨#[]⟩, .slice sa site.length sc] 145)).frozen? ⟨w.heap.size + 1 + 1, 0, none⟩ = false := by constructor <;> simp [go_sem]
  have hown : ((((w.alloc (.cells #[.slice ta t.length tc] 96)).alloc (.cells #[.slice none 0 0] 96)).alloc (.cells #[.slice none 0 0] 96)).alloc (.cells #[.string ⟨#[]⟩, .slice sa site.length sc] 145)).ownsRow w.heap.size 145 2 (.slice (some ⟨w.heap.size + 1 + 1 + 1, 0, none⟩) 1 1) 1 [.string ⟨#[]⟩, .slice sa site.length sc] := by
    refine ⟨rfl, .inr ⟨w.heap.size + 1 + 1 + 1, 1, #[.string ⟨#[]⟩, .slice sa site.length sc], rfl, by omega, ?_, Nat.le_refl _, by unfold maxLen; omega, rfl, rfl⟩⟩
    have := heap_alloc_new (((w.alloc (.cells #[.slice ta t.length tc] 96)).alloc (.cells #[.slice none 0 0] 96)).alloc (.cells #[.slice none 0 0] 96)) (.cells #[.string ⟨#[]⟩, .slice sa site.length sc] 145)
    simpa using this
  have htg : tagOf ((((w.alloc (.cells #[.slice ta t.length tc] 96)).alloc (.cells #[.slice none 0 0] 96)).alloc (.cells #[.slice none 0 0] 96)).alloc (.cells #[.string ⟨#[]⟩, .slice sa site.length sc] 145)) (w.heap.size + 1 + 1) = some 96 := by
    have h1 := tag_new ((w.alloc (.cells #[.slice ta t.length tc] 96)).alloc (.cells #[.slice none 0 0] 96)) #[.slice none 0 0] 96
    rw [tagOf_below (w := (((w.alloc (.cells #[.slice ta t.length tc] 96)).alloc (.cells #[.slice none 0 0] 96)).alloc (.cells #[.slice none 0 0] 96))) ((Below.refl _ _).alloc (Nat.le_refl _) _) (by simp)]
    simpa using h1
  have htr : tagOf ((((w.alloc (.cells #[.slice ta t.length tc] 96)).alloc (.cells #[.slice none 0 0] 96)).alloc (.cells #[.slice none 0 0] 96)).alloc (.cells #[.string ⟨#[]⟩, .slice sa site.length sc] 145)) (w.heap.size + 1) = some 96 := by
    have h1 := tag_new (w.alloc (.cells #[.slice ta t.length tc] 96)) #[.slice none 0 0] 96
    rw [tagOf_below (w := (w.alloc (.cells #[.slice ta t.length tc] 96)).alloc (.cells #[.slice none 0 0] 96)) (((Below.refl _ _).alloc (Nat.le_refl _) _).alloc (by simp) _) (by simp)]
    simpa using h1
  have hsz : ((((w.alloc (.cells #[.slice ta t.length tc] 96)).alloc (.cells #[.slice none 0 0] 96)).alloc (.cells #[.slice none 0 0] 96)).alloc (.cells #[.string ⟨#[]⟩, .slice sa site.length sc] 145)).heap.size = w.heap.size + 4 := by simp
  have HU0 : Hid (UAt ((((w.alloc (.cells #[.slice ta t.length tc] 96)).alloc (.cells #[.slice none 0 0] 96)).alloc (.cells #[.slice none 0 0] 96)).alloc (.cells #[.string ⟨#[]⟩, .slice sa site.length sc] 145)) (w.heap.size + 1 + 1) w.heap.size (.slice (some ⟨w.heap.size + 1 + 1 + 1, 0, none⟩) 1 1) [] [⟨[], .slice sa site.length sc, site⟩]) := ⟨hown, fun x hx => by simp only [List.mem_singleton] at hx; subst hx; exact HS.out, ⟨_, ec.1, RowX.nil _ _ _ _, by simp⟩, ec.2, htg, by omega⟩
  clear hl hs hbw hown htg ec hpo
  go_enter Tryd.func91, Tryd.ntmps91
  go_wp2
  generalize ((((w.alloc (.cells #[.slice ta t.length tc] 96)).alloc (.cells #[.slice none 0 0] 96)).alloc (.cells #[.slice none 0 0] 96)).alloc (.cells #[.string ⟨#[]⟩, .slice sa site.length sc] 145)) = W at *
  have HEB := hid' eb; have HER := hid' er; have HSZ := hid' hsz; have HTR := hid' htr
  have HUI : Hid (UInv t [] [⟨[], .slice sa site.length sc, site⟩] ∧ LInv [⟨[], .slice sa site.length sc, site⟩]) := ⟨⟨by simp, by simp, rfl⟩, fun x hx => by simp only [List.mem_singleton] at hx; subst hx; exact ⟨by simp, hsl⟩⟩
  clear eb er hsz htr
  go_loopw [6, 7] (fun lv i wr => ∃ (k : Nat) (used : List PkX) (list : List WhX), k ≤ list.length ∧ list.length ≤ t.length + 1 ∧ i = .int .i64 k ∧ Hid (UAt wr (w.heap.size + 1 + 1) w.heap.size lv used list ∧ Mv (w.heap.size + 1 + 1) w.heap.size W wr (.slice (some ⟨w.heap.size + 1 + 1 + 1, 0, none⟩) 1 1) lv ∧ UInv t used list ∧ LInv list ∧ res = inUseGo t (t.length + 2 - k) k used list)) (fun _ i _ => t.length + 2 - (intOf i).toNat)
  case atStart => exact ⟨0, [], [⟨[], .slice sa site.length sc, site⟩], Nat.zero_le _, by simp, rfl, HU0.out, Mv.refl _ _ _ _, HUI.out.1, HUI.out.2, HIU.out⟩
  case round =>
    obtain ⟨k, used, list, hk, hll, rfl, hall⟩ := hrel
    obtain ⟨la, lc, rfl⟩ := own_slice hall.out.1.own
    have HUA := hid' hall.out.1; have HMV := hid' hall.out.2.1; have HUV := hid' hall.out.2.2.1; have HLI := hid' hall.out.2.2.2.1; have HRE := hid' hall.out.2.2.2.2
    have hL0 : ∀ q, q < w.heap.size + 3 → Value.ownBlock (.slice (some ⟨w.heap.size + 1 + 1 + 1, 0, none⟩) 1 1) ≠ some q := fun q hq e => by simp [Value.ownBlock] at e; omega
    have hbx := HMV.out.free w.heap.size (by have := HSZ.out; omega) (by omega) (hL0 _ (by omega))
    have hrx := HMV.out.free (w.heap.size + 1) (by have := HSZ.out; omega) (by omega) (hL0 _ (by omega))
    have eb : wr.cell? ⟨w.heap.size, 0, none⟩ = some (.slice ta t.length tc) := by rw [World.cell?_of_block (w := W) hbx.1]; exact HEB.out
    have er : wr.cell? ⟨w.heap.size + 1, 0, none⟩ = some (.slice none 0 0) := by rw [World.cell?_of_block (w := W) hrx.1]; exact HER.out.1
    have ef : wr.frozen? ⟨w.heap.size + 1, 0, none⟩ = false := by rw [World.frozen?_of_block (w := W) hrx.1]; exact HER.out.2
    have HTR2 : Hid (tagOf wr (w.heap.size + 1) = some 96) := by unfold Hid tagOf; rw [hrx.1]; exact HTR.out
    have hzr := HMV.out.below.size
    have hwr : w.heap.size + 3 < wr.heap.size := by have := HSZ.out; omega
    have HLt := hid' (HL.out.mv HU0.out HMV.out)
    have HBB : Hid (Value.ownBlock (.slice la list.length lc) ≠ some w.heap.size ∧ Value.ownBlock (.slice la list.length lc) ≠ some (w.heap.size + 1)) := ⟨hbx.2, hrx.2⟩
    clear hall hL0 hbx hrx
    by_cases hlt : k < list.length
    · obtain ⟨g, o, cap', hv, hg, hc⟩ := (RowX.of_own (f := whXC) HUA.out.own).whs hlt
      simp at hv
      obtain ⟨rfl, rfl⟩ := hv
      obtain ⟨c0, c1⟩ := hc k hlt
      have hnx := HUA.out.wh list[k] (List.getElem_mem hlt)
      obtain ⟨na, nc, hnf⟩ := hnx.1.form
      have hlx := HLI.out list[k] (List.getElem_mem hlt)
      have HST : Hid (res = inUseGo t (t.length + 2 - (k + 1)) (k + 1) (usedGo t list[k].path used list list[k].nd).1 (usedGo t list[k].path used list list[k].nd).2) := by
        have e : t.length + 2 - k = (t.length + 2 - (k + 1)) + 1 := by omega
        unfold Hid; rw [HRE.out, e]; exact iu_step hlt
      have hba := (Below.refl wr.heap.size wr).alloc (Nat.le_refl _) (.cells #[.string (bs list[k].path), list[k].needs] 145)
      have HUB := hid' (HUA.out.below hba)
      have HMB := hid' (HMV.out.trans (Mv.of_below (c := w.heap.size + 1 + 1) (B := w.heap.size) (lv := .slice (some ⟨g, o, none⟩) list.length lc) hba (by omega)))
      have HNX := hid' (hnx.below hba)
      have HLB := hid' (HLt.out.below hba)
      have eb2 := ((bcell hba).1 w.heap.size 0 (by omega)).trans eb
      have hgo : g < wr.heap.size := hg
      clear hc hnx hba er ef
      generalize list[k] = x at *
      obtain ⟨xp, xv, xd⟩ := x
      simp only at hnf c0 c1 hlx HST HUB HMB HNX HLB eb2
      subst hnf
      have ex : (wr.alloc (.cells #[.string (bs xp), .slice na xd.length nc] 145)).cell? ⟨wr.heap.size, 0, none⟩ = some (.string (bs xp)) := by simp
      have hsz : (wr.alloc (.cells #[.string (bs xp), .slice na xd.length nc] 145)).heap.size = wr.heap.size + 1 := by simp
      obtain ⟨wo, rfl⟩ : ∃ wo, wo = wr := ⟨_, rfl⟩
      go_wp2
      generalize wo.alloc (.cells #[.string (bs xp), .slice na xd.length nc] 145) = V at *
      have HSV := hid' hsz; have HEX := hid' ex; have HEB2 := hid' eb2
      clear c0 c1 hsz ex eb2 eb
      go_loopw [6, 30] (fun lv i wr => ∃ (j : Nat) (us : List PkX) (ls : List WhX), j ≤ xd.length ∧ i = .int .i64 j ∧ Hid (UAt wr (w.heap.size + 1 + 1) w.heap.size lv us ls ∧ Mv (w.heap.size + 1 + 1) w.heap.size V wr (.slice (some ⟨g, o, none⟩) list.length lc) lv ∧ UInv t us ls ∧ LInv ls ∧ list.length ≤ ls.length ∧ usedGo t xp used list xd = usedGo t xp us ls (xd.drop j))) (fun _ i _ => xd.length - (intOf i).toNat)
      case atStart => exact ⟨0, used, list, Nat.zero_le _, rfl, HUB.out, Mv.refl _ _ _ _, HUV.out, HLI.out, Nat.le_refl _, rfl⟩
      case round =>
        obtain ⟨j, us, ls, hj, rfl, hall⟩ := hrel
        obtain ⟨ma, mc, rfl⟩ := own_slice hall.out.1.own
        have HU2 := hid' hall.out.1; have HM2 := hid' hall.out.2.1; have HV2 := hid' hall.out.2.2.1; have HL2 := hid' hall.out.2.2.2.1; have HG2 := hid' hall.out.2.2.2.2.1; have HE2 := hid' hall.out.2.2.2.2.2
        have hVz := HM2.out.below.size
        have hgl : Value.ownBlock (.slice (some ⟨g, o, none⟩) list.length lc) = some g := rfl
        have hbx := HM2.out.free w.heap.size (by have := HSV.out; omega) (by omega) HBB.out.1
        have hpx := HM2.out.free wo.heap.size (by have := HSV.out; omega) (by omega) (by rw [hgl]; simp; omega)
        have eb : wr.cell? ⟨w.heap.size, 0, none⟩ = some (.slice ta t.length tc) := by rw [World.cell?_of_block (w := V) hbx.1]; exact HEB2.out
        have ex : wr.cell? ⟨wo.heap.size, 0, none⟩ = some (.string (bs xp)) := by rw [World.cell?_of_block (w := V) hpx.1]; exact HEX.out
        have hwr2 : w.heap.size + 3 < wr.heap.size := by have := HSV.out; omega
        have hwr3 : wo.heap.size < wr.heap.size := by have := HSV.out; omega
        have hwr4 : w.heap.size < wr.heap.size := by omega
        have HNX2 := hid' (HNX.out.mv HUB.out HM2.out)
        have HLt2 := hid' (HLB.out.mv HUB.out HM2.out)
        have hul := HV2.out.le
        have hlen2 := HV2.out.len
        have hle2 : ls.length ≤ 1001 := by omega
        have hue : us.length ≤ 1000 := by omega
        clear hall hgl hbx hpx hlen2
        by_cases hjl : j < xd.length
        · obtain ⟨g2, o2, cap2, hv, hg2, hc⟩ := HNX2.out.1.needs hjl
          simp at hv
          obtain ⟨rfl, rfl⟩ := hv
          obtain ⟨c0, c1, c2⟩ := hc j hjl
          obtain ⟨ya, yc, hyf⟩ := (HNX2.out.2 xd[j] (List.getElem_mem hjl)).form
          have U1 := hid' (ug_none (t := t) (used := us) (path := xp) (list := ls) hjl)
          have U2 := hid' (fun p => ug_has (t := t) (used := us) (path := xp) (list := ls) (p := p) hjl)
          have U3 := hid' (fun p => ug_new (t := t) (used := us) (path := xp) (list := ls) (p := p) hjl)
          have HFD := hid' (fun w h => findP_any (.slice ta t.length tc) t (bs xp) (bs xd[j].name) w h (by omega) HPO.out (by rw [bs_size]; exact hlx.1))
          rw [tx_bs, tx_bs] at HFD
          clear hc
          generalize xd[j] = y at *
          obtain ⟨yn, ysp, ys, yt⟩ := y
          simp only at hyf c0 c1 c2 U1 U2 U3 HFD
          subst hyf
          have hba := (Below.refl wr.heap.size wr).alloc (Nat.le_refl _) (.cells #[.string (bs yn), .slice ya ys.length yc, .string (bs yt)] 86)
          have HL3 := hid' (HLt2.out.below hba)
          have HU3 := hid' (HU2.out.below hba)
          have HM3 := hid' (HM2.out.trans (Mv.of_below (c := w.heap.size + 1 + 1) (B := w.heap.size) (lv := .slice ma ls.length mc) hba (by omega)))
          clear hba
          go_wp2_with fail
          refine (HFD.out _ HL3.out).mono ?_
          rintro e w1 ⟨p, rfl, hb1, ⟨pa, pl, pc, hpf⟩, hp⟩
          have hz1 := hb1.size
          simp at hz1
          have HU4 := hid' (HU3.out.below hb1)
          have HM4 := hid' (HM3.out.trans (Mv.of_below (c := w.heap.size + 1 + 1) (B := w.heap.size) (lv := .slice ma ls.length mc) hb1 (by simp; omega)))
          have HL4 := hid' (HL3.out.below hb1)
          clear hb1
          rcases hfd : findP t yn xp with _ | q
          · have HF : Hid (usedGo t xp used list xd = usedGo t xp us ls (xd.drop (j + 1))) := by unfold Hid; rw [HE2.out]; exact U1.out hfd
            clear hfd hp U1 U2 U3
            obtain ⟨pp, pn, pv, ps, pd⟩ := p
            simp only at hpf
            subst hpf
            have hba := (Below.refl w1.heap.size w1).alloc (Nat.le_refl _) (.cells #[.string (bs pp), .string (bs pn), .int .i64 pv, .slice pa pl pc] 130)
            have HU5 := hid' (HU4.out.below hba)
            have HM5 := hid' (HM4.out.trans (Mv.of_below (c := w.heap.size + 1 + 1) (B := w.heap.size) (lv := .slice ma ls.length mc) hba (by omega)))
            clear hba
            simp only [Option.isSome]
            go_wp2
            go_roundw
            case rel => exact ⟨j + 1, us, ls, by omega, by go_num, HU5.out, HM5.out, HV2.out, HL2.out, HG2.out, HF.out⟩
            case measure => simp [intOf] <;> omega
          · have hpq := hp q hfd
            subst hpq
            have hpt := findP_in hfd
            have HEN := hid' (HL4.out.2 p hpt)
            have HPP : Hid (p.path.length ≤ 50000) := HPO.out p hpt
            have HPT := hid' hpt
            have HPN : Hid (p.e.nd.length ≤ 1000) := by unfold Hid; have := HEN.out.2.1; omega
            have U2' := hid' (U2.out p hfd)
            have U3' := hid' (U3.out p hfd)
            have HFD2 := hid' hfd
            clear hfd hp U1 U2 U3 hpt
            have HPX : Hid (∃ p0, p0 = p) := ⟨p, rfl⟩
            obtain ⟨pp, pn, pv, ps, pd⟩ := p
            simp only at hpf HEN HPP HPN U2' U3'
            subst hpf
            have hba := (Below.refl w1.heap.size w1).alloc (Nat.le_refl _) (.cells #[.string (bs pp), .string (bs pn), .int .i64 pv, .slice pa pl pc] 130)
            have HU5 := hid' (HU4.out.below hba)
            have HM5 := hid' (HM4.out.trans (Mv.of_below (c := w.heap.size + 1 + 1) (B := w.heap.size) (lv := .slice ma ls.length mc) hba (by omega)))
            have HEN5 := hid' (HEN.out.below hba)
            have u0 : (w1.alloc (.cells #[.string (bs pp), .string (bs pn), .int .i64 pv, .slice pa pl pc] 130)).cell? ⟨w1.heap.size, 0, none⟩ = some (.string (bs pp)) := by simp
            have u1 : (w1.alloc (.cells #[.string (bs pp), .string (bs pn), .int .i64 pv, .slice pa pl pc] 130)).cell? ⟨w1.heap.size, 1, none⟩ = some (.string (bs pn)) := by simp
            have u2 : (w1.alloc (.cells #[.string (bs pp), .string (bs pn), .int .i64 pv, .slice pa pl pc] 130)).cell? ⟨w1.heap.size, 2, none⟩ = some (.int .i64 pv) := by simp
            have u3 : (w1.alloc (.cells #[.string (bs pp), .string (bs pn), .int .i64 pv, .slice pa pl pc] 130)).cell? ⟨w1.heap.size, 3, none⟩ = some (.slice pa pl pc) := by simp
            have hsz5 : (w1.alloc (.cells #[.string (bs pp), .string (bs pn), .int .i64 pv, .slice pa pl pc] 130)).heap.size = w1.heap.size + 1 := by simp
            obtain ⟨v5, e5, r5⟩ := HU5.out.cell
            obtain ⟨ua, uc, rfl⟩ := r5.1.form
            have HR5 := hid' r5
            have HHA := hid' (fun w h => hasAt_any (.slice ua us.length uc) us (bs pp) w h (by omega))
            rw [tx_bs] at HHA
            have hC5 := HU5.out.lt
            clear hba r5
            simp only [Option.isSome]
            go_wp2_with fail
            refine (HHA.out _ HR5.out).mono ?_
            rintro e w2 ⟨rfl, hb2⟩
            have hcc := (bcell hb2).1
            have hff := (bcell hb2).2
            have z0 := (hcc w1.heap.size 0 (by omega)).trans u0
            have z1 := (hcc w1.heap.size 1 (by omega)).trans u1
            have z2 := (hcc w1.heap.size 2 (by omega)).trans u2
            have z3 := (hcc w1.heap.size 3 (by omega)).trans u3
            have z5 := (hcc (w.heap.size + 1 + 1) 0 hC5).trans e5
            have hz2 := hb2.size
            have HU6 := hid' (HU5.out.below hb2)
            have HM6 := hid' (HM5.out.trans (Mv.of_below (c := w.heap.size + 1 + 1) (B := w.heap.size) (lv := .slice ma ls.length mc) hb2 (by omega)))
            have HEN6 := hid' (HEN5.out.below hb2)
            have HR6 := hid' (HR5.out.below hb2)
            have hw12 : w1.heap.size < w2.heap.size := by omega
            have hC6 := HU6.out.lt
            have hf6 := HU6.out.fr
            clear hb2 hcc hff u0 u1 u2 u3 e5 hsz5
            rcases hha : hasAtP us pp with _ | _
            · have HF : Hid (usedGo t xp used list xd = usedGo t xp (withP us ⟨pp, pn, pv, .slice pa pl pc, pd⟩) (ls ++ [⟨pp, .slice pa pl pc, pd⟩]) (xd.drop (j + 1))) := by unfold Hid; rw [HE2.out]; exact U3'.out hha
              have HV3 := hid' (HV2.out.step HPT.out hha ⟨pp, .slice pa pl pc, pd⟩)
              have HLI3 := hid' (HL2.out.push (x := ⟨pp, .slice pa pl pc, pd⟩) HPP.out HPN.out)
              have HWP := hid' (fun w h h' => withP_any (.slice ua us.length uc) us ⟨pp, pn, pv, .slice pa pl pc, pd⟩ w h h' (by omega))
              clear hha U2' U3' HHA
              go_wp2_with fail
              refine (HWP.out _ HR6.out HEN6.out).mono ?_
              rintro e w3 ⟨v3, rfl, hin3, hb3⟩
              obtain ⟨xa, xc, rfl⟩ := hin3.1.form
              have hcc := (bcell hb3).1
              have hff := (bcell hb3).2
              have s0 := (hcc w1.heap.size 0 hw12).trans z0
              have s3 := (hcc w1.heap.size 3 hw12).trans z3
              have s5 := (hcc (w.heap.size + 1 + 1) 0 hC6).trans z5
              have sf := (hff (w.heap.size + 1 + 1) 0 hC6).trans hf6
              have hz3 := hb3.size
              obtain ⟨hu7, hm7⟩ := UAt.set (HU6.out.below hb3) (show w.heap.size ≤ w.heap.size + 1 + 1 by omega) hin3
              have HU7 := hid' hu7
              have HM7 := hid' ((HM6.out.trans (Mv.of_below (c := w.heap.size + 1 + 1) (B := w.heap.size) (lv := .slice ma ls.length mc) hb3 (by omega))).trans hm7)
              have HEN7 := hid' ((HEN6.out.below hb3).off (But.set w3 (w.heap.size + 1 + 1) 0 (.slice xa (withP us ⟨pp, pn, pv, .slice pa pl pc, pd⟩).length xc)) (odd_of ((HU6.out.below hb3).tag) (by decide) (by decide)))
              have hw13 : w1.heap.size < w3.heap.size := by omega
              have hC7 : w.heap.size + 1 + 1 < w3.heap.size := by omega
              have hne1 : w1.heap.size ≠ w.heap.size + 1 + 1 := by omega
              have hne2 : w.heap.size + 1 + 1 ≠ w1.heap.size := by omega
              have hown7 := hu7.own
              have hBz7 : w.heap.size ≤ (w3.setCell ⟨w.heap.size + 1 + 1, 0, none⟩ (.slice xa (withP us ⟨pp, pn, pv, .slice pa pl pc, pd⟩).length xc)).heap.size := by simp; omega
              clear hcc hff hb3 hin3 hu7 hm7 z0 z1 z2 z3 z5
              go_wp2_with (first | (at_builtin; refine wpList_append_lies _ rfl _ _ 140 rfl w.heap.size 145 i0 (.agg #[.string ByteArray.empty, .slice none 0 0]) 2 40 Tryd.underlying140 hi iz0 iz1 iz2 rfl (by omega) _ _ _ rfl (hown7.alloc _) ⟨w3.heap.size, 0, none⟩ 1 1 [.string (bs pp), .slice pa pl pc] rfl rfl (by have := news_2 (w3.setCell ⟨w.heap.size + 1 + 1, 0, none⟩ (.slice xa (withP us ⟨pp, pn, pv, .slice pa pl pc, pd⟩).length xc)) (.string (bs pp)) (.slice pa pl pc) 145; simpa using this) (whX_one ⟨pp, .slice pa pl pc, pd⟩ rfl) (by omega) (by unfold maxLen; omega) (by omega) (by simp; omega) (w3.heap.size + 1) (by simp) ?_; intro g8 cap8 w8 hown8 hgrow8 hat8 hlt8))
              have R := UAt.push (x := ⟨pp, .slice pa pl pc, pd⟩) (HU7.out.below ((Below.refl _ _).alloc (Nat.le_refl _) _)) (HEN7.out.1.below ((Below.refl _ _).alloc (Nat.le_refl _) _)) (by simp; omega) hown8 hgrow8 (hat8.imp id (fun h => by rw [h]; simp))
              have HR1 := hid' R.1
              have HR2 := hid' ((HM7.out.trans (Mv.of_below ((Below.refl _ _).alloc (Nat.le_refl _) _) hBz7)).trans R.2)
              have HR3 : Hid (list.length ≤ (ls ++ [(⟨pp, .slice pa pl pc, pd⟩ : WhX)]).length) := by unfold Hid; have := HG2.out; simp; omega
              clear R hown8 hgrow8 hat8 hown7
              go_wp2
              go_roundw
              case rel => exact ⟨j + 1, withP us ⟨pp, pn, pv, .slice pa pl pc, pd⟩, ls ++ [⟨pp, .slice pa pl pc, pd⟩], by omega, by go_num, HR1.out, HR2.out, HV3.out, HLI3.out, HR3.out, HF.out⟩
              case measure => simp [intOf] <;> omega
            · have HF : Hid (usedGo t xp used list xd = usedGo t xp us ls (xd.drop (j + 1))) := by unfold Hid; rw [HE2.out]; exact U2'.out hha
              clear hha U2' U3' HHA
              go_wp2
              go_roundw
              case rel => exact ⟨j + 1, us, ls, by omega, by go_num, HU6.out, HM6.out, HV2.out, HL2.out, HG2.out, HF.out⟩
              case measure => simp [intOf] <;> omega
        · have HF : Hid (usedGo t xp used list xd = (us, ls)) := by unfold Hid; rw [HE2.out]; exact ug_end hjl
          have HFR : Hid (res = inUseGo t (t.length + 2 - (k + 1)) (k + 1) us ls) := by unfold Hid; rw [HST.out, HF.out]
          have HMF := hid' (HMB.out.trans HM2.out)
          have hkl : k + 1 ≤ ls.length := by have := HG2.out; omega
          have hkl2 : ls.length ≤ t.length + 1 := by have := HV2.out.len; omega
          go_wp2
          go_roundw
          case rel => exact ⟨k + 1, us, ls, hkl, hkl2, by go_num, HU2.out, HMF.out, HV2.out, HL2.out, HFR.out⟩
          case measure => simp [intOf] <;> omega
    · have HF : Hid (res = used) := by
        have e : t.length + 2 - k = (t.length + 1 - k) + 1 := by omega
        unfold Hid; rw [HRE.out, e]; exact iu_end hlt
      obtain ⟨v5, e5, r5⟩ := HUA.out.cell
      obtain ⟨ua, uc, rfl⟩ := r5.1.form
      have hC := HUA.out.lt
      have HR5 := hid' r5
      have h1r : w.heap.size + 1 < wr.heap.size := by omega
      have HBE := hid' (HBW.out.trans (HMV.out.below))
      go_wp2
      refine bodyPost_ret (v := .agg #[.slice ua used.length uc]) (by simp [results, Tryd.results91, go_sem, *]) rfl ⟨_, rfl, ?_, HBE.out.setCell (show w.heap.size ≤ w.heap.size + 1 by omega) _⟩
      rw [HF.out]
      exact HR5.out.off (But.set _ _ _ _) HTR2.out (by decide) (by decide) (by decide)

end Hst
end Go.Proofs.YtecocheolbkneaaDoor
