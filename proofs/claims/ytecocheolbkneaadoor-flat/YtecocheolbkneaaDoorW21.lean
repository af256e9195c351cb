/- Pmoves, Play, Pwok -/
import Derived.Test.YtecocheolbkneaaDoorW20
import Derived.Deep.DeepCutAuto
import Derived.Deep.RegionLaw
import Derived.Test.YtecocheolbkneaaDoorW04
namespace Go.Proofs.YtecocheolbkneaaDoor
open Go.RowKit
namespace Hst

/-- A block that a work at b does not write. -/
def Free (w : World) (b s : Nat) : Prop := s < w.heap.size ∧ s ≠ b ∧ (∀ v, w.cell? ⟨b, 3, none⟩ = some v → v.ownBlock ≠ some s) ∧ (∀ v, w.cell? ⟨b, 4, none⟩ = some v → v.ownBlock ≠ some s)
/-- What the calls of a work change: itself, its list, what was gone through, and new blocks. -/
structure Moves (b B : Nat) (w w' : World) : Prop where
  below : Below B w w'
  free : ∀ s, Free w b s → w'.heap[s]? = w.heap[s]? ∧ Free w' b s
theorem Moves.refl (b B : Nat) (w : World) : Moves b B w w := ⟨Below.refl _ _, fun _ h => ⟨rfl, h⟩⟩
theorem Moves.trans {b B : Nat} {w w1 w2 : World} (h : Moves b B w w1) (k : Moves b B w1 w2) : Moves b B w w2 :=
  ⟨h.below.trans k.below, fun s hs => ⟨(k.free s (h.free s hs).2).1.trans (h.free s hs).1, (k.free s (h.free s hs).2).2⟩⟩
theorem Moves.of_below {b B : Nat} {w w' : World} (h : Below w.heap.size w w') (hb : b < w.heap.size) (hB : B ≤ w.heap.size) : Moves b B w w' := by
  refine ⟨h.mono hB, fun s hs => ⟨h.block s hs.1, Nat.lt_of_lt_of_le hs.1 h.size, hs.2.1, ?_, ?_⟩⟩
  · rw [(bcell h).1 b 3 hb]; exact hs.2.2.1
  · rw [(bcell h).1 b 4 hb]; exact hs.2.2.2
theorem WorkAt.free {w : World} {b B s : Nat} {st : List EntX} {fav : List PkX} {k : WorkX} (h : WorkAt w b B st fav k) {t : TypeId} (hs : s < w.heap.size) (ht : tagOf w s = some t) (h1 : t ≠ 143) (h2 : t ≠ 145) (h3 : t ≠ 164) : Free w b s := by
  obtain ⟨v3, e3, r3, _⟩ := h.list
  obtain ⟨v4, e4, r4, _⟩ := h.gone
  refine ⟨hs, fun e => ?_, fun v hv e => ?_, fun v hv e => ?_⟩
  · subst e; have := h.tag; rw [ht] at this; exact h1 (by simpa using this)
  · rw [e3] at hv; simp at hv; subst hv; have := tag_of_own r3 e; rw [ht] at this; exact h2 (by simpa using this)
  · rw [e4] at hv; simp at hv; subst hv; have := tag_of_own r4 e; rw [ht] at this; exact h3 (by simpa using this)
theorem RowX.moves {α : Type} {f : α → List Value} {size : Nat} {t : TypeId} {b B : Nat} {w w' : World} {v : Value} {l : List α} {st : List EntX} {fav : List PkX} {k : WorkX} (h : RowX f size t w v l) (hw : WorkAt w b B st fav k) (hm : Moves b B w w') (h1 : t ≠ 143) (h2 : t ≠ 145) (h3 : t ≠ 164) : RowX f size t w' v l := by
  obtain ⟨a, cap, e, hr, ht⟩ := h
  have hfar : ∀ g o, 0 < l.length → a = some ⟨g, o, none⟩ → g < w.heap.size → w'.heap[g]? = w.heap[g]? := fun g o h0 ha hlt => (hm.free g (hw.free hlt (ht g o h0 ha) h1 h2 h3)).1
  refine ⟨a, cap, e, ⟨hr.len, hr.cap, fun hn => ?_⟩, fun g o h0 ha => ?_⟩
  · obtain ⟨g, o, ha, hlt, hc⟩ := hr.at' hn
    exact ⟨g, o, ha, Nat.lt_of_lt_of_le hlt hm.below.size, fun i hi => by rw [World.cell?_of_block (w := w) (hfar g o hn ha hlt)]; exact hc i hi⟩
  · obtain ⟨g', o', ha', hlt, _⟩ := hr.at' h0
    rw [ha] at ha'
    simp at ha'
    have hq := hfar g o h0 ha (by omega)
    unfold tagOf
    rw [hq]
    exact ht g o h0 ha
theorem NeedIn.moves {b B : Nat} {w w' : World} {st : List EntX} {fav : List PkX} {k : WorkX} {x : NeedX} (h : NeedIn w x) (hw : WorkAt w b B st fav k) (hm : Moves b B w w') : NeedIn w' x :=
  ⟨RowX.moves h.sp hw hm (by decide) (by decide) (by decide), h.ne, h.le, h.nm, h.tx⟩
theorem NeedsIn.moves {b B : Nat} {w w' : World} {st : List EntX} {fav : List PkX} {k : WorkX} {v : Value} {l : List NeedX} (h : NeedsIn w v l) (hw : WorkAt w b B st fav k) (hm : Moves b B w w') : NeedsIn w' v l :=
  ⟨RowX.moves h.1 hw hm (by decide) (by decide) (by decide), fun n hn => (h.2 n hn).moves hw hm⟩
theorem EntIn.moves {b B : Nat} {w w' : World} {st : List EntX} {fav : List PkX} {k : WorkX} {e : EntX} (h : EntIn w e) (hw : WorkAt w b B st fav k) (hm : Moves b B w w') : EntIn w' e := ⟨h.1.moves hw hm, h.2⟩
theorem EntsIn.moves {b B : Nat} {w w' : World} {st : List EntX} {fav : List PkX} {k : WorkX} {v : Value} {l : List EntX} (h : EntsIn w v l) (hw : WorkAt w b B st fav k) (hm : Moves b B w w') : EntsIn w' v l :=
  ⟨RowX.moves h.1 hw hm (by decide) (by decide) (by decide), fun n hn => (h.2 n hn).moves hw hm⟩
theorem PksIn.moves {b B : Nat} {w w' : World} {st : List EntX} {fav : List PkX} {k : WorkX} {v : Value} {l : List PkX} (h : PksIn w v l) (hw : WorkAt w b B st fav k) (hm : Moves b B w w') : PksIn w' v l :=
  ⟨RowX.moves h.1 hw hm (by decide) (by decide) (by decide), fun n hn => (h.2 n hn).moves hw hm⟩

/-- The work's tree is another. -/
theorem WorkAt.setTree {w : World} {b B : Nat} {st : List EntX} {fav : List PkX} {k : WorkX} (h : WorkAt w b B st fav k) (hB : B ≤ b) {v : Value} {t : List PkX} (hv : PksIn w v t) :
    WorkAt (w.setCell ⟨b, 2, none⟩ v) b B st fav ⟨t, k.list, k.gone⟩ ∧ Moves b B w (w.setCell ⟨b, 2, none⟩ v) := by
  obtain ⟨v0, e0, r0⟩ := h.stock
  obtain ⟨v1, e1, r1⟩ := h.fav
  obtain ⟨v2, e2, _⟩ := h.tree
  obtain ⟨v3, e3, r3, q3⟩ := h.list
  obtain ⟨v4, e4, r4, q4⟩ := h.gone
  have f2 := h.f2; have f3 := h.f3; have f4 := h.f4
  have hbut := But.set w b 2 v
  have g0 : (w.setCell ⟨b, 2, none⟩ v).cell? ⟨b, 0, none⟩ = some v0 := by simp [go_sem, *]
  have g1 : (w.setCell ⟨b, 2, none⟩ v).cell? ⟨b, 1, none⟩ = some v1 := by simp [go_sem, *]
  have g2 : (w.setCell ⟨b, 2, none⟩ v).cell? ⟨b, 2, none⟩ = some v := by simp [go_sem, *]
  have g3 : (w.setCell ⟨b, 2, none⟩ v).cell? ⟨b, 3, none⟩ = some v3 := by simp [go_sem, *]
  have g4 : (w.setCell ⟨b, 2, none⟩ v).cell? ⟨b, 4, none⟩ = some v4 := by simp [go_sem, *]
  refine ⟨⟨by simpa using h.lt, by rw [tag_set]; exact h.tag, ⟨v0, g0, r0.off hbut h.tag (by decide) (by decide) (by decide)⟩, ⟨v1, g1, r1.off hbut h.tag (by decide) (by decide) (by decide)⟩, ⟨v, g2, hv.off hbut h.tag (by decide) (by decide) (by decide)⟩,
    ⟨v3, g3, own_but r3 hbut (.inr (by rw [h.tag]; decide)), fun x hx => (q3 x hx).off hbut (odd_of h.tag (by decide) (by decide))⟩,
    ⟨v4, g4, own_but r4 hbut (.inr (by rw [h.tag]; decide)), fun x hx => (q4 x hx).off hbut (odd_of h.tag (by decide) (by decide))⟩, by simp [go_sem, *], by simp [go_sem, *], by simp [go_sem, *]⟩, ?_⟩
  refine ⟨(Below.refl _ _).setCell hB _, fun s hs => ⟨hbut.block s hs.1 hs.2.1, by simpa using hs.1, hs.2.1, ?_, ?_⟩⟩
  · rw [g3, ← e3]; exact hs.2.2.1
  · rw [g4, ← e4]; exact hs.2.2.2

/-- One more in the work's list. -/
theorem WorkAt.pushList {W w1 : World} {b B : Nat} {st : List EntX} {fav : List PkX} {k : WorkX} (h : WorkAt W b B st fav k) (hB : B ≤ b) {v : Value} (ev : W.cell? ⟨b, 3, none⟩ = some v) {x : WhX} (hx : NeedsIn W x.needs x.nd) {g cap : Nat}
    (hown : w1.ownsRow B 145 2 (.slice (some ⟨g, 0, none⟩) (k.list.length + 1) cap) (k.list.length + 1) (k.list.flatMap whXC ++ whXC x)) (hg : W.grownBy w1 v.ownBlock) (hat : v.ownBlock = some g ∨ g = W.heap.size) :
    WorkAt (w1.setCell ⟨b, 3, none⟩ (.slice (some ⟨g, 0, none⟩) (k.list.length + 1) cap)) b B st fav ⟨k.tree, k.list ++ [x], k.gone⟩ ∧ Moves b B W (w1.setCell ⟨b, 3, none⟩ (.slice (some ⟨g, 0, none⟩) (k.list.length + 1) cap)) := by
  obtain ⟨v0, e0, r0⟩ := h.stock
  obtain ⟨v1, e1, r1⟩ := h.fav
  obtain ⟨v2, e2, r2⟩ := h.tree
  obtain ⟨v3, e3, r3, q3⟩ := h.list
  obtain ⟨v4, e4, r4, q4⟩ := h.gone
  obtain rfl : v = v3 := by rw [e3] at ev; simpa using ev.symm
  have hne : ∀ s t, tagOf W s = some t → t ≠ 145 → some s ≠ v.ownBlock := fun s t ht hn e => by
    have := tag_of_own r3 e.symm; rw [ht] at this; exact hn (by simpa using this)
  have hbb : w1.heap[b]? = W.heap[b]? := hg.block b h.lt (hne b _ h.tag (by decide))
  have hc : ∀ o, w1.cell? ⟨b, o, none⟩ = W.cell? ⟨b, o, none⟩ := fun o => World.cell?_of_block (w := W) hbb
  have hf : ∀ o, w1.frozen? ⟨b, o, none⟩ = W.frozen? ⟨b, o, none⟩ := fun o => World.frozen?_of_block (w := W) hbb
  have htb : tagOf w1 b = some 143 := by unfold tagOf; rw [hbb]; exact h.tag
  have hz := hg.size
  have hbut := But.set w1 b 3 (.slice (some ⟨g, 0, none⟩) (k.list.length + 1) cap)
  have c0 := (hc 0).trans e0; have c1 := (hc 1).trans e1; have c2 := (hc 2).trans e2; have c3 := (hc 3).trans e3; have c4 := (hc 4).trans e4
  have f2 := (hf 2).trans h.f2; have f3 := (hf 3).trans h.f3; have f4 := (hf 4).trans h.f4
  have g0 : (w1.setCell ⟨b, 3, none⟩ (.slice (some ⟨g, 0, none⟩) (k.list.length + 1) cap)).cell? ⟨b, 0, none⟩ = some v0 := by simp [go_sem, *]
  have g1 : (w1.setCell ⟨b, 3, none⟩ (.slice (some ⟨g, 0, none⟩) (k.list.length + 1) cap)).cell? ⟨b, 1, none⟩ = some v1 := by simp [go_sem, *]
  have g2 : (w1.setCell ⟨b, 3, none⟩ (.slice (some ⟨g, 0, none⟩) (k.list.length + 1) cap)).cell? ⟨b, 2, none⟩ = some v2 := by simp [go_sem, *]
  have g3 : (w1.setCell ⟨b, 3, none⟩ (.slice (some ⟨g, 0, none⟩) (k.list.length + 1) cap)).cell? ⟨b, 3, none⟩ = some (.slice (some ⟨g, 0, none⟩) (k.list.length + 1) cap) := by simp [go_sem, *]
  have g4 : (w1.setCell ⟨b, 3, none⟩ (.slice (some ⟨g, 0, none⟩) (k.list.length + 1) cap)).cell? ⟨b, 4, none⟩ = some v4 := by simp [go_sem, *]
  have ro := r4.kept hg (by
    rcases ho : v4.ownBlock with _ | q
    · exact .inl rfl
    · exact .inr (hne q _ (tag_of_own r4 ho) (by decide)))
  have e1' : (k.list ++ [x]).flatMap whXC = k.list.flatMap whXC ++ whXC x := by simp
  have e2' : (k.list ++ [x]).length = k.list.length + 1 := by simp
  have hl1 : w1.ownsRow B 145 2 (.slice (some ⟨g, 0, none⟩) (k.list.length + 1) cap) (k.list ++ [x]).length ((k.list ++ [x]).flatMap whXC) := by rw [e1', e2']; exact hown
  have hmem : ∀ y ∈ k.list ++ [x], NeedsIn w1 y.needs y.nd := by
    intro y hy
    simp only [List.mem_append, List.mem_singleton] at hy
    rcases hy with hy | rfl
    · exact (q3 y hy).grown hg r3 (by decide) (by decide)
    · exact hx.grown hg r3 (by decide) (by decide)
  have hoth : ∀ y ∈ k.gone, NeedIn w1 y.n := fun y hy => (q4 y hy).grown hg r3 (by decide)
  have R0 : EntsIn w1 v0 st := ⟨RowX.grown r0.1 hg r3 (by decide), fun e he => (r0.2 e he).grown hg r3 (by decide) (by decide)⟩
  have R1 : PksIn w1 v1 fav := ⟨RowX.grown r1.1 hg r3 (by decide), fun e he => (r1.2 e he).grown hg r3 (by decide) (by decide)⟩
  have R2 : PksIn w1 v2 k.tree := ⟨RowX.grown r2.1 hg r3 (by decide), fun e he => (r2.2 e he).grown hg r3 (by decide) (by decide)⟩
  have ho' : Odd w1 b := odd_of htb (by decide) (by decide)
  refine ⟨⟨by have := h.lt; simp; omega, by rw [tag_set]; exact htb, ⟨v0, g0, R0.off hbut htb (by decide) (by decide) (by decide)⟩, ⟨v1, g1, R1.off hbut htb (by decide) (by decide) (by decide)⟩, ⟨v2, g2, R2.off hbut htb (by decide) (by decide) (by decide)⟩,
    ⟨_, g3, own_but hl1 hbut (.inr (by rw [htb]; decide)), fun y hy => (hmem y hy).off hbut ho'⟩, ⟨v4, g4, own_but ro hbut (.inr (by rw [htb]; decide)), fun y hy => (hoth y hy).off hbut ho'⟩, by simp [go_sem, f2], by simp [go_sem, f3], by simp [go_sem, f4]⟩, ?_⟩
  refine ⟨((Below.refl B W).grown hg (by have := h.lt; omega) (fun q hq => (r3.lt q hq).1)).setCell hB _, fun s hs => ⟨?_, by have := hs.1; simp; omega, hs.2.1, ?_, ?_⟩⟩
  · rw [hbut.block s (by have := hs.1; omega) hs.2.1]
    exact hg.block s hs.1 (fun e => hs.2.2.1 v e3 e.symm)
  · intro u hu
    rw [g3] at hu; simp at hu; subst hu
    simp [Value.ownBlock]
    intro e
    rcases hat with hat | hat
    · exact hs.2.2.1 v e3 (by rw [hat, e])
    · have := hs.1; omega
  · intro u hu
    rw [g4] at hu; simp at hu; subst hu
    exact hs.2.2.2 v4 e4

/-- One more in the work's gone. -/
theorem WorkAt.pushGone {W w1 : World} {b B : Nat} {st : List EntX} {fav : List PkX} {k : WorkX} (h : WorkAt W b B st fav k) (hB : B ≤ b) {v : Value} (ev : W.cell? ⟨b, 4, none⟩ = some v) {x : AsX} (hx : NeedIn W x.n) {g cap : Nat}
    (hown : w1.ownsRow B 164 4 (.slice (some ⟨g, 0, none⟩) (k.gone.length + 1) cap) (k.gone.length + 1) (k.gone.flatMap asXC ++ asXC x)) (hg : W.grownBy w1 v.ownBlock) (hat : v.ownBlock = some g ∨ g = W.heap.size) :
    WorkAt (w1.setCell ⟨b, 4, none⟩ (.slice (some ⟨g, 0, none⟩) (k.gone.length + 1) cap)) b B st fav ⟨k.tree, k.list, k.gone ++ [x]⟩ ∧ Moves b B W (w1.setCell ⟨b, 4, none⟩ (.slice (some ⟨g, 0, none⟩) (k.gone.length + 1) cap)) := by
  obtain ⟨v0, e0, r0⟩ := h.stock
  obtain ⟨v1, e1, r1⟩ := h.fav
  obtain ⟨v2, e2, r2⟩ := h.tree
  obtain ⟨v3, e3, r3, q3⟩ := h.list
  obtain ⟨v4, e4, r4, q4⟩ := h.gone
  obtain rfl : v = v4 := by rw [e4] at ev; simpa using ev.symm
  have hne : ∀ s t, tagOf W s = some t → t ≠ 164 → some s ≠ v.ownBlock := fun s t ht hn e => by
    have := tag_of_own r4 e.symm; rw [ht] at this; exact hn (by simpa using this)
  have hbb : w1.heap[b]? = W.heap[b]? := hg.block b h.lt (hne b _ h.tag (by decide))
  have hc : ∀ o, w1.cell? ⟨b, o, none⟩ = W.cell? ⟨b, o, none⟩ := fun o => World.cell?_of_block (w := W) hbb
  have hf : ∀ o, w1.frozen? ⟨b, o, none⟩ = W.frozen? ⟨b, o, none⟩ := fun o => World.frozen?_of_block (w := W) hbb
  have htb : tagOf w1 b = some 143 := by unfold tagOf; rw [hbb]; exact h.tag
  have hz := hg.size
  have hbut := But.set w1 b 4 (.slice (some ⟨g, 0, none⟩) (k.gone.length + 1) cap)
  have c0 := (hc 0).trans e0; have c1 := (hc 1).trans e1; have c2 := (hc 2).trans e2; have c3 := (hc 3).trans e3; have c4 := (hc 4).trans e4
  have f2 := (hf 2).trans h.f2; have f3 := (hf 3).trans h.f3; have f4 := (hf 4).trans h.f4
  have g0 : (w1.setCell ⟨b, 4, none⟩ (.slice (some ⟨g, 0, none⟩) (k.gone.length + 1) cap)).cell? ⟨b, 0, none⟩ = some v0 := by simp [go_sem, *]
  have g1 : (w1.setCell ⟨b, 4, none⟩ (.slice (some ⟨g, 0, none⟩) (k.gone.length + 1) cap)).cell? ⟨b, 1, none⟩ = some v1 := by simp [go_sem, *]
  have g2 : (w1.setCell ⟨b, 4, none⟩ (.slice (some ⟨g, 0, none⟩) (k.gone.length + 1) cap)).cell? ⟨b, 2, none⟩ = some v2 := by simp [go_sem, *]
  have g4 : (w1.setCell ⟨b, 4, none⟩ (.slice (some ⟨g, 0, none⟩) (k.gone.length + 1) cap)).cell? ⟨b, 4, none⟩ = some (.slice (some ⟨g, 0, none⟩) (k.gone.length + 1) cap) := by simp [go_sem, *]
  have g3 : (w1.setCell ⟨b, 4, none⟩ (.slice (some ⟨g, 0, none⟩) (k.gone.length + 1) cap)).cell? ⟨b, 3, none⟩ = some v3 := by simp [go_sem, *]
  have ro := r3.kept hg (by
    rcases ho : v3.ownBlock with _ | q
    · exact .inl rfl
    · exact .inr (hne q _ (tag_of_own r3 ho) (by decide)))
  have e1' : (k.gone ++ [x]).flatMap asXC = k.gone.flatMap asXC ++ asXC x := by simp
  have e2' : (k.gone ++ [x]).length = k.gone.length + 1 := by simp
  have hl1 : w1.ownsRow B 164 4 (.slice (some ⟨g, 0, none⟩) (k.gone.length + 1) cap) (k.gone ++ [x]).length ((k.gone ++ [x]).flatMap asXC) := by rw [e1', e2']; exact hown
  have hmem : ∀ y ∈ k.gone ++ [x], NeedIn w1 y.n := by
    intro y hy
    simp only [List.mem_append, List.mem_singleton] at hy
    rcases hy with hy | rfl
    · exact (q4 y hy).grown hg r4 (by decide)
    · exact hx.grown hg r4 (by decide)
  have hoth : ∀ y ∈ k.list, NeedsIn w1 y.needs y.nd := fun y hy => (q3 y hy).grown hg r4 (by decide) (by decide)
  have R0 : EntsIn w1 v0 st := ⟨RowX.grown r0.1 hg r4 (by decide), fun e he => (r0.2 e he).grown hg r4 (by decide) (by decide)⟩
  have R1 : PksIn w1 v1 fav := ⟨RowX.grown r1.1 hg r4 (by decide), fun e he => (r1.2 e he).grown hg r4 (by decide) (by decide)⟩
  have R2 : PksIn w1 v2 k.tree := ⟨RowX.grown r2.1 hg r4 (by decide), fun e he => (r2.2 e he).grown hg r4 (by decide) (by decide)⟩
  have ho' : Odd w1 b := odd_of htb (by decide) (by decide)
  refine ⟨⟨by have := h.lt; simp; omega, by rw [tag_set]; exact htb, ⟨v0, g0, R0.off hbut htb (by decide) (by decide) (by decide)⟩, ⟨v1, g1, R1.off hbut htb (by decide) (by decide) (by decide)⟩, ⟨v2, g2, R2.off hbut htb (by decide) (by decide) (by decide)⟩,
    ⟨v3, g3, own_but ro hbut (.inr (by rw [htb]; decide)), fun y hy => (hoth y hy).off hbut ho'⟩, ⟨_, g4, own_but hl1 hbut (.inr (by rw [htb]; decide)), fun y hy => (hmem y hy).off hbut ho'⟩, by simp [go_sem, f2], by simp [go_sem, f3], by simp [go_sem, f4]⟩, ?_⟩
  refine ⟨((Below.refl B W).grown hg (by have := h.lt; omega) (fun q hq => (r4.lt q hq).1)).setCell hB _, fun s hs => ⟨?_, by have := hs.1; simp; omega, hs.2.1, ?_, ?_⟩⟩
  · rw [hbut.block s (by have := hs.1; omega) hs.2.1]
    exact hg.block s hs.1 (fun e => hs.2.2.2 v e4 e.symm)
  · intro u hu
    rw [g3] at hu; simp at hu; subst hu
    exact hs.2.2.1 v3 e3
  · intro u hu
    rw [g4] at hu; simp at hu; subst hu
    simp [Value.ownBlock]
    intro e
    rcases hat with hat | hat
    · exact hs.2.2.2 v e4 (by rw [hat, e])
    · have := hs.1; omega

end Hst
end Go.Proofs.YtecocheolbkneaaDoor
namespace Go.Proofs.YtecocheolbkneaaDoor
open Go.RowKit
namespace Hst
set_option maxRecDepth 100000

theorem chooseGo_mem (fav : List PkX) : ∀ (l : List EntX) (best : EntX) (bf fd : Bool), (chooseGo fav best bf fd l).2 = true → (chooseGo fav best bf fd l).1 ∈ l ∨ (fd = true ∧ (chooseGo fav best bf fd l).1 = best)
  | [], best, bf, fd, h => .inr ⟨h, rfl⟩
  | e :: r, best, bf, fd, h => by
    by_cases hc : (!fd || (if hasP fav e.name e.ver = bf then decide (best.ver < e.ver) else hasP fav e.name e.ver)) = true
    · rw [chooseGo, if_pos hc] at h ⊢
      rcases chooseGo_mem fav r e _ true h with h1 | ⟨_, h1⟩
      · exact .inl (List.mem_cons_of_mem _ h1)
      · rw [h1]; exact .inl (by simp)
    · rw [chooseGo, if_neg hc] at h ⊢
      rcases chooseGo_mem fav r best bf true h with h1 | ⟨_, h1⟩
      · exact .inl (List.mem_cons_of_mem _ h1)
      · refine .inr ⟨?_, h1⟩
        cases fd
        · simp at hc
        · rfl
theorem choose_mem {st : List EntX} {fav : List PkX} {n : NeedX} (h : (chooseP st fav n).2 = true) : (chooseP st fav n).1 ∈ st := by
  rcases chooseGo_mem fav (fittingP st n) zeroE false false h with h1 | ⟨h1, _⟩
  · exact fitting_mem h1
  · exact absurd h1 (by simp)
theorem info_whX : (Tryd.prog.info? 145).map (fun i => (i.zero, i.size, i.bytes)) = some (some (.agg #[.string ByteArray.empty, .slice none 0 0]), 2, 40) := by kernel_rfl
theorem whX_one (n : WhX) {a : Option Addr} {m c : Nat} (h : n.needs = .slice a m c) : ∀ u ∈ whXC n, u.oneCell' = true := by
  intro u hu; simp [whXC, h] at hu; rcases hu with rfl | rfl <;> rfl
theorem news_2 (w : World) (x y : Value) (t : TypeId) : ∀ j u, [x, y][j]? = some u → (w.alloc (.cells #[x, y] t)).cell? ((⟨w.heap.size, 0, none⟩ : Addr).add j) = some u := by
  intro j u hu
  exact World.news_of_block (heap_alloc_new w (.cells #[x, y] t)) j u (by simpa using hu)
theorem grow_far_f {w w1 : World} {v : Value} (hg : w.grownBy w1 v.ownBlock) {b : Nat} (hb : b < w.heap.size) (hne : ∀ k, v.ownBlock = some k → k ≠ b) : ∀ o, w1.frozen? ⟨b, o, none⟩ = w.frozen? ⟨b, o, none⟩ := fun o =>
  World.frozen?_of_block (w := w) (hg.block b hb (by intro h; exact hne _ h.symm rfl))
theorem lay_no {st : List EntX} {fav : List PkX} {k : WorkX} {p : Tx} {n : NeedX} (h : (chooseP st fav n).2 = false) : layP st fav k p n = (k, 8) := by unfold layP; rw [if_pos h]
theorem lay_full {st : List EntX} {fav : List PkX} {k : WorkX} {p : Tx} {n : NeedX} (h : (chooseP st fav n).2 = true) (h' : 40 ≤ k.tree.length) : layP st fav k p n = (k, 9) := by unfold layP; rw [if_neg (by rw [h]; simp), if_pos h']
theorem lay_ok {st : List EntX} {fav : List PkX} {k : WorkX} {p : Tx} {n : NeedX} (h : (chooseP st fav n).2 = true) (h' : ¬ 40 ≤ k.tree.length) :
    layP st fav k p n = (⟨withP k.tree (placeP k.tree k.gone p (chooseP st fav n).1), k.list ++ [⟨(placeP k.tree k.gone p (chooseP st fav n).1).path, (chooseP st fav n).1.needs, (chooseP st fav n).1.nd⟩], k.gone⟩, 0) := by
  unfold layP; rw [if_neg (by rw [h]; simp), if_neg h']
theorem placeGo_e (l : List PkX) (g : List AsX) (p : Tx) (e : EntX) : ∀ (n : Nat) (f : Tx) (b : PkX), f.length ≤ n → b.e = e → (placeGo l g p e f b).e = e
  | n, f, b, hn, hb => by
    by_cases h : f = []
    · subst h; rw [plg_end]; exact hb
    · have hlt := folderP_lt h
      cases n with
      | zero => have := List.length_pos_iff.2 h; omega
      | succ n =>
        rcases hw : willDoP l g p ⟨joinR (folderP f) e.name, e⟩ with _ | _
        · rw [plg_no l g p e f b h hw]; exact placeGo_e l g p e n _ _ (by omega) hb
        · rw [plg_yes l g p e f b h hw]; exact placeGo_e l g p e n _ _ (by omega) rfl
theorem placeP_e (l : List PkX) (g : List AsX) (p : Tx) (e : EntX) : (placeP l g p e).e = e := placeGo_e l g p e _ p _ (Nat.le_refl _) rfl

attribute [local go_sem ↓] Go.wp_at_zero Go.wp_at_succ

set_option maxHeartbeats 4000000 in
theorem lay_any (b B : Nat) (st : List EntX) (fav : List PkX) (k : WorkX) (p : ByteArray) (x : NeedX) (w : World) (hw : WorkAt w b B st fav k) (hB : B ≤ b) (hx : NeedIn w x) (hst : st.length ≤ 1000) (hfl : fav.length ≤ 1000) (hp : p.size ≤ 40000) (htl : k.tree.length ≤ 1000) (hpo : PathsOk k.tree) (hgl : k.gone.length ≤ 100000) (hgp : ∀ a ∈ k.gone, a.path.length ≤ 50000) (hll : k.list.length ≤ 100000) :
    Calls Tryd.prog 103 #[.pointer (some ⟨b, 0, none⟩), .string p, needXV x] w fun e w' => e = .returned (.int .i64 (layP st fav k (tx p) x).2) ∧ Moves b B w w' ∧ WorkAt w' b B st fav (layP st fav k (tx p) x).1 := by
  obtain ⟨xa, xc, hxf⟩ := hx.form
  have HCH := hid' (fun w hw hx => choose_any' b B st fav k x w hw hx hst hfl)
  have HPL := hid' (fun e w hw he => place_any b B st fav k p e w hw he hp htl hpo hgl hgp)
  have L1 := hid' (lay_no (st := st) (fav := fav) (k := k) (p := tx p) (n := x))
  have L2 := hid' (lay_full (st := st) (fav := fav) (k := k) (p := tx p) (n := x))
  have L3 := hid' (lay_ok (st := st) (fav := fav) (k := k) (p := tx p) (n := x))
  have HCM := hid' (choose_mem (st := st) (fav := fav) (n := x))
  have HPE := hid' (placeP_e k.tree k.gone (tx p) (chooseP st fav x).1)
  have HX := hid' hx
  have HW := hid' hw
  have hlt := hw.lt
  have HBz : Hid (B ≤ w.heap.size) := by unfold Hid; omega
  obtain ⟨xn, xsp, xs, xt⟩ := x
  simp only at hxf
  subst hxf
  generalize chooseP st fav ⟨xn, .slice xa xs.length xc, xs, xt⟩ = ch at *
  generalize layP st fav k (tx p) ⟨xn, .slice xa xs.length xc, xs, xt⟩ = res at *
  obtain ⟨ce, cb⟩ := ch
  simp only at HCH L1 L2 L3 HCM HPE
  have hbw := (Below.refl w.heap.size w).alloc (Nat.le_refl _) (.cells #[.string (bs xn), .slice xa xs.length xc, .string (bs xt)] 86)
  have HW1 := hid' (HW.out.below hbw)
  have HX1 := hid' (HX.out.below hbw)
  have HBW := hid' hbw
  clear hw hx hbw
  go_enter Tryd.func103, Tryd.ntmps103
  go_wp2_with fail
  refine (HCH.out _ HW1.out HX1.out).mono ?_
  rintro e w1 ⟨rfl, hb1, ⟨ca, cn, cc, hcf⟩⟩
  obtain ⟨en, ev, esp, ed⟩ := ce
  simp only at hcf
  subst hcf
  have hz1 := hb1.size
  simp at hz1
  have HB1 := hid' (HBW.out.trans (hb1.mono (by simp)))
  have HW2 := hid' (HW1.out.below hb1)
  have hba := (Below.refl w1.heap.size w1).alloc (Nat.le_refl _) (.cells #[.string (bs en), .int .i64 ev, .slice ca cn cc] 128)
  have HB2 := hid' (HB1.out.trans (hba.mono (by omega)))
  have HW3 := hid' (HW2.out.below hba)
  have hbz1 : b < w1.heap.size := by omega
  cases cb
  · have HF := hid' (L1.out rfl)
    clear hb1 hba L1 L2 L3
    go_wp2
    go_ret
    refine ⟨ret_int (by rw [HF.out]), Moves.of_below HB2.out hlt HBz.out, ?_⟩
    rw [HF.out]; exact HW3.out
  · have hce := HCM.out rfl
    obtain ⟨v0, e0, r0⟩ := HW3.out.stock
    have HCE := hid' (r0.2 _ hce)
    obtain ⟨v2, e2, r2⟩ := HW3.out.tree
    obtain ⟨ta, tc, rfl⟩ := r2.1.form
    have HR2 := hid' r2
    have HCT := hid' (fun w h => count_any (.slice ta k.tree.length tc) k.tree w h)
    have q0 : (w1.alloc (.cells #[.string (bs en), .int .i64 ev, .slice ca cn cc] 128)).cell? ⟨w1.heap.size, 0, none⟩ = some (.string (bs en)) := by simp
    have q1 : (w1.alloc (.cells #[.string (bs en), .int .i64 ev, .slice ca cn cc] 128)).cell? ⟨w1.heap.size, 1, none⟩ = some (.int .i64 ev) := by simp
    have q2 : (w1.alloc (.cells #[.string (bs en), .int .i64 ev, .slice ca cn cc] 128)).cell? ⟨w1.heap.size, 2, none⟩ = some (.slice ca cn cc) := by simp
    have hsz : (w1.alloc (.cells #[.string (bs en), .int .i64 ev, .slice ca cn cc] 128)).heap.size = w1.heap.size + 1 := by simp
    clear hb1 hba e0 r0 r2 hce
    go_wp2_with fail
    refine (HCT.out _ HR2.out).mono ?_
    rintro e w2 ⟨rfl, hb2⟩
    have hcc := (bcell hb2).1
    have p0 := (hcc w1.heap.size 0 (by simp)).trans q0
    have p1 := (hcc w1.heap.size 1 (by simp)).trans q1
    have p2 := (hcc w1.heap.size 2 (by simp)).trans q2
    have hz2 := hb2.size
    simp at hz2
    have h12 : w1.heap.size < w2.heap.size := by omega
    have HB3 := hid' (HB2.out.trans (hb2.mono (by simp; omega)))
    have HW4 := hid' (HW3.out.below hb2)
    have HCE2 := hid' (HCE.out.below hb2)
    clear hb2 hcc q0 q1 q2 hsz e2
    by_cases h40 : 40 ≤ k.tree.length
    · have HF := hid' (L2.out trivial h40)
      have h40' : (40 : Int) ≤ (k.tree.length : Int) := by omega
      clear L1 L2 L3
      go_wp2
      go_ret
      refine ⟨ret_int (by rw [HF.out]), Moves.of_below HB3.out hlt HBz.out, ?_⟩
      rw [HF.out]; exact HW4.out
    · have HF := hid' (L3.out trivial h40)
      have h40' : ¬ (40 : Int) ≤ (k.tree.length : Int) := by omega
      clear L1 L2 L3
      go_wp2_with fail
      refine (HPL.out _ _ HW4.out HCE2.out).mono ?_
      rintro e w3 ⟨rfl, hb3⟩
      generalize placeP k.tree k.gone (tx p) ⟨en, ev, .slice ca cn cc, ed⟩ = pl at *
      obtain ⟨pp, pe⟩ := pl
      simp only at HPE
      have hpe := HPE.out
      subst hpe
      have hcc := (bcell hb3).1
      have s0 := (hcc w1.heap.size 0 h12).trans p0
      have s1 := (hcc w1.heap.size 1 h12).trans p1
      have s2 := (hcc w1.heap.size 2 h12).trans p2
      have hz3 := hb3.size
      have HB4 := hid' (HB3.out.trans (hb3.mono (by omega)))
      have hba := (Below.refl w3.heap.size w3).alloc (Nat.le_refl _) (.cells #[.string (bs pp), .string (bs en), .int .i64 ev, .slice ca cn cc] 130)
      have HB5 := hid' (HB4.out.trans (hba.mono (by omega)))
      have HW5 := hid' ((HW4.out.below hb3).below hba)
      have HCE3 := hid' ((HCE2.out.below hb3).below hba)
      have t2 := ((bcell hba).1 w1.heap.size 2 (by omega)).trans s2
      have u0 : (w3.alloc (.cells #[.string (bs pp), .string (bs en), .int .i64 ev, .slice ca cn cc] 130)).cell? ⟨w3.heap.size, 0, none⟩ = some (.string (bs pp)) := by simp
      have u1 : (w3.alloc (.cells #[.string (bs pp), .string (bs en), .int .i64 ev, .slice ca cn cc] 130)).cell? ⟨w3.heap.size, 1, none⟩ = some (.string (bs en)) := by simp
      have u2 : (w3.alloc (.cells #[.string (bs pp), .string (bs en), .int .i64 ev, .slice ca cn cc] 130)).cell? ⟨w3.heap.size, 2, none⟩ = some (.int .i64 ev) := by simp
      have u3 : (w3.alloc (.cells #[.string (bs pp), .string (bs en), .int .i64 ev, .slice ca cn cc] 130)).cell? ⟨w3.heap.size, 3, none⟩ = some (.slice ca cn cc) := by simp
      have hsz : (w3.alloc (.cells #[.string (bs pp), .string (bs en), .int .i64 ev, .slice ca cn cc] 130)).heap.size = w3.heap.size + 1 := by simp
      clear hb3 hcc p0 p1 p2 s0 s1 s2 hba
      go_wp2
      generalize w3.alloc (.cells #[.string (bs pp), .string (bs en), .int .i64 ev, .slice ca cn cc] 130) = V at *
      obtain ⟨v2, e2, r2⟩ := HW5.out.tree
      obtain ⟨va, vc, rfl⟩ := r2.1.form
      have HR3 := hid' r2
      have hV3 : w3.heap.size < V.heap.size := by omega
      have hV1 : w1.heap.size < V.heap.size := by omega
      have hVb : b < V.heap.size := by omega
      have hf2 := HW5.out.f2
      have n1 : w3.heap.size ≠ b := by omega
      have n2 : b ≠ w3.heap.size := by omega
      have HWI := hid' (fun w h h' => withP_any (.slice va k.tree.length vc) k.tree ⟨pp, en, ev, .slice ca cn cc, ed⟩ w h h' (by omega))
      clear r2 hsz
      go_cut [34] (fun t wc => ∃ (na : Option Addr) (nc : Nat) (w4 : World), t = .agg #[.slice na (withP k.tree ⟨pp, en, ev, .slice ca cn cc, ed⟩).length nc] ∧ wc = w4.setCell ⟨b, 2, none⟩ (.slice na (withP k.tree ⟨pp, en, ev, .slice ca cn cc, ed⟩).length nc) ∧ Below V.heap.size V w4 ∧ PksIn w4 (.slice na (withP k.tree ⟨pp, en, ev, .slice ca cn cc, ed⟩).length nc) (withP k.tree ⟨pp, en, ev, .slice ca cn cc, ed⟩))
      case first =>
        go_region_with (first | (go_at_call 104; refine (HWI.out _ (by first | exact HR3.out | exact HR3.out.drew) (by first | exact HCE3.out | exact HCE3.out.below (Below.refl _ _).drew)).mono ?_; rintro e w4 ⟨v4, rfl, hin4, hb4⟩; obtain ⟨na, nc, rfl⟩ := hin4.1.form; have hy4 := (bcell hb4).1; have hy5 := (bcell hb4).2; simp at hy4 hy5))
        all_goals
          have hb4' := (Below.refl V.heap.size V).drew.trans (hb4.mono (by simp))
          go_wp2_with fail
          go_meet
          exact ⟨na, nc, w4, rfl, rfl, hb4', hin4⟩
      case rest =>
        obtain ⟨na, nc, w4, rfl, rfl, hb4, hin4⟩ := hcut
        obtain ⟨hwk, hmv⟩ := (HW5.out.below hb4).setTree hB hin4
        have hz4 := hb4.size
        have HM1 := hid' ((Moves.of_below (HB5.out.trans (hb4.mono (by omega))) hlt HBz.out).trans hmv)
        have hbut := But.set w4 b 2 (.slice na (withP k.tree ⟨pp, en, ev, .slice ca cn cc, ed⟩).length nc)
        have x0 := (hbut.cell (o := 0) (show w3.heap.size < w4.heap.size by omega) n1).trans (((bcell hb4).1 w3.heap.size 0 hV3).trans u0)
        have x2 := (hbut.cell (o := 2) (show w1.heap.size < w4.heap.size by omega) (show w1.heap.size ≠ b by omega)).trans (((bcell hb4).1 w1.heap.size 2 hV1).trans t2)
        have hc3 := ((HCE3.out.below hb4).off hbut (odd_of ((HW5.out.below hb4).tag) (by decide) (by decide))).1
        have HNI := hid' hc3
        have HWK := hid' hwk
        have hX1 : w1.heap.size < (w4.setCell ⟨b, 2, none⟩ (.slice na (withP k.tree ⟨pp, en, ev, .slice ca cn cc, ed⟩).length nc)).heap.size := by simp; omega
        have hX3 : w3.heap.size < (w4.setCell ⟨b, 2, none⟩ (.slice na (withP k.tree ⟨pp, en, ev, .slice ca cn cc, ed⟩).length nc)).heap.size := by simp; omega
        clear hwk hmv hbut hb4 hin4 hc3 u0 u1 u2 u3 t2 e2
        generalize w4.setCell ⟨b, 2, none⟩ (.slice na (withP k.tree ⟨pp, en, ev, .slice ca cn cc, ed⟩).length nc) = X at *
        obtain ⟨v3, e3, r3, q3⟩ := HWK.out.list
        simp only at r3 q3
        obtain ⟨la, lc, rfl⟩ := own_slice r3
        have hf3 := HWK.out.f3
        have hXb := HWK.out.lt
        obtain ⟨i0, hi, hz0, hz1', hz2'⟩ := info_parts info_whX
        have hnb : ∀ q, (Value.slice la k.list.length lc).ownBlock = some q → q ≠ b := fun q hq e => by
          have h1 := tag_of_own r3 hq
          rw [e, HWK.out.tag] at h1
          exact absurd h1 (by decide)
        have HNB := hid' hnb
        clear q3 hnb
        go_wp2
        go_cut [6] (fun t wc => t = .int .i64 0 ∧ Moves b B w wc ∧ WorkAt wc b B st fav ⟨withP k.tree ⟨pp, en, ev, .slice ca cn cc, ed⟩, k.list ++ [⟨pp, .slice ca cn cc, ed⟩], k.gone⟩)
        case first =>
          go_region_law (refine step_append_lies _ (by rfl) _ _ 140 (by rfl) B 145 i0 (.agg #[.string ByteArray.empty, .slice none 0 0]) 2 40 Tryd.underlying140 hi hz0 hz1' hz2' (by rfl) (by omega) _ _ _ (by rfl) (by first | exact (r3.alloc _).drew | exact r3.drew.alloc _) ⟨X.heap.size, 0, none⟩ 1 1 [.string (bs pp), .slice ca cn cc] (by rfl) (by rfl) (by first | exact news_2 _ _ _ _) (whX_one ⟨pp, .slice ca cn cc, ed⟩ rfl) (by omega) (by unfold maxLen; omega) (by omega) (by simp; omega) (X.heap.size + 1) (by simp) ?_; intro g1 cap1 w5 hown5 hgrow5 hat5 hlt5; have y3 := grow_far hgrow5 (b := b) (by simp; omega) HNB.out 3; have y4 := grow_far_f hgrow5 (b := b) (by simp; omega) HNB.out 3; simp [go_sem] at y3 y4)
          all_goals
            have R := WorkAt.pushList (v := .slice la k.list.length lc) (x := ⟨pp, .slice ca cn cc, ed⟩) (HWK.out.below (by first | exact ((Below.refl _ _).alloc (Nat.le_refl _) _).drew | exact (Below.refl _ _).drew.alloc (by simp) _)) hB ((Below.cell (w := X) (by first | exact ((Below.refl _ _).alloc (Nat.le_refl _) _).drew | exact (Below.refl _ _).drew.alloc (by simp) _) (p := ⟨b, 3, none⟩) hXb).trans e3) (HNI.out.below (by first | exact ((Below.refl _ _).alloc (Nat.le_refl _) _).drew | exact (Below.refl _ _).drew.alloc (by simp) _)) hown5 hgrow5 (hat5.imp id (fun h => by rw [h]; simp))
            have HR := hid' (And.intro R.1 ((HM1.out.trans (Moves.of_below (by first | exact ((Below.refl _ _).alloc (Nat.le_refl _) _).drew | exact (Below.refl _ _).drew.alloc (by simp) _) hXb (by omega))).trans R.2))
            clear R hown5 hgrow5 hat5
            go_wp2_with fail
            go_meet
            exact ⟨rfl, HR.out.2, HR.out.1⟩
        case rest =>
          obtain ⟨rfl, hm, hwk⟩ := hcut
          have HMM := hid' hm
          have HWF := hid' hwk
          clear hm hwk
          go_wp2
          go_ret
          refine ⟨ret_int (by rw [HF.out]), HMM.out, ?_⟩
          rw [HF.out]; exact HWF.out

end Hst
end Go.Proofs.YtecocheolbkneaaDoor
namespace Go.Proofs.YtecocheolbkneaaDoor
namespace Hst

theorem insG_mem' {α : Type} (key : α → Tx) (x : α) : ∀ (l : List α) (b : Bool) (y : α), y ∈ insG key x b l → y = x ∨ y ∈ l
  | [], b, y, h => by cases b <;> simp [insG] at h; exact .inl h
  | z :: r, b, y, h => by
    simp only [insG] at h
    split at h
    · simp only [List.mem_cons] at h
      rcases h with h | h | h
      · exact .inl h
      · exact .inr (by simp [h])
      · rcases insG_mem' key x r true y h with h | h
        · exact .inl h
        · exact .inr (by simp [h])
    · simp only [List.mem_cons] at h
      rcases h with h | h
      · exact .inr (by simp [h])
      · rcases insG_mem' key x r b y h with h | h
        · exact .inl h
        · exact .inr (by simp [h])
theorem insG_len' {α : Type} (key : α → Tx) (x : α) : ∀ (l : List α) (b : Bool), (insG key x b l).length = l.length + (if b = true then 0 else 1)
  | [], b => by cases b <;> simp [insG]
  | y :: r, b => by
    have h1 := insG_len' key x r true
    have h2 := insG_len' key x r b
    simp only [insG]
    split
    · rename_i h
      rw [h.1]; simp [h1]
    · simp [h2]; omega
theorem joinR_le (f n : Tx) : (joinR f n).length ≤ f.length + 1 + n.length := by
  unfold joinR
  by_cases h : f = []
  · rw [if_pos h]; omega
  · rw [if_neg h]; simp; omega
theorem placeGo_path (l : List PkX) (g : List AsX) (p : Tx) (e : EntX) (m : Nat) : ∀ (n : Nat) (f : Tx) (b : PkX), f.length ≤ n → f.length + 1 + e.name.length ≤ m → b.path.length ≤ m → (placeGo l g p e f b).path.length ≤ m
  | n, f, b, hn, hf, hb => by
    rw [placeGo_eq]
    by_cases h : f = []
    · rw [dif_pos h]; exact hb
    · rw [dif_neg h]
      have hlt := folderP_lt h
      cases n with
      | zero => have := List.length_pos_iff.2 h; omega
      | succ n =>
        refine placeGo_path l g p e m n _ _ (by omega) (by omega) ?_
        split
        · have := joinR_le (folderP f) e.name
          simp only; omega
        · exact hb
theorem placeP_path (l : List PkX) (g : List AsX) (p : Tx) (e : EntX) : (placeP l g p e).path.length ≤ p.length + 1 + e.name.length :=
  placeGo_path l g p e _ _ p _ (Nat.le_refl _) (Nat.le_refl _) (joinR_le _ _)

/-- The bounds of a work. -/
structure WOk (k : WorkX) : Prop where
  tree : k.tree.length ≤ 40
  list : k.list.length = k.tree.length + 1
  lp : ∀ x ∈ k.list, x.path.length ≤ 4 * k.tree.length ∧ x.nd.length ≤ 6
  tp : ∀ p ∈ k.tree, p.path.length ≤ 4 * k.tree.length
  gp : ∀ a ∈ k.gone, a.path.length ≤ 160
theorem WOk.gone {k : WorkX} (h : WOk k) {path : Tx} (hp : path.length ≤ 4 * k.tree.length) (n : NeedX) : WOk ⟨k.tree, k.list, k.gone ++ [⟨path, n⟩]⟩ := by
  refine ⟨h.tree, h.list, h.lp, h.tp, fun a ha => ?_⟩
  simp only [List.mem_append, List.mem_singleton] at ha
  rcases ha with ha | rfl
  · exact h.gp a ha
  · have := h.tree; simp only; omega
/-- What the stock's entries are, as far as lengths go. -/
def StOk (st : List EntX) : Prop := st.length ≤ 40 ∧ ∀ e ∈ st, e.name.length ≤ 3 ∧ e.nd.length ≤ 6
theorem chooseGo_in (fav : List PkX) : ∀ (l : List EntX) (best : EntX) (bf fd : Bool), (chooseGo fav best bf fd l).2 = true → (chooseGo fav best bf fd l).1 ∈ l ∨ (fd = true ∧ (chooseGo fav best bf fd l).1 = best)
  | [], best, bf, fd, h => .inr ⟨h, rfl⟩
  | e :: r, best, bf, fd, h => by
    by_cases hc : (!fd || (if hasP fav e.name e.ver = bf then decide (best.ver < e.ver) else hasP fav e.name e.ver)) = true
    · rw [chooseGo, if_pos hc] at h ⊢
      rcases chooseGo_in fav r e _ true h with h1 | ⟨_, h1⟩
      · exact .inl (List.mem_cons_of_mem _ h1)
      · rw [h1]; exact .inl (by simp)
    · rw [chooseGo, if_neg hc] at h ⊢
      rcases chooseGo_in fav r best bf true h with h1 | ⟨_, h1⟩
      · exact .inl (List.mem_cons_of_mem _ h1)
      · refine .inr ⟨?_, h1⟩
        cases fd
        · simp at hc
        · rfl
theorem choose_in {st : List EntX} {fav : List PkX} {n : NeedX} (h : (chooseP st fav n).2 = true) : (chooseP st fav n).1 ∈ st := by
  rcases chooseGo_in fav (fittingP st n) zeroE false false h with h1 | ⟨h1, _⟩
  · exact (List.mem_filter.1 h1).1
  · exact absurd h1 (by simp)
theorem WOk.lay {st : List EntX} {fav : List PkX} {k : WorkX} {path : Tx} {n : NeedX} (h : WOk k) (hs : StOk st) (hp : path.length ≤ 4 * k.tree.length) : WOk (layP st fav k path n).1 ∧ k.tree.length ≤ (layP st fav k path n).1.tree.length ∧ (layP st fav k path n).1.gone = k.gone := by
  unfold layP
  by_cases h1 : (chooseP st fav n).2 = false
  · rw [if_pos h1]; exact ⟨h, Nat.le_refl _, rfl⟩
  · rw [if_neg h1]
    by_cases h2 : 40 ≤ k.tree.length
    · rw [if_pos h2]; exact ⟨h, Nat.le_refl _, rfl⟩
    · rw [if_neg h2]
      have hm := hs.2 _ (choose_in (by simpa using h1))
      have hpl := placeP_path k.tree k.gone path (chooseP st fav n).1
      have hl : (withP k.tree (placeP k.tree k.gone path (chooseP st fav n).1)).length = k.tree.length + 1 := insG_len' _ _ _ false
      generalize placeP k.tree k.gone path (chooseP st fav n).1 = pl at *
      generalize (chooseP st fav n).1 = ce at *
      refine ⟨⟨by simp only; omega, by simp only [List.length_append, List.length_singleton]; have := h.list; omega, fun x hx => ?_, fun p hp' => ?_, h.gp⟩, by simp only; omega, rfl⟩
      · simp only at hx ⊢
        simp only [List.mem_append, List.mem_singleton] at hx
        rcases hx with hx | rfl
        · have := h.lp x hx; omega
        · simp only; omega
      · simp only at hp' ⊢
        rcases insG_mem' _ _ _ _ _ hp' with rfl | hp'
        · omega
        · have := h.tp p hp'; omega
theorem WOk.work {st : List EntX} {fav : List PkX} {path : Tx} (hs : StOk st) : ∀ (l : List NeedX) (k : WorkX), WOk k → path.length ≤ 4 * k.tree.length → WOk (workGo st fav path k l).1 ∧ k.tree.length ≤ (workGo st fav path k l).1.tree.length ∧ (workGo st fav path k l).1.gone.length ≤ k.gone.length + l.length
  | [], k, h, hp => ⟨h, Nat.le_refl _, by simp [workGo]⟩
  | n :: r, k, h, hp => by
    rw [workGo]
    by_cases h1 : meetsP k.tree path n = true
    · rw [if_pos h1]
      have ih := WOk.work (fav := fav) hs r ⟨k.tree, k.list, k.gone ++ [⟨path, n⟩]⟩ (h.gone hp n) hp
      refine ⟨ih.1, ih.2.1, ?_⟩
      have := ih.2.2
      simp at this ⊢; omega
    · rw [if_neg h1]
      have hl := h.lay (fav := fav) (n := n) hs hp
      by_cases h2 : (layP st fav k path n).2 = 0
      · rw [if_pos h2]
        have ih := WOk.work (fav := fav) hs r ⟨(layP st fav k path n).1.tree, (layP st fav k path n).1.list, (layP st fav k path n).1.gone ++ [⟨path, n⟩]⟩ (hl.1.gone (Nat.le_trans hp (Nat.mul_le_mul_left 4 hl.2.1)) n) (Nat.le_trans hp (Nat.mul_le_mul_left 4 hl.2.1))
        refine ⟨ih.1, Nat.le_trans hl.2.1 ih.2.1, ?_⟩
        have := ih.2.2
        rw [hl.2.2] at this ⊢
        simp at this ⊢; omega
      · rw [if_neg h2]
        exact ⟨hl.1, hl.2.1, by rw [hl.2.2]; omega⟩

end Hst
end Go.Proofs.YtecocheolbkneaaDoor
