/- Kshuf, Kback -/
import Derived.Test.YtecocheolbkneaaDoorW23
import Derived.Test.YtecocheolbkneaaDoorW02
namespace Go.Proofs.YtecocheolbkneaaDoor
namespace Hst
set_option maxRecDepth 100000

/-- One stock, in another order. -/
structure Shuf (st st' : List EntryD) (s : Nat → Nat) : Prop where
  lt : ∀ k, k < st.length → s k < st'.length
  at' : ∀ k, k < st.length → st'.getD (s k) zeroD = st.getD k zeroD
  onto : ∀ j, j < st'.length → ∃ k, k < st.length ∧ s k = j
  inj : ∀ i k, i < st.length → k < st.length → s i = s k → i = k
  val : ∀ k, k < st.length → Valid (verOf st k)
  one : ∀ i k, i < st.length → k < st.length → (st.getD i zeroD).name = (st.getD k zeroD).name → place (verOf st i) = place (verOf st k) → i = k
def mvP (s : Nat → Nat) (p : PackD) : PackD := ⟨p.path, s p.of⟩
/-- The packages are of this stock. -/
def Of (st : List EntryD) (l : List PackD) : Prop := ∀ p ∈ l, p.of < st.length
theorem Shuf.ver {st st' : List EntryD} {s : Nat → Nat} (h : Shuf st st' s) {k : Nat} (hk : k < st.length) : verOf st' (s k) = verOf st k := by
  have := h.at' k hk
  have e1 : verOf st' (s k) = (st'.getD (s k) zeroD).v := rfl
  rw [e1, this]; rfl
theorem Shuf.needs {st st' : List EntryD} {s : Nat → Nat} (h : Shuf st st' s) {k : Nat} (hk : k < st.length) : needsOf st' (s k) = needsOf st k := by
  have := h.at' k hk
  have e1 : needsOf st' (s k) = (st'.getD (s k) zeroD).needs := rfl
  rw [e1, this]; rfl
theorem mv_at (s : Nat → Nat) (path : Tx) : ∀ (l : List PackD) (i : Nat), atGo path i (l.map (mvP s)) = atGo path i l
  | [], i => rfl
  | p :: r, i => by
    rw [List.map_cons, atGo, atGo, mv_at s path r]
    rfl
theorem mv_atR (s : Nat → Nat) (l : List PackD) (path : Tx) : atR (l.map (mvP s)) path = atR l path := mv_at s path l 0
theorem mv_findGo (s : Nat → Nat) (l : List PackD) (name : Tx) : ∀ fs : List Tx, findGo (l.map (mvP s)) name fs = findGo l name fs
  | [] => rfl
  | f :: r => by rw [findGo, findGo, mv_atR, mv_findGo s l name r]
theorem mv_find (s : Nat → Nat) (l : List PackD) (path name : Tx) : findR (l.map (mvP s)) path name = findR l path name := mv_findGo s l name _
theorem mv_pack (s : Nat → Nat) (l : List PackD) {k : Nat} (hk : k < l.length) : packAt (l.map (mvP s)) k = mvP s (packAt l k) := by
  unfold packAt
  rw [List.getD_eq_getElem?_getD, List.getD_eq_getElem?_getD, List.getElem?_map, List.getElem?_eq_getElem hk]
  rfl
theorem mv_path (s : Nat → Nat) (l : List PackD) {path name : Tx} {k : Nat} (hk : findR l path name = some k) : (packAt (l.map (mvP s)) k).path = (packAt l k).path := by
  rw [mv_pack s l (findR_some hk).1]; rfl
theorem mv_met {st st' : List EntryD} {s : Nat → Nat} (h : Shuf st st' s) {l : List PackD} (hl : Of st l) (x : WhoD) : metR st' (l.map (mvP s)) x = metR st l x := by
  unfold metR
  rw [mv_find]
  rcases e : findR l x.path x.n.name with _ | k
  · rfl
  · simp only
    rw [mv_pack s l (findR_some e).1]
    have : verOf st' (mvP s (packAt l k)).of = verOf st (packAt l k).of := h.ver (hl _ (findR_some e).2.1)
    rw [this]
theorem mv_all {st st' : List EntryD} {s : Nat → Nat} (h : Shuf st st' s) (nd : List NeedD) {l : List PackD} (hl : Of st l) : allR st' nd (l.map (mvP s)) = allR st nd l := by
  unfold allR
  congr 1
  rw [List.flatMap_map]
  have key : ∀ m : List PackD, (∀ p ∈ m, p ∈ l) → (m.flatMap fun p => (needsOf st' (mvP s p).of).map fun n => (⟨(mvP s p).path, n⟩ : WhoD)) = m.flatMap fun p => (needsOf st p.of).map fun n => (⟨p.path, n⟩ : WhoD) := by
    intro m
    induction m with
    | nil => intro _; rfl
    | cons p r ih =>
      intro hm
      rw [List.flatMap_cons, List.flatMap_cons, ih fun q hq => hm q (List.mem_cons_of_mem _ hq)]
      have : needsOf st' (mvP s p).of = needsOf st p.of := h.needs (hl p (hm p (by simp)))
      rw [this]; rfl
  exact key l fun p hp => hp
theorem mv_allMet {st st' : List EntryD} {s : Nat → Nat} (h : Shuf st st' s) {l : List PackD} (hl : Of st l) (w : List WhoD) : allMetR st' (l.map (mvP s)) w = allMetR st l w := by
  unfold allMetR
  congr 1
  funext x
  exact mv_met h hl x
theorem mv_pass (s : Nat → Nat) (l : List PackD) : ∀ (w : List WhoD) (used : List Tx) (more : Bool), passGo (l.map (mvP s)) used more w = passGo l used more w
  | [], used, more => rfl
  | x :: r, used, more => by
    rw [passGo, passGo, mv_find]
    rcases e : findR l x.path x.n.name with _ | k
    · simp only [mv_pass s l r]
    · simp only [mv_pass s l r, mv_path s l e]
theorem mv_use (s : Nat → Nat) (l : List PackD) (w : List WhoD) : ∀ (f : Nat) (used : List Tx), useGo (l.map (mvP s)) w f used = useGo l w f used
  | 0, used => rfl
  | f + 1, used => by rw [useGo, useGo, mv_pass, mv_use s l w f]
theorem mv_inUse {st st' : List EntryD} {s : Nat → Nat} (h : Shuf st st' s) (nd : List NeedD) {l : List PackD} (hl : Of st l) : inUseR st' nd (l.map (mvP s)) = inUseR st nd l := by
  unfold inUseR
  rw [mv_all h nd hl, mv_use, List.length_map]
theorem mv_placedGo (s : Nat → Nat) (p : PackD) : ∀ (l : List PackD) (b : Bool), placedGo (mvP s p) b (l.map (mvP s)) = (placedGo p b l).map (mvP s)
  | [], b => by cases b <;> rfl
  | x :: r, b => by
    rw [List.map_cons, placedGo, placedGo, mv_placedGo s p r true, mv_placedGo s p r b]
    have e : (b = false ∧ less (mvP s p).path (mvP s x).path = true) ↔ (b = false ∧ less p.path x.path = true) := Iff.rfl
    by_cases hc : b = false ∧ less p.path x.path = true
    · rw [if_pos hc, if_pos (e.2 hc)]; rfl
    · rw [if_neg hc, if_neg (fun h => hc (e.1 h))]; rfl
theorem mv_prunedGo (s : Nat → Nat) (used : List Tx) : ∀ (l out : List PackD), prunedGo used (out.map (mvP s)) (l.map (mvP s)) = (prunedGo used out l).map (mvP s)
  | [], out => rfl
  | p :: r, out => by
    rw [List.map_cons, prunedGo, prunedGo]
    have e : (mvP s p).path = p.path := rfl
    rw [e]
    split
    · have : placedR (out.map (mvP s)) (mvP s p) = (placedR out p).map (mvP s) := mv_placedGo s p out false
      rw [this, mv_prunedGo s used r]
    · exact mv_prunedGo s used r out
theorem mv_pruned {st st' : List EntryD} {s : Nat → Nat} (h : Shuf st st' s) (nd : List NeedD) {l : List PackD} (hl : Of st l) : prunedR st' nd (l.map (mvP s)) = (prunedR st nd l).map (mvP s) := by
  unfold prunedR
  rw [mv_inUse h nd hl]
  exact mv_prunedGo s _ l []
theorem mv_fav {st st' : List EntryD} {s : Nat → Nat} (h : Shuf st st' s) {l : List PackD} (hl : Of st l) {k : Nat} (hk : k < st.length) : favouredR (l.map (mvP s)) (s k) = favouredR l k := by
  unfold favouredR
  rw [Bool.eq_iff_iff, List.any_eq_true, List.any_eq_true]
  constructor
  · rintro ⟨q, hq, e⟩
    obtain ⟨p, hp, rfl⟩ := List.mem_map.1 hq
    exact ⟨p, hp, decide_eq_true (h.inj _ _ (hl p hp) hk (of_decide_eq_true e))⟩
  · rintro ⟨p, hp, e⟩
    have e' : p.of = k := of_decide_eq_true e
    exact ⟨mvP s p, List.mem_map.2 ⟨p, hp, rfl⟩, decide_eq_true (by unfold mvP; simp only; rw [e'])⟩
theorem mv_suits {st st' : List EntryD} {s : Nat → Nat} (h : Shuf st st' s) {l : List PackD} (hl : Of st l) {k : Nat} (hk : k < st.length) (n : NeedD) (b : Bool) : Suits st' n b (l.map (mvP s)) (s k) ↔ Suits st n b l k := by
  unfold Suits
  rw [h.at' k hk, mv_fav h hl hk]
theorem mv_great {st st' : List EntryD} {s : Nat → Nat} (h : Shuf st st' s) {l : List PackD} (hl : Of st l) (n : NeedD) (b : Bool) : greatestR st' n b (l.map (mvP s)) = (greatestR st n b l).map s := by
  have hv' : ∀ j, j < st'.length → Valid (verOf st' j) := fun j hj => by
    obtain ⟨k, hk, rfl⟩ := h.onto j hj
    rw [h.ver hk]; exact h.val k hk
  have g := greatest_spec st n b l h.val
  have g' := greatest_spec st' n b (l.map (mvP s)) hv'
  rcases e : greatestR st n b l with _ | k
  · rw [e] at g
    rcases e' : greatestR st' n b (l.map (mvP s)) with _ | j
    · rfl
    · rw [e'] at g'
      obtain ⟨h1, h2, _⟩ := g'
      obtain ⟨k, hk, rfl⟩ := h.onto j h1
      exact absurd ((mv_suits h hl hk n b).1 h2) (g k hk)
  · rw [e] at g
    obtain ⟨k1, k2, k3⟩ := g
    rcases e' : greatestR st' n b (l.map (mvP s)) with _ | j
    · rw [e'] at g'
      exact absurd ((mv_suits h hl k1 n b).2 k2) (g' _ (h.lt k k1))
    · rw [e'] at g'
      obtain ⟨j1, j2, j3⟩ := g'
      obtain ⟨i, hi, rfl⟩ := h.onto j j1
      have hsi := (mv_suits h hl hi n b).1 j2
      have a1 := k3 i hi hsi
      have a2 := j3 (s k) (h.lt k k1) ((mv_suits h hl k1 n b).2 k2)
      rw [h.ver hi, h.ver k1] at a2
      have en : (st.getD i zeroD).name = (st.getD k zeroD).name := by
        have u1 := hsi.1
        have u2 := k2.1
        rw [Bool.and_eq_true] at u1 u2
        rw [of_decide_eq_true u1.1, of_decide_eq_true u2.1]
      have := h.one i k hi k1 en (by omega)
      rw [this]; rfl
theorem greatK_lt {st : List EntryD} (hv : ∀ k, k < st.length → Valid (verOf st k)) {l : List PackD} {n : NeedD} {b : Bool} {k : Nat} (h : greatestR st n b l = some k) : k < st.length := by
  have g := greatest_spec st n b l hv
  rw [h] at g
  exact g.1
theorem mv_choose {st st' : List EntryD} {s : Nat → Nat} (h : Shuf st st' s) {l : List PackD} (hl : Of st l) (n : NeedD) : chooseR st' n (l.map (mvP s)) = (chooseR st n l).map s := by
  unfold chooseR
  rw [mv_great h hl n true, mv_great h hl n false]
  rcases greatestR st n true l with _ | k <;> rfl
theorem chooseK_lt {st : List EntryD} (hv : ∀ k, k < st.length → Valid (verOf st k)) {l : List PackD} {n : NeedD} {k : Nat} (h : chooseR st n l = some k) : k < st.length := by
  unfold chooseR at h
  rcases e : greatestR st n true l with _ | j
  · rw [e] at h; exact greatK_lt hv h
  · rw [e] at h
    have := Option.some.inj h
    subst this
    exact greatK_lt hv e
theorem Of.app {st : List EntryD} {l : List PackD} (h : Of st l) {p : PackD} (hp : p.of < st.length) : Of st (l ++ [p]) := fun q hq => by
  rcases List.mem_append.1 hq with hq | hq
  · exact h q hq
  · simp at hq; subst hq; exact hp
theorem mv_layGo {st st' : List EntryD} {s : Nat → Nat} (h : Shuf st st' s) {l : List PackD} (hl : Of st l) (x : WhoD) {k : Nat} (hk : k < st.length) (done : List WhoD) : ∀ fs : List Tx, layGo st' (l.map (mvP s)) x (s k) done fs = (layGo st l x k done fs).map (mvP s)
  | [] => rfl
  | f :: r => by
    have e1 : (l.map (mvP s)) ++ [(⟨joinR f x.n.name, s k⟩ : PackD)] = (l ++ [(⟨joinR f x.n.name, k⟩ : PackD)]).map (mvP s) := by rw [List.map_append]; rfl
    have ho : Of st (l ++ [(⟨joinR f x.n.name, k⟩ : PackD)]) := hl.app hk
    rw [layGo, layGo, e1, mv_atR, mv_find, mv_allMet h ho, mv_layGo h hl x hk done r, List.length_map]
    split <;> rfl
theorem lay_of {st : List EntryD} {l : List PackD} (hl : Of st l) (x : WhoD) {k : Nat} (hk : k < st.length) (done : List WhoD) : Of st (layR st l x k done) := by
  unfold layR
  rcases layGo_form st l x k done (foldersR x.path).reverse with e | ⟨f, _, e⟩
  · rw [e]; exact hl
  · rw [e]; exact hl.app hk
theorem mv_buildGo {st st' : List EntryD} {s : Nat → Nat} (h : Shuf st st' s) {tree : List PackD} (ht : Of st tree) : ∀ (f : Nat) (l : List PackD) (done rem : List WhoD), Of st l → buildGo st' (tree.map (mvP s)) f (l.map (mvP s)) done rem = ((buildGo st tree f l done rem).1.map (fun m => m.map (mvP s)), (buildGo st tree f l done rem).2) ∧ ∀ m, (buildGo st tree f l done rem).1 = some m → Of st m
  | 0, l, done, rem, hl => ⟨rfl, fun m hm => by simp [buildGo] at hm⟩
  | f + 1, l, done, [], hl => ⟨rfl, fun m hm => by rw [buildGo] at hm; simp at hm; subst hm; exact hl⟩
  | f + 1, l, done, x :: rem, hl => by
    rw [buildGo, buildGo, mv_met h hl]
    by_cases hm : metR st l x = true
    · rw [if_pos hm, if_pos hm]
      exact mv_buildGo h ht f l _ rem hl
    · rw [if_neg hm, if_neg hm, mv_choose h ht]
      rcases e : chooseR st x.n tree with _ | k
      · exact ⟨rfl, fun m hm => by simp at hm⟩
      · simp only [Option.map_some, List.length_map]
        have hk := chooseK_lt h.val e
        by_cases h40 : 40 ≤ l.length
        · rw [if_pos h40, if_pos h40]
          exact ⟨rfl, fun m hm => by simp at hm⟩
        · rw [if_neg h40, if_neg h40]
          have hlo := lay_of hl x hk done
          have e2 : layR st' (l.map (mvP s)) x (s k) done = (layR st l x k done).map (mvP s) := mv_layGo h hl x hk done _
          have e3 : allR st' [] (((layR st l x k done).map (mvP s)).drop ((layR st l x k done).length - 1)) = allR st [] ((layR st l x k done).drop ((layR st l x k done).length - 1)) := by
            rw [← List.map_drop]
            exact mv_all h [] fun p hp => hlo p (List.mem_of_mem_drop hp)
          rw [e2, List.length_map, e3]
          exact mv_buildGo h ht f _ _ _ hlo
theorem pruned_of {st : List EntryD} {nd : List NeedD} {l : List PackD} (hl : Of st l) : Of st (prunedR st nd l) := by
  have key : ∀ (l out : List PackD) (used : List Tx), Of st l → Of st out → Of st (prunedGo used out l) := by
    intro l
    induction l with
    | nil => intro out used _ ho; exact ho
    | cons p r ih =>
      intro out used hl ho
      rw [prunedGo]
      split
      · refine ih _ _ (fun q hq => hl q (List.mem_cons_of_mem _ hq)) fun q hq => ?_
        rw [placedR_ins] at hq
        rcases (insX_mem _ _ _ _).1 hq with rfl | hq
        · exact hl q (by simp)
        · exact ho q hq
      · exact ih _ _ (fun q hq => hl q (List.mem_cons_of_mem _ hq)) ho
  exact key l [] _ hl (by intro p hp; simp at hp)
theorem mv_build {st st' : List EntryD} {s : Nat → Nat} (h : Shuf st st' s) {tree : List PackD} (ht : Of st tree) (nd : List NeedD) : buildR st' nd (tree.map (mvP s)) = ((buildR st nd tree).1.map (fun m => m.map (mvP s)), (buildR st nd tree).2) ∧ ∀ m, (buildR st nd tree).1 = some m → Of st m := by
  have e0 : allR st' nd [] = allR st nd [] := rfl
  obtain ⟨g1, g2⟩ := mv_buildGo h ht 1000 [] [] (allR st nd []) (by intro p hp; simp at hp)
  rw [List.map_nil] at g1
  unfold buildR
  rw [e0, g1]
  rcases e : buildGo st tree 1000 [] [] (allR st nd []) with ⟨_ | l, k⟩
  · exact ⟨rfl, fun m hm => by simp at hm⟩
  · rw [e] at g2
    have hl := g2 l rfl
    refine ⟨?_, fun m hm => ?_⟩
    · simp only [Option.map_some]
      rw [mv_pruned h nd hl]
    · simp only [Option.some.injEq] at hm
      subst hm
      exact pruned_of hl
/-- One site over a stock, another over the same in another order. -/
structure ShufS (s : Nat → Nat) (sd sd' : SiteD) : Prop where
  sh : Shuf sd.stock sd'.stock s
  of : Of sd.stock sd.packs
  needs : sd'.needs = sd.needs
  packs : sd'.packs = sd.packs.map (mvP s)
theorem ShufS.settle {s : Nat → Nat} {sd sd' : SiteD} (h : ShufS s sd sd') (nd : List NeedD) {tree : List PackD} (ht : Of sd.stock tree) : (settleR sd' nd (tree.map (mvP s))).2 = (settleR sd nd tree).2 ∧ ShufS s (settleR sd nd tree).1 (settleR sd' nd (tree.map (mvP s))).1 := by
  obtain ⟨g1, g2⟩ := mv_build h.sh ht nd
  unfold settleR
  rw [g1]
  rcases e : buildR sd.stock nd tree with ⟨_ | l, k⟩
  · exact ⟨rfl, h⟩
  · rw [e] at g2
    exact ⟨rfl, ⟨h.sh, g2 l rfl, rfl, rfl⟩⟩
theorem ShufS.add {s : Nat → Nat} {sd sd' : SiteD} (h : ShufS s sd sd') (t : Tx) : (addR sd' t).2 = (addR sd t).2 ∧ ShufS s (addR sd t).1 (addR sd' t).1 := by
  unfold addR
  rw [h.needs, h.packs]
  split
  · exact ⟨rfl, h⟩
  · split
    · exact ⟨rfl, h⟩
    · exact h.settle _ h.of
theorem ShufS.update {s : Nat → Nat} {sd sd' : SiteD} (h : ShufS s sd sd') : (updateR sd').2 = (updateR sd).2 ∧ ShufS s (updateR sd).1 (updateR sd').1 := by
  unfold updateR
  rw [h.needs]
  exact h.settle _ (tree := []) (by intro p hp; simp at hp)
theorem mv_textGo {st st' : List EntryD} {s : Nat → Nat} (h : Shuf st st' s) : ∀ (l : List PackD) (b : Bool), Of st l → textGo st' b (l.map (mvP s)) = textGo st b l
  | [], b, _ => rfl
  | p :: r, b, hl => by
    rw [List.map_cons, textGo, textGo, mv_textGo h r false fun q hq => hl q (List.mem_cons_of_mem _ hq)]
    have : verOf st' (mvP s p).of = verOf st p.of := h.ver (hl p (by simp))
    rw [this]
    rfl
theorem ShufS.text {s : Nat → Nat} {sd sd' : SiteD} (h : ShufS s sd sd') : textR sd'.stock sd'.packs = textR sd.stock sd.packs := by
  rw [h.packs]
  exact mv_textGo h.sh _ true h.of

/-! ### items in another order -/
theorem entryD_back {x : ItemX} (h : x.wants.Pairwise fun a b => nameK a.name ≠ nameK b.name) : entryD x true = entryD x false := by
  unfold entryD
  simp only [if_true, Bool.false_eq_true, if_false]
  congr 1
  have hn : (x.wants.map wantN).Pairwise fun a b => a.name ≠ b.name := by
    rw [List.pairwise_map]; exact h
  have hn' : (x.wants.reverse.map wantN).Pairwise fun a b => a.name ≠ b.name := by
    rw [List.pairwise_map, List.pairwise_reverse]
    exact List.Pairwise.imp (fun h => fun e => h e.symm) h
  refine Rises.ext (sortedR_rises _ hn') (sortedR_rises _ hn) fun y => ?_
  rw [(sortedR_perm _).mem_iff, (sortedR_perm _).mem_iff]
  simp
def turnK (n r k : Nat) : Nat := (k + (n - r)) % n
theorem turn_back {n r k : Nat} (hr : r < n) (hk : k < n) : (turnK n r k + r) % n = k := by
  unfold turnK
  rw [Nat.mod_add_mod, show k + (n - r) + r = k + n by omega, Nat.add_mod_right, Nat.mod_eq_of_lt hk]
theorem turn_onto {n r j : Nat} (hr : r < n) (hj : j < n) : turnK n r ((j + r) % n) = j := by
  unfold turnK
  rw [Nat.mod_add_mod, show j + r + (n - r) = j + n by omega, Nat.add_mod_right, Nat.mod_eq_of_lt hj]
theorem rot_at {m : List ItemX} {r i : Nat} (hi : i < m.length) (x : ItemX) (hx : m[(i + r) % m.length]? = some x) : (rotK m r)[i]? = some x := by
  obtain ⟨j, hj, e, h⟩ := rotK_at m r i hi
  rw [h, ← hx, ← e, List.getElem?_eq_getElem hj]
theorem shuf_items {m : List ItemX} (h : ItemsWell m) {r : Nat} (hr : r < m.length) {stx : List EntX} (hs : StockSame stx (m.map fun x => entryD x false)) : Shuf (m.map fun x => entryD x false) ((rotK m r).map fun x => entryD x true) (turnK m.length r) := by
  have hlen : (m.map fun x => entryD x false).length = m.length := by simp
  have hlen' : ((rotK m r).map fun x => entryD x true).length = m.length := by simp [rotK_len]
  have hpos : 0 < m.length := by omega
  refine ⟨fun k hk => ?_, fun k hk => ?_, fun j hj => ?_, fun i k hi hk e => ?_, fun k hk => ?_, fun i k hi hk e1 e2 => ?_⟩
  · rw [hlen']; exact Nat.mod_lt _ hpos
  · rw [hlen] at hk
    have hsk : turnK m.length r k < m.length := Nat.mod_lt _ hpos
    have hb := turn_back hr hk
    have he : (rotK m r)[turnK m.length r k]? = some m[k] := rot_at hsk _ (by rw [hb, List.getElem?_eq_getElem hk])
    rw [List.getD_eq_getElem?_getD, List.getD_eq_getElem?_getD, List.getElem?_map, List.getElem?_map, he, List.getElem?_eq_getElem hk]
    simp only [Option.map_some, Option.getD_some]
    exact entryD_back (h.own _ (List.getElem_mem hk))
  · rw [hlen'] at hj
    exact ⟨(j + r) % m.length, by rw [hlen]; exact Nat.mod_lt _ hpos, turn_onto hr hj⟩
  · rw [hlen] at hi hk
    have := turn_back hr hi
    rw [e, turn_back hr hk] at this
    exact this.symm
  · exact hs.val k hk
  · have hl := hs.all.len
    have hi' : i < stx.length := by omega
    have hk' : k < stx.length := by omega
    exact hs.one i k hi' hk' (by rw [(hs.at hi').name, (hs.at hk').name, e1]) (by rw [(hs.ver hi').1, (hs.ver hk').1, e2])

end Hst
end Go.Proofs.YtecocheolbkneaaDoor
namespace Go.Proofs.YtecocheolbkneaaDoor
open Go.RowKit
namespace Hst
set_option maxRecDepth 100000

set_option maxHeartbeats 8000000 in
theorem entryb_any (x : ItemX) (va : Option Addr) (vc : Nat) (w : World) (hr : RowR w va x.wants.length vc 4 (x.wants.flatMap wantC)) (hl : x.wants.length ≤ 1000) (hok : ItemOk x) :
    Calls Tryd.prog 46 #[.agg #[.int .i64 x.name, .int .i64 x.major, .int .i64 x.minor, .slice va x.wants.length vc], .bool true] w fun e w' => e = .returned (.string (bs (entryK x true))) ∧ Below w.heap.size w w' := by
  have HH := hid' (fun w => head_any x.name x.major x.minor va x.wants.length vc w hok.name hok.major hok.minor)
  have HHL := hid' (headK_len x.name x.major x.minor)
  have HE : Hid (entryK x true = headK x.name x.major x.minor ++ wantsT (decide (0 = 0)) (x.wants.reverse.drop 0)) := rfl
  have HO := hid' hok.wants
  have HR := hid' hr
  generalize entryK x true = res at *
  generalize headK x.name x.major x.minor = hd at *
  obtain ⟨xn, xa, xi, xv, xw⟩ := x
  simp only at HH HE HO HR hl ⊢
  clear hr hok xv
  have hba := (Below.refl w.heap.size w).alloc (Nat.le_refl _) (.cells #[.int .i64 xn, .int .i64 xa, .int .i64 xi, .slice va xw.length vc] 58)
  have e3 : (w.alloc (.cells #[.int .i64 xn, .int .i64 xa, .int .i64 xi, .slice va xw.length vc] 58)).cell? ⟨w.heap.size, 3, none⟩ = some (.slice va xw.length vc) := by simp
  have hs : (w.alloc (.cells #[.int .i64 xn, .int .i64 xa, .int .i64 xi, .slice va xw.length vc] 58)).heap.size = w.heap.size + 1 := by simp
  go_enter Tryd.func46, Tryd.ntmps46
  go_wp2_with fail
  refine (HH.out _).mono ?_
  rintro e w1 ⟨rfl, hb1⟩
  have HB1 := hid' (hba.trans (hb1.mono (by omega)))
  have c3 := ((bcell hb1).1 w.heap.size 3 (by omega)).trans e3
  have hw1 : w.heap.size < w1.heap.size := by have := hb1.size; omega
  clear hb1 hba e3 hs
  go_wp2
  go_loopw [5, 6] (fun v i wr => ∃ (k : Nat) (acc : Tx), k ≤ xw.length ∧ acc.length ≤ 11 + 13 * k ∧ v = .string (bs acc) ∧ i = .int .i64 k ∧ Below w1.heap.size w1 wr ∧ Hid (res = acc ++ wantsT (decide (k = 0)) (xw.reverse.drop k))) (fun _ i _ => xw.length - (intOf i).toNat)
  case atStart => exact ⟨0, hd, Nat.zero_le _, by have := HHL.out; omega, rfl, rfl, Below.refl _ _, HE⟩
  case round =>
    obtain ⟨k, acc, hk, hacc, rfl, rfl, hbel, hall⟩ := hrel
    have hz := hbel.size
    have d3 := ((bcell hbel).1 w.heap.size 3 hw1).trans c3
    have hwr : w.heap.size < wr.heap.size := by omega
    have HBW := hid' (HB1.out.trans (hbel.mono (by have := HB1.out.size; omega)))
    by_cases hlt : k < xw.length
    · obtain ⟨g, o, rfl, hg, hc⟩ := (HR.out.below HBW.out).wants rfl hlt
      obtain ⟨u0, u1, u2, u3⟩ := hc k hlt
      obtain ⟨q0, q1, q2, q3⟩ := hc (xw.length - 1 - k) (by omega)
      have hxo := HO.out (xw[xw.length - 1 - k]'(by omega)) (List.getElem_mem _)
      have HN := hid' (fun w => names_any (xw[xw.length - 1 - k]'(by omega)).name w hxo.name)
      have HG := hid' (fun w => rng_any (xw[xw.length - 1 - k]'(by omega)) w hxo)
      have hst := wt_step xw.reverse k (by simpa using hlt)
      rw [List.getElem_reverse] at hst
      have hjj : (xw.length : Int) - 1 - (k : Int) = ((xw.length - 1 - k : Nat) : Int) := by omega
      have hj1 : ((xw.length - 1 - k : Nat) : Int) < (xw.length : Int) := by omega
      have hjl : xw.length - 1 - k < xw.length := by omega
      have HJ0 : Hid (k = 0 → (xw.length : Int) - 1 = ((xw.length - 1 - k : Nat) : Int)) := fun h => by omega
      have hwl := wantT_len (xw[xw.length - 1 - k]'(by omega))
      have HF0 : Hid (k = 0 → res = (acc ++ [58] ++ nameK (xw[xw.length - 1 - k]'(by omega)).name ++ rngK (xw[xw.length - 1 - k]'(by omega))) ++ wantsT (decide (k + 1 = 0)) (xw.reverse.drop (k + 1))) := fun h0 => by
        rw [hall.out, hst, if_pos h0]; simp [wantT]
      have HF1 : Hid (¬ k = 0 → res = (acc ++ [44] ++ nameK (xw[xw.length - 1 - k]'(by omega)).name ++ rngK (xw[xw.length - 1 - k]'(by omega))) ++ wantsT (decide (k + 1 = 0)) (xw.reverse.drop (k + 1))) := fun h0 => by
        rw [hall.out, hst, if_neg h0]; simp [wantT]
      have HA0 : Hid (bs acc ++ ⟨#[58]⟩ ++ bs (nameK (xw[xw.length - 1 - k]'(by omega)).name) ++ bs (rngK (xw[xw.length - 1 - k]'(by omega))) = bs (acc ++ [58] ++ nameK (xw[xw.length - 1 - k]'(by omega)).name ++ rngK (xw[xw.length - 1 - k]'(by omega)))) := by unfold Hid; rw [← bs_append, ← bs_append, ← bs_append]; rfl
      have HA1 : Hid (bs acc ++ ⟨#[44]⟩ ++ bs (nameK (xw[xw.length - 1 - k]'(by omega)).name) ++ bs (rngK (xw[xw.length - 1 - k]'(by omega))) = bs (acc ++ [44] ++ nameK (xw[xw.length - 1 - k]'(by omega)).name ++ rngK (xw[xw.length - 1 - k]'(by omega)))) := by unfold Hid; rw [← bs_append, ← bs_append, ← bs_append]; rfl
      have HL0 : Hid ((acc ++ [58] ++ nameK (xw[xw.length - 1 - k]'(by omega)).name ++ rngK (xw[xw.length - 1 - k]'(by omega))).length ≤ 11 + 13 * (k + 1)) := by unfold Hid; simp [wantT] at hwl ⊢; omega
      have HL1 : Hid ((acc ++ [44] ++ nameK (xw[xw.length - 1 - k]'(by omega)).name ++ rngK (xw[xw.length - 1 - k]'(by omega))).length ≤ 11 + 13 * (k + 1)) := by unfold Hid; simp [wantT] at hwl ⊢; omega
      have s1 : (bs (nameK (xw[xw.length - 1 - k]'(by omega)).name)).size ≤ 3 := by rw [bs_size]; exact nameK_len _
      have s2 : (bs (rngK (xw[xw.length - 1 - k]'(by omega)))).size ≤ 9 := by rw [bs_size]; exact rngK_len _
      have s0 : (bs acc).size ≤ 13011 := by rw [bs_size]; omega
      clear hst hwl hall hxo hc
      generalize acc ++ [58] ++ nameK (xw[xw.length - 1 - k]'(by omega)).name ++ rngK (xw[xw.length - 1 - k]'(by omega)) = nx0 at *
      generalize acc ++ [44] ++ nameK (xw[xw.length - 1 - k]'(by omega)).name ++ rngK (xw[xw.length - 1 - k]'(by omega)) = nx1 at *
      generalize bs (nameK (xw[xw.length - 1 - k]'(by omega)).name) = b1 at *
      generalize bs (rngK (xw[xw.length - 1 - k]'(by omega))) = b2 at *
      generalize hyy : (xw[xw.length - 1 - k]'(by omega)) = y at *
      generalize xw[k] = y' at *
      clear hyy
      obtain ⟨yn, ys, ya, yi⟩ := y
      obtain ⟨zn, zs, za, zi⟩ := y'
      simp only at q0 q1 q2 q3 u0 u1 u2 u3 HN HG
      have hj0 : (0 : Int) ≤ ((xw.length - 1 - k : Nat) : Int) := by omega
      generalize xw.length - 1 - k = jj at *
      generalize bs acc = ba at *
      have k0 : (0 : Int) ≤ (k : Int) := by omega
      have k1 : (k : Int) < (xw.length : Int) := by omega
      by_cases h0 : k = 0
      · have HF := hid' (HF0.out h0)
        have hjx := HJ0.out h0
        subst h0
        simp only [Nat.zero_mul, Nat.add_zero] at u0 u1 u2 u3
        clear HF0 HF1 HA1 HL1
        have hba := (Below.refl wr.heap.size wr).alloc (Nat.le_refl _) (.cells #[.int .i64 yn, .int .i64 ys, .int .i64 ya, .int .i64 yi] 52)
        go_wp2
        have m0 : (ba ++ (⟨#[58]⟩ : ByteArray)).size = ba.size + 1 := by rw [ByteArray.size_append]; rfl
        have m00 : (ba ++ (⟨#[58]⟩ : ByteArray) ++ b1).size = ba.size + 1 + b1.size := by rw [ByteArray.size_append, m0]
        have m1 : ¬ (9223372036854775807 < ba.size + (⟨#[58]⟩ : ByteArray).size) := by show ¬ (9223372036854775807 < ba.size + 1); omega
        have m2 : ¬ (9223372036854775807 < (ba ++ (⟨#[58]⟩ : ByteArray)).size + b1.size) := by omega
        have m3 : ¬ (9223372036854775807 < (ba ++ (⟨#[58]⟩ : ByteArray) ++ b1).size + b2.size) := by omega
        have m4 : ¬ (9223372036854775807 < ba.size + 1) := by omega
        have m5 : ¬ (9223372036854775807 < ba.size + 1 + b1.size) := by omega
        have m6 : ¬ (9223372036854775807 < ba.size + 1 + b1.size + b2.size) := by omega
        clear m0 m00
        go_region_held3 (fun w' => w'.cell? ⟨wr.heap.size, 0, none⟩ = some (.int .i64 yn) ∧ w'.cell? ⟨wr.heap.size, 1, none⟩ = some (.int .i64 ys) ∧ w'.cell? ⟨wr.heap.size, 2, none⟩ = some (.int .i64 ya) ∧ w'.cell? ⟨wr.heap.size, 3, none⟩ = some (.int .i64 yi)) (go_keep)
          (first | (go_at_call 24; refine (HN.out _).mono ?_; rintro e w2 ⟨rfl, hb2⟩; have hy2 := (bcell hb2).1; simp at hy2; have hz2 := hb2.size; simp at hz2) | (go_at_call 25; refine (HG.out _).mono ?_; rintro e w3 ⟨rfl, hb3⟩; have hy3 := (bcell hb3).1; have hz3 := hb3.size; have z0 := hy3 wr.heap.size 0 (by omega); have z1 := hy3 wr.heap.size 1 (by omega); have z2 := hy3 wr.heap.size 2 (by omega); have z3 := hy3 wr.heap.size 3 (by omega)))
        have HBF := hid' (hbel.trans (((hba.drew.trans (hb2.mono (by simp))).trans (hb3.mono (by omega))).mono hz))
        clear hb2 hb3 hy2 hy3 hba z0 z1 z2 z3
        go_wp2
        go_roundw
        case rel => exact ⟨0 + 1, nx0, by omega, HL0.out, by rw [HA0.out], by go_num, HBF.out, HF⟩
        case measure => simp [intOf] <;> omega
      · have HF := hid' (HF1.out h0)
        have hk0 : ((k : Int) == 0) = false := by simp [h0]
        clear HF0 HF1 HA0 HL0
        have hba := (Below.refl wr.heap.size wr).alloc (Nat.le_refl _) (.cells #[.int .i64 yn, .int .i64 ys, .int .i64 ya, .int .i64 yi] 52)
        go_wp2
        have m0 : (ba ++ (⟨#[44]⟩ : ByteArray)).size = ba.size + 1 := by rw [ByteArray.size_append]; rfl
        have m00 : (ba ++ (⟨#[44]⟩ : ByteArray) ++ b1).size = ba.size + 1 + b1.size := by rw [ByteArray.size_append, m0]
        have m1 : ¬ (9223372036854775807 < ba.size + (⟨#[44]⟩ : ByteArray).size) := by show ¬ (9223372036854775807 < ba.size + 1); omega
        have m2 : ¬ (9223372036854775807 < (ba ++ (⟨#[44]⟩ : ByteArray)).size + b1.size) := by omega
        have m3 : ¬ (9223372036854775807 < (ba ++ (⟨#[44]⟩ : ByteArray) ++ b1).size + b2.size) := by omega
        have m4 : ¬ (9223372036854775807 < ba.size + 1) := by omega
        have m5 : ¬ (9223372036854775807 < ba.size + 1 + b1.size) := by omega
        have m6 : ¬ (9223372036854775807 < ba.size + 1 + b1.size + b2.size) := by omega
        clear m0 m00
        go_region_held3 (fun w' => w'.cell? ⟨wr.heap.size, 0, none⟩ = some (.int .i64 yn) ∧ w'.cell? ⟨wr.heap.size, 1, none⟩ = some (.int .i64 ys) ∧ w'.cell? ⟨wr.heap.size, 2, none⟩ = some (.int .i64 ya) ∧ w'.cell? ⟨wr.heap.size, 3, none⟩ = some (.int .i64 yi)) (go_keep)
          (first | (go_at_call 24; refine (HN.out _).mono ?_; rintro e w2 ⟨rfl, hb2⟩; have hy2 := (bcell hb2).1; simp at hy2; have hz2 := hb2.size; simp at hz2) | (go_at_call 25; refine (HG.out _).mono ?_; rintro e w3 ⟨rfl, hb3⟩; have hy3 := (bcell hb3).1; have hz3 := hb3.size; have z0 := hy3 wr.heap.size 0 (by omega); have z1 := hy3 wr.heap.size 1 (by omega); have z2 := hy3 wr.heap.size 2 (by omega); have z3 := hy3 wr.heap.size 3 (by omega)))
        have HBF := hid' (hbel.trans (((hba.drew.trans (hb2.mono (by simp))).trans (hb3.mono (by omega))).mono hz))
        clear hb2 hb3 hy2 hy3 hba z0 z1 z2 z3
        go_wp2
        go_roundw
        case rel => exact ⟨k + 1, nx1, by omega, HL1.out, by rw [HA1.out], by go_num, HBF.out, HF⟩
        case measure => simp [intOf] <;> omega
    · have HF : Hid (res = acc) := by unfold Hid; rw [hall.out, wt_end xw.reverse k _ (by simpa using hlt)]; simp
      go_wp2
      go_ret
      exact ⟨ret_str (by rw [HF.out]), HBW.out⟩

end Hst
end Go.Proofs.YtecocheolbkneaaDoor
