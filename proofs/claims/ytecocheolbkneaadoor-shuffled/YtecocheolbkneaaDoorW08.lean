/- Muse, Msort -/
import Derived.Test.YtecocheolbkneaaDoorW07
namespace Go.Proofs.YtecocheolbkneaaDoor
namespace Hst

theorem nodup_len {α : Type} [DecidableEq α] : ∀ (l m : List α), l.Nodup → (∀ x ∈ l, x ∈ m) → l.length ≤ m.length
  | [], m, _, _ => by simp
  | x :: r, m, hn, hs => by
    have hx := hs x (by simp)
    have h1 : (m.erase x).length = m.length - 1 := List.length_erase_of_mem hx
    have h2 := nodup_len r (m.erase x) (List.nodup_cons.1 hn).2 (fun y hy => by
      have hne : y ≠ x := fun e => (List.nodup_cons.1 hn).1 (e ▸ hy)
      exact (List.mem_erase_of_ne hne).2 (hs y (by simp [hy])))
    have h3 : 0 < m.length := List.length_pos_of_mem hx
    simp; omega
/-- What is in use, found in n steps from the site. -/
def UsedN (st : List EntryD) (nd : List NeedD) (l : List PackD) : Nat → Tx → Prop
  | 0, _ => False
  | n + 1, p => ∃ x k, x ∈ allR st nd l ∧ (x.path = [] ∨ UsedN st nd l n x.path) ∧ findR l x.path x.n.name = some k ∧ (packAt l k).path = p
/-- What is in use. -/
def Used (st : List EntryD) (nd : List NeedD) (l : List PackD) (p : Tx) : Prop := ∃ n, UsedN st nd l n p
theorem Used.site {st : List EntryD} {nd : List NeedD} {l : List PackD} (x : WhoD) (k : Nat) (hx : x ∈ allR st nd l) (h : x.path = []) (e : findR l x.path x.n.name = some k) : Used st nd l (packAt l k).path := ⟨1, x, k, hx, .inl h, e, rfl⟩
theorem Used.pack {st : List EntryD} {nd : List NeedD} {l : List PackD} (x : WhoD) (k : Nat) (hx : x ∈ allR st nd l) (h : Used st nd l x.path) (e : findR l x.path x.n.name = some k) : Used st nd l (packAt l k).path := by
  obtain ⟨n, hn⟩ := h
  exact ⟨n + 1, x, k, hx, .inr hn, e, rfl⟩
theorem Used.step {st : List EntryD} {nd : List NeedD} {l : List PackD} (x : WhoD) (k : Nat) (hx : x ∈ allR st nd l) (h : x.path = [] ∨ Used st nd l x.path) (e : findR l x.path x.n.name = some k) : Used st nd l (packAt l k).path := by
  rcases h with h | h
  · exact .site x k hx h e
  · exact .pack x k hx h e
/-- Along the ways on which something is found to be in use. -/
theorem used_ind {st : List EntryD} {nd : List NeedD} {l : List PackD} {M : Tx → Prop}
    (h1 : ∀ x k, x ∈ allR st nd l → x.path = [] → findR l x.path x.n.name = some k → M (packAt l k).path)
    (h2 : ∀ x k, x ∈ allR st nd l → Used st nd l x.path → findR l x.path x.n.name = some k → M x.path → M (packAt l k).path) : ∀ p, Used st nd l p → M p := by
  intro p hp
  obtain ⟨n, hn⟩ := hp
  induction n generalizing p with
  | zero => exact False.elim hn
  | succ n ih =>
    obtain ⟨x, k, hx, hc, e, rfl⟩ := hn
    rcases hc with hc | hc
    · exact h1 x k hx hc e
    · exact h2 x k hx ⟨n, hc⟩ e (ih x.path hc)

/-! ### the document's passes -/
theorem hasR_mem {l : List Tx} {p : Tx} : hasR l p = true ↔ p ∈ l := by
  unfold hasR
  rw [List.any_eq_true]
  constructor
  · rintro ⟨x, hx, e⟩
    rw [← of_decide_eq_true e]; exact hx
  · intro h
    exact ⟨p, h, decide_eq_true rfl⟩
theorem pass_used {st : List EntryD} {nd : List NeedD} {l : List PackD} : ∀ (w : List WhoD) (used : List Tx) (more : Bool), (∀ x ∈ w, x ∈ allR st nd l) → (∀ p ∈ used, Used st nd l p) → ∀ p ∈ (passGo l used more w).1, Used st nd l p
  | [], used, more, _, h => by rw [passGo]; exact h
  | x :: r, used, more, hw, h => by
    have hr : ∀ y ∈ r, y ∈ allR st nd l := fun y hy => hw y (List.mem_cons_of_mem _ hy)
    rw [passGo]
    by_cases hc : (decide (x.path = []) || hasR used x.path) = true
    · rw [if_pos hc]
      rcases e : findR l x.path x.n.name with _ | k
      · exact pass_used r used more hr h
      · simp only
        split
        · exact pass_used r used more hr h
        · refine pass_used r _ true hr fun p hp => ?_
          rcases List.mem_append.1 hp with hp | hp
          · exact h p hp
          · rw [List.mem_singleton.1 hp]
            refine Used.step x k (hw x (by simp)) ?_ e
            rw [Bool.or_eq_true] at hc
            rcases hc with hc | hc
            · exact .inl (of_decide_eq_true hc)
            · exact .inr (h _ (hasR_mem.1 hc))
    · rw [if_neg hc]
      exact pass_used r used more hr h
theorem pass_true {l : List PackD} : ∀ (w : List WhoD) (used : List Tx), (passGo l used true w).2 = true
  | [], used => rfl
  | x :: r, used => by
    rw [passGo]
    split
    · rcases findR l x.path x.n.name with _ | k
      · exact pass_true r used
      · simp only
        split
        · exact pass_true r used
        · exact pass_true r _
    · exact pass_true r used
/-- A pass that adds nothing: all is there. -/
theorem pass_false {l : List PackD} : ∀ (w : List WhoD) (used : List Tx), (passGo l used false w).2 = false → (passGo l used false w).1 = used ∧ ∀ x ∈ w, (x.path = [] ∨ x.path ∈ used) → ∀ k, findR l x.path x.n.name = some k → (packAt l k).path ∈ used
  | [], used, _ => ⟨rfl, by simp⟩
  | x :: r, used, h => by
    rw [passGo] at h ⊢
    by_cases hc : (decide (x.path = []) || hasR used x.path) = true
    · rw [if_pos hc] at h ⊢
      rcases e : findR l x.path x.n.name with _ | k
      · rw [e] at h
        simp only at h ⊢
        obtain ⟨h1, h2⟩ := pass_false r used h
        refine ⟨h1, fun y hy hyp j hj => ?_⟩
        rcases List.mem_cons.1 hy with rfl | hy
        · rw [e] at hj; exact absurd hj (by simp)
        · exact h2 y hy hyp j hj
      · rw [e] at h
        simp only at h ⊢
        by_cases hu : hasR used (packAt l k).path = true
        · rw [if_pos hu] at h ⊢
          obtain ⟨h1, h2⟩ := pass_false r used h
          refine ⟨h1, fun y hy hyp j hj => ?_⟩
          rcases List.mem_cons.1 hy with rfl | hy
          · rw [e] at hj
            have : k = j := by simpa using hj
            subst this
            exact hasR_mem.1 hu
          · exact h2 y hy hyp j hj
        · rw [if_neg hu, pass_true] at h
          exact absurd h (by simp)
    · rw [if_neg hc] at h ⊢
      obtain ⟨h1, h2⟩ := pass_false r used h
      refine ⟨h1, fun y hy hyp j hj => ?_⟩
      rcases List.mem_cons.1 hy with rfl | hy
      · exfalso
        rw [Bool.or_eq_true] at hc
        rcases hyp with hyp | hyp
        · exact hc (.inl (decide_eq_true hyp))
        · exact hc (.inr (hasR_mem.2 hyp))
      · exact h2 y hy hyp j hj
theorem pass_grow {l : List PackD} : ∀ (w : List WhoD) (used : List Tx) (more : Bool), used.Nodup → (∀ p ∈ used, p ∈ l.map fun q => q.path) → (passGo l used more w).1.Nodup ∧ (∀ p ∈ (passGo l used more w).1, p ∈ l.map fun q => q.path) ∧ used.length ≤ (passGo l used more w).1.length ∧ ((passGo l used more w).2 = true → more = true ∨ used.length < (passGo l used more w).1.length)
  | [], used, more, h1, h2 => ⟨h1, h2, Nat.le_refl _, fun h => .inl h⟩
  | x :: r, used, more, h1, h2 => by
    rw [passGo]
    split
    · rcases e : findR l x.path x.n.name with _ | k
      · exact pass_grow r used more h1 h2
      · simp only
        by_cases hu : hasR used (packAt l k).path = true
        · rw [if_pos hu]; exact pass_grow r used more h1 h2
        · rw [if_neg hu]
          have hn : (packAt l k).path ∉ used := fun h => hu (hasR_mem.2 h)
          obtain ⟨h3, h4, h5, h6⟩ := pass_grow (l := l) r (used ++ [(packAt l k).path]) true (by
            rw [List.nodup_append]
            refine ⟨h1, by simp, fun a ha b hb => ?_⟩
            rw [List.mem_singleton.1 hb]
            exact fun e => hn (e ▸ ha)) (fun p hp => by
            rcases List.mem_append.1 hp with hp | hp
            · exact h2 p hp
            · rw [List.mem_singleton.1 hp]
              exact List.mem_map.2 ⟨_, (findR_some e).2.1, rfl⟩)
          simp only [List.length_append, List.length_singleton] at h5
          exact ⟨h3, h4, by omega, fun _ => .inr (by omega)⟩
    · exact pass_grow r used more h1 h2
theorem useGo_closed {l : List PackD} {who : List WhoD} : ∀ (f : Nat) (used : List Tx), used.Nodup → (∀ p ∈ used, p ∈ l.map fun q => q.path) → l.length < f + used.length → ∀ x ∈ who, (x.path = [] ∨ x.path ∈ useGo l who f used) → ∀ k, findR l x.path x.n.name = some k → (packAt l k).path ∈ useGo l who f used
  | 0, used, h1, h2, h3 => by
    have := nodup_len used (l.map fun q => q.path) h1 h2
    rw [List.length_map] at this
    omega
  | f + 1, used, h1, h2, h3 => by
    obtain ⟨g1, g2, g3, g4⟩ := pass_grow (l := l) who used false h1 h2
    rw [useGo]
    by_cases hm : (passGo l used false who).2 = true
    · rw [if_pos hm]
      rcases g4 hm with h | h
      · exact absurd h (by simp)
      · exact useGo_closed f _ g1 g2 (by omega)
    · rw [if_neg hm]
      obtain ⟨e, hcl⟩ := pass_false who used (by simpa using hm)
      rw [e]
      exact hcl
theorem useGo_used {st : List EntryD} {nd : List NeedD} {l : List PackD} : ∀ (f : Nat) (used : List Tx), (∀ p ∈ used, Used st nd l p) → ∀ p ∈ useGo l (allR st nd l) f used, Used st nd l p
  | 0, used, h => h
  | f + 1, used, h => by
    rw [useGo]
    have := pass_used (allR st nd l) used false (fun x hx => hx) h
    split
    · exact useGo_used f _ this
    · exact this
theorem inUseR_used (st : List EntryD) (nd : List NeedD) (l : List PackD) (p : Tx) : hasR (inUseR st nd l) p = true ↔ Used st nd l p := by
  rw [hasR_mem]
  unfold inUseR
  constructor
  · exact fun h => useGo_used _ [] (by simp) p h
  · intro h
    have hcl := useGo_closed (l := l) (who := allR st nd l) (l.length + 1) [] (by simp) (by simp) (by simp)
    exact used_ind (M := fun p => p ∈ useGo l (allR st nd l) (l.length + 1) []) (fun x k hx h0 e => hcl x hx (.inl h0) k e) (fun x k hx _ e ih => hcl x hx (.inr ih) k e) p h

/-! ### pruned -/
theorem pruned_spec (used : List Tx) : ∀ (l out : List PackD), (l.Pairwise fun p q => p.path ≠ q.path) → Rises (fun p => p.path) out → (∀ q ∈ out, ∀ p ∈ l, q.path ≠ p.path) → Rises (fun p => p.path) (prunedGo used out l) ∧ ∀ p, p ∈ prunedGo used out l ↔ p ∈ out ∨ (p ∈ l ∧ hasR used p.path = true)
  | [], out, _, hr, _ => ⟨hr, fun p => by rw [prunedGo]; simp⟩
  | x :: r, out, hl, hr, hn => by
    have hl' := List.pairwise_cons.1 hl
    rw [prunedGo]
    by_cases hu : hasR used x.path = true
    · rw [if_pos hu, placedR_ins]
      obtain ⟨h1, h2⟩ := pruned_spec used r (insG (fun q => q.path) x false out) hl'.2 (insG_rises _ _ _ hr fun y hy => hn y hy x (by simp)) (fun q hq p hp => by
        rcases (insX_mem _ _ _ _).1 hq with rfl | hq
        · exact hl'.1 p hp
        · exact hn q hq p (List.mem_cons_of_mem _ hp))
      refine ⟨h1, fun p => ?_⟩
      rw [h2, insX_mem, List.mem_cons]
      constructor
      · rintro ((rfl | h) | h)
        · exact .inr ⟨.inl rfl, hu⟩
        · exact .inl h
        · exact .inr ⟨.inr h.1, h.2⟩
      · rintro (h | ⟨rfl | h, h'⟩)
        · exact .inl (.inr h)
        · exact .inl (.inl rfl)
        · exact .inr ⟨h, h'⟩
    · rw [if_neg hu]
      obtain ⟨h1, h2⟩ := pruned_spec used r out hl'.2 hr fun q hq p hp => hn q hq p (List.mem_cons_of_mem _ hp)
      refine ⟨h1, fun p => ?_⟩
      rw [h2, List.mem_cons]
      constructor
      · rintro (h | h)
        · exact .inl h
        · exact .inr ⟨.inr h.1, h.2⟩
      · rintro (h | ⟨rfl | h, h'⟩)
        · exact .inl h
        · exact absurd h' hu
        · exact .inr ⟨h, h'⟩
theorem prunedR_mem {st : List EntryD} {nd : List NeedD} {l : List PackD} (hl : l.Pairwise fun p q => p.path ≠ q.path) : Rises (fun p => p.path) (prunedR st nd l) ∧ ∀ p, p ∈ prunedR st nd l ↔ p ∈ l ∧ Used st nd l p.path := by
  obtain ⟨h1, h2⟩ := pruned_spec (inUseR st nd l) l [] hl (Rises.nil _) (by simp)
  refine ⟨h1, fun p => ?_⟩
  unfold prunedR
  rw [h2, inUseR_used]
  simp

/-! ### the program's list -/
structure UI (st : List EntryD) (nd : List NeedD) (l : List PackD) (t : List PkX) (ndx : List NeedX) (v : Value) (used : List PkX) (list : List WhX) : Prop where
  rises : Rises (fun p => p.path) used
  sub : ∀ p ∈ used, p ∈ t
  us : ∀ p ∈ used, Used st nd l p.path
  who : ∀ x ∈ list, x = ⟨[], v, ndx⟩ ∨ ∃ p ∈ used, x = ⟨p.path, p.e.needs, p.e.nd⟩
  has : ∀ p ∈ used, (⟨p.path, p.e.needs, p.e.nd⟩ : WhX) ∈ list
  len : list.length = used.length + 1
theorem hasAt_mem {t used : List PkX} (ht : Rises (fun p => p.path) t) (hs : ∀ p ∈ used, p ∈ t) {p : PkX} (hp : p ∈ t) : hasAtP used p.path = true ↔ p ∈ used := by
  unfold hasAtP
  rw [List.any_eq_true]
  constructor
  · rintro ⟨q, hq, e⟩
    rw [← Rises.key_inj ht q (hs q hq) p hp (of_decide_eq_true e)]; exact hq
  · intro h
    exact ⟨p, h, decide_eq_true rfl⟩
theorem used_step {stx : List EntX} {st : List EntryD} {nd : List NeedD} {l : List PackD} {t : List PkX} {ndx : List NeedX} {v : Value} (ht : TreeSame stx l t) (path : Tx) : ∀ (r : List NeedX) (used : List PkX) (list : List WhX), UI st nd l t ndx v used list → (∀ n ∈ r, ∃ y ∈ allR st nd l, y.path = path ∧ NeedSame n y.n ∧ (path = [] ∨ Used st nd l path)) →
    UI st nd l t ndx v (usedGo t path used list r).1 (usedGo t path used list r).2 ∧ (∀ p ∈ used, p ∈ (usedGo t path used list r).1) ∧ (∃ e, (usedGo t path used list r).2 = list ++ e) ∧ ∀ n ∈ r, ∀ p, findP t n.name path = some p → p ∈ (usedGo t path used list r).1
  | [], used, list, h, _ => ⟨h, fun p hp => hp, ⟨[], by rw [usedGo]; simp⟩, by simp⟩
  | n :: r, used, list, h, hy => by
    have hr : ∀ n ∈ r, ∃ y ∈ allR st nd l, y.path = path ∧ NeedSame n y.n ∧ (path = [] ∨ Used st nd l path) := fun m hm => hy m (List.mem_cons_of_mem _ hm)
    obtain ⟨y, hya, hyp, hyn, hyu⟩ := hy n (by simp)
    have hfs := find_same ht (name := n.name) (by rw [hyn.name]; exact name_nosl hyn.isn) path.length path (Nat.le_refl _)
    rw [usedGo]
    rcases e : findP t n.name path with _ | p
    · simp only
      obtain ⟨h1, h2, h3, h4⟩ := used_step ht path r used list h hr
      refine ⟨h1, h2, h3, fun m hm q hq => ?_⟩
      rcases List.mem_cons.1 hm with rfl | hm
      · rw [e] at hq; exact absurd hq (by simp)
      · exact h4 m hm q hq
    · simp only
      rw [e] at hfs
      rcases ek : findR l path n.name with _ | k
      · rw [ek] at hfs; exact absurd hfs (by simp)
      rw [ek] at hfs
      have hpe : p = toX stx (packAt l k) := by simpa using hfs
      have hpt : p ∈ t := (ht.mem p).2 ⟨_, (findR_some ek).2.1, hpe.symm⟩
      have hpu : Used st nd l p.path := by
        rw [hpe]
        refine Used.step y k hya ?_ (by rw [hyp, ← hyn.name]; exact ek)
        rw [hyp]; exact hyu
      by_cases hh : hasAtP used p.path = true
      · rw [if_pos hh]
        have hin := (hasAt_mem ht.rises h.sub hpt).1 hh
        obtain ⟨h1, h2, h3, h4⟩ := used_step ht path r used list h hr
        refine ⟨h1, h2, h3, fun m hm q hq => ?_⟩
        rcases List.mem_cons.1 hm with rfl | hm
        · rw [e] at hq
          have : p = q := by simpa using hq
          subst this
          exact h2 p hin
        · exact h4 m hm q hq
      · rw [if_neg hh]
        have hnin : p ∉ used := fun hin => hh ((hasAt_mem ht.rises h.sub hpt).2 hin)
        have hmem : ∀ q, q ∈ withP used p ↔ q = p ∨ q ∈ used := insX_mem _ _ _
        have hui : UI st nd l t ndx v (withP used p) (list ++ [⟨p.path, p.e.needs, p.e.nd⟩]) := by
          refine ⟨insG_rises _ _ _ h.rises fun q hq e => hnin (by rw [← Rises.key_inj ht.rises q (h.sub q hq) p hpt e]; exact hq), fun q hq => ?_, fun q hq => ?_, fun x hx => ?_, fun q hq => ?_, ?_⟩
          · rcases (hmem q).1 hq with rfl | hq
            · exact hpt
            · exact h.sub q hq
          · rcases (hmem q).1 hq with rfl | hq
            · exact hpu
            · exact h.us q hq
          · rcases List.mem_append.1 hx with hx | hx
            · rcases h.who x hx with e | ⟨q, hq, e⟩
              · exact .inl e
              · exact .inr ⟨q, (hmem q).2 (.inr hq), e⟩
            · exact .inr ⟨p, (hmem p).2 (.inl rfl), List.mem_singleton.1 hx⟩
          · rcases (hmem q).1 hq with rfl | hq
            · exact List.mem_append_right _ (by simp)
            · exact List.mem_append_left _ (h.has q hq)
          · rw [withP, insX_len]
            simp [h.len]
        obtain ⟨h1, h2, ⟨ex, h3⟩, h4⟩ := used_step ht path r _ _ hui hr
        refine ⟨h1, fun q hq => h2 q ((hmem q).2 (.inr hq)), ⟨_, by rw [h3, List.append_assoc]⟩, fun m hm q hq => ?_⟩
        rcases List.mem_cons.1 hm with rfl | hm
        · rw [e] at hq
          have : p = q := by simpa using hq
          subst this
          exact h2 p ((hmem p).2 (.inl rfl))
        · exact h4 m hm q hq
theorem UI.le {st : List EntryD} {nd : List NeedD} {l : List PackD} {t : List PkX} {ndx : List NeedX} {v : Value} {used : List PkX} {list : List WhX} (h : UI st nd l t ndx v used list) : used.length ≤ t.length := by
  have hnd : (used.map fun p => p.path).Nodup := by
    unfold List.Nodup
    rw [List.pairwise_map]
    exact List.Pairwise.imp (fun h => less_ne h) h.rises
  have := nodup_len (used.map fun p => p.path) (t.map fun p => p.path) hnd fun x hx => by
    obtain ⟨p, hp, rfl⟩ := List.mem_map.1 hx
    exact List.mem_map.2 ⟨p, h.sub p hp, rfl⟩
  simpa using this
theorem allR_of_site {st : List EntryD} {nd : List NeedD} {l : List PackD} {d : NeedD} (h : d ∈ nd) : (⟨[], d⟩ : WhoD) ∈ allR st nd l := List.mem_append_left _ (List.mem_map.2 ⟨d, h, rfl⟩)
theorem allR_of_pack {st : List EntryD} {nd : List NeedD} {l : List PackD} {p : PackD} (hp : p ∈ l) {d : NeedD} (h : d ∈ needsOf st p.of) : (⟨p.path, d⟩ : WhoD) ∈ allR st nd l := List.mem_append_right _ (List.mem_flatMap.2 ⟨p, hp, List.mem_map.2 ⟨d, h, rfl⟩⟩)
theorem inUse_end {stx : List EntX} {st : List EntryD} {nd : List NeedD} {l : List PackD} {t : List PkX} {ndx : List NeedX} {v : Value} (hs : StockSame stx st) (hn : SiteNeeds ndx nd) (ht : TreeSame stx l t) : ∀ (f k : Nat) (used : List PkX) (list : List WhX), UI st nd l t ndx v used list → k ≤ list.length → t.length + 2 ≤ f + k → (⟨[], v, ndx⟩ : WhX) ∈ list → (∀ j (_ : j < k) (hl : j < list.length), ∀ n ∈ list[j].nd, ∀ p, findP t n.name list[j].path = some p → p ∈ used) →
    ∃ list', UI st nd l t ndx v (inUseGo t f k used list) list' ∧ (⟨[], v, ndx⟩ : WhX) ∈ list' ∧ ∀ x ∈ list', ∀ n ∈ x.nd, ∀ p, findP t n.name x.path = some p → p ∈ inUseGo t f k used list
  | 0, k, used, list, h, hk, hf, _, _ => by
    have h1 := h.len
    have h2 := h.le
    omega
  | f + 1, k, used, list, h, hk, hf, hsite, hcl => by
    rw [inUseGo]
    by_cases hlt : k < list.length
    · rw [List.getElem?_eq_getElem hlt]
      simp only
      have hx : ∀ n ∈ list[k].nd, ∃ y ∈ allR st nd l, y.path = list[k].path ∧ NeedSame n y.n ∧ (list[k].path = [] ∨ Used st nd l list[k].path) := by
        intro n hnx
        rcases h.who list[k] (List.getElem_mem _) with e | ⟨p, hp, e⟩
        · rw [e] at hnx ⊢
          obtain ⟨d, hd, hr⟩ := hn.all.meml n hnx
          exact ⟨⟨[], d⟩, allR_of_site hd, rfl, hr, .inl rfl⟩
        · rw [e] at hnx ⊢
          obtain ⟨p0, hp0, rfl⟩ := (ht.mem p).1 (h.sub p hp)
          obtain ⟨d, hd, hr⟩ := (needsOf_same hs (ht.of p0 hp0)).1.meml n hnx
          exact ⟨⟨p0.path, d⟩, allR_of_pack hp0 hd, rfl, hr, .inr (h.us _ hp)⟩
      obtain ⟨h1, h2, ⟨ex, h3⟩, h4⟩ := used_step ht list[k].path list[k].nd used list h hx
      refine inUse_end hs hn ht f (k + 1) _ _ h1 (by rw [h3]; simp; omega) (by omega) (by rw [h3]; exact List.mem_append_left _ hsite) ?_
      intro j hj hl n hnj p hp
      have ej : (usedGo t list[k].path used list list[k].nd).2[j] = list[j]'(by omega) := by
        have : ∀ (m : List WhX) (hm : m = list ++ ex) (hjm : j < m.length), m[j] = list[j]'(by omega) := by
          intro m hm hjm
          subst hm
          rw [List.getElem_append_left (by omega)]
        exact this _ h3 hl
      rw [ej] at hnj hp
      by_cases e : j = k
      · subst e
        exact h4 n hnj p hp
      · exact h2 p (hcl j (by omega) (by omega) n hnj p hp)
    · rw [List.getElem?_eq_none (by omega)]
      simp only
      refine ⟨list, h, hsite, fun x hx n hnx p hp => ?_⟩
      obtain ⟨j, hj, e⟩ := List.mem_iff_getElem.1 hx
      subst e
      exact hcl j (by omega) hj n hnx p hp
/-- Trees by rising paths: the one shows the other. -/
theorem TreeSame.of_map {stx : List EntX} {l m : List PackD} {t : List PkX} (h : TreeSame stx l t) (hm : Rises (fun p => p.path) m) (hs : ∀ p ∈ m, p ∈ l) : TreeSame stx m (m.map (toX stx)) := by
  refine ⟨fun q => ?_, List.Pairwise.imp (fun h => less_ne h) hm, ?_, by simp, fun p hp => h.of p (hs p hp), fun p hp => h.nm p (hs p hp), fun p hp => h.wf p (hs p hp)⟩
  · rw [List.mem_map]
  · unfold Rises
    rw [List.pairwise_map]
    exact hm
/-- What is in use is the same on both sides. -/
theorem inUse_same {stx : List EntX} {st : List EntryD} {nd : List NeedD} {l : List PackD} {t : List PkX} {ndx : List NeedX} (hs : StockSame stx st) (hn : SiteNeeds ndx nd) (ht : TreeSame stx l t) (v : Value) : inUseP t v ndx = (prunedR st nd l).map (toX stx) ∧ TreeSame stx (prunedR st nd l) (inUseP t v ndx) := by
  obtain ⟨hr, hm⟩ := prunedR_mem (st := st) (nd := nd) ht.nd
  have hts := ht.of_map hr fun p hp => ((hm p).1 hp).1
  have e : inUseP t v ndx = (prunedR st nd l).map (toX stx) := by
    obtain ⟨list', h1, h2, h3⟩ := inUse_end (v := v) hs hn ht (t.length + 2) 0 [] [⟨[], v, ndx⟩] ⟨Rises.nil _, by simp, by simp, by simp, by simp, rfl⟩ (by simp) (by omega) (by simp) (by simp)
    refine Rises.ext h1.rises hts.rises fun q => ?_
    rw [List.mem_map]
    constructor
    · intro hq
      obtain ⟨p, hp, rfl⟩ := (ht.mem q).1 (h1.sub q hq)
      exact ⟨p, (hm p).2 ⟨hp, h1.us _ hq⟩, rfl⟩
    · rintro ⟨p, hp, rfl⟩
      obtain ⟨hpl, hpu⟩ := (hm p).1 hp
      have main : ∀ path, Used st nd l path → ∀ p ∈ l, p.path = path → toX stx p ∈ inUseGo t (t.length + 2) 0 [] [⟨[], v, ndx⟩] := by
        refine used_ind ?_ ?_
        · intro x k hx h0 ek p hpl hpp
          have epk : p = packAt l k := path_inj ht.nd p hpl _ (findR_some ek).2.1 hpp
          rw [epk]
          rcases allR_mem hx with ⟨e1, hxn⟩ | ⟨p1, hp1, e1, hxn⟩
          · obtain ⟨n, hnn, hns⟩ := hn.all.mem _ hxn
            refine h3 _ h2 n hnn _ ?_
            simp only
            rw [hns.name, find_same ht (name_nosl hns.isn) _ [] (Nat.le_refl _), ← e1, ek]
            rfl
          · exact absurd h0 (by
              rw [e1, ht.wf p1 hp1]
              exact join_ne (name_ne (ht.nm p1 hp1)))
        · intro x k hx hxu ek ih p hpl hpp
          have epk : p = packAt l k := path_inj ht.nd p hpl _ (findR_some ek).2.1 hpp
          rw [epk]
          rcases allR_mem hx with ⟨e1, hxn⟩ | ⟨p1, hp1, e1, hxn⟩
          · obtain ⟨n, hnn, hns⟩ := hn.all.mem _ hxn
            refine h3 _ h2 n hnn _ ?_
            simp only
            rw [hns.name, find_same ht (name_nosl hns.isn) _ [] (Nat.le_refl _), ← e1, ek]
            rfl
          · obtain ⟨n, hnn, hns⟩ := (needsOf_same hs (ht.of p1 hp1)).1.mem _ hxn
            have hin := ih p1 hp1 e1.symm
            refine h3 _ (h1.has _ hin) n hnn _ ?_
            have e2 : (toX stx p1).path = x.path := e1.symm
            simp only
            rw [e2, hns.name, find_same ht (name_nosl hns.isn) _ x.path (Nat.le_refl _), ek]
            rfl
      exact main p.path hpu p hpl rfl
  exact ⟨e, by rw [e]; exact hts⟩

end Hst
end Go.Proofs.YtecocheolbkneaaDoor
namespace Go.Proofs.YtecocheolbkneaaDoor
namespace Hst

theorem All2.filter {α β : Type} {R : α → β → Prop} (p : α → Bool) (q : β → Bool) (hpq : ∀ a b, R a b → p a = q b) : ∀ {x : List α} {y : List β}, All2 R x y → All2 R (x.filter p) (y.filter q)
  | [], [], _ => trivial
  | a :: x, b :: y, h => by
    have ih := All2.filter p q hpq (x := x) (y := y) h.2
    rw [List.filter_cons, List.filter_cons, hpq a b h.1]
    split
    · exact ⟨h.1, ih⟩
    · exact ih
  | [], _ :: _, h => False.elim h
  | _ :: _, [], h => False.elim h
/-- Two lists by rising keys, each element with one of the other list. -/
theorem All2.of_rises {α β : Type} {R : α → β → Prop} {ka : α → Tx} {kb : β → Tx} (hk : ∀ a b, R a b → ka a = kb b) : ∀ {x : List α} {y : List β}, Rises ka x → Rises kb y → (∀ a ∈ x, ∃ b ∈ y, R a b) → (∀ b ∈ y, ∃ a ∈ x, R a b) → All2 R x y
  | [], [], _, _, _, _ => trivial
  | [], b :: y, _, _, _, h => by obtain ⟨a, ha, _⟩ := h b (by simp); simp at ha
  | a :: x, [], _, _, h, _ => by obtain ⟨b, hb, _⟩ := h a (by simp); simp at hb
  | a :: x, b :: y, hx, hy, h1, h2 => by
    have hx' := List.pairwise_cons.1 hx
    have hy' := List.pairwise_cons.1 hy
    have hab : R a b := by
      obtain ⟨b0, hb0, r0⟩ := h1 a (by simp)
      obtain ⟨a0, ha0, r1⟩ := h2 b (by simp)
      rcases List.mem_cons.1 hb0 with e | hb0
      · rw [← e]; exact r0
      · rcases List.mem_cons.1 ha0 with e | ha0
        · rw [← e]; exact r1
        · have l1 := hy'.1 b0 hb0
          have l2 := hx'.1 a0 ha0
          rw [← hk _ _ r0] at l1
          rw [hk _ _ r1] at l2
          rw [less_asymm l1] at l2
          exact absurd l2 (by simp)
    refine ⟨hab, All2.of_rises hk hx'.2 hy'.2 (fun a1 ha1 => ?_) fun b1 hb1 => ?_⟩
    · obtain ⟨b1, hb1, r⟩ := h1 a1 (List.mem_cons_of_mem _ ha1)
      rcases List.mem_cons.1 hb1 with e | hb1
      · subst e
        exact absurd ((hk _ _ hab).trans (hk _ _ r).symm) (less_ne (hx'.1 a1 ha1))
      · exact ⟨b1, hb1, r⟩
    · obtain ⟨a1, ha1, r⟩ := h2 b1 (List.mem_cons_of_mem _ hb1)
      rcases List.mem_cons.1 ha1 with e | ha1
      · subst e
        exact absurd ((hk _ _ hab).symm.trans (hk _ _ r)) (less_ne (hy'.1 b1 hb1))
      · exact ⟨a1, ha1, r⟩

/-! ### the document's order -/
theorem insPos_hi (x : NeedD) (out : List NeedD) : ∀ k, k ≤ out.length → insPos x out k ≤ k ∧ ∀ j (hj : j < out.length), insPos x out k ≤ j → j < k → less x.name out[j].name = true
  | 0, _ => ⟨Nat.le_refl _, fun j _ _ h => by omega⟩
  | k + 1, hk => by
    obtain ⟨h1, h2⟩ := insPos_hi x out k (by omega)
    have eg : out.getD k ⟨[], []⟩ = out[k] := by rw [List.getD_eq_getElem?_getD, List.getElem?_eq_getElem (by omega)]; rfl
    rw [insPos, eg]
    by_cases hl : less x.name out[k].name = true
    · rw [if_pos hl]
      refine ⟨by omega, fun j hj h3 h4 => ?_⟩
      by_cases e : j = k
      · subst e; exact hl
      · exact h2 j hj h3 (by omega)
    · rw [if_neg hl]
      exact ⟨Nat.le_refl _, fun j _ h3 h4 => by omega⟩
theorem insPos_lo (x : NeedD) (out : List NeedD) : ∀ k, k ≤ out.length → 0 < insPos x out k → less x.name (out.getD (insPos x out k - 1) ⟨[], []⟩).name = false
  | 0, _, h0 => by simp [insPos] at h0
  | k + 1, hk, h0 => by
    by_cases hl : less x.name (out.getD k ⟨[], []⟩).name = true
    · have e : insPos x out (k + 1) = insPos x out k := by rw [insPos, if_pos hl]
      rw [e] at h0 ⊢
      exact insPos_lo x out k (by omega) h0
    · have e : insPos x out (k + 1) = k + 1 := by rw [insPos, if_neg hl]
      rw [e, Nat.add_sub_cancel]
      simpa using hl
theorem insR_perm (x : NeedD) (out : List NeedD) : (insR x out).Perm (x :: out) := by
  unfold insR
  rw [List.append_assoc]
  have h : (out.take (insPos x out out.length) ++ ([x] ++ out.drop (insPos x out out.length))).Perm ([x] ++ (out.take (insPos x out out.length) ++ out.drop (insPos x out out.length))) := by
    rw [← List.append_assoc, ← List.append_assoc]
    exact List.Perm.append_right _ List.perm_append_comm
  rw [List.take_append_drop] at h
  exact h
theorem insR_mem (x : NeedD) (out : List NeedD) (y : NeedD) : y ∈ insR x out ↔ y = x ∨ y ∈ out := by
  rw [(insR_perm x out).mem_iff, List.mem_cons]
theorem insR_rises (x : NeedD) (out : List NeedD) (h : Rises (fun n => n.name) out) (hn : ∀ y ∈ out, y.name ≠ x.name) : Rises (fun n => n.name) (insR x out) := by
  obtain ⟨h1, h2⟩ := insPos_hi x out out.length (Nat.le_refl _)
  have h3 := insPos_lo x out out.length (Nat.le_refl _)
  unfold insR
  generalize insPos x out out.length = p at *
  have hlo : ∀ y ∈ out.take p, less y.name x.name = true := by
    intro y hy
    obtain ⟨j, hj, e⟩ := List.mem_iff_getElem.1 hy
    have hjp : j < p := by simp at hj; omega
    rw [List.getElem_take] at e
    have h4 := h3 (by omega)
    have eg : out.getD (p - 1) ⟨[], []⟩ = out[p - 1]'(by omega) := by rw [List.getD_eq_getElem?_getD, List.getElem?_eq_getElem (by omega)]; rfl
    rw [eg] at h4
    have hlast : less (out[p - 1]'(by omega)).name x.name = true := by
      rcases less_tri (out[p - 1]'(by omega)).name x.name with t | t | t
      · exact t
      · exact absurd t (hn _ (List.getElem_mem _))
      · rw [h4] at t; exact absurd t (by simp)
    by_cases ej : j = p - 1
    · subst ej
      rw [← e]; exact hlast
    · have := List.pairwise_iff_getElem.1 h j (p - 1) (by omega) (by omega) (by omega)
      rw [← e]
      exact less_trans _ _ _ this hlast
  have hhi : ∀ y ∈ out.drop p, less x.name y.name = true := by
    intro y hy
    obtain ⟨j, hj, e⟩ := List.mem_iff_getElem.1 hy
    rw [List.getElem_drop] at e
    rw [← e]
    simp at hj
    exact h2 _ (by omega) (by omega) (by omega)
  have hsp : Rises (fun n => n.name) (out.take p ++ out.drop p) := by rw [List.take_append_drop]; exact h
  have hsp' := List.pairwise_append.1 hsp
  unfold Rises
  rw [List.append_assoc, List.pairwise_append]
  refine ⟨hsp'.1, ?_, fun a ha b hb => ?_⟩
  · rw [List.singleton_append]
    exact List.pairwise_cons.2 ⟨hhi, hsp'.2.1⟩
  · rw [List.singleton_append] at hb
    rcases List.mem_cons.1 hb with rfl | hb
    · exact hlo a ha
    · exact hsp'.2.2 a ha b hb
theorem sortGo_perm : ∀ (l out : List NeedD), (sortGo out l).Perm (out ++ l)
  | [], out => by rw [sortGo]; simp
  | x :: r, out => by
    rw [sortGo]
    refine (sortGo_perm r (insR x out)).trans ?_
    refine (List.Perm.append_right r (insR_perm x out)).trans ?_
    rw [List.cons_append]
    exact List.perm_middle.symm
theorem sortedR_perm (l : List NeedD) : (sortedR l).Perm l := sortGo_perm l []
theorem sortGo_rises : ∀ (l out : List NeedD), Rises (fun n => n.name) out → (l.Pairwise fun a b => a.name ≠ b.name) → (∀ y ∈ out, ∀ x ∈ l, y.name ≠ x.name) → Rises (fun n => n.name) (sortGo out l)
  | [], out, h, _, _ => h
  | x :: r, out, h, hl, hn => by
    have hl' := List.pairwise_cons.1 hl
    rw [sortGo]
    refine sortGo_rises r _ (insR_rises x out h fun y hy => hn y hy x (by simp)) hl'.2 fun y hy z hz => ?_
    rcases (insR_mem x out y).1 hy with rfl | hy
    · exact hl'.1 z hz
    · exact hn y hy z (List.mem_cons_of_mem _ hz)
theorem sortedR_rises (l : List NeedD) (hl : l.Pairwise fun a b => a.name ≠ b.name) : Rises (fun n => n.name) (sortedR l) := sortGo_rises l [] (Rises.nil _) hl (by simp)

/-! ### the program's order -/
/-- By rising keys, or the same. -/
def Climbs {α : Type} (key : α → Tx) (l : List α) : Prop := l.Pairwise fun x y => less (key y) (key x) = false
theorem insX_perm {α : Type} (key : α → Tx) (x : α) : ∀ l : List α, (insG key x false l).Perm (x :: l)
  | [] => by simp [insG]
  | y :: r => by
    simp only [insG, true_and]
    split
    · rw [insX_true]
    · exact ((insX_perm key x r).cons y).trans (List.Perm.swap x y r)
theorem insG_climbs {α : Type} (key : α → Tx) (x : α) : ∀ l : List α, Climbs key l → Climbs key (insG key x false l)
  | [], _ => by simp [insG, Climbs]
  | z :: r, h => by
    have h' := List.pairwise_cons.1 h
    rw [insG]
    split
    · rename_i hl
      rw [insX_true]
      refine List.pairwise_cons.2 ⟨fun y hy => ?_, h⟩
      rcases List.mem_cons.1 hy with rfl | hy
      · exact less_asymm hl.2
      · have h1 := h'.1 y hy
        rcases e : less (key y) (key x) with _ | _
        · rfl
        · rw [less_trans _ _ _ e hl.2] at h1; exact absurd h1 (by simp)
    · rename_i hl
      refine List.pairwise_cons.2 ⟨fun y hy => ?_, insG_climbs key x r h'.2⟩
      rcases (insX_mem key x r y).1 hy with rfl | hy
      · rcases e : less (key y) (key z) with _ | _
        · rfl
        · exact absurd ⟨rfl, e⟩ hl
      · exact h'.1 y hy
theorem foldl_withN_perm : ∀ (xs acc : List NeedX), (xs.foldl withN acc).Perm (acc ++ xs)
  | [], acc => by simp
  | x :: r, acc => by
    rw [List.foldl_cons]
    refine (foldl_withN_perm r (withN acc x)).trans ?_
    refine (List.Perm.append_right r (insX_perm _ x acc)).trans ?_
    rw [List.cons_append]
    exact List.perm_middle.symm
theorem foldl_withN_climbs : ∀ (xs acc : List NeedX), Climbs (fun n => n.name) acc → Climbs (fun n => n.name) (xs.foldl withN acc)
  | [], acc, h => h
  | x :: r, acc, h => by
    rw [List.foldl_cons]
    exact foldl_withN_climbs r _ (insG_climbs _ x acc h)
theorem twiceX_false : ∀ (l : List NeedX), Climbs (fun n => n.name) l → twiceX l = false → Rises (fun n => n.name) l
  | [], _, _ => Rises.nil _
  | [x], _, _ => by simp [Rises]
  | x :: y :: r, h, ht => by
    rw [twiceX, Bool.or_eq_false_iff] at ht
    have h' := List.pairwise_cons.1 h
    have ih := twiceX_false (y :: r) h'.2 ht.2
    have ih' := List.pairwise_cons.1 ih
    have hxy : less x.name y.name = true := by
      rcases less_tri x.name y.name with t | t | t
      · exact t
      · exact absurd t (of_decide_eq_false ht.1)
      · rw [h'.1 y (by simp)] at t; exact absurd t (by simp)
    refine List.pairwise_cons.2 ⟨fun z hz => ?_, ih⟩
    rcases List.mem_cons.1 hz with rfl | hz
    · exact hxy
    · exact less_trans _ _ _ hxy (ih'.1 z hz)
theorem twiceX_true : ∀ (l : List NeedX), twiceX l = true → ¬ l.Pairwise fun a b => a.name ≠ b.name
  | [], h => by simp [twiceX] at h
  | [x], h => by simp [twiceX] at h
  | x :: y :: r, h => by
    intro hp
    have hp' := List.pairwise_cons.1 hp
    rw [twiceX, Bool.or_eq_true] at h
    rcases h with h | h
    · exact hp'.1 y (by simp) (of_decide_eq_true h)
    · exact twiceX_true (y :: r) h hp'.2

/-! ### names twice -/
theorem twiceN_iff : ∀ (l pre : List NeedD), twiceN pre l = false ↔ (l.Pairwise fun a b => a.name ≠ b.name) ∧ ∀ m ∈ pre, ∀ n ∈ l, m.name ≠ n.name
  | [], pre => by simp [twiceN]
  | x :: r, pre => by
    rw [twiceN, Bool.or_eq_false_iff, twiceN_iff r (pre ++ [x]), List.pairwise_cons, List.any_eq_false]
    constructor
    · rintro ⟨h1, h2, h3⟩
      refine ⟨⟨fun b hb => h3 x (by simp) b hb, h2⟩, fun m hm n hn => ?_⟩
      rcases List.mem_cons.1 hn with rfl | hn
      · have := h1 m hm
        simpa using this
      · exact h3 m (List.mem_append_left _ hm) n hn
    · rintro ⟨⟨h1, h2⟩, h3⟩
      refine ⟨fun m hm => ?_, h2, fun m hm n hn => ?_⟩
      · have := h3 m hm x (by simp)
        simpa using this
      · rcases List.mem_append.1 hm with hm | hm
        · exact h3 m hm n (List.mem_cons_of_mem _ hn)
        · rw [List.mem_singleton.1 hm]; exact h1 n hn
theorem All2.names {xs : List NeedX} {ds : List NeedD} (h : All2 NeedSame xs ds) : xs.map (fun n => n.name) = ds.map fun n => n.name := by
  induction xs generalizing ds with
  | nil => cases ds with
    | nil => rfl
    | cons _ _ => exact False.elim h
  | cons x xs ih => cases ds with
    | nil => exact False.elim h
    | cons d ds => rw [List.map_cons, List.map_cons, ih h.2, h.1.name]
theorem pw_map {α : Type} (key : α → Tx) (l : List α) : (l.Pairwise fun a b => key a ≠ key b) ↔ (l.map key).Nodup := by
  unfold List.Nodup
  rw [List.pairwise_map]
/-- The needs of an entry: a name twice, or the same needs. -/
theorem entry_needs {xs : List NeedX} {ds : List NeedD} (h : All2 NeedSame xs ds) :
    twiceX (xs.foldl withN []) = twiceN [] (sortedR ds) ∧ (twiceX (xs.foldl withN []) = false → All2 NeedSame (xs.foldl withN []) (sortedR ds) ∧ Rises (fun n => n.name) (sortedR ds)) := by
  have pX : (xs.foldl withN []).Perm xs := foldl_withN_perm xs []
  have pD := sortedR_perm ds
  have hcl := foldl_withN_climbs xs [] (by simp [Climbs])
  have hnm := h.names
  have nX : ((xs.foldl withN []).map fun n => n.name).Nodup ↔ (xs.map fun n => n.name).Nodup := (pX.map _).nodup_iff
  have nD : ((sortedR ds).map fun n => n.name).Nodup ↔ (ds.map fun n => n.name).Nodup := (pD.map _).nodup_iff
  have tD : twiceN [] (sortedR ds) = false ↔ (ds.map fun n => n.name).Nodup := by
    rw [twiceN_iff, ← nD, ← pw_map]
    simp
  rcases e : twiceX (xs.foldl withN []) with _ | _
  · have hr := twiceX_false _ hcl e
    have hX : (xs.map fun n => n.name).Nodup := by
      rw [← nX, ← pw_map]
      exact List.Pairwise.imp (fun h => less_ne h) hr
    rw [hnm] at hX
    have hrd := sortedR_rises ds ((pw_map _ ds).2 hX)
    refine ⟨(tD.2 hX).symm, fun _ => ⟨All2.of_rises (fun a b r => r.name) hr hrd (fun a ha => ?_) fun b hb => ?_, hrd⟩⟩
    · obtain ⟨b, hb, r⟩ := h.meml a (pX.mem_iff.1 ha)
      exact ⟨b, pD.mem_iff.2 hb, r⟩
    · obtain ⟨a, ha, r⟩ := h.mem b (pD.mem_iff.1 hb)
      exact ⟨a, pX.mem_iff.2 ha, r⟩
  · have hno := twiceX_true _ e
    have : ¬ (ds.map fun n => n.name).Nodup := by
      rw [← hnm, ← nX, ← pw_map]
      exact hno
    refine ⟨?_, fun h => absurd h (by simp)⟩
    rcases e2 : twiceN [] (sortedR ds) with _ | _
    · exact absurd (tD.1 e2) this
    · rfl
/-- One more need of a site. -/
theorem with_same {ndx : List NeedX} {nd : List NeedD} (h : All2 NeedSame ndx nd) (hr : Rises (fun n => n.name) nd) {x : NeedX} {d : NeedD} (hx : NeedSame x d) (hn : ∀ y ∈ nd, y.name ≠ d.name) : All2 NeedSame (withN ndx x) (sortedR (nd ++ [d])) ∧ Rises (fun n => n.name) (sortedR (nd ++ [d])) := by
  have hrx : Rises (fun n => n.name) ndx := by
    have : (ndx.map fun n => n.name).Pairwise fun a b => less a b = true := by
      rw [h.names, List.pairwise_map]
      exact hr
    rw [List.pairwise_map] at this
    exact this
  have hnx : ∀ y ∈ ndx, y.name ≠ x.name := fun y hy => by
    obtain ⟨b, hb, r⟩ := h.meml y hy
    rw [r.name, hx.name]
    exact hn b hb
  have hd : (nd ++ [d]).Pairwise fun a b => a.name ≠ b.name := by
    rw [List.pairwise_append]
    refine ⟨List.Pairwise.imp (fun h => less_ne h) hr, by simp, fun a ha b hb => ?_⟩
    rw [List.mem_singleton.1 hb]
    exact hn a ha
  have hrd := sortedR_rises _ hd
  have pD := sortedR_perm (nd ++ [d])
  refine ⟨All2.of_rises (fun a b r => r.name) (insG_rises _ x ndx hrx hnx) hrd (fun a ha => ?_) fun b hb => ?_, hrd⟩
  · rcases (insX_mem _ _ _ _).1 ha with rfl | ha
    · exact ⟨d, pD.mem_iff.2 (by simp), hx⟩
    · obtain ⟨b, hb, r⟩ := h.meml a ha
      exact ⟨b, pD.mem_iff.2 (List.mem_append_left _ hb), r⟩
  · rcases List.mem_append.1 (pD.mem_iff.1 hb) with hb | hb
    · obtain ⟨a, ha, r⟩ := h.mem b hb
      exact ⟨a, (insX_mem _ _ _ _).2 (.inr ha), r⟩
    · rw [List.mem_singleton.1 hb]
      exact ⟨x, (insX_mem _ _ _ _).2 (.inl rfl), hx⟩

end Hst
end Go.Proofs.YtecocheolbkneaaDoor
