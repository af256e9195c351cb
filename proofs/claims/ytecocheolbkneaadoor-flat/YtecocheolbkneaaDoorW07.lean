/- Mbuild, Muse -/
import Derived.Test.YtecocheolbkneaaDoorW06
namespace Go.Proofs.YtecocheolbkneaaDoor
namespace Hst

theorem who_need {stx : List EntX} {st : List EntryD} {ndx : List NeedX} {nd : List NeedD} (hs : StockSame stx st) (hn : SiteNeeds ndx nd) {l : List PackD} (ho : ∀ p ∈ l, p.of < stx.length) {x : WhoD} (h : x ∈ allR st nd l) : ∃ n, NeedSame n x.n := by
  rcases allR_mem h with ⟨_, h⟩ | ⟨p, hp, _, h⟩
  · obtain ⟨n, _, hr⟩ := hn.all.mem _ h
    exact ⟨n, hr⟩
  · obtain ⟨n, _, hr⟩ := (needsOf_same hs (ho p hp)).1.mem _ h
    exact ⟨n, hr⟩
theorem drop_last {α : Type} (l : List α) (p : α) : (l ++ [p]).drop ((l ++ [p]).length - 1) = [p] := by simp
theorem run_inv {stx : List EntX} {st : List EntryD} {ndx : List NeedX} {nd : List NeedD} {tree : List PackD} {fav : List PkX} (hs : StockSame stx st) (hn : SiteNeeds ndx nd) (hf : TreeSame stx tree fav) : ∀ (i : Nat) (q : List PackD × List WhoD × List WhoD), runD st tree nd i = some q → q.2.2 = allR st nd q.1 ∧ i ≤ q.2.2.length ∧ ∃ t, Run stx st nd q.1 t q.2.1 (q.2.2.drop i)
  | 0, q, h => by
    rw [runD] at h
    have e := Option.some.inj h
    subst e
    exact ⟨rfl, by simp, [], Run.start hn⟩
  | i + 1, q, h => by
    rw [runD] at h
    rcases e0 : runD st tree nd i with _ | q0
    · rw [e0] at h; exact absurd h (by simp)
    · rw [e0] at h
      simp only at h
      obtain ⟨h1, h2, t, hr⟩ := run_inv hs hn hf i q0 e0
      rcases ex : q0.2.2[i]? with _ | x
      · rw [ex] at h; exact absurd h (by simp)
      · rw [ex] at h
        simp only at h
        obtain ⟨hi, ex'⟩ := List.getElem?_eq_some_iff.1 ex
        rw [List.drop_eq_getElem_cons hi, ex'] at hr
        have hxa : x ∈ allR st nd q0.1 := by rw [← h1, ← ex']; exact List.getElem_mem _
        unfold stepD at h
        by_cases hm : metR st q0.1 x = true
        · rw [if_pos hm] at h
          simp only [if_true] at h
          have e := Option.some.inj h
          subst e
          exact ⟨h1, by simp only; omega, t, hr.next hm⟩
        · rw [if_neg hm] at h
          obtain ⟨n, hnx⟩ := who_need hs hn hr.ts.of hxa
          rcases choose_same hs hf hnx with ⟨c1, _⟩ | ⟨k, c1, hk, _, _, ck, cf⟩
          · rw [c1] at h; simp at h
          · rw [c1] at h
            simp only at h
            by_cases h40 : 40 ≤ q0.1.length
            · rw [if_pos h40] at h; simp at h
            · rw [if_neg h40] at h
              simp only [if_true] at h
              have e := Option.some.inj h
              subst e
              have hw := hr.own hs hn k
              have hp := pickF_some (WillB st q0.1 x k q0.2.1) (foldersR x.path) x.path ⟨_, folders_self _, willB_iff.2 hw⟩
              have hkn : (stx.getD k zeroE).name = x.n.name := by rw [(hs.at hk).name]; exact ck
              simp only
              rw [layR_pick hw, drop_last]
              refine ⟨by rw [allR_app, h1], by simp; omega, withP t ⟨joinR (pickF (WillB st q0.1 x k q0.2.1) x.path (foldersR x.path)) x.n.name, stx.getD k zeroE⟩, ?_⟩
              rw [List.drop_append_of_le_length (by omega)]
              exact hr.lay hs hn hk hkn cf hp.1 (willB_iff.1 hp.2.1)
theorem lays_well {stx : List EntX} {st : List EntryD} {ndx : List NeedX} {nd : List NeedD} {tree : List PackD} {fav : List PkX} (hs : StockSame stx st) (hn : SiteNeeds ndx nd) (hf : TreeSame stx tree fav) : LaysWell st tree nd := by
  intro i q x k h hx _ _ _
  obtain ⟨_, _, t, hr⟩ := run_inv hs hn hf i q h
  obtain ⟨hi, ex'⟩ := List.getElem?_eq_some_iff.1 hx
  rw [List.drop_eq_getElem_cons hi, ex'] at hr
  rw [layR_pick (hr.own hs hn k)]
  simp

/-! ### the program's building -/
def asOf (x : WhX) : List AsX := x.nd.map fun n => ⟨x.path, n⟩
theorem asOf_same {stx : List EntX} {st : List EntryD} (hs : StockSame stx st) {k : Nat} (hk : k < stx.length) (path : Tx) : All2 GoneSame (asOf ⟨path, (stx.getD k zeroE).needs, (stx.getD k zeroE).nd⟩) (allR st [] [⟨path, k⟩]) := by
  rw [allR_single]
  unfold asOf
  have go : ∀ {a : List NeedX} {b : List NeedD}, All2 NeedSame a b → All2 GoneSame (a.map fun n => ⟨path, n⟩) (b.map fun n => ⟨path, n⟩) := by
    intro a
    induction a with
    | nil => intro b h; cases b with
      | nil => trivial
      | cons _ _ => exact False.elim h
    | cons x a ih => intro b h; cases b with
      | nil => exact False.elim h
      | cons y b => exact ⟨⟨rfl, h.1⟩, ih h.2⟩
  exact go (needsOf_same hs hk).1
theorem All2.cons_left {α β : Type} {R : α → β → Prop} {a : α} {x : List α} {y : List β} (h : All2 R (a :: x) y) : ∃ b r, y = b :: r ∧ R a b ∧ All2 R x r := by
  cases y with
  | nil => exact False.elim h
  | cons b r => exact ⟨b, r, rfl, h.1, h.2⟩
theorem All2.nil_left {α β : Type} {R : α → β → Prop} {y : List β} (h : All2 R ([] : List α) y) : y = [] := by
  cases y with
  | nil => rfl
  | cons b r => exact False.elim h

/-- How the two sides stand to each other: what the program still has ahead is ras. -/
structure Sim (stx : List EntX) (st : List EntryD) (nd : List NeedD) (k : WorkX) (l : List PackD) (done rem : List WhoD) (ras : List AsX) (f : Nat) : Prop where
  run : Run stx st nd l k.tree done rem
  gone : All2 GoneSame k.gone done
  ahead : All2 GoneSame ras rem
  len : k.list.length = l.length + 1
  l40 : l.length ≤ 40
  fuel : rem.length + 6 * (40 - l.length) < f
theorem work_same {stx : List EntX} {st : List EntryD} {ndx : List NeedX} {nd : List NeedD} {tree : List PackD} {fav : List PkX} (hs : StockSame stx st) (hn : SiteNeeds ndx nd) (hf : TreeSame stx tree fav) (h6 : ∀ k, k < stx.length → (needsOf st k).length ≤ 6) (path : Tx) (a : Nat) :
    ∀ (r : List NeedX) (k : WorkX) (l : List PackD) (done rem : List WhoD) (f : Nat), a ≤ k.list.length → Sim stx st nd k l done rem ((r.map fun n => (⟨path, n⟩ : AsX)) ++ (k.list.drop a).flatMap asOf) f →
    (¬ (workGo stx fav path k r).2 = 0 ∧ buildGo st tree f l done rem = (none, (workGo stx fav path k r).2)) ∨
    ((workGo stx fav path k r).2 = 0 ∧ a ≤ (workGo stx fav path k r).1.list.length ∧ ∃ l' done' rem' f', buildGo st tree f l done rem = buildGo st tree f' l' done' rem' ∧ Sim stx st nd (workGo stx fav path k r).1 l' done' rem' (((workGo stx fav path k r).1.list.drop a).flatMap asOf) f')
  | [], k, l, done, rem, f, ha, h => by
    rw [workGo]
    exact .inr ⟨rfl, ha, l, done, rem, f, rfl, h⟩
  | n :: r, k, l, done, rem, f, ha, h => by
    obtain ⟨x, rest, rfl, hx, hrest⟩ := All2.cons_left h.ahead
    have hfuel := h.fuel
    match f, hfuel with
    | 0, hfuel => omega
    | f + 1, hfuel =>
    simp only [List.length_cons] at hfuel
    have hxp : path = x.path := hx.1
    have hxn : NeedSame n x.n := hx.2
    have hmet : meetsP k.tree path n = metR st l x := by rw [hxp]; exact met_same hs h.run.ts hxn x.path
    have hl40 := h.l40
    rw [workGo, buildGo, hmet]
    by_cases hm : metR st l x = true
    · rw [if_pos hm, if_pos hm]
      exact work_same hs hn hf h6 path a r ⟨k.tree, k.list, k.gone ++ [⟨path, n⟩]⟩ l (done ++ [x]) rest f ha ⟨h.run.next hm, h.gone.app ⟨hx, trivial⟩, hrest, h.len, h.l40, by omega⟩
    · rw [if_neg hm, if_neg hm]
      have hlen : k.tree.length = l.length := h.run.ts.len
      rcases choose_same hs hf hxn with ⟨c1, c2⟩ | ⟨j, c1, hj, c2, c3, ck, cf⟩
      · have e : layP stx fav k path n = (k, 8) := by unfold layP; rw [if_pos c2]
        rw [e, c1]
        exact .inl ⟨by simp, by simp⟩
      · rw [c1]
        simp only
        by_cases h40 : 40 ≤ l.length
        · have e : layP stx fav k path n = (k, 9) := by unfold layP; rw [if_neg (by rw [c2]; simp), if_pos (by omega)]
          rw [e, if_pos h40]
          exact .inl ⟨by simp, by simp⟩
        · have hkn : (stx.getD j zeroE).name = x.n.name := by rw [(hs.at hj).name]; exact ck
          have hw := h.run.own hs hn j
          have hp := pickF_some (WillB st l x j done) (foldersR x.path) x.path ⟨_, folders_self _, willB_iff.2 hw⟩
          have hxa : x ∈ allR st nd l := by rw [h.run.all]; simp
          have hpl := place_same hs h.run.ts h.gone (who_name hs hn h.run.ts.of hxa) hj hkn hw
          have e : layP stx fav k path n = (⟨withP k.tree ⟨joinR (pickF (WillB st l x j done) x.path (foldersR x.path)) x.n.name, stx.getD j zeroE⟩, k.list ++ [⟨joinR (pickF (WillB st l x j done) x.path (foldersR x.path)) x.n.name, (stx.getD j zeroE).needs, (stx.getD j zeroE).nd⟩], k.gone⟩, 0) := by
            unfold layP
            rw [if_neg (by rw [c2]; simp), if_neg (by omega), c3, hxp, hpl]
          rw [e, if_neg h40]
          simp only [if_true]
          rw [layR_pick hw, drop_last]
          have h6j := h6 j hj
          refine work_same hs hn hf h6 path a r _ _ _ _ f (by simp; omega) ⟨h.run.lay hs hn hj hkn cf hp.1 (willB_iff.1 hp.2.1), h.gone.app ⟨hx, trivial⟩, ?_, by simp [h.len], by simp; omega, ?_⟩
          · simp only
            rw [List.drop_append_of_le_length (by omega), List.flatMap_append, ← List.append_assoc]
            refine hrest.app ?_
            simp only [List.flatMap_cons, List.flatMap_nil, List.append_nil]
            exact asOf_same hs hj _
          · rw [allR_single]
            simp only [List.length_append, List.length_map, List.length_singleton]
            omega
/-- Building comes to the same. -/
theorem buildGo_same {stx : List EntX} {st : List EntryD} {ndx : List NeedX} {nd : List NeedD} {tree : List PackD} {fav : List PkX} (hs : StockSame stx st) (hn : SiteNeeds ndx nd) (hf : TreeSame stx tree fav) (h6 : ∀ k, k < stx.length → (needsOf st k).length ≤ 6) :
    ∀ (F i : Nat) (k : WorkX) (l : List PackD) (done rem : List WhoD) (f : Nat), 43 ≤ F + i → i ≤ k.list.length → Sim stx st nd k l done rem ((k.list.drop i).flatMap asOf) f →
    (¬ (buildGoP stx fav F i k).2 = 0 ∧ buildGo st tree f l done rem = (none, (buildGoP stx fav F i k).2)) ∨
    ((buildGoP stx fav F i k).2 = 0 ∧ ∃ l' done', buildGo st tree f l done rem = (some l', 0) ∧ l'.length ≤ 40 ∧ Run stx st nd l' (buildGoP stx fav F i k).1.tree done' [])
  | 0, i, k, l, done, rem, f, hF, hi, h => by
    have h1 := h.len
    have h2 := h.l40
    omega
  | F + 1, i, k, l, done, rem, f, hF, hi, h => by
    rw [buildGoP]
    by_cases hlt : i < k.list.length
    · rw [List.getElem?_eq_getElem hlt]
      simp only
      have hd := List.drop_eq_getElem_cons hlt
      rw [hd, List.flatMap_cons] at h
      rcases work_same hs hn hf h6 k.list[i].path (i + 1) k.list[i].nd k l done rem f (by omega) h with ⟨h1, h2⟩ | ⟨h1, h2, l', done', rem', f', e, h3⟩
      · rw [if_neg h1]
        exact .inl ⟨h1, h2⟩
      · rw [if_pos h1, e]
        exact buildGo_same hs hn hf h6 F (i + 1) _ l' done' rem' f' (by omega) h2 h3
    · rw [List.getElem?_eq_none (by omega)]
      rw [List.drop_of_length_le (by omega), List.flatMap_nil] at h
      have er := All2.nil_left h.ahead
      subst er
      have hfuel := h.fuel
      match f, hfuel with
      | 0, hfuel => omega
      | f + 1, _ =>
      exact .inr ⟨rfl, l, done, rfl, h.l40, h.run⟩
theorem buildP_same {stx : List EntX} {st : List EntryD} {ndx : List NeedX} {nd : List NeedD} {tree : List PackD} {fav : List PkX} (hs : StockSame stx st) (hn : SiteNeeds ndx nd) (hn6 : nd.length ≤ 6) (hf : TreeSame stx tree fav) (h6 : ∀ k, k < stx.length → (needsOf st k).length ≤ 6) (v : Value) :
    (¬ (buildGoP stx fav 60 0 ⟨[], [⟨[], v, ndx⟩], []⟩).2 = 0 ∧ buildGo st tree 1000 [] [] (allR st nd []) = (none, (buildGoP stx fav 60 0 ⟨[], [⟨[], v, ndx⟩], []⟩).2)) ∨
    ((buildGoP stx fav 60 0 ⟨[], [⟨[], v, ndx⟩], []⟩).2 = 0 ∧ ∃ l' done', buildGo st tree 1000 [] [] (allR st nd []) = (some l', 0) ∧ l'.length ≤ 40 ∧ Run stx st nd l' (buildGoP stx fav 60 0 ⟨[], [⟨[], v, ndx⟩], []⟩).1.tree done' []) := by
  refine buildGo_same hs hn hf h6 60 0 _ [] [] _ 1000 (by omega) (by simp) ⟨Run.start hn, trivial, ?_, rfl, by simp, ?_⟩
  · have go : ∀ {a : List NeedX} {b : List NeedD}, All2 NeedSame a b → All2 GoneSame (a.map fun n => ⟨[], n⟩) (b.map fun n => ⟨[], n⟩) := by
      intro a
      induction a with
      | nil => intro b h; cases b with
        | nil => trivial
        | cons _ _ => exact False.elim h
      | cons x a ih => intro b h; cases b with
        | nil => exact False.elim h
        | cons y b => exact ⟨⟨rfl, h.1⟩, ih h.2⟩
    have := go hn.all
    unfold allR asOf
    simpa using this
  · unfold allR
    simp
    omega

end Hst
end Go.Proofs.YtecocheolbkneaaDoor
namespace Go.Proofs.YtecocheolbkneaaDoor
namespace Hst

theorem nodup_len {α : Type} [DecidableEq α] : ∀ (l m : List α), l.Nodup → (∀ x ∈ l, x ∈ m) → l.length ≤ m.length
  | [], m, _, _ => by simp
  | x :: r, m, hn, hs => by
    have hx := hs x (by simp)
    have h1 : (m.erase x).length = m.length - 1 := List.length_erase_of_mem hx
    have h2 := nodup_len r (m.erase x) (List.nodup_cons.1 hn).2 (fun y hy => by
      have hne : y ≠ x := fun e => (List.nodup_cons.1 hn).1 (e ▸ hy)
      exact (List.mem_erase_of_ne hne).2 (hs y (by simp [hy])))
    have h3 : 0 < m.length := List.length_pos_of_mem hx
    simp; omega
/-- What is in use, found in n steps from the site. -/
def UsedN (st : List EntryD) (nd : List NeedD) (l : List PackD) : Nat → Tx → Prop
  | 0, _ => False
  | n + 1, p => ∃ x k, x ∈ allR st nd l ∧ (x.path = [] ∨ UsedN st nd l n x.path) ∧ findR l x.path x.n.name = some k ∧ (packAt l k).path = p
/-- What is in use. -/
def Used (st : List EntryD) (nd : List NeedD) (l : List PackD) (p : Tx) : Prop := ∃ n, UsedN st nd l n p
theorem Used.site {st : List EntryD} {nd : List NeedD} {l : List PackD} (x : WhoD) (k : Nat) (hx : x ∈ allR st nd l) (h : x.path = []) (e : findR l x.path x.n.name = some k) : Used st nd l (packAt l k).path := ⟨1, x, k, hx, .inl h, e, rfl⟩
theorem Used.pack {st : List EntryD} {nd : List NeedD} {l : List PackD} (x : WhoD) (k : Nat) (hx : x ∈ allR st nd l) (h : Used st nd l x.path) (e : findR l x.path x.n.name = some k) : Used st nd l (packAt l k).path := by
  obtain ⟨n, hn⟩ := h
  exact ⟨n + 1, x, k, hx, .inr hn, e, rfl⟩
theorem Used.step {st : List EntryD} {nd : List NeedD} {l : List PackD} (x : WhoD) (k : Nat) (hx : x ∈ allR st nd l) (h : x.path = [] ∨ Used st nd l x.path) (e : findR l x.path x.n.name = some k) : Used st nd l (packAt l k).path := by
  rcases h with h | h
  · exact .site x k hx h e
  · exact .pack x k hx h e
/-- Along the ways on which something is found to be in use. -/
theorem used_ind {st : List EntryD} {nd : List NeedD} {l : List PackD} {M : Tx → Prop}
    (h1 : ∀ x k, x ∈ allR st nd l → x.path = [] → findR l x.path x.n.name = some k → M (packAt l k).path)
    (h2 : ∀ x k, x ∈ allR st nd l → Used st nd l x.path → findR l x.path x.n.name = some k → M x.path → M (packAt l k).path) : ∀ p, Used st nd l p → M p := by
  intro p hp
  obtain ⟨n, hn⟩ := hp
  induction n generalizing p with
  | zero => exact False.elim hn
  | succ n ih =>
    obtain ⟨x, k, hx, hc, e, rfl⟩ := hn
    rcases hc with hc | hc
    · exact h1 x k hx hc e
    · exact h2 x k hx ⟨n, hc⟩ e (ih x.path hc)

/-! ### the document's passes -/
theorem hasR_mem {l : List Tx} {p : Tx} : hasR l p = true ↔ p ∈ l := by
  unfold hasR
  rw [List.any_eq_true]
  constructor
  · rintro ⟨x, hx, e⟩
    rw [← of_decide_eq_true e]; exact hx
  · intro h
    exact ⟨p, h, decide_eq_true rfl⟩
theorem pass_used {st : List EntryD} {nd : List NeedD} {l : List PackD} : ∀ (w : List WhoD) (used : List Tx) (more : Bool), (∀ x ∈ w, x ∈ allR st nd l) → (∀ p ∈ used, Used st nd l p) → ∀ p ∈ (passGo l used more w).1, Used st nd l p
  | [], used, more, _, h => by rw [passGo]; exact h
  | x :: r, used, more, hw, h => by
    have hr : ∀ y ∈ r, y ∈ allR st nd l := fun y hy => hw y (List.mem_cons_of_mem _ hy)
    rw [passGo]
    by_cases hc : (decide (x.path = []) || hasR used x.path) = true
    · rw [if_pos hc]
      rcases e : findR l x.path x.n.name with _ | k
      · exact pass_used r used more hr h
      · simp only
        split
        · exact pass_used r used more hr h
        · refine pass_used r _ true hr fun p hp => ?_
          rcases List.mem_append.1 hp with hp | hp
          · exact h p hp
          · rw [List.mem_singleton.1 hp]
            refine Used.step x k (hw x (by simp)) ?_ e
            rw [Bool.or_eq_true] at hc
            rcases hc with hc | hc
            · exact .inl (of_decide_eq_true hc)
            · exact .inr (h _ (hasR_mem.1 hc))
    · rw [if_neg hc]
      exact pass_used r used more hr h
theorem pass_true {l : List PackD} : ∀ (w : List WhoD) (used : List Tx), (passGo l used true w).2 = true
  | [], used => rfl
  | x :: r, used => by
    rw [passGo]
    split
    · rcases findR l x.path x.n.name with _ | k
      · exact pass_true r used
      · simp only
        split
        · exact pass_true r used
        · exact pass_true r _
    · exact pass_true r used
/-- A pass that adds nothing: all is there. -/
theorem pass_false {l : List PackD} : ∀ (w : List WhoD) (used : List Tx), (passGo l used false w).2 = false → (passGo l used false w).1 = used ∧ ∀ x ∈ w, (x.path = [] ∨ x.path ∈ used) → ∀ k, findR l x.path x.n.name = some k → (packAt l k).path ∈ used
  | [], used, _ => ⟨rfl, by simp⟩
  | x :: r, used, h => by
    rw [passGo] at h ⊢
    by_cases hc : (decide (x.path = []) || hasR used x.path) = true
    · rw [if_pos hc] at h ⊢
      rcases e : findR l x.path x.n.name with _ | k
      · rw [e] at h
        simp only at h ⊢
        obtain ⟨h1, h2⟩ := pass_false r used h
        refine ⟨h1, fun y hy hyp j hj => ?_⟩
        rcases List.mem_cons.1 hy with rfl | hy
        · rw [e] at hj; exact absurd hj (by simp)
        · exact h2 y hy hyp j hj
      · rw [e] at h
        simp only at h ⊢
        by_cases hu : hasR used (packAt l k).path = true
        · rw [if_pos hu] at h ⊢
          obtain ⟨h1, h2⟩ := pass_false r used h
          refine ⟨h1, fun y hy hyp j hj => ?_⟩
          rcases List.mem_cons.1 hy with rfl | hy
          · rw [e] at hj
            have : k = j := by simpa using hj
            subst this
            exact hasR_mem.1 hu
          · exact h2 y hy hyp j hj
        · rw [if_neg hu, pass_true] at h
          exact absurd h (by simp)
    · rw [if_neg hc] at h ⊢
      obtain ⟨h1, h2⟩ := pass_false r used h
      refine ⟨h1, fun y hy hyp j hj => ?_⟩
      rcases List.mem_cons.1 hy with rfl | hy
      · exfalso
        rw [Bool.or_eq_true] at hc
        rcases hyp with hyp | hyp
        · exact hc (.inl (decide_eq_true hyp))
        · exact hc (.inr (hasR_mem.2 hyp))
      · exact h2 y hy hyp j hj
theorem pass_grow {l : List PackD} : ∀ (w : List WhoD) (used : List Tx) (more : Bool), used.Nodup → (∀ p ∈ used, p ∈ l.map fun q => q.path) → (passGo l used more w).1.Nodup ∧ (∀ p ∈ (passGo l used more w).1, p ∈ l.map fun q => q.path) ∧ used.length ≤ (passGo l used more w).1.length ∧ ((passGo l used more w).2 = true → more = true ∨ used.length < (passGo l used more w).1.length)
  | [], used, more, h1, h2 => ⟨h1, h2, Nat.le_refl _, fun h => .inl h⟩
  | x :: r, used, more, h1, h2 => by
    rw [passGo]
    split
    · rcases e : findR l x.path x.n.name with _ | k
      · exact pass_grow r used more h1 h2
      · simp only
        by_cases hu : hasR used (packAt l k).path = true
        · rw [if_pos hu]; exact pass_grow r used more h1 h2
        · rw [if_neg hu]
          have hn : (packAt l k).path ∉ used := fun h => hu (hasR_mem.2 h)
          obtain ⟨h3, h4, h5, h6⟩ := pass_grow (l := l) r (used ++ [(packAt l k).path]) true (by
            rw [List.nodup_append]
            refine ⟨h1, by simp, fun a ha b hb => ?_⟩
            rw [List.mem_singleton.1 hb]
            exact fun e => hn (e ▸ ha)) (fun p hp => by
            rcases List.mem_append.1 hp with hp | hp
            · exact h2 p hp
            · rw [List.mem_singleton.1 hp]
              exact List.mem_map.2 ⟨_, (findR_some e).2.1, rfl⟩)
          simp only [List.length_append, List.length_singleton] at h5
          exact ⟨h3, h4, by omega, fun _ => .inr (by omega)⟩
    · exact pass_grow r used more h1 h2
theorem useGo_closed {l : List PackD} {who : List WhoD} : ∀ (f : Nat) (used : List Tx), used.Nodup → (∀ p ∈ used, p ∈ l.map fun q => q.path) → l.length < f + used.length → ∀ x ∈ who, (x.path = [] ∨ x.path ∈ useGo l who f used) → ∀ k, findR l x.path x.n.name = some k → (packAt l k).path ∈ useGo l who f used
  | 0, used, h1, h2, h3 => by
    have := nodup_len used (l.map fun q => q.path) h1 h2
    rw [List.length_map] at this
    omega
  | f + 1, used, h1, h2, h3 => by
    obtain ⟨g1, g2, g3, g4⟩ := pass_grow (l := l) who used false h1 h2
    rw [useGo]
    by_cases hm : (passGo l used false who).2 = true
    · rw [if_pos hm]
      rcases g4 hm with h | h
      · exact absurd h (by simp)
      · exact useGo_closed f _ g1 g2 (by omega)
    · rw [if_neg hm]
      obtain ⟨e, hcl⟩ := pass_false who used (by simpa using hm)
      rw [e]
      exact hcl
theorem useGo_used {st : List EntryD} {nd : List NeedD} {l : List PackD} : ∀ (f : Nat) (used : List Tx), (∀ p ∈ used, Used st nd l p) → ∀ p ∈ useGo l (allR st nd l) f used, Used st nd l p
  | 0, used, h => h
  | f + 1, used, h => by
    rw [useGo]
    have := pass_used (allR st nd l) used false (fun x hx => hx) h
    split
    · exact useGo_used f _ this
    · exact this
theorem inUseR_used (st : List EntryD) (nd : List NeedD) (l : List PackD) (p : Tx) : hasR (inUseR st nd l) p = true ↔ Used st nd l p := by
  rw [hasR_mem]
  unfold inUseR
  constructor
  · exact fun h => useGo_used _ [] (by simp) p h
  · intro h
    have hcl := useGo_closed (l := l) (who := allR st nd l) (l.length + 1) [] (by simp) (by simp) (by simp)
    exact used_ind (M := fun p => p ∈ useGo l (allR st nd l) (l.length + 1) []) (fun x k hx h0 e => hcl x hx (.inl h0) k e) (fun x k hx _ e ih => hcl x hx (.inr ih) k e) p h

/-! ### pruned -/
theorem pruned_spec (used : List Tx) : ∀ (l out : List PackD), (l.Pairwise fun p q => p.path ≠ q.path) → Rises (fun p => p.path) out → (∀ q ∈ out, ∀ p ∈ l, q.path ≠ p.path) → Rises (fun p => p.path) (prunedGo used out l) ∧ ∀ p, p ∈ prunedGo used out l ↔ p ∈ out ∨ (p ∈ l ∧ hasR used p.path = true)
  | [], out, _, hr, _ => ⟨hr, fun p => by rw [prunedGo]; simp⟩
  | x :: r, out, hl, hr, hn => by
    have hl' := List.pairwise_cons.1 hl
    rw [prunedGo]
    by_cases hu : hasR used x.path = true
    · rw [if_pos hu, placedR_ins]
      obtain ⟨h1, h2⟩ := pruned_spec used r (insG (fun q => q.path) x false out) hl'.2 (insG_rises _ _ _ hr fun y hy => hn y hy x (by simp)) (fun q hq p hp => by
        rcases (insX_mem _ _ _ _).1 hq with rfl | hq
        · exact hl'.1 p hp
        · exact hn q hq p (List.mem_cons_of_mem _ hp))
      refine ⟨h1, fun p => ?_⟩
      rw [h2, insX_mem, List.mem_cons]
      constructor
      · rintro ((rfl | h) | h)
        · exact .inr ⟨.inl rfl, hu⟩
        · exact .inl h
        · exact .inr ⟨.inr h.1, h.2⟩
      · rintro (h | ⟨rfl | h, h'⟩)
        · exact .inl (.inr h)
        · exact .inl (.inl rfl)
        · exact .inr ⟨h, h'⟩
    · rw [if_neg hu]
      obtain ⟨h1, h2⟩ := pruned_spec used r out hl'.2 hr fun q hq p hp => hn q hq p (List.mem_cons_of_mem _ hp)
      refine ⟨h1, fun p => ?_⟩
      rw [h2, List.mem_cons]
      constructor
      · rintro (h | h)
        · exact .inl h
        · exact .inr ⟨.inr h.1, h.2⟩
      · rintro (h | ⟨rfl | h, h'⟩)
        · exact .inl h
        · exact absurd h' hu
        · exact .inr ⟨h, h'⟩
theorem prunedR_mem {st : List EntryD} {nd : List NeedD} {l : List PackD} (hl : l.Pairwise fun p q => p.path ≠ q.path) : Rises (fun p => p.path) (prunedR st nd l) ∧ ∀ p, p ∈ prunedR st nd l ↔ p ∈ l ∧ Used st nd l p.path := by
  obtain ⟨h1, h2⟩ := pruned_spec (inUseR st nd l) l [] hl (Rises.nil _) (by simp)
  refine ⟨h1, fun p => ?_⟩
  unfold prunedR
  rw [h2, inUseR_used]
  simp

/-! ### the program's list -/
structure UI (st : List EntryD) (nd : List NeedD) (l : List PackD) (t : List PkX) (ndx : List NeedX) (v : Value) (used : List PkX) (list : List WhX) : Prop where
  rises : Rises (fun p => p.path) used
  sub : ∀ p ∈ used, p ∈ t
  us : ∀ p ∈ used, Used st nd l p.path
  who : ∀ x ∈ list, x = ⟨[], v, ndx⟩ ∨ ∃ p ∈ used, x = ⟨p.path, p.e.needs, p.e.nd⟩
  has : ∀ p ∈ used, (⟨p.path, p.e.needs, p.e.nd⟩ : WhX) ∈ list
  len : list.length = used.length + 1
theorem hasAt_mem {t used : List PkX} (ht : Rises (fun p => p.path) t) (hs : ∀ p ∈ used, p ∈ t) {p : PkX} (hp : p ∈ t) : hasAtP used p.path = true ↔ p ∈ used := by
  unfold hasAtP
  rw [List.any_eq_true]
  constructor
  · rintro ⟨q, hq, e⟩
    rw [← Rises.key_inj ht q (hs q hq) p hp (of_decide_eq_true e)]; exact hq
  · intro h
    exact ⟨p, h, decide_eq_true rfl⟩
theorem used_step {stx : List EntX} {st : List EntryD} {nd : List NeedD} {l : List PackD} {t : List PkX} {ndx : List NeedX} {v : Value} (ht : TreeSame stx l t) (path : Tx) : ∀ (r : List NeedX) (used : List PkX) (list : List WhX), UI st nd l t ndx v used list → (∀ n ∈ r, ∃ y ∈ allR st nd l, y.path = path ∧ NeedSame n y.n ∧ (path = [] ∨ Used st nd l path)) →
    UI st nd l t ndx v (usedGo t path used list r).1 (usedGo t path used list r).2 ∧ (∀ p ∈ used, p ∈ (usedGo t path used list r).1) ∧ (∃ e, (usedGo t path used list r).2 = list ++ e) ∧ ∀ n ∈ r, ∀ p, findP t n.name path = some p → p ∈ (usedGo t path used list r).1
  | [], used, list, h, _ => ⟨h, fun p hp => hp, ⟨[], by rw [usedGo]; simp⟩, by simp⟩
  | n :: r, used, list, h, hy => by
    have hr : ∀ n ∈ r, ∃ y ∈ allR st nd l, y.path = path ∧ NeedSame n y.n ∧ (path = [] ∨ Used st nd l path) := fun m hm => hy m (List.mem_cons_of_mem _ hm)
    obtain ⟨y, hya, hyp, hyn, hyu⟩ := hy n (by simp)
    have hfs := find_same ht (name := n.name) (by rw [hyn.name]; exact name_nosl hyn.isn) path.length path (Nat.le_refl _)
    rw [usedGo]
    rcases e : findP t n.name path with _ | p
    · simp only
      obtain ⟨h1, h2, h3, h4⟩ := used_step ht path r used list h hr
      refine ⟨h1, h2, h3, fun m hm q hq => ?_⟩
      rcases List.mem_cons.1 hm with rfl | hm
      · rw [e] at hq; exact absurd hq (by simp)
      · exact h4 m hm q hq
    · simp only
      rw [e] at hfs
      rcases ek : findR l path n.name with _ | k
      · rw [ek] at hfs; exact absurd hfs (by simp)
      rw [ek] at hfs
      have hpe : p = toX stx (packAt l k) := by simpa using hfs
      have hpt : p ∈ t := (ht.mem p).2 ⟨_, (findR_some ek).2.1, hpe.symm⟩
      have hpu : Used st nd l p.path := by
        rw [hpe]
        refine Used.step y k hya ?_ (by rw [hyp, ← hyn.name]; exact ek)
        rw [hyp]; exact hyu
      by_cases hh : hasAtP used p.path = true
      · rw [if_pos hh]
        have hin := (hasAt_mem ht.rises h.sub hpt).1 hh
        obtain ⟨h1, h2, h3, h4⟩ := used_step ht path r used list h hr
        refine ⟨h1, h2, h3, fun m hm q hq => ?_⟩
        rcases List.mem_cons.1 hm with rfl | hm
        · rw [e] at hq
          have : p = q := by simpa using hq
          subst this
          exact h2 p hin
        · exact h4 m hm q hq
      · rw [if_neg hh]
        have hnin : p ∉ used := fun hin => hh ((hasAt_mem ht.rises h.sub hpt).2 hin)
        have hmem : ∀ q, q ∈ withP used p ↔ q = p ∨ q ∈ used := insX_mem _ _ _
        have hui : UI st nd l t ndx v (withP used p) (list ++ [⟨p.path, p.e.needs, p.e.nd⟩]) := by
          refine ⟨insG_rises _ _ _ h.rises fun q hq e => hnin (by rw [← Rises.key_inj ht.rises q (h.sub q hq) p hpt e]; exact hq), fun q hq => ?_, fun q hq => ?_, fun x hx => ?_, fun q hq => ?_, ?_⟩
          · rcases (hmem q).1 hq with rfl | hq
            · exact hpt
            · exact h.sub q hq
          · rcases (hmem q).1 hq with rfl | hq
            · exact hpu
            · exact h.us q hq
          · rcases List.mem_append.1 hx with hx | hx
            · rcases h.who x hx with e | ⟨q, hq, e⟩
              · exact .inl e
              · exact .inr ⟨q, (hmem q).2 (.inr hq), e⟩
            · exact .inr ⟨p, (hmem p).2 (.inl rfl), List.mem_singleton.1 hx⟩
          · rcases (hmem q).1 hq with rfl | hq
            · exact List.mem_append_right _ (by simp)
            · exact List.mem_append_left _ (h.has q hq)
          · rw [withP, insX_len]
            simp [h.len]
        obtain ⟨h1, h2, ⟨ex, h3⟩, h4⟩ := used_step ht path r _ _ hui hr
        refine ⟨h1, fun q hq => h2 q ((hmem q).2 (.inr hq)), ⟨_, by rw [h3, List.append_assoc]⟩, fun m hm q hq => ?_⟩
        rcases List.mem_cons.1 hm with rfl | hm
        · rw [e] at hq
          have : p = q := by simpa using hq
          subst this
          exact h2 p ((hmem p).2 (.inl rfl))
        · exact h4 m hm q hq
theorem UI.le {st : List EntryD} {nd : List NeedD} {l : List PackD} {t : List PkX} {ndx : List NeedX} {v : Value} {used : List PkX} {list : List WhX} (h : UI st nd l t ndx v used list) : used.length ≤ t.length := by
  have hnd : (used.map fun p => p.path).Nodup := by
    unfold List.Nodup
    rw [List.pairwise_map]
    exact List.Pairwise.imp (fun h => less_ne h) h.rises
  have := nodup_len (used.map fun p => p.path) (t.map fun p => p.path) hnd fun x hx => by
    obtain ⟨p, hp, rfl⟩ := List.mem_map.1 hx
    exact List.mem_map.2 ⟨p, h.sub p hp, rfl⟩
  simpa using this
theorem allR_of_site {st : List EntryD} {nd : List NeedD} {l : List PackD} {d : NeedD} (h : d ∈ nd) : (⟨[], d⟩ : WhoD) ∈ allR st nd l := List.mem_append_left _ (List.mem_map.2 ⟨d, h, rfl⟩)
theorem allR_of_pack {st : List EntryD} {nd : List NeedD} {l : List PackD} {p : PackD} (hp : p ∈ l) {d : NeedD} (h : d ∈ needsOf st p.of) : (⟨p.path, d⟩ : WhoD) ∈ allR st nd l := List.mem_append_right _ (List.mem_flatMap.2 ⟨p, hp, List.mem_map.2 ⟨d, h, rfl⟩⟩)
theorem inUse_end {stx : List EntX} {st : List EntryD} {nd : List NeedD} {l : List PackD} {t : List PkX} {ndx : List NeedX} {v : Value} (hs : StockSame stx st) (hn : SiteNeeds ndx nd) (ht : TreeSame stx l t) : ∀ (f k : Nat) (used : List PkX) (list : List WhX), UI st nd l t ndx v used list → k ≤ list.length → t.length + 2 ≤ f + k → (⟨[], v, ndx⟩ : WhX) ∈ list → (∀ j (_ : j < k) (hl : j < list.length), ∀ n ∈ list[j].nd, ∀ p, findP t n.name list[j].path = some p → p ∈ used) →
    ∃ list', UI st nd l t ndx v (inUseGo t f k used list) list' ∧ (⟨[], v, ndx⟩ : WhX) ∈ list' ∧ ∀ x ∈ list', ∀ n ∈ x.nd, ∀ p, findP t n.name x.path = some p → p ∈ inUseGo t f k used list
  | 0, k, used, list, h, hk, hf, _, _ => by
    have h1 := h.len
    have h2 := h.le
    omega
  | f + 1, k, used, list, h, hk, hf, hsite, hcl => by
    rw [inUseGo]
    by_cases hlt : k < list.length
    · rw [List.getElem?_eq_getElem hlt]
      simp only
      have hx : ∀ n ∈ list[k].nd, ∃ y ∈ allR st nd l, y.path = list[k].path ∧ NeedSame n y.n ∧ (list[k].path = [] ∨ Used st nd l list[k].path) := by
        intro n hnx
        rcases h.who list[k] (List.getElem_mem _) with e | ⟨p, hp, e⟩
        · rw [e] at hnx ⊢
          obtain ⟨d, hd, hr⟩ := hn.all.meml n hnx
          exact ⟨⟨[], d⟩, allR_of_site hd, rfl, hr, .inl rfl⟩
        · rw [e] at hnx ⊢
          obtain ⟨p0, hp0, rfl⟩ := (ht.mem p).1 (h.sub p hp)
          obtain ⟨d, hd, hr⟩ := (needsOf_same hs (ht.of p0 hp0)).1.meml n hnx
          exact ⟨⟨p0.path, d⟩, allR_of_pack hp0 hd, rfl, hr, .inr (h.us _ hp)⟩
      obtain ⟨h1, h2, ⟨ex, h3⟩, h4⟩ := used_step ht list[k].path list[k].nd used list h hx
      refine inUse_end hs hn ht f (k + 1) _ _ h1 (by rw [h3]; simp; omega) (by omega) (by rw [h3]; exact List.mem_append_left _ hsite) ?_
      intro j hj hl n hnj p hp
      have ej : (usedGo t list[k].path used list list[k].nd).2[j] = list[j]'(by omega) := by
        have : ∀ (m : List WhX) (hm : m = list ++ ex) (hjm : j < m.length), m[j] = list[j]'(by omega) := by
          intro m hm hjm
          subst hm
          rw [List.getElem_append_left (by omega)]
        exact this _ h3 hl
      rw [ej] at hnj hp
      by_cases e : j = k
      · subst e
        exact h4 n hnj p hp
      · exact h2 p (hcl j (by omega) (by omega) n hnj p hp)
    · rw [List.getElem?_eq_none (by omega)]
      simp only
      refine ⟨list, h, hsite, fun x hx n hnx p hp => ?_⟩
      obtain ⟨j, hj, e⟩ := List.mem_iff_getElem.1 hx
      subst e
      exact hcl j (by omega) hj n hnx p hp
/-- Trees by rising paths: the one shows the other. -/
theorem TreeSame.of_map {stx : List EntX} {l m : List PackD} {t : List PkX} (h : TreeSame stx l t) (hm : Rises (fun p => p.path) m) (hs : ∀ p ∈ m, p ∈ l) : TreeSame stx m (m.map (toX stx)) := by
  refine ⟨fun q => ?_, List.Pairwise.imp (fun h => less_ne h) hm, ?_, by simp, fun p hp => h.of p (hs p hp), fun p hp => h.nm p (hs p hp), fun p hp => h.wf p (hs p hp)⟩
  · rw [List.mem_map]
  · unfold Rises
    rw [List.pairwise_map]
    exact hm
/-- What is in use is the same on both sides. -/
theorem inUse_same {stx : List EntX} {st : List EntryD} {nd : List NeedD} {l : List PackD} {t : List PkX} {ndx : List NeedX} (hs : StockSame stx st) (hn : SiteNeeds ndx nd) (ht : TreeSame stx l t) (v : Value) : inUseP t v ndx = (prunedR st nd l).map (toX stx) ∧ TreeSame stx (prunedR st nd l) (inUseP t v ndx) := by
  obtain ⟨hr, hm⟩ := prunedR_mem (st := st) (nd := nd) ht.nd
  have hts := ht.of_map hr fun p hp => ((hm p).1 hp).1
  have e : inUseP t v ndx = (prunedR st nd l).map (toX stx) := by
    obtain ⟨list', h1, h2, h3⟩ := inUse_end (v := v) hs hn ht (t.length + 2) 0 [] [⟨[], v, ndx⟩] ⟨Rises.nil _, by simp, by simp, by simp, by simp, rfl⟩ (by simp) (by omega) (by simp) (by simp)
    refine Rises.ext h1.rises hts.rises fun q => ?_
    rw [List.mem_map]
    constructor
    · intro hq
      obtain ⟨p, hp, rfl⟩ := (ht.mem q).1 (h1.sub q hq)
      exact ⟨p, (hm p).2 ⟨hp, h1.us _ hq⟩, rfl⟩
    · rintro ⟨p, hp, rfl⟩
      obtain ⟨hpl, hpu⟩ := (hm p).1 hp
      have main : ∀ path, Used st nd l path → ∀ p ∈ l, p.path = path → toX stx p ∈ inUseGo t (t.length + 2) 0 [] [⟨[], v, ndx⟩] := by
        refine used_ind ?_ ?_
        · intro x k hx h0 ek p hpl hpp
          have epk : p = packAt l k := path_inj ht.nd p hpl _ (findR_some ek).2.1 hpp
          rw [epk]
          rcases allR_mem hx with ⟨e1, hxn⟩ | ⟨p1, hp1, e1, hxn⟩
          · obtain ⟨n, hnn, hns⟩ := hn.all.mem _ hxn
            refine h3 _ h2 n hnn _ ?_
            simp only
            rw [hns.name, find_same ht (name_nosl hns.isn) _ [] (Nat.le_refl _), ← e1, ek]
            rfl
          · exact absurd h0 (by
              rw [e1, ht.wf p1 hp1]
              exact join_ne (name_ne (ht.nm p1 hp1)))
        · intro x k hx hxu ek ih p hpl hpp
          have epk : p = packAt l k := path_inj ht.nd p hpl _ (findR_some ek).2.1 hpp
          rw [epk]
          rcases allR_mem hx with ⟨e1, hxn⟩ | ⟨p1, hp1, e1, hxn⟩
          · obtain ⟨n, hnn, hns⟩ := hn.all.mem _ hxn
            refine h3 _ h2 n hnn _ ?_
            simp only
            rw [hns.name, find_same ht (name_nosl hns.isn) _ [] (Nat.le_refl _), ← e1, ek]
            rfl
          · obtain ⟨n, hnn, hns⟩ := (needsOf_same hs (ht.of p1 hp1)).1.mem _ hxn
            have hin := ih p1 hp1 e1.symm
            refine h3 _ (h1.has _ hin) n hnn _ ?_
            have e2 : (toX stx p1).path = x.path := e1.symm
            simp only
            rw [e2, hns.name, find_same ht (name_nosl hns.isn) _ x.path (Nat.le_refl _), ek]
            rfl
      exact main p.path hpu p hpl rfl
  exact ⟨e, by rw [e]; exact hts⟩

end Hst
end Go.Proofs.YtecocheolbkneaaDoor
