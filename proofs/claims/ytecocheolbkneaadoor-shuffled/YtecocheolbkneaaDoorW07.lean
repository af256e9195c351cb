/- Mlay, Mbuild -/
import Derived.Test.YtecocheolbkneaaDoorW06
namespace Go.Proofs.YtecocheolbkneaaDoor
namespace Hst

theorem allR_app (st : List EntryD) (nd : List NeedD) (l : List PackD) (p : PackD) : allR st nd (l ++ [p]) = allR st nd l ++ allR st [] [p] := by
  unfold allR
  simp
theorem allR_single (st : List EntryD) (p : PackD) : allR st [] [p] = (needsOf st p.of).map fun n => ⟨p.path, n⟩ := by
  unfold allR
  simp
theorem allR_mem {st : List EntryD} {nd : List NeedD} {l : List PackD} {x : WhoD} (h : x ∈ allR st nd l) : (x.path = [] ∧ x.n ∈ nd) ∨ ∃ p ∈ l, x.path = p.path ∧ x.n ∈ needsOf st p.of := by
  unfold allR at h
  rcases List.mem_append.1 h with h | h
  · obtain ⟨n, hn, rfl⟩ := List.mem_map.1 h
    exact .inl ⟨rfl, hn⟩
  · obtain ⟨p, hp, h⟩ := List.mem_flatMap.1 h
    obtain ⟨n, hn, rfl⟩ := List.mem_map.1 h
    exact .inr ⟨p, hp, rfl, hn⟩

/-- The needs of a site, on both sides. -/
structure SiteNeeds (ndx : List NeedX) (nd : List NeedD) : Prop where
  all : All2 NeedSame ndx nd
  two : nd.Pairwise fun a b => a.name ≠ b.name
/-- Where building stands. -/
structure Run (stx : List EntX) (st : List EntryD) (nd : List NeedD) (l : List PackD) (t : List PkX) (done rem : List WhoD) : Prop where
  ts : TreeSame stx l t
  all : allR st nd l = done ++ rem
  fold : ∀ p ∈ l, ∀ f ∈ foldersR p.path, f = [] ∨ ∃ b ∈ l, b.path = f
  pair : (allR st nd l).Pairwise fun a b => a.n.name = b.n.name → b.path ∉ foldersR a.path
  laid : ∀ p ∈ l, ∃ y ∈ done, folderP p.path ∈ foldersR y.path ∧ (stx.getD p.of zeroE).name = y.n.name
  met : ∀ y ∈ done, metR st l y = true
theorem needsOf_same {stx : List EntX} {st : List EntryD} (hs : StockSame stx st) {k : Nat} (hk : k < stx.length) : All2 NeedSame (stx.getD k zeroE).nd (needsOf st k) ∧ (needsOf st k).Pairwise fun a b => a.name ≠ b.name := ⟨(hs.at hk).nd, (hs.at hk).two⟩
theorem who_name {stx : List EntX} {st : List EntryD} {ndx : List NeedX} {nd : List NeedD} (hs : StockSame stx st) (hn : SiteNeeds ndx nd) {l : List PackD} (ho : ∀ p ∈ l, p.of < stx.length) {x : WhoD} (h : x ∈ allR st nd l) : isNameR x.n.name = true := by
  rcases allR_mem h with ⟨_, h⟩ | ⟨p, hp, _, h⟩
  · obtain ⟨_, _, hr⟩ := hn.all.mem _ h
    exact hr.isn
  · obtain ⟨_, _, hr⟩ := (needsOf_same hs (ho p hp)).1.mem _ h
    exact hr.isn
theorem Run.start {stx : List EntX} {st : List EntryD} {ndx : List NeedX} {nd : List NeedD} (hn : SiteNeeds ndx nd) : Run stx st nd [] [] [] (allR st nd []) := by
  refine ⟨TreeSame.nil stx, rfl, by simp, ?_, by simp, by simp⟩
  unfold allR
  simp only [List.flatMap_nil, List.append_nil]
  rw [List.pairwise_map]
  exact hn.two.imp fun h e => absurd e h

/-- A folder that will do. -/
def WillD (st : List EntryD) (l : List PackD) (x : WhoD) (k : Nat) (done : List WhoD) (f : Tx) : Prop :=
  atR l (joinR f x.n.name) = none ∧ findR (l ++ [⟨joinR f x.n.name, k⟩]) x.path x.n.name = some l.length ∧ allMetR st (l ++ [⟨joinR f x.n.name, k⟩]) done = true

/-- .. as a Boolean. -/
def WillB (st : List EntryD) (l : List PackD) (x : WhoD) (k : Nat) (done : List WhoD) (f : Tx) : Bool :=
  decide (atR l (joinR f x.n.name) = none ∧ findR (l ++ [⟨joinR f x.n.name, k⟩]) x.path x.n.name = some l.length ∧ allMetR st (l ++ [⟨joinR f x.n.name, k⟩]) done = true)
theorem willB_iff {st : List EntryD} {l : List PackD} {x : WhoD} {k : Nat} {done : List WhoD} {f : Tx} : WillB st l x k done f = true ↔ WillD st l x k done f := decide_eq_true_iff

theorem met_app {st : List EntryD} {l : List PackD} {q : PackD} {y : WhoD} (h : metR st l y = true) (hf : ∀ f ∈ foldersR y.path, joinR f y.n.name ≠ q.path) : metR st (l ++ [q]) y = true := by
  unfold metR at h ⊢
  rw [findR_app hf]
  rcases e : findR l y.path y.n.name with _ | k
  · rw [e] at h; exact absurd h (by simp)
  · rw [e] at h
    simp only at h ⊢
    rw [packAt_app_lt (findR_some e).1]
    exact h
/-- The path of who needs always will do. -/
theorem Run.own {stx : List EntX} {st : List EntryD} {ndx : List NeedX} {nd : List NeedD} {l : List PackD} {t : List PkX} {done rest : List WhoD} {x : WhoD} (hs : StockSame stx st) (hn : SiteNeeds ndx nd) (h : Run stx st nd l t done (x :: rest)) (k : Nat) : WillD st l x k done x.path := by
  have hxa : x ∈ allR st nd l := by rw [h.all]; simp
  have hxn := name_nosl (who_name hs hn h.ts.of hxa)
  have hp := h.pair
  rw [h.all, List.pairwise_append] at hp
  have hpx : ∀ y ∈ done, y.n.name = x.n.name → x.path ∉ foldersR y.path := fun y hy => hp.2.2 y hy x (by simp)
  have hat : atR l (joinR x.path x.n.name) = none := by
    refine atR_none.2 fun p hpl e => ?_
    obtain ⟨y, hy, h1, h2⟩ := h.laid p hpl
    have hw := h.ts.wf p hpl
    have e' := e
    rw [hw] at e'
    obtain ⟨e1, e2⟩ := join_inj (name_nosl (h.ts.nm p hpl)) hxn e'
    rw [e1] at h1
    exact hpx y hy (by rw [← h2, e2]) h1
  refine ⟨hat, ?_, ?_⟩
  · rw [findR_eq, atR_app, hat]
    simp
  · unfold allMetR
    rw [List.all_eq_true]
    intro y hy
    refine met_app (h.met y hy) fun f hf e => ?_
    have hya : y ∈ allR st nd l := by rw [h.all]; exact List.mem_append_left _ hy
    obtain ⟨e1, e2⟩ := join_inj (name_nosl (who_name hs hn h.ts.of hya)) hxn e
    subst e1
    exact hpx y hy e2 hf
/-- What was gone through is met: on to the next. -/
theorem Run.next {stx : List EntX} {st : List EntryD} {nd : List NeedD} {l : List PackD} {t : List PkX} {done rest : List WhoD} {x : WhoD} (h : Run stx st nd l t done (x :: rest)) (hm : metR st l x = true) : Run stx st nd l t (done ++ [x]) rest := by
  refine ⟨h.ts, by rw [h.all]; simp, h.fold, h.pair, fun p hp => ?_, fun y hy => ?_⟩
  · obtain ⟨y, hy, h1⟩ := h.laid p hp
    exact ⟨y, List.mem_append_left _ hy, h1⟩
  · rcases List.mem_append.1 hy with hy | hy
    · exact h.met y hy
    · rw [List.mem_singleton.1 hy]; exact hm
/-- Something is laid. -/
theorem Run.lay {stx : List EntX} {st : List EntryD} {ndx : List NeedX} {nd : List NeedD} {l : List PackD} {t : List PkX} {done rest : List WhoD} {x : WhoD} (hs : StockSame stx st) (hn : SiteNeeds ndx nd) (h : Run stx st nd l t done (x :: rest)) {k : Nat} (hk : k < stx.length) (hkn : (stx.getD k zeroE).name = x.n.name) (hkf : fitR x.n.rng (verOf st k) = true) {f : Tx} (hf : f ∈ foldersR x.path) (hw : WillD st l x k done f) :
    Run stx st nd (l ++ [⟨joinR f x.n.name, k⟩]) (withP t ⟨joinR f x.n.name, stx.getD k zeroE⟩) (done ++ [x]) (rest ++ allR st [] [⟨joinR f x.n.name, k⟩]) := by
  have hxa : x ∈ allR st nd l := by rw [h.all]; simp
  have hxi := who_name hs hn h.ts.of hxa
  have hxn := name_nosl hxi
  have hx0 := name_ne hxi
  have hts : TreeSame stx (l ++ [⟨joinR f x.n.name, k⟩]) (withP t ⟨joinR f x.n.name, stx.getD k zeroE⟩) := by
    rw [← hkn]
    exact h.ts.app hk (by rw [hkn]; exact hxi) (by rw [hkn]; exact hw.1)
  have hwhere : ∀ y ∈ allR st nd l, ∀ g ∈ foldersR y.path, g = [] ∨ ∃ b ∈ l, b.path = g := fun y hy g hg => by
    rcases allR_mem hy with ⟨e, _⟩ | ⟨p, hp, e, _⟩
    · rw [e, foldersR_nil] at hg
      exact .inl (List.mem_singleton.1 hg)
    · rw [e] at hg
      exact h.fold p hp g hg
  refine ⟨hts, by rw [allR_app, h.all]; simp, fun p hp g hg => ?_, ?_, fun p hp => ?_, fun y hy => ?_⟩
  · rcases List.mem_append.1 hp with hp | hp
    · rcases h.fold p hp g hg with e | ⟨b, hb, e⟩
      · exact .inl e
      · exact .inr ⟨b, List.mem_append_left _ hb, e⟩
    · rw [List.mem_singleton.1 hp] at hg
      simp only at hg
      rw [folders_join hxn hx0] at hg
      rcases List.mem_cons.1 hg with e | hg
      · exact .inr ⟨_, List.mem_append_right _ (List.mem_singleton.2 rfl), e.symm⟩
      · rcases hwhere x hxa g (folders_trans _ _ _ _ (Nat.le_refl _) hf hg) with e | ⟨b, hb, e⟩
        · exact .inl e
        · exact .inr ⟨b, List.mem_append_left _ hb, e⟩
  · rw [allR_app, List.pairwise_append]
    refine ⟨h.pair, ?_, fun a ha b hb => ?_⟩
    · rw [allR_single, List.pairwise_map]
      exact (needsOf_same hs hk).2.imp fun h e => absurd e h
    · intro _ hc
      rw [allR_single] at hb
      obtain ⟨n, _, rfl⟩ := List.mem_map.1 hb
      simp only at hc
      rcases hwhere a ha _ hc with e | ⟨b, hb, e⟩
      · exact join_ne hx0 e
      · exact atR_none.1 hw.1 b hb e
  · rcases List.mem_append.1 hp with hp | hp
    · obtain ⟨y, hy, h1⟩ := h.laid p hp
      exact ⟨y, List.mem_append_left _ hy, h1⟩
    · rw [List.mem_singleton.1 hp]
      exact ⟨x, by simp, by simp only; rw [folder_join hxn]; exact hf, hkn⟩
  · rcases List.mem_append.1 hy with hy | hy
    · have := hw.2.2
      unfold allMetR at this
      exact List.all_eq_true.1 this y hy
    · rw [List.mem_singleton.1 hy]
      unfold metR
      rw [hw.2.1]
      simp only
      rw [packAt_app_eq]
      exact hkf

/-! ### which folder -/
/-- The last of some folders that will do. -/
def pickF (W : Tx → Bool) : Tx → List Tx → Tx
  | b, [] => b
  | b, f :: r => pickF W (if W f = true then f else b) r
theorem pickF_none (W : Tx → Bool) : ∀ (fs : List Tx) (b : Tx), (∀ f ∈ fs, ¬ W f = true) → pickF W b fs = b
  | [], _, _ => rfl
  | f :: r, b, h => by
    rw [pickF, if_neg (h f (by simp))]
    exact pickF_none W r b fun g hg => h g (List.mem_cons_of_mem _ hg)
theorem pickF_some (W : Tx → Bool) : ∀ (fs : List Tx) (b : Tx), (∃ f ∈ fs, W f = true) → pickF W b fs ∈ fs ∧ W (pickF W b fs) = true ∧ ∀ c, pickF W c fs = pickF W b fs
  | [], _, h => by simp at h
  | f :: r, b, h => by
    rw [pickF]
    by_cases h' : ∃ g ∈ r, W g = true
    · obtain ⟨h1, h2, h3⟩ := pickF_some W r (if W f = true then f else b) h'
      exact ⟨List.mem_cons_of_mem _ h1, h2, fun c => by rw [pickF]; exact h3 _⟩
    · have hno : ∀ g ∈ r, ¬ W g = true := fun g hg hw => h' ⟨g, hg, hw⟩
      have hf : W f = true := by
        obtain ⟨g, hg, hw⟩ := h
        rcases List.mem_cons.1 hg with rfl | hg
        · exact hw
        · exact absurd hw (hno g hg)
      rw [if_pos hf, pickF_none W r f hno]
      refine ⟨by simp, hf, fun c => ?_⟩
      rw [pickF, if_pos hf, pickF_none W r f hno]
theorem layGo_cons (st : List EntryD) (l : List PackD) (x : WhoD) (k : Nat) (done : List WhoD) (f : Tx) (r : List Tx) : layGo st l x k done (f :: r) = if WillB st l x k done f = true then l ++ [⟨joinR f x.n.name, k⟩] else layGo st l x k done r := by
  rw [layGo]
  by_cases h : WillD st l x k done f
  · rw [if_pos (willB_iff.2 h)]
    unfold WillD at h
    rw [if_pos h]
  · rw [if_neg fun hb => h (willB_iff.1 hb)]
    unfold WillD at h
    rw [if_neg h]
theorem layGo_app (st : List EntryD) (l : List PackD) (x : WhoD) (k : Nat) (done : List WhoD) (g : Tx) : ∀ fs : List Tx, ((∃ f ∈ fs, WillB st l x k done f = true) → layGo st l x k done (fs ++ [g]) = layGo st l x k done fs) ∧ ((∀ f ∈ fs, ¬ WillB st l x k done f = true) → layGo st l x k done (fs ++ [g]) = layGo st l x k done [g])
  | [] => by simp
  | f :: r => by
    obtain ⟨h1, h2⟩ := layGo_app st l x k done g r
    rw [List.cons_append, layGo_cons, layGo_cons]
    by_cases hw : WillB st l x k done f = true
    · rw [if_pos hw, if_pos hw]
      exact ⟨fun _ => rfl, fun h => absurd hw (h f (by simp))⟩
    · rw [if_neg hw, if_neg hw]
      refine ⟨fun h => ?_, fun h => h2 fun q hq => h q (List.mem_cons_of_mem _ hq)⟩
      obtain ⟨q, hq, hwq⟩ := h
      rcases List.mem_cons.1 hq with rfl | hq
      · exact absurd hwq hw
      · exact h1 ⟨q, hq, hwq⟩
theorem layGo_pick (st : List EntryD) (l : List PackD) (x : WhoD) (k : Nat) (done : List WhoD) : ∀ (fs : List Tx) (b : Tx), (∃ f ∈ fs, WillB st l x k done f = true) → layGo st l x k done fs.reverse = l ++ [⟨joinR (pickF (WillB st l x k done) b fs) x.n.name, k⟩]
  | [], _, h => by simp at h
  | f :: r, b, h => by
    rw [List.reverse_cons, pickF]
    obtain ⟨h1, h2⟩ := layGo_app st l x k done f r.reverse
    by_cases h' : ∃ g ∈ r, WillB st l x k done g = true
    · obtain ⟨g, hg, hw⟩ := h'
      rw [h1 ⟨g, by simpa using hg, hw⟩]
      exact layGo_pick st l x k done r _ ⟨g, hg, hw⟩
    · have hno : ∀ g ∈ r, ¬ WillB st l x k done g = true := fun g hg hw => h' ⟨g, hg, hw⟩
      have hf : WillB st l x k done f = true := by
        obtain ⟨g, hg, hw⟩ := h
        rcases List.mem_cons.1 hg with rfl | hg
        · exact hw
        · exact absurd hw (hno g hg)
      rw [h2 fun g hg => hno g (by simpa using hg), layGo_cons, if_pos hf, if_pos hf, pickF_none _ r f hno]
/-- lay, where the path of who needs will do. -/
theorem layR_pick {st : List EntryD} {l : List PackD} {x : WhoD} {k : Nat} {done : List WhoD} (h : WillD st l x k done x.path) : layR st l x k done = l ++ [⟨joinR (pickF (WillB st l x k done) x.path (foldersR x.path)) x.n.name, k⟩] := layGo_pick st l x k done _ _ ⟨_, folders_self _, willB_iff.2 h⟩

/-- What was gone through, on both sides. -/
def GoneSame (a : AsX) (y : WhoD) : Prop := a.path = y.path ∧ NeedSame a.n y.n
theorem allMet_same {stx : List EntX} {st : List EntryD} {l : List PackD} {t : List PkX} (hs : StockSame stx st) (ht : TreeSame stx l t) : ∀ {gone : List AsX} {done : List WhoD}, All2 GoneSame gone done → (gone.all fun a => meetsP t a.path a.n) = allMetR st l done
  | [], [], _ => rfl
  | a :: gone, y :: done, h => by
    have ih := allMet_same hs ht h.2
    unfold allMetR at ih ⊢
    rw [List.all_cons, List.all_cons, ih, h.1.1, met_same hs ht h.1.2]
  | [], _ :: _, h => False.elim h
  | _ :: _, [], h => False.elim h
theorem willDo_same {stx : List EntX} {st : List EntryD} {l : List PackD} {t : List PkX} {gone : List AsX} {done : List WhoD} (hs : StockSame stx st) (ht : TreeSame stx l t) (hg : All2 GoneSame gone done) {x : WhoD} (hx : isNameR x.n.name = true) {k : Nat} (hk : k < stx.length) (hkn : (stx.getD k zeroE).name = x.n.name) (f : Tx) :
    willDoP t gone x.path ⟨joinR f (stx.getD k zeroE).name, stx.getD k zeroE⟩ = true ↔ WillD st l x k done f := by
  unfold willDoP WillD
  rw [hasAt_same ht, ← hkn]
  rcases e : atR l (joinR f (stx.getD k zeroE).name) with _ | j
  · have ht' := ht.app hk (by rw [hkn]; exact hx) e
    have hfs := find_same ht' (name := (stx.getD k zeroE).name) (name_nosl (by rw [hkn]; exact hx)) x.path.length x.path (Nat.le_refl _)
    simp only [Option.isSome_none, Bool.not_false, Bool.true_and, true_and]
    rcases e2 : findR (l ++ [⟨joinR f (stx.getD k zeroE).name, k⟩]) x.path (stx.getD k zeroE).name with _ | j
    · rw [hfs, e2]
      exact ⟨fun h => absurd h (by simp), fun h => absurd h.1 (by simp)⟩
    · rw [hfs, e2]
      obtain ⟨h1, h2, _⟩ := findR_some e2
      simp only [Option.map_some, Bool.and_eq_true]
      rw [allMet_same hs ht' hg]
      have key : decide ((toX stx (packAt (l ++ [⟨joinR f (stx.getD k zeroE).name, k⟩]) j)).path = joinR f (stx.getD k zeroE).name) = true ↔ some j = some l.length := by
        rw [decide_eq_true_eq]
        by_cases hj : j = l.length
        · subst hj
          rw [packAt_app_eq]
          exact ⟨fun _ => rfl, fun _ => rfl⟩
        · have hjl : j < l.length := by simp at h1; omega
          rw [packAt_app_lt hjl] at h2 ⊢
          constructor
          · intro e3
            have hin : packAt l j ∈ l := by
              unfold packAt
              rw [List.getD_eq_getElem?_getD, List.getElem?_eq_getElem hjl]
              exact List.getElem_mem _
            exact absurd e3 (atR_none.1 e _ hin)
          · intro e3
            exact absurd (by simpa using e3) hj
      rw [key]
  · simp

theorem placeGo_pick {stx : List EntX} {st : List EntryD} {l : List PackD} {t : List PkX} {gone : List AsX} {done : List WhoD} (hs : StockSame stx st) (ht : TreeSame stx l t) (hg : All2 GoneSame gone done) {x : WhoD} (hx : isNameR x.n.name = true) {k : Nat} (hk : k < stx.length) (hkn : (stx.getD k zeroE).name = x.n.name) :
    ∀ (n : Nat) (folder b : Tx), folder.length ≤ n → placeGo t gone x.path (stx.getD k zeroE) folder ⟨joinR b (stx.getD k zeroE).name, stx.getD k zeroE⟩ = ⟨joinR (pickF (WillB st l x k done) b (foldersR folder).tail) (stx.getD k zeroE).name, stx.getD k zeroE⟩
  | n, folder, b, hn => by
    rw [placeGo_eq]
    by_cases h0 : folder = []
    · subst h0
      rw [dif_pos rfl, foldersR_nil]
      rfl
    · rw [dif_neg h0, foldersR_cons folder h0, List.tail_cons]
      have hl := folderP_lt h0
      have hfs : foldersR (folderP folder) = folderP folder :: (foldersR (folderP folder)).tail := by
        by_cases h1 : folderP folder = []
        · rw [h1, foldersR_nil]; rfl
        · rw [foldersR_cons _ h1]; rfl
      rw [hfs, pickF]
      have hb : (if willDoP t gone x.path ⟨joinR (folderP folder) (stx.getD k zeroE).name, stx.getD k zeroE⟩ = true then (⟨joinR (folderP folder) (stx.getD k zeroE).name, stx.getD k zeroE⟩ : PkX) else ⟨joinR b (stx.getD k zeroE).name, stx.getD k zeroE⟩) = ⟨joinR (if WillB st l x k done (folderP folder) = true then folderP folder else b) (stx.getD k zeroE).name, stx.getD k zeroE⟩ := by
        by_cases hw : WillD st l x k done (folderP folder)
        · rw [if_pos (willB_iff.2 hw), if_pos ((willDo_same hs ht hg hx hk hkn _).2 hw)]
        · rw [if_neg fun h => hw (willB_iff.1 h), if_neg fun h => hw ((willDo_same hs ht hg hx hk hkn _).1 h)]
      rw [hb]
      match n with
      | 0 => omega
      | n + 1 => exact placeGo_pick hs ht hg hx hk hkn n (folderP folder) _ (by omega)
/-- The program lays where the document does. -/
theorem place_same {stx : List EntX} {st : List EntryD} {l : List PackD} {t : List PkX} {gone : List AsX} {done : List WhoD} (hs : StockSame stx st) (ht : TreeSame stx l t) (hg : All2 GoneSame gone done) {x : WhoD} (hx : isNameR x.n.name = true) {k : Nat} (hk : k < stx.length) (hkn : (stx.getD k zeroE).name = x.n.name) (hw : WillD st l x k done x.path) :
    placeP t gone x.path (stx.getD k zeroE) = ⟨joinR (pickF (WillB st l x k done) x.path (foldersR x.path)) x.n.name, stx.getD k zeroE⟩ := by
  unfold placeP
  rw [placeGo_pick hs ht hg hx hk hkn x.path.length x.path x.path (Nat.le_refl _), ← hkn]
  have hfs : foldersR x.path = x.path :: (foldersR x.path).tail := by
    by_cases h1 : x.path = []
    · rw [h1, foldersR_nil]; rfl
    · rw [foldersR_cons _ h1]; rfl
  rw [hfs, pickF, if_pos (willB_iff.2 hw)]
  rfl

end Hst
end Go.Proofs.YtecocheolbkneaaDoor
namespace Go.Proofs.YtecocheolbkneaaDoor
namespace Hst

theorem who_need {stx : List EntX} {st : List EntryD} {ndx : List NeedX} {nd : List NeedD} (hs : StockSame stx st) (hn : SiteNeeds ndx nd) {l : List PackD} (ho : ∀ p ∈ l, p.of < stx.length) {x : WhoD} (h : x ∈ allR st nd l) : ∃ n, NeedSame n x.n := by
  rcases allR_mem h with ⟨_, h⟩ | ⟨p, hp, _, h⟩
  · obtain ⟨n, _, hr⟩ := hn.all.mem _ h
    exact ⟨n, hr⟩
  · obtain ⟨n, _, hr⟩ := (needsOf_same hs (ho p hp)).1.mem _ h
    exact ⟨n, hr⟩
theorem drop_last {α : Type} (l : List α) (p : α) : (l ++ [p]).drop ((l ++ [p]).length - 1) = [p] := by simp
theorem run_inv {stx : List EntX} {st : List EntryD} {ndx : List NeedX} {nd : List NeedD} {tree : List PackD} {fav : List PkX} (hs : StockSame stx st) (hn : SiteNeeds ndx nd) (hf : TreeSame stx tree fav) : ∀ (i : Nat) (q : List PackD × List WhoD × List WhoD), runD st tree nd i = some q → q.2.2 = allR st nd q.1 ∧ i ≤ q.2.2.length ∧ ∃ t, Run stx st nd q.1 t q.2.1 (q.2.2.drop i)
  | 0, q, h => by
    rw [runD] at h
    have e := Option.some.inj h
    subst e
    exact ⟨rfl, by simp, [], Run.start hn⟩
  | i + 1, q, h => by
    rw [runD] at h
    rcases e0 : runD st tree nd i with _ | q0
    · rw [e0] at h; exact absurd h (by simp)
    · rw [e0] at h
      simp only at h
      obtain ⟨h1, h2, t, hr⟩ := run_inv hs hn hf i q0 e0
      rcases ex : q0.2.2[i]? with _ | x
      · rw [ex] at h; exact absurd h (by simp)
      · rw [ex] at h
        simp only at h
        obtain ⟨hi, ex'⟩ := List.getElem?_eq_some_iff.1 ex
        rw [List.drop_eq_getElem_cons hi, ex'] at hr
        have hxa : x ∈ allR st nd q0.1 := by rw [← h1, ← ex']; exact List.getElem_mem _
        unfold stepD at h
        by_cases hm : metR st q0.1 x = true
        · rw [if_pos hm] at h
          simp only [if_true] at h
          have e := Option.some.inj h
          subst e
          exact ⟨h1, by simp only; omega, t, hr.next hm⟩
        · rw [if_neg hm] at h
          obtain ⟨n, hnx⟩ := who_need hs hn hr.ts.of hxa
          rcases choose_same hs hf hnx with ⟨c1, _⟩ | ⟨k, c1, hk, _, _, ck, cf⟩
          · rw [c1] at h; simp at h
          · rw [c1] at h
            simp only at h
            by_cases h40 : 40 ≤ q0.1.length
            · rw [if_pos h40] at h; simp at h
            · rw [if_neg h40] at h
              simp only [if_true] at h
              have e := Option.some.inj h
              subst e
              have hw := hr.own hs hn k
              have hp := pickF_some (WillB st q0.1 x k q0.2.1) (foldersR x.path) x.path ⟨_, folders_self _, willB_iff.2 hw⟩
              have hkn : (stx.getD k zeroE).name = x.n.name := by rw [(hs.at hk).name]; exact ck
              simp only
              rw [layR_pick hw, drop_last]
              refine ⟨by rw [allR_app, h1], by simp; omega, withP t ⟨joinR (pickF (WillB st q0.1 x k q0.2.1) x.path (foldersR x.path)) x.n.name, stx.getD k zeroE⟩, ?_⟩
              rw [List.drop_append_of_le_length (by omega)]
              exact hr.lay hs hn hk hkn cf hp.1 (willB_iff.1 hp.2.1)
theorem lays_well {stx : List EntX} {st : List EntryD} {ndx : List NeedX} {nd : List NeedD} {tree : List PackD} {fav : List PkX} (hs : StockSame stx st) (hn : SiteNeeds ndx nd) (hf : TreeSame stx tree fav) : LaysWell st tree nd := by
  intro i q x k h hx _ _ _
  obtain ⟨_, _, t, hr⟩ := run_inv hs hn hf i q h
  obtain ⟨hi, ex'⟩ := List.getElem?_eq_some_iff.1 hx
  rw [List.drop_eq_getElem_cons hi, ex'] at hr
  rw [layR_pick (hr.own hs hn k)]
  simp

/-! ### the program's building -/
def asOf (x : WhX) : List AsX := x.nd.map fun n => ⟨x.path, n⟩
theorem asOf_same {stx : List EntX} {st : List EntryD} (hs : StockSame stx st) {k : Nat} (hk : k < stx.length) (path : Tx) : All2 GoneSame (asOf ⟨path, (stx.getD k zeroE).needs, (stx.getD k zeroE).nd⟩) (allR st [] [⟨path, k⟩]) := by
  rw [allR_single]
  unfold asOf
  have go : ∀ {a : List NeedX} {b : List NeedD}, All2 NeedSame a b → All2 GoneSame (a.map fun n => ⟨path, n⟩) (b.map fun n => ⟨path, n⟩) := by
    intro a
    induction a with
    | nil => intro b h; cases b with
      | nil => trivial
      | cons _ _ => exact False.elim h
    | cons x a ih => intro b h; cases b with
      | nil => exact False.elim h
      | cons y b => exact ⟨⟨rfl, h.1⟩, ih h.2⟩
  exact go (needsOf_same hs hk).1
theorem All2.cons_left {α β : Type} {R : α → β → Prop} {a : α} {x : List α} {y : List β} (h : All2 R (a :: x) y) : ∃ b r, y = b :: r ∧ R a b ∧ All2 R x r := by
  cases y with
  | nil => exact False.elim h
  | cons b r => exact ⟨b, r, rfl, h.1, h.2⟩
theorem All2.nil_left {α β : Type} {R : α → β → Prop} {y : List β} (h : All2 R ([] : List α) y) : y = [] := by
  cases y with
  | nil => rfl
  | cons b r => exact False.elim h

/-- How the two sides stand to each other: what the program still has ahead is ras. -/
structure Sim (stx : List EntX) (st : List EntryD) (nd : List NeedD) (k : WorkX) (l : List PackD) (done rem : List WhoD) (ras : List AsX) (f : Nat) : Prop where
  run : Run stx st nd l k.tree done rem
  gone : All2 GoneSame k.gone done
  ahead : All2 GoneSame ras rem
  len : k.list.length = l.length + 1
  l40 : l.length ≤ 40
  fuel : rem.length + 6 * (40 - l.length) < f
theorem work_same {stx : List EntX} {st : List EntryD} {ndx : List NeedX} {nd : List NeedD} {tree : List PackD} {fav : List PkX} (hs : StockSame stx st) (hn : SiteNeeds ndx nd) (hf : TreeSame stx tree fav) (h6 : ∀ k, k < stx.length → (needsOf st k).length ≤ 6) (path : Tx) (a : Nat) :
    ∀ (r : List NeedX) (k : WorkX) (l : List PackD) (done rem : List WhoD) (f : Nat), a ≤ k.list.length → Sim stx st nd k l done rem ((r.map fun n => (⟨path, n⟩ : AsX)) ++ (k.list.drop a).flatMap asOf) f →
    (¬ (workGo stx fav path k r).2 = 0 ∧ buildGo st tree f l done rem = (none, (workGo stx fav path k r).2)) ∨
    ((workGo stx fav path k r).2 = 0 ∧ a ≤ (workGo stx fav path k r).1.list.length ∧ ∃ l' done' rem' f', buildGo st tree f l done rem = buildGo st tree f' l' done' rem' ∧ Sim stx st nd (workGo stx fav path k r).1 l' done' rem' (((workGo stx fav path k r).1.list.drop a).flatMap asOf) f')
  | [], k, l, done, rem, f, ha, h => by
    rw [workGo]
    exact .inr ⟨rfl, ha, l, done, rem, f, rfl, h⟩
  | n :: r, k, l, done, rem, f, ha, h => by
    obtain ⟨x, rest, rfl, hx, hrest⟩ := All2.cons_left h.ahead
    have hfuel := h.fuel
    match f, hfuel with
    | 0, hfuel => omega
    | f + 1, hfuel =>
    simp only [List.length_cons] at hfuel
    have hxp : path = x.path := hx.1
    have hxn : NeedSame n x.n := hx.2
    have hmet : meetsP k.tree path n = metR st l x := by rw [hxp]; exact met_same hs h.run.ts hxn x.path
    have hl40 := h.l40
    rw [workGo, buildGo, hmet]
    by_cases hm : metR st l x = true
    · rw [if_pos hm, if_pos hm]
      exact work_same hs hn hf h6 path a r ⟨k.tree, k.list, k.gone ++ [⟨path, n⟩]⟩ l (done ++ [x]) rest f ha ⟨h.run.next hm, h.gone.app ⟨hx, trivial⟩, hrest, h.len, h.l40, by omega⟩
    · rw [if_neg hm, if_neg hm]
      have hlen : k.tree.length = l.length := h.run.ts.len
      rcases choose_same hs hf hxn with ⟨c1, c2⟩ | ⟨j, c1, hj, c2, c3, ck, cf⟩
      · have e : layP stx fav k path n = (k, 8) := by unfold layP; rw [if_pos c2]
        rw [e, c1]
        exact .inl ⟨by simp, by simp⟩
      · rw [c1]
        simp only
        by_cases h40 : 40 ≤ l.length
        · have e : layP stx fav k path n = (k, 9) := by unfold layP; rw [if_neg (by rw [c2]; simp), if_pos (by omega)]
          rw [e, if_pos h40]
          exact .inl ⟨by simp, by simp⟩
        · have hkn : (stx.getD j zeroE).name = x.n.name := by rw [(hs.at hj).name]; exact ck
          have hw := h.run.own hs hn j
          have hp := pickF_some (WillB st l x j done) (foldersR x.path) x.path ⟨_, folders_self _, willB_iff.2 hw⟩
          have hxa : x ∈ allR st nd l := by rw [h.run.all]; simp
          have hpl := place_same hs h.run.ts h.gone (who_name hs hn h.run.ts.of hxa) hj hkn hw
          have e : layP stx fav k path n = (⟨withP k.tree ⟨joinR (pickF (WillB st l x j done) x.path (foldersR x.path)) x.n.name, stx.getD j zeroE⟩, k.list ++ [⟨joinR (pickF (WillB st l x j done) x.path (foldersR x.path)) x.n.name, (stx.getD j zeroE).needs, (stx.getD j zeroE).nd⟩], k.gone⟩, 0) := by
            unfold layP
            rw [if_neg (by rw [c2]; simp), if_neg (by omega), c3, hxp, hpl]
          rw [e, if_neg h40]
          simp only [if_true]
          rw [layR_pick hw, drop_last]
          have h6j := h6 j hj
          refine work_same hs hn hf h6 path a r _ _ _ _ f (by simp; omega) ⟨h.run.lay hs hn hj hkn cf hp.1 (willB_iff.1 hp.2.1), h.gone.app ⟨hx, trivial⟩, ?_, by simp [h.len], by simp; omega, ?_⟩
          · simp only
            rw [List.drop_append_of_le_length (by omega), List.flatMap_append, ← List.append_assoc]
            refine hrest.app ?_
            simp only [List.flatMap_cons, List.flatMap_nil, List.append_nil]
            exact asOf_same hs hj _
          · rw [allR_single]
            simp only [List.length_append, List.length_map, List.length_singleton]
            omega
/-- Building comes to the same. -/
theorem buildGo_same {stx : List EntX} {st : List EntryD} {ndx : List NeedX} {nd : List NeedD} {tree : List PackD} {fav : List PkX} (hs : StockSame stx st) (hn : SiteNeeds ndx nd) (hf : TreeSame stx tree fav) (h6 : ∀ k, k < stx.length → (needsOf st k).length ≤ 6) :
    ∀ (F i : Nat) (k : WorkX) (l : List PackD) (done rem : List WhoD) (f : Nat), 43 ≤ F + i → i ≤ k.list.length → Sim stx st nd k l done rem ((k.list.drop i).flatMap asOf) f →
    (¬ (buildGoP stx fav F i k).2 = 0 ∧ buildGo st tree f l done rem = (none, (buildGoP stx fav F i k).2)) ∨
    ((buildGoP stx fav F i k).2 = 0 ∧ ∃ l' done', buildGo st tree f l done rem = (some l', 0) ∧ l'.length ≤ 40 ∧ Run stx st nd l' (buildGoP stx fav F i k).1.tree done' [])
  | 0, i, k, l, done, rem, f, hF, hi, h => by
    have h1 := h.len
    have h2 := h.l40
    omega
  | F + 1, i, k, l, done, rem, f, hF, hi, h => by
    rw [buildGoP]
    by_cases hlt : i < k.list.length
    · rw [List.getElem?_eq_getElem hlt]
      simp only
      have hd := List.drop_eq_getElem_cons hlt
      rw [hd, List.flatMap_cons] at h
      rcases work_same hs hn hf h6 k.list[i].path (i + 1) k.list[i].nd k l done rem f (by omega) h with ⟨h1, h2⟩ | ⟨h1, h2, l', done', rem', f', e, h3⟩
      · rw [if_neg h1]
        exact .inl ⟨h1, h2⟩
      · rw [if_pos h1, e]
        exact buildGo_same hs hn hf h6 F (i + 1) _ l' done' rem' f' (by omega) h2 h3
    · rw [List.getElem?_eq_none (by omega)]
      rw [List.drop_of_length_le (by omega), List.flatMap_nil] at h
      have er := All2.nil_left h.ahead
      subst er
      have hfuel := h.fuel
      match f, hfuel with
      | 0, hfuel => omega
      | f + 1, _ =>
      exact .inr ⟨rfl, l, done, rfl, h.l40, h.run⟩
theorem buildP_same {stx : List EntX} {st : List EntryD} {ndx : List NeedX} {nd : List NeedD} {tree : List PackD} {fav : List PkX} (hs : StockSame stx st) (hn : SiteNeeds ndx nd) (hn6 : nd.length ≤ 6) (hf : TreeSame stx tree fav) (h6 : ∀ k, k < stx.length → (needsOf st k).length ≤ 6) (v : Value) :
    (¬ (buildGoP stx fav 60 0 ⟨[], [⟨[], v, ndx⟩], []⟩).2 = 0 ∧ buildGo st tree 1000 [] [] (allR st nd []) = (none, (buildGoP stx fav 60 0 ⟨[], [⟨[], v, ndx⟩], []⟩).2)) ∨
    ((buildGoP stx fav 60 0 ⟨[], [⟨[], v, ndx⟩], []⟩).2 = 0 ∧ ∃ l' done', buildGo st tree 1000 [] [] (allR st nd []) = (some l', 0) ∧ l'.length ≤ 40 ∧ Run stx st nd l' (buildGoP stx fav 60 0 ⟨[], [⟨[], v, ndx⟩], []⟩).1.tree done' []) := by
  refine buildGo_same hs hn hf h6 60 0 _ [] [] _ 1000 (by omega) (by simp) ⟨Run.start hn, trivial, ?_, rfl, by simp, ?_⟩
  · have go : ∀ {a : List NeedX} {b : List NeedD}, All2 NeedSame a b → All2 GoneSame (a.map fun n => ⟨[], n⟩) (b.map fun n => ⟨[], n⟩) := by
      intro a
      induction a with
      | nil => intro b h; cases b with
        | nil => trivial
        | cons _ _ => exact False.elim h
      | cons x a ih => intro b h; cases b with
        | nil => exact False.elim h
        | cons y b => exact ⟨⟨rfl, h.1⟩, ih h.2⟩
    have := go hn.all
    unfold allR asOf
    simpa using this
  · unfold allR
    simp
    omega

end Hst
end Go.Proofs.YtecocheolbkneaaDoor
