/- Kflatb, Kwellb, Kflatc, Itoa, Kname -/
import Derived.Test.YtecocheolbkneaaDoorW11
import Derived.Test.YtecocheolbkneaaDoorW10
import Derived.Test.YtecocheolbkneaaDoorW01
import Derived.ShutString
import Derived.Test.YtecocheolbkneaaDoorW02
import Derived.Deep.RegionHeld3
namespace Go.Proofs.YtecocheolbkneaaDoor
namespace Hst
set_option maxRecDepth 100000

theorem star_fits (v : V3) : fitR [42] v = true := rfl
/-- All outermost. -/
structure FlatL (items : List ItemX) (m : List PackD) : Prop where
  of : ∀ p ∈ m, ∃ h : p.of < items.length, p.path = nameK items[p.of].name
  nd : m.Pairwise fun p q => p.path ≠ q.path
abbrev stK (items : List ItemX) : List EntryD := items.map fun x => entryD x false
theorem stK_at {items : List ItemX} {k : Nat} (hk : k < items.length) : (stK items).getD k zeroD = entryD items[k] false := by
  rw [List.getD_eq_getElem?_getD, List.getElem?_map, List.getElem?_eq_getElem hk]; rfl
theorem stK_needs {items : List ItemX} {k : Nat} (hk : k < items.length) : needsOf (stK items) k = (entryD items[k] false).needs := by
  have : needsOf (stK items) k = ((stK items).getD k zeroD).needs := rfl
  rw [this, stK_at hk]
theorem FlatL.name {items : List ItemX} {m : List PackD} (h : FlatL items m) {p : PackD} (hp : p ∈ m) : isNameR p.path = true := by
  obtain ⟨_, e⟩ := h.of p hp
  rw [e]; exact nameK_ok _
theorem folder_nosl {n : Tx} (h : NoSl n) : folderP n = [] := folderGo_nosl h _ (Nat.le_refl _)
theorem at_slash {items : List ItemX} {m : List PackD} (h : FlatL items m) {f n : Tx} (hf : f ≠ []) : atR m (joinR f n) = none := atR_none.2 fun p hp e => by
  have hn := name_nosl (h.name hp)
  refine hn 47 ?_ rfl
  rw [e]
  unfold joinR
  rw [if_neg hf]
  simp
theorem find_flat {items : List ItemX} {m : List PackD} (h : FlatL items m) {path : Tx} (hp : path = [] ∨ isNameR path = true) (n : Tx) : findR m path n = atR m n := by
  have h0 : findR m [] n = atR m n := by
    rw [findR_eq]
    have : joinR [] n = n := by unfold joinR; rw [if_pos rfl]
    rw [this]
    rcases atR m n with _ | k <;> rfl
  rcases hp with rfl | hp
  · exact h0
  · have hne := name_ne hp
    rw [findR_eq, at_slash h hne]
    simp only
    rw [if_neg hne, folder_nosl (name_nosl hp), h0]
theorem met_flat {items : List ItemX} {m : List PackD} (h : FlatL items m) {x : WhoD} (hp : x.path = [] ∨ isNameR x.path = true) (hr : x.n.rng = [42]) : metR (stK items) m x = (atR m x.n.name).isSome := by
  unfold metR
  rw [find_flat h hp]
  rcases atR m x.n.name with _ | k
  · rfl
  · simp only
    rw [hr, star_fits]; rfl
theorem FlatL.app {items : List ItemX} {m : List PackD} (h : FlatL items m) {n : Tx} {k : Nat} (hk : k < items.length) (hn : nameK items[k].name = n) (ha : atR m n = none) : FlatL items (m ++ [⟨n, k⟩]) := by
  refine ⟨fun p hp => ?_, ?_⟩
  · rcases List.mem_append.1 hp with hp | hp
    · exact h.of p hp
    · simp at hp; subst hp; exact ⟨hk, hn.symm⟩
  · rw [List.pairwise_append]
    refine ⟨h.nd, by simp, fun p hp q hq => ?_⟩
    simp at hq
    subst hq
    exact atR_none.1 ha p hp
theorem FlatL.six {items : List ItemX} {m : List PackD} (h : FlatL items m) : m.length ≤ 6 := by
  have := names_six (out := m.map fun p => p.path) (by
    unfold List.Nodup
    rw [List.pairwise_map]; exact h.nd) fun t ht => by
      obtain ⟨p, hp, rfl⟩ := List.mem_map.1 ht
      obtain ⟨_, e⟩ := h.of p hp
      rw [e]; exact nameK_all _
  simpa using this
theorem folders_name {path : Tx} (hp : path = [] ∨ isNameR path = true) : ∃ r, (foldersR path).reverse = [] :: r := by
  rcases hp with rfl | hp
  · rw [foldersR_nil]; exact ⟨[], rfl⟩
  · rw [foldersR_cons _ (name_ne hp), folder_nosl (name_nosl hp), foldersR_nil]
    exact ⟨[path], rfl⟩
theorem lay_flat {items : List ItemX} {m : List PackD} (h : FlatL items m) {x : WhoD} (hp : x.path = [] ∨ isNameR x.path = true) {k : Nat} (hk : k < items.length) (hn : nameK items[k].name = x.n.name) (ha : atR m x.n.name = none) {done : List WhoD} (hd : ∀ y ∈ done, (y.path = [] ∨ isNameR y.path = true) ∧ y.n.rng = [42] ∧ metR (stK items) m y = true) : layR (stK items) m x k done = m ++ [⟨x.n.name, k⟩] := by
  obtain ⟨r, e⟩ := folders_name hp
  have hj : joinR [] x.n.name = x.n.name := by unfold joinR; rw [if_pos rfl]
  have hf := h.app hk hn ha
  unfold layR
  rw [e, layGo, hj, if_pos]
  refine ⟨ha, ?_, ?_⟩
  · rw [find_flat hf hp, atR_app, ha]
    simp
  · unfold allMetR
    rw [List.all_eq_true]
    intro y hy
    obtain ⟨h1, h2, h3⟩ := hd y hy
    rw [met_flat h h1 h2] at h3
    rw [met_flat hf h1 h2, atR_app]
    rcases ea : atR m y.n.name with _ | j
    · rw [ea] at h3; simp at h3
    · rfl
theorem choose_flat {items : List ItemX} {stx : List EntX} (hs : StockSame stx (stK items)) {n : NeedD} (hr : n.rng = [42]) (tree : List PackD) : (∃ k, ∃ h : k < items.length, chooseR (stK items) n tree = some k ∧ nameK items[k].name = n.name) ∨ (chooseR (stK items) n tree = none ∧ ∀ it ∈ items, nameK it.name ≠ n.name) := by
  have hlen : (stK items).length = items.length := by simp [stK]
  have suit : ∀ b k, k < (stK items).length → Suits (stK items) n b tree k → ∃ h : k < items.length, nameK items[k].name = n.name := fun b k hk hsu => by
    rw [hlen] at hk
    refine ⟨hk, ?_⟩
    have := hsu.1
    rw [Bool.and_eq_true] at this
    have := of_decide_eq_true this.1
    rw [stK_at hk] at this
    exact this
  have g1 := greatest_spec (stK items) n true tree hs.val
  have g2 := greatest_spec (stK items) n false tree hs.val
  unfold chooseR
  rcases e1 : greatestR (stK items) n true tree with _ | k
  · simp only
    rcases e2 : greatestR (stK items) n false tree with _ | k
    · right
      rw [e2] at g2
      refine ⟨rfl, fun it hi en => ?_⟩
      obtain ⟨k, hk, rfl⟩ := List.mem_iff_getElem.1 hi
      refine g2 k (by rw [hlen]; exact hk) ⟨?_, rfl⟩
      rw [stK_at hk, hr, star_fits, Bool.and_true]
      exact decide_eq_true en
    · left
      rw [e2] at g2
      obtain ⟨h1, h2⟩ := suit false k g2.1 g2.2.1
      exact ⟨k, h1, rfl, h2⟩
  · left
    rw [e1] at g1
    obtain ⟨h1, h2⟩ := suit true k g1.1 g1.2.1
    exact ⟨k, h1, rfl, h2⟩
structure FInv (items : List ItemX) (l : List WantX) (m : List PackD) (done rem : List WhoD) : Prop where
  fl : FlatL items m
  rch : ∀ p ∈ m, Reach items l p.path
  who : ∀ x ∈ done ++ rem, (x.path = [] ∨ isNameR x.path = true) ∧ x.n.rng = [42] ∧ Reach items l x.n.name
  met : ∀ x ∈ done, metR (stK items) m x = true
theorem flat_go {items : List ItemX} (h1 : OneEach items) {stx : List EntX} (hs : StockSame stx (stK items)) {l : List WantX} (tree : List PackD) : ∀ (f : Nat) (m : List PackD) (done rem : List WhoD), FInv items l m done rem → 7 * (6 - m.length) + rem.length < f →
    (∃ m', buildGo (stK items) tree f m done rem = (some m', 0) ∧ FlatL items m') ∨ (buildGo (stK items) tree f m done rem = (none, 8) ∧ ∃ t, Reach items l t ∧ ∀ it ∈ items, nameK it.name ≠ t)
  | 0, m, done, rem, _, hf => by omega
  | f + 1, m, done, [], h, hf => .inl ⟨m, rfl, h.fl⟩
  | f + 1, m, done, x :: rem, h, hf => by
    obtain ⟨x1, x2, x3⟩ := h.who x (by simp)
    rw [buildGo]
    by_cases hm : metR (stK items) m x = true
    · rw [if_pos hm]
      refine flat_go h1 hs tree f m (done ++ [x]) rem ⟨h.fl, h.rch, fun y hy => h.who y (by simpa using hy), fun y hy => ?_⟩ (by simp at hf; omega)
      rcases List.mem_append.1 hy with hy | hy
      · exact h.met y hy
      · simp at hy; subst hy; exact hm
    · rw [if_neg hm]
      have ha : atR m x.n.name = none := by
        rw [met_flat h.fl x1 x2] at hm
        rcases e : atR m x.n.name with _ | j
        · rfl
        · rw [e] at hm; exact absurd rfl hm
      rcases choose_flat hs x2 tree with ⟨k, hk, e, hn⟩ | ⟨e, hno⟩
      · have hfl := h.fl.app hk hn ha
        have h6 := hfl.six
        have hd : ∀ y ∈ done, (y.path = [] ∨ isNameR y.path = true) ∧ y.n.rng = [42] ∧ metR (stK items) m y = true := fun y hy => ⟨(h.who y (by simp [hy])).1, (h.who y (by simp [hy])).2.1, h.met y hy⟩
        have hlay := lay_flat h.fl x1 hk hn ha hd
        rw [e]
        simp only
        simp at h6
        rw [if_neg (by omega), hlay, drop_last, allR_single]
        have hne := stK_needs hk
        have hnl : (needsOf (stK items) k).length ≤ 6 := by
          rw [hne]
          unfold entryD
          simp only
          rw [(sortedR_perm _).length_eq, List.length_map]
          exact h1.well.six _ (List.getElem_mem hk)
        refine flat_go h1 hs tree f _ _ _ ⟨hfl, fun p hp => ?_, fun y hy => ?_, fun y hy => ?_⟩ (by simp at hf ⊢; omega)
        · rcases List.mem_append.1 hp with hp | hp
          · exact h.rch p hp
          · simp at hp; subst hp; exact x3
        · have hcase : y ∈ done ++ x :: rem ∨ y ∈ (needsOf (stK items) k).map fun n => (⟨x.n.name, n⟩ : WhoD) := by
            simp only [List.mem_append, List.mem_cons, List.not_mem_nil, or_false] at hy ⊢
            rcases hy with (h2 | h2) | (h2 | h2)
            · exact .inl (.inl h2)
            · exact .inl (.inr (.inl h2))
            · exact .inl (.inr (.inr h2))
            · exact .inr h2
          rcases hcase with h2 | h2
          · exact h.who y h2
          · obtain ⟨n, hnn, rfl⟩ := List.mem_map.1 h2
            rw [hne] at hnn
            obtain ⟨z, hz, rfl⟩ := (entryD_needs _).1 hnn
            refine ⟨.inr ?_, h1.star _ (List.getElem_mem hk) z hz, Reach.next (List.getElem_mem hk) (by rw [hn]; exact x3) hz⟩
            simp only
            rw [← hn]; exact nameK_ok _
        · rcases List.mem_append.1 hy with hy | hy
          · obtain ⟨y1, y2, y3⟩ := hd y hy
            rw [met_flat h.fl y1 y2] at y3
            rw [met_flat hfl y1 y2, atR_app]
            rcases ea : atR m y.n.name with _ | j
            · rw [ea] at y3; simp at y3
            · rfl
          · simp at hy
            subst hy
            rw [met_flat hfl x1 x2, atR_app, ha]
            simp
      · right
        rw [e]
        exact ⟨rfl, _, x3, hno⟩
theorem flat_build {items : List ItemX} (h1 : OneEach items) {stx : List EntX} (hs : StockSame stx (stK items)) {l : List WantX} (hst : ∀ x ∈ l, rngK x = [42]) (hl : l.length ≤ 6) {nd : List NeedD} (hnd : nd.Perm (l.map wantN)) (tree : List PackD) :
    (∃ m, buildR (stK items) nd tree = (some m, 0) ∧ ∀ p ∈ m, ∃ h : p.of < items.length, p.path = nameK items[p.of].name) ∨ (buildR (stK items) nd tree = (none, 8) ∧ ∃ t, Reach items l t ∧ ∀ it ∈ items, nameK it.name ≠ t) := by
  have hall : allR (stK items) nd [] = nd.map fun n => (⟨[], n⟩ : WhoD) := by unfold allR; simp
  have hi : FInv items l [] [] (allR (stK items) nd []) := by
    refine ⟨⟨by simp, by simp⟩, by simp, fun x hx => ?_, by simp⟩
    rw [List.nil_append, hall] at hx
    obtain ⟨n, hn, rfl⟩ := List.mem_map.1 hx
    obtain ⟨y, hy, rfl⟩ := List.mem_map.1 (hnd.mem_iff.1 hn)
    exact ⟨.inl rfl, hst y hy, Reach.own hy⟩
  have hlen : (allR (stK items) nd []).length ≤ 6 := by rw [hall, List.length_map, hnd.length_eq, List.length_map]; exact hl
  unfold buildR
  rcases flat_go h1 hs tree 1000 [] [] _ hi (by simp; omega) with ⟨m, e, hm⟩ | ⟨e, ht⟩
  · left
    rw [e]
    refine ⟨_, rfl, fun p hp => hm.of p ?_⟩
    exact (((prunedR_mem (st := stK items) (nd := nd) hm.nd).2 p).1 hp).1
  · right
    rw [e]
    exact ⟨rfl, ht⟩

/-! ### what is in a flat tree -/
theorem flat_found {items : List ItemX} {m : List PackD} (h : FlatL items m) {path name : Tx} (hp : path = [] ∨ isNameR path = true) {k : Nat} (hk : findR m path name = some k) : packAt m k ∈ m ∧ (packAt m k).path = name := by
  rw [find_flat h hp] at hk
  exact ⟨(atR_some hk).2.1, (atR_some hk).2.2⟩
theorem flat_names {items : List ItemX} {l : List WantX} {nd : List NeedD} (hnd : nd.Perm (l.map wantN)) (h1 : OneEach items) {m : List PackD} (h : FlatL items m) (hg : Good (stK items) nd m) (t : Tx) : Reach items l t ↔ t ∈ m.map fun p => p.path := by
  constructor
  · refine reach_ind (M := fun t => t ∈ m.map fun p => p.path) (fun x hx => ?_) (fun it hi hit x hx => ?_) t
    · obtain ⟨k, hk, _⟩ := metR_some (hg.met ⟨[], wantN x⟩ (allR_of_site (hnd.mem_iff.2 (List.mem_map.2 ⟨x, hx, rfl⟩))))
      obtain ⟨a, b⟩ := flat_found h (.inl rfl) hk
      exact List.mem_map.2 ⟨_, a, b⟩
    · obtain ⟨p, hp, e⟩ := List.mem_map.1 hit
      obtain ⟨hk, e2⟩ := h.of p hp
      have hit' : items[p.of] = it := h1.inj (List.getElem_mem hk) hi (by rw [← e2, e])
      obtain ⟨k, hkk, _⟩ := metR_some (hg.met ⟨p.path, wantN x⟩ (allR_of_pack hp (by rw [stK_needs hk, entryD_needs, hit']; exact ⟨x, hx, rfl⟩)))
      obtain ⟨a, b⟩ := flat_found h (.inr (h.name hp)) hkk
      exact List.mem_map.2 ⟨_, a, b⟩
  · intro ht
    obtain ⟨p, hp, rfl⟩ := List.mem_map.1 ht
    refine used_ind (M := fun t => Reach items l t) (fun x k hx h0 hk => ?_) (fun x k hx hu hk ih => ?_) p.path (hg.used p hp)
    · obtain ⟨_, b⟩ := flat_found h (.inl h0) hk
      rw [b]
      rcases allR_mem hx with ⟨_, hn⟩ | ⟨q, hq, e, _⟩
      · obtain ⟨y, hy, e⟩ := List.mem_map.1 (hnd.mem_iff.1 hn)
        rw [← e]
        exact Reach.own hy
      · exact absurd (e ▸ h0) (name_ne (h.name hq))
    · rcases allR_mem hx with ⟨e0, hn⟩ | ⟨q, hq, e, hn⟩
      · obtain ⟨_, b⟩ := flat_found h (.inl e0) hk
        rw [b]
        obtain ⟨y, hy, e⟩ := List.mem_map.1 (hnd.mem_iff.1 hn)
        rw [← e]
        exact Reach.own hy
      · obtain ⟨_, b⟩ := flat_found h (.inr (by rw [e]; exact h.name hq)) hk
        rw [b]
        obtain ⟨hk', e2⟩ := h.of q hq
        rw [stK_needs hk', entryD_needs] at hn
        obtain ⟨y, hy, ey⟩ := hn
        rw [← ey]
        refine Reach.next (List.getElem_mem hk') ?_ hy
        rw [← e2, ← e]
        exact ih
/-- What a site needs where everyone takes any. -/
structure KFlat (items : List ItemX) (site : List WantX) (sd : SiteD) : Prop where
  same : ∃ sx, SiteSame sx sd
  one : OneEach items
  stock : sd.stock = stK items
  needs : sd.needs.Perm (site.map wantN)
  star : ∀ x ∈ site, rngK x = [42]
theorem KFlat.add {items : List ItemX} {site : List WantX} {sd : SiteD} (h : KFlat items site sd) {x : WantX} (hx : rngK x = [42]) (hp : (site ++ [x]).Pairwise fun a b => nameK a.name ≠ nameK b.name) (h6 : (site ++ [x]).length ≤ 6) :
    (reachedK items (site ++ [x]) = none ∧ addR sd (wantT x) = (sd, 8)) ∨ ∃ out, reachedK items (site ++ [x]) = some out ∧ (addR sd (wantT x)).2 = 0 ∧ KFlat items (site ++ [x]) (addR sd (wantT x)).1 ∧ textR (addR sd (wantT x)).1.stock (addR sd (wantT x)).1.packs = flatK out := by
  obtain ⟨sx, hs⟩ := h.same
  have hnd := want_need x
  have hlen : sd.needs.length = site.length := by rw [h.needs.length_eq, List.length_map]
  have hfr : ∀ n ∈ sd.needs, n.name ≠ (needR (wantT x)).1.name := fun n hn => by
    obtain ⟨y, hy, rfl⟩ := List.mem_map.1 (h.needs.mem_iff.1 hn)
    rw [hnd]
    exact (List.pairwise_append.1 hp).2.2 y hy x (by simp)
  have h5 : sd.needs.length ≤ 5 := by simp at h6; omega
  have hstar : ∀ y ∈ site ++ [x], rngK y = [42] := fun y hy => by
    rcases List.mem_append.1 hy with hy | hy
    · exact h.star y hy
    · simp at hy; subst hy; exact hx
  have hperm : (sortedR (sd.needs ++ [(needR (wantT x)).1])).Perm ((site ++ [x]).map wantN) := by
    refine (sortedR_perm _).trans ?_
    rw [hnd, List.map_append]
    exact h.needs.append_right _
  have hsk : StockSame sx.stock (stK items) := by rw [← h.stock]; exact hs.st
  have e : addR sd (wantT x) = settleR sd (sortedR (sd.needs ++ [(needR (wantT x)).1])) sd.packs := by
    unfold addR
    rw [if_neg (by rw [hnd]; simp), rest_all hfr, if_neg (by omega)]
  have hans := reached_spec h.one (l := site ++ [x]) h6
  rcases flat_build h.one hsk hstar h6 hperm sd.packs with ⟨m, hb, hm⟩ | ⟨hb, t, ht1, ht2⟩
  · right
    have hadd : addR sd (wantT x) = (⟨sd.stock, sortedR (sd.needs ++ [(needR (wantT x)).1]), m⟩, 0) := by
      rw [e]
      unfold settleR
      rw [h.stock, hb]
    rcases add_good hs (by rw [hnd]) hfr h5 with ⟨k, g1, g2⟩ | ⟨p, g1, g2, sx', g3⟩
    · rw [hadd] at g1
      have := congrArg Prod.snd g1
      simp only at this
      omega
    · rw [hadd] at g1
      have e3 : m = p := by
        have := congrArg (fun q : SiteD × Int => q.1.packs) g1
        exact this
      subst e3
      have hfl : FlatL items m := ⟨hm, g3.tr.nd⟩
      rw [h.stock] at g2
      have hnm := flat_names hperm h.one hfl g2
      rcases er : reachedK items (site ++ [x]) with _ | out
      · rw [er] at hans
        obtain ⟨t, ht1, ht2⟩ := hans
        obtain ⟨p, hp1, e4⟩ := List.mem_map.1 ((hnm t).1 ht1)
        obtain ⟨hk, e5⟩ := hm p hp1
        exact absurd (by rw [← e5, e4]) (ht2 _ (List.getElem_mem hk))
      · rw [er] at hans
        obtain ⟨o1, o2, _⟩ := hans
        refine ⟨out, rfl, by rw [hadd], ?_, ?_⟩
        · rw [hadd]
          exact ⟨⟨sx', g3⟩, h.one, h.stock, hperm, hstar⟩
        · rw [hadd]
          simp only
          have hri : Rises (fun p => p.path) m := by
            have h7 := g3.tr.rises
            have h8 := g3.eq
            simp only at h8
            rw [h8] at h7
            unfold Rises at h7 ⊢
            rw [List.pairwise_map] at h7
            exact h7
          have hS : (m.map fun p => p.path).Pairwise fun a b => less a b = true := by
            rw [List.pairwise_map]; exact hri
          rw [flat_eq hS o1 (fun t => (o2 t).trans (hnm t)) (fun t ht => by
            obtain ⟨p, hp1, rfl⟩ := List.mem_map.1 ht
            exact name_ne (hfl.name hp1)), textR_join, List.map_map]
          congr 1
          apply List.map_congr_left
          intro p hp1
          obtain ⟨hk, _⟩ := hm p hp1
          have hv : verOf sd.stock p.of = verK 1 0 := by
            have : verOf sd.stock p.of = (sd.stock.getD p.of zeroD).v := rfl
            rw [this, h.stock, stK_at hk]
            obtain ⟨a, b⟩ := h.one.ver _ (List.getElem_mem hk)
            unfold entryD
            simp only
            rw [a, b]
          unfold txtD
          rw [hv, verK_text, ver1_K]
          rfl
  · left
    have hadd : addR sd (wantT x) = (sd, 8) := by
      rw [e]
      unfold settleR
      rw [h.stock, hb]
    refine ⟨?_, hadd⟩
    rcases er : reachedK items (site ++ [x]) with _ | out
    · rfl
    · rw [er] at hans
      obtain ⟨it, hi, en⟩ := hans.2.2 t ((hans.2.1 t).2 ht1)
      exact absurd en (ht2 it hi)

end Hst
end Go.Proofs.YtecocheolbkneaaDoor
namespace Go.Proofs.YtecocheolbkneaaDoor
namespace Hst
set_option maxRecDepth 100000

theorem plainGo_pw : ∀ (l out : List WantX), (out.Pairwise fun a b => nameK a.name ≠ nameK b.name) → (plainGo out l).Pairwise fun a b => nameK a.name ≠ nameK b.name
  | [], out, h => h
  | x :: r, out, h => by
    rw [plainGo]
    split
    · exact h
    · split
      · exact plainGo_pw r out h
      · rename_i hn
        refine plainGo_pw r _ ?_
        rw [List.pairwise_append]
        refine ⟨h, by simp, fun a ha b hb => ?_⟩
        simp at hb
        subst hb
        intro e
        exact hn (List.any_eq_true.2 ⟨a, ha, decide_eq_true e⟩)
theorem plainK_pw (l : List WantX) : (plainK l).Pairwise fun a b => nameK a.name ≠ nameK b.name := plainGo_pw l [] .nil
theorem stockedGo_well : ∀ (l out : List ItemP), (out.Pairwise fun a b => headP a ≠ headP b) → (∀ x ∈ out, x.wants.Pairwise fun a b => nameK a.name ≠ nameK b.name) → ((stockedGo out l).Pairwise fun a b => headP a ≠ headP b) ∧ ∀ x ∈ stockedGo out l, x.wants.Pairwise fun a b => nameK a.name ≠ nameK b.name
  | [], out, h, h2 => ⟨h, h2⟩
  | x :: r, out, h, h2 => by
    rw [stockedGo]
    split
    · exact ⟨h, h2⟩
    · split
      · exact stockedGo_well r out h h2
      · rename_i hn
        refine stockedGo_well r _ ?_ fun y hy => ?_
        · rw [List.pairwise_append]
          refine ⟨h, by simp, fun a ha b hb => ?_⟩
          simp at hb
          subst hb
          intro e
          exact hn (List.any_eq_true.2 ⟨a, ha, decide_eq_true e⟩)
        · rcases List.mem_append.1 hy with hy | hy
          · exact h2 y hy
          · simp at hy
            subst hy
            exact plainK_pw _
theorem items_well {out : List ItemX} {l : List ItemP} (e : out.map bare = stockedK l) (h40 : out.length ≤ 40) (h6 : ∀ x ∈ out, x.wants.length ≤ 6) : ItemsWell out := by
  obtain ⟨h1, h2⟩ := stockedGo_well l [] .nil (by simp)
  have h1' : (stockedK l).Pairwise fun a b => headP a ≠ headP b := h1
  have h2' : ∀ x ∈ stockedK l, x.wants.Pairwise fun a b => nameK a.name ≠ nameK b.name := h2
  rw [← e] at h1' h2'
  rw [List.pairwise_map] at h1'
  exact ⟨h40, h6, h1', fun x hx => h2' (bare x) (List.mem_map.2 ⟨x, hx, rfl⟩)⟩
theorem KInv.start {items : List ItemX} (h : ItemsWell items) {sx : SiteX} (hs : SiteSame sx ⟨items.map fun x => entryD x false, [], []⟩) : KInv items [] ⟨items.map fun x => entryD x false, [], []⟩ :=
  ⟨⟨sx, hs⟩, h, rfl, Good.nil, List.Perm.refl _⟩
theorem adds_start {items : List ItemX} (h : ItemsWell items) {sx : SiteX} (hs : SiteSame sx ⟨items.map fun x => entryD x false, [], []⟩) (l : List WantX) : AddsWell items ⟨items.map fun x => entryD x false, [], []⟩ [] (plainK l) ∧ KInv items (addsK ⟨items.map fun x => entryD x false, [], []⟩ [] (plainK l)).2 (addsK ⟨items.map fun x => entryD x false, [], []⟩ [] (plainK l)).1 :=
  adds_well (plainK l) [] _ (KInv.start h hs) (by simpa using plainK_pw l) (by simpa using plainK_len l)

end Hst
end Go.Proofs.YtecocheolbkneaaDoor
namespace Go.Proofs.YtecocheolbkneaaDoor
namespace Hst
set_option maxRecDepth 100000

def starW (y : WantX) : WantX := ⟨y.name, 0, 0, 0⟩
def oneP (x : ItemX) : ItemP := ⟨x.name, 1, 0, x.wants.map starW⟩
theorem star_pick : pickZ 0 8 = 0 := by decide
theorem star_rng (y : WantX) : rngK (starW y) = [42] := by
  unfold rngK starW
  simp only
  rw [if_pos star_pick]
theorem star_text (y : WantX) : wantT (starW y) = nameK y.name ++ [42] := by
  unfold wantT
  rw [star_rng]
  rfl
theorem star_ok {y : WantX} (h : WantOk y) : WantOk (starW y) := ⟨h.name, by unfold Raw starW; simp, by unfold Raw starW; simp, by unfold Raw starW; simp⟩
theorem stockedGo_from : ∀ (l out : List ItemP) (x : ItemP), x ∈ stockedGo out l → x ∈ out ∨ ∃ y ∈ l, x = ⟨y.name, y.major, y.minor, plainK y.wants⟩
  | [], _, _, h => .inl h
  | z :: r, out, x, h => by
    rw [stockedGo] at h
    split at h
    · exact .inl h
    · split at h
      · rcases stockedGo_from r out x h with h | ⟨y, hy, e⟩
        · exact .inl h
        · exact .inr ⟨y, List.mem_cons_of_mem _ hy, e⟩
      · rcases stockedGo_from r _ x h with h | ⟨y, hy, e⟩
        · rcases List.mem_append.1 h with h | h
          · exact .inl h
          · simp at h
            exact .inr ⟨z, by simp, h⟩
        · exact .inr ⟨y, List.mem_cons_of_mem _ hy, e⟩
theorem one_each {out items : List ItemX} {k : Nat} (e : out.map bare = stockedK ((items.take k).map oneP)) (h40 : out.length ≤ 40) (h6 : ∀ x ∈ out, x.wants.length ≤ 6) : OneEach out := by
  have key : ∀ x ∈ out, x.major = 1 ∧ x.minor = 0 ∧ ∀ y ∈ x.wants, rngK y = [42] := fun x hx => by
    have hm : bare x ∈ stockedK ((items.take k).map oneP) := by rw [← e]; exact List.mem_map.2 ⟨x, hx, rfl⟩
    rcases stockedGo_from _ _ _ hm with h | ⟨y, hy, h⟩
    · simp at h
    · obtain ⟨z, _, rfl⟩ := List.mem_map.1 hy
      unfold bare oneP at h
      simp only [ItemP.mk.injEq] at h
      obtain ⟨_, h2, h3, h4⟩ := h
      refine ⟨h2, h3, fun y hy => ?_⟩
      rw [h4] at hy
      obtain ⟨u, _, rfl⟩ := List.mem_map.1 (plainK_in hy)
      exact star_rng u
  exact ⟨items_well e h40 h6, fun x hx => ⟨(key x hx).1, (key x hx).2.1⟩, fun x hx => (key x hx).2.2⟩
/-- The site's wants are some of those that were given so far. -/
def SiteOf (pl : List WantX) (k : Nat) (site : List WantX) : Prop := site.Sublist ((pl.take k).map starW)
theorem SiteOf.nil (pl : List WantX) : SiteOf pl 0 [] := by unfold SiteOf; simp
theorem SiteOf.skip {pl site : List WantX} {k : Nat} (h : SiteOf pl k site) : SiteOf pl (k + 1) site := by
  unfold SiteOf at *
  refine h.trans (List.Sublist.map _ ?_)
  exact (List.take_prefix_take_left (by omega)).sublist
theorem SiteOf.take {pl site : List WantX} {k : Nat} (hk : k < pl.length) (h : SiteOf pl k site) : SiteOf pl (k + 1) (site ++ [starW pl[k]]) := by
  unfold SiteOf at *
  rw [List.take_succ_eq_append_getElem hk, List.map_append]
  exact h.append (List.Sublist.refl _)
theorem SiteOf.two {pl site : List WantX} {k : Nat} (hp : pl.Pairwise fun a b => nameK a.name ≠ nameK b.name) (h : SiteOf pl k site) : site.Pairwise fun a b => nameK a.name ≠ nameK b.name := by
  unfold SiteOf at h
  refine List.Pairwise.sublist h ?_
  rw [List.pairwise_map]
  exact List.Pairwise.sublist (List.take_sublist _ _) hp
theorem SiteOf.six {pl site : List WantX} {k : Nat} (hp : pl.length ≤ 6) (h : SiteOf pl k site) : site.length ≤ 6 := by
  have := List.Sublist.length_le h
  simp at this
  omega
theorem SiteOf.ok {pl site : List WantX} {k : Nat} (hp : ∀ x ∈ pl, WantOk x) (h : SiteOf pl k site) : ∀ x ∈ site, WantOk x := fun x hx => by
  obtain ⟨y, hy, rfl⟩ := List.mem_map.1 (List.Sublist.subset h hx)
  exact star_ok (hp y (List.mem_of_mem_take hy))
theorem KFlat.start {items : List ItemX} (h : OneEach items) {sx : SiteX} (hs : SiteSame sx ⟨items.map fun x => entryD x false, [], []⟩) : KFlat items [] ⟨items.map fun x => entryD x false, [], []⟩ :=
  ⟨⟨sx, hs⟩, h, rfl, List.Perm.refl _, by simp⟩

end Hst
end Go.Proofs.YtecocheolbkneaaDoor
namespace Go.Proofs.YtecocheolbkneaaDoor
open Go.RowKit
namespace Hst
set_option maxRecDepth 100000

theorem all_one (C : ByteArray) (hC : ∀ m, m < 10 → C.extract m (m + 1) = bs (numT m)) (n : Nat) (h : n < 10) : C.extract n (n + 1) = bs (numT n) := hC n h
theorem all_two (C : ByteArray) (hC : ∀ m, m < 100 → ¬ m < 10 → C.extract (m * 2) (m * 2 + 2) = bs (numT m)) (n : Nat) (h : n < 100) (h10 : ¬ n < 10) : C.extract (n * 2) (n * 2 + 2) = bs (numT n) := hC n h h10

set_option maxRecDepth 100000 in
set_option maxHeartbeats 1000000 in
theorem small_any (n : Nat) (w : World) (h : n < 100) :
    Calls Tryd.prog 94 #[.int .i64 n] w fun e w' => e = .returned (.string (bs (numT n))) ∧ w' = w := by
  by_cases h10 : n < 10
  · go_enter Tryd.func94, Tryd.ntmps94
    go_wp2
    go_ret
    refine ⟨ret_str (all_one _ ?_ n h10), rfl⟩
    decide +kernel
  · go_enter Tryd.func94, Tryd.ntmps94
    go_wp2
    go_ret
    refine ⟨ret_str (all_two _ ?_ n h h10), rfl⟩
    decide +kernel

set_option maxHeartbeats 1000000 in
theorem formatInt_any (n : Nat) (w : World) (h : n < 100) :
    Calls Tryd.prog 85 #[.int .i64 n, .int .i64 10] w fun e w' => e = .returned (.string (bs (numT n))) ∧ w' = w := by
  go_enter Tryd.func85, Tryd.ntmps85
  go_wp2_with (go_at_call 94; refine (small_any n _ h).mono ?_; rintro e w' ⟨rfl, rfl⟩)
  go_ret
  exact ⟨rfl, rfl⟩
set_option maxHeartbeats 1000000 in
theorem iitoa_any (n : Nat) (w : World) (h : n < 100) :
    Calls Tryd.prog 69 #[.int .i64 n] w fun e w' => e = .returned (.string (bs (numT n))) ∧ w' = w := by
  go_enter Tryd.func69, Tryd.ntmps69
  go_wp2_with (go_at_call 85; refine (formatInt_any n _ h).mono ?_; rintro e w' ⟨rfl, rfl⟩)
  go_ret
  exact ⟨rfl, rfl⟩
set_option maxHeartbeats 1000000 in
theorem itoa_nat (n : Nat) (w : World) (h : n < 100) :
    Calls Tryd.prog 39 #[.int .i64 n] w fun e w' => e = .returned (.string (bs (numT n))) ∧ w' = w := by
  go_enter Tryd.func39, Tryd.ntmps39
  go_wp2_with (go_at_call 69; refine (iitoa_any n _ h).mono ?_; rintro e w' ⟨rfl, rfl⟩)
  go_ret
  exact ⟨rfl, rfl⟩
theorem itoa_any (n : Int) (w : World) (h0 : 0 ≤ n) (h : n < 100) :
    Calls Tryd.prog 39 #[.int .i64 n] w fun e w' => e = .returned (.string (bs (numT n.toNat))) ∧ w' = w := by
  obtain ⟨m, rfl⟩ := Int.eq_ofNat_of_zero_le h0
  exact itoa_nat m w (by omega)

set_option maxHeartbeats 1000000 in
theorem third_any (n : Int) (w : World) (h0 : 0 ≤ n) (h1 : n ≤ 999999) :
    Calls Tryd.prog 61 #[.int .i64 n] w fun e w' => e = .returned (.int .i64 (n % 100)) ∧ w' = w := by
  go_enter Tryd.func61, Tryd.ntmps61
  go_wp2
  go_ret
  exact ⟨rfl, rfl⟩

set_option maxHeartbeats 1000000 in
theorem text_any (n : Int) (w : World) (h0 : 0 ≤ n) (h1 : n ≤ 999999) :
    Calls Tryd.prog 33 #[.int .i64 n] w fun e w' => e = .returned (.string (bs (verT (n / 10000).toNat (n / 100 % 100).toNat (n % 100).toNat))) ∧ w' = w := by
  have HI1 := hid' (fun w => itoa_any (n / 10000) w (by omega) (by omega))
  have HI2 := hid' (fun w => itoa_any (n / 100 % 100) w (by omega) (by omega))
  have HI3 := hid' (fun w => itoa_any (n % 100) w (by omega) (by omega))
  have HE : Hid (bs (numT (n / 10000).toNat) ++ bs [46] ++ bs (numT (n / 100 % 100).toNat) ++ bs [46] ++ bs (numT (n % 100).toNat) = bs (verT (n / 10000).toNat (n / 100 % 100).toNat (n % 100).toNat)) := by
    unfold Hid; rw [bs_append, bs_append, bs_append, bs_append]; rfl
  have l1 : (bs (numT (n / 10000).toNat)).size ≤ 2 := by rw [bs_size]; exact numT_len _
  have l2 : (bs (numT (n / 100 % 100).toNat)).size ≤ 2 := by rw [bs_size]; exact numT_len _
  have l3 : (bs (numT (n % 100).toNat)).size ≤ 2 := by rw [bs_size]; exact numT_len _
  generalize bs (verT (n / 10000).toNat (n / 100 % 100).toNat (n % 100).toNat) = q at *
  generalize bs (numT (n / 10000).toNat) = q1 at *
  generalize bs (numT (n / 100 % 100).toNat) = q2 at *
  generalize bs (numT (n % 100).toNat) = q3 at *
  go_enter Tryd.func33, Tryd.ntmps33
  go_wp2_with fail
  refine (first_any _ _ h0 h1).mono ?_
  rintro e w' ⟨rfl, rfl⟩
  go_wp2_with fail
  refine (HI1.out _).mono ?_
  rintro e w' ⟨rfl, rfl⟩
  go_wp2_with fail
  refine (second_any _ _ h0 h1).mono ?_
  rintro e w' ⟨rfl, rfl⟩
  go_wp2_with fail
  refine (HI2.out _).mono ?_
  rintro e w' ⟨rfl, rfl⟩
  go_wp2_with fail
  refine (third_any _ _ h0 h1).mono ?_
  rintro e w' ⟨rfl, rfl⟩
  go_wp2_with fail
  refine (HI3.out _).mono ?_
  rintro e w' ⟨rfl, rfl⟩
  go_wp2
  go_ret
  exact ⟨ret_str HE.out, rfl⟩

end Hst
end Go.Proofs.YtecocheolbkneaaDoor
namespace Go.Proofs.YtecocheolbkneaaDoor
open Go.RowKit
namespace Hst
set_option maxRecDepth 100000

set_option maxHeartbeats 1000000 in
theorem kpick_any (c : Int) (n : Nat) (w : World) (h : Raw c) (hn : 0 < n) (hn2 : n ≤ 9223372036854775807) :
    Calls Tryd.prog 22 #[.int .i64 c, .int .i64 n] w fun e w' => e = .returned (.int .i64 (pickZ c n)) ∧ w' = w := by
  have h0 := h.1
  have h1 := h.2
  unfold pickZ
  by_cases hc : c < 0
  · rw [if_pos hc]
    have HE : Hid (-((c + 1).tmod (n : Int)) = (((-(c + 1)) % (n : Int)).toNat : Int)) := by
      unfold Hid
      have b0 := Int.emod_nonneg (-(c + 1)) (b := (n : Int)) (by omega)
      rw [Int.toNat_of_nonneg b0, ← Int.neg_tmod, Int.tmod_eq_emod_of_nonneg (by omega)]
    go_enter Tryd.func22, Tryd.ntmps22
    go_wp2
    go_ret
    exact ⟨ret_int HE.out, rfl⟩
  · rw [if_neg hc]
    have HE : Hid (c % (n : Int) = ((c % (n : Int)).toNat : Int)) := by
      unfold Hid
      rw [Int.toNat_of_nonneg (Int.emod_nonneg c (b := (n : Int)) (by omega))]
    generalize (c % (n : Int)).toNat = z at *
    go_enter Tryd.func22, Tryd.ntmps22
    go_wp2
    go_ret
    exact ⟨ret_int HE.out, rfl⟩

theorem eight {j : Nat} (h : j < 8) : j = 0 ∨ j = 1 ∨ j = 2 ∨ j = 3 ∨ j = 4 ∨ j = 5 ∨ j = 6 ∨ j = 7 := by omega

set_option maxHeartbeats 4000000 in
theorem names_any (k : Int) (w : World) (h : Raw k) :
    Calls Tryd.prog 24 #[.int .i64 k] w fun e w' => e = .returned (.string (bs (nameK k))) ∧ Below w.heap.size w w' := by
  have HP := hid' (fun w => kpick_any k 8 w h (by omega) (by omega))
  have hj := pickZ_lt k (n := 8) (by omega)
  unfold nameK
  generalize pickZ k 8 = j at *
  have HB := hid' (Below.refl w.heap.size w)
  clear h
  go_enter Tryd.func24, Tryd.ntmps24
  go_wp2_with fail
  refine (HP.out _).mono ?_
  rintro e w' ⟨rfl, hw⟩
  subst hw
  have hbe := HB.out.alloc (Nat.le_refl _) (.cells #[.string ⟨#[97]⟩, .string ⟨#[98]⟩, .string ⟨#[99]⟩, .string ⟨#[100]⟩, .string ⟨#[101, 102]⟩, .string ⟨#[120, 121, 122]⟩, .string ⟨#[98]⟩, .string ⟨#[99]⟩] 9)
  rcases eight hj with rfl | rfl | rfl | rfl | rfl | rfl | rfl | rfl <;>
  · clear hj
    go_wp2
    go_ret
    exact ⟨rfl, hbe⟩

set_option maxHeartbeats 1000000 in
theorem number_any (a b : Int) (w : World) (ha : Raw a) (hb : Raw b) :
    Calls Tryd.prog 52 #[.int .i64 a, .int .i64 b] w fun e w' => e = .returned (.string (bs (numberK a b))) ∧ w' = w := by
  have HP1 := hid' (fun w => kpick_any a 3 w ha (by omega) (by omega))
  have HP2 := hid' (fun w => kpick_any b 3 w hb (by omega) (by omega))
  have HI1 := hid' (fun w => itoa_nat (pickZ a 3) w (by have := pickZ_lt a (n := 3) (by omega); omega))
  have HI2 := hid' (fun w => itoa_nat (pickZ b 3) w (by have := pickZ_lt b (n := 3) (by omega); omega))
  have HE : Hid (bs (numT (pickZ a 3)) ++ bs [46] ++ bs (numT (pickZ b 3)) ++ bs [46, 48] = bs (numberK a b)) := by
    unfold Hid; rw [bs_append, bs_append, bs_append]; rfl
  have l1 : (bs (numT (pickZ a 3))).size ≤ 2 := by rw [bs_size]; exact numT_len _
  have l2 : (bs (numT (pickZ b 3))).size ≤ 2 := by rw [bs_size]; exact numT_len _
  generalize bs (numberK a b) = q at *
  generalize bs (numT (pickZ a 3)) = q1 at *
  generalize bs (numT (pickZ b 3)) = q2 at *
  generalize pickZ a 3 = na at *
  generalize pickZ b 3 = nb at *
  clear ha hb
  go_enter Tryd.func52, Tryd.ntmps52
  go_wp2_with fail
  refine (HP1.out _).mono ?_
  rintro e w' ⟨rfl, rfl⟩
  go_wp2_with fail
  refine (HI1.out _).mono ?_
  rintro e w' ⟨rfl, rfl⟩
  go_wp2_with fail
  refine (HP2.out _).mono ?_
  rintro e w' ⟨rfl, rfl⟩
  go_wp2_with fail
  refine (HI2.out _).mono ?_
  rintro e w' ⟨rfl, rfl⟩
  go_wp2
  go_ret
  exact ⟨ret_str HE.out, rfl⟩

theorem cut8 {w : World} {cs : Array Value} {t : TypeId} : Below w.heap.size w (w.alloc (.cells cs t)) := (Below.refl w.heap.size w).alloc (Nat.le_refl _) _
abbrev wantV (x : WantX) : Value := .agg #[.int .i64 x.name, .int .i64 x.sign, .int .i64 x.major, .int .i64 x.minor]


theorem rk_star {x : WantX} (h : pickZ x.sign 8 = 0) : rngK x = [42] := by unfold rngK; rw [if_pos h]
theorem rk_sign {x : WantX} (h : ¬ pickZ x.sign 8 = 0) : rngK x = signT (pickZ x.sign 8) ++ numberK x.major x.minor := by unfold rngK; rw [if_neg h]

set_option maxHeartbeats 4000000 in
theorem rng_any (x : WantX) (w : World) (h : WantOk x) :
    Calls Tryd.prog 25 #[wantV x] w fun e w' => e = .returned (.string (bs (rngK x))) ∧ Below w.heap.size w w' := by
  have HP := hid' (fun w => kpick_any x.sign 8 w h.sign (by omega) (by omega))
  have HN := hid' (fun w => number_any x.major x.minor w h.major h.minor)
  have HNL : (bs (numberK x.major x.minor)).size ≤ 7 := by rw [bs_size]; exact numberK_len _ _
  have hj := pickZ_lt x.sign (n := 8) (by omega)
  have H0 := hid' (rk_star (x := x))
  have H1 := hid' (rk_sign (x := x))
  have HB := hid' (((Below.refl w.heap.size w).alloc (Nat.le_refl _) (.cells #[.int .i64 x.name, .int .i64 x.sign, .int .i64 x.major, .int .i64 x.minor] 52)).alloc (by simp) (.cells #[.string ⟨#[42]⟩, .string ⟨#[94]⟩, .string ⟨#[94]⟩, .string ⟨#[61]⟩, .string ⟨#[62, 61]⟩, .string ⟨#[60, 61]⟩, .string ⟨#[126]⟩, .string ⟨#[60]⟩] 9))
  have HE : Hid (∀ t : Tx, bs t ++ bs (numberK x.major x.minor) = bs (t ++ numberK x.major x.minor)) := fun t => bs_append _ _
  generalize rngK x = res at *
  generalize numberK x.major x.minor = nk at *
  generalize pickZ x.sign 8 = j at *
  obtain ⟨xn, xs, xa, xi⟩ := x
  simp only at HP HN HB
  clear h
  go_enter Tryd.func25, Tryd.ntmps25
  go_wp2_with fail
  refine (HP.out _).mono ?_
  rintro e w' ⟨rfl, hw⟩
  subst hw
  rcases eight hj with rfl | rfl | rfl | rfl | rfl | rfl | rfl | rfl
  · have HF := hid' (H0.out rfl)
    clear hj H0 H1
    go_wp2
    go_ret
    exact ⟨by rw [HF.out]; rfl, HB.out⟩
  · have HF := hid' (H1.out (by omega))
    have HG : Hid (bs [94] ++ bs nk = bs res) := by unfold Hid; rw [HF.out]; exact HE.out _
    clear hj H0 H1 HF HE
    generalize bs nk = q at *
    go_wp2
    have m1 : ¬ (9223372036854775807 < 1 + q.size) := by omega
    have m2 : ¬ (9223372036854775807 < (⟨#[94]⟩ : ByteArray).size + q.size) := by show ¬ (9223372036854775807 < 1 + q.size); omega
    go_region_held3 (fun w' => w'.cell? ⟨w.heap.size, 2, none⟩ = some (.int .i64 xa) ∧ w'.cell? ⟨w.heap.size, 3, none⟩ = some (.int .i64 xi) ∧ w'.cell? ⟨w.heap.size + 1, 1, none⟩ = some (.string ⟨#[94]⟩)) (go_keep) (first | (go_at_call 52; refine (HN.out _).mono ?_; rintro e w1 ⟨rfl, rfl⟩))
    go_wp2
    go_ret
    exact ⟨ret_str HG.out, HB.out.drew⟩
  · have HF := hid' (H1.out (by omega))
    have HG : Hid (bs [94] ++ bs nk = bs res) := by unfold Hid; rw [HF.out]; exact HE.out _
    clear hj H0 H1 HF HE
    generalize bs nk = q at *
    go_wp2
    have m1 : ¬ (9223372036854775807 < 1 + q.size) := by omega
    have m2 : ¬ (9223372036854775807 < (⟨#[94]⟩ : ByteArray).size + q.size) := by show ¬ (9223372036854775807 < 1 + q.size); omega
    go_region_held3 (fun w' => w'.cell? ⟨w.heap.size, 2, none⟩ = some (.int .i64 xa) ∧ w'.cell? ⟨w.heap.size, 3, none⟩ = some (.int .i64 xi) ∧ w'.cell? ⟨w.heap.size + 1, 2, none⟩ = some (.string ⟨#[94]⟩)) (go_keep) (first | (go_at_call 52; refine (HN.out _).mono ?_; rintro e w1 ⟨rfl, rfl⟩))
    go_wp2
    go_ret
    exact ⟨ret_str HG.out, HB.out.drew⟩
  · have HF := hid' (H1.out (by omega))
    have HG : Hid (bs [61] ++ bs nk = bs res) := by unfold Hid; rw [HF.out]; exact HE.out _
    clear hj H0 H1 HF HE
    generalize bs nk = q at *
    go_wp2
    have m1 : ¬ (9223372036854775807 < 1 + q.size) := by omega
    have m2 : ¬ (9223372036854775807 < (⟨#[61]⟩ : ByteArray).size + q.size) := by show ¬ (9223372036854775807 < 1 + q.size); omega
    go_region_held3 (fun w' => w'.cell? ⟨w.heap.size, 2, none⟩ = some (.int .i64 xa) ∧ w'.cell? ⟨w.heap.size, 3, none⟩ = some (.int .i64 xi) ∧ w'.cell? ⟨w.heap.size + 1, 3, none⟩ = some (.string ⟨#[61]⟩)) (go_keep) (first | (go_at_call 52; refine (HN.out _).mono ?_; rintro e w1 ⟨rfl, rfl⟩))
    go_wp2
    go_ret
    exact ⟨ret_str HG.out, HB.out.drew⟩
  · have HF := hid' (H1.out (by omega))
    have HG : Hid (bs [62, 61] ++ bs nk = bs res) := by unfold Hid; rw [HF.out]; exact HE.out _
    clear hj H0 H1 HF HE
    generalize bs nk = q at *
    go_wp2
    have m1 : ¬ (9223372036854775807 < 2 + q.size) := by omega
    have m2 : ¬ (9223372036854775807 < (⟨#[62, 61]⟩ : ByteArray).size + q.size) := by show ¬ (9223372036854775807 < 2 + q.size); omega
    go_region_held3 (fun w' => w'.cell? ⟨w.heap.size, 2, none⟩ = some (.int .i64 xa) ∧ w'.cell? ⟨w.heap.size, 3, none⟩ = some (.int .i64 xi) ∧ w'.cell? ⟨w.heap.size + 1, 4, none⟩ = some (.string ⟨#[62, 61]⟩)) (go_keep) (first | (go_at_call 52; refine (HN.out _).mono ?_; rintro e w1 ⟨rfl, rfl⟩))
    go_wp2
    go_ret
    exact ⟨ret_str HG.out, HB.out.drew⟩
  · have HF := hid' (H1.out (by omega))
    have HG : Hid (bs [60, 61] ++ bs nk = bs res) := by unfold Hid; rw [HF.out]; exact HE.out _
    clear hj H0 H1 HF HE
    generalize bs nk = q at *
    go_wp2
    have m1 : ¬ (9223372036854775807 < 2 + q.size) := by omega
    have m2 : ¬ (9223372036854775807 < (⟨#[60, 61]⟩ : ByteArray).size + q.size) := by show ¬ (9223372036854775807 < 2 + q.size); omega
    go_region_held3 (fun w' => w'.cell? ⟨w.heap.size, 2, none⟩ = some (.int .i64 xa) ∧ w'.cell? ⟨w.heap.size, 3, none⟩ = some (.int .i64 xi) ∧ w'.cell? ⟨w.heap.size + 1, 5, none⟩ = some (.string ⟨#[60, 61]⟩)) (go_keep) (first | (go_at_call 52; refine (HN.out _).mono ?_; rintro e w1 ⟨rfl, rfl⟩))
    go_wp2
    go_ret
    exact ⟨ret_str HG.out, HB.out.drew⟩
  · have HF := hid' (H1.out (by omega))
    have HG : Hid (bs [126] ++ bs nk = bs res) := by unfold Hid; rw [HF.out]; exact HE.out _
    clear hj H0 H1 HF HE
    generalize bs nk = q at *
    go_wp2
    have m1 : ¬ (9223372036854775807 < 1 + q.size) := by omega
    have m2 : ¬ (9223372036854775807 < (⟨#[126]⟩ : ByteArray).size + q.size) := by show ¬ (9223372036854775807 < 1 + q.size); omega
    go_region_held3 (fun w' => w'.cell? ⟨w.heap.size, 2, none⟩ = some (.int .i64 xa) ∧ w'.cell? ⟨w.heap.size, 3, none⟩ = some (.int .i64 xi) ∧ w'.cell? ⟨w.heap.size + 1, 6, none⟩ = some (.string ⟨#[126]⟩)) (go_keep) (first | (go_at_call 52; refine (HN.out _).mono ?_; rintro e w1 ⟨rfl, rfl⟩))
    go_wp2
    go_ret
    exact ⟨ret_str HG.out, HB.out.drew⟩
  · have HF := hid' (H1.out (by omega))
    have HG : Hid (bs [60] ++ bs nk = bs res) := by unfold Hid; rw [HF.out]; exact HE.out _
    clear hj H0 H1 HF HE
    generalize bs nk = q at *
    go_wp2
    have m1 : ¬ (9223372036854775807 < 1 + q.size) := by omega
    have m2 : ¬ (9223372036854775807 < (⟨#[60]⟩ : ByteArray).size + q.size) := by show ¬ (9223372036854775807 < 1 + q.size); omega
    go_region_held3 (fun w' => w'.cell? ⟨w.heap.size, 2, none⟩ = some (.int .i64 xa) ∧ w'.cell? ⟨w.heap.size, 3, none⟩ = some (.int .i64 xi) ∧ w'.cell? ⟨w.heap.size + 1, 7, none⟩ = some (.string ⟨#[60]⟩)) (go_keep) (first | (go_at_call 52; refine (HN.out _).mono ?_; rintro e w1 ⟨rfl, rfl⟩))
    go_wp2
    go_ret
    exact ⟨ret_str HG.out, HB.out.drew⟩

end Hst
end Go.Proofs.YtecocheolbkneaaDoor
