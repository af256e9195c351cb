/- Mgood, Kpl, Pldefs, Mpiece -/
import Derived.Test.YtecocheolbkneaaDoorW08
import Derived.Test.YtecocheolbkneaaDoorW01
import Derived.Test.YtecocheolbkneaaDoorW04
import Derived.Test.YtecocheolbkneaaDoorW06
import Derived.Test.YtecocheolbkneaaDoorW05
namespace Go.Proofs.YtecocheolbkneaaDoor
namespace Hst

/-- Everything is met, everything is in use. -/
structure Good (st : List EntryD) (nd : List NeedD) (l : List PackD) : Prop where
  met : ∀ x ∈ allR st nd l, metR st l x = true
  used : ∀ p ∈ l, Used st nd l p.path
theorem Good.nil {st : List EntryD} : Good st [] [] := ⟨by simp [allR], by simp⟩
theorem findGo_sub {l m : List PackD} {name : Tx} (hsub : ∀ p ∈ m, p ∈ l) (hl : l.Pairwise fun p q => p.path ≠ q.path) : ∀ (fs : List Tx) {k : Nat}, findGo l name fs = some k → packAt l k ∈ m → ∃ k', findGo m name fs = some k' ∧ packAt m k' = packAt l k
  | [], k, h, _ => by simp [findGo] at h
  | f :: r, k, h, hm => by
    rw [findGo] at h
    rw [findGo]
    rcases e : atR l (joinR f name) with _ | j
    · rw [e] at h
      have e2 : atR m (joinR f name) = none := atR_none.2 fun p hp => atR_none.1 e p (hsub p hp)
      rw [e2]
      exact findGo_sub hsub hl r h hm
    · rw [e] at h
      have e' : j = k := by simpa using h
      subst e'
      obtain ⟨h1, h2, h3⟩ := atR_some e
      rcases e2 : atR m (joinR f name) with _ | j'
      · exact absurd h3 (atR_none.1 e2 _ hm)
      · obtain ⟨g1, g2, g3⟩ := atR_some e2
        exact ⟨j', rfl, path_inj hl _ (hsub _ g2) _ h2 (by rw [g3, h3])⟩
theorem findR_sub {l m : List PackD} {path name : Tx} (hsub : ∀ p ∈ m, p ∈ l) (hl : l.Pairwise fun p q => p.path ≠ q.path) {k : Nat} (h : findR l path name = some k) (hm : packAt l k ∈ m) : ∃ k', findR m path name = some k' ∧ packAt m k' = packAt l k := findGo_sub hsub hl _ h hm
theorem allR_sub {st : List EntryD} {nd : List NeedD} {l m : List PackD} (hsub : ∀ p ∈ m, p ∈ l) {x : WhoD} (h : x ∈ allR st nd m) : x ∈ allR st nd l := by
  obtain ⟨xp, xn⟩ := x
  rcases allR_mem h with ⟨h1, h2⟩ | ⟨p, hp, h1, h2⟩
  · simp only at h1 h2
    subst h1
    exact allR_of_site h2
  · simp only at h1 h2
    subst h1
    exact allR_of_pack (hsub p hp) h2
theorem metR_some {st : List EntryD} {l : List PackD} {x : WhoD} (h : metR st l x = true) : ∃ k, findR l x.path x.n.name = some k ∧ fitR x.n.rng (verOf st (packAt l k).of) = true := by
  unfold metR at h
  rcases e : findR l x.path x.n.name with _ | k
  · rw [e] at h; simp at h
  · rw [e] at h; exact ⟨k, rfl, h⟩
/-- What is not in use can be taken away. -/
theorem pruned_good {st : List EntryD} {nd : List NeedD} {l : List PackD} (hl : l.Pairwise fun p q => p.path ≠ q.path) (hne : ∀ p ∈ l, p.path ≠ []) (h : ∀ x ∈ allR st nd l, metR st l x = true) : Good st nd (prunedR st nd l) := by
  obtain ⟨hr, hm⟩ := prunedR_mem (st := st) (nd := nd) hl
  have hsub : ∀ p ∈ prunedR st nd l, p ∈ l := fun p hp => ((hm p).1 hp).1
  have hin : ∀ x ∈ allR st nd (prunedR st nd l), ∀ k, findR l x.path x.n.name = some k → packAt l k ∈ prunedR st nd l := fun x hx k hk => by
    refine (hm _).2 ⟨(findR_some hk).2.1, Used.step x k (allR_sub hsub hx) ?_ hk⟩
    rcases allR_mem hx with ⟨h1, _⟩ | ⟨p, hp, h1, _⟩
    · exact .inl h1
    · right; rw [h1]; exact ((hm p).1 hp).2
  refine ⟨fun x hx => ?_, fun p hp => ?_⟩
  · obtain ⟨k, hk, hf⟩ := metR_some (h x (allR_sub hsub hx))
    obtain ⟨k', e1, e2⟩ := findR_sub hsub hl hk (hin x hx k hk)
    unfold metR
    rw [e1]
    simp only
    rw [e2]; exact hf
  · have main : ∀ path, Used st nd l path → Used st nd (prunedR st nd l) path := by
      refine used_ind ?_ ?_
      · intro x k hx h0 hk
        have hx' : x ∈ allR st nd (prunedR st nd l) := by
          obtain ⟨xp, xn⟩ := x
          rcases allR_mem hx with ⟨h1, h2⟩ | ⟨q, hq, h1, h2⟩
          · simp only at h1 h2; subst h1; exact allR_of_site h2
          · simp only at h1 h2
            subst h1
            exact absurd h0 (hne q hq)
        obtain ⟨k', e1, e2⟩ := findR_sub hsub hl hk (hin x hx' k hk)
        rw [← e2]
        exact Used.site x k' hx' h0 e1
      · intro x k hx hu hk ih
        have hx' : x ∈ allR st nd (prunedR st nd l) := by
          obtain ⟨xp, xn⟩ := x
          rcases allR_mem hx with ⟨h1, h2⟩ | ⟨q, hq, h1, h2⟩
          · simp only at h1 h2; subst h1; exact allR_of_site h2
          · simp only at h1 h2
            subst h1
            exact allR_of_pack ((hm q).2 ⟨hq, hu⟩) h2
        obtain ⟨k', e1, e2⟩ := findR_sub hsub hl hk (hin x hx' k hk)
        rw [← e2]
        exact Used.pack x k' hx' ih e1
    exact main p.path ((hm p).1 hp).2

theorem tree_ne' {stx : List EntX} {l : List PackD} {t : List PkX} (ht : TreeSame stx l t) {p : PackD} (hp : p ∈ l) : p.path ≠ [] := by
  rw [ht.wf p hp]
  exact join_ne (name_ne (ht.nm p hp))
/-- Building: an error is one of two; else all is met and in use. -/
theorem build_good {stx : List EntX} {st : List EntryD} {ndx : List NeedX} {nd : List NeedD} {tree : List PackD} {fav : List PkX} (hs : StockSame stx st) (hn : SiteNeeds ndx nd) (hn6 : nd.length ≤ 6) (hf : TreeSame stx tree fav) (h6 : ∀ k, k < stx.length → (needsOf st k).length ≤ 6) :
    (∃ e, buildR st nd tree = (none, e) ∧ (e = 8 ∨ e = 9)) ∨ ∃ l, buildR st nd tree = (some l, 0) ∧ Good st nd l ∧ l.length ≤ 40 := by
  have h89 : ∀ (f : Nat) (l : List PackD) (done rem : List WhoD) (e : Int), buildGo st tree f l done rem = (none, e) → e = 8 ∨ e = 9 := by
    intro f
    induction f with
    | zero => intro l done rem e h; rw [buildGo] at h; simp at h; exact .inr h.symm
    | succ f ih =>
      intro l done rem e h
      cases rem with
      | nil => rw [buildGo] at h; simp at h
      | cons x r =>
        rw [buildGo] at h
        split at h
        · exact ih _ _ _ _ h
        · split at h
          · simp at h; exact .inl h.symm
          · split at h
            · simp at h; exact .inr h.symm
            · exact ih _ _ _ _ h
  unfold buildR
  rcases buildP_same hs hn hn6 hf h6 (.bool true) with ⟨_, e⟩ | ⟨_, l', done', e, hl, hr⟩
  · left
    rw [e]
    exact ⟨_, rfl, h89 _ _ _ _ _ e⟩
  · right
    rw [e]
    have hall := hr.all
    rw [List.append_nil] at hall
    refine ⟨_, rfl, pruned_good hr.ts.nd (fun p hp => tree_ne' hr.ts hp) (fun x hx => hr.met x (by rw [← hall]; exact hx)), ?_⟩
    have hsub : ∀ p ∈ prunedR st nd l', p ∈ l' := fun p hp => (((prunedR_mem (st := st) (nd := nd) hr.ts.nd).2 p).1 hp).1
    have hrs := (prunedR_mem (st := st) (nd := nd) hr.ts.nd).1
    have := nodup_len ((prunedR st nd l').map fun p => p.path) (l'.map fun p => p.path) (by
      unfold List.Nodup
      rw [List.pairwise_map]
      exact List.Pairwise.imp (fun h => less_ne h) hrs) fun x hx => by
        obtain ⟨p, hp, rfl⟩ := List.mem_map.1 hx
        exact List.mem_map.2 ⟨p, hsub p hp, rfl⟩
    simp at this
    omega
theorem settle_good {sx : SiteX} {sd : SiteD} (h : SiteSame sx sd) {ndx : List NeedX} {nd : List NeedD} (hn : All2 NeedSame ndx nd) (hr : Rises (fun n => n.name) nd) (h6 : nd.length ≤ 6) {tree : List PackD} {fav : List PkX} (hf : TreeSame sx.stock tree fav) :
    (∃ e, settleR sd nd tree = (sd, e) ∧ (e = 8 ∨ e = 9)) ∨ ∃ l, settleR sd nd tree = (⟨sd.stock, nd, l⟩, 0) ∧ Good sd.stock nd l := by
  unfold settleR
  rcases build_good h.st (siteNeeds_of hn hr) h6 hf h.h6 with ⟨e, h1, h2⟩ | ⟨l, h1, h2, _⟩
  · rw [h1]; exact .inl ⟨e, rfl, h2⟩
  · rw [h1]; exact .inr ⟨l, rfl, h2⟩

theorem useGo_nodup {l : List PackD} {who : List WhoD} : ∀ (f : Nat) (used : List Tx), used.Nodup → (∀ p ∈ used, p ∈ l.map fun q => q.path) → (useGo l who f used).Nodup
  | 0, used, h, _ => h
  | f + 1, used, h, hs => by
    obtain ⟨g1, g2, _, _⟩ := pass_grow (l := l) who used false h hs
    rw [useGo]
    split
    · exact useGo_nodup f _ g1 g2
    · exact g1
theorem used_len {st : List EntryD} {nd : List NeedD} {l : List PackD} (hl : l.Pairwise fun p q => p.path ≠ q.path) : (inUseR st nd l).length = (prunedR st nd l).length := by
  obtain ⟨hr, hm⟩ := prunedR_mem (st := st) (nd := nd) hl
  have n1 : (inUseR st nd l).Nodup := useGo_nodup _ _ (by simp) (by simp)
  have n2 : ((prunedR st nd l).map fun p => p.path).Nodup := by
    unfold List.Nodup
    rw [List.pairwise_map]
    exact List.Pairwise.imp (fun h => less_ne h) hr
  have m1 : ∀ x ∈ inUseR st nd l, x ∈ (prunedR st nd l).map fun p => p.path := fun x hx => by
    have hu := (inUseR_used st nd l x).1 (hasR_mem.2 hx)
    obtain ⟨b, hb, e⟩ := used_in hu
    exact List.mem_map.2 ⟨b, (hm b).2 ⟨hb, by rw [e]; exact hu⟩, e⟩
  have m2 : ∀ x ∈ (prunedR st nd l).map (fun p => p.path), x ∈ inUseR st nd l := fun x hx => by
    obtain ⟨p, hp, rfl⟩ := List.mem_map.1 hx
    exact hasR_mem.1 ((inUseR_used st nd l p.path).2 ((hm p).1 hp).2)
  have h1 := nodup_len _ _ n1 m1
  have h2 := nodup_len _ _ n2 m2
  rw [List.length_map] at h1 h2
  omega

end Hst
end Go.Proofs.YtecocheolbkneaaDoor
namespace Go.Proofs.YtecocheolbkneaaDoor
namespace Hst
set_option maxRecDepth 100000

/-- Items from one of them on, round and round. -/
def rotK (l : List ItemX) (m : Nat) : List ItemX := (List.range l.length).map fun i => l.getD ((i + m) % l.length) ⟨0, 0, 0, .slice none 0 0, []⟩
def stockT (back : Bool) : Bool → List ItemX → Tx
  | _, [] => []
  | first, x :: r => (if first = true then [] else [59]) ++ entryK x back ++ stockT back false r
theorem rotK_len (l : List ItemX) (m : Nat) : (rotK l m).length = l.length := by simp [rotK]
theorem rotK_at (l : List ItemX) (m k : Nat) (hk : k < l.length) : ∃ (j : Nat) (hj : j < l.length), j = (k + m) % l.length ∧ (rotK l m)[k]? = some l[j] := by
  have hj : (k + m) % l.length < l.length := Nat.mod_lt _ (by omega)
  refine ⟨_, hj, rfl, ?_⟩
  unfold rotK
  rw [List.getElem?_map, List.getElem?_range hk]
  simp only [Option.map_some]
  rw [List.getD_eq_getElem?_getD, List.getElem?_eq_getElem hj]
  rfl
theorem rotK_zero (l : List ItemX) : rotK l 0 = l := by
  refine List.ext_getElem? fun i => ?_
  rcases Nat.lt_or_ge i l.length with h | h
  · obtain ⟨j, hj, e, h1⟩ := rotK_at l 0 i h
    rw [h1, List.getElem?_eq_getElem h]
    have : j = i := by rw [e, Nat.add_zero, Nat.mod_eq_of_lt h]
    subst this
    rfl
  · rw [List.getElem?_eq_none h, List.getElem?_eq_none (by rw [rotK_len]; exact h)]
theorem st_step (back : Bool) (l : List ItemX) (k : Nat) (x : ItemX) (hk : l[k]? = some x) : stockT back (decide (k = 0)) (l.drop k) = (if k = 0 then [] else [59]) ++ entryK x back ++ stockT back (decide (k + 1 = 0)) (l.drop (k + 1)) := by
  have hlt : k < l.length := by
    rcases Nat.lt_or_ge k l.length with h | h
    · exact h
    · rw [List.getElem?_eq_none h] at hk; simp at hk
  rw [List.getElem?_eq_getElem hlt] at hk
  rw [List.drop_eq_getElem_cons hlt, stockT, Option.some.inj hk]
  have e : decide (k + 1 = 0) = false := by simp
  rw [e]
  by_cases h : k = 0
  · simp [h]
  · simp [h]
theorem st_end (back : Bool) (l : List ItemX) (k : Nat) (b : Bool) (hk : ¬ k < l.length) : stockT back b (l.drop k) = [] := by
  rw [List.drop_of_length_le (by omega)]; cases b <;> rfl
theorem wantsT_len : ∀ (l : List WantX) (b : Bool), (wantsT b l).length ≤ 13 * l.length
  | [], b => by cases b <;> simp [wantsT]
  | x :: r, b => by
    have h1 := wantsT_len r false
    have h2 := wantT_len x
    have h3 : (if b = true then [58] else [44] : Tx).length = 1 := by cases b <;> rfl
    rw [wantsT, List.length_append, List.length_append, h3, List.length_cons]
    omega
theorem entryK_len (x : ItemX) (b : Bool) : (entryK x b).length ≤ 11 + 13 * x.wants.length := by
  have h1 := headK_len x.name x.major x.minor
  have h2 := wantsT_len (if b = true then x.wants.reverse else x.wants) true
  have h3 : (if b = true then x.wants.reverse else x.wants).length = x.wants.length := by cases b <;> simp
  rw [h3] at h2
  rw [entryK, List.length_append]
  omega
def sameN (x : WantX) (y : WantX) : Bool := decide (nameK y.name = nameK x.name)
/-- Wants of which no two have one name, at most six. -/
def plainGo (out : List WantX) : List WantX → List WantX
  | [] => out
  | x :: r => if 6 ≤ out.length then out else if out.any (sameN x) = true then plainGo out r else plainGo (out ++ [x]) r
def plainK (l : List WantX) : List WantX := plainGo [] l
theorem kpl_full (out l : List WantX) (h : 6 ≤ out.length) : plainGo out l = out := by
  cases l with
  | nil => rfl
  | cons x r => rw [plainGo, if_pos h]
theorem kpl_end (out l : List WantX) (k : Nat) (h : ¬ k < l.length) : plainGo out (l.drop k) = out := by rw [List.drop_of_length_le (by omega)]; rfl
theorem kpl_old (out l : List WantX) (k : Nat) (hk : k < l.length) (h6 : ¬ 6 ≤ out.length) (h : out.any (sameN l[k]) = true) : plainGo out (l.drop k) = plainGo out (l.drop (k + 1)) := by
  rw [List.drop_eq_getElem_cons hk, plainGo, if_neg h6, if_pos h]
theorem kpl_new (out l : List WantX) (k : Nat) (hk : k < l.length) (h6 : ¬ 6 ≤ out.length) (h : out.any (sameN l[k]) = false) : plainGo out (l.drop k) = plainGo (out ++ [l[k]]) (l.drop (k + 1)) := by
  rw [List.drop_eq_getElem_cons hk, plainGo, if_neg h6, if_neg (by rw [h]; simp)]
/-- An item, without where its wants lie. -/
structure ItemP where
  name : Int
  major : Int
  minor : Int
  wants : List WantX
def bare (x : ItemX) : ItemP := ⟨x.name, x.major, x.minor, x.wants⟩
def headP (x : ItemP) : Tx := headK x.name x.major x.minor
def sameH (x : ItemP) (y : ItemP) : Bool := decide (headP y = headP x)
/-- Items of which no two have one name and version, at most forty, their wants plain. -/
def stockedGo (out : List ItemP) : List ItemP → List ItemP
  | [] => out
  | x :: r => if 40 ≤ out.length then out else if out.any (sameH x) = true then stockedGo out r else stockedGo (out ++ [⟨x.name, x.major, x.minor, plainK x.wants⟩]) r
def stockedK (l : List ItemP) : List ItemP := stockedGo [] l
theorem sk_full (out l : List ItemP) (h : 40 ≤ out.length) : stockedGo out l = out := by
  cases l with
  | nil => rfl
  | cons x r => rw [stockedGo, if_pos h]
theorem sk_end (out : List ItemP) (l : List ItemX) (k : Nat) (h : ¬ k < l.length) : stockedGo out ((l.drop k).map bare) = out := by rw [List.drop_of_length_le (by omega)]; rfl
theorem sk_old (out : List ItemP) (l : List ItemX) (k : Nat) (hk : k < l.length) (h6 : ¬ 40 ≤ out.length) (h : out.any (sameH (bare l[k])) = true) : stockedGo out ((l.drop k).map bare) = stockedGo out ((l.drop (k + 1)).map bare) := by
  rw [List.drop_eq_getElem_cons hk, List.map_cons, stockedGo, if_neg h6, if_pos h]
theorem sk_new (out : List ItemP) (l : List ItemX) (k : Nat) (hk : k < l.length) (h6 : ¬ 40 ≤ out.length) (h : out.any (sameH (bare l[k])) = false) : stockedGo out ((l.drop k).map bare) = stockedGo (out ++ [⟨l[k].name, l[k].major, l[k].minor, plainK l[k].wants⟩]) ((l.drop (k + 1)).map bare) := by
  rw [List.drop_eq_getElem_cons hk, List.map_cons, stockedGo, if_neg h6, if_neg (by rw [h]; simp)]
  rfl
theorem plainGo_in : ∀ (l out : List WantX), (∀ y ∈ plainGo out l, y ∈ out ∨ y ∈ l) ∧ (out.length ≤ 6 → (plainGo out l).length ≤ 6)
  | [], out => ⟨fun y hy => .inl hy, fun h => h⟩
  | x :: r, out => by
    rw [plainGo]
    split
    · exact ⟨fun y hy => .inl hy, fun h => h⟩
    · split
      · obtain ⟨h1, h2⟩ := plainGo_in r out
        exact ⟨fun y hy => (h1 y hy).imp id (List.mem_cons_of_mem _), h2⟩
      · obtain ⟨h1, h2⟩ := plainGo_in r (out ++ [x])
        refine ⟨fun y hy => ?_, fun h => h2 (by simp; omega)⟩
        rcases h1 y hy with h | h
        · rcases List.mem_append.1 h with h | h
          · exact .inl h
          · exact .inr (by rw [List.mem_singleton.1 h]; simp)
        · exact .inr (List.mem_cons_of_mem _ h)
theorem plainK_in {l : List WantX} {y : WantX} (h : y ∈ plainK l) : y ∈ l := by
  rcases (plainGo_in l []).1 y h with h | h
  · simp at h
  · exact h
theorem plainK_len (l : List WantX) : (plainK l).length ≤ 6 := (plainGo_in l []).2 (by simp)
def splitK (n : Int) (t : Tx) : List Tx := if t = [] then [] else splitL n t
/-- The name at the end of a path. -/
def lastK (t : Tx) : Tx := (splitK 47 t).getLastD []
def isHead (n v : Tx) (x : ItemX) : Bool := decide (headK x.name x.major x.minor = n ++ [64] ++ v)
/-- The version that a tree's text has at a path. -/
def atGoK (path : Tx) : List Tx → Tx
  | [] => []
  | x :: r => if (cutR 64 x).1 = path then (cutR 64 x).2.1 else atGoK path r
def atK (tree path : Tx) : Tx := atGoK path (splitK 59 tree)
/-- The simplest stock: one package that needs another. -/
def firstT : Tx := [97, 64, 49, 46, 48, 46, 48, 58, 98, 42, 59, 98, 64, 49, 46, 48, 46, 48]
def firstS : SiteD := ⟨(newR firstT).1.getD [], [], []⟩
def foundAt (l : List PackD) (path : Tx) (x : WantX) : Tx := (lookR l path (nameK x.name)).1
/-- What a want comes to, where all is well. -/
structure MetK (sd : SiteD) (path : Tx) (x : WantX) : Prop where
  look : (lookR sd.packs path (nameK x.name)).2 = 0
  short : (foundAt sd.packs path x).length ≤ 900
  last : lastK (foundAt sd.packs path x) = nameK x.name
  fits : fitsProg (rngK x) (atK (textR sd.stock sd.packs) (foundAt sd.packs path x)) = (true, 0)
  ne : foundAt sd.packs path x ≠ []
def pieceP (z : Tx) : Tx := (cutR 64 z).1
def pieceV (z : Tx) : Tx := (cutR 64 z).2.1
def itemAt (items : List ItemX) (z : Tx) : Option ItemX := items.find? (isHead (lastK (pieceP z)) (pieceV z))
def itemWants (items : List ItemX) (z : Tx) : List WantX := match itemAt items z with
  | some x => x.wants
  | none => []
def foundOf (sd : SiteD) (items : List ItemX) (z : Tx) : List Tx := (itemWants items z).map (foundAt sd.packs (pieceP z))
def piecesK (sd : SiteD) : List Tx := splitK 59 (textR sd.stock sd.packs)
def foundK (sd : SiteD) (items : List ItemX) (site : List WantX) : List Tx := site.map (foundAt sd.packs []) ++ (piecesK sd).flatMap (foundOf sd items)
structure SettledK (sd : SiteD) (items : List ItemX) (site : List WantX) : Prop where
  size : (textR sd.stock sd.packs).length ≤ 100000
  le : (piecesK sd).length ≤ 40
  own : ∀ x ∈ site, MetK sd [] x
  item : ∀ z ∈ piecesK sd, (itemAt items z).isSome
  met : ∀ z ∈ piecesK sd, ∀ x ∈ itemWants items z, MetK sd (pieceP z) x
  found : ∀ z ∈ piecesK sd, hasR (foundK sd items site) (pieceP z) = true
/-- What the site is given, one after the other. -/
def addsK : SiteD → List WantX → List WantX → SiteD × List WantX
  | sd, site, [] => (sd, site)
  | sd, site, x :: r => if (addR sd (wantT x)).2 = 0 then addsK (addR sd (wantT x)).1 (site ++ [x]) r else addsK sd site r
/-- Each time the site is settled behind it, or refuses and is as it was. -/
def AddsWell (items : List ItemX) : SiteD → List WantX → List WantX → Prop
  | _, _, [] => True
  | sd, site, x :: r => ((addR sd (wantT x)).2 = 0 → SettledK (addR sd (wantT x)).1 items (site ++ [x]) ∧ AddsWell items (addR sd (wantT x)).1 (site ++ [x]) r) ∧
    ((addR sd (wantT x)).2 ≠ 0 → (addR sd (wantT x)).1 = sd ∧ ((addR sd (wantT x)).2 = 8 ∨ (addR sd (wantT x)).2 = 9) ∧ SettledK sd items site ∧ AddsWell items sd site r)

end Hst
end Go.Proofs.YtecocheolbkneaaDoor
namespace Go.Proofs.YtecocheolbkneaaDoor
namespace Hst

/-- The last name of a path: what stands behind the last '/' of its first i bytes, or all. -/
def nameGo (p : Tx) : Nat → Tx
  | 0 => p
  | i + 1 => if p.getD i 0 = 47 then p.drop (i + 1) else nameGo p i
def nameP (p : Tx) : Tx := nameGo p p.length
def isPathP (p : Tx) : Bool := (splitL 47 p).all isNameR
def findE (st : List EntX) (name : Tx) (v : Int) : Option EntX := st.find? fun e => decide (e.name = name) && decide (e.ver = v)
def hasFolderP (t : List PkX) (p : Tx) : Bool := decide (folderP p = []) || hasAtP t (folderP p)
/-- One piece of a tree's text. -/
def packP (st : List EntX) (piece : Tx) : Option PkX :=
  if ((cutR 64 piece).2.2 && isPathP (cutR 64 piece).1) = false then none else
  match versionP (cutR 64 piece).2.1 with
  | none => none
  | some v => match findE st (nameP (cutR 64 piece).1) v with
    | none => none
    | some e => some ⟨(cutR 64 piece).1, e⟩
/-- The pieces, one after the other: the tree so far, the last path. -/
def packsGo (st : List EntX) (t : List PkX) (last : Tx) : List Tx → Option (List PkX)
  | [] => some t
  | p :: r => match packP st p with
    | none => none
    | some x => if less last x.path = false then none else if hasFolderP t x.path = false then none else packsGo st (withP t x) x.path r
def packsP (st : List EntX) (text : Tx) : Option (List PkX) := if text = [] then some [] else if 40 < (splitL 59 text).length then none else packsGo st [] [] (splitL 59 text)
def soundP (t : List PkX) (site : List NeedX) : Bool := (site.all fun n => meetsP t [] n) && t.all fun p => p.e.nd.all fun n => meetsP t p.path n
def loadP (s : SiteX) (text : Tx) : SiteX × Int :=
  if 4000 < text.length then (s, 4) else match packsP s.stock text with
  | none => (s, 12)
  | some t => if soundP t s.needs = false then (s, 12) else if (inUseP t s.nv s.needs).length = t.length then (⟨s.stock, s.needs, s.nv, t⟩, 0) else (s, 12)

/-! ### the document's -/
/-- last: the name at a path's end, and its folder. -/
def lastR (p : Tx) : Tx × Tx := match foldersR p with
  | _ :: f :: _ => if f = [] then (p, []) else (p.drop (f.length + 1), f)
  | _ => (p, [])
def entryOfGo (name : Tx) (v : V3) (i : Nat) : List EntryD → Option Nat
  | [] => none
  | e :: r => if (decide (e.name = name) && eq3 e.v v) = true then some i else entryOfGo name v (i + 1) r
def entryOfR (st : List EntryD) (name : Tx) (v : V3) : Option Nat := entryOfGo name v 0 st
def readGo (st : List EntryD) (l : List PackD) : List Tx → List PackD
  | [] => l
  | p :: r =>
    if (versionR (cutR 64 p).2.1).2 = true then
      match entryOfR st (lastR (cutR 64 p).1).1 (versionR (cutR 64 p).2.1).1 with
      | none => readGo st l r
      | some k => readGo st (placedR l ⟨(cutR 64 p).1, k⟩) r
    else readGo st l r
def readR (st : List EntryD) (text : Tx) : List PackD := readGo st [] (splitL 59 text)
def hangsGo (l : List PackD) (i : Nat) : List PackD → Bool
  | [] => true
  | p :: r => if (!decide (atR l p.path = some i) || (decide (0 < (lastR p.path).2.length) && (atR l (lastR p.path).2).isNone)) = true then false else hangsGo l (i + 1) r
def hangsR (l : List PackD) : Bool := hangsGo l 0 l

end Hst
end Go.Proofs.YtecocheolbkneaaDoor
namespace Go.Proofs.YtecocheolbkneaaDoor
namespace Hst

/-! ### pieces -/
theorem u8_same {x s : UInt8} (h : (x.toNat : Int) = (s.toNat : Int)) : x = s := UInt8.toNat_inj.1 (by omega)
theorem splitL_mid (s : UInt8) (b : Tx) : ∀ a : Tx, splitL (s.toNat : Int) (a ++ [s] ++ b) = splitL (s.toNat : Int) a ++ splitL (s.toNat : Int) b
  | [] => by simp [splitL]
  | x :: a => by
    have ih := splitL_mid s b a
    rw [List.cons_append, List.cons_append, splitL, splitL]
    by_cases h : (x.toNat : Int) = (s.toNat : Int)
    · rw [if_pos h, if_pos h, ih]; rfl
    · rw [if_neg h, if_neg h, ih]
      rcases e : splitL (s.toNat : Int) a with _ | ⟨q, qs⟩
      · exact absurd e (splitL_ne _ _)
      · rfl
theorem splitL_one (c : Int) : ∀ a : Tx, (∀ x ∈ a, (x.toNat : Int) ≠ c) → splitL c a = [a]
  | [], _ => rfl
  | x :: a, h => by
    rw [splitL, if_neg (h x (by simp)), splitL_one c a fun y hy => h y (List.mem_cons_of_mem _ hy)]
theorem splitL_no (c : Int) : ∀ (t : Tx), ∀ p ∈ splitL c t, ∀ x ∈ p, (x.toNat : Int) ≠ c
  | [], p, hp, x, hx => by
    simp [splitL] at hp
    subst hp
    simp at hx
  | y :: t, p, hp, x, hx => by
    rw [splitL] at hp
    by_cases h : (y.toNat : Int) = c
    · rw [if_pos h] at hp
      rcases List.mem_cons.1 hp with rfl | hp
      · simp at hx
      · exact splitL_no c t p hp x hx
    · rw [if_neg h] at hp
      rcases e : splitL c t with _ | ⟨q, qs⟩
      · exact absurd e (splitL_ne _ _)
      · rw [e] at hp
        rcases List.mem_cons.1 hp with rfl | hp
        · rcases List.mem_cons.1 hx with rfl | hx
          · exact h
          · exact splitL_no c t q (by rw [e]; simp) x hx
        · exact splitL_no c t p (by rw [e]; exact List.mem_cons_of_mem _ hp) x hx
theorem join_cons (s : Tx) (x : Tx) (r : List Tx) (h : r ≠ []) : joinT s (x :: r) = x ++ s ++ joinT s r := by
  rcases r with _ | ⟨y, r⟩
  · exact absurd rfl h
  · unfold joinT
    rw [joinGo, joinGo, joinGo]
    simp
theorem join_split (s : UInt8) : ∀ t : Tx, joinT [s] (splitL (s.toNat : Int) t) = t
  | [] => rfl
  | x :: t => by
    have ih := join_split s t
    rw [splitL]
    by_cases h : (x.toNat : Int) = (s.toNat : Int)
    · rw [if_pos h, join_cons _ _ _ (splitL_ne _ _), ih, u8_same h]; rfl
    · rw [if_neg h]
      rcases e : splitL (s.toNat : Int) t with _ | ⟨q, qs⟩
      · exact absurd e (splitL_ne _ _)
      · rw [e] at ih
        simp only
        unfold joinT at ih ⊢
        rw [joinGo] at ih ⊢
        simp only [if_true] at ih ⊢
        rw [List.cons_append, ih]
theorem split_join (s : UInt8) : ∀ l : List Tx, l ≠ [] → (∀ p ∈ l, ∀ x ∈ p, x ≠ s) → splitL (s.toNat : Int) (joinT [s] l) = l
  | [], h, _ => absurd rfl h
  | [x], _, hn => by
    have : joinT [s] [x] = x := by unfold joinT; rw [joinGo, joinGo]; simp
    rw [this]
    exact splitL_one _ _ fun y hy e => hn x (by simp) y hy (u8_same e)
  | x :: y :: r, _, hn => by
    rw [join_cons _ _ _ (by simp), splitL_mid, split_join s (y :: r) (by simp) fun p hp => hn p (List.mem_cons_of_mem _ hp), splitL_one _ _ fun z hz e => hn x (by simp) z hz (u8_same e)]
    rfl
theorem cut_mid : ∀ (a b : Tx), (∀ x ∈ a, x ≠ 64) → cutR 64 (a ++ [64] ++ b) = (a, b, true)
  | [], b, _ => by simp [cutR]
  | x :: a, b, h => by
    have h1 : ¬ (x.toNat : Int) = 64 := fun e => h x (by simp) (u8_same (s := 64) (by simpa using e))
    rw [List.cons_append, List.cons_append, cutR, if_neg h1, cut_mid a b fun y hy => h y (List.mem_cons_of_mem _ hy)]
theorem cut_eq : ∀ (l h v : Tx), cutR 64 l = (h, v, true) → l = h ++ [64] ++ v ∧ ∀ x ∈ h, x ≠ 64
  | [], h, v, e => by simp [cutR] at e
  | x :: r, h, v, e => by
    rw [cutR] at e
    by_cases h1 : (x.toNat : Int) = 64
    · rw [if_pos h1] at e
      simp only [Prod.mk.injEq, and_true] at e
      obtain ⟨rfl, rfl⟩ := e
      exact ⟨by rw [u8_same (x := x) (s := 64) (by simpa using h1)]; rfl, by simp⟩
    · rw [if_neg h1] at e
      rcases hc : cutR 64 r with ⟨h2, v2, b2⟩
      rw [hc] at e
      simp only [Prod.mk.injEq] at e
      obtain ⟨rfl, rfl, rfl⟩ := e
      obtain ⟨e1, e2⟩ := cut_eq r h2 v2 hc
      refine ⟨by rw [e1]; rfl, fun y hy => ?_⟩
      rcases List.mem_cons.1 hy with rfl | hy
      · intro e; subst e; exact h1 rfl
      · exact e2 y hy
theorem cut_none : ∀ (l h v : Tx), cutR 64 l = (h, v, false) → v = []
  | [], h, v, e => by simp [cutR] at e; exact e.2
  | x :: r, h, v, e => by
    rw [cutR] at e
    by_cases h1 : (x.toNat : Int) = 64
    · rw [if_pos h1] at e; simp at e
    · rw [if_neg h1] at e
      rcases hc : cutR 64 r with ⟨h2, v2, b2⟩
      rw [hc] at e
      simp only [Prod.mk.injEq] at e
      obtain ⟨_, rfl, rfl⟩ := e
      exact cut_none r h2 v2 hc

/-! ### versions as text -/
theorem part_text {l : Tx} (h : 0 ≤ partR l) : l = numT (partR l).toNat := by
  unfold partR at h ⊢
  by_cases hc : l.length < 1 ∨ 2 < l.length ∨ (l.length = 2 ∧ l.head? = some 48)
  · rw [if_pos hc] at h; exact absurd h (by decide)
  · rw [if_neg hc] at h ⊢
    match l, hc, h with
    | [], hc, _ => exact absurd (.inl (by simp)) hc
    | [a], hc, h =>
      rw [partGoR] at h ⊢
      by_cases ha : dig a = true
      · rw [if_pos ha] at h ⊢
        rw [partGoR] at h ⊢
        unfold dig at ha
        simp only [Bool.and_eq_true, decide_eq_true_eq] at ha
        have e : (10 * 0 + ((a.toNat : Int) - 48)).toNat = a.toNat - 48 := by omega
        unfold numT
        rw [e, if_pos (by omega)]
        have e2 : (48 + (a.toNat - 48)).toUInt8 = a := by
          rw [show 48 + (a.toNat - 48) = a.toNat by omega]
          exact UInt8.ofNat_toNat
        rw [e2]
      · rw [if_neg ha] at h; exact absurd h (by decide)
    | [a, b], hc, h =>
      rw [partGoR] at h ⊢
      by_cases ha : dig a = true
      · rw [if_pos ha] at h ⊢
        rw [partGoR] at h ⊢
        by_cases hb : dig b = true
        · rw [if_pos hb] at h ⊢
          rw [partGoR] at h ⊢
          unfold dig at ha hb
          simp only [Bool.and_eq_true, decide_eq_true_eq] at ha hb
          have ha0 : a.toNat ≠ 48 := fun e => hc (.inr (.inr ⟨by simp, by
            have : a = 48 := UInt8.toNat_inj.1 (by rw [e]; rfl)
            rw [this]; rfl⟩))
          have e : (10 * (10 * 0 + ((a.toNat : Int) - 48)) + ((b.toNat : Int) - 48)).toNat = 10 * (a.toNat - 48) + (b.toNat - 48) := by omega
          unfold numT
          rw [e, if_neg (by omega)]
          have e2 : (48 + (10 * (a.toNat - 48) + (b.toNat - 48)) / 10).toUInt8 = a := by
            rw [show 48 + (10 * (a.toNat - 48) + (b.toNat - 48)) / 10 = a.toNat by omega]
            exact UInt8.ofNat_toNat
          have e3 : (48 + (10 * (a.toNat - 48) + (b.toNat - 48)) % 10).toUInt8 = b := by
            rw [show 48 + (10 * (a.toNat - 48) + (b.toNat - 48)) % 10 = b.toNat by omega]
            exact UInt8.ofNat_toNat
          rw [e2, e3]
        · rw [if_neg hb] at h; exact absurd h (by decide)
      · rw [if_neg ha] at h; exact absurd h (by decide)
    | a :: b :: c :: r, hc, _ => exact absurd (.inr (.inl (by simp))) hc
theorem version_text {l : Tx} (h : (versionR l).2 = true) : l = vtx (versionR l).1 := by
  unfold versionR at h ⊢
  by_cases h8 : 8 < l.length
  · rw [if_pos h8] at h; exact absurd h (by simp)
  · rw [if_neg h8] at h ⊢
    by_cases h3 : (splitL 46 l).length ≠ 3
    · rw [if_pos h3] at h; exact absurd h (by simp)
    · rw [if_neg h3] at h ⊢
      have hj := join_split 46 l
      have h46 : ((46 : UInt8).toNat : Int) = 46 := rfl
      rw [h46] at hj
      match e : splitL 46 l, h3 with
      | [x, y, z], _ =>
        rw [e] at h hj
        simp only [List.getD_cons_zero, List.getD_cons_succ, Bool.and_eq_true, decide_eq_true_eq] at h ⊢
        rw [join_cons _ _ _ (by simp), join_cons _ _ _ (by simp)] at hj
        have hz : joinT [46] [z] = z := by unfold joinT; rw [joinGo, joinGo]; simp
        rw [hz] at hj
        unfold vtx verT
        rw [← part_text h.1.1, ← part_text h.1.2, ← part_text h.2, ← hj]
        simp
      | [], h3 => exact absurd (by simp) h3
      | [_], h3 => exact absurd (by simp) h3
      | [_, _], h3 => exact absurd (by simp) h3
      | _ :: _ :: _ :: _ :: _, h3 => exact absurd (by simp) h3

def txtD (st : List EntryD) (p : PackD) : Tx := p.path ++ [64] ++ vtx (verOf st p.of)
theorem text_join (st : List EntryD) : ∀ (l : List PackD) (b : Bool), textGo st b l = joinGo [59] b (l.map (txtD st))
  | [], _ => rfl
  | p :: r, b => by
    rw [textGo, List.map_cons, joinGo, text_join st r false]
    unfold txtD
    rcases b <;> simp
theorem textR_join (st : List EntryD) (l : List PackD) : textR st l = joinT [59] (l.map (txtD st)) := text_join st l true

end Hst
end Go.Proofs.YtecocheolbkneaaDoor
