/- Mpath, Mchoose, Drun -/
import Derived.Test.YtecocheolbkneaaDoorW05
import Derived.Test.YtecocheolbkneaaDoorW02
namespace Go.Proofs.YtecocheolbkneaaDoor
namespace Hst

/-! ### folders -/
theorem foldersGo_take (p : Tx) (m : Nat) (hm : m ≤ p.length) : ∀ j, j < m → foldersGo (p.take m) j = foldersGo p j
  | 0, _ => by simp [foldersGo, isEnd]
  | j + 1, h => by
    have e : isEnd (p.take m) (j + 1) = isEnd p (j + 1) := by
      have h1 : (p.take m).length = m := by simp; omega
      have h2 : (p.take m).getD (j + 1) 0 = p.getD (j + 1) 0 := by
        simp [List.getD, h]
      have h3 : ¬ j + 1 = m := by omega
      have h4 : ¬ j + 1 = p.length := by omega
      unfold isEnd
      rw [h1, h2]
      simp [h3, h4]
    rw [foldersGo, foldersGo, e, foldersGo_take p m hm j (by omega), List.take_take, Nat.min_eq_left (by omega)]
theorem foldersR_nil : foldersR [] = [[]] := by simp [foldersR, foldersGo, isEnd]
theorem foldersR_self (p : Tx) (n : Nat) (h : p.length = n + 1) : foldersR p = p :: foldersGo p n := by
  have e : isEnd p (n + 1) = true := by simp [isEnd, h]
  unfold foldersR
  rw [h, foldersGo, if_pos e, List.take_of_length_le (by omega)]
theorem foldersGo_folder (p : Tx) : ∀ i, i < p.length → foldersGo p i = foldersR (folderGo p (i + 1))
  | 0, h => by
    rw [folderGo]
    have e : (if p.getD 0 0 = 47 then p.take 0 else folderGo p 0) = [] := by split <;> simp [folderGo]
    rw [e, foldersR_nil]
    simp [foldersGo, isEnd]
  | i + 1, h => by
    have h4 : ¬ i + 1 = p.length := by omega
    have e : isEnd p (i + 1) = decide (p.getD (i + 1) 0 = 47) := by
      unfold isEnd
      simp [h4]
    rw [folderGo, foldersGo, e]
    by_cases h47 : p.getD (i + 1) 0 = 47
    · rw [if_pos (by simp only [h47, decide_true]), if_pos h47, foldersR_self (p.take (i + 1)) i (by simp; omega), foldersGo_take p (i + 1) (by omega) i (by omega)]
    · rw [if_neg (by simp only [h47, decide_false]; simp), if_neg h47]
      exact foldersGo_folder p i (by omega)
theorem foldersR_cons (p : Tx) (h : p ≠ []) : foldersR p = p :: foldersR (folderP p) := by
  rcases hl : p.length with _ | n
  · exact absurd (List.length_eq_zero_iff.1 hl) h
  · rw [foldersR_self p n hl, foldersGo_folder p n (by omega)]
    unfold folderP
    rw [hl]
theorem folders_self (p : Tx) : p ∈ foldersR p := by
  by_cases h : p = []
  · subst h; rw [foldersR_nil]; simp
  · rw [foldersR_cons p h]; simp
theorem folders_trans : ∀ (n : Nat) (p f g : Tx), p.length ≤ n → f ∈ foldersR p → g ∈ foldersR f → g ∈ foldersR p
  | n, p, f, g, hn, hf, hg => by
    by_cases h : p = []
    · subst h
      rw [foldersR_nil] at hf
      rw [List.mem_singleton.1 hf] at hg
      exact hg
    · rw [foldersR_cons p h] at hf ⊢
      have hl := folderP_lt h
      rcases List.mem_cons.1 hf with rfl | hf
      · rw [foldersR_cons f h] at hg; exact hg
      · match n with
        | 0 => omega
        | n + 1 => exact List.mem_cons_of_mem _ (folders_trans n (folderP p) f g (by omega) hf hg)
theorem folders_nil : ∀ (n : Nat) (p : Tx), p.length ≤ n → [] ∈ foldersR p
  | n, p, hn => by
    by_cases h : p = []
    · subst h; rw [foldersR_nil]; simp
    · rw [foldersR_cons p h]
      have hl := folderP_lt h
      match n with
      | 0 => omega
      | n + 1 => exact List.mem_cons_of_mem _ (folders_nil n (folderP p) (by omega))

/-- No '/' in it. -/
def NoSl (n : Tx) : Prop := ∀ b ∈ n, b ≠ 47
theorem name_nosl {n : Tx} (h : isNameR n = true) : NoSl n := by
  unfold isNameR at h
  simp only [Bool.and_eq_true, List.all_eq_true] at h
  intro b hb e
  subst e
  have := h.2 47 hb
  simp [low] at this
theorem name_ne {n : Tx} (h : isNameR n = true) : n ≠ [] := by
  rintro rfl
  simp [isNameR] at h
theorem folderGo_nosl {n : Tx} (h : NoSl n) : ∀ i, i ≤ n.length → folderGo n i = []
  | 0, _ => rfl
  | i + 1, hi => by
    rw [folderGo, if_neg, folderGo_nosl h i (by omega)]
    rw [List.getD_eq_getElem?_getD, List.getElem?_eq_getElem (by omega)]
    exact h _ (List.getElem_mem _)
theorem folderGo_join {f n : Tx} (h : NoSl n) : ∀ i, f.length < i → i ≤ (f ++ [47] ++ n).length → folderGo (f ++ [47] ++ n) i = f
  | 0, h0, _ => by omega
  | i + 1, h0, hi => by
    rw [folderGo]
    by_cases e : i = f.length
    · subst e
      rw [if_pos (by simp [List.getD]), List.append_assoc, List.take_left']
      rfl
    · rw [if_neg, folderGo_join h i (by omega) (by omega)]
      simp only [List.append_assoc, List.length_append, List.length_cons, List.length_nil] at hi
      have e1 : (f ++ [47] ++ n).getD i 0 = n.getD (i - f.length - 1) 0 := by
        rw [List.getD_eq_getElem?_getD, List.getD_eq_getElem?_getD, List.getElem?_append_right (by simp; omega)]
        congr 2
        simp; omega
      rw [e1, List.getD_eq_getElem?_getD, List.getElem?_eq_getElem (by omega)]
      exact h _ (List.getElem_mem _)
theorem folder_join {f n : Tx} (h : NoSl n) : folderP (joinR f n) = f := by
  unfold joinR folderP
  by_cases e : f = []
  · rw [if_pos e, folderGo_nosl h _ (Nat.le_refl _), e]
  · rw [if_neg e, folderGo_join h _ (by simp) (Nat.le_refl _)]
theorem join_inj {f f' n n' : Tx} (h : NoSl n) (h' : NoSl n') (e : joinR f n = joinR f' n') : f = f' ∧ n = n' := by
  have e1 : f = f' := by rw [← folder_join (f := f) h, e, folder_join h']
  subst e1
  refine ⟨rfl, ?_⟩
  unfold joinR at e
  split at e
  · exact e
  · exact List.append_cancel_left e
theorem join_ne {f n : Tx} (h : n ≠ []) : joinR f n ≠ [] := by
  unfold joinR
  split
  · exact h
  · simp
theorem folders_join {f n : Tx} (h : NoSl n) (h0 : n ≠ []) : foldersR (joinR f n) = joinR f n :: foldersR f := by
  rw [foldersR_cons _ (join_ne h0), folder_join h]

/-! ### what stands at a path -/
theorem atGo_spec (path : Tx) : ∀ (l : List PackD) (i : Nat), (∃ k, atGo path i l = some (i + k) ∧ ∃ h : k < l.length, l[k].path = path) ∨ (atGo path i l = none ∧ ∀ p ∈ l, p.path ≠ path)
  | [], i => .inr ⟨rfl, by simp⟩
  | p :: r, i => by
    rw [atGo]
    by_cases h : p.path = path
    · exact .inl ⟨0, by rw [if_pos h]; rfl, by simp, by simpa using h⟩
    · rw [if_neg h]
      rcases atGo_spec path r (i + 1) with ⟨k, e, hk, hp⟩ | ⟨e, hn⟩
      · exact .inl ⟨k + 1, by rw [e]; congr 1; omega, by simpa using hk, by simpa using hp⟩
      · refine .inr ⟨e, fun q hq => ?_⟩
        rcases List.mem_cons.1 hq with rfl | hq
        · exact h
        · exact hn q hq
theorem atR_some {l : List PackD} {path : Tx} {k : Nat} (h : atR l path = some k) : k < l.length ∧ packAt l k ∈ l ∧ (packAt l k).path = path := by
  rcases atGo_spec path l 0 with ⟨j, e, hj, hp⟩ | ⟨e, _⟩
  · unfold atR at h
    rw [h] at e
    have e' : k = j := by simpa using e
    subst e'
    have e2 : packAt l k = l[k] := by unfold packAt; rw [List.getD_eq_getElem?_getD, List.getElem?_eq_getElem hj]; rfl
    rw [e2]
    exact ⟨hj, List.getElem_mem _, hp⟩
  · unfold atR at h
    rw [h] at e
    exact absurd e (by simp)
theorem atR_none {l : List PackD} {path : Tx} : atR l path = none ↔ ∀ p ∈ l, p.path ≠ path := by
  rcases atGo_spec path l 0 with ⟨j, e, hj, hp⟩ | ⟨e, hn⟩
  · unfold atR
    rw [e]
    constructor
    · intro h; exact absurd h (by simp)
    · intro h; exact absurd hp (h _ (List.getElem_mem _))
  · unfold atR
    rw [e]
    exact ⟨fun _ => hn, fun _ => rfl⟩
theorem atGo_app (path : Tx) (q : PackD) : ∀ (l : List PackD) (i : Nat), atGo path i (l ++ [q]) = match atGo path i l with
    | some k => some k
    | none => if q.path = path then some (i + l.length) else none
  | [], i => by simp [atGo]
  | p :: r, i => by
    rw [List.cons_append, atGo, atGo]
    by_cases h : p.path = path
    · rw [if_pos h, if_pos h]
    · rw [if_neg h, if_neg h, atGo_app path q r (i + 1)]
      rcases atGo path (i + 1) r with _ | k
      · simp only [List.length_cons]
        rw [show i + 1 + r.length = i + (r.length + 1) by omega]
      · rfl
theorem atR_app (l : List PackD) (q : PackD) (path : Tx) : atR (l ++ [q]) path = match atR l path with
    | some k => some k
    | none => if q.path = path then some l.length else none := by
  have := atGo_app path q l 0
  rw [Nat.zero_add] at this
  exact this
theorem packAt_app_lt {l : List PackD} {q : PackD} {k : Nat} (h : k < l.length) : packAt (l ++ [q]) k = packAt l k := by
  unfold packAt
  rw [List.getD_eq_getElem?_getD, List.getD_eq_getElem?_getD, List.getElem?_append_left h]
theorem packAt_app_eq (l : List PackD) (q : PackD) : packAt (l ++ [q]) l.length = q := by
  unfold packAt
  simp [List.getD_eq_getElem?_getD]

/-! ### what is found -/
theorem findR_eq (l : List PackD) (path name : Tx) : findR l path name = match atR l (joinR path name) with
    | some k => some k
    | none => if path = [] then none else findR l (folderP path) name := by
  unfold findR
  by_cases h : path = []
  · subst h
    rw [foldersR_nil, findGo]
    rcases atR l (joinR [] name) with _ | k
    · simp [findGo]
    · rfl
  · rw [foldersR_cons path h, findGo]
    rcases atR l (joinR path name) with _ | k
    · simp [h]
    · rfl
/-- What is found lies in a folder on the way. -/
theorem findGo_some {l : List PackD} {name : Tx} : ∀ {fs : List Tx} {k : Nat}, findGo l name fs = some k → k < l.length ∧ packAt l k ∈ l ∧ ∃ f ∈ fs, (packAt l k).path = joinR f name
  | [], k, h => by simp [findGo] at h
  | f :: r, k, h => by
    rw [findGo] at h
    rcases e : atR l (joinR f name) with _ | j
    · rw [e] at h
      obtain ⟨h1, h2, g, hg, h3⟩ := findGo_some h
      exact ⟨h1, h2, g, List.mem_cons_of_mem _ hg, h3⟩
    · rw [e] at h
      have e' : j = k := by simpa using h
      subst e'
      obtain ⟨h1, h2, h3⟩ := atR_some e
      exact ⟨h1, h2, f, by simp, h3⟩
theorem findR_some {l : List PackD} {path name : Tx} {k : Nat} (h : findR l path name = some k) : k < l.length ∧ packAt l k ∈ l ∧ ∃ f ∈ foldersR path, (packAt l k).path = joinR f name := findGo_some h
/-- One more package: it is found, or what was found before. -/
theorem findGo_app (l : List PackD) (q : PackD) (name : Tx) : ∀ fs : List Tx, (∀ f ∈ fs, joinR f name ≠ q.path) → findGo (l ++ [q]) name fs = findGo l name fs
  | [], _ => rfl
  | f :: r, h => by
    rw [findGo, findGo, atR_app]
    rcases e : atR l (joinR f name) with _ | k
    · simp only
      rw [if_neg (fun h' => h f (by simp) h'.symm)]
      exact findGo_app l q name r fun g hg => h g (List.mem_cons_of_mem _ hg)
    · rfl
theorem findR_app {l : List PackD} {q : PackD} {path name : Tx} (h : ∀ f ∈ foldersR path, joinR f name ≠ q.path) : findR (l ++ [q]) path name = findR l path name := findGo_app l q name _ h

/-! ### the program's tree and the document's -/
def toX (stx : List EntX) (p : PackD) : PkX := ⟨p.path, stx.getD p.of zeroE⟩
structure TreeSame (stx : List EntX) (l : List PackD) (t : List PkX) : Prop where
  mem : ∀ q, q ∈ t ↔ ∃ p ∈ l, toX stx p = q
  nd : l.Pairwise fun p q => p.path ≠ q.path
  rises : Rises (fun p => p.path) t
  len : t.length = l.length
  of : ∀ p ∈ l, p.of < stx.length
  nm : ∀ p ∈ l, isNameR (stx.getD p.of zeroE).name = true
  wf : ∀ p ∈ l, p.path = joinR (folderP p.path) (stx.getD p.of zeroE).name
theorem path_inj : ∀ {l : List PackD}, (l.Pairwise fun p q => p.path ≠ q.path) → ∀ p ∈ l, ∀ q ∈ l, p.path = q.path → p = q
  | [], _, _, h, _, _, _ => by simp at h
  | z :: r, hl, x, hx, y, hy, e => by
    have hl' := List.pairwise_cons.1 hl
    rcases List.mem_cons.1 hx with h1 | h1
    · rcases List.mem_cons.1 hy with h2 | h2
      · rw [h1, h2]
      · exact absurd (h1 ▸ e) (hl'.1 y h2)
    · rcases List.mem_cons.1 hy with h2 | h2
      · exact absurd (h2 ▸ e).symm (hl'.1 x h1)
      · exact path_inj hl'.2 x h1 y h2 e
theorem TreeSame.nil (stx : List EntX) : TreeSame stx [] [] := ⟨by simp, .nil, Rises.nil _, rfl, by simp, by simp, by simp⟩
theorem TreeSame.app {stx : List EntX} {l : List PackD} {t : List PkX} (h : TreeSame stx l t) {f : Tx} {k : Nat} (hk : k < stx.length) (hn : isNameR (stx.getD k zeroE).name = true) (h0 : atR l (joinR f (stx.getD k zeroE).name) = none) :
    TreeSame stx (l ++ [⟨joinR f (stx.getD k zeroE).name, k⟩]) (withP t ⟨joinR f (stx.getD k zeroE).name, stx.getD k zeroE⟩) := by
  have h0' := atR_none.1 h0
  refine ⟨fun q => ?_, ?_, ?_, ?_, ?_, ?_, ?_⟩
  · rw [withP, insX_mem, h.mem]
    constructor
    · rintro (rfl | ⟨p, hp, e⟩)
      · exact ⟨⟨joinR f (stx.getD k zeroE).name, k⟩, List.mem_append_right _ (List.mem_singleton.2 rfl), rfl⟩
      · exact ⟨p, List.mem_append_left _ hp, e⟩
    · rintro ⟨p, hp, e⟩
      rcases List.mem_append.1 hp with hp | hp
      · exact .inr ⟨p, hp, e⟩
      · rw [List.mem_singleton.1 hp] at e
        exact .inl e.symm
  · refine List.pairwise_append.2 ⟨h.nd, by simp, fun p hp q hq => ?_⟩
    rw [List.mem_singleton.1 hq]
    exact h0' p hp
  · refine insG_rises _ _ _ h.rises fun y hy => ?_
    obtain ⟨p, hp, rfl⟩ := (h.mem y).1 hy
    exact h0' p hp
  · rw [withP, insX_len, h.len]; simp
  · intro p hp
    rcases List.mem_append.1 hp with hp | hp
    · exact h.of p hp
    · rw [List.mem_singleton.1 hp]; exact hk
  · intro p hp
    rcases List.mem_append.1 hp with hp | hp
    · exact h.nm p hp
    · rw [List.mem_singleton.1 hp]; exact hn
  · intro p hp
    rcases List.mem_append.1 hp with hp | hp
    · exact h.wf p hp
    · rw [List.mem_singleton.1 hp]
      simp only
      rw [folder_join (name_nosl hn)]
theorem in_same {stx : List EntX} {l : List PackD} {t : List PkX} (h : TreeSame stx l t) {f name : Tx} (hn : NoSl name) : inP t f name = (atR l (joinR f name)).map fun k => toX stx (packAt l k) := by
  have key : ∀ q ∈ t, (decide (q.e.name = name) && decide (folderP q.path = f)) = true ↔ q.path = joinR f name := by
    intro q hq
    obtain ⟨p, hp, rfl⟩ := (h.mem q).1 hq
    have hw := h.wf p hp
    have hm := name_nosl (h.nm p hp)
    rw [Bool.and_eq_true]
    constructor
    · rintro ⟨e1, e2⟩
      have e1 := of_decide_eq_true e1
      have e2 := of_decide_eq_true e2
      rw [← e1, ← e2]; exact hw
    · intro e
      have e : p.path = joinR f name := e
      rw [hw] at e
      obtain ⟨e1, e2⟩ := join_inj hm hn e
      exact ⟨decide_eq_true e2, decide_eq_true e1⟩
  unfold inP
  rcases e : atR l (joinR f name) with _ | k
  · have h0 := atR_none.1 e
    rw [Option.map_none, List.find?_eq_none]
    intro q hq hc
    have := (key q hq).1 hc
    obtain ⟨p, hp, rfl⟩ := (h.mem q).1 hq
    exact h0 p hp this
  · obtain ⟨h1, h2, h3⟩ := atR_some e
    have hin : toX stx (packAt l k) ∈ t := (h.mem _).2 ⟨_, h2, rfl⟩
    rcases e2 : t.find? (fun p => decide (p.e.name = name) && decide (folderP p.path = f)) with _ | q
    · have := List.find?_eq_none.1 e2 _ hin
      exact absurd ((key _ hin).2 h3) this
    · have hq := List.mem_of_find?_eq_some e2
      have hc := List.find?_some e2
      have := (key q hq).1 hc
      obtain ⟨p, hp, rfl⟩ := (h.mem q).1 hq
      have e3 : p = packAt l k := path_inj h.nd p hp _ h2 (by rw [h3]; exact this)
      rw [e2, e3]; rfl
theorem find_same {stx : List EntX} {l : List PackD} {t : List PkX} (h : TreeSame stx l t) {name : Tx} (hn : NoSl name) : ∀ (n : Nat) (path : Tx), path.length ≤ n → findP t name path = (findR l path name).map fun k => toX stx (packAt l k)
  | n, path, hl => by
    rw [findP_eq, findR_eq]
    by_cases hp : path = []
    · subst hp
      rw [dif_pos rfl, in_same h hn]
      rcases atR l (joinR [] name) with _ | k
      · simp
      · rfl
    · rw [dif_neg hp, in_same h hn]
      rcases atR l (joinR path name) with _ | k
      · have := folderP_lt hp
        simp only [Option.map_none, if_neg hp]
        match n with
        | 0 => omega
        | n + 1 => exact find_same h hn n (folderP path) (by omega)
      · rfl
theorem hasAt_same {stx : List EntX} {l : List PackD} {t : List PkX} (h : TreeSame stx l t) (path : Tx) : hasAtP t path = (atR l path).isSome := by
  unfold hasAtP
  rcases e : atR l path with _ | k
  · have h0 := atR_none.1 e
    rw [Option.isSome_none, List.any_eq_false]
    intro q hq hc
    obtain ⟨p, hp, rfl⟩ := (h.mem q).1 hq
    exact h0 p hp (by simpa [toX] using hc)
  · obtain ⟨_, h2, h3⟩ := atR_some e
    rw [Option.isSome_some, List.any_eq_true]
    exact ⟨toX stx (packAt l k), (h.mem _).2 ⟨_, h2, rfl⟩, by simpa [toX] using h3⟩

end Hst
end Go.Proofs.YtecocheolbkneaaDoor
namespace Go.Proofs.YtecocheolbkneaaDoor
namespace Hst

/-- Two lists, element by element. -/
def All2 {α β : Type} (R : α → β → Prop) : List α → List β → Prop
  | [], [] => True
  | a :: x, b :: y => R a b ∧ All2 R x y
  | _, _ => False
theorem All2.len {α β : Type} {R : α → β → Prop} : ∀ {x : List α} {y : List β}, All2 R x y → x.length = y.length
  | [], [], _ => rfl
  | _ :: x, _ :: y, h => by simp [All2.len (x := x) (y := y) h.2]
  | [], _ :: _, h => False.elim h
  | _ :: _, [], h => False.elim h
theorem All2.app {α β : Type} {R : α → β → Prop} : ∀ {x : List α} {y : List β} {x' : List α} {y' : List β}, All2 R x y → All2 R x' y' → All2 R (x ++ x') (y ++ y')
  | [], [], _, _, _, k => k
  | _ :: x, _ :: y, _, _, h, k => ⟨h.1, All2.app (x := x) (y := y) h.2 k⟩
  | [], _ :: _, _, _, h, _ => False.elim h
  | _ :: _, [], _, _, h, _ => False.elim h
theorem All2.get {α β : Type} {R : α → β → Prop} : ∀ {x : List α} {y : List β}, All2 R x y → ∀ (i : Nat) (h : i < x.length) (h' : i < y.length), R x[i] y[i]
  | [], [], _, _, h, _ => by simp at h
  | _ :: x, _ :: y, h, 0, _, _ => h.1
  | _ :: x, _ :: y, h, i + 1, h1, h2 => All2.get (x := x) (y := y) h.2 i (by simpa using h1) (by simpa using h2)
  | [], _ :: _, h, _, _, _ => False.elim h
  | _ :: _, [], h, _, _, _ => False.elim h
theorem All2.mem {α β : Type} {R : α → β → Prop} : ∀ {x : List α} {y : List β}, All2 R x y → ∀ b ∈ y, ∃ a ∈ x, R a b
  | [], [], _, b, h => by simp at h
  | a :: x, c :: y, h, b, hb => by
    rcases List.mem_cons.1 hb with rfl | hb
    · exact ⟨a, by simp, h.1⟩
    · obtain ⟨a', ha, hr⟩ := All2.mem (x := x) (y := y) h.2 b hb
      exact ⟨a', List.mem_cons_of_mem _ ha, hr⟩
  | [], _ :: _, h, _, _ => False.elim h
  | _ :: _, [], h, _, _ => False.elim h
theorem All2.meml {α β : Type} {R : α → β → Prop} : ∀ {x : List α} {y : List β}, All2 R x y → ∀ a ∈ x, ∃ b ∈ y, R a b
  | [], [], _, b, h => by simp at h
  | c :: x, b :: y, h, a, hb => by
    rcases List.mem_cons.1 hb with rfl | hb
    · exact ⟨b, by simp, h.1⟩
    · obtain ⟨a', ha, hr⟩ := All2.meml (x := x) (y := y) h.2 a hb
      exact ⟨a', List.mem_cons_of_mem _ ha, hr⟩
  | [], _ :: _, h, _, _ => False.elim h
  | _ :: _, [], h, _, _ => False.elim h

structure NeedSame (n : NeedX) (d : NeedD) : Prop where
  name : n.name = d.name
  rng : rangeP d.rng = some n.spans
  text : n.text = d.name ++ d.rng
  isn : isNameR d.name = true
structure EntSame (e : EntX) (d : EntryD) : Prop where
  name : e.name = d.name
  ver : e.ver = place d.v
  val : Valid d.v
  isn : isNameR d.name = true
  nd : All2 NeedSame e.nd d.needs
  two : d.needs.Pairwise fun a b => a.name ≠ b.name
structure StockSame (stx : List EntX) (st : List EntryD) : Prop where
  all : All2 EntSame stx st
  one : ∀ i j, i < stx.length → j < stx.length → (stx.getD i zeroE).name = (stx.getD j zeroE).name → (stx.getD i zeroE).ver = (stx.getD j zeroE).ver → i = j

abbrev zeroD : EntryD := ⟨[], ⟨0, 0, 0⟩, []⟩
theorem StockSame.at {stx : List EntX} {st : List EntryD} (h : StockSame stx st) {k : Nat} (hk : k < stx.length) : EntSame (stx.getD k zeroE) (st.getD k zeroD) := by
  have hk' : k < st.length := by rw [← h.all.len]; exact hk
  rw [List.getD_eq_getElem?_getD, List.getD_eq_getElem?_getD, List.getElem?_eq_getElem hk, List.getElem?_eq_getElem hk']
  exact h.all.get k hk hk'
theorem StockSame.ver {stx : List EntX} {st : List EntryD} (h : StockSame stx st) {k : Nat} (hk : k < stx.length) : (stx.getD k zeroE).ver = place (verOf st k) ∧ Valid (verOf st k) := ⟨(h.at hk).ver, (h.at hk).val⟩
theorem fits_same {n : NeedX} {d : NeedD} (h : NeedSame n d) {v : V3} (hv : Valid v) : fitsP n.spans (place v) = fitR d.rng v := by
  rcases rangeP_law d.rng with ⟨e, _⟩ | ⟨sp, e, _, hl⟩
  · rw [h.rng] at e; exact absurd e (by simp)
  · rw [h.rng] at e
    have e' : n.spans = sp := by simpa using e
    rw [e', hl v hv]
theorem met_same {stx : List EntX} {st : List EntryD} {l : List PackD} {t : List PkX} (hs : StockSame stx st) (ht : TreeSame stx l t) {n : NeedX} {d : NeedD} (h : NeedSame n d) (path : Tx) : meetsP t path n = metR st l ⟨path, d⟩ := by
  unfold meetsP metR
  rw [h.name, find_same ht (name_nosl h.isn) path.length path (Nat.le_refl _)]
  simp only
  rcases e : findR l path d.name with _ | k
  · rfl
  · obtain ⟨_, h2, _⟩ := findR_some e
    obtain ⟨h3, h4⟩ := hs.ver (ht.of _ h2)
    simp only [Option.map_some]
    have e' : (toX stx (packAt l k)).e.ver = place (verOf st (packAt l k).of) := h3
    rw [e', fits_same h h4]

/-! ### the document's greatest -/
def Suits (st : List EntryD) (n : NeedD) (liked : Bool) (tree : List PackD) (j : Nat) : Prop := ((decide ((st.getD j zeroD).name = n.name) && fitR n.rng (st.getD j zeroD).v) = true) ∧ ((!liked) || favouredR tree j) = true
def GreatInv (st : List EntryD) (n : NeedD) (liked : Bool) (tree : List PackD) (best : Option Nat) (i : Nat) : Prop := match best with
  | none => ∀ j, j < i → ¬ Suits st n liked tree j
  | some b => b < i ∧ Suits st n liked tree b ∧ ∀ j, j < i → Suits st n liked tree j → place (verOf st j) ≤ place (verOf st b)
def overB (st : List EntryD) (best : Option Nat) (v : V3) : Bool := match best with
  | none => true
  | some b => belowB (verOf st b).a (verOf st b).b (verOf st b).c v.a v.b v.c
theorem gg_cons (n : NeedD) (liked : Bool) (tree : List PackD) (st : List EntryD) (best : Option Nat) (i : Nat) (e : EntryD) (r : List EntryD) : greatGo n liked tree st best i (e :: r) =
    if (decide (e.name = n.name) && fitR n.rng e.v) = true ∧ ((!liked) || favouredR tree i) = true ∧ overB st best e.v = true
    then greatGo n liked tree st (some i) (i + 1) r else greatGo n liked tree st best (i + 1) r := by
  cases best <;> rfl
theorem greatGo_spec (st : List EntryD) (n : NeedD) (liked : Bool) (tree : List PackD) (hv : ∀ j, j < st.length → Valid (verOf st j)) : ∀ (m i : Nat) (best : Option Nat), i + m = st.length → GreatInv st n liked tree best i → GreatInv st n liked tree (greatGo n liked tree st best i (st.drop i)) st.length
  | 0, i, best, hm, h => by
    rw [List.drop_of_length_le (by omega), greatGo]
    have : i = st.length := by omega
    rw [← this]; exact h
  | m + 1, i, best, hm, h => by
    have hi : i < st.length := by omega
    rw [List.drop_eq_getElem_cons hi, gg_cons]
    have eg : st[i] = st.getD i zeroD := by rw [List.getD_eq_getElem?_getD, List.getElem?_eq_getElem hi]; rfl
    rw [eg]
    have ev : (st.getD i zeroD).v = verOf st i := rfl
    by_cases hc : (decide ((st.getD i zeroD).name = n.name) && fitR n.rng (st.getD i zeroD).v) = true ∧ ((!liked) || favouredR tree i) = true ∧ overB st best (st.getD i zeroD).v = true
    · rw [if_pos hc]
      refine greatGo_spec st n liked tree hv m (i + 1) (some i) (by omega) ⟨by omega, ⟨hc.1, hc.2.1⟩, fun j hj hs => ?_⟩
      by_cases e : j = i
      · subst e; exact Int.le_refl _
      · rcases best with _ | b
        · exact absurd hs (h j (by omega))
        · have h3 := h.2.2 j (by omega) hs
          have h4 := hc.2.2
          simp only [overB] at h4
          rw [ev, below_place (hv b (by have := h.1; omega)) (hv i hi), decide_eq_true_eq] at h4
          omega
    · rw [if_neg hc]
      refine greatGo_spec st n liked tree hv m (i + 1) best (by omega) ?_
      rcases best with _ | b
      · intro j hj hs
        by_cases e : j = i
        · subst e; exact hc ⟨hs.1, hs.2, rfl⟩
        · exact h j (by omega) hs
      · refine ⟨by have := h.1; omega, h.2.1, fun j hj hs => ?_⟩
        by_cases e : j = i
        · subst e
          refine Int.not_lt.1 fun hlt => hc ⟨hs.1, hs.2, ?_⟩
          simp only [overB]
          rw [ev, below_place (hv b (by have := h.1; omega)) (hv j hi), decide_eq_true_eq]
          exact hlt
        · exact h.2.2 j (by omega) hs
theorem greatest_spec (st : List EntryD) (n : NeedD) (liked : Bool) (tree : List PackD) (hv : ∀ j, j < st.length → Valid (verOf st j)) : GreatInv st n liked tree (greatestR st n liked tree) st.length :=
  greatGo_spec st n liked tree hv st.length 0 none (by omega) (fun j hj => by omega)

/-! ### the program's choose -/
def rank (fav : List PkX) (e : EntX) : Int := (if hasP fav e.name e.ver = true then 1000000 else 0) + e.ver
theorem better_rank {fav : List PkX} {b e : EntX} (hb : 0 ≤ b.ver ∧ b.ver ≤ 999999) (he : 0 ≤ e.ver ∧ e.ver ≤ 999999) : (if hasP fav e.name e.ver = hasP fav b.name b.ver then decide (b.ver < e.ver) else hasP fav e.name e.ver) = decide (rank fav b < rank fav e) := by
  unfold rank
  rcases hasP fav e.name e.ver with _ | _ <;> rcases hasP fav b.name b.ver with _ | _
  · simp
  · simp; omega
  · simp; omega
  · simp
theorem chooseGo_spec (fav : List PkX) : ∀ (l : List EntX) (best : EntX) (bf found : Bool), (∀ e ∈ l, 0 ≤ e.ver ∧ e.ver ≤ 999999) → (found = true → bf = hasP fav best.name best.ver ∧ 0 ≤ best.ver ∧ best.ver ≤ 999999) →
    ((chooseGo fav best bf found l).2 = (found || !l.isEmpty)) ∧ ((chooseGo fav best bf found l).2 = true → ((chooseGo fav best bf found l).1 ∈ l ∨ (found = true ∧ (chooseGo fav best bf found l).1 = best)) ∧ (∀ e ∈ l, rank fav e ≤ rank fav (chooseGo fav best bf found l).1) ∧ (found = true → rank fav best ≤ rank fav (chooseGo fav best bf found l).1))
  | [], best, bf, found, _, _ => by
    rw [chooseGo]
    refine ⟨by simp, fun h => ⟨.inr ⟨h, rfl⟩, by simp, fun _ => Int.le_refl _⟩⟩
  | e :: r, best, bf, found, hl, hb => by
    have he := hl e (by simp)
    have hr : ∀ x ∈ r, 0 ≤ x.ver ∧ x.ver ≤ 999999 := fun x hx => hl x (List.mem_cons_of_mem _ hx)
    rw [chooseGo]
    by_cases hc : (!found || (if hasP fav e.name e.ver = bf then decide (best.ver < e.ver) else hasP fav e.name e.ver)) = true
    · rw [if_pos hc]
      obtain ⟨h1, h2⟩ := chooseGo_spec fav r e (hasP fav e.name e.ver) true hr fun _ => ⟨rfl, he⟩
      rw [h1]
      refine ⟨by simp, fun _ => ?_⟩
      obtain ⟨h3, h4, h5⟩ := h2 (by rw [h1]; rfl)
      refine ⟨?_, fun x hx => ?_, fun hf => ?_⟩
      · rcases h3 with h3 | ⟨_, h3⟩
        · exact .inl (List.mem_cons_of_mem _ h3)
        · exact .inl (by rw [h3]; simp)
      · rcases List.mem_cons.1 hx with rfl | hx
        · exact h5 rfl
        · exact h4 x hx
      · subst hf
        obtain ⟨rfl, hb2⟩ := hb rfl
        rw [better_rank hb2 he] at hc
        have hc' : rank fav best < rank fav e := by simpa using hc
        have := h5 rfl
        omega
    · rw [if_neg hc]
      rcases hf : found with _ | _
      · rw [hf] at hc; simp at hc
      · obtain ⟨rfl, hb2⟩ := hb hf
        rw [hf, better_rank hb2 he] at hc
        have hc' : ¬ rank fav best < rank fav e := by simpa using hc
        obtain ⟨h1, h2⟩ := chooseGo_spec fav r best (hasP fav best.name best.ver) true hr fun _ => ⟨rfl, hb2⟩
        rw [h1]
        refine ⟨by simp, fun _ => ?_⟩
        obtain ⟨h3, h4, h5⟩ := h2 (by rw [h1]; rfl)
        refine ⟨?_, fun x hx => ?_, fun _ => h5 rfl⟩
        · rcases h3 with h3 | h3
          · exact .inl (List.mem_cons_of_mem _ h3)
          · exact .inr h3
        · rcases List.mem_cons.1 hx with rfl | hx
          · have := h5 rfl; omega
          · exact h4 x hx

theorem fav_same {stx : List EntX} {st : List EntryD} {tree : List PackD} {fav : List PkX} (hs : StockSame stx st) (ht : TreeSame stx tree fav) {k : Nat} (hk : k < stx.length) : favouredR tree k = hasP fav (stx.getD k zeroE).name (stx.getD k zeroE).ver := by
  rw [Bool.eq_iff_iff]
  unfold favouredR hasP
  rw [List.any_eq_true, List.any_eq_true]
  constructor
  · rintro ⟨p, hp, e⟩
    have e := of_decide_eq_true e
    refine ⟨toX stx p, (ht.mem _).2 ⟨p, hp, rfl⟩, ?_⟩
    unfold toX
    rw [e]; simp
  · rintro ⟨q, hq, e⟩
    obtain ⟨p, hp, rfl⟩ := (ht.mem q).1 hq
    rw [Bool.and_eq_true] at e
    exact ⟨p, hp, decide_eq_true (hs.one _ _ (ht.of p hp) hk (of_decide_eq_true e.1) (of_decide_eq_true e.2))⟩
theorem StockSame.val {stx : List EntX} {st : List EntryD} (h : StockSame stx st) : ∀ j, j < st.length → Valid (verOf st j) := fun j hj => (h.ver (by rw [h.all.len]; exact hj)).2
theorem suits_fit {stx : List EntX} {st : List EntryD} (hs : StockSame stx st) {n : NeedX} {d : NeedD} (h : NeedSame n d) {j : Nat} (hj : j < stx.length) : (decide ((stx.getD j zeroE).name = n.name) && fitsP n.spans (stx.getD j zeroE).ver) = (decide ((st.getD j zeroD).name = d.name) && fitR d.rng (st.getD j zeroD).v) := by
  obtain ⟨h1, h2⟩ := hs.ver hj
  rw [h1, fits_same h h2, (hs.at hj).name, h.name]
  rfl
theorem mem_fitting {stx : List EntX} {n : NeedX} {e : EntX} (h : e ∈ fittingP stx n) : ∃ j, j < stx.length ∧ stx.getD j zeroE = e ∧ (decide (e.name = n.name) && fitsP n.spans e.ver) = true := by
  obtain ⟨h1, h2⟩ := List.mem_filter.1 h
  obtain ⟨j, hj, e⟩ := List.mem_iff_getElem.1 h1
  exact ⟨j, hj, by rw [List.getD_eq_getElem?_getD, List.getElem?_eq_getElem hj]; exact e, h2⟩
/-- Choosing comes to the same. -/
theorem choose_same {stx : List EntX} {st : List EntryD} {tree : List PackD} {fav : List PkX} (hs : StockSame stx st) (ht : TreeSame stx tree fav) {n : NeedX} {d : NeedD} (h : NeedSame n d) :
    (chooseR st d tree = none ∧ (chooseP stx fav n).2 = false) ∨ ∃ k, chooseR st d tree = some k ∧ k < stx.length ∧ (chooseP stx fav n).2 = true ∧ (chooseP stx fav n).1 = stx.getD k zeroE ∧ (st.getD k zeroD).name = d.name ∧ fitR d.rng (verOf st k) = true := by
  have hlen : stx.length = st.length := hs.all.len
  have hbd : ∀ j, j < stx.length → 0 ≤ (stx.getD j zeroE).ver ∧ (stx.getD j zeroE).ver ≤ 999999 := fun j hj => by
    obtain ⟨h1, h2⟩ := hs.ver hj
    rw [h1]; exact place_bd h2
  have hfb : ∀ e ∈ fittingP stx n, 0 ≤ e.ver ∧ e.ver ≤ 999999 := fun e he => by
    obtain ⟨j, hj, rfl, _⟩ := mem_fitting he
    exact hbd j hj
  obtain ⟨c1, c2⟩ := chooseGo_spec fav (fittingP stx n) zeroE false false hfb (by simp)
  have g1 := greatest_spec st d true tree hs.val
  have g2 := greatest_spec st d false tree hs.val
  -- what fits, by index
  have hfit : ∀ j, j < stx.length → Suits st d false tree j → stx.getD j zeroE ∈ fittingP stx n := fun j hj hsu => by
    refine List.mem_filter.2 ⟨?_, ?_⟩
    · rw [List.getD_eq_getElem?_getD, List.getElem?_eq_getElem hj]; exact List.getElem_mem _
    · rw [suits_fit hs h hj]; exact hsu.1
  have hsuit : ∀ e ∈ fittingP stx n, ∃ j, j < stx.length ∧ stx.getD j zeroE = e ∧ Suits st d false tree j := fun e he => by
    obtain ⟨j, hj, rfl, hc⟩ := mem_fitting he
    exact ⟨j, hj, rfl, by rw [suits_fit hs h hj] at hc; exact hc, rfl⟩
  -- the one that has the greatest rank
  have fin : ∀ k, k < stx.length → Suits st d false tree k → (∀ j, j < stx.length → Suits st d false tree j → rank fav (stx.getD j zeroE) ≤ rank fav (stx.getD k zeroE)) → (chooseP stx fav n).2 = true ∧ (chooseP stx fav n).1 = stx.getD k zeroE := fun k hk hsu hmax => by
    have hin := hfit k hk hsu
    have hne : (fittingP stx n).isEmpty = false := by
      rcases e : fittingP stx n with _ | ⟨x, r⟩
      · rw [e] at hin; simp at hin
      · rfl
    have ht2 : (chooseGo fav zeroE false false (fittingP stx n)).2 = true := by rw [c1, hne]; rfl
    refine ⟨ht2, ?_⟩
    obtain ⟨h3, h4, _⟩ := c2 ht2
    rcases h3 with h3 | ⟨h3, _⟩
    · obtain ⟨j, hj, ej, hsj⟩ := hsuit _ h3
      have r1 := hmax j hj hsj
      have r2 := h4 _ hin
      rw [← ej] at r2
      have hr : rank fav (stx.getD j zeroE) = rank fav (stx.getD k zeroE) := Int.le_antisymm r1 r2
      have b1 := hbd j hj
      have b2 := hbd k hk
      have ev : (stx.getD j zeroE).ver = (stx.getD k zeroE).ver := by
        unfold rank at hr
        split at hr <;> split at hr <;> omega
      have en : (stx.getD j zeroE).name = (stx.getD k zeroE).name := by
        have e1 := hsj.1
        have e2 := hsu.1
        rw [Bool.and_eq_true] at e1 e2
        rw [(hs.at hj).name, (hs.at hk).name, of_decide_eq_true e1.1, of_decide_eq_true e2.1]
      have := hs.one j k hj hk en ev
      subst this
      exact ej.symm
    · exact absurd h3 (by simp)
  have nm : ∀ k, Suits st d false tree k → (st.getD k zeroD).name = d.name ∧ fitR d.rng (verOf st k) = true := fun k hsu => by
    have e1 := hsu.1
    rw [Bool.and_eq_true] at e1
    exact ⟨of_decide_eq_true e1.1, e1.2⟩
  unfold chooseR
  rcases e1 : greatestR st d true tree with _ | k
  · rw [e1] at g1
    rcases e2 : greatestR st d false tree with _ | k
    · rw [e2] at g2
      refine .inl ⟨rfl, ?_⟩
      have hemp : fittingP stx n = [] := by
        rcases e : fittingP stx n with _ | ⟨x, r⟩
        · rfl
        · obtain ⟨j, hj, _, hsj⟩ := hsuit x (by rw [e]; simp)
          exact absurd hsj (g2 j (by omega))
      unfold chooseP
      rw [c1, hemp]; rfl
    · rw [e2] at g2
      have hk : k < stx.length := by have := g2.1; omega
      refine .inr ⟨k, rfl, hk, ?_⟩
      have nofav : ∀ j, j < stx.length → Suits st d false tree j → hasP fav (stx.getD j zeroE).name (stx.getD j zeroE).ver = false := fun j hj hsj => by
        rw [← fav_same hs ht hj]
        rcases ef : favouredR tree j with _ | _
        · rfl
        · exact absurd ⟨hsj.1, by rw [ef]; rfl⟩ (g1 j (by omega))
      obtain ⟨f1, f2⟩ := fin k hk g2.2.1 fun j hj hsj => by
        have h3 := g2.2.2 j (by omega) hsj
        unfold rank
        rw [nofav j hj hsj, nofav k hk g2.2.1, (hs.ver hj).1, (hs.ver hk).1]
        simpa using h3
      exact ⟨f1, f2, nm k g2.2.1⟩
  · rw [e1] at g1
    have hk : k < stx.length := by have := g1.1; omega
    have hsk : Suits st d false tree k := ⟨g1.2.1.1, rfl⟩
    have hfk : hasP fav (stx.getD k zeroE).name (stx.getD k zeroE).ver = true := by
      rw [← fav_same hs ht hk]
      have := g1.2.1.2
      simpa using this
    refine .inr ⟨k, rfl, hk, ?_⟩
    obtain ⟨f1, f2⟩ := fin k hk hsk fun j hj hsj => by
      have bj := hbd j hj
      have bk := hbd k hk
      unfold rank
      rw [hfk]
      rcases ef : hasP fav (stx.getD j zeroE).name (stx.getD j zeroE).ver with _ | _
      · rw [if_neg (by simp), if_pos rfl]; omega
      · have h3 := g1.2.2 j (by omega) ⟨hsj.1, by rw [fav_same hs ht hj, ef]; rfl⟩
        rw [(hs.ver hj).1, (hs.ver hk).1]
        simpa using h3
    exact ⟨f1, f2, nm k hsk⟩

end Hst
end Go.Proofs.YtecocheolbkneaaDoor
namespace Go.Proofs.YtecocheolbkneaaDoor
namespace Hst

/-- One step of building: who is next. -/
def stepD (st : List EntryD) (tree l : List PackD) (done todo : List WhoD) (x : WhoD) : (List PackD × List WhoD × List WhoD) × Int :=
  if metR st l x = true then ((l, done ++ [x], todo), 0) else
  match chooseR st x.n tree with
  | none => ((l, done, todo), 8)
  | some k => if 40 ≤ l.length then ((l, done, todo), 9) else
    ((layR st l x k done, done ++ [x], todo ++ allR st [] ((layR st l x k done).drop ((layR st l x k done).length - 1))), 0)
/-- Building over the list with an index (as the text has it): the whole list, from place i on. -/
def buildI (st : List EntryD) (tree : List PackD) : Nat → Nat → List PackD → List WhoD → List WhoD → Option (List PackD) × Int
  | 0, _, _, _, _ => (none, 9)
  | f + 1, i, l, done, todo => match todo[i]? with
    | none => (some l, 0)
    | some x => if (stepD st tree l done todo x).2 = 0 then buildI st tree f (i + 1) (stepD st tree l done todo x).1.1 (stepD st tree l done todo x).1.2.1 (stepD st tree l done todo x).1.2.2 else (none, (stepD st tree l done todo x).2)
theorem buildI_go (st : List EntryD) (tree : List PackD) : ∀ (f i : Nat) (l : List PackD) (done todo : List WhoD), i ≤ todo.length → buildI st tree f i l done todo = buildGo st tree f l done (todo.drop i)
  | 0, i, l, done, todo, _ => by simp [buildI, buildGo]
  | f + 1, i, l, done, todo, hi => by
    rw [buildI]
    by_cases h : i < todo.length
    · rw [List.getElem?_eq_getElem h, List.drop_eq_getElem_cons h]
      simp only
      rw [buildGo]
      unfold stepD
      by_cases hm : metR st l todo[i] = true
      · rw [if_pos hm, if_pos hm]
        simp only
        rw [if_pos trivial]
        exact buildI_go st tree f (i + 1) l _ todo (by omega)
      · rw [if_neg hm, if_neg hm]
        rcases hc : chooseR st todo[i].n tree with _ | k
        · simp
        · simp only
          by_cases h40 : 40 ≤ l.length
          · rw [if_pos h40, if_pos h40]; simp
          · rw [if_neg h40, if_neg h40]
            simp only
            rw [if_pos trivial, buildI_go st tree f (i + 1) _ _ _ (by simp; omega)]
            congr 1
            rw [List.drop_append_of_le_length (by omega)]
    · rw [List.getElem?_eq_none (by omega), List.drop_of_length_le (by omega)]
      rfl

/-- The state in front of the i-th who. -/
def runD (st : List EntryD) (tree : List PackD) (nd : List NeedD) : Nat → Option (List PackD × List WhoD × List WhoD)
  | 0 => some ([], [], allR st nd [])
  | i + 1 => match runD st tree nd i with
    | none => none
    | some q => match q.2.2[i]? with
      | none => none
      | some x => if (stepD st tree q.1 q.2.1 q.2.2 x).2 = 0 then some (stepD st tree q.1 q.2.1 q.2.2 x).1 else none
/-- The path of who needs always will do: so something is laid each time. -/
def LaysWell (st : List EntryD) (tree : List PackD) (nd : List NeedD) : Prop := ∀ i q x k, runD st tree nd i = some q → q.2.2[i]? = some x → metR st q.1 x = false → chooseR st x.n tree = some k → ¬ 40 ≤ q.1.length → (layR st q.1 x k q.2.1).length = q.1.length + 1
theorem runD_succ {st : List EntryD} {tree : List PackD} {nd : List NeedD} {i : Nat} {q : List PackD × List WhoD × List WhoD} {x : WhoD} (h : runD st tree nd i = some q) (hx : q.2.2[i]? = some x) (h0 : (stepD st tree q.1 q.2.1 q.2.2 x).2 = 0) : runD st tree nd (i + 1) = some (stepD st tree q.1 q.2.1 q.2.2 x).1 := by
  rw [runD, h]; simp only; rw [hx]; simp only; rw [if_pos h0]
theorem layGo_form (st : List EntryD) (l : List PackD) (w : WhoD) (k : Nat) (done : List WhoD) : ∀ fs : List Tx, layGo st l w k done fs = l ∨ ∃ f ∈ fs, layGo st l w k done fs = l ++ [⟨joinR f w.n.name, k⟩]
  | [] => .inl rfl
  | f :: r => by
    rw [layGo]
    split
    · exact .inr ⟨f, by simp, rfl⟩
    · rcases layGo_form st l w k done r with h | ⟨g, hg, h⟩
      · exact .inl h
      · exact .inr ⟨g, by simp [hg], h⟩

end Hst
end Go.Proofs.YtecocheolbkneaaDoor
