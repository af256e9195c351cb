/- Kflat, Kshuf -/
import Derived.Test.YtecocheolbkneaaDoorW10
namespace Go.Proofs.YtecocheolbkneaaDoor
namespace Hst
set_option maxRecDepth 100000

def ver1 : Tx := [49, 46, 48, 46, 48]
/-- The names that are needed, and so on (with fuel). -/
def reachGo (items : List ItemX) : Nat → List Tx → List WantX → Option (List Tx)
  | 0, _, _ => none
  | _ + 1, out, [] => some out
  | f + 1, out, x :: r => if hasR out (nameK x.name) = true then reachGo items f out r else
    match items.find? (isHead (nameK x.name) ver1) with
    | none => none
    | some it => reachGo items f (out ++ [nameK x.name]) (r ++ it.wants)
def reachedK (items : List ItemX) (l : List WantX) : Option (List Tx) := reachGo items 100 [] l
/-- The least of those above. -/
def nextGo (low : Tx) (next : Tx) : List Tx → Tx
  | [] => next
  | x :: r => nextGo low (if (less low x && (decide (next = []) || less x next)) = true then x else next) r
def flatGo (l : List Tx) : Nat → Bool → Tx → Tx
  | 0, _, _ => []
  | n + 1, first, low => (if first = true then [] else [59]) ++ (nextGo low [] l ++ [64] ++ ver1) ++ flatGo l n false (nextGo low [] l)
def flatK (l : List Tx) : Tx := flatGo l l.length true []

/-! ### what is reached -/
def ReachN (items : List ItemX) (l : List WantX) : Nat → Tx → Prop
  | 0, _ => False
  | n + 1, t => (∃ x ∈ l, nameK x.name = t) ∨ ∃ it ∈ items, ReachN items l n (nameK it.name) ∧ ∃ x ∈ it.wants, nameK x.name = t
def Reach (items : List ItemX) (l : List WantX) (t : Tx) : Prop := ∃ n, ReachN items l n t
theorem Reach.own {items : List ItemX} {l : List WantX} {x : WantX} (h : x ∈ l) : Reach items l (nameK x.name) := ⟨1, .inl ⟨x, h, rfl⟩⟩
theorem Reach.next {items : List ItemX} {l : List WantX} {it : ItemX} (hi : it ∈ items) (h : Reach items l (nameK it.name)) {x : WantX} (hx : x ∈ it.wants) : Reach items l (nameK x.name) := by
  obtain ⟨n, hn⟩ := h
  exact ⟨n + 1, .inr ⟨it, hi, hn, x, hx, rfl⟩⟩
theorem reach_ind {items : List ItemX} {l : List WantX} {M : Tx → Prop} (h1 : ∀ x ∈ l, M (nameK x.name)) (h2 : ∀ it ∈ items, M (nameK it.name) → ∀ x ∈ it.wants, M (nameK x.name)) : ∀ t, Reach items l t → M t := by
  have key : ∀ (n : Nat) (t : Tx), ReachN items l n t → M t := by
    intro n
    induction n with
    | zero => intro t h; exact False.elim h
    | succ n ih =>
      intro t h
      rcases h with ⟨x, hx, rfl⟩ | ⟨it, hi, hn, x, hx, rfl⟩
      · exact h1 x hx
      · exact h2 it hi (ih _ hn) x hx
  rintro t ⟨n, h⟩
  exact key n t h
/-- Every package has one version, everyone takes any. -/
structure OneEach (items : List ItemX) : Prop where
  well : ItemsWell items
  ver : ∀ it ∈ items, it.major = 1 ∧ it.minor = 0
  star : ∀ it ∈ items, ∀ x ∈ it.wants, rngK x = [42]
theorem ver1_K : numberK 1 0 = ver1 := by decide
theorem OneEach.head {items : List ItemX} (h : OneEach items) {it : ItemX} (hi : it ∈ items) : headK it.name it.major it.minor = nameK it.name ++ [64] ++ ver1 := by
  obtain ⟨e1, e2⟩ := h.ver it hi
  unfold headK
  rw [e1, e2, ver1_K]
theorem OneEach.find {items : List ItemX} (h : OneEach items) (t : Tx) : (∃ it ∈ items, nameK it.name = t ∧ items.find? (isHead t ver1) = some it) ∨ (items.find? (isHead t ver1) = none ∧ ∀ it ∈ items, nameK it.name ≠ t) := by
  rcases e : items.find? (isHead t ver1) with _ | it
  · refine .inr ⟨rfl, fun it hi en => ?_⟩
    have := List.find?_eq_none.1 e it hi
    exact this (decide_eq_true (by rw [h.head hi, en]))
  · have hi := List.mem_of_find?_eq_some e
    have hp' := List.find?_some e
    have hp : headK it.name it.major it.minor = t ++ [64] ++ ver1 := of_decide_eq_true hp'
    rw [h.head hi] at hp
    have := List.append_cancel_right (List.append_cancel_right hp)
    exact .inl ⟨it, hi, this, rfl⟩
theorem OneEach.inj {items : List ItemX} (h : OneEach items) {a b : ItemX} (ha : a ∈ items) (hb : b ∈ items) (e : nameK a.name = nameK b.name) : a = b := pw_head h.well.two ha hb (by rw [h.head ha, h.head hb, e])
def allNames : List Tx := [[97], [98], [99], [100], [101, 102], [120, 121, 122]]
theorem nameK_all (k : Int) : nameK k ∈ allNames := by
  have : ∀ i : Fin 8, nameL.getD i.1 [] ∈ allNames := by decide
  exact this ⟨pickZ k 8, pickZ_lt k (by omega)⟩
theorem names_six {out : List Tx} (h : out.Nodup) (ho : ∀ t ∈ out, t ∈ allNames) : out.length ≤ 6 := nodup_len out allNames h ho
structure RInv (items : List ItemX) (l : List WantX) (out : List Tx) (todo : List WantX) : Prop where
  nd : out.Nodup
  inn : ∀ t ∈ out, Reach items l t ∧ ∃ it ∈ items, nameK it.name = t
  td : ∀ x ∈ todo, Reach items l (nameK x.name)
  cl : ∀ it ∈ items, nameK it.name ∈ out → ∀ x ∈ it.wants, nameK x.name ∈ out ∨ ∃ y ∈ todo, nameK y.name = nameK x.name
  own : ∀ x ∈ l, nameK x.name ∈ out ∨ ∃ y ∈ todo, nameK y.name = nameK x.name
theorem RInv.six {items : List ItemX} {l : List WantX} {out : List Tx} {todo : List WantX} (h : RInv items l out todo) : out.length ≤ 6 := names_six h.nd fun t ht => by
  obtain ⟨it, _, rfl⟩ := (h.inn t ht).2
  exact nameK_all _
theorem RInv.start (items : List ItemX) (l : List WantX) : RInv items l [] l := ⟨List.nodup_nil, by simp, fun x hx => Reach.own hx, by simp, fun x hx => .inr ⟨x, hx, rfl⟩⟩
theorem RInv.old {items : List ItemX} {l : List WantX} {out : List Tx} {x : WantX} {r : List WantX} (h : RInv items l out (x :: r)) (ho : nameK x.name ∈ out) : RInv items l out r := by
  refine ⟨h.nd, h.inn, fun y hy => h.td y (List.mem_cons_of_mem _ hy), fun it hi hit y hy => ?_, fun y hy => ?_⟩
  · rcases h.cl it hi hit y hy with h1 | ⟨z, hz, e⟩
    · exact .inl h1
    · rcases List.mem_cons.1 hz with rfl | hz
      · left; rw [← e]; exact ho
      · exact .inr ⟨z, hz, e⟩
  · rcases h.own y hy with h1 | ⟨z, hz, e⟩
    · exact .inl h1
    · rcases List.mem_cons.1 hz with rfl | hz
      · left; rw [← e]; exact ho
      · exact .inr ⟨z, hz, e⟩
theorem RInv.new {items : List ItemX} (h1 : OneEach items) {l : List WantX} {out : List Tx} {x : WantX} {r : List WantX} (h : RInv items l out (x :: r)) (ho : ¬ nameK x.name ∈ out) {it : ItemX} (hi : it ∈ items) (hn : nameK it.name = nameK x.name) : RInv items l (out ++ [nameK x.name]) (r ++ it.wants) := by
  have hx := h.td x (by simp)
  have fix : ∀ (t : Tx), (t ∈ out ∨ ∃ z ∈ x :: r, nameK z.name = t) → t ∈ out ++ [nameK x.name] ∨ ∃ z ∈ r ++ it.wants, nameK z.name = t := by
    rintro t (h2 | ⟨z, hz, e⟩)
    · exact .inl (List.mem_append_left _ h2)
    · rcases List.mem_cons.1 hz with rfl | hz
      · left; rw [← e]; simp
      · exact .inr ⟨z, List.mem_append_left _ hz, e⟩
  refine ⟨?_, fun t ht => ?_, fun y hy => ?_, fun j hj hit y hy => ?_, fun y hy => fix _ (h.own y hy)⟩
  · rw [List.nodup_append]
    refine ⟨h.nd, by simp, fun a ha b hb e => ?_⟩
    simp at hb
    subst hb e
    exact ho ha
  · rcases List.mem_append.1 ht with ht | ht
    · exact h.inn t ht
    · simp at ht
      subst ht
      exact ⟨hx, it, hi, hn⟩
  · rcases List.mem_append.1 hy with hy | hy
    · exact h.td y (List.mem_cons_of_mem _ hy)
    · exact Reach.next hi (by rw [hn]; exact hx) hy
  · rcases List.mem_append.1 hit with hit | hit
    · exact fix _ (h.cl j hj hit y hy)
    · simp at hit
      have : j = it := h1.inj hj hi (by rw [hit, hn])
      subst this
      exact .inr ⟨y, List.mem_append_right _ hy, rfl⟩
/-- What reached tells. -/
def ReachAns (items : List ItemX) (l : List WantX) (o : Option (List Tx)) : Prop := match o with
  | none => ∃ t, Reach items l t ∧ ∀ it ∈ items, nameK it.name ≠ t
  | some out => out.Nodup ∧ (∀ t, t ∈ out ↔ Reach items l t) ∧ ∀ t ∈ out, ∃ it ∈ items, nameK it.name = t
theorem reachGo_spec {items : List ItemX} (h1 : OneEach items) {l : List WantX} : ∀ (f : Nat) (out : List Tx) (todo : List WantX), RInv items l out todo → 7 * (6 - out.length) + todo.length < f → ReachAns items l (reachGo items f out todo)
  | 0, out, todo, _, hf => by omega
  | f + 1, out, [], h, hf => by
    rw [reachGo]
    refine ⟨h.nd, fun t => ⟨fun ht => (h.inn t ht).1, fun ht => ?_⟩, fun t ht => (h.inn t ht).2⟩
    refine reach_ind (M := fun t => t ∈ out) (fun x hx => ?_) (fun it hi hit x hx => ?_) t ht
    · rcases h.own x hx with h2 | ⟨_, h2, _⟩
      · exact h2
      · simp at h2
    · rcases h.cl it hi hit x hx with h2 | ⟨_, h2, _⟩
      · exact h2
      · simp at h2
  | f + 1, out, x :: r, h, hf => by
    rw [reachGo]
    by_cases ho : nameK x.name ∈ out
    · rw [if_pos (hasR_mem.2 ho)]
      exact reachGo_spec h1 f out r (h.old ho) (by simp at hf; omega)
    · rw [if_neg (fun e => ho (hasR_mem.1 e))]
      rcases h1.find (nameK x.name) with ⟨it, hi, hn, e⟩ | ⟨e, hno⟩
      · rw [e]
        simp only
        have hnew := h.new h1 ho hi hn
        have h6 := hnew.six
        have hw := h1.well.six it hi
        refine reachGo_spec h1 f _ _ hnew ?_
        simp at hf h6 ⊢
        omega
      · rw [e]
        exact ⟨_, h.td x (by simp), hno⟩
theorem reached_spec {items : List ItemX} (h1 : OneEach items) {l : List WantX} (hl : l.length ≤ 6) : ReachAns items l (reachedK items l) := reachGo_spec h1 100 [] l (RInv.start items l) (by simp; omega)

/-! ### flat -/
theorem less_end (a : Tx) : less a [] = false := by
  cases a <;> rfl
def NextInv (low : Tx) (seen : List Tx) (next : Tx) : Prop := (next = [] ∧ ∀ x ∈ seen, less low x = false) ∨ (next ∈ seen ∧ less low next = true ∧ ∀ x ∈ seen, less low x = true → less x next = false)
theorem nextGo_spec (low : Tx) : ∀ (l seen : List Tx) (next : Tx), NextInv low seen next → NextInv low (seen ++ l) (nextGo low next l)
  | [], seen, next, h => by rw [List.append_nil]; exact h
  | x :: r, seen, next, h => by
    rw [nextGo]
    have e : seen ++ x :: r = (seen ++ [x]) ++ r := by simp
    rw [e]
    refine nextGo_spec low r (seen ++ [x]) _ ?_
    by_cases hx : less low x = true
    · rcases h with ⟨h1, h2⟩ | ⟨h1, h2, h3⟩
      · rw [if_pos (by rw [hx, h1]; rfl)]
        refine .inr ⟨by simp, hx, fun y hy hly => ?_⟩
        rcases List.mem_append.1 hy with hy | hy
        · rw [h2 y hy] at hly; exact absurd hly (by simp)
        · simp at hy; subst hy; exact less_irr y
      · have hne : next ≠ [] := fun e => by rw [e, less_end] at h2; exact absurd h2 (by simp)
        by_cases hlt : less x next = true
        · rw [if_pos (by rw [hx, hlt]; simp)]
          refine .inr ⟨by simp, hx, fun y hy hly => ?_⟩
          rcases List.mem_append.1 hy with hy | hy
          · have h4 := h3 y hy hly
            rcases hb : less y x with _ | _
            · rfl
            · rw [less_trans _ _ _ hb hlt] at h4; exact absurd h4 (by simp)
          · simp at hy; subst hy; exact less_irr y
        · rw [if_neg (by simp [hlt, hne])]
          refine .inr ⟨List.mem_append_left _ h1, h2, fun y hy hly => ?_⟩
          rcases List.mem_append.1 hy with hy | hy
          · exact h3 y hy hly
          · simp at hy; subst hy; simpa using hlt
    · have hx : less low x = false := by simpa using hx
      rw [if_neg (by simp [hx])]
      rcases h with ⟨h1, h2⟩ | ⟨h1, h2, h3⟩
      · refine .inl ⟨h1, fun y hy => ?_⟩
        rcases List.mem_append.1 hy with hy | hy
        · exact h2 y hy
        · simp at hy; subst hy; exact hx
      · refine .inr ⟨List.mem_append_left _ h1, h2, fun y hy hly => ?_⟩
        rcases List.mem_append.1 hy with hy | hy
        · exact h3 y hy hly
        · simp at hy; subst hy; rw [hx] at hly; exact absurd hly (by simp)
theorem next_at {l S : List Tx} (hS : S.Pairwise fun a b => less a b = true) (hm : ∀ t, t ∈ l ↔ t ∈ S) {k : Nat} (hk : k < S.length) {low : Tx} (hlow : ∀ t ∈ S.take k, less low t = false) (hup : ∀ t ∈ S.drop k, less low t = true) : nextGo low [] l = S[k] := by
  have h := nextGo_spec low l [] [] (.inl ⟨rfl, by simp⟩)
  rw [List.nil_append] at h
  have hSk : S[k] ∈ S.drop k := by rw [List.drop_eq_getElem_cons hk]; exact List.mem_cons_self
  rcases h with ⟨_, h2⟩ | ⟨h1, h2, h3⟩
  · have := h2 S[k] ((hm _).2 (List.getElem_mem hk))
    rw [hup _ hSk] at this
    exact absurd this (by simp)
  · have hin := (hm _).1 h1
    have h4 := h3 S[k] ((hm _).2 (List.getElem_mem hk)) (hup _ hSk)
    rw [← List.take_append_drop k S] at hin
    rcases List.mem_append.1 hin with hin | hin
    · rw [hlow _ hin] at h2; exact absurd h2 (by simp)
    · rw [List.drop_eq_getElem_cons hk] at hin
      rcases List.mem_cons.1 hin with hin | hin
      · exact hin
      · obtain ⟨j, hj, e⟩ := List.mem_iff_getElem.1 hin
        rw [List.getElem_drop] at e
        have := List.pairwise_iff_getElem.1 hS k (k + 1 + j) hk (by simp at hj; omega) (by omega)
        rw [e, h4] at this
        exact absurd this (by simp)
theorem flatGo_eq {l S : List Tx} (hS : S.Pairwise fun a b => less a b = true) (hm : ∀ t, t ∈ l ↔ t ∈ S) : ∀ (n k : Nat) (b : Bool) (low : Tx), k + n = S.length → (∀ t ∈ S.take k, less low t = false) → (∀ t ∈ S.drop k, less low t = true) → flatGo l n b low = joinGo [59] b ((S.drop k).map fun t => t ++ [64] ++ ver1)
  | 0, k, b, low, hn, _, _ => by rw [flatGo, List.drop_of_length_le (by omega)]; cases b <;> rfl
  | n + 1, k, b, low, hn, hlow, hup => by
    have hk : k < S.length := by omega
    have e := next_at hS hm hk hlow hup
    rw [flatGo, e]
    have ih := flatGo_eq hS hm n (k + 1) false S[k] (by omega) (fun t ht => ?_) (fun t ht => ?_)
    · rw [ih, List.drop_eq_getElem_cons hk, List.map_cons, joinGo]
      cases b <;> simp
    · obtain ⟨j, hj, rfl⟩ := List.mem_take_iff_getElem.1 ht
      by_cases e : j = k
      · subst e; exact less_irr _
      · exact less_asymm (List.pairwise_iff_getElem.1 hS j k (by omega) hk (by omega))
    · obtain ⟨j, hj, rfl⟩ := List.mem_iff_getElem.1 ht
      rw [List.getElem_drop]
      exact List.pairwise_iff_getElem.1 hS k (k + 1 + j) hk (by simp at hj; omega) (by omega)
theorem flat_eq {l S : List Tx} (hS : S.Pairwise fun a b => less a b = true) (hl : l.Nodup) (hm : ∀ t, t ∈ l ↔ t ∈ S) (hne : ∀ t ∈ S, t ≠ []) : flatK l = joinT [59] (S.map fun t => t ++ [64] ++ ver1) := by
  have hSn : S.Nodup := List.Pairwise.imp (fun h => less_ne h) hS
  have h1 := nodup_len l S hl fun t ht => (hm t).1 ht
  have h2 := nodup_len S l hSn fun t ht => (hm t).2 ht
  have hlen : l.length = S.length := by omega
  unfold flatK
  rw [hlen, flatGo_eq hS hm S.length 0 true [] (by omega) (by simp) (fun t ht => ?_)]
  · rfl
  · simp at ht
    have := hne t ht
    cases t with
    | nil => exact absurd rfl this
    | cons a r => rfl

end Hst
end Go.Proofs.YtecocheolbkneaaDoor
namespace Go.Proofs.YtecocheolbkneaaDoor
namespace Hst
set_option maxRecDepth 100000

/-- One stock, in another order. -/
structure Shuf (st st' : List EntryD) (s : Nat → Nat) : Prop where
  lt : ∀ k, k < st.length → s k < st'.length
  at' : ∀ k, k < st.length → st'.getD (s k) zeroD = st.getD k zeroD
  onto : ∀ j, j < st'.length → ∃ k, k < st.length ∧ s k = j
  inj : ∀ i k, i < st.length → k < st.length → s i = s k → i = k
  val : ∀ k, k < st.length → Valid (verOf st k)
  one : ∀ i k, i < st.length → k < st.length → (st.getD i zeroD).name = (st.getD k zeroD).name → place (verOf st i) = place (verOf st k) → i = k
def mvP (s : Nat → Nat) (p : PackD) : PackD := ⟨p.path, s p.of⟩
/-- The packages are of this stock. -/
def Of (st : List EntryD) (l : List PackD) : Prop := ∀ p ∈ l, p.of < st.length
theorem Shuf.ver {st st' : List EntryD} {s : Nat → Nat} (h : Shuf st st' s) {k : Nat} (hk : k < st.length) : verOf st' (s k) = verOf st k := by
  have := h.at' k hk
  have e1 : verOf st' (s k) = (st'.getD (s k) zeroD).v := rfl
  rw [e1, this]; rfl
theorem Shuf.needs {st st' : List EntryD} {s : Nat → Nat} (h : Shuf st st' s) {k : Nat} (hk : k < st.length) : needsOf st' (s k) = needsOf st k := by
  have := h.at' k hk
  have e1 : needsOf st' (s k) = (st'.getD (s k) zeroD).needs := rfl
  rw [e1, this]; rfl
theorem mv_at (s : Nat → Nat) (path : Tx) : ∀ (l : List PackD) (i : Nat), atGo path i (l.map (mvP s)) = atGo path i l
  | [], i => rfl
  | p :: r, i => by
    rw [List.map_cons, atGo, atGo, mv_at s path r]
    rfl
theorem mv_atR (s : Nat → Nat) (l : List PackD) (path : Tx) : atR (l.map (mvP s)) path = atR l path := mv_at s path l 0
theorem mv_findGo (s : Nat → Nat) (l : List PackD) (name : Tx) : ∀ fs : List Tx, findGo (l.map (mvP s)) name fs = findGo l name fs
  | [] => rfl
  | f :: r => by rw [findGo, findGo, mv_atR, mv_findGo s l name r]
theorem mv_find (s : Nat → Nat) (l : List PackD) (path name : Tx) : findR (l.map (mvP s)) path name = findR l path name := mv_findGo s l name _
theorem mv_pack (s : Nat → Nat) (l : List PackD) {k : Nat} (hk : k < l.length) : packAt (l.map (mvP s)) k = mvP s (packAt l k) := by
  unfold packAt
  rw [List.getD_eq_getElem?_getD, List.getD_eq_getElem?_getD, List.getElem?_map, List.getElem?_eq_getElem hk]
  rfl
theorem mv_path (s : Nat → Nat) (l : List PackD) {path name : Tx} {k : Nat} (hk : findR l path name = some k) : (packAt (l.map (mvP s)) k).path = (packAt l k).path := by
  rw [mv_pack s l (findR_some hk).1]; rfl
theorem mv_met {st st' : List EntryD} {s : Nat → Nat} (h : Shuf st st' s) {l : List PackD} (hl : Of st l) (x : WhoD) : metR st' (l.map (mvP s)) x = metR st l x := by
  unfold metR
  rw [mv_find]
  rcases e : findR l x.path x.n.name with _ | k
  · rfl
  · simp only
    rw [mv_pack s l (findR_some e).1]
    have : verOf st' (mvP s (packAt l k)).of = verOf st (packAt l k).of := h.ver (hl _ (findR_some e).2.1)
    rw [this]
theorem mv_all {st st' : List EntryD} {s : Nat → Nat} (h : Shuf st st' s) (nd : List NeedD) {l : List PackD} (hl : Of st l) : allR st' nd (l.map (mvP s)) = allR st nd l := by
  unfold allR
  congr 1
  rw [List.flatMap_map]
  have key : ∀ m : List PackD, (∀ p ∈ m, p ∈ l) → (m.flatMap fun p => (needsOf st' (mvP s p).of).map fun n => (⟨(mvP s p).path, n⟩ : WhoD)) = m.flatMap fun p => (needsOf st p.of).map fun n => (⟨p.path, n⟩ : WhoD) := by
    intro m
    induction m with
    | nil => intro _; rfl
    | cons p r ih =>
      intro hm
      rw [List.flatMap_cons, List.flatMap_cons, ih fun q hq => hm q (List.mem_cons_of_mem _ hq)]
      have : needsOf st' (mvP s p).of = needsOf st p.of := h.needs (hl p (hm p (by simp)))
      rw [this]; rfl
  exact key l fun p hp => hp
theorem mv_allMet {st st' : List EntryD} {s : Nat → Nat} (h : Shuf st st' s) {l : List PackD} (hl : Of st l) (w : List WhoD) : allMetR st' (l.map (mvP s)) w = allMetR st l w := by
  unfold allMetR
  congr 1
  funext x
  exact mv_met h hl x
theorem mv_pass (s : Nat → Nat) (l : List PackD) : ∀ (w : List WhoD) (used : List Tx) (more : Bool), passGo (l.map (mvP s)) used more w = passGo l used more w
  | [], used, more => rfl
  | x :: r, used, more => by
    rw [passGo, passGo, mv_find]
    rcases e : findR l x.path x.n.name with _ | k
    · simp only [mv_pass s l r]
    · simp only [mv_pass s l r, mv_path s l e]
theorem mv_use (s : Nat → Nat) (l : List PackD) (w : List WhoD) : ∀ (f : Nat) (used : List Tx), useGo (l.map (mvP s)) w f used = useGo l w f used
  | 0, used => rfl
  | f + 1, used => by rw [useGo, useGo, mv_pass, mv_use s l w f]
theorem mv_inUse {st st' : List EntryD} {s : Nat → Nat} (h : Shuf st st' s) (nd : List NeedD) {l : List PackD} (hl : Of st l) : inUseR st' nd (l.map (mvP s)) = inUseR st nd l := by
  unfold inUseR
  rw [mv_all h nd hl, mv_use, List.length_map]
theorem mv_placedGo (s : Nat → Nat) (p : PackD) : ∀ (l : List PackD) (b : Bool), placedGo (mvP s p) b (l.map (mvP s)) = (placedGo p b l).map (mvP s)
  | [], b => by cases b <;> rfl
  | x :: r, b => by
    rw [List.map_cons, placedGo, placedGo, mv_placedGo s p r true, mv_placedGo s p r b]
    have e : (b = false ∧ less (mvP s p).path (mvP s x).path = true) ↔ (b = false ∧ less p.path x.path = true) := Iff.rfl
    by_cases hc : b = false ∧ less p.path x.path = true
    · rw [if_pos hc, if_pos (e.2 hc)]; rfl
    · rw [if_neg hc, if_neg (fun h => hc (e.1 h))]; rfl
theorem mv_prunedGo (s : Nat → Nat) (used : List Tx) : ∀ (l out : List PackD), prunedGo used (out.map (mvP s)) (l.map (mvP s)) = (prunedGo used out l).map (mvP s)
  | [], out => rfl
  | p :: r, out => by
    rw [List.map_cons, prunedGo, prunedGo]
    have e : (mvP s p).path = p.path := rfl
    rw [e]
    split
    · have : placedR (out.map (mvP s)) (mvP s p) = (placedR out p).map (mvP s) := mv_placedGo s p out false
      rw [this, mv_prunedGo s used r]
    · exact mv_prunedGo s used r out
theorem mv_pruned {st st' : List EntryD} {s : Nat → Nat} (h : Shuf st st' s) (nd : List NeedD) {l : List PackD} (hl : Of st l) : prunedR st' nd (l.map (mvP s)) = (prunedR st nd l).map (mvP s) := by
  unfold prunedR
  rw [mv_inUse h nd hl]
  exact mv_prunedGo s _ l []
theorem mv_fav {st st' : List EntryD} {s : Nat → Nat} (h : Shuf st st' s) {l : List PackD} (hl : Of st l) {k : Nat} (hk : k < st.length) : favouredR (l.map (mvP s)) (s k) = favouredR l k := by
  unfold favouredR
  rw [Bool.eq_iff_iff, List.any_eq_true, List.any_eq_true]
  constructor
  · rintro ⟨q, hq, e⟩
    obtain ⟨p, hp, rfl⟩ := List.mem_map.1 hq
    exact ⟨p, hp, decide_eq_true (h.inj _ _ (hl p hp) hk (of_decide_eq_true e))⟩
  · rintro ⟨p, hp, e⟩
    have e' : p.of = k := of_decide_eq_true e
    exact ⟨mvP s p, List.mem_map.2 ⟨p, hp, rfl⟩, decide_eq_true (by unfold mvP; simp only; rw [e'])⟩
theorem mv_suits {st st' : List EntryD} {s : Nat → Nat} (h : Shuf st st' s) {l : List PackD} (hl : Of st l) {k : Nat} (hk : k < st.length) (n : NeedD) (b : Bool) : Suits st' n b (l.map (mvP s)) (s k) ↔ Suits st n b l k := by
  unfold Suits
  rw [h.at' k hk, mv_fav h hl hk]
theorem mv_great {st st' : List EntryD} {s : Nat → Nat} (h : Shuf st st' s) {l : List PackD} (hl : Of st l) (n : NeedD) (b : Bool) : greatestR st' n b (l.map (mvP s)) = (greatestR st n b l).map s := by
  have hv' : ∀ j, j < st'.length → Valid (verOf st' j) := fun j hj => by
    obtain ⟨k, hk, rfl⟩ := h.onto j hj
    rw [h.ver hk]; exact h.val k hk
  have g := greatest_spec st n b l h.val
  have g' := greatest_spec st' n b (l.map (mvP s)) hv'
  rcases e : greatestR st n b l with _ | k
  · rw [e] at g
    rcases e' : greatestR st' n b (l.map (mvP s)) with _ | j
    · rfl
    · rw [e'] at g'
      obtain ⟨h1, h2, _⟩ := g'
      obtain ⟨k, hk, rfl⟩ := h.onto j h1
      exact absurd ((mv_suits h hl hk n b).1 h2) (g k hk)
  · rw [e] at g
    obtain ⟨k1, k2, k3⟩ := g
    rcases e' : greatestR st' n b (l.map (mvP s)) with _ | j
    · rw [e'] at g'
      exact absurd ((mv_suits h hl k1 n b).2 k2) (g' _ (h.lt k k1))
    · rw [e'] at g'
      obtain ⟨j1, j2, j3⟩ := g'
      obtain ⟨i, hi, rfl⟩ := h.onto j j1
      have hsi := (mv_suits h hl hi n b).1 j2
      have a1 := k3 i hi hsi
      have a2 := j3 (s k) (h.lt k k1) ((mv_suits h hl k1 n b).2 k2)
      rw [h.ver hi, h.ver k1] at a2
      have en : (st.getD i zeroD).name = (st.getD k zeroD).name := by
        have u1 := hsi.1
        have u2 := k2.1
        rw [Bool.and_eq_true] at u1 u2
        rw [of_decide_eq_true u1.1, of_decide_eq_true u2.1]
      have := h.one i k hi k1 en (by omega)
      rw [this]; rfl
theorem greatK_lt {st : List EntryD} (hv : ∀ k, k < st.length → Valid (verOf st k)) {l : List PackD} {n : NeedD} {b : Bool} {k : Nat} (h : greatestR st n b l = some k) : k < st.length := by
  have g := greatest_spec st n b l hv
  rw [h] at g
  exact g.1
theorem mv_choose {st st' : List EntryD} {s : Nat → Nat} (h : Shuf st st' s) {l : List PackD} (hl : Of st l) (n : NeedD) : chooseR st' n (l.map (mvP s)) = (chooseR st n l).map s := by
  unfold chooseR
  rw [mv_great h hl n true, mv_great h hl n false]
  rcases greatestR st n true l with _ | k <;> rfl
theorem chooseK_lt {st : List EntryD} (hv : ∀ k, k < st.length → Valid (verOf st k)) {l : List PackD} {n : NeedD} {k : Nat} (h : chooseR st n l = some k) : k < st.length := by
  unfold chooseR at h
  rcases e : greatestR st n true l with _ | j
  · rw [e] at h; exact greatK_lt hv h
  · rw [e] at h
    have := Option.some.inj h
    subst this
    exact greatK_lt hv e
theorem Of.app {st : List EntryD} {l : List PackD} (h : Of st l) {p : PackD} (hp : p.of < st.length) : Of st (l ++ [p]) := fun q hq => by
  rcases List.mem_append.1 hq with hq | hq
  · exact h q hq
  · simp at hq; subst hq; exact hp
theorem mv_layGo {st st' : List EntryD} {s : Nat → Nat} (h : Shuf st st' s) {l : List PackD} (hl : Of st l) (x : WhoD) {k : Nat} (hk : k < st.length) (done : List WhoD) : ∀ fs : List Tx, layGo st' (l.map (mvP s)) x (s k) done fs = (layGo st l x k done fs).map (mvP s)
  | [] => rfl
  | f :: r => by
    have e1 : (l.map (mvP s)) ++ [(⟨joinR f x.n.name, s k⟩ : PackD)] = (l ++ [(⟨joinR f x.n.name, k⟩ : PackD)]).map (mvP s) := by rw [List.map_append]; rfl
    have ho : Of st (l ++ [(⟨joinR f x.n.name, k⟩ : PackD)]) := hl.app hk
    rw [layGo, layGo, e1, mv_atR, mv_find, mv_allMet h ho, mv_layGo h hl x hk done r, List.length_map]
    split <;> rfl
theorem lay_of {st : List EntryD} {l : List PackD} (hl : Of st l) (x : WhoD) {k : Nat} (hk : k < st.length) (done : List WhoD) : Of st (layR st l x k done) := by
  unfold layR
  rcases layGo_form st l x k done (foldersR x.path).reverse with e | ⟨f, _, e⟩
  · rw [e]; exact hl
  · rw [e]; exact hl.app hk
theorem mv_buildGo {st st' : List EntryD} {s : Nat → Nat} (h : Shuf st st' s) {tree : List PackD} (ht : Of st tree) : ∀ (f : Nat) (l : List PackD) (done rem : List WhoD), Of st l → buildGo st' (tree.map (mvP s)) f (l.map (mvP s)) done rem = ((buildGo st tree f l done rem).1.map (fun m => m.map (mvP s)), (buildGo st tree f l done rem).2) ∧ ∀ m, (buildGo st tree f l done rem).1 = some m → Of st m
  | 0, l, done, rem, hl => ⟨rfl, fun m hm => by simp [buildGo] at hm⟩
  | f + 1, l, done, [], hl => ⟨rfl, fun m hm => by rw [buildGo] at hm; simp at hm; subst hm; exact hl⟩
  | f + 1, l, done, x :: rem, hl => by
    rw [buildGo, buildGo, mv_met h hl]
    by_cases hm : metR st l x = true
    · rw [if_pos hm, if_pos hm]
      exact mv_buildGo h ht f l _ rem hl
    · rw [if_neg hm, if_neg hm, mv_choose h ht]
      rcases e : chooseR st x.n tree with _ | k
      · exact ⟨rfl, fun m hm => by simp at hm⟩
      · simp only [Option.map_some, List.length_map]
        have hk := chooseK_lt h.val e
        by_cases h40 : 40 ≤ l.length
        · rw [if_pos h40, if_pos h40]
          exact ⟨rfl, fun m hm => by simp at hm⟩
        · rw [if_neg h40, if_neg h40]
          have hlo := lay_of hl x hk done
          have e2 : layR st' (l.map (mvP s)) x (s k) done = (layR st l x k done).map (mvP s) := mv_layGo h hl x hk done _
          have e3 : allR st' [] (((layR st l x k done).map (mvP s)).drop ((layR st l x k done).length - 1)) = allR st [] ((layR st l x k done).drop ((layR st l x k done).length - 1)) := by
            rw [← List.map_drop]
            exact mv_all h [] fun p hp => hlo p (List.mem_of_mem_drop hp)
          rw [e2, List.length_map, e3]
          exact mv_buildGo h ht f _ _ _ hlo
theorem pruned_of {st : List EntryD} {nd : List NeedD} {l : List PackD} (hl : Of st l) : Of st (prunedR st nd l) := by
  have key : ∀ (l out : List PackD) (used : List Tx), Of st l → Of st out → Of st (prunedGo used out l) := by
    intro l
    induction l with
    | nil => intro out used _ ho; exact ho
    | cons p r ih =>
      intro out used hl ho
      rw [prunedGo]
      split
      · refine ih _ _ (fun q hq => hl q (List.mem_cons_of_mem _ hq)) fun q hq => ?_
        rw [placedR_ins] at hq
        rcases (insX_mem _ _ _ _).1 hq with rfl | hq
        · exact hl q (by simp)
        · exact ho q hq
      · exact ih _ _ (fun q hq => hl q (List.mem_cons_of_mem _ hq)) ho
  exact key l [] _ hl (by intro p hp; simp at hp)
theorem mv_build {st st' : List EntryD} {s : Nat → Nat} (h : Shuf st st' s) {tree : List PackD} (ht : Of st tree) (nd : List NeedD) : buildR st' nd (tree.map (mvP s)) = ((buildR st nd tree).1.map (fun m => m.map (mvP s)), (buildR st nd tree).2) ∧ ∀ m, (buildR st nd tree).1 = some m → Of st m := by
  have e0 : allR st' nd [] = allR st nd [] := rfl
  obtain ⟨g1, g2⟩ := mv_buildGo h ht 1000 [] [] (allR st nd []) (by intro p hp; simp at hp)
  rw [List.map_nil] at g1
  unfold buildR
  rw [e0, g1]
  rcases e : buildGo st tree 1000 [] [] (allR st nd []) with ⟨_ | l, k⟩
  · exact ⟨rfl, fun m hm => by simp at hm⟩
  · rw [e] at g2
    have hl := g2 l rfl
    refine ⟨?_, fun m hm => ?_⟩
    · simp only [Option.map_some]
      rw [mv_pruned h nd hl]
    · simp only [Option.some.injEq] at hm
      subst hm
      exact pruned_of hl
/-- One site over a stock, another over the same in another order. -/
structure ShufS (s : Nat → Nat) (sd sd' : SiteD) : Prop where
  sh : Shuf sd.stock sd'.stock s
  of : Of sd.stock sd.packs
  needs : sd'.needs = sd.needs
  packs : sd'.packs = sd.packs.map (mvP s)
theorem ShufS.settle {s : Nat → Nat} {sd sd' : SiteD} (h : ShufS s sd sd') (nd : List NeedD) {tree : List PackD} (ht : Of sd.stock tree) : (settleR sd' nd (tree.map (mvP s))).2 = (settleR sd nd tree).2 ∧ ShufS s (settleR sd nd tree).1 (settleR sd' nd (tree.map (mvP s))).1 := by
  obtain ⟨g1, g2⟩ := mv_build h.sh ht nd
  unfold settleR
  rw [g1]
  rcases e : buildR sd.stock nd tree with ⟨_ | l, k⟩
  · exact ⟨rfl, h⟩
  · rw [e] at g2
    exact ⟨rfl, ⟨h.sh, g2 l rfl, rfl, rfl⟩⟩
theorem ShufS.add {s : Nat → Nat} {sd sd' : SiteD} (h : ShufS s sd sd') (t : Tx) : (addR sd' t).2 = (addR sd t).2 ∧ ShufS s (addR sd t).1 (addR sd' t).1 := by
  unfold addR
  rw [h.needs, h.packs]
  split
  · exact ⟨rfl, h⟩
  · split
    · exact ⟨rfl, h⟩
    · exact h.settle _ h.of
theorem ShufS.update {s : Nat → Nat} {sd sd' : SiteD} (h : ShufS s sd sd') : (updateR sd').2 = (updateR sd).2 ∧ ShufS s (updateR sd).1 (updateR sd').1 := by
  unfold updateR
  rw [h.needs]
  exact h.settle _ (tree := []) (by intro p hp; simp at hp)
theorem mv_textGo {st st' : List EntryD} {s : Nat → Nat} (h : Shuf st st' s) : ∀ (l : List PackD) (b : Bool), Of st l → textGo st' b (l.map (mvP s)) = textGo st b l
  | [], b, _ => rfl
  | p :: r, b, hl => by
    rw [List.map_cons, textGo, textGo, mv_textGo h r false fun q hq => hl q (List.mem_cons_of_mem _ hq)]
    have : verOf st' (mvP s p).of = verOf st p.of := h.ver (hl p (by simp))
    rw [this]
    rfl
theorem ShufS.text {s : Nat → Nat} {sd sd' : SiteD} (h : ShufS s sd sd') : textR sd'.stock sd'.packs = textR sd.stock sd.packs := by
  rw [h.packs]
  exact mv_textGo h.sh _ true h.of

/-! ### items in another order -/
theorem entryD_back {x : ItemX} (h : x.wants.Pairwise fun a b => nameK a.name ≠ nameK b.name) : entryD x true = entryD x false := by
  unfold entryD
  simp only [if_true, Bool.false_eq_true, if_false]
  congr 1
  have hn : (x.wants.map wantN).Pairwise fun a b => a.name ≠ b.name := by
    rw [List.pairwise_map]; exact h
  have hn' : (x.wants.reverse.map wantN).Pairwise fun a b => a.name ≠ b.name := by
    rw [List.pairwise_map, List.pairwise_reverse]
    exact List.Pairwise.imp (fun h => fun e => h e.symm) h
  refine Rises.ext (sortedR_rises _ hn') (sortedR_rises _ hn) fun y => ?_
  rw [(sortedR_perm _).mem_iff, (sortedR_perm _).mem_iff]
  simp
def turnK (n r k : Nat) : Nat := (k + (n - r)) % n
theorem turn_back {n r k : Nat} (hr : r < n) (hk : k < n) : (turnK n r k + r) % n = k := by
  unfold turnK
  rw [Nat.mod_add_mod, show k + (n - r) + r = k + n by omega, Nat.add_mod_right, Nat.mod_eq_of_lt hk]
theorem turn_onto {n r j : Nat} (hr : r < n) (hj : j < n) : turnK n r ((j + r) % n) = j := by
  unfold turnK
  rw [Nat.mod_add_mod, show j + r + (n - r) = j + n by omega, Nat.add_mod_right, Nat.mod_eq_of_lt hj]
theorem rot_at {m : List ItemX} {r i : Nat} (hi : i < m.length) (x : ItemX) (hx : m[(i + r) % m.length]? = some x) : (rotK m r)[i]? = some x := by
  obtain ⟨j, hj, e, h⟩ := rotK_at m r i hi
  rw [h, ← hx, ← e, List.getElem?_eq_getElem hj]
theorem shuf_items {m : List ItemX} (h : ItemsWell m) {r : Nat} (hr : r < m.length) {stx : List EntX} (hs : StockSame stx (m.map fun x => entryD x false)) : Shuf (m.map fun x => entryD x false) ((rotK m r).map fun x => entryD x true) (turnK m.length r) := by
  have hlen : (m.map fun x => entryD x false).length = m.length := by simp
  have hlen' : ((rotK m r).map fun x => entryD x true).length = m.length := by simp [rotK_len]
  have hpos : 0 < m.length := by omega
  refine ⟨fun k hk => ?_, fun k hk => ?_, fun j hj => ?_, fun i k hi hk e => ?_, fun k hk => ?_, fun i k hi hk e1 e2 => ?_⟩
  · rw [hlen']; exact Nat.mod_lt _ hpos
  · rw [hlen] at hk
    have hsk : turnK m.length r k < m.length := Nat.mod_lt _ hpos
    have hb := turn_back hr hk
    have he : (rotK m r)[turnK m.length r k]? = some m[k] := rot_at hsk _ (by rw [hb, List.getElem?_eq_getElem hk])
    rw [List.getD_eq_getElem?_getD, List.getD_eq_getElem?_getD, List.getElem?_map, List.getElem?_map, he, List.getElem?_eq_getElem hk]
    simp only [Option.map_some, Option.getD_some]
    exact entryD_back (h.own _ (List.getElem_mem hk))
  · rw [hlen'] at hj
    exact ⟨(j + r) % m.length, by rw [hlen]; exact Nat.mod_lt _ hpos, turn_onto hr hj⟩
  · rw [hlen] at hi hk
    have := turn_back hr hi
    rw [e, turn_back hr hk] at this
    exact this.symm
  · exact hs.val k hk
  · have hl := hs.all.len
    have hi' : i < stx.length := by omega
    have hk' : k < stx.length := by omega
    exact hs.one i k hi' hk' (by rw [(hs.at hi').name, (hs.at hk').name, e1]) (by rw [(hs.ver hi').1, (hs.ver hk').1, e2])

end Hst
end Go.Proofs.YtecocheolbkneaaDoor
