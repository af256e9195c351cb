/- Mchoose, Drun, Mlay -/
import Derived.Test.YtecocheolbkneaaDoorW05
import Derived.Test.YtecocheolbkneaaDoorW01
namespace Go.Proofs.YtecocheolbkneaaDoor
namespace Hst

/-- Two lists, element by element. -/
def All2 {α β : Type} (R : α → β → Prop) : List α → List β → Prop
  | [], [] => True
  | a :: x, b :: y => R a b ∧ All2 R x y
  | _, _ => False
theorem All2.len {α β : Type} {R : α → β → Prop} : ∀ {x : List α} {y : List β}, All2 R x y → x.length = y.length
  | [], [], _ => rfl
  | _ :: x, _ :: y, h => by simp [All2.len (x := x) (y := y) h.2]
  | [], _ :: _, h => False.elim h
  | _ :: _, [], h => False.elim h
theorem All2.app {α β : Type} {R : α → β → Prop} : ∀ {x : List α} {y : List β} {x' : List α} {y' : List β}, All2 R x y → All2 R x' y' → All2 R (x ++ x') (y ++ y')
  | [], [], _, _, _, k => k
  | _ :: x, _ :: y, _, _, h, k => ⟨h.1, All2.app (x := x) (y := y) h.2 k⟩
  | [], _ :: _, _, _, h, _ => False.elim h
  | _ :: _, [], _, _, h, _ => False.elim h
theorem All2.get {α β : Type} {R : α → β → Prop} : ∀ {x : List α} {y : List β}, All2 R x y → ∀ (i : Nat) (h : i < x.length) (h' : i < y.length), R x[i] y[i]
  | [], [], _, _, h, _ => by simp at h
  | _ :: x, _ :: y, h, 0, _, _ => h.1
  | _ :: x, _ :: y, h, i + 1, h1, h2 => All2.get (x := x) (y := y) h.2 i (by simpa using h1) (by simpa using h2)
  | [], _ :: _, h, _, _, _ => False.elim h
  | _ :: _, [], h, _, _, _ => False.elim h
theorem All2.mem {α β : Type} {R : α → β → Prop} : ∀ {x : List α} {y : List β}, All2 R x y → ∀ b ∈ y, ∃ a ∈ x, R a b
  | [], [], _, b, h => by simp at h
  | a :: x, c :: y, h, b, hb => by
    rcases List.mem_cons.1 hb with rfl | hb
    · exact ⟨a, by simp, h.1⟩
    · obtain ⟨a', ha, hr⟩ := All2.mem (x := x) (y := y) h.2 b hb
      exact ⟨a', List.mem_cons_of_mem _ ha, hr⟩
  | [], _ :: _, h, _, _ => False.elim h
  | _ :: _, [], h, _, _ => False.elim h
theorem All2.meml {α β : Type} {R : α → β → Prop} : ∀ {x : List α} {y : List β}, All2 R x y → ∀ a ∈ x, ∃ b ∈ y, R a b
  | [], [], _, b, h => by simp at h
  | c :: x, b :: y, h, a, hb => by
    rcases List.mem_cons.1 hb with rfl | hb
    · exact ⟨b, by simp, h.1⟩
    · obtain ⟨a', ha, hr⟩ := All2.meml (x := x) (y := y) h.2 a hb
      exact ⟨a', List.mem_cons_of_mem _ ha, hr⟩
  | [], _ :: _, h, _, _ => False.elim h
  | _ :: _, [], h, _, _ => False.elim h

structure NeedSame (n : NeedX) (d : NeedD) : Prop where
  name : n.name = d.name
  rng : rangeP d.rng = some n.spans
  text : n.text = d.name ++ d.rng
  isn : isNameR d.name = true
structure EntSame (e : EntX) (d : EntryD) : Prop where
  name : e.name = d.name
  ver : e.ver = place d.v
  val : Valid d.v
  isn : isNameR d.name = true
  nd : All2 NeedSame e.nd d.needs
  two : d.needs.Pairwise fun a b => a.name ≠ b.name
structure StockSame (stx : List EntX) (st : List EntryD) : Prop where
  all : All2 EntSame stx st
  one : ∀ i j, i < stx.length → j < stx.length → (stx.getD i zeroE).name = (stx.getD j zeroE).name → (stx.getD i zeroE).ver = (stx.getD j zeroE).ver → i = j

abbrev zeroD : EntryD := ⟨[], ⟨0, 0, 0⟩, []⟩
theorem StockSame.at {stx : List EntX} {st : List EntryD} (h : StockSame stx st) {k : Nat} (hk : k < stx.length) : EntSame (stx.getD k zeroE) (st.getD k zeroD) := by
  have hk' : k < st.length := by rw [← h.all.len]; exact hk
  rw [List.getD_eq_getElem?_getD, List.getD_eq_getElem?_getD, List.getElem?_eq_getElem hk, List.getElem?_eq_getElem hk']
  exact h.all.get k hk hk'
theorem StockSame.ver {stx : List EntX} {st : List EntryD} (h : StockSame stx st) {k : Nat} (hk : k < stx.length) : (stx.getD k zeroE).ver = place (verOf st k) ∧ Valid (verOf st k) := ⟨(h.at hk).ver, (h.at hk).val⟩
theorem fits_same {n : NeedX} {d : NeedD} (h : NeedSame n d) {v : V3} (hv : Valid v) : fitsP n.spans (place v) = fitR d.rng v := by
  rcases rangeP_law d.rng with ⟨e, _⟩ | ⟨sp, e, _, hl⟩
  · rw [h.rng] at e; exact absurd e (by simp)
  · rw [h.rng] at e
    have e' : n.spans = sp := by simpa using e
    rw [e', hl v hv]
theorem met_same {stx : List EntX} {st : List EntryD} {l : List PackD} {t : List PkX} (hs : StockSame stx st) (ht : TreeSame stx l t) {n : NeedX} {d : NeedD} (h : NeedSame n d) (path : Tx) : meetsP t path n = metR st l ⟨path, d⟩ := by
  unfold meetsP metR
  rw [h.name, find_same ht (name_nosl h.isn) path.length path (Nat.le_refl _)]
  simp only
  rcases e : findR l path d.name with _ | k
  · rfl
  · obtain ⟨_, h2, _⟩ := findR_some e
    obtain ⟨h3, h4⟩ := hs.ver (ht.of _ h2)
    simp only [Option.map_some]
    have e' : (toX stx (packAt l k)).e.ver = place (verOf st (packAt l k).of) := h3
    rw [e', fits_same h h4]

/-! ### the document's greatest -/
def Suits (st : List EntryD) (n : NeedD) (liked : Bool) (tree : List PackD) (j : Nat) : Prop := ((decide ((st.getD j zeroD).name = n.name) && fitR n.rng (st.getD j zeroD).v) = true) ∧ ((!liked) || favouredR tree j) = true
def GreatInv (st : List EntryD) (n : NeedD) (liked : Bool) (tree : List PackD) (best : Option Nat) (i : Nat) : Prop := match best with
  | none => ∀ j, j < i → ¬ Suits st n liked tree j
  | some b => b < i ∧ Suits st n liked tree b ∧ ∀ j, j < i → Suits st n liked tree j → place (verOf st j) ≤ place (verOf st b)
def overB (st : List EntryD) (best : Option Nat) (v : V3) : Bool := match best with
  | none => true
  | some b => belowB (verOf st b).a (verOf st b).b (verOf st b).c v.a v.b v.c
theorem gg_cons (n : NeedD) (liked : Bool) (tree : List PackD) (st : List EntryD) (best : Option Nat) (i : Nat) (e : EntryD) (r : List EntryD) : greatGo n liked tree st best i (e :: r) =
    if (decide (e.name = n.name) && fitR n.rng e.v) = true ∧ ((!liked) || favouredR tree i) = true ∧ overB st best e.v = true
    then greatGo n liked tree st (some i) (i + 1) r else greatGo n liked tree st best (i + 1) r := by
  cases best <;> rfl
theorem greatGo_spec (st : List EntryD) (n : NeedD) (liked : Bool) (tree : List PackD) (hv : ∀ j, j < st.length → Valid (verOf st j)) : ∀ (m i : Nat) (best : Option Nat), i + m = st.length → GreatInv st n liked tree best i → GreatInv st n liked tree (greatGo n liked tree st best i (st.drop i)) st.length
  | 0, i, best, hm, h => by
    rw [List.drop_of_length_le (by omega), greatGo]
    have : i = st.length := by omega
    rw [← this]; exact h
  | m + 1, i, best, hm, h => by
    have hi : i < st.length := by omega
    rw [List.drop_eq_getElem_cons hi, gg_cons]
    have eg : st[i] = st.getD i zeroD := by rw [List.getD_eq_getElem?_getD, List.getElem?_eq_getElem hi]; rfl
    rw [eg]
    have ev : (st.getD i zeroD).v = verOf st i := rfl
    by_cases hc : (decide ((st.getD i zeroD).name = n.name) && fitR n.rng (st.getD i zeroD).v) = true ∧ ((!liked) || favouredR tree i) = true ∧ overB st best (st.getD i zeroD).v = true
    · rw [if_pos hc]
      refine greatGo_spec st n liked tree hv m (i + 1) (some i) (by omega) ⟨by omega, ⟨hc.1, hc.2.1⟩, fun j hj hs => ?_⟩
      by_cases e : j = i
      · subst e; exact Int.le_refl _
      · rcases best with _ | b
        · exact absurd hs (h j (by omega))
        · have h3 := h.2.2 j (by omega) hs
          have h4 := hc.2.2
          simp only [overB] at h4
          rw [ev, below_place (hv b (by have := h.1; omega)) (hv i hi), decide_eq_true_eq] at h4
          omega
    · rw [if_neg hc]
      refine greatGo_spec st n liked tree hv m (i + 1) best (by omega) ?_
      rcases best with _ | b
      · intro j hj hs
        by_cases e : j = i
        · subst e; exact hc ⟨hs.1, hs.2, rfl⟩
        · exact h j (by omega) hs
      · refine ⟨by have := h.1; omega, h.2.1, fun j hj hs => ?_⟩
        by_cases e : j = i
        · subst e
          refine Int.not_lt.1 fun hlt => hc ⟨hs.1, hs.2, ?_⟩
          simp only [overB]
          rw [ev, below_place (hv b (by have := h.1; omega)) (hv j hi), decide_eq_true_eq]
          exact hlt
        · exact h.2.2 j (by omega) hs
theorem greatest_spec (st : List EntryD) (n : NeedD) (liked : Bool) (tree : List PackD) (hv : ∀ j, j < st.length → Valid (verOf st j)) : GreatInv st n liked tree (greatestR st n liked tree) st.length :=
  greatGo_spec st n liked tree hv st.length 0 none (by omega) (fun j hj => by omega)

/-! ### the program's choose -/
def rank (fav : List PkX) (e : EntX) : Int := (if hasP fav e.name e.ver = true then 1000000 else 0) + e.ver
theorem better_rank {fav : List PkX} {b e : EntX} (hb : 0 ≤ b.ver ∧ b.ver ≤ 999999) (he : 0 ≤ e.ver ∧ e.ver ≤ 999999) : (if hasP fav e.name e.ver = hasP fav b.name b.ver then decide (b.ver < e.ver) else hasP fav e.name e.ver) = decide (rank fav b < rank fav e) := by
  unfold rank
  rcases hasP fav e.name e.ver with _ | _ <;> rcases hasP fav b.name b.ver with _ | _
  · simp
  · simp; omega
  · simp; omega
  · simp
theorem chooseGo_spec (fav : List PkX) : ∀ (l : List EntX) (best : EntX) (bf found : Bool), (∀ e ∈ l, 0 ≤ e.ver ∧ e.ver ≤ 999999) → (found = true → bf = hasP fav best.name best.ver ∧ 0 ≤ best.ver ∧ best.ver ≤ 999999) →
    ((chooseGo fav best bf found l).2 = (found || !l.isEmpty)) ∧ ((chooseGo fav best bf found l).2 = true → ((chooseGo fav best bf found l).1 ∈ l ∨ (found = true ∧ (chooseGo fav best bf found l).1 = best)) ∧ (∀ e ∈ l, rank fav e ≤ rank fav (chooseGo fav best bf found l).1) ∧ (found = true → rank fav best ≤ rank fav (chooseGo fav best bf found l).1))
  | [], best, bf, found, _, _ => by
    rw [chooseGo]
    refine ⟨by simp, fun h => ⟨.inr ⟨h, rfl⟩, by simp, fun _ => Int.le_refl _⟩⟩
  | e :: r, best, bf, found, hl, hb => by
    have he := hl e (by simp)
    have hr : ∀ x ∈ r, 0 ≤ x.ver ∧ x.ver ≤ 999999 := fun x hx => hl x (List.mem_cons_of_mem _ hx)
    rw [chooseGo]
    by_cases hc : (!found || (if hasP fav e.name e.ver = bf then decide (best.ver < e.ver) else hasP fav e.name e.ver)) = true
    · rw [if_pos hc]
      obtain ⟨h1, h2⟩ := chooseGo_spec fav r e (hasP fav e.name e.ver) true hr fun _ => ⟨rfl, he⟩
      rw [h1]
      refine ⟨by simp, fun _ => ?_⟩
      obtain ⟨h3, h4, h5⟩ := h2 (by rw [h1]; rfl)
      refine ⟨?_, fun x hx => ?_, fun hf => ?_⟩
      · rcases h3 with h3 | ⟨_, h3⟩
        · exact .inl (List.mem_cons_of_mem _ h3)
        · exact .inl (by rw [h3]; simp)
      · rcases List.mem_cons.1 hx with rfl | hx
        · exact h5 rfl
        · exact h4 x hx
      · subst hf
        obtain ⟨rfl, hb2⟩ := hb rfl
        rw [better_rank hb2 he] at hc
        have hc' : rank fav best < rank fav e := by simpa using hc
        have := h5 rfl
        omega
    · rw [if_neg hc]
      rcases hf : found with _ | _
      · rw [hf] at hc; simp at hc
      · obtain ⟨rfl, hb2⟩ := hb hf
        rw [hf, better_rank hb2 he] at hc
        have hc' : ¬ rank fav best < rank fav e := by simpa using hc
        obtain ⟨h1, h2⟩ := chooseGo_spec fav r best (hasP fav best.name best.ver) true hr fun _ => ⟨rfl, hb2⟩
        rw [h1]
        refine ⟨by simp, fun _ => ?_⟩
        obtain ⟨h3, h4, h5⟩ := h2 (by rw [h1]; rfl)
        refine ⟨?_, fun x hx => ?_, fun _ => h5 rfl⟩
        · rcases h3 with h3 | h3
          · exact .inl (List.mem_cons_of_mem _ h3)
          · exact .inr h3
        · rcases List.mem_cons.1 hx with rfl | hx
          · have := h5 rfl; omega
          · exact h4 x hx

theorem fav_same {stx : List EntX} {st : List EntryD} {tree : List PackD} {fav : List PkX} (hs : StockSame stx st) (ht : TreeSame stx tree fav) {k : Nat} (hk : k < stx.length) : favouredR tree k = hasP fav (stx.getD k zeroE).name (stx.getD k zeroE).ver := by
  rw [Bool.eq_iff_iff]
  unfold favouredR hasP
  rw [List.any_eq_true, List.any_eq_true]
  constructor
  · rintro ⟨p, hp, e⟩
    have e := of_decide_eq_true e
    refine ⟨toX stx p, (ht.mem _).2 ⟨p, hp, rfl⟩, ?_⟩
    unfold toX
    rw [e]; simp
  · rintro ⟨q, hq, e⟩
    obtain ⟨p, hp, rfl⟩ := (ht.mem q).1 hq
    rw [Bool.and_eq_true] at e
    exact ⟨p, hp, decide_eq_true (hs.one _ _ (ht.of p hp) hk (of_decide_eq_true e.1) (of_decide_eq_true e.2))⟩
theorem StockSame.val {stx : List EntX} {st : List EntryD} (h : StockSame stx st) : ∀ j, j < st.length → Valid (verOf st j) := fun j hj => (h.ver (by rw [h.all.len]; exact hj)).2
theorem suits_fit {stx : List EntX} {st : List EntryD} (hs : StockSame stx st) {n : NeedX} {d : NeedD} (h : NeedSame n d) {j : Nat} (hj : j < stx.length) : (decide ((stx.getD j zeroE).name = n.name) && fitsP n.spans (stx.getD j zeroE).ver) = (decide ((st.getD j zeroD).name = d.name) && fitR d.rng (st.getD j zeroD).v) := by
  obtain ⟨h1, h2⟩ := hs.ver hj
  rw [h1, fits_same h h2, (hs.at hj).name, h.name]
  rfl
theorem mem_fitting {stx : List EntX} {n : NeedX} {e : EntX} (h : e ∈ fittingP stx n) : ∃ j, j < stx.length ∧ stx.getD j zeroE = e ∧ (decide (e.name = n.name) && fitsP n.spans e.ver) = true := by
  obtain ⟨h1, h2⟩ := List.mem_filter.1 h
  obtain ⟨j, hj, e⟩ := List.mem_iff_getElem.1 h1
  exact ⟨j, hj, by rw [List.getD_eq_getElem?_getD, List.getElem?_eq_getElem hj]; exact e, h2⟩
/-- Choosing comes to the same. -/
theorem choose_same {stx : List EntX} {st : List EntryD} {tree : List PackD} {fav : List PkX} (hs : StockSame stx st) (ht : TreeSame stx tree fav) {n : NeedX} {d : NeedD} (h : NeedSame n d) :
    (chooseR st d tree = none ∧ (chooseP stx fav n).2 = false) ∨ ∃ k, chooseR st d tree = some k ∧ k < stx.length ∧ (chooseP stx fav n).2 = true ∧ (chooseP stx fav n).1 = stx.getD k zeroE ∧ (st.getD k zeroD).name = d.name ∧ fitR d.rng (verOf st k) = true := by
  have hlen : stx.length = st.length := hs.all.len
  have hbd : ∀ j, j < stx.length → 0 ≤ (stx.getD j zeroE).ver ∧ (stx.getD j zeroE).ver ≤ 999999 := fun j hj => by
    obtain ⟨h1, h2⟩ := hs.ver hj
    rw [h1]; exact place_bd h2
  have hfb : ∀ e ∈ fittingP stx n, 0 ≤ e.ver ∧ e.ver ≤ 999999 := fun e he => by
    obtain ⟨j, hj, rfl, _⟩ := mem_fitting he
    exact hbd j hj
  obtain ⟨c1, c2⟩ := chooseGo_spec fav (fittingP stx n) zeroE false false hfb (by simp)
  have g1 := greatest_spec st d true tree hs.val
  have g2 := greatest_spec st d false tree hs.val
  -- what fits, by index
  have hfit : ∀ j, j < stx.length → Suits st d false tree j → stx.getD j zeroE ∈ fittingP stx n := fun j hj hsu => by
    refine List.mem_filter.2 ⟨?_, ?_⟩
    · rw [List.getD_eq_getElem?_getD, List.getElem?_eq_getElem hj]; exact List.getElem_mem _
    · rw [suits_fit hs h hj]; exact hsu.1
  have hsuit : ∀ e ∈ fittingP stx n, ∃ j, j < stx.length ∧ stx.getD j zeroE = e ∧ Suits st d false tree j := fun e he => by
    obtain ⟨j, hj, rfl, hc⟩ := mem_fitting he
    exact ⟨j, hj, rfl, by rw [suits_fit hs h hj] at hc; exact hc, rfl⟩
  -- the one that has the greatest rank
  have fin : ∀ k, k < stx.length → Suits st d false tree k → (∀ j, j < stx.length → Suits st d false tree j → rank fav (stx.getD j zeroE) ≤ rank fav (stx.getD k zeroE)) → (chooseP stx fav n).2 = true ∧ (chooseP stx fav n).1 = stx.getD k zeroE := fun k hk hsu hmax => by
    have hin := hfit k hk hsu
    have hne : (fittingP stx n).isEmpty = false := by
      rcases e : fittingP stx n with _ | ⟨x, r⟩
      · rw [e] at hin; simp at hin
      · rfl
    have ht2 : (chooseGo fav zeroE false false (fittingP stx n)).2 = true := by rw [c1, hne]; rfl
    refine ⟨ht2, ?_⟩
    obtain ⟨h3, h4, _⟩ := c2 ht2
    rcases h3 with h3 | ⟨h3, _⟩
    · obtain ⟨j, hj, ej, hsj⟩ := hsuit _ h3
      have r1 := hmax j hj hsj
      have r2 := h4 _ hin
      rw [← ej] at r2
      have hr : rank fav (stx.getD j zeroE) = rank fav (stx.getD k zeroE) := Int.le_antisymm r1 r2
      have b1 := hbd j hj
      have b2 := hbd k hk
      have ev : (stx.getD j zeroE).ver = (stx.getD k zeroE).ver := by
        unfold rank at hr
        split at hr <;> split at hr <;> omega
      have en : (stx.getD j zeroE).name = (stx.getD k zeroE).name := by
        have e1 := hsj.1
        have e2 := hsu.1
        rw [Bool.and_eq_true] at e1 e2
        rw [(hs.at hj).name, (hs.at hk).name, of_decide_eq_true e1.1, of_decide_eq_true e2.1]
      have := hs.one j k hj hk en ev
      subst this
      exact ej.symm
    · exact absurd h3 (by simp)
  have nm : ∀ k, Suits st d false tree k → (st.getD k zeroD).name = d.name ∧ fitR d.rng (verOf st k) = true := fun k hsu => by
    have e1 := hsu.1
    rw [Bool.and_eq_true] at e1
    exact ⟨of_decide_eq_true e1.1, e1.2⟩
  unfold chooseR
  rcases e1 : greatestR st d true tree with _ | k
  · rw [e1] at g1
    rcases e2 : greatestR st d false tree with _ | k
    · rw [e2] at g2
      refine .inl ⟨rfl, ?_⟩
      have hemp : fittingP stx n = [] := by
        rcases e : fittingP stx n with _ | ⟨x, r⟩
        · rfl
        · obtain ⟨j, hj, _, hsj⟩ := hsuit x (by rw [e]; simp)
          exact absurd hsj (g2 j (by omega))
      unfold chooseP
      rw [c1, hemp]; rfl
    · rw [e2] at g2
      have hk : k < stx.length := by have := g2.1; omega
      refine .inr ⟨k, rfl, hk, ?_⟩
      have nofav : ∀ j, j < stx.length → Suits st d false tree j → hasP fav (stx.getD j zeroE).name (stx.getD j zeroE).ver = false := fun j hj hsj => by
        rw [← fav_same hs ht hj]
        rcases ef : favouredR tree j with _ | _
        · rfl
        · exact absurd ⟨hsj.1, by rw [ef]; rfl⟩ (g1 j (by omega))
      obtain ⟨f1, f2⟩ := fin k hk g2.2.1 fun j hj hsj => by
        have h3 := g2.2.2 j (by omega) hsj
        unfold rank
        rw [nofav j hj hsj, nofav k hk g2.2.1, (hs.ver hj).1, (hs.ver hk).1]
        simpa using h3
      exact ⟨f1, f2, nm k g2.2.1⟩
  · rw [e1] at g1
    have hk : k < stx.length := by have := g1.1; omega
    have hsk : Suits st d false tree k := ⟨g1.2.1.1, rfl⟩
    have hfk : hasP fav (stx.getD k zeroE).name (stx.getD k zeroE).ver = true := by
      rw [← fav_same hs ht hk]
      have := g1.2.1.2
      simpa using this
    refine .inr ⟨k, rfl, hk, ?_⟩
    obtain ⟨f1, f2⟩ := fin k hk hsk fun j hj hsj => by
      have bj := hbd j hj
      have bk := hbd k hk
      unfold rank
      rw [hfk]
      rcases ef : hasP fav (stx.getD j zeroE).name (stx.getD j zeroE).ver with _ | _
      · rw [if_neg (by simp), if_pos rfl]; omega
      · have h3 := g1.2.2 j (by omega) ⟨hsj.1, by rw [fav_same hs ht hj, ef]; rfl⟩
        rw [(hs.ver hj).1, (hs.ver hk).1]
        simpa using h3
    exact ⟨f1, f2, nm k hsk⟩

end Hst
end Go.Proofs.YtecocheolbkneaaDoor
namespace Go.Proofs.YtecocheolbkneaaDoor
namespace Hst

/-- One step of building: who is next. -/
def stepD (st : List EntryD) (tree l : List PackD) (done todo : List WhoD) (x : WhoD) : (List PackD × List WhoD × List WhoD) × Int :=
  if metR st l x = true then ((l, done ++ [x], todo), 0) else
  match chooseR st x.n tree with
  | none => ((l, done, todo), 8)
  | some k => if 40 ≤ l.length then ((l, done, todo), 9) else
    ((layR st l x k done, done ++ [x], todo ++ allR st [] ((layR st l x k done).drop ((layR st l x k done).length - 1))), 0)
/-- Building over the list with an index (as the text has it): the whole list, from place i on. -/
def buildI (st : List EntryD) (tree : List PackD) : Nat → Nat → List PackD → List WhoD → List WhoD → Option (List PackD) × Int
  | 0, _, _, _, _ => (none, 9)
  | f + 1, i, l, done, todo => match todo[i]? with
    | none => (some l, 0)
    | some x => if (stepD st tree l done todo x).2 = 0 then buildI st tree f (i + 1) (stepD st tree l done todo x).1.1 (stepD st tree l done todo x).1.2.1 (stepD st tree l done todo x).1.2.2 else (none, (stepD st tree l done todo x).2)
theorem buildI_go (st : List EntryD) (tree : List PackD) : ∀ (f i : Nat) (l : List PackD) (done todo : List WhoD), i ≤ todo.length → buildI st tree f i l done todo = buildGo st tree f l done (todo.drop i)
  | 0, i, l, done, todo, _ => by simp [buildI, buildGo]
  | f + 1, i, l, done, todo, hi => by
    rw [buildI]
    by_cases h : i < todo.length
    · rw [List.getElem?_eq_getElem h, List.drop_eq_getElem_cons h]
      simp only
      rw [buildGo]
      unfold stepD
      by_cases hm : metR st l todo[i] = true
      · rw [if_pos hm, if_pos hm]
        simp only
        rw [if_pos trivial]
        exact buildI_go st tree f (i + 1) l _ todo (by omega)
      · rw [if_neg hm, if_neg hm]
        rcases hc : chooseR st todo[i].n tree with _ | k
        · simp
        · simp only
          by_cases h40 : 40 ≤ l.length
          · rw [if_pos h40, if_pos h40]; simp
          · rw [if_neg h40, if_neg h40]
            simp only
            rw [if_pos trivial, buildI_go st tree f (i + 1) _ _ _ (by simp; omega)]
            congr 1
            rw [List.drop_append_of_le_length (by omega)]
    · rw [List.getElem?_eq_none (by omega), List.drop_of_length_le (by omega)]
      rfl

/-- The state in front of the i-th who. -/
def runD (st : List EntryD) (tree : List PackD) (nd : List NeedD) : Nat → Option (List PackD × List WhoD × List WhoD)
  | 0 => some ([], [], allR st nd [])
  | i + 1 => match runD st tree nd i with
    | none => none
    | some q => match q.2.2[i]? with
      | none => none
      | some x => if (stepD st tree q.1 q.2.1 q.2.2 x).2 = 0 then some (stepD st tree q.1 q.2.1 q.2.2 x).1 else none
/-- The path of who needs always will do: so something is laid each time. -/
def LaysWell (st : List EntryD) (tree : List PackD) (nd : List NeedD) : Prop := ∀ i q x k, runD st tree nd i = some q → q.2.2[i]? = some x → metR st q.1 x = false → chooseR st x.n tree = some k → ¬ 40 ≤ q.1.length → (layR st q.1 x k q.2.1).length = q.1.length + 1
theorem runD_succ {st : List EntryD} {tree : List PackD} {nd : List NeedD} {i : Nat} {q : List PackD × List WhoD × List WhoD} {x : WhoD} (h : runD st tree nd i = some q) (hx : q.2.2[i]? = some x) (h0 : (stepD st tree q.1 q.2.1 q.2.2 x).2 = 0) : runD st tree nd (i + 1) = some (stepD st tree q.1 q.2.1 q.2.2 x).1 := by
  rw [runD, h]; simp only; rw [hx]; simp only; rw [if_pos h0]
theorem layGo_form (st : List EntryD) (l : List PackD) (w : WhoD) (k : Nat) (done : List WhoD) : ∀ fs : List Tx, layGo st l w k done fs = l ∨ ∃ f ∈ fs, layGo st l w k done fs = l ++ [⟨joinR f w.n.name, k⟩]
  | [] => .inl rfl
  | f :: r => by
    rw [layGo]
    split
    · exact .inr ⟨f, by simp, rfl⟩
    · rcases layGo_form st l w k done r with h | ⟨g, hg, h⟩
      · exact .inl h
      · exact .inr ⟨g, by simp [hg], h⟩

end Hst
end Go.Proofs.YtecocheolbkneaaDoor
namespace Go.Proofs.YtecocheolbkneaaDoor
namespace Hst

theorem allR_app (st : List EntryD) (nd : List NeedD) (l : List PackD) (p : PackD) : allR st nd (l ++ [p]) = allR st nd l ++ allR st [] [p] := by
  unfold allR
  simp
theorem allR_single (st : List EntryD) (p : PackD) : allR st [] [p] = (needsOf st p.of).map fun n => ⟨p.path, n⟩ := by
  unfold allR
  simp
theorem allR_mem {st : List EntryD} {nd : List NeedD} {l : List PackD} {x : WhoD} (h : x ∈ allR st nd l) : (x.path = [] ∧ x.n ∈ nd) ∨ ∃ p ∈ l, x.path = p.path ∧ x.n ∈ needsOf st p.of := by
  unfold allR at h
  rcases List.mem_append.1 h with h | h
  · obtain ⟨n, hn, rfl⟩ := List.mem_map.1 h
    exact .inl ⟨rfl, hn⟩
  · obtain ⟨p, hp, h⟩ := List.mem_flatMap.1 h
    obtain ⟨n, hn, rfl⟩ := List.mem_map.1 h
    exact .inr ⟨p, hp, rfl, hn⟩

/-- The needs of a site, on both sides. -/
structure SiteNeeds (ndx : List NeedX) (nd : List NeedD) : Prop where
  all : All2 NeedSame ndx nd
  two : nd.Pairwise fun a b => a.name ≠ b.name
/-- Where building stands. -/
structure Run (stx : List EntX) (st : List EntryD) (nd : List NeedD) (l : List PackD) (t : List PkX) (done rem : List WhoD) : Prop where
  ts : TreeSame stx l t
  all : allR st nd l = done ++ rem
  fold : ∀ p ∈ l, ∀ f ∈ foldersR p.path, f = [] ∨ ∃ b ∈ l, b.path = f
  pair : (allR st nd l).Pairwise fun a b => a.n.name = b.n.name → b.path ∉ foldersR a.path
  laid : ∀ p ∈ l, ∃ y ∈ done, folderP p.path ∈ foldersR y.path ∧ (stx.getD p.of zeroE).name = y.n.name
  met : ∀ y ∈ done, metR st l y = true
theorem needsOf_same {stx : List EntX} {st : List EntryD} (hs : StockSame stx st) {k : Nat} (hk : k < stx.length) : All2 NeedSame (stx.getD k zeroE).nd (needsOf st k) ∧ (needsOf st k).Pairwise fun a b => a.name ≠ b.name := ⟨(hs.at hk).nd, (hs.at hk).two⟩
theorem who_name {stx : List EntX} {st : List EntryD} {ndx : List NeedX} {nd : List NeedD} (hs : StockSame stx st) (hn : SiteNeeds ndx nd) {l : List PackD} (ho : ∀ p ∈ l, p.of < stx.length) {x : WhoD} (h : x ∈ allR st nd l) : isNameR x.n.name = true := by
  rcases allR_mem h with ⟨_, h⟩ | ⟨p, hp, _, h⟩
  · obtain ⟨_, _, hr⟩ := hn.all.mem _ h
    exact hr.isn
  · obtain ⟨_, _, hr⟩ := (needsOf_same hs (ho p hp)).1.mem _ h
    exact hr.isn
theorem Run.start {stx : List EntX} {st : List EntryD} {ndx : List NeedX} {nd : List NeedD} (hn : SiteNeeds ndx nd) : Run stx st nd [] [] [] (allR st nd []) := by
  refine ⟨TreeSame.nil stx, rfl, by simp, ?_, by simp, by simp⟩
  unfold allR
  simp only [List.flatMap_nil, List.append_nil]
  rw [List.pairwise_map]
  exact hn.two.imp fun h e => absurd e h

/-- A folder that will do. -/
def WillD (st : List EntryD) (l : List PackD) (x : WhoD) (k : Nat) (done : List WhoD) (f : Tx) : Prop :=
  atR l (joinR f x.n.name) = none ∧ findR (l ++ [⟨joinR f x.n.name, k⟩]) x.path x.n.name = some l.length ∧ allMetR st (l ++ [⟨joinR f x.n.name, k⟩]) done = true

/-- .. as a Boolean. -/
def WillB (st : List EntryD) (l : List PackD) (x : WhoD) (k : Nat) (done : List WhoD) (f : Tx) : Bool :=
  decide (atR l (joinR f x.n.name) = none ∧ findR (l ++ [⟨joinR f x.n.name, k⟩]) x.path x.n.name = some l.length ∧ allMetR st (l ++ [⟨joinR f x.n.name, k⟩]) done = true)
theorem willB_iff {st : List EntryD} {l : List PackD} {x : WhoD} {k : Nat} {done : List WhoD} {f : Tx} : WillB st l x k done f = true ↔ WillD st l x k done f := decide_eq_true_iff

theorem met_app {st : List EntryD} {l : List PackD} {q : PackD} {y : WhoD} (h : metR st l y = true) (hf : ∀ f ∈ foldersR y.path, joinR f y.n.name ≠ q.path) : metR st (l ++ [q]) y = true := by
  unfold metR at h ⊢
  rw [findR_app hf]
  rcases e : findR l y.path y.n.name with _ | k
  · rw [e] at h; exact absurd h (by simp)
  · rw [e] at h
    simp only at h ⊢
    rw [packAt_app_lt (findR_some e).1]
    exact h
/-- The path of who needs always will do. -/
theorem Run.own {stx : List EntX} {st : List EntryD} {ndx : List NeedX} {nd : List NeedD} {l : List PackD} {t : List PkX} {done rest : List WhoD} {x : WhoD} (hs : StockSame stx st) (hn : SiteNeeds ndx nd) (h : Run stx st nd l t done (x :: rest)) (k : Nat) : WillD st l x k done x.path := by
  have hxa : x ∈ allR st nd l := by rw [h.all]; simp
  have hxn := name_nosl (who_name hs hn h.ts.of hxa)
  have hp := h.pair
  rw [h.all, List.pairwise_append] at hp
  have hpx : ∀ y ∈ done, y.n.name = x.n.name → x.path ∉ foldersR y.path := fun y hy => hp.2.2 y hy x (by simp)
  have hat : atR l (joinR x.path x.n.name) = none := by
    refine atR_none.2 fun p hpl e => ?_
    obtain ⟨y, hy, h1, h2⟩ := h.laid p hpl
    have hw := h.ts.wf p hpl
    have e' := e
    rw [hw] at e'
    obtain ⟨e1, e2⟩ := join_inj (name_nosl (h.ts.nm p hpl)) hxn e'
    rw [e1] at h1
    exact hpx y hy (by rw [← h2, e2]) h1
  refine ⟨hat, ?_, ?_⟩
  · rw [findR_eq, atR_app, hat]
    simp
  · unfold allMetR
    rw [List.all_eq_true]
    intro y hy
    refine met_app (h.met y hy) fun f hf e => ?_
    have hya : y ∈ allR st nd l := by rw [h.all]; exact List.mem_append_left _ hy
    obtain ⟨e1, e2⟩ := join_inj (name_nosl (who_name hs hn h.ts.of hya)) hxn e
    subst e1
    exact hpx y hy e2 hf
/-- What was gone through is met: on to the next. -/
theorem Run.next {stx : List EntX} {st : List EntryD} {nd : List NeedD} {l : List PackD} {t : List PkX} {done rest : List WhoD} {x : WhoD} (h : Run stx st nd l t done (x :: rest)) (hm : metR st l x = true) : Run stx st nd l t (done ++ [x]) rest := by
  refine ⟨h.ts, by rw [h.all]; simp, h.fold, h.pair, fun p hp => ?_, fun y hy => ?_⟩
  · obtain ⟨y, hy, h1⟩ := h.laid p hp
    exact ⟨y, List.mem_append_left _ hy, h1⟩
  · rcases List.mem_append.1 hy with hy | hy
    · exact h.met y hy
    · rw [List.mem_singleton.1 hy]; exact hm
/-- Something is laid. -/
theorem Run.lay {stx : List EntX} {st : List EntryD} {ndx : List NeedX} {nd : List NeedD} {l : List PackD} {t : List PkX} {done rest : List WhoD} {x : WhoD} (hs : StockSame stx st) (hn : SiteNeeds ndx nd) (h : Run stx st nd l t done (x :: rest)) {k : Nat} (hk : k < stx.length) (hkn : (stx.getD k zeroE).name = x.n.name) (hkf : fitR x.n.rng (verOf st k) = true) {f : Tx} (hf : f ∈ foldersR x.path) (hw : WillD st l x k done f) :
    Run stx st nd (l ++ [⟨joinR f x.n.name, k⟩]) (withP t ⟨joinR f x.n.name, stx.getD k zeroE⟩) (done ++ [x]) (rest ++ allR st [] [⟨joinR f x.n.name, k⟩]) := by
  have hxa : x ∈ allR st nd l := by rw [h.all]; simp
  have hxi := who_name hs hn h.ts.of hxa
  have hxn := name_nosl hxi
  have hx0 := name_ne hxi
  have hts : TreeSame stx (l ++ [⟨joinR f x.n.name, k⟩]) (withP t ⟨joinR f x.n.name, stx.getD k zeroE⟩) := by
    rw [← hkn]
    exact h.ts.app hk (by rw [hkn]; exact hxi) (by rw [hkn]; exact hw.1)
  have hwhere : ∀ y ∈ allR st nd l, ∀ g ∈ foldersR y.path, g = [] ∨ ∃ b ∈ l, b.path = g := fun y hy g hg => by
    rcases allR_mem hy with ⟨e, _⟩ | ⟨p, hp, e, _⟩
    · rw [e, foldersR_nil] at hg
      exact .inl (List.mem_singleton.1 hg)
    · rw [e] at hg
      exact h.fold p hp g hg
  refine ⟨hts, by rw [allR_app, h.all]; simp, fun p hp g hg => ?_, ?_, fun p hp => ?_, fun y hy => ?_⟩
  · rcases List.mem_append.1 hp with hp | hp
    · rcases h.fold p hp g hg with e | ⟨b, hb, e⟩
      · exact .inl e
      · exact .inr ⟨b, List.mem_append_left _ hb, e⟩
    · rw [List.mem_singleton.1 hp] at hg
      simp only at hg
      rw [folders_join hxn hx0] at hg
      rcases List.mem_cons.1 hg with e | hg
      · exact .inr ⟨_, List.mem_append_right _ (List.mem_singleton.2 rfl), e.symm⟩
      · rcases hwhere x hxa g (folders_trans _ _ _ _ (Nat.le_refl _) hf hg) with e | ⟨b, hb, e⟩
        · exact .inl e
        · exact .inr ⟨b, List.mem_append_left _ hb, e⟩
  · rw [allR_app, List.pairwise_append]
    refine ⟨h.pair, ?_, fun a ha b hb => ?_⟩
    · rw [allR_single, List.pairwise_map]
      exact (needsOf_same hs hk).2.imp fun h e => absurd e h
    · intro _ hc
      rw [allR_single] at hb
      obtain ⟨n, _, rfl⟩ := List.mem_map.1 hb
      simp only at hc
      rcases hwhere a ha _ hc with e | ⟨b, hb, e⟩
      · exact join_ne hx0 e
      · exact atR_none.1 hw.1 b hb e
  · rcases List.mem_append.1 hp with hp | hp
    · obtain ⟨y, hy, h1⟩ := h.laid p hp
      exact ⟨y, List.mem_append_left _ hy, h1⟩
    · rw [List.mem_singleton.1 hp]
      exact ⟨x, by simp, by simp only; rw [folder_join hxn]; exact hf, hkn⟩
  · rcases List.mem_append.1 hy with hy | hy
    · have := hw.2.2
      unfold allMetR at this
      exact List.all_eq_true.1 this y hy
    · rw [List.mem_singleton.1 hy]
      unfold metR
      rw [hw.2.1]
      simp only
      rw [packAt_app_eq]
      exact hkf

/-! ### which folder -/
/-- The last of some folders that will do. -/
def pickF (W : Tx → Bool) : Tx → List Tx → Tx
  | b, [] => b
  | b, f :: r => pickF W (if W f = true then f else b) r
theorem pickF_none (W : Tx → Bool) : ∀ (fs : List Tx) (b : Tx), (∀ f ∈ fs, ¬ W f = true) → pickF W b fs = b
  | [], _, _ => rfl
  | f :: r, b, h => by
    rw [pickF, if_neg (h f (by simp))]
    exact pickF_none W r b fun g hg => h g (List.mem_cons_of_mem _ hg)
theorem pickF_some (W : Tx → Bool) : ∀ (fs : List Tx) (b : Tx), (∃ f ∈ fs, W f = true) → pickF W b fs ∈ fs ∧ W (pickF W b fs) = true ∧ ∀ c, pickF W c fs = pickF W b fs
  | [], _, h => by simp at h
  | f :: r, b, h => by
    rw [pickF]
    by_cases h' : ∃ g ∈ r, W g = true
    · obtain ⟨h1, h2, h3⟩ := pickF_some W r (if W f = true then f else b) h'
      exact ⟨List.mem_cons_of_mem _ h1, h2, fun c => by rw [pickF]; exact h3 _⟩
    · have hno : ∀ g ∈ r, ¬ W g = true := fun g hg hw => h' ⟨g, hg, hw⟩
      have hf : W f = true := by
        obtain ⟨g, hg, hw⟩ := h
        rcases List.mem_cons.1 hg with rfl | hg
        · exact hw
        · exact absurd hw (hno g hg)
      rw [if_pos hf, pickF_none W r f hno]
      refine ⟨by simp, hf, fun c => ?_⟩
      rw [pickF, if_pos hf, pickF_none W r f hno]
theorem layGo_cons (st : List EntryD) (l : List PackD) (x : WhoD) (k : Nat) (done : List WhoD) (f : Tx) (r : List Tx) : layGo st l x k done (f :: r) = if WillB st l x k done f = true then l ++ [⟨joinR f x.n.name, k⟩] else layGo st l x k done r := by
  rw [layGo]
  by_cases h : WillD st l x k done f
  · rw [if_pos (willB_iff.2 h)]
    unfold WillD at h
    rw [if_pos h]
  · rw [if_neg fun hb => h (willB_iff.1 hb)]
    unfold WillD at h
    rw [if_neg h]
theorem layGo_app (st : List EntryD) (l : List PackD) (x : WhoD) (k : Nat) (done : List WhoD) (g : Tx) : ∀ fs : List Tx, ((∃ f ∈ fs, WillB st l x k done f = true) → layGo st l x k done (fs ++ [g]) = layGo st l x k done fs) ∧ ((∀ f ∈ fs, ¬ WillB st l x k done f = true) → layGo st l x k done (fs ++ [g]) = layGo st l x k done [g])
  | [] => by simp
  | f :: r => by
    obtain ⟨h1, h2⟩ := layGo_app st l x k done g r
    rw [List.cons_append, layGo_cons, layGo_cons]
    by_cases hw : WillB st l x k done f = true
    · rw [if_pos hw, if_pos hw]
      exact ⟨fun _ => rfl, fun h => absurd hw (h f (by simp))⟩
    · rw [if_neg hw, if_neg hw]
      refine ⟨fun h => ?_, fun h => h2 fun q hq => h q (List.mem_cons_of_mem _ hq)⟩
      obtain ⟨q, hq, hwq⟩ := h
      rcases List.mem_cons.1 hq with rfl | hq
      · exact absurd hwq hw
      · exact h1 ⟨q, hq, hwq⟩
theorem layGo_pick (st : List EntryD) (l : List PackD) (x : WhoD) (k : Nat) (done : List WhoD) : ∀ (fs : List Tx) (b : Tx), (∃ f ∈ fs, WillB st l x k done f = true) → layGo st l x k done fs.reverse = l ++ [⟨joinR (pickF (WillB st l x k done) b fs) x.n.name, k⟩]
  | [], _, h => by simp at h
  | f :: r, b, h => by
    rw [List.reverse_cons, pickF]
    obtain ⟨h1, h2⟩ := layGo_app st l x k done f r.reverse
    by_cases h' : ∃ g ∈ r, WillB st l x k done g = true
    · obtain ⟨g, hg, hw⟩ := h'
      rw [h1 ⟨g, by simpa using hg, hw⟩]
      exact layGo_pick st l x k done r _ ⟨g, hg, hw⟩
    · have hno : ∀ g ∈ r, ¬ WillB st l x k done g = true := fun g hg hw => h' ⟨g, hg, hw⟩
      have hf : WillB st l x k done f = true := by
        obtain ⟨g, hg, hw⟩ := h
        rcases List.mem_cons.1 hg with rfl | hg
        · exact hw
        · exact absurd hw (hno g hg)
      rw [h2 fun g hg => hno g (by simpa using hg), layGo_cons, if_pos hf, if_pos hf, pickF_none _ r f hno]
/-- lay, where the path of who needs will do. -/
theorem layR_pick {st : List EntryD} {l : List PackD} {x : WhoD} {k : Nat} {done : List WhoD} (h : WillD st l x k done x.path) : layR st l x k done = l ++ [⟨joinR (pickF (WillB st l x k done) x.path (foldersR x.path)) x.n.name, k⟩] := layGo_pick st l x k done _ _ ⟨_, folders_self _, willB_iff.2 h⟩

/-- What was gone through, on both sides. -/
def GoneSame (a : AsX) (y : WhoD) : Prop := a.path = y.path ∧ NeedSame a.n y.n
theorem allMet_same {stx : List EntX} {st : List EntryD} {l : List PackD} {t : List PkX} (hs : StockSame stx st) (ht : TreeSame stx l t) : ∀ {gone : List AsX} {done : List WhoD}, All2 GoneSame gone done → (gone.all fun a => meetsP t a.path a.n) = allMetR st l done
  | [], [], _ => rfl
  | a :: gone, y :: done, h => by
    have ih := allMet_same hs ht h.2
    unfold allMetR at ih ⊢
    rw [List.all_cons, List.all_cons, ih, h.1.1, met_same hs ht h.1.2]
  | [], _ :: _, h => False.elim h
  | _ :: _, [], h => False.elim h
theorem willDo_same {stx : List EntX} {st : List EntryD} {l : List PackD} {t : List PkX} {gone : List AsX} {done : List WhoD} (hs : StockSame stx st) (ht : TreeSame stx l t) (hg : All2 GoneSame gone done) {x : WhoD} (hx : isNameR x.n.name = true) {k : Nat} (hk : k < stx.length) (hkn : (stx.getD k zeroE).name = x.n.name) (f : Tx) :
    willDoP t gone x.path ⟨joinR f (stx.getD k zeroE).name, stx.getD k zeroE⟩ = true ↔ WillD st l x k done f := by
  unfold willDoP WillD
  rw [hasAt_same ht, ← hkn]
  rcases e : atR l (joinR f (stx.getD k zeroE).name) with _ | j
  · have ht' := ht.app hk (by rw [hkn]; exact hx) e
    have hfs := find_same ht' (name := (stx.getD k zeroE).name) (name_nosl (by rw [hkn]; exact hx)) x.path.length x.path (Nat.le_refl _)
    simp only [Option.isSome_none, Bool.not_false, Bool.true_and, true_and]
    rcases e2 : findR (l ++ [⟨joinR f (stx.getD k zeroE).name, k⟩]) x.path (stx.getD k zeroE).name with _ | j
    · rw [hfs, e2]
      exact ⟨fun h => absurd h (by simp), fun h => absurd h.1 (by simp)⟩
    · rw [hfs, e2]
      obtain ⟨h1, h2, _⟩ := findR_some e2
      simp only [Option.map_some, Bool.and_eq_true]
      rw [allMet_same hs ht' hg]
      have key : decide ((toX stx (packAt (l ++ [⟨joinR f (stx.getD k zeroE).name, k⟩]) j)).path = joinR f (stx.getD k zeroE).name) = true ↔ some j = some l.length := by
        rw [decide_eq_true_eq]
        by_cases hj : j = l.length
        · subst hj
          rw [packAt_app_eq]
          exact ⟨fun _ => rfl, fun _ => rfl⟩
        · have hjl : j < l.length := by simp at h1; omega
          rw [packAt_app_lt hjl] at h2 ⊢
          constructor
          · intro e3
            have hin : packAt l j ∈ l := by
              unfold packAt
              rw [List.getD_eq_getElem?_getD, List.getElem?_eq_getElem hjl]
              exact List.getElem_mem _
            exact absurd e3 (atR_none.1 e _ hin)
          · intro e3
            exact absurd (by simpa using e3) hj
      rw [key]
  · simp

theorem placeGo_pick {stx : List EntX} {st : List EntryD} {l : List PackD} {t : List PkX} {gone : List AsX} {done : List WhoD} (hs : StockSame stx st) (ht : TreeSame stx l t) (hg : All2 GoneSame gone done) {x : WhoD} (hx : isNameR x.n.name = true) {k : Nat} (hk : k < stx.length) (hkn : (stx.getD k zeroE).name = x.n.name) :
    ∀ (n : Nat) (folder b : Tx), folder.length ≤ n → placeGo t gone x.path (stx.getD k zeroE) folder ⟨joinR b (stx.getD k zeroE).name, stx.getD k zeroE⟩ = ⟨joinR (pickF (WillB st l x k done) b (foldersR folder).tail) (stx.getD k zeroE).name, stx.getD k zeroE⟩
  | n, folder, b, hn => by
    rw [placeGo_eq]
    by_cases h0 : folder = []
    · subst h0
      rw [dif_pos rfl, foldersR_nil]
      rfl
    · rw [dif_neg h0, foldersR_cons folder h0, List.tail_cons]
      have hl := folderP_lt h0
      have hfs : foldersR (folderP folder) = folderP folder :: (foldersR (folderP folder)).tail := by
        by_cases h1 : folderP folder = []
        · rw [h1, foldersR_nil]; rfl
        · rw [foldersR_cons _ h1]; rfl
      rw [hfs, pickF]
      have hb : (if willDoP t gone x.path ⟨joinR (folderP folder) (stx.getD k zeroE).name, stx.getD k zeroE⟩ = true then (⟨joinR (folderP folder) (stx.getD k zeroE).name, stx.getD k zeroE⟩ : PkX) else ⟨joinR b (stx.getD k zeroE).name, stx.getD k zeroE⟩) = ⟨joinR (if WillB st l x k done (folderP folder) = true then folderP folder else b) (stx.getD k zeroE).name, stx.getD k zeroE⟩ := by
        by_cases hw : WillD st l x k done (folderP folder)
        · rw [if_pos (willB_iff.2 hw), if_pos ((willDo_same hs ht hg hx hk hkn _).2 hw)]
        · rw [if_neg fun h => hw (willB_iff.1 h), if_neg fun h => hw ((willDo_same hs ht hg hx hk hkn _).1 h)]
      rw [hb]
      match n with
      | 0 => omega
      | n + 1 => exact placeGo_pick hs ht hg hx hk hkn n (folderP folder) _ (by omega)
/-- The program lays where the document does. -/
theorem place_same {stx : List EntX} {st : List EntryD} {l : List PackD} {t : List PkX} {gone : List AsX} {done : List WhoD} (hs : StockSame stx st) (ht : TreeSame stx l t) (hg : All2 GoneSame gone done) {x : WhoD} (hx : isNameR x.n.name = true) {k : Nat} (hk : k < stx.length) (hkn : (stx.getD k zeroE).name = x.n.name) (hw : WillD st l x k done x.path) :
    placeP t gone x.path (stx.getD k zeroE) = ⟨joinR (pickF (WillB st l x k done) x.path (foldersR x.path)) x.n.name, stx.getD k zeroE⟩ := by
  unfold placeP
  rw [placeGo_pick hs ht hg hx hk hkn x.path.length x.path x.path (Nat.le_refl _), ← hkn]
  have hfs : foldersR x.path = x.path :: (foldersR x.path).tail := by
    by_cases h1 : x.path = []
    · rw [h1, foldersR_nil]; rfl
    · rw [foldersR_cons _ h1]; rfl
  rw [hfs, pickF, if_pos (willB_iff.2 hw)]
  rfl

end Hst
end Go.Proofs.YtecocheolbkneaaDoor
