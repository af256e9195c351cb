/- Msort, Mnew, Msite -/
import Derived.Test.YtecocheolbkneaaDoorW07
namespace Go.Proofs.YtecocheolbkneaaDoor
namespace Hst

theorem All2.filter {α β : Type} {R : α → β → Prop} (p : α → Bool) (q : β → Bool) (hpq : ∀ a b, R a b → p a = q b) : ∀ {x : List α} {y : List β}, All2 R x y → All2 R (x.filter p) (y.filter q)
  | [], [], _ => trivial
  | a :: x, b :: y, h => by
    have ih := All2.filter p q hpq (x := x) (y := y) h.2
    rw [List.filter_cons, List.filter_cons, hpq a b h.1]
    split
    · exact ⟨h.1, ih⟩
    · exact ih
  | [], _ :: _, h => False.elim h
  | _ :: _, [], h => False.elim h
/-- Two lists by rising keys, each element with one of the other list. -/
theorem All2.of_rises {α β : Type} {R : α → β → Prop} {ka : α → Tx} {kb : β → Tx} (hk : ∀ a b, R a b → ka a = kb b) : ∀ {x : List α} {y : List β}, Rises ka x → Rises kb y → (∀ a ∈ x, ∃ b ∈ y, R a b) → (∀ b ∈ y, ∃ a ∈ x, R a b) → All2 R x y
  | [], [], _, _, _, _ => trivial
  | [], b :: y, _, _, _, h => by obtain ⟨a, ha, _⟩ := h b (by simp); simp at ha
  | a :: x, [], _, _, h, _ => by obtain ⟨b, hb, _⟩ := h a (by simp); simp at hb
  | a :: x, b :: y, hx, hy, h1, h2 => by
    have hx' := List.pairwise_cons.1 hx
    have hy' := List.pairwise_cons.1 hy
    have hab : R a b := by
      obtain ⟨b0, hb0, r0⟩ := h1 a (by simp)
      obtain ⟨a0, ha0, r1⟩ := h2 b (by simp)
      rcases List.mem_cons.1 hb0 with e | hb0
      · rw [← e]; exact r0
      · rcases List.mem_cons.1 ha0 with e | ha0
        · rw [← e]; exact r1
        · have l1 := hy'.1 b0 hb0
          have l2 := hx'.1 a0 ha0
          rw [← hk _ _ r0] at l1
          rw [hk _ _ r1] at l2
          rw [less_asymm l1] at l2
          exact absurd l2 (by simp)
    refine ⟨hab, All2.of_rises hk hx'.2 hy'.2 (fun a1 ha1 => ?_) fun b1 hb1 => ?_⟩
    · obtain ⟨b1, hb1, r⟩ := h1 a1 (List.mem_cons_of_mem _ ha1)
      rcases List.mem_cons.1 hb1 with e | hb1
      · subst e
        exact absurd ((hk _ _ hab).trans (hk _ _ r).symm) (less_ne (hx'.1 a1 ha1))
      · exact ⟨b1, hb1, r⟩
    · obtain ⟨a1, ha1, r⟩ := h2 b1 (List.mem_cons_of_mem _ hb1)
      rcases List.mem_cons.1 ha1 with e | ha1
      · subst e
        exact absurd ((hk _ _ hab).symm.trans (hk _ _ r)) (less_ne (hy'.1 b1 hb1))
      · exact ⟨a1, ha1, r⟩

/-! ### the document's order -/
theorem insPos_hi (x : NeedD) (out : List NeedD) : ∀ k, k ≤ out.length → insPos x out k ≤ k ∧ ∀ j (hj : j < out.length), insPos x out k ≤ j → j < k → less x.name out[j].name = true
  | 0, _ => ⟨Nat.le_refl _, fun j _ _ h => by omega⟩
  | k + 1, hk => by
    obtain ⟨h1, h2⟩ := insPos_hi x out k (by omega)
    have eg : out.getD k ⟨[], []⟩ = out[k] := by rw [List.getD_eq_getElem?_getD, List.getElem?_eq_getElem (by omega)]; rfl
    rw [insPos, eg]
    by_cases hl : less x.name out[k].name = true
    · rw [if_pos hl]
      refine ⟨by omega, fun j hj h3 h4 => ?_⟩
      by_cases e : j = k
      · subst e; exact hl
      · exact h2 j hj h3 (by omega)
    · rw [if_neg hl]
      exact ⟨Nat.le_refl _, fun j _ h3 h4 => by omega⟩
theorem insPos_lo (x : NeedD) (out : List NeedD) : ∀ k, k ≤ out.length → 0 < insPos x out k → less x.name (out.getD (insPos x out k - 1) ⟨[], []⟩).name = false
  | 0, _, h0 => by simp [insPos] at h0
  | k + 1, hk, h0 => by
    by_cases hl : less x.name (out.getD k ⟨[], []⟩).name = true
    · have e : insPos x out (k + 1) = insPos x out k := by rw [insPos, if_pos hl]
      rw [e] at h0 ⊢
      exact insPos_lo x out k (by omega) h0
    · have e : insPos x out (k + 1) = k + 1 := by rw [insPos, if_neg hl]
      rw [e, Nat.add_sub_cancel]
      simpa using hl
theorem insR_perm (x : NeedD) (out : List NeedD) : (insR x out).Perm (x :: out) := by
  unfold insR
  rw [List.append_assoc]
  have h : (out.take (insPos x out out.length) ++ ([x] ++ out.drop (insPos x out out.length))).Perm ([x] ++ (out.take (insPos x out out.length) ++ out.drop (insPos x out out.length))) := by
    rw [← List.append_assoc, ← List.append_assoc]
    exact List.Perm.append_right _ List.perm_append_comm
  rw [List.take_append_drop] at h
  exact h
theorem insR_mem (x : NeedD) (out : List NeedD) (y : NeedD) : y ∈ insR x out ↔ y = x ∨ y ∈ out := by
  rw [(insR_perm x out).mem_iff, List.mem_cons]
theorem insR_rises (x : NeedD) (out : List NeedD) (h : Rises (fun n => n.name) out) (hn : ∀ y ∈ out, y.name ≠ x.name) : Rises (fun n => n.name) (insR x out) := by
  obtain ⟨h1, h2⟩ := insPos_hi x out out.length (Nat.le_refl _)
  have h3 := insPos_lo x out out.length (Nat.le_refl _)
  unfold insR
  generalize insPos x out out.length = p at *
  have hlo : ∀ y ∈ out.take p, less y.name x.name = true := by
    intro y hy
    obtain ⟨j, hj, e⟩ := List.mem_iff_getElem.1 hy
    have hjp : j < p := by simp at hj; omega
    rw [List.getElem_take] at e
    have h4 := h3 (by omega)
    have eg : out.getD (p - 1) ⟨[], []⟩ = out[p - 1]'(by omega) := by rw [List.getD_eq_getElem?_getD, List.getElem?_eq_getElem (by omega)]; rfl
    rw [eg] at h4
    have hlast : less (out[p - 1]'(by omega)).name x.name = true := by
      rcases less_tri (out[p - 1]'(by omega)).name x.name with t | t | t
      · exact t
      · exact absurd t (hn _ (List.getElem_mem _))
      · rw [h4] at t; exact absurd t (by simp)
    by_cases ej : j = p - 1
    · subst ej
      rw [← e]; exact hlast
    · have := List.pairwise_iff_getElem.1 h j (p - 1) (by omega) (by omega) (by omega)
      rw [← e]
      exact less_trans _ _ _ this hlast
  have hhi : ∀ y ∈ out.drop p, less x.name y.name = true := by
    intro y hy
    obtain ⟨j, hj, e⟩ := List.mem_iff_getElem.1 hy
    rw [List.getElem_drop] at e
    rw [← e]
    simp at hj
    exact h2 _ (by omega) (by omega) (by omega)
  have hsp : Rises (fun n => n.name) (out.take p ++ out.drop p) := by rw [List.take_append_drop]; exact h
  have hsp' := List.pairwise_append.1 hsp
  unfold Rises
  rw [List.append_assoc, List.pairwise_append]
  refine ⟨hsp'.1, ?_, fun a ha b hb => ?_⟩
  · rw [List.singleton_append]
    exact List.pairwise_cons.2 ⟨hhi, hsp'.2.1⟩
  · rw [List.singleton_append] at hb
    rcases List.mem_cons.1 hb with rfl | hb
    · exact hlo a ha
    · exact hsp'.2.2 a ha b hb
theorem sortGo_perm : ∀ (l out : List NeedD), (sortGo out l).Perm (out ++ l)
  | [], out => by rw [sortGo]; simp
  | x :: r, out => by
    rw [sortGo]
    refine (sortGo_perm r (insR x out)).trans ?_
    refine (List.Perm.append_right r (insR_perm x out)).trans ?_
    rw [List.cons_append]
    exact List.perm_middle.symm
theorem sortedR_perm (l : List NeedD) : (sortedR l).Perm l := sortGo_perm l []
theorem sortGo_rises : ∀ (l out : List NeedD), Rises (fun n => n.name) out → (l.Pairwise fun a b => a.name ≠ b.name) → (∀ y ∈ out, ∀ x ∈ l, y.name ≠ x.name) → Rises (fun n => n.name) (sortGo out l)
  | [], out, h, _, _ => h
  | x :: r, out, h, hl, hn => by
    have hl' := List.pairwise_cons.1 hl
    rw [sortGo]
    refine sortGo_rises r _ (insR_rises x out h fun y hy => hn y hy x (by simp)) hl'.2 fun y hy z hz => ?_
    rcases (insR_mem x out y).1 hy with rfl | hy
    · exact hl'.1 z hz
    · exact hn y hy z (List.mem_cons_of_mem _ hz)
theorem sortedR_rises (l : List NeedD) (hl : l.Pairwise fun a b => a.name ≠ b.name) : Rises (fun n => n.name) (sortedR l) := sortGo_rises l [] (Rises.nil _) hl (by simp)

/-! ### the program's order -/
/-- By rising keys, or the same. -/
def Climbs {α : Type} (key : α → Tx) (l : List α) : Prop := l.Pairwise fun x y => less (key y) (key x) = false
theorem insX_perm {α : Type} (key : α → Tx) (x : α) : ∀ l : List α, (insG key x false l).Perm (x :: l)
  | [] => by simp [insG]
  | y :: r => by
    simp only [insG, true_and]
    split
    · rw [insX_true]
    · exact ((insX_perm key x r).cons y).trans (List.Perm.swap x y r)
theorem insG_climbs {α : Type} (key : α → Tx) (x : α) : ∀ l : List α, Climbs key l → Climbs key (insG key x false l)
  | [], _ => by simp [insG, Climbs]
  | z :: r, h => by
    have h' := List.pairwise_cons.1 h
    rw [insG]
    split
    · rename_i hl
      rw [insX_true]
      refine List.pairwise_cons.2 ⟨fun y hy => ?_, h⟩
      rcases List.mem_cons.1 hy with rfl | hy
      · exact less_asymm hl.2
      · have h1 := h'.1 y hy
        rcases e : less (key y) (key x) with _ | _
        · rfl
        · rw [less_trans _ _ _ e hl.2] at h1; exact absurd h1 (by simp)
    · rename_i hl
      refine List.pairwise_cons.2 ⟨fun y hy => ?_, insG_climbs key x r h'.2⟩
      rcases (insX_mem key x r y).1 hy with rfl | hy
      · rcases e : less (key y) (key z) with _ | _
        · rfl
        · exact absurd ⟨rfl, e⟩ hl
      · exact h'.1 y hy
theorem foldl_withN_perm : ∀ (xs acc : List NeedX), (xs.foldl withN acc).Perm (acc ++ xs)
  | [], acc => by simp
  | x :: r, acc => by
    rw [List.foldl_cons]
    refine (foldl_withN_perm r (withN acc x)).trans ?_
    refine (List.Perm.append_right r (insX_perm _ x acc)).trans ?_
    rw [List.cons_append]
    exact List.perm_middle.symm
theorem foldl_withN_climbs : ∀ (xs acc : List NeedX), Climbs (fun n => n.name) acc → Climbs (fun n => n.name) (xs.foldl withN acc)
  | [], acc, h => h
  | x :: r, acc, h => by
    rw [List.foldl_cons]
    exact foldl_withN_climbs r _ (insG_climbs _ x acc h)
theorem twiceX_false : ∀ (l : List NeedX), Climbs (fun n => n.name) l → twiceX l = false → Rises (fun n => n.name) l
  | [], _, _ => Rises.nil _
  | [x], _, _ => by simp [Rises]
  | x :: y :: r, h, ht => by
    rw [twiceX, Bool.or_eq_false_iff] at ht
    have h' := List.pairwise_cons.1 h
    have ih := twiceX_false (y :: r) h'.2 ht.2
    have ih' := List.pairwise_cons.1 ih
    have hxy : less x.name y.name = true := by
      rcases less_tri x.name y.name with t | t | t
      · exact t
      · exact absurd t (of_decide_eq_false ht.1)
      · rw [h'.1 y (by simp)] at t; exact absurd t (by simp)
    refine List.pairwise_cons.2 ⟨fun z hz => ?_, ih⟩
    rcases List.mem_cons.1 hz with rfl | hz
    · exact hxy
    · exact less_trans _ _ _ hxy (ih'.1 z hz)
theorem twiceX_true : ∀ (l : List NeedX), twiceX l = true → ¬ l.Pairwise fun a b => a.name ≠ b.name
  | [], h => by simp [twiceX] at h
  | [x], h => by simp [twiceX] at h
  | x :: y :: r, h => by
    intro hp
    have hp' := List.pairwise_cons.1 hp
    rw [twiceX, Bool.or_eq_true] at h
    rcases h with h | h
    · exact hp'.1 y (by simp) (of_decide_eq_true h)
    · exact twiceX_true (y :: r) h hp'.2

/-! ### names twice -/
theorem twiceN_iff : ∀ (l pre : List NeedD), twiceN pre l = false ↔ (l.Pairwise fun a b => a.name ≠ b.name) ∧ ∀ m ∈ pre, ∀ n ∈ l, m.name ≠ n.name
  | [], pre => by simp [twiceN]
  | x :: r, pre => by
    rw [twiceN, Bool.or_eq_false_iff, twiceN_iff r (pre ++ [x]), List.pairwise_cons, List.any_eq_false]
    constructor
    · rintro ⟨h1, h2, h3⟩
      refine ⟨⟨fun b hb => h3 x (by simp) b hb, h2⟩, fun m hm n hn => ?_⟩
      rcases List.mem_cons.1 hn with rfl | hn
      · have := h1 m hm
        simpa using this
      · exact h3 m (List.mem_append_left _ hm) n hn
    · rintro ⟨⟨h1, h2⟩, h3⟩
      refine ⟨fun m hm => ?_, h2, fun m hm n hn => ?_⟩
      · have := h3 m hm x (by simp)
        simpa using this
      · rcases List.mem_append.1 hm with hm | hm
        · exact h3 m hm n (List.mem_cons_of_mem _ hn)
        · rw [List.mem_singleton.1 hm]; exact h1 n hn
theorem All2.names {xs : List NeedX} {ds : List NeedD} (h : All2 NeedSame xs ds) : xs.map (fun n => n.name) = ds.map fun n => n.name := by
  induction xs generalizing ds with
  | nil => cases ds with
    | nil => rfl
    | cons _ _ => exact False.elim h
  | cons x xs ih => cases ds with
    | nil => exact False.elim h
    | cons d ds => rw [List.map_cons, List.map_cons, ih h.2, h.1.name]
theorem pw_map {α : Type} (key : α → Tx) (l : List α) : (l.Pairwise fun a b => key a ≠ key b) ↔ (l.map key).Nodup := by
  unfold List.Nodup
  rw [List.pairwise_map]
/-- The needs of an entry: a name twice, or the same needs. -/
theorem entry_needs {xs : List NeedX} {ds : List NeedD} (h : All2 NeedSame xs ds) :
    twiceX (xs.foldl withN []) = twiceN [] (sortedR ds) ∧ (twiceX (xs.foldl withN []) = false → All2 NeedSame (xs.foldl withN []) (sortedR ds) ∧ Rises (fun n => n.name) (sortedR ds)) := by
  have pX : (xs.foldl withN []).Perm xs := foldl_withN_perm xs []
  have pD := sortedR_perm ds
  have hcl := foldl_withN_climbs xs [] (by simp [Climbs])
  have hnm := h.names
  have nX : ((xs.foldl withN []).map fun n => n.name).Nodup ↔ (xs.map fun n => n.name).Nodup := (pX.map _).nodup_iff
  have nD : ((sortedR ds).map fun n => n.name).Nodup ↔ (ds.map fun n => n.name).Nodup := (pD.map _).nodup_iff
  have tD : twiceN [] (sortedR ds) = false ↔ (ds.map fun n => n.name).Nodup := by
    rw [twiceN_iff, ← nD, ← pw_map]
    simp
  rcases e : twiceX (xs.foldl withN []) with _ | _
  · have hr := twiceX_false _ hcl e
    have hX : (xs.map fun n => n.name).Nodup := by
      rw [← nX, ← pw_map]
      exact List.Pairwise.imp (fun h => less_ne h) hr
    rw [hnm] at hX
    have hrd := sortedR_rises ds ((pw_map _ ds).2 hX)
    refine ⟨(tD.2 hX).symm, fun _ => ⟨All2.of_rises (fun a b r => r.name) hr hrd (fun a ha => ?_) fun b hb => ?_, hrd⟩⟩
    · obtain ⟨b, hb, r⟩ := h.meml a (pX.mem_iff.1 ha)
      exact ⟨b, pD.mem_iff.2 hb, r⟩
    · obtain ⟨a, ha, r⟩ := h.mem b (pD.mem_iff.1 hb)
      exact ⟨a, pX.mem_iff.2 ha, r⟩
  · have hno := twiceX_true _ e
    have : ¬ (ds.map fun n => n.name).Nodup := by
      rw [← hnm, ← nX, ← pw_map]
      exact hno
    refine ⟨?_, fun h => absurd h (by simp)⟩
    rcases e2 : twiceN [] (sortedR ds) with _ | _
    · exact absurd (tD.1 e2) this
    · rfl
/-- One more need of a site. -/
theorem with_same {ndx : List NeedX} {nd : List NeedD} (h : All2 NeedSame ndx nd) (hr : Rises (fun n => n.name) nd) {x : NeedX} {d : NeedD} (hx : NeedSame x d) (hn : ∀ y ∈ nd, y.name ≠ d.name) : All2 NeedSame (withN ndx x) (sortedR (nd ++ [d])) ∧ Rises (fun n => n.name) (sortedR (nd ++ [d])) := by
  have hrx : Rises (fun n => n.name) ndx := by
    have : (ndx.map fun n => n.name).Pairwise fun a b => less a b = true := by
      rw [h.names, List.pairwise_map]
      exact hr
    rw [List.pairwise_map] at this
    exact this
  have hnx : ∀ y ∈ ndx, y.name ≠ x.name := fun y hy => by
    obtain ⟨b, hb, r⟩ := h.meml y hy
    rw [r.name, hx.name]
    exact hn b hb
  have hd : (nd ++ [d]).Pairwise fun a b => a.name ≠ b.name := by
    rw [List.pairwise_append]
    refine ⟨List.Pairwise.imp (fun h => less_ne h) hr, by simp, fun a ha b hb => ?_⟩
    rw [List.mem_singleton.1 hb]
    exact hn a ha
  have hrd := sortedR_rises _ hd
  have pD := sortedR_perm (nd ++ [d])
  refine ⟨All2.of_rises (fun a b r => r.name) (insG_rises _ x ndx hrx hnx) hrd (fun a ha => ?_) fun b hb => ?_, hrd⟩
  · rcases (insX_mem _ _ _ _).1 ha with rfl | ha
    · exact ⟨d, pD.mem_iff.2 (by simp), hx⟩
    · obtain ⟨b, hb, r⟩ := h.meml a ha
      exact ⟨b, pD.mem_iff.2 (List.mem_append_left _ hb), r⟩
  · rcases List.mem_append.1 (pD.mem_iff.1 hb) with hb | hb
    · obtain ⟨a, ha, r⟩ := h.mem b hb
      exact ⟨a, (insX_mem _ _ _ _).2 (.inr ha), r⟩
    · rw [List.mem_singleton.1 hb]
      exact ⟨x, (insX_mem _ _ _ _).2 (.inl rfl), hx⟩

end Hst
end Go.Proofs.YtecocheolbkneaaDoor
namespace Go.Proofs.YtecocheolbkneaaDoor
namespace Hst

theorem rok_same (l : Tx) : rok (rangeP l) = isRangeR l := by
  rcases rangeP_law l with ⟨e1, e2⟩ | ⟨sp, e1, e2, _⟩
  · rw [e1, e2]; rfl
  · rw [e1, e2]; rfl
theorem needOk_same (l : Tx) : needOkP l = (needR l).2 := by
  unfold needOkP needR
  rw [rok_same]
theorem needOf_same {l : Tx} {x : NeedX} (h : NeedOf l x) : NeedSame x (needR l).1 := by
  obtain ⟨h1, h2, h3, h4⟩ := h
  unfold needOkP at h1
  rw [Bool.and_eq_true] at h1
  exact ⟨h2, h3, by rw [h4]; exact (List.take_append_drop _ _).symm, h1.1⟩
theorem needsOf_all2 : ∀ {d : List Tx} {xs : List NeedX}, NeedsOf d xs → All2 NeedSame xs (d.map fun t => (needR t).1)
  | [], [], _ => trivial
  | [], _ :: _, h => by have := h.1; simp at this
  | _ :: _, [], h => by have := h.1; simp at this
  | t :: d, x :: xs, h => by
    refine ⟨needOf_same (h.2 (t, x) (by simp)), needsOf_all2 ⟨by have := h.1; simpa using this, fun p hp => h.2 p ?_⟩⟩
    rw [List.zip_cons_cons]
    exact List.mem_cons_of_mem _ hp
theorem needsGo_spec : ∀ (ts : List Tx) (acc : List NeedD), needsGo acc ts = if (ts.all fun t => (needR t).2) = true then some (acc ++ ts.map fun t => (needR t).1) else none
  | [], acc => by simp [needsGo]
  | t :: r, acc => by
    rw [needsGo]
    by_cases h : (needR t).2 = true
    · rw [if_pos h, needsGo_spec r]
      simp [h]
    · rw [if_neg h]
      simp [h]
theorem list_ok (s : Tx) : listOkP s = (tailR s).2 := by
  unfold listOkP tailR needsR
  rw [needsGo_spec]
  have e : (splitL 44 s).all needOkP = (splitL 44 s).all fun t => (needR t).2 := by
    congr 1
    funext t
    exact needOk_same t
  rw [e]
  rcases h : (splitL 44 s).all fun t => (needR t).2 with _ | _
  · simp
  · simp
theorem tail_needs {s : Tx} (h : listOkP s = true) : (tailR s).1 = sortedR ((splitL 44 s).map fun t => (needR t).1) ∧ (splitL 44 s).length ≤ 6 := by
  unfold listOkP at h
  rw [Bool.and_eq_true] at h
  have e : (splitL 44 s).all needOkP = (splitL 44 s).all fun t => (needR t).2 := by
    congr 1
    funext t
    exact needOk_same t
  rw [e] at h
  unfold tailR needsR
  rw [needsGo_spec, if_pos h.2]
  exact ⟨by simp, of_decide_eq_true h.1⟩
theorem oks_ver (l : Tx) : oks (versionP l) = (versionR l).2 := by
  rw [versionP_eq]
  rcases h : (versionR l).2 with _ | _
  · rfl
  · rfl
theorem entry_ok (t : Tx) : entryOkP t = (entryR t).2 := by
  unfold entryOkP entryR eHas eAt eName eVer eTail eHead
  rw [oks_ver, list_ok]
  rcases h : (cutR 58 t).2.2 with _ | _
  · simp only [Bool.not_false, Bool.true_or, Bool.and_true]
    rw [if_neg (by simp)]
    simp only
    rcases (cutR 64 (cutR 58 t).1).2.2 <;> rcases isNameR (cutR 64 (cutR 58 t).1).1 <;> simp
  · simp only [Bool.not_true, Bool.false_or]
    rw [if_pos trivial]
    simp only
    rcases (cutR 64 (cutR 58 t).1).2.2 <;> rcases isNameR (cutR 64 (cutR 58 t).1).1 <;> rcases (versionR (cutR 64 (cutR 58 t).1).2.1).2 <;> simp
/-- An entry, whether or not a name stands twice in it. -/
structure Ent0 (e : EntX) (d : EntryD) : Prop where
  name : e.name = d.name
  ver : e.ver = place d.v
  val : Valid d.v
  isn : isNameR d.name = true
  nd : ∃ xs ds, All2 NeedSame xs ds ∧ e.nd = xs.foldl withN [] ∧ d.needs = sortedR ds ∧ ds.length ≤ 6
theorem entOf_same {t : Tx} {e : EntX} (h : EntOf t e) : Ent0 e (entryR t).1 := by
  obtain ⟨h1, h2, h3, h4, h5⟩ := h
  have h1' := h1
  unfold entryOkP at h1'
  simp only [Bool.and_eq_true] at h1'
  obtain ⟨hv1, hv2⟩ := versionP_some h3
  have hval := versionR_valid _ hv1
  unfold entryR
  rcases hh : eHas t with _ | _
  · have hh' : ¬ (cutR 58 t).2.2 = true := by unfold eHas at hh; rw [hh]; simp
    rw [if_neg hh']
    exact ⟨h2, hv2, hval, h1'.1.1.2, [], [], trivial, h4 hh, rfl, by simp⟩
  · have hh' : (cutR 58 t).2.2 = true := hh
    rw [if_pos hh']
    obtain ⟨xs, hx1, hx2⟩ := h5 hh
    have hl : listOkP (eTail t) = true := by
      have := h1'.2
      rw [hh] at this
      simpa using this
    obtain ⟨ht1, ht2⟩ := tail_needs hl
    exact ⟨h2, hv2, hval, h1'.1.1.2, xs, _, needsOf_all2 hx1, hx2, ht1, by simpa using ht2⟩
theorem Ent0.twice {e : EntX} {d : EntryD} (h : Ent0 e d) : twiceX e.nd = twiceN [] d.needs ∧ (twiceX e.nd = false → EntSame e d) ∧ d.needs.length ≤ 6 := by
  obtain ⟨xs, ds, h1, h2, h3, h4⟩ := h.nd
  obtain ⟨e1, e2⟩ := entry_needs h1
  rw [h2, h3]
  refine ⟨e1, fun hf => ?_, by rw [(sortedR_perm ds).length_eq]; exact h4⟩
  obtain ⟨g1, g2⟩ := e2 hf
  exact ⟨h.name, h.ver, h.val, h.isn, by rw [h2, h3]; exact g1, by rw [h3]; exact List.Pairwise.imp (fun h => less_ne h) g2⟩
theorem sameE_same {f e : EntX} {f' e' : EntryD} (hf : Ent0 f f') (he : Ent0 e e') : sameX f e = sameE f' e' := by
  unfold sameX sameE
  rw [eq3_place hf.val he.val, hf.name, he.name, hf.ver, he.ver]
theorem any_same {e : EntX} {e' : EntryD} (he : Ent0 e e') : ∀ {pre : List EntX} {pre' : List EntryD}, All2 Ent0 pre pre' → (pre.any fun f => sameX f e) = pre'.any fun f => sameE f e'
  | [], [], _ => rfl
  | f :: pre, f' :: pre', h => by
    rw [List.any_cons, List.any_cons, sameE_same h.1 he, any_same he h.2]
  | [], _ :: _, h => False.elim h
  | _ :: _, [], h => False.elim h
theorem again_same : ∀ {es : List EntX} {ds : List EntryD} {pre : List EntX} {pre' : List EntryD}, All2 Ent0 pre pre' → All2 Ent0 es ds → twGo pre es = againGo pre' ds
  | [], [], _, _, _, _ => rfl
  | e :: es, d :: ds, pre, pre', hp, h => by
    rw [twGo, againGo, any_same h.1 hp, h.1.twice.1, again_same (All2.app hp (x' := [e]) (y' := [d]) ⟨h.1, trivial⟩) h.2]
    rcases twiceN [] d.needs <;> simp
  | [], _ :: _, _, _, _, h => False.elim h
  | _ :: _, [], _, _, _, h => False.elim h
theorem twGo_false : ∀ {es pre : List EntX}, twGo pre es = false → (es.Pairwise fun f e => sameX f e = false) ∧ (∀ f ∈ pre, ∀ e ∈ es, sameX f e = false) ∧ ∀ e ∈ es, twiceX e.nd = false
  | [], _, _ => ⟨.nil, by simp, by simp⟩
  | e :: es, pre, h => by
    rw [twGo, Bool.or_eq_false_iff, Bool.or_eq_false_iff, List.any_eq_false] at h
    obtain ⟨h1, h2, h3⟩ := h
    obtain ⟨g1, g2, g3⟩ := twGo_false h3
    refine ⟨List.pairwise_cons.2 ⟨fun x hx => g2 e (by simp) x hx, g1⟩, fun f hf x hx => ?_, fun x hx => ?_⟩
    · rcases List.mem_cons.1 hx with rfl | hx
      · have := h2 f hf
        simpa using this
      · exact g2 f (List.mem_append_left _ hf) x hx
    · rcases List.mem_cons.1 hx with rfl | hx
      · exact h1
      · exact g3 x hx
theorem ent_all2 : ∀ {es : List EntX} {ds : List EntryD}, All2 Ent0 es ds → (∀ e ∈ es, twiceX e.nd = false) → All2 EntSame es ds
  | [], [], _, _ => trivial
  | e :: es, d :: ds, h, ht => ⟨h.1.twice.2.1 (ht e (by simp)), ent_all2 h.2 fun x hx => ht x (List.mem_cons_of_mem _ hx)⟩
  | [], _ :: _, h, _ => False.elim h
  | _ :: _, [], h, _ => False.elim h
theorem stock_same {es : List EntX} {ds : List EntryD} (h : All2 Ent0 es ds) (ht : twGo [] es = false) : StockSame es ds ∧ ∀ k, k < es.length → (needsOf ds k).length ≤ 6 := by
  obtain ⟨g1, _, g3⟩ := twGo_false ht
  refine ⟨⟨ent_all2 h g3, fun i j hi hj en ev => ?_⟩, fun k hk => ?_⟩
  · rw [List.getD_eq_getElem?_getD, List.getElem?_eq_getElem hi, List.getD_eq_getElem?_getD, List.getElem?_eq_getElem hj] at en ev
    have en : es[i].name = es[j].name := en
    have ev : es[i].ver = es[j].ver := ev
    rcases Nat.lt_trichotomy i j with hlt | e | hlt
    · have := List.pairwise_iff_getElem.1 g1 i j hi hj hlt
      unfold sameX at this
      rw [en, ev] at this
      simp at this
    · exact e
    · have := List.pairwise_iff_getElem.1 g1 j i hj hi hlt
      unfold sameX at this
      rw [en, ev] at this
      simp at this
  · have hk' : k < ds.length := by rw [← h.len]; exact hk
    have := (h.get k hk hk').twice.2.2
    unfold needsOf
    rw [List.getD_eq_getElem?_getD, List.getElem?_eq_getElem hk']
    exact this
theorem entsOf_all2 : ∀ {d : List Tx} {es : List EntX}, EntsOf d es → All2 Ent0 es (d.map fun t => (entryR t).1)
  | [], [], _ => trivial
  | [], _ :: _, h => by have := h.1; simp at this
  | _ :: _, [], h => by have := h.1; simp at this
  | t :: d, x :: xs, h => by
    refine ⟨entOf_same (h.2 (t, x) (by simp)), entsOf_all2 ⟨by have := h.1; simpa using this, fun p hp => h.2 p ?_⟩⟩
    rw [List.zip_cons_cons]
    exact List.mem_cons_of_mem _ hp
theorem stockGo_spec : ∀ (ts : List Tx) (acc : List EntryD), stockGo acc ts = if (ts.all fun t => (entryR t).2) = true then some (acc ++ ts.map fun t => (entryR t).1) else none
  | [], acc => by simp [stockGo]
  | t :: r, acc => by
    rw [stockGo]
    by_cases h : (entryR t).2 = true
    · rw [if_pos h, stockGo_spec r]
      simp [h]
    · rw [if_neg h]
      simp [h]
theorem stock_ok (s : Tx) : stockOkP s = (stockR s).isSome := by
  unfold stockOkP stockR
  by_cases h0 : s = []
  · rw [if_pos h0, if_pos h0]; rfl
  · rw [if_neg h0, if_neg h0, stockGo_spec]
    have e : (splitL 59 s).all entryOkP = (splitL 59 s).all fun t => (entryR t).2 := by
      congr 1
      funext t
      exact entry_ok t
    rw [e]
    rcases h : (splitL 59 s).all fun t => (entryR t).2 with _ | _
    · simp
    · simp only [if_true]
      by_cases hl : (splitL 59 s).length ≤ 40
      · simp [hl]
      · simp [hl]
theorem stock_is {s : Tx} (h : stockOkP s = true) {es : List EntX} (he : StockOf s es) : ∃ ds, stockR s = some ds ∧ All2 Ent0 es ds := by
  unfold stockOkP at h
  unfold stockR
  by_cases h0 : s = []
  · rw [if_pos h0, he.1 h0]
    exact ⟨[], rfl, trivial⟩
  · rw [if_neg h0] at h ⊢
    rw [Bool.and_eq_true] at h
    have e : (splitL 59 s).all entryOkP = (splitL 59 s).all fun t => (entryR t).2 := by
      congr 1
      funext t
      exact entry_ok t
    rw [e] at h
    rw [stockGo_spec, if_pos h.2]
    simp only [List.nil_append, List.length_map]
    rw [if_pos (of_decide_eq_true h.1)]
    exact ⟨_, rfl, entsOf_all2 (he.2 h0)⟩
theorem tail_six {s : Tx} (h : (tailR s).2 = true) : (tailR s).1.length ≤ 6 := by
  have h' := h
  rw [← list_ok] at h'
  obtain ⟨e, hl⟩ := tail_needs h'
  rw [e, (sortedR_perm _).length_eq, List.length_map]
  exact hl
theorem entry_six {t : Tx} (h : (entryR t).2 = true) : (entryR t).1.needs.length ≤ 6 := by
  unfold entryR at h ⊢
  by_cases hc : (cutR 58 t).2.2 = true
  · rw [if_pos hc] at h ⊢
    simp only [Bool.and_eq_true] at h
    exact tail_six h.2.2
  · rw [if_neg hc]
    simp
theorem stock_bounds {s : Tx} {l : List EntryD} (h : stockR s = some l) : l.length ≤ 40 ∧ ∀ e ∈ l, e.needs.length ≤ 6 := by
  unfold stockR at h
  by_cases h0 : s = []
  · rw [if_pos h0] at h
    have e := Option.some.inj h
    subst e
    simp
  · rw [if_neg h0, stockGo_spec] at h
    by_cases ha : ((splitL 59 s).all fun t => (entryR t).2) = true
    · rw [if_pos ha] at h
      simp only [List.nil_append] at h
      split at h
      · rename_i hl
        have e := Option.some.inj h
        subst e
        refine ⟨hl, fun e he => ?_⟩
        obtain ⟨t, ht, rfl⟩ := List.mem_map.1 he
        exact entry_six (List.all_eq_true.1 ha t ht)
      · exact absurd h (by simp)
    · rw [if_neg ha] at h
      exact absurd h (by simp)
/-- New: the same stock, or the same error. -/
theorem new_long {s : Tx} (h : 4000 < s.length) : newR s = (none, 4) := by unfold newR; rw [if_pos h]
theorem new_text {s : Tx} (h : s.length ≤ 4000) (h' : stockOkP s = false) : newR s = (none, 5) := by
  unfold newR
  rw [if_neg (by omega)]
  rw [stock_ok] at h'
  rcases e : stockR s with _ | ds
  · rfl
  · rw [e] at h'; exact absurd h' (by simp)
theorem new_stock {s : Tx} (h : s.length ≤ 4000) (h' : stockOkP s = true) {es : List EntX} (he : StockOf s es) : (twGo [] es = true → newR s = (none, 6)) ∧ (twGo [] es = false → ∃ ds, newR s = (some ds, 0) ∧ StockSame es ds ∧ ∀ k, k < es.length → (needsOf ds k).length ≤ 6) := by
  obtain ⟨ds, e, ha⟩ := stock_is h' he
  have e2 : twGo [] es = againR ds := again_same (pre := []) (pre' := []) trivial ha
  unfold newR
  rw [if_neg (by omega), e]
  simp only
  refine ⟨fun ht => ?_, fun ht => ⟨ds, ?_, stock_same ha ht⟩⟩
  · rw [if_pos (by rw [← e2]; exact ht)]
  · rw [if_neg (by rw [← e2, ht]; simp)]

end Hst
end Go.Proofs.YtecocheolbkneaaDoor
namespace Go.Proofs.YtecocheolbkneaaDoor
namespace Hst

/-! ### folders that are there -/
def Folded (l : List PackD) : Prop := ∀ p ∈ l, ∀ f ∈ foldersR p.path, f = [] ∨ ∃ b ∈ l, b.path = f
theorem used_in {st : List EntryD} {nd : List NeedD} {l : List PackD} {f : Tx} (h : Used st nd l f) : ∃ b ∈ l, b.path = f := by
  exact used_ind (M := fun p => ∃ b ∈ l, b.path = p) (fun x k _ _ e => ⟨_, (findR_some e).2.1, rfl⟩) (fun x k _ _ e _ => ⟨_, (findR_some e).2.1, rfl⟩) f h
theorem used_folders {stx : List EntX} {st : List EntryD} {ndx : List NeedX} {nd : List NeedD} {l : List PackD} {t : List PkX} (hs : StockSame stx st) (hn : SiteNeeds ndx nd) (ht : TreeSame stx l t) {path : Tx} (h : Used st nd l path) : ∀ f ∈ foldersR path, f = [] ∨ Used st nd l f := by
  refine used_ind (M := fun path => ∀ f ∈ foldersR path, f = [] ∨ Used st nd l f) ?_ ?_ path h
  · intro x k hx h0 e f hf
    have hi := who_name hs hn ht.of hx
    obtain ⟨_, _, g, hg, e2⟩ := findR_some e
    have e2' := e2
    rw [e2', folders_join (name_nosl hi) (name_ne hi)] at hf
    rcases List.mem_cons.1 hf with e1 | hf
    · rw [e1, ← e2]; exact .inr (.site x k hx h0 e)
    · rw [h0, foldersR_nil] at hg
      rw [List.mem_singleton.1 hg, foldersR_nil] at hf
      exact .inl (List.mem_singleton.1 hf)
  · intro x k hx h0 e ih f hf
    have hi := who_name hs hn ht.of hx
    obtain ⟨_, _, g, hg, e2⟩ := findR_some e
    have e2' := e2
    rw [e2', folders_join (name_nosl hi) (name_ne hi)] at hf
    rcases List.mem_cons.1 hf with e1 | hf
    · rw [e1, ← e2]; exact .inr (.pack x k hx h0 e)
    · exact ih f (folders_trans _ _ _ _ (Nat.le_refl _) hg hf)
theorem pruned_folded {stx : List EntX} {st : List EntryD} {ndx : List NeedX} {nd : List NeedD} {l : List PackD} {t : List PkX} (hs : StockSame stx st) (hn : SiteNeeds ndx nd) (ht : TreeSame stx l t) : Folded (prunedR st nd l) := by
  obtain ⟨_, hm⟩ := prunedR_mem (st := st) (nd := nd) ht.nd
  intro p hp f hf
  rcases used_folders hs hn ht ((hm p).1 hp).2 f hf with e | hu
  · exact .inl e
  · obtain ⟨b, hb, e⟩ := used_in hu
    exact .inr ⟨b, (hm b).2 ⟨hb, by rw [e]; exact hu⟩, e⟩
theorem folders_len : ∀ (n : Nat) (p : Tx), p.length ≤ n → ∀ f ∈ foldersR p, f.length ≤ p.length
  | n, p, hn, f, hf => by
    by_cases h : p = []
    · rw [h, foldersR_nil] at hf
      rw [List.mem_singleton.1 hf, h]
      exact Nat.le_refl _
    · have hl := folderP_lt h
      rw [foldersR_cons p h] at hf
      rcases List.mem_cons.1 hf with rfl | hf
      · exact Nat.le_refl _
      · match n with
        | 0 => omega
        | n + 1 =>
          have := folders_len n (folderP p) (by omega) f hf
          omega
theorem folders_nodup : ∀ (n : Nat) (p : Tx), p.length ≤ n → (foldersR p).Nodup
  | n, p, hn => by
    by_cases h : p = []
    · rw [h, foldersR_nil]; simp
    · have hl := folderP_lt h
      rw [foldersR_cons p h, List.nodup_cons]
      refine ⟨fun hm => ?_, ?_⟩
      · have := folders_len _ (folderP p) (Nat.le_refl _) p hm
        omega
      · match n with
        | 0 => omega
        | n + 1 => exact folders_nodup n (folderP p) (by omega)
theorem join_len (f n : Tx) : (joinR f n).length ≤ f.length + 1 + n.length := by
  unfold joinR
  split
  · omega
  · simp; omega
theorem name_len3 {n : Tx} (h : isNameR n = true) : n.length ≤ 3 := by
  unfold isNameR at h
  simp only [Bool.and_eq_true, decide_eq_true_eq] at h
  exact h.1.2
theorem path_folders {stx : List EntX} {l : List PackD} {t : List PkX} (ht : TreeSame stx l t) : ∀ (n : Nat) (p : Tx), p.length ≤ n → (∀ f ∈ foldersR p, f = [] ∨ ∃ b ∈ l, b.path = f) → p.length + 4 ≤ 4 * (foldersR p).length
  | n, p, hn, hf => by
    by_cases h : p = []
    · rw [h, foldersR_nil]; simp
    · have hl := folderP_lt h
      rcases hf p (folders_self p) with e | ⟨b, hb, e⟩
      · exact absurd e h
      · have h1 := join_len (folderP b.path) (stx.getD b.of zeroE).name
        rw [← ht.wf b hb, e] at h1
        have h2 := name_len3 (ht.nm b hb)
        have hfs := foldersR_cons p h
        match n with
        | 0 => omega
        | n + 1 =>
          have ih := path_folders ht n (folderP p) (by omega) fun f hf' => hf f (by rw [hfs]; exact List.mem_cons_of_mem _ hf')
          rw [hfs, List.length_cons]
          omega
/-- Paths are short. -/
theorem path_short {stx : List EntX} {l : List PackD} {t : List PkX} (ht : TreeSame stx l t) (hf : Folded l) : ∀ p ∈ l, p.path.length ≤ 4 * l.length := by
  intro p hp
  have h1 := path_folders ht _ p.path (Nat.le_refl _) (hf p hp)
  have h2 := nodup_len (foldersR p.path) ([] :: l.map fun q => q.path) (folders_nodup _ _ (Nat.le_refl _)) fun f hff => by
    rcases hf p hp f hff with e | ⟨b, hb, e⟩
    · rw [e]; simp
    · exact List.mem_cons_of_mem _ (List.mem_map.2 ⟨b, hb, e⟩)
  simp only [List.length_cons, List.length_map] at h2
  omega

/-! ### sites -/
structure SiteSame (sx : SiteX) (sd : SiteD) : Prop where
  st : StockSame sx.stock sd.stock
  h6 : ∀ k, k < sx.stock.length → (needsOf sd.stock k).length ≤ 6
  s40 : sx.stock.length ≤ 40
  nd : All2 NeedSame sx.needs sd.needs
  rs : Rises (fun n => n.name) sd.needs
  n6 : sd.needs.length ≤ 6
  tr : TreeSame sx.stock sd.packs sx.tree
  eq : sx.tree = sd.packs.map (toX sx.stock)
  l40 : sd.packs.length ≤ 40
  fold : Folded sd.packs
theorem siteNeeds_of {ndx : List NeedX} {nd : List NeedD} (h : All2 NeedSame ndx nd) (hr : Rises (fun n => n.name) nd) : SiteNeeds ndx nd := ⟨h, List.Pairwise.imp (fun h => less_ne h) hr⟩
theorem settle_same {sx : SiteX} {sd : SiteD} (h : SiteSame sx sd) {ndx : List NeedX} {nd : List NeedD} (hn : All2 NeedSame ndx nd) (hr : Rises (fun n => n.name) nd) (h6 : nd.length ≤ 6) {tree : List PackD} {fav : List PkX} (hf : TreeSame sx.stock tree fav) (v : Value) :
    (settleR sd nd tree).2 = (buildP sx.stock v ndx fav).2 ∧ SiteSame (settleX sx v ndx (buildP sx.stock v ndx fav).1) (settleR sd nd tree).1 := by
  have hsn := siteNeeds_of hn hr
  unfold settleR buildR buildP
  rcases buildP_same h.st hsn h6 hf h.h6 v with ⟨h1, h2⟩ | ⟨h1, l, done, h2, h3, h4⟩
  · rw [h2]
    generalize buildGoP sx.stock fav 60 0 ⟨[], [⟨[], v, ndx⟩], []⟩ = q at *
    obtain ⟨k, e⟩ := q
    simp only at h1 ⊢
    rw [if_neg h1]
    exact ⟨rfl, h⟩
  · rw [h2]
    generalize buildGoP sx.stock fav 60 0 ⟨[], [⟨[], v, ndx⟩], []⟩ = q at *
    obtain ⟨k, e⟩ := q
    simp only at h1 h4 ⊢
    rw [if_pos h1]
    obtain ⟨e1, e2⟩ := inUse_same h.st hsn h4.ts v
    have hlen : (prunedR sd.stock nd l).length ≤ 40 := by
      obtain ⟨hr2, hm⟩ := prunedR_mem (st := sd.stock) (nd := nd) h4.ts.nd
      have hnd : ((prunedR sd.stock nd l).map fun p => p.path).Nodup := by
        unfold List.Nodup
        rw [List.pairwise_map]
        exact List.Pairwise.imp (fun h => less_ne h) hr2
      have := nodup_len _ (l.map fun p => p.path) hnd fun x hx => by
        obtain ⟨p, hp, rfl⟩ := List.mem_map.1 hx
        exact List.mem_map.2 ⟨p, ((hm p).1 hp).1, rfl⟩
      simp only [List.length_map] at this
      omega
    exact ⟨rfl, ⟨h.st, h.h6, h.s40, hn, hr, h6, e2, e1, hlen, pruned_folded h.st hsn h4.ts⟩⟩
theorem new_site {es : List EntX} {ds : List EntryD} (h : StockSame es ds) (h6 : ∀ k, k < es.length → (needsOf ds k).length ≤ 6) (h40 : es.length ≤ 40) (v : Value) : SiteSame ⟨es, [], v, []⟩ ⟨ds, [], []⟩ :=
  ⟨h, h6, h40, trivial, Rises.nil _, by simp, TreeSame.nil _, rfl, by simp, by intro p hp; simp at hp⟩
theorem rest_same {ndx : List NeedX} {nd : List NeedD} (h : All2 NeedSame ndx nd) (name : Tx) : All2 NeedSame (withoutN ndx name) (restR nd name) := h.filter _ _ fun a b r => by rw [r.name]
theorem rest_rises {nd : List NeedD} (h : Rises (fun n => n.name) nd) (name : Tx) : Rises (fun n => n.name) (restR nd name) := List.Pairwise.filter _ h
theorem rest_le (nd : List NeedD) (name : Tx) : (restR nd name).length ≤ nd.length := List.length_filter_le _ _
theorem has_same {ndx : List NeedX} {nd : List NeedD} (h : All2 NeedSame ndx nd) (name : Tx) : hasN ndx name = false ↔ (restR nd name).length = nd.length := by
  unfold hasN restR
  rw [List.length_filter_eq_length_iff, List.any_eq_false]
  constructor
  · intro h1 b hb
    obtain ⟨a, ha, r⟩ := h.mem b hb
    have := h1 a ha
    rw [← r.name]
    simpa using this
  · intro h1 a ha
    obtain ⟨b, hb, r⟩ := h.meml a ha
    have := h1 b hb
    rw [r.name]
    simpa using this
theorem update_same {sx : SiteX} {sd : SiteD} (h : SiteSame sx sd) (v : Value) : (updateR sd).2 = (buildP sx.stock v sx.needs []).2 ∧ SiteSame (settleX sx v sx.needs (buildP sx.stock v sx.needs []).1) (updateR sd).1 :=
  settle_same h h.nd h.rs h.n6 (TreeSame.nil _) v
theorem drop_none {sx : SiteX} {sd : SiteD} (h : SiteSame sx sd) {name : Tx} (hh : hasN sx.needs name = false) : dropR sd name = (sd, 3) := by
  unfold dropR
  rw [if_pos ((has_same h.nd name).1 hh)]
theorem drop_same {sx : SiteX} {sd : SiteD} (h : SiteSame sx sd) {name : Tx} (hh : hasN sx.needs name = true) (v : Value) : (dropR sd name).2 = (buildP sx.stock v (withoutN sx.needs name) sx.tree).2 ∧ SiteSame (settleX sx v (withoutN sx.needs name) (buildP sx.stock v (withoutN sx.needs name) sx.tree).1) (dropR sd name).1 := by
  have e : dropR sd name = settleR sd (restR sd.needs name) sd.packs := by
    unfold dropR
    rw [if_neg fun hc => by rw [(has_same h.nd name).2 hc] at hh; exact absurd hh (by simp)]
  rw [e]
  have := rest_le sd.needs name
  have h6 := h.n6
  exact settle_same h (rest_same h.nd name) (rest_rises h.rs name) (by omega) h.tr v
theorem add_text {sd : SiteD} {l : Tx} (hh : needOkP l = false) : addR sd l = (sd, 5) := by
  unfold addR
  rw [needOk_same] at hh
  rw [if_pos hh]
theorem add_many {sx : SiteX} {sd : SiteD} (h : SiteSame sx sd) {l : Tx} {x : NeedX} (hx : NeedOf l x) (h6 : 6 ≤ (withoutN sx.needs x.name).length) : addR sd l = (sd, 7) := by
  have hs := needOf_same hx
  have h1 := hx.1
  rw [needOk_same] at h1
  unfold addR
  rw [if_neg (by rw [h1]; simp), if_pos]
  rw [hs.name, (rest_same h.nd _).len] at h6
  exact h6
theorem add_same {sx : SiteX} {sd : SiteD} (h : SiteSame sx sd) {l : Tx} {x : NeedX} (hx : NeedOf l x) (h6 : ¬ 6 ≤ (withoutN sx.needs x.name).length) (v : Value) : (addR sd l).2 = (buildP sx.stock v (withN (withoutN sx.needs x.name) x) sx.tree).2 ∧ SiteSame (settleX sx v (withN (withoutN sx.needs x.name) x) (buildP sx.stock v (withN (withoutN sx.needs x.name) x) sx.tree).1) (addR sd l).1 := by
  have hs := needOf_same hx
  have h1 := hx.1
  rw [needOk_same] at h1
  have h6' := h6
  rw [hs.name, (rest_same h.nd _).len] at h6'
  have e : addR sd l = settleR sd (sortedR (restR sd.needs (needR l).1.name ++ [(needR l).1])) sd.packs := by
    unfold addR
    rw [if_neg (by rw [h1]; simp), if_neg h6']
  have hne : ∀ y ∈ restR sd.needs (needR l).1.name, y.name ≠ (needR l).1.name := fun y hy => by
    have := (List.mem_filter.1 hy).2
    simpa using this
  obtain ⟨w1, w2⟩ := with_same (rest_same h.nd (needR l).1.name) (rest_rises h.rs _) hs hne
  rw [e, hs.name]
  refine settle_same h w1 w2 ?_ h.tr v
  rw [(sortedR_perm _).length_eq]
  simp
  omega
theorem add_rises {sd : SiteD} (hr : Rises (fun n => n.name) sd.needs) {l : Tx} : (restR sd.needs (needR l).1.name ++ [(needR l).1]).Pairwise fun a b => a.name ≠ b.name := by
  rw [List.pairwise_append]
  refine ⟨List.Pairwise.imp (fun h => less_ne h) (rest_rises hr _), by simp, fun a ha b hb => ?_⟩
  rw [List.mem_singleton.1 hb]
  have := (List.mem_filter.1 ha).2
  simpa using this

/-! ### texts -/
theorem needed_go {ndx : List NeedX} {nd : List NeedD} (h : All2 NeedSame ndx nd) (b : Bool) : joinGo [44] b (ndx.map fun n => n.text) = neededGo b nd := by
  induction ndx generalizing nd b with
  | nil => cases nd with
    | nil => rfl
    | cons _ _ => exact False.elim h
  | cons x xs ih => cases nd with
    | nil => exact False.elim h
    | cons d ds =>
      rw [List.map_cons, joinGo, neededGo, ih h.2, h.1.text]
      rcases b <;> simp
theorem needed_same {sx : SiteX} {sd : SiteD} (h : SiteSame sx sd) : needsT sx.needs = neededR sd := needed_go h.nd true

end Hst
end Go.Proofs.YtecocheolbkneaaDoor
