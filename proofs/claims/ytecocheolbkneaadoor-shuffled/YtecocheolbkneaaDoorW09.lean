/- Mnew, Msite, Mgood, Kpl -/
import Derived.Test.YtecocheolbkneaaDoorW08
import Derived.Test.YtecocheolbkneaaDoorW01
import Derived.Test.YtecocheolbkneaaDoorW02
namespace Go.Proofs.YtecocheolbkneaaDoor
namespace Hst

theorem rok_same (l : Tx) : rok (rangeP l) = isRangeR l := by
  rcases rangeP_law l with ⟨e1, e2⟩ | ⟨sp, e1, e2, _⟩
  · rw [e1, e2]; rfl
  · rw [e1, e2]; rfl
theorem needOk_same (l : Tx) : needOkP l = (needR l).2 := by
  unfold needOkP needR
  rw [rok_same]
theorem needOf_same {l : Tx} {x : NeedX} (h : NeedOf l x) : NeedSame x (needR l).1 := by
  obtain ⟨h1, h2, h3, h4⟩ := h
  unfold needOkP at h1
  rw [Bool.and_eq_true] at h1
  exact ⟨h2, h3, by rw [h4]; exact (List.take_append_drop _ _).symm, h1.1⟩
theorem needsOf_all2 : ∀ {d : List Tx} {xs : List NeedX}, NeedsOf d xs → All2 NeedSame xs (d.map fun t => (needR t).1)
  | [], [], _ => trivial
  | [], _ :: _, h => by have := h.1; simp at this
  | _ :: _, [], h => by have := h.1; simp at this
  | t :: d, x :: xs, h => by
    refine ⟨needOf_same (h.2 (t, x) (by simp)), needsOf_all2 ⟨by have := h.1; simpa using this, fun p hp => h.2 p ?_⟩⟩
    rw [List.zip_cons_cons]
    exact List.mem_cons_of_mem _ hp
theorem needsGo_spec : ∀ (ts : List Tx) (acc : List NeedD), needsGo acc ts = if (ts.all fun t => (needR t).2) = true then some (acc ++ ts.map fun t => (needR t).1) else none
  | [], acc => by simp [needsGo]
  | t :: r, acc => by
    rw [needsGo]
    by_cases h : (needR t).2 = true
    · rw [if_pos h, needsGo_spec r]
      simp [h]
    · rw [if_neg h]
      simp [h]
theorem list_ok (s : Tx) : listOkP s = (tailR s).2 := by
  unfold listOkP tailR needsR
  rw [needsGo_spec]
  have e : (splitL 44 s).all needOkP = (splitL 44 s).all fun t => (needR t).2 := by
    congr 1
    funext t
    exact needOk_same t
  rw [e]
  rcases h : (splitL 44 s).all fun t => (needR t).2 with _ | _
  · simp
  · simp
theorem tail_needs {s : Tx} (h : listOkP s = true) : (tailR s).1 = sortedR ((splitL 44 s).map fun t => (needR t).1) ∧ (splitL 44 s).length ≤ 6 := by
  unfold listOkP at h
  rw [Bool.and_eq_true] at h
  have e : (splitL 44 s).all needOkP = (splitL 44 s).all fun t => (needR t).2 := by
    congr 1
    funext t
    exact needOk_same t
  rw [e] at h
  unfold tailR needsR
  rw [needsGo_spec, if_pos h.2]
  exact ⟨by simp, of_decide_eq_true h.1⟩
theorem oks_ver (l : Tx) : oks (versionP l) = (versionR l).2 := by
  rw [versionP_eq]
  rcases h : (versionR l).2 with _ | _
  · rfl
  · rfl
theorem entry_ok (t : Tx) : entryOkP t = (entryR t).2 := by
  unfold entryOkP entryR eHas eAt eName eVer eTail eHead
  rw [oks_ver, list_ok]
  rcases h : (cutR 58 t).2.2 with _ | _
  · simp only [Bool.not_false, Bool.true_or, Bool.and_true]
    rw [if_neg (by simp)]
    simp only
    rcases (cutR 64 (cutR 58 t).1).2.2 <;> rcases isNameR (cutR 64 (cutR 58 t).1).1 <;> simp
  · simp only [Bool.not_true, Bool.false_or]
    rw [if_pos trivial]
    simp only
    rcases (cutR 64 (cutR 58 t).1).2.2 <;> rcases isNameR (cutR 64 (cutR 58 t).1).1 <;> rcases (versionR (cutR 64 (cutR 58 t).1).2.1).2 <;> simp
/-- An entry, whether or not a name stands twice in it. -/
structure Ent0 (e : EntX) (d : EntryD) : Prop where
  name : e.name = d.name
  ver : e.ver = place d.v
  val : Valid d.v
  isn : isNameR d.name = true
  nd : ∃ xs ds, All2 NeedSame xs ds ∧ e.nd = xs.foldl withN [] ∧ d.needs = sortedR ds ∧ ds.length ≤ 6
theorem entOf_same {t : Tx} {e : EntX} (h : EntOf t e) : Ent0 e (entryR t).1 := by
  obtain ⟨h1, h2, h3, h4, h5⟩ := h
  have h1' := h1
  unfold entryOkP at h1'
  simp only [Bool.and_eq_true] at h1'
  obtain ⟨hv1, hv2⟩ := versionP_some h3
  have hval := versionR_valid _ hv1
  unfold entryR
  rcases hh : eHas t with _ | _
  · have hh' : ¬ (cutR 58 t).2.2 = true := by unfold eHas at hh; rw [hh]; simp
    rw [if_neg hh']
    exact ⟨h2, hv2, hval, h1'.1.1.2, [], [], trivial, h4 hh, rfl, by simp⟩
  · have hh' : (cutR 58 t).2.2 = true := hh
    rw [if_pos hh']
    obtain ⟨xs, hx1, hx2⟩ := h5 hh
    have hl : listOkP (eTail t) = true := by
      have := h1'.2
      rw [hh] at this
      simpa using this
    obtain ⟨ht1, ht2⟩ := tail_needs hl
    exact ⟨h2, hv2, hval, h1'.1.1.2, xs, _, needsOf_all2 hx1, hx2, ht1, by simpa using ht2⟩
theorem Ent0.twice {e : EntX} {d : EntryD} (h : Ent0 e d) : twiceX e.nd = twiceN [] d.needs ∧ (twiceX e.nd = false → EntSame e d) ∧ d.needs.length ≤ 6 := by
  obtain ⟨xs, ds, h1, h2, h3, h4⟩ := h.nd
  obtain ⟨e1, e2⟩ := entry_needs h1
  rw [h2, h3]
  refine ⟨e1, fun hf => ?_, by rw [(sortedR_perm ds).length_eq]; exact h4⟩
  obtain ⟨g1, g2⟩ := e2 hf
  exact ⟨h.name, h.ver, h.val, h.isn, by rw [h2, h3]; exact g1, by rw [h3]; exact List.Pairwise.imp (fun h => less_ne h) g2⟩
theorem sameE_same {f e : EntX} {f' e' : EntryD} (hf : Ent0 f f') (he : Ent0 e e') : sameX f e = sameE f' e' := by
  unfold sameX sameE
  rw [eq3_place hf.val he.val, hf.name, he.name, hf.ver, he.ver]
theorem any_same {e : EntX} {e' : EntryD} (he : Ent0 e e') : ∀ {pre : List EntX} {pre' : List EntryD}, All2 Ent0 pre pre' → (pre.any fun f => sameX f e) = pre'.any fun f => sameE f e'
  | [], [], _ => rfl
  | f :: pre, f' :: pre', h => by
    rw [List.any_cons, List.any_cons, sameE_same h.1 he, any_same he h.2]
  | [], _ :: _, h => False.elim h
  | _ :: _, [], h => False.elim h
theorem again_same : ∀ {es : List EntX} {ds : List EntryD} {pre : List EntX} {pre' : List EntryD}, All2 Ent0 pre pre' → All2 Ent0 es ds → twGo pre es = againGo pre' ds
  | [], [], _, _, _, _ => rfl
  | e :: es, d :: ds, pre, pre', hp, h => by
    rw [twGo, againGo, any_same h.1 hp, h.1.twice.1, again_same (All2.app hp (x' := [e]) (y' := [d]) ⟨h.1, trivial⟩) h.2]
    rcases twiceN [] d.needs <;> simp
  | [], _ :: _, _, _, _, h => False.elim h
  | _ :: _, [], _, _, _, h => False.elim h
theorem twGo_false : ∀ {es pre : List EntX}, twGo pre es = false → (es.Pairwise fun f e => sameX f e = false) ∧ (∀ f ∈ pre, ∀ e ∈ es, sameX f e = false) ∧ ∀ e ∈ es, twiceX e.nd = false
  | [], _, _ => ⟨.nil, by simp, by simp⟩
  | e :: es, pre, h => by
    rw [twGo, Bool.or_eq_false_iff, Bool.or_eq_false_iff, List.any_eq_false] at h
    obtain ⟨h1, h2, h3⟩ := h
    obtain ⟨g1, g2, g3⟩ := twGo_false h3
    refine ⟨List.pairwise_cons.2 ⟨fun x hx => g2 e (by simp) x hx, g1⟩, fun f hf x hx => ?_, fun x hx => ?_⟩
    · rcases List.mem_cons.1 hx with rfl | hx
      · have := h2 f hf
        simpa using this
      · exact g2 f (List.mem_append_left _ hf) x hx
    · rcases List.mem_cons.1 hx with rfl | hx
      · exact h1
      · exact g3 x hx
theorem ent_all2 : ∀ {es : List EntX} {ds : List EntryD}, All2 Ent0 es ds → (∀ e ∈ es, twiceX e.nd = false) → All2 EntSame es ds
  | [], [], _, _ => trivial
  | e :: es, d :: ds, h, ht => ⟨h.1.twice.2.1 (ht e (by simp)), ent_all2 h.2 fun x hx => ht x (List.mem_cons_of_mem _ hx)⟩
  | [], _ :: _, h, _ => False.elim h
  | _ :: _, [], h, _ => False.elim h
theorem stock_same {es : List EntX} {ds : List EntryD} (h : All2 Ent0 es ds) (ht : twGo [] es = false) : StockSame es ds ∧ ∀ k, k < es.length → (needsOf ds k).length ≤ 6 := by
  obtain ⟨g1, _, g3⟩ := twGo_false ht
  refine ⟨⟨ent_all2 h g3, fun i j hi hj en ev => ?_⟩, fun k hk => ?_⟩
  · rw [List.getD_eq_getElem?_getD, List.getElem?_eq_getElem hi, List.getD_eq_getElem?_getD, List.getElem?_eq_getElem hj] at en ev
    have en : es[i].name = es[j].name := en
    have ev : es[i].ver = es[j].ver := ev
    rcases Nat.lt_trichotomy i j with hlt | e | hlt
    · have := List.pairwise_iff_getElem.1 g1 i j hi hj hlt
      unfold sameX at this
      rw [en, ev] at this
      simp at this
    · exact e
    · have := List.pairwise_iff_getElem.1 g1 j i hj hi hlt
      unfold sameX at this
      rw [en, ev] at this
      simp at this
  · have hk' : k < ds.length := by rw [← h.len]; exact hk
    have := (h.get k hk hk').twice.2.2
    unfold needsOf
    rw [List.getD_eq_getElem?_getD, List.getElem?_eq_getElem hk']
    exact this
theorem entsOf_all2 : ∀ {d : List Tx} {es : List EntX}, EntsOf d es → All2 Ent0 es (d.map fun t => (entryR t).1)
  | [], [], _ => trivial
  | [], _ :: _, h => by have := h.1; simp at this
  | _ :: _, [], h => by have := h.1; simp at this
  | t :: d, x :: xs, h => by
    refine ⟨entOf_same (h.2 (t, x) (by simp)), entsOf_all2 ⟨by have := h.1; simpa using this, fun p hp => h.2 p ?_⟩⟩
    rw [List.zip_cons_cons]
    exact List.mem_cons_of_mem _ hp
theorem stockGo_spec : ∀ (ts : List Tx) (acc : List EntryD), stockGo acc ts = if (ts.all fun t => (entryR t).2) = true then some (acc ++ ts.map fun t => (entryR t).1) else none
  | [], acc => by simp [stockGo]
  | t :: r, acc => by
    rw [stockGo]
    by_cases h : (entryR t).2 = true
    · rw [if_pos h, stockGo_spec r]
      simp [h]
    · rw [if_neg h]
      simp [h]
theorem stock_ok (s : Tx) : stockOkP s = (stockR s).isSome := by
  unfold stockOkP stockR
  by_cases h0 : s = []
  · rw [if_pos h0, if_pos h0]; rfl
  · rw [if_neg h0, if_neg h0, stockGo_spec]
    have e : (splitL 59 s).all entryOkP = (splitL 59 s).all fun t => (entryR t).2 := by
      congr 1
      funext t
      exact entry_ok t
    rw [e]
    rcases h : (splitL 59 s).all fun t => (entryR t).2 with _ | _
    · simp
    · simp only [if_true]
      by_cases hl : (splitL 59 s).length ≤ 40
      · simp [hl]
      · simp [hl]
theorem stock_is {s : Tx} (h : stockOkP s = true) {es : List EntX} (he : StockOf s es) : ∃ ds, stockR s = some ds ∧ All2 Ent0 es ds := by
  unfold stockOkP at h
  unfold stockR
  by_cases h0 : s = []
  · rw [if_pos h0, he.1 h0]
    exact ⟨[], rfl, trivial⟩
  · rw [if_neg h0] at h ⊢
    rw [Bool.and_eq_true] at h
    have e : (splitL 59 s).all entryOkP = (splitL 59 s).all fun t => (entryR t).2 := by
      congr 1
      funext t
      exact entry_ok t
    rw [e] at h
    rw [stockGo_spec, if_pos h.2]
    simp only [List.nil_append, List.length_map]
    rw [if_pos (of_decide_eq_true h.1)]
    exact ⟨_, rfl, entsOf_all2 (he.2 h0)⟩
theorem tail_six {s : Tx} (h : (tailR s).2 = true) : (tailR s).1.length ≤ 6 := by
  have h' := h
  rw [← list_ok] at h'
  obtain ⟨e, hl⟩ := tail_needs h'
  rw [e, (sortedR_perm _).length_eq, List.length_map]
  exact hl
theorem entry_six {t : Tx} (h : (entryR t).2 = true) : (entryR t).1.needs.length ≤ 6 := by
  unfold entryR at h ⊢
  by_cases hc : (cutR 58 t).2.2 = true
  · rw [if_pos hc] at h ⊢
    simp only [Bool.and_eq_true] at h
    exact tail_six h.2.2
  · rw [if_neg hc]
    simp
theorem stock_bounds {s : Tx} {l : List EntryD} (h : stockR s = some l) : l.length ≤ 40 ∧ ∀ e ∈ l, e.needs.length ≤ 6 := by
  unfold stockR at h
  by_cases h0 : s = []
  · rw [if_pos h0] at h
    have e := Option.some.inj h
    subst e
    simp
  · rw [if_neg h0, stockGo_spec] at h
    by_cases ha : ((splitL 59 s).all fun t => (entryR t).2) = true
    · rw [if_pos ha] at h
      simp only [List.nil_append] at h
      split at h
      · rename_i hl
        have e := Option.some.inj h
        subst e
        refine ⟨hl, fun e he => ?_⟩
        obtain ⟨t, ht, rfl⟩ := List.mem_map.1 he
        exact entry_six (List.all_eq_true.1 ha t ht)
      · exact absurd h (by simp)
    · rw [if_neg ha] at h
      exact absurd h (by simp)
/-- New: the same stock, or the same error. -/
theorem new_long {s : Tx} (h : 4000 < s.length) : newR s = (none, 4) := by unfold newR; rw [if_pos h]
theorem new_text {s : Tx} (h : s.length ≤ 4000) (h' : stockOkP s = false) : newR s = (none, 5) := by
  unfold newR
  rw [if_neg (by omega)]
  rw [stock_ok] at h'
  rcases e : stockR s with _ | ds
  · rfl
  · rw [e] at h'; exact absurd h' (by simp)
theorem new_stock {s : Tx} (h : s.length ≤ 4000) (h' : stockOkP s = true) {es : List EntX} (he : StockOf s es) : (twGo [] es = true → newR s = (none, 6)) ∧ (twGo [] es = false → ∃ ds, newR s = (some ds, 0) ∧ StockSame es ds ∧ ∀ k, k < es.length → (needsOf ds k).length ≤ 6) := by
  obtain ⟨ds, e, ha⟩ := stock_is h' he
  have e2 : twGo [] es = againR ds := again_same (pre := []) (pre' := []) trivial ha
  unfold newR
  rw [if_neg (by omega), e]
  simp only
  refine ⟨fun ht => ?_, fun ht => ⟨ds, ?_, stock_same ha ht⟩⟩
  · rw [if_pos (by rw [← e2]; exact ht)]
  · rw [if_neg (by rw [← e2, ht]; simp)]

end Hst
end Go.Proofs.YtecocheolbkneaaDoor
namespace Go.Proofs.YtecocheolbkneaaDoor
namespace Hst

/-! ### folders that are there -/
def Folded (l : List PackD) : Prop := ∀ p ∈ l, ∀ f ∈ foldersR p.path, f = [] ∨ ∃ b ∈ l, b.path = f
theorem used_in {st : List EntryD} {nd : List NeedD} {l : List PackD} {f : Tx} (h : Used st nd l f) : ∃ b ∈ l, b.path = f := by
  exact used_ind (M := fun p => ∃ b ∈ l, b.path = p) (fun x k _ _ e => ⟨_, (findR_some e).2.1, rfl⟩) (fun x k _ _ e _ => ⟨_, (findR_some e).2.1, rfl⟩) f h
theorem used_folders {stx : List EntX} {st : List EntryD} {ndx : List NeedX} {nd : List NeedD} {l : List PackD} {t : List PkX} (hs : StockSame stx st) (hn : SiteNeeds ndx nd) (ht : TreeSame stx l t) {path : Tx} (h : Used st nd l path) : ∀ f ∈ foldersR path, f = [] ∨ Used st nd l f := by
  refine used_ind (M := fun path => ∀ f ∈ foldersR path, f = [] ∨ Used st nd l f) ?_ ?_ path h
  · intro x k hx h0 e f hf
    have hi := who_name hs hn ht.of hx
    obtain ⟨_, _, g, hg, e2⟩ := findR_some e
    have e2' := e2
    rw [e2', folders_join (name_nosl hi) (name_ne hi)] at hf
    rcases List.mem_cons.1 hf with e1 | hf
    · rw [e1, ← e2]; exact .inr (.site x k hx h0 e)
    · rw [h0, foldersR_nil] at hg
      rw [List.mem_singleton.1 hg, foldersR_nil] at hf
      exact .inl (List.mem_singleton.1 hf)
  · intro x k hx h0 e ih f hf
    have hi := who_name hs hn ht.of hx
    obtain ⟨_, _, g, hg, e2⟩ := findR_some e
    have e2' := e2
    rw [e2', folders_join (name_nosl hi) (name_ne hi)] at hf
    rcases List.mem_cons.1 hf with e1 | hf
    · rw [e1, ← e2]; exact .inr (.pack x k hx h0 e)
    · exact ih f (folders_trans _ _ _ _ (Nat.le_refl _) hg hf)
theorem pruned_folded {stx : List EntX} {st : List EntryD} {ndx : List NeedX} {nd : List NeedD} {l : List PackD} {t : List PkX} (hs : StockSame stx st) (hn : SiteNeeds ndx nd) (ht : TreeSame stx l t) : Folded (prunedR st nd l) := by
  obtain ⟨_, hm⟩ := prunedR_mem (st := st) (nd := nd) ht.nd
  intro p hp f hf
  rcases used_folders hs hn ht ((hm p).1 hp).2 f hf with e | hu
  · exact .inl e
  · obtain ⟨b, hb, e⟩ := used_in hu
    exact .inr ⟨b, (hm b).2 ⟨hb, by rw [e]; exact hu⟩, e⟩
theorem folders_len : ∀ (n : Nat) (p : Tx), p.length ≤ n → ∀ f ∈ foldersR p, f.length ≤ p.length
  | n, p, hn, f, hf => by
    by_cases h : p = []
    · rw [h, foldersR_nil] at hf
      rw [List.mem_singleton.1 hf, h]
      exact Nat.le_refl _
    · have hl := folderP_lt h
      rw [foldersR_cons p h] at hf
      rcases List.mem_cons.1 hf with rfl | hf
      · exact Nat.le_refl _
      · match n with
        | 0 => omega
        | n + 1 =>
          have := folders_len n (folderP p) (by omega) f hf
          omega
theorem folders_nodup : ∀ (n : Nat) (p : Tx), p.length ≤ n → (foldersR p).Nodup
  | n, p, hn => by
    by_cases h : p = []
    · rw [h, foldersR_nil]; simp
    · have hl := folderP_lt h
      rw [foldersR_cons p h, List.nodup_cons]
      refine ⟨fun hm => ?_, ?_⟩
      · have := folders_len _ (folderP p) (Nat.le_refl _) p hm
        omega
      · match n with
        | 0 => omega
        | n + 1 => exact folders_nodup n (folderP p) (by omega)
theorem join_len (f n : Tx) : (joinR f n).length ≤ f.length + 1 + n.length := by
  unfold joinR
  split
  · omega
  · simp; omega
theorem name_len3 {n : Tx} (h : isNameR n = true) : n.length ≤ 3 := by
  unfold isNameR at h
  simp only [Bool.and_eq_true, decide_eq_true_eq] at h
  exact h.1.2
theorem path_folders {stx : List EntX} {l : List PackD} {t : List PkX} (ht : TreeSame stx l t) : ∀ (n : Nat) (p : Tx), p.length ≤ n → (∀ f ∈ foldersR p, f = [] ∨ ∃ b ∈ l, b.path = f) → p.length + 4 ≤ 4 * (foldersR p).length
  | n, p, hn, hf => by
    by_cases h : p = []
    · rw [h, foldersR_nil]; simp
    · have hl := folderP_lt h
      rcases hf p (folders_self p) with e | ⟨b, hb, e⟩
      · exact absurd e h
      · have h1 := join_len (folderP b.path) (stx.getD b.of zeroE).name
        rw [← ht.wf b hb, e] at h1
        have h2 := name_len3 (ht.nm b hb)
        have hfs := foldersR_cons p h
        match n with
        | 0 => omega
        | n + 1 =>
          have ih := path_folders ht n (folderP p) (by omega) fun f hf' => hf f (by rw [hfs]; exact List.mem_cons_of_mem _ hf')
          rw [hfs, List.length_cons]
          omega
/-- Paths are short. -/
theorem path_short {stx : List EntX} {l : List PackD} {t : List PkX} (ht : TreeSame stx l t) (hf : Folded l) : ∀ p ∈ l, p.path.length ≤ 4 * l.length := by
  intro p hp
  have h1 := path_folders ht _ p.path (Nat.le_refl _) (hf p hp)
  have h2 := nodup_len (foldersR p.path) ([] :: l.map fun q => q.path) (folders_nodup _ _ (Nat.le_refl _)) fun f hff => by
    rcases hf p hp f hff with e | ⟨b, hb, e⟩
    · rw [e]; simp
    · exact List.mem_cons_of_mem _ (List.mem_map.2 ⟨b, hb, e⟩)
  simp only [List.length_cons, List.length_map] at h2
  omega

/-! ### sites -/
structure SiteSame (sx : SiteX) (sd : SiteD) : Prop where
  st : StockSame sx.stock sd.stock
  h6 : ∀ k, k < sx.stock.length → (needsOf sd.stock k).length ≤ 6
  s40 : sx.stock.length ≤ 40
  nd : All2 NeedSame sx.needs sd.needs
  rs : Rises (fun n => n.name) sd.needs
  n6 : sd.needs.length ≤ 6
  tr : TreeSame sx.stock sd.packs sx.tree
  eq : sx.tree = sd.packs.map (toX sx.stock)
  l40 : sd.packs.length ≤ 40
  fold : Folded sd.packs
theorem siteNeeds_of {ndx : List NeedX} {nd : List NeedD} (h : All2 NeedSame ndx nd) (hr : Rises (fun n => n.name) nd) : SiteNeeds ndx nd := ⟨h, List.Pairwise.imp (fun h => less_ne h) hr⟩
theorem settle_same {sx : SiteX} {sd : SiteD} (h : SiteSame sx sd) {ndx : List NeedX} {nd : List NeedD} (hn : All2 NeedSame ndx nd) (hr : Rises (fun n => n.name) nd) (h6 : nd.length ≤ 6) {tree : List PackD} {fav : List PkX} (hf : TreeSame sx.stock tree fav) (v : Value) :
    (settleR sd nd tree).2 = (buildP sx.stock v ndx fav).2 ∧ SiteSame (settleX sx v ndx (buildP sx.stock v ndx fav).1) (settleR sd nd tree).1 := by
  have hsn := siteNeeds_of hn hr
  unfold settleR buildR buildP
  rcases buildP_same h.st hsn h6 hf h.h6 v with ⟨h1, h2⟩ | ⟨h1, l, done, h2, h3, h4⟩
  · rw [h2]
    generalize buildGoP sx.stock fav 60 0 ⟨[], [⟨[], v, ndx⟩], []⟩ = q at *
    obtain ⟨k, e⟩ := q
    simp only at h1 ⊢
    rw [if_neg h1]
    exact ⟨rfl, h⟩
  · rw [h2]
    generalize buildGoP sx.stock fav 60 0 ⟨[], [⟨[], v, ndx⟩], []⟩ = q at *
    obtain ⟨k, e⟩ := q
    simp only at h1 h4 ⊢
    rw [if_pos h1]
    obtain ⟨e1, e2⟩ := inUse_same h.st hsn h4.ts v
    have hlen : (prunedR sd.stock nd l).length ≤ 40 := by
      obtain ⟨hr2, hm⟩ := prunedR_mem (st := sd.stock) (nd := nd) h4.ts.nd
      have hnd : ((prunedR sd.stock nd l).map fun p => p.path).Nodup := by
        unfold List.Nodup
        rw [List.pairwise_map]
        exact List.Pairwise.imp (fun h => less_ne h) hr2
      have := nodup_len _ (l.map fun p => p.path) hnd fun x hx => by
        obtain ⟨p, hp, rfl⟩ := List.mem_map.1 hx
        exact List.mem_map.2 ⟨p, ((hm p).1 hp).1, rfl⟩
      simp only [List.length_map] at this
      omega
    exact ⟨rfl, ⟨h.st, h.h6, h.s40, hn, hr, h6, e2, e1, hlen, pruned_folded h.st hsn h4.ts⟩⟩
theorem new_site {es : List EntX} {ds : List EntryD} (h : StockSame es ds) (h6 : ∀ k, k < es.length → (needsOf ds k).length ≤ 6) (h40 : es.length ≤ 40) (v : Value) : SiteSame ⟨es, [], v, []⟩ ⟨ds, [], []⟩ :=
  ⟨h, h6, h40, trivial, Rises.nil _, by simp, TreeSame.nil _, rfl, by simp, by intro p hp; simp at hp⟩
theorem rest_same {ndx : List NeedX} {nd : List NeedD} (h : All2 NeedSame ndx nd) (name : Tx) : All2 NeedSame (withoutN ndx name) (restR nd name) := h.filter _ _ fun a b r => by rw [r.name]
theorem rest_rises {nd : List NeedD} (h : Rises (fun n => n.name) nd) (name : Tx) : Rises (fun n => n.name) (restR nd name) := List.Pairwise.filter _ h
theorem rest_le (nd : List NeedD) (name : Tx) : (restR nd name).length ≤ nd.length := List.length_filter_le _ _
theorem has_same {ndx : List NeedX} {nd : List NeedD} (h : All2 NeedSame ndx nd) (name : Tx) : hasN ndx name = false ↔ (restR nd name).length = nd.length := by
  unfold hasN restR
  rw [List.length_filter_eq_length_iff, List.any_eq_false]
  constructor
  · intro h1 b hb
    obtain ⟨a, ha, r⟩ := h.mem b hb
    have := h1 a ha
    rw [← r.name]
    simpa using this
  · intro h1 a ha
    obtain ⟨b, hb, r⟩ := h.meml a ha
    have := h1 b hb
    rw [r.name]
    simpa using this
theorem update_same {sx : SiteX} {sd : SiteD} (h : SiteSame sx sd) (v : Value) : (updateR sd).2 = (buildP sx.stock v sx.needs []).2 ∧ SiteSame (settleX sx v sx.needs (buildP sx.stock v sx.needs []).1) (updateR sd).1 :=
  settle_same h h.nd h.rs h.n6 (TreeSame.nil _) v
theorem drop_none {sx : SiteX} {sd : SiteD} (h : SiteSame sx sd) {name : Tx} (hh : hasN sx.needs name = false) : dropR sd name = (sd, 3) := by
  unfold dropR
  rw [if_pos ((has_same h.nd name).1 hh)]
theorem drop_same {sx : SiteX} {sd : SiteD} (h : SiteSame sx sd) {name : Tx} (hh : hasN sx.needs name = true) (v : Value) : (dropR sd name).2 = (buildP sx.stock v (withoutN sx.needs name) sx.tree).2 ∧ SiteSame (settleX sx v (withoutN sx.needs name) (buildP sx.stock v (withoutN sx.needs name) sx.tree).1) (dropR sd name).1 := by
  have e : dropR sd name = settleR sd (restR sd.needs name) sd.packs := by
    unfold dropR
    rw [if_neg fun hc => by rw [(has_same h.nd name).2 hc] at hh; exact absurd hh (by simp)]
  rw [e]
  have := rest_le sd.needs name
  have h6 := h.n6
  exact settle_same h (rest_same h.nd name) (rest_rises h.rs name) (by omega) h.tr v
theorem add_text {sd : SiteD} {l : Tx} (hh : needOkP l = false) : addR sd l = (sd, 5) := by
  unfold addR
  rw [needOk_same] at hh
  rw [if_pos hh]
theorem add_many {sx : SiteX} {sd : SiteD} (h : SiteSame sx sd) {l : Tx} {x : NeedX} (hx : NeedOf l x) (h6 : 6 ≤ (withoutN sx.needs x.name).length) : addR sd l = (sd, 7) := by
  have hs := needOf_same hx
  have h1 := hx.1
  rw [needOk_same] at h1
  unfold addR
  rw [if_neg (by rw [h1]; simp), if_pos]
  rw [hs.name, (rest_same h.nd _).len] at h6
  exact h6
theorem add_same {sx : SiteX} {sd : SiteD} (h : SiteSame sx sd) {l : Tx} {x : NeedX} (hx : NeedOf l x) (h6 : ¬ 6 ≤ (withoutN sx.needs x.name).length) (v : Value) : (addR sd l).2 = (buildP sx.stock v (withN (withoutN sx.needs x.name) x) sx.tree).2 ∧ SiteSame (settleX sx v (withN (withoutN sx.needs x.name) x) (buildP sx.stock v (withN (withoutN sx.needs x.name) x) sx.tree).1) (addR sd l).1 := by
  have hs := needOf_same hx
  have h1 := hx.1
  rw [needOk_same] at h1
  have h6' := h6
  rw [hs.name, (rest_same h.nd _).len] at h6'
  have e : addR sd l = settleR sd (sortedR (restR sd.needs (needR l).1.name ++ [(needR l).1])) sd.packs := by
    unfold addR
    rw [if_neg (by rw [h1]; simp), if_neg h6']
  have hne : ∀ y ∈ restR sd.needs (needR l).1.name, y.name ≠ (needR l).1.name := fun y hy => by
    have := (List.mem_filter.1 hy).2
    simpa using this
  obtain ⟨w1, w2⟩ := with_same (rest_same h.nd (needR l).1.name) (rest_rises h.rs _) hs hne
  rw [e, hs.name]
  refine settle_same h w1 w2 ?_ h.tr v
  rw [(sortedR_perm _).length_eq]
  simp
  omega
theorem add_rises {sd : SiteD} (hr : Rises (fun n => n.name) sd.needs) {l : Tx} : (restR sd.needs (needR l).1.name ++ [(needR l).1]).Pairwise fun a b => a.name ≠ b.name := by
  rw [List.pairwise_append]
  refine ⟨List.Pairwise.imp (fun h => less_ne h) (rest_rises hr _), by simp, fun a ha b hb => ?_⟩
  rw [List.mem_singleton.1 hb]
  have := (List.mem_filter.1 ha).2
  simpa using this

/-! ### texts -/
theorem needed_go {ndx : List NeedX} {nd : List NeedD} (h : All2 NeedSame ndx nd) (b : Bool) : joinGo [44] b (ndx.map fun n => n.text) = neededGo b nd := by
  induction ndx generalizing nd b with
  | nil => cases nd with
    | nil => rfl
    | cons _ _ => exact False.elim h
  | cons x xs ih => cases nd with
    | nil => exact False.elim h
    | cons d ds =>
      rw [List.map_cons, joinGo, neededGo, ih h.2, h.1.text]
      rcases b <;> simp
theorem needed_same {sx : SiteX} {sd : SiteD} (h : SiteSame sx sd) : needsT sx.needs = neededR sd := needed_go h.nd true

end Hst
end Go.Proofs.YtecocheolbkneaaDoor
namespace Go.Proofs.YtecocheolbkneaaDoor
namespace Hst

/-- Everything is met, everything is in use. -/
structure Good (st : List EntryD) (nd : List NeedD) (l : List PackD) : Prop where
  met : ∀ x ∈ allR st nd l, metR st l x = true
  used : ∀ p ∈ l, Used st nd l p.path
theorem Good.nil {st : List EntryD} : Good st [] [] := ⟨by simp [allR], by simp⟩
theorem findGo_sub {l m : List PackD} {name : Tx} (hsub : ∀ p ∈ m, p ∈ l) (hl : l.Pairwise fun p q => p.path ≠ q.path) : ∀ (fs : List Tx) {k : Nat}, findGo l name fs = some k → packAt l k ∈ m → ∃ k', findGo m name fs = some k' ∧ packAt m k' = packAt l k
  | [], k, h, _ => by simp [findGo] at h
  | f :: r, k, h, hm => by
    rw [findGo] at h
    rw [findGo]
    rcases e : atR l (joinR f name) with _ | j
    · rw [e] at h
      have e2 : atR m (joinR f name) = none := atR_none.2 fun p hp => atR_none.1 e p (hsub p hp)
      rw [e2]
      exact findGo_sub hsub hl r h hm
    · rw [e] at h
      have e' : j = k := by simpa using h
      subst e'
      obtain ⟨h1, h2, h3⟩ := atR_some e
      rcases e2 : atR m (joinR f name) with _ | j'
      · exact absurd h3 (atR_none.1 e2 _ hm)
      · obtain ⟨g1, g2, g3⟩ := atR_some e2
        exact ⟨j', rfl, path_inj hl _ (hsub _ g2) _ h2 (by rw [g3, h3])⟩
theorem findR_sub {l m : List PackD} {path name : Tx} (hsub : ∀ p ∈ m, p ∈ l) (hl : l.Pairwise fun p q => p.path ≠ q.path) {k : Nat} (h : findR l path name = some k) (hm : packAt l k ∈ m) : ∃ k', findR m path name = some k' ∧ packAt m k' = packAt l k := findGo_sub hsub hl _ h hm
theorem allR_sub {st : List EntryD} {nd : List NeedD} {l m : List PackD} (hsub : ∀ p ∈ m, p ∈ l) {x : WhoD} (h : x ∈ allR st nd m) : x ∈ allR st nd l := by
  obtain ⟨xp, xn⟩ := x
  rcases allR_mem h with ⟨h1, h2⟩ | ⟨p, hp, h1, h2⟩
  · simp only at h1 h2
    subst h1
    exact allR_of_site h2
  · simp only at h1 h2
    subst h1
    exact allR_of_pack (hsub p hp) h2
theorem metR_some {st : List EntryD} {l : List PackD} {x : WhoD} (h : metR st l x = true) : ∃ k, findR l x.path x.n.name = some k ∧ fitR x.n.rng (verOf st (packAt l k).of) = true := by
  unfold metR at h
  rcases e : findR l x.path x.n.name with _ | k
  · rw [e] at h; simp at h
  · rw [e] at h; exact ⟨k, rfl, h⟩
/-- What is not in use can be taken away. -/
theorem pruned_good {st : List EntryD} {nd : List NeedD} {l : List PackD} (hl : l.Pairwise fun p q => p.path ≠ q.path) (hne : ∀ p ∈ l, p.path ≠ []) (h : ∀ x ∈ allR st nd l, metR st l x = true) : Good st nd (prunedR st nd l) := by
  obtain ⟨hr, hm⟩ := prunedR_mem (st := st) (nd := nd) hl
  have hsub : ∀ p ∈ prunedR st nd l, p ∈ l := fun p hp => ((hm p).1 hp).1
  have hin : ∀ x ∈ allR st nd (prunedR st nd l), ∀ k, findR l x.path x.n.name = some k → packAt l k ∈ prunedR st nd l := fun x hx k hk => by
    refine (hm _).2 ⟨(findR_some hk).2.1, Used.step x k (allR_sub hsub hx) ?_ hk⟩
    rcases allR_mem hx with ⟨h1, _⟩ | ⟨p, hp, h1, _⟩
    · exact .inl h1
    · right; rw [h1]; exact ((hm p).1 hp).2
  refine ⟨fun x hx => ?_, fun p hp => ?_⟩
  · obtain ⟨k, hk, hf⟩ := metR_some (h x (allR_sub hsub hx))
    obtain ⟨k', e1, e2⟩ := findR_sub hsub hl hk (hin x hx k hk)
    unfold metR
    rw [e1]
    simp only
    rw [e2]; exact hf
  · have main : ∀ path, Used st nd l path → Used st nd (prunedR st nd l) path := by
      refine used_ind ?_ ?_
      · intro x k hx h0 hk
        have hx' : x ∈ allR st nd (prunedR st nd l) := by
          obtain ⟨xp, xn⟩ := x
          rcases allR_mem hx with ⟨h1, h2⟩ | ⟨q, hq, h1, h2⟩
          · simp only at h1 h2; subst h1; exact allR_of_site h2
          · simp only at h1 h2
            subst h1
            exact absurd h0 (hne q hq)
        obtain ⟨k', e1, e2⟩ := findR_sub hsub hl hk (hin x hx' k hk)
        rw [← e2]
        exact Used.site x k' hx' h0 e1
      · intro x k hx hu hk ih
        have hx' : x ∈ allR st nd (prunedR st nd l) := by
          obtain ⟨xp, xn⟩ := x
          rcases allR_mem hx with ⟨h1, h2⟩ | ⟨q, hq, h1, h2⟩
          · simp only at h1 h2; subst h1; exact allR_of_site h2
          · simp only at h1 h2
            subst h1
            exact allR_of_pack ((hm q).2 ⟨hq, hu⟩) h2
        obtain ⟨k', e1, e2⟩ := findR_sub hsub hl hk (hin x hx' k hk)
        rw [← e2]
        exact Used.pack x k' hx' ih e1
    exact main p.path ((hm p).1 hp).2

theorem tree_ne' {stx : List EntX} {l : List PackD} {t : List PkX} (ht : TreeSame stx l t) {p : PackD} (hp : p ∈ l) : p.path ≠ [] := by
  rw [ht.wf p hp]
  exact join_ne (name_ne (ht.nm p hp))
/-- Building: an error is one of two; else all is met and in use. -/
theorem build_good {stx : List EntX} {st : List EntryD} {ndx : List NeedX} {nd : List NeedD} {tree : List PackD} {fav : List PkX} (hs : StockSame stx st) (hn : SiteNeeds ndx nd) (hn6 : nd.length ≤ 6) (hf : TreeSame stx tree fav) (h6 : ∀ k, k < stx.length → (needsOf st k).length ≤ 6) :
    (∃ e, buildR st nd tree = (none, e) ∧ (e = 8 ∨ e = 9)) ∨ ∃ l, buildR st nd tree = (some l, 0) ∧ Good st nd l ∧ l.length ≤ 40 := by
  have h89 : ∀ (f : Nat) (l : List PackD) (done rem : List WhoD) (e : Int), buildGo st tree f l done rem = (none, e) → e = 8 ∨ e = 9 := by
    intro f
    induction f with
    | zero => intro l done rem e h; rw [buildGo] at h; simp at h; exact .inr h.symm
    | succ f ih =>
      intro l done rem e h
      cases rem with
      | nil => rw [buildGo] at h; simp at h
      | cons x r =>
        rw [buildGo] at h
        split at h
        · exact ih _ _ _ _ h
        · split at h
          · simp at h; exact .inl h.symm
          · split at h
            · simp at h; exact .inr h.symm
            · exact ih _ _ _ _ h
  unfold buildR
  rcases buildP_same hs hn hn6 hf h6 (.bool true) with ⟨_, e⟩ | ⟨_, l', done', e, hl, hr⟩
  · left
    rw [e]
    exact ⟨_, rfl, h89 _ _ _ _ _ e⟩
  · right
    rw [e]
    have hall := hr.all
    rw [List.append_nil] at hall
    refine ⟨_, rfl, pruned_good hr.ts.nd (fun p hp => tree_ne' hr.ts hp) (fun x hx => hr.met x (by rw [← hall]; exact hx)), ?_⟩
    have hsub : ∀ p ∈ prunedR st nd l', p ∈ l' := fun p hp => (((prunedR_mem (st := st) (nd := nd) hr.ts.nd).2 p).1 hp).1
    have hrs := (prunedR_mem (st := st) (nd := nd) hr.ts.nd).1
    have := nodup_len ((prunedR st nd l').map fun p => p.path) (l'.map fun p => p.path) (by
      unfold List.Nodup
      rw [List.pairwise_map]
      exact List.Pairwise.imp (fun h => less_ne h) hrs) fun x hx => by
        obtain ⟨p, hp, rfl⟩ := List.mem_map.1 hx
        exact List.mem_map.2 ⟨p, hsub p hp, rfl⟩
    simp at this
    omega
theorem settle_good {sx : SiteX} {sd : SiteD} (h : SiteSame sx sd) {ndx : List NeedX} {nd : List NeedD} (hn : All2 NeedSame ndx nd) (hr : Rises (fun n => n.name) nd) (h6 : nd.length ≤ 6) {tree : List PackD} {fav : List PkX} (hf : TreeSame sx.stock tree fav) :
    (∃ e, settleR sd nd tree = (sd, e) ∧ (e = 8 ∨ e = 9)) ∨ ∃ l, settleR sd nd tree = (⟨sd.stock, nd, l⟩, 0) ∧ Good sd.stock nd l := by
  unfold settleR
  rcases build_good h.st (siteNeeds_of hn hr) h6 hf h.h6 with ⟨e, h1, h2⟩ | ⟨l, h1, h2, _⟩
  · rw [h1]; exact .inl ⟨e, rfl, h2⟩
  · rw [h1]; exact .inr ⟨l, rfl, h2⟩

theorem useGo_nodup {l : List PackD} {who : List WhoD} : ∀ (f : Nat) (used : List Tx), used.Nodup → (∀ p ∈ used, p ∈ l.map fun q => q.path) → (useGo l who f used).Nodup
  | 0, used, h, _ => h
  | f + 1, used, h, hs => by
    obtain ⟨g1, g2, _, _⟩ := pass_grow (l := l) who used false h hs
    rw [useGo]
    split
    · exact useGo_nodup f _ g1 g2
    · exact g1
theorem used_len {st : List EntryD} {nd : List NeedD} {l : List PackD} (hl : l.Pairwise fun p q => p.path ≠ q.path) : (inUseR st nd l).length = (prunedR st nd l).length := by
  obtain ⟨hr, hm⟩ := prunedR_mem (st := st) (nd := nd) hl
  have n1 : (inUseR st nd l).Nodup := useGo_nodup _ _ (by simp) (by simp)
  have n2 : ((prunedR st nd l).map fun p => p.path).Nodup := by
    unfold List.Nodup
    rw [List.pairwise_map]
    exact List.Pairwise.imp (fun h => less_ne h) hr
  have m1 : ∀ x ∈ inUseR st nd l, x ∈ (prunedR st nd l).map fun p => p.path := fun x hx => by
    have hu := (inUseR_used st nd l x).1 (hasR_mem.2 hx)
    obtain ⟨b, hb, e⟩ := used_in hu
    exact List.mem_map.2 ⟨b, (hm b).2 ⟨hb, by rw [e]; exact hu⟩, e⟩
  have m2 : ∀ x ∈ (prunedR st nd l).map (fun p => p.path), x ∈ inUseR st nd l := fun x hx => by
    obtain ⟨p, hp, rfl⟩ := List.mem_map.1 hx
    exact hasR_mem.1 ((inUseR_used st nd l p.path).2 ((hm p).1 hp).2)
  have h1 := nodup_len _ _ n1 m1
  have h2 := nodup_len _ _ n2 m2
  rw [List.length_map] at h1 h2
  omega

end Hst
end Go.Proofs.YtecocheolbkneaaDoor
namespace Go.Proofs.YtecocheolbkneaaDoor
namespace Hst
set_option maxRecDepth 100000

/-- Items from one of them on, round and round. -/
def rotK (l : List ItemX) (m : Nat) : List ItemX := (List.range l.length).map fun i => l.getD ((i + m) % l.length) ⟨0, 0, 0, .slice none 0 0, []⟩
def stockT (back : Bool) : Bool → List ItemX → Tx
  | _, [] => []
  | first, x :: r => (if first = true then [] else [59]) ++ entryK x back ++ stockT back false r
theorem rotK_len (l : List ItemX) (m : Nat) : (rotK l m).length = l.length := by simp [rotK]
theorem rotK_at (l : List ItemX) (m k : Nat) (hk : k < l.length) : ∃ (j : Nat) (hj : j < l.length), j = (k + m) % l.length ∧ (rotK l m)[k]? = some l[j] := by
  have hj : (k + m) % l.length < l.length := Nat.mod_lt _ (by omega)
  refine ⟨_, hj, rfl, ?_⟩
  unfold rotK
  rw [List.getElem?_map, List.getElem?_range hk]
  simp only [Option.map_some]
  rw [List.getD_eq_getElem?_getD, List.getElem?_eq_getElem hj]
  rfl
theorem rotK_zero (l : List ItemX) : rotK l 0 = l := by
  refine List.ext_getElem? fun i => ?_
  rcases Nat.lt_or_ge i l.length with h | h
  · obtain ⟨j, hj, e, h1⟩ := rotK_at l 0 i h
    rw [h1, List.getElem?_eq_getElem h]
    have : j = i := by rw [e, Nat.add_zero, Nat.mod_eq_of_lt h]
    subst this
    rfl
  · rw [List.getElem?_eq_none h, List.getElem?_eq_none (by rw [rotK_len]; exact h)]
theorem st_step (back : Bool) (l : List ItemX) (k : Nat) (x : ItemX) (hk : l[k]? = some x) : stockT back (decide (k = 0)) (l.drop k) = (if k = 0 then [] else [59]) ++ entryK x back ++ stockT back (decide (k + 1 = 0)) (l.drop (k + 1)) := by
  have hlt : k < l.length := by
    rcases Nat.lt_or_ge k l.length with h | h
    · exact h
    · rw [List.getElem?_eq_none h] at hk; simp at hk
  rw [List.getElem?_eq_getElem hlt] at hk
  rw [List.drop_eq_getElem_cons hlt, stockT, Option.some.inj hk]
  have e : decide (k + 1 = 0) = false := by simp
  rw [e]
  by_cases h : k = 0
  · simp [h]
  · simp [h]
theorem st_end (back : Bool) (l : List ItemX) (k : Nat) (b : Bool) (hk : ¬ k < l.length) : stockT back b (l.drop k) = [] := by
  rw [List.drop_of_length_le (by omega)]; cases b <;> rfl
theorem wantsT_len : ∀ (l : List WantX) (b : Bool), (wantsT b l).length ≤ 13 * l.length
  | [], b => by cases b <;> simp [wantsT]
  | x :: r, b => by
    have h1 := wantsT_len r false
    have h2 := wantT_len x
    have h3 : (if b = true then [58] else [44] : Tx).length = 1 := by cases b <;> rfl
    rw [wantsT, List.length_append, List.length_append, h3, List.length_cons]
    omega
theorem entryK_len (x : ItemX) (b : Bool) : (entryK x b).length ≤ 11 + 13 * x.wants.length := by
  have h1 := headK_len x.name x.major x.minor
  have h2 := wantsT_len (if b = true then x.wants.reverse else x.wants) true
  have h3 : (if b = true then x.wants.reverse else x.wants).length = x.wants.length := by cases b <;> simp
  rw [h3] at h2
  rw [entryK, List.length_append]
  omega
def sameN (x : WantX) (y : WantX) : Bool := decide (nameK y.name = nameK x.name)
/-- Wants of which no two have one name, at most six. -/
def plainGo (out : List WantX) : List WantX → List WantX
  | [] => out
  | x :: r => if 6 ≤ out.length then out else if out.any (sameN x) = true then plainGo out r else plainGo (out ++ [x]) r
def plainK (l : List WantX) : List WantX := plainGo [] l
theorem kpl_full (out l : List WantX) (h : 6 ≤ out.length) : plainGo out l = out := by
  cases l with
  | nil => rfl
  | cons x r => rw [plainGo, if_pos h]
theorem kpl_end (out l : List WantX) (k : Nat) (h : ¬ k < l.length) : plainGo out (l.drop k) = out := by rw [List.drop_of_length_le (by omega)]; rfl
theorem kpl_old (out l : List WantX) (k : Nat) (hk : k < l.length) (h6 : ¬ 6 ≤ out.length) (h : out.any (sameN l[k]) = true) : plainGo out (l.drop k) = plainGo out (l.drop (k + 1)) := by
  rw [List.drop_eq_getElem_cons hk, plainGo, if_neg h6, if_pos h]
theorem kpl_new (out l : List WantX) (k : Nat) (hk : k < l.length) (h6 : ¬ 6 ≤ out.length) (h : out.any (sameN l[k]) = false) : plainGo out (l.drop k) = plainGo (out ++ [l[k]]) (l.drop (k + 1)) := by
  rw [List.drop_eq_getElem_cons hk, plainGo, if_neg h6, if_neg (by rw [h]; simp)]
/-- An item, without where its wants lie. -/
structure ItemP where
  name : Int
  major : Int
  minor : Int
  wants : List WantX
def bare (x : ItemX) : ItemP := ⟨x.name, x.major, x.minor, x.wants⟩
def headP (x : ItemP) : Tx := headK x.name x.major x.minor
def sameH (x : ItemP) (y : ItemP) : Bool := decide (headP y = headP x)
/-- Items of which no two have one name and version, at most forty, their wants plain. -/
def stockedGo (out : List ItemP) : List ItemP → List ItemP
  | [] => out
  | x :: r => if 40 ≤ out.length then out else if out.any (sameH x) = true then stockedGo out r else stockedGo (out ++ [⟨x.name, x.major, x.minor, plainK x.wants⟩]) r
def stockedK (l : List ItemP) : List ItemP := stockedGo [] l
theorem sk_full (out l : List ItemP) (h : 40 ≤ out.length) : stockedGo out l = out := by
  cases l with
  | nil => rfl
  | cons x r => rw [stockedGo, if_pos h]
theorem sk_end (out : List ItemP) (l : List ItemX) (k : Nat) (h : ¬ k < l.length) : stockedGo out ((l.drop k).map bare) = out := by rw [List.drop_of_length_le (by omega)]; rfl
theorem sk_old (out : List ItemP) (l : List ItemX) (k : Nat) (hk : k < l.length) (h6 : ¬ 40 ≤ out.length) (h : out.any (sameH (bare l[k])) = true) : stockedGo out ((l.drop k).map bare) = stockedGo out ((l.drop (k + 1)).map bare) := by
  rw [List.drop_eq_getElem_cons hk, List.map_cons, stockedGo, if_neg h6, if_pos h]
theorem sk_new (out : List ItemP) (l : List ItemX) (k : Nat) (hk : k < l.length) (h6 : ¬ 40 ≤ out.length) (h : out.any (sameH (bare l[k])) = false) : stockedGo out ((l.drop k).map bare) = stockedGo (out ++ [⟨l[k].name, l[k].major, l[k].minor, plainK l[k].wants⟩]) ((l.drop (k + 1)).map bare) := by
  rw [List.drop_eq_getElem_cons hk, List.map_cons, stockedGo, if_neg h6, if_neg (by rw [h]; simp)]
  rfl
theorem plainGo_in : ∀ (l out : List WantX), (∀ y ∈ plainGo out l, y ∈ out ∨ y ∈ l) ∧ (out.length ≤ 6 → (plainGo out l).length ≤ 6)
  | [], out => ⟨fun y hy => .inl hy, fun h => h⟩
  | x :: r, out => by
    rw [plainGo]
    split
    · exact ⟨fun y hy => .inl hy, fun h => h⟩
    · split
      · obtain ⟨h1, h2⟩ := plainGo_in r out
        exact ⟨fun y hy => (h1 y hy).imp id (List.mem_cons_of_mem _), h2⟩
      · obtain ⟨h1, h2⟩ := plainGo_in r (out ++ [x])
        refine ⟨fun y hy => ?_, fun h => h2 (by simp; omega)⟩
        rcases h1 y hy with h | h
        · rcases List.mem_append.1 h with h | h
          · exact .inl h
          · exact .inr (by rw [List.mem_singleton.1 h]; simp)
        · exact .inr (List.mem_cons_of_mem _ h)
theorem plainK_in {l : List WantX} {y : WantX} (h : y ∈ plainK l) : y ∈ l := by
  rcases (plainGo_in l []).1 y h with h | h
  · simp at h
  · exact h
theorem plainK_len (l : List WantX) : (plainK l).length ≤ 6 := (plainGo_in l []).2 (by simp)
def splitK (n : Int) (t : Tx) : List Tx := if t = [] then [] else splitL n t
/-- The name at the end of a path. -/
def lastK (t : Tx) : Tx := (splitK 47 t).getLastD []
def isHead (n v : Tx) (x : ItemX) : Bool := decide (headK x.name x.major x.minor = n ++ [64] ++ v)
/-- The version that a tree's text has at a path. -/
def atGoK (path : Tx) : List Tx → Tx
  | [] => []
  | x :: r => if (cutR 64 x).1 = path then (cutR 64 x).2.1 else atGoK path r
def atK (tree path : Tx) : Tx := atGoK path (splitK 59 tree)
/-- The simplest stock: one package that needs another. -/
def firstT : Tx := [97, 64, 49, 46, 48, 46, 48, 58, 98, 42, 59, 98, 64, 49, 46, 48, 46, 48]
def firstS : SiteD := ⟨(newR firstT).1.getD [], [], []⟩
def foundAt (l : List PackD) (path : Tx) (x : WantX) : Tx := (lookR l path (nameK x.name)).1
/-- What a want comes to, where all is well. -/
structure MetK (sd : SiteD) (path : Tx) (x : WantX) : Prop where
  look : (lookR sd.packs path (nameK x.name)).2 = 0
  short : (foundAt sd.packs path x).length ≤ 900
  last : lastK (foundAt sd.packs path x) = nameK x.name
  fits : fitsProg (rngK x) (atK (textR sd.stock sd.packs) (foundAt sd.packs path x)) = (true, 0)
  ne : foundAt sd.packs path x ≠ []
def pieceP (z : Tx) : Tx := (cutR 64 z).1
def pieceV (z : Tx) : Tx := (cutR 64 z).2.1
def itemAt (items : List ItemX) (z : Tx) : Option ItemX := items.find? (isHead (lastK (pieceP z)) (pieceV z))
def itemWants (items : List ItemX) (z : Tx) : List WantX := match itemAt items z with
  | some x => x.wants
  | none => []
def foundOf (sd : SiteD) (items : List ItemX) (z : Tx) : List Tx := (itemWants items z).map (foundAt sd.packs (pieceP z))
def piecesK (sd : SiteD) : List Tx := splitK 59 (textR sd.stock sd.packs)
def foundK (sd : SiteD) (items : List ItemX) (site : List WantX) : List Tx := site.map (foundAt sd.packs []) ++ (piecesK sd).flatMap (foundOf sd items)
structure SettledK (sd : SiteD) (items : List ItemX) (site : List WantX) : Prop where
  size : (textR sd.stock sd.packs).length ≤ 100000
  le : (piecesK sd).length ≤ 40
  own : ∀ x ∈ site, MetK sd [] x
  item : ∀ z ∈ piecesK sd, (itemAt items z).isSome
  met : ∀ z ∈ piecesK sd, ∀ x ∈ itemWants items z, MetK sd (pieceP z) x
  found : ∀ z ∈ piecesK sd, hasR (foundK sd items site) (pieceP z) = true
/-- What the site is given, one after the other. -/
def addsK : SiteD → List WantX → List WantX → SiteD × List WantX
  | sd, site, [] => (sd, site)
  | sd, site, x :: r => if (addR sd (wantT x)).2 = 0 then addsK (addR sd (wantT x)).1 (site ++ [x]) r else addsK sd site r
/-- Each time the site is settled behind it, or refuses and is as it was. -/
def AddsWell (items : List ItemX) : SiteD → List WantX → List WantX → Prop
  | _, _, [] => True
  | sd, site, x :: r => ((addR sd (wantT x)).2 = 0 → SettledK (addR sd (wantT x)).1 items (site ++ [x]) ∧ AddsWell items (addR sd (wantT x)).1 (site ++ [x]) r) ∧
    ((addR sd (wantT x)).2 ≠ 0 → (addR sd (wantT x)).1 = sd ∧ ((addR sd (wantT x)).2 = 8 ∨ (addR sd (wantT x)).2 = 9) ∧ SettledK sd items site ∧ AddsWell items sd site r)

end Hst
end Go.Proofs.YtecocheolbkneaaDoor
