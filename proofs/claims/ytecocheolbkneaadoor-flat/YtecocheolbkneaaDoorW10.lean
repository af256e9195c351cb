/- Kparse, Kwell -/
import Derived.Test.YtecocheolbkneaaDoorW09
namespace Go.Proofs.YtecocheolbkneaaDoor
namespace Hst
set_option maxRecDepth 100000

/-! ### names, versions, ranges as they are written -/
theorem nameT_ok (j : Nat) (h : j < 8) : isNameR (nameT j) = true := by
  have : ∀ i : Fin 8, isNameR (nameL.getD i.1 []) = true := by decide
  exact this ⟨j, h⟩
theorem nameK_ok (k : Int) : isNameR (nameK k) = true := nameT_ok _ (pickZ_lt k (by omega))
def numberT (i j : Nat) : Tx := numT i ++ [46] ++ numT j ++ [46, 48]
theorem numberK_T (a b : Int) : numberK a b = numberT (pickZ a 3) (pickZ b 3) := rfl
def verK (a b : Int) : V3 := ⟨(pickZ a 3 : Int), (pickZ b 3 : Int), 0⟩
theorem numberT_ver (i j : Nat) (hi : i < 3) (hj : j < 3) : (versionR (numberT i j)).1.a = i ∧ (versionR (numberT i j)).1.b = j ∧ (versionR (numberT i j)).1.c = 0 ∧ (versionR (numberT i j)).2 = true := by
  have : ∀ i j : Fin 3, (versionR (numberT i.1 j.1)).1.a = i.1 ∧ (versionR (numberT i.1 j.1)).1.b = j.1 ∧ (versionR (numberT i.1 j.1)).1.c = 0 ∧ (versionR (numberT i.1 j.1)).2 = true := by decide
  exact this ⟨i, hi⟩ ⟨j, hj⟩
theorem numberK_ver (a b : Int) : versionR (numberK a b) = (verK a b, true) := by
  rw [numberK_T]
  obtain ⟨h1, h2, h3, h4⟩ := numberT_ver _ _ (pickZ_lt a (n := 3) (by omega)) (pickZ_lt b (n := 3) (by omega))
  rcases e : versionR (numberT (pickZ a 3) (pickZ b 3)) with ⟨⟨x, y, z⟩, f⟩
  rw [e] at h1 h2 h3 h4
  simp only at h1 h2 h3 h4
  rw [h1, h2, h3, h4]; rfl
theorem verK_text (a b : Int) : vtx (verK a b) = numberK a b := by
  unfold vtx verK verT numberK
  simp only [Int.toNat_natCast]
  have : numT (0 : Int).toNat = [48] := by decide
  rw [this]
  simp
theorem numberT_bytes (i j : Nat) (hi : i < 3) (hj : j < 3) : ∀ x ∈ numberT i j, 46 ≤ x.toNat ∧ x.toNat ≤ 50 := by
  have : ∀ i j : Fin 3, ∀ x ∈ numberT i.1 j.1, 46 ≤ x.toNat ∧ x.toNat ≤ 50 := by decide
  exact this ⟨i, hi⟩ ⟨j, hj⟩
theorem numberK_bytes (a b : Int) : ∀ x ∈ numberK a b, 46 ≤ x.toNat ∧ x.toNat ≤ 50 := numberT_bytes _ _ (pickZ_lt a (by omega)) (pickZ_lt b (by omega))
def rngT (s i j : Nat) : Tx := if s = 0 then [42] else signT s ++ numberT i j
theorem rngK_T (x : WantX) : rngK x = rngT (pickZ x.sign 8) (pickZ x.major 3) (pickZ x.minor 3) := rfl
theorem rngT_ok (s i j : Nat) (hs : s < 8) (hi : i < 3) (hj : j < 3) : isRangeR (rngT s i j) = true ∧ lowLen (rngT s i j) = 0 ∧ (∀ x ∈ rngT s i j, x ≠ 59 ∧ x ≠ 58 ∧ x ≠ 44 ∧ x ≠ 64) := by
  have : ∀ (s : Fin 8) (i j : Fin 3), isRangeR (rngT s.1 i.1 j.1) = true ∧ lowLen (rngT s.1 i.1 j.1) = 0 ∧ (∀ x ∈ rngT s.1 i.1 j.1, x ≠ 59 ∧ x ≠ 58 ∧ x ≠ 44 ∧ x ≠ 64) := by decide
  exact this ⟨s, hs⟩ ⟨i, hi⟩ ⟨j, hj⟩
theorem rngK_ok (x : WantX) : isRangeR (rngK x) = true ∧ lowLen (rngK x) = 0 ∧ (∀ y ∈ rngK x, y ≠ 59 ∧ y ≠ 58 ∧ y ≠ 44 ∧ y ≠ 64) := rngT_ok _ _ _ (pickZ_lt _ (by omega)) (pickZ_lt _ (by omega)) (pickZ_lt _ (by omega))

/-! ### needs -/
def wantN (x : WantX) : NeedD := ⟨nameK x.name, rngK x⟩
theorem lowLen_app : ∀ (a b : Tx), (∀ x ∈ a, low x = true) → lowLen b = 0 → lowLen (a ++ b) = a.length
  | [], b, _, h => h
  | y :: r, b, h, h0 => by
    rw [List.cons_append, lowLen, if_pos (h y (by simp)), lowLen_app r b (fun x hx => h x (List.mem_cons_of_mem _ hx)) h0]
    rfl
theorem name_low {n : Tx} (h : isNameR n = true) : ∀ x ∈ n, low x = true := by
  unfold isNameR at h
  simp only [Bool.and_eq_true, List.all_eq_true] at h
  exact h.2
theorem want_need (x : WantX) : needR (wantT x) = (wantN x, true) := by
  obtain ⟨h1, h2, _⟩ := rngK_ok x
  have hn := nameK_ok x.name
  have hl : lowLen (wantT x) = (nameK x.name).length := lowLen_app _ _ (name_low hn) h2
  unfold needR
  rw [hl]
  have e1 : (wantT x).take (nameK x.name).length = nameK x.name := List.take_left' rfl
  have e2 : (wantT x).drop (nameK x.name).length = rngK x := List.drop_left' rfl
  rw [e1, e2, hn, h1]
  rfl
theorem low_no {x : UInt8} (h : low x = true) : x ≠ 59 ∧ x ≠ 58 ∧ x ≠ 44 ∧ x ≠ 64 ∧ x ≠ 47 := by
  refine ⟨?_, ?_, ?_, ?_, ?_⟩ <;> (rintro rfl; exact absurd h (by decide))
theorem wantT_no (x : WantX) : ∀ y ∈ wantT x, y ≠ 59 ∧ y ≠ 58 ∧ y ≠ 44 ∧ y ≠ 64 := by
  intro y hy
  rcases List.mem_append.1 hy with h | h
  · have := low_no (name_low (nameK_ok x.name) y h)
    exact ⟨this.1, this.2.1, this.2.2.1, this.2.2.2.1⟩
  · exact (rngK_ok x).2.2 y h
theorem number_no {a b : Int} : ∀ y ∈ numberK a b, y ≠ 59 ∧ y ≠ 58 ∧ y ≠ 44 ∧ y ≠ 64 ∧ y ≠ 47 ∨ y = 47 := by
  intro y hy
  have := numberK_bytes a b y hy
  by_cases h : y = 47
  · exact .inr h
  · refine .inl ⟨?_, ?_, ?_, ?_, h⟩ <;> (rintro rfl; simp at this)
theorem number_no' {a b : Int} : ∀ y ∈ numberK a b, y ≠ 59 ∧ y ≠ 58 ∧ y ≠ 44 ∧ y ≠ 64 := by
  intro y hy
  have := numberK_bytes a b y hy
  refine ⟨?_, ?_, ?_, ?_⟩ <;> (rintro rfl; simp at this)
theorem wantsT_join : ∀ (l : List WantX) (b : Bool), wantsT b l = if l = [] then [] else (if b = true then [58] else [44]) ++ joinT [44] (l.map wantT)
  | [], b => by cases b <;> rfl
  | x :: r, b => by
    rw [wantsT, wantsT_join r false]
    simp only [List.cons_ne_nil, if_false, List.map_cons, reduceCtorEq]
    by_cases h : r = []
    · subst h; simp [joinT, joinGo]
    · rw [if_neg h, join_cons [44] (wantT x) (r.map wantT) (by simpa using h)]
      simp

/-! ### entries -/
theorem cut_gen (n : UInt8) : ∀ (a b : Tx), (∀ x ∈ a, x ≠ n) → cutR (n.toNat : Int) (a ++ [n] ++ b) = (a, b, true)
  | [], b, _ => by simp [cutR]
  | y :: r, b, h => by
    have hy : ¬ (y.toNat : Int) = (n.toNat : Int) := fun e => h y (by simp) (u8_same e)
    have ih := cut_gen n r b fun x hx => h x (List.mem_cons_of_mem _ hx)
    simp only [List.cons_append] at ih ⊢
    rw [cutR, if_neg hy, ih]
theorem cut_nothing (n : UInt8) : ∀ (a : Tx), (∀ x ∈ a, x ≠ n) → cutR (n.toNat : Int) a = (a, [], false)
  | [], _ => rfl
  | y :: r, h => by
    have hy : ¬ (y.toNat : Int) = (n.toNat : Int) := fun e => h y (by simp) (u8_same e)
    rw [cutR, if_neg hy, cut_nothing n r fun x hx => h x (List.mem_cons_of_mem _ hx)]
theorem head_cut (a b c : Int) : cutR 64 (headK a b c) = (nameK a, numberK b c, true) := by
  unfold headK
  exact cut_mid _ _ fun x hx => (low_no (name_low (nameK_ok a) x hx)).2.2.2.1
theorem head_no (a b c : Int) : ∀ y ∈ headK a b c, y ≠ 59 ∧ y ≠ 58 := by
  intro y hy
  unfold headK at hy
  rcases List.mem_append.1 hy with h | h
  · rcases List.mem_append.1 h with h | h
    · have := low_no (name_low (nameK_ok a) y h); exact ⟨this.1, this.2.1⟩
    · simp at h; subst h; decide
  · have := number_no' y h; exact ⟨this.1, this.2.1⟩
theorem tail_wants (l : List WantX) (h0 : l ≠ []) (h6 : l.length ≤ 6) : tailR (joinT [44] (l.map wantT)) = (sortedR (l.map wantN), true) := by
  have hs : splitL 44 (joinT [44] (l.map wantT)) = l.map wantT := by
    have h44 : ((44 : UInt8).toNat : Int) = 44 := rfl
    have := split_join 44 (l.map wantT) (by simpa using h0) fun p hp x hx => by
      obtain ⟨y, _, rfl⟩ := List.mem_map.1 hp
      exact (wantT_no y x hx).2.2.1
    rw [h44] at this
    exact this
  unfold tailR needsR
  rw [hs, needsGo_spec]
  have hall : ((l.map wantT).all fun t => (needR t).2) = true := by
    rw [List.all_eq_true]
    intro t ht
    obtain ⟨y, _, rfl⟩ := List.mem_map.1 ht
    rw [want_need]
  rw [if_pos hall]
  simp only [List.nil_append]
  have e : ((l.map wantT).map fun t => (needR t).1) = l.map wantN := by
    rw [List.map_map]
    apply List.map_congr_left
    intro y _
    simp only [Function.comp]
    rw [want_need]
  rw [e]
  simp [h6]
/-- The entry of an item. -/
def entryD (x : ItemX) (back : Bool) : EntryD := ⟨nameK x.name, verK x.major x.minor, sortedR ((if back = true then x.wants.reverse else x.wants).map wantN)⟩
theorem entry_of (x : ItemX) (back : Bool) (h6 : x.wants.length ≤ 6) : entryR (entryK x back) = (entryD x back, true) := by
  have hw6 : (if back = true then x.wants.reverse else x.wants).length ≤ 6 := by cases back <;> simpa using h6
  unfold entryK entryD
  generalize (if back = true then x.wants.reverse else x.wants) = l at *
  have h58 : ((58 : UInt8).toNat : Int) = 58 := rfl
  rw [wantsT_join]
  by_cases h : l = []
  · subst h
    have hc : cutR 58 (headK x.name x.major x.minor) = (headK x.name x.major x.minor, [], false) := cut_nothing 58 _ fun y hy => (head_no _ _ _ y hy).2
    unfold entryR
    simp only [if_true, List.append_nil]
    rw [hc]
    simp only
    rw [head_cut, if_neg (by simp)]
    simp only
    rw [numberK_ver, nameK_ok]
    rfl
  · rw [if_neg h, if_pos rfl, ← List.append_assoc]
    have hc : cutR 58 (headK x.name x.major x.minor ++ [58] ++ joinT [44] (l.map wantT)) = (headK x.name x.major x.minor, joinT [44] (l.map wantT), true) := cut_gen 58 _ _ fun y hy => (head_no _ _ _ y hy).2
    unfold entryR
    rw [hc]
    simp only
    rw [head_cut, if_pos trivial]
    simp only
    rw [numberK_ver, nameK_ok, tail_wants l h hw6]
    rfl
theorem join_no {n : UInt8} : ∀ (l : List Tx) (b : Bool), (∀ p ∈ l, ∀ x ∈ p, x ≠ n) → n ≠ 44 → ∀ x ∈ joinGo [44] b l, x ≠ n
  | [], _, _, _, x, hx => by simp [joinGo] at hx
  | p :: r, b, h, hn, x, hx => by
    rw [joinGo] at hx
    rcases List.mem_append.1 hx with h1 | h1
    · cases b
      · simp at h1
        rcases h1 with rfl | h1
        · exact fun e => hn e.symm
        · exact h p (by simp) x h1
      · simp at h1
        exact h p (by simp) x h1
    · exact join_no r false (fun q hq => h q (List.mem_cons_of_mem _ hq)) hn x h1
theorem entryK_no (x : ItemX) (back : Bool) : ∀ y ∈ entryK x back, y ≠ 59 := by
  intro y hy
  unfold entryK at hy
  generalize (if back = true then x.wants.reverse else x.wants) = l at hy
  rcases List.mem_append.1 hy with h | h
  · exact (head_no _ _ _ y h).1
  · rw [wantsT_join] at h
    split at h
    · simp at h
    · simp only [if_true] at h
      rcases List.mem_append.1 h with h | h
      · simp at h; subst h; decide
      · refine join_no _ true (fun p hp z hz => ?_) (by decide) y h
        obtain ⟨u, _, rfl⟩ := List.mem_map.1 hp
        exact (wantT_no u z hz).1
theorem stockT_join (back : Bool) : ∀ (l : List ItemX) (b : Bool), stockT back b l = joinGo [59] b (l.map fun x => entryK x back)
  | [], b => by cases b <;> rfl
  | x :: r, b => by
    rw [stockT, List.map_cons, joinGo, stockT_join back r false]
    cases b <;> simp
theorem entryK_ne (x : ItemX) (back : Bool) : entryK x back ≠ [] := by
  unfold entryK headK
  simp
theorem stock_len (back : Bool) : ∀ (l : List ItemX) (b : Bool), (∀ x ∈ l, x.wants.length ≤ 6) → (stockT back b l).length ≤ 90 * l.length
  | [], b, _ => by cases b <;> simp [stockT]
  | x :: r, b, h => by
    have h1 := stock_len back r false fun y hy => h y (List.mem_cons_of_mem _ hy)
    have h2 := entryK_len x back
    have h3 := h x (by simp)
    rw [stockT]
    cases b <;> simp <;> omega

/-! ### the stock -/
/-- No two entries of one name and version, no two needs of one name. -/
structure ItemsWell (l : List ItemX) : Prop where
  le : l.length ≤ 40
  six : ∀ x ∈ l, x.wants.length ≤ 6
  two : l.Pairwise fun x y => headK x.name x.major x.minor ≠ headK y.name y.major y.minor
  own : ∀ x ∈ l, x.wants.Pairwise fun a b => nameK a.name ≠ nameK b.name
theorem head_inj {a b c a' b' c' : Int} (h1 : nameK a = nameK a') (h2 : verK b c = verK b' c') : headK a b c = headK a' b' c' := by
  unfold headK
  rw [h1, ← verK_text, h2, verK_text]
theorem eq3_v {v w : V3} (h : eq3 v w = true) : v = w := by
  obtain ⟨a, b, c⟩ := v
  obtain ⟨x, y, z⟩ := w
  unfold eq3 at h
  simp only [Bool.and_eq_true, decide_eq_true_eq] at h
  obtain ⟨⟨rfl, rfl⟩, rfl⟩ := h
  rfl
theorem again_no (back : Bool) : ∀ (l pre : List ItemX), (∀ x ∈ l, x.wants.Pairwise fun a b => nameK a.name ≠ nameK b.name) → (pre ++ l).Pairwise (fun x y => headK x.name x.major x.minor ≠ headK y.name y.major y.minor) → againGo (pre.map fun x => entryD x back) (l.map fun x => entryD x back) = false
  | [], _, _, _ => rfl
  | x :: r, pre, ho, h => by
    rw [List.map_cons, againGo]
    have h1 : ((pre.map fun x => entryD x back).any fun f => sameE f (entryD x back)) = false := by
      rw [List.any_eq_false]
      intro f hf hs
      obtain ⟨y, hy, rfl⟩ := List.mem_map.1 hf
      unfold sameE at hs
      rw [Bool.and_eq_true] at hs
      have e1 : nameK y.name = nameK x.name := of_decide_eq_true hs.1
      have e2 : verK y.major y.minor = verK x.major x.minor := eq3_v hs.2
      exact (List.pairwise_append.1 h).2.2 y hy x (by simp) (head_inj e1 e2)
    have h2 : twiceN [] (entryD x back).needs = false := by
      rw [twiceN_iff]
      refine ⟨?_, by simp⟩
      have hp := ho x (by simp)
      rw [pw_map (fun n : NeedD => n.name)]
      have hperm : ((entryD x back).needs.map fun n => n.name).Perm (x.wants.map fun y => nameK y.name) := by
        unfold entryD
        simp only
        refine ((sortedR_perm _).map _).trans ?_
        rw [List.map_map]
        cases back
        · exact List.Perm.refl _
        · exact (List.reverse_perm _).map _
      rw [hperm.nodup_iff, ← pw_map (fun y : WantX => nameK y.name)]
      exact hp
    have h3 := again_no back r (pre ++ [x]) (fun y hy => ho y (List.mem_cons_of_mem _ hy)) (by simpa using h)
    rw [List.map_append] at h3
    rw [h1, h2]
    simpa using h3
theorem new_items (back : Bool) (l : List ItemX) (h : ItemsWell l) : newR (stockT back true l) = (some (l.map fun x => entryD x back), 0) := by
  have hlen : (stockT back true l).length ≤ 4000 := by have := stock_len back l true h.six; have := h.le; omega
  unfold newR
  rw [if_neg (by omega)]
  have hst : stockR (stockT back true l) = some (l.map fun x => entryD x back) := by
    unfold stockR
    by_cases h0 : l = []
    · subst h0; rfl
    · have hne : stockT back true l ≠ [] := by
        obtain ⟨x, r, rfl⟩ := List.exists_cons_of_ne_nil h0
        rw [stockT]
        simp [entryK_ne]
      rw [if_neg hne]
      have hs : splitL 59 (stockT back true l) = l.map fun x => entryK x back := by
        have h59 : ((59 : UInt8).toNat : Int) = 59 := rfl
        have := split_join 59 (l.map fun x => entryK x back) (by simpa using h0) fun p hp x hx => by
          obtain ⟨y, _, rfl⟩ := List.mem_map.1 hp
          exact entryK_no y back x hx
        rw [h59] at this
        rw [stockT_join]
        exact this
      rw [hs, stockGo_spec]
      have hall : ((l.map fun x => entryK x back).all fun t => (entryR t).2) = true := by
        rw [List.all_eq_true]
        intro t ht
        obtain ⟨y, hy, rfl⟩ := List.mem_map.1 ht
        rw [entry_of y back (h.six y hy)]
      rw [if_pos hall]
      simp only [List.nil_append]
      have e : ((l.map fun x => entryK x back).map fun t => (entryR t).1) = l.map fun x => entryD x back := by
        rw [List.map_map]
        apply List.map_congr_left
        intro y hy
        simp only [Function.comp]
        rw [entry_of y back (h.six y hy)]
      rw [e, if_pos (by simpa using h.le)]
  rw [hst]
  simp only
  have hag : againR (l.map fun x => entryD x back) = false := again_no back l [] h.own (by simpa using h.two)
  rw [if_neg (by rw [hag]; simp)]

end Hst
end Go.Proofs.YtecocheolbkneaaDoor
namespace Go.Proofs.YtecocheolbkneaaDoor
namespace Hst
set_option maxRecDepth 100000

/-! ### paths as text -/
theorem splitL_nosl {n : Tx} (h : NoSl n) : splitL 47 n = [n] := splitL_one 47 n fun x hx e => h x hx (by
  have h47 : ((47 : UInt8).toNat : Int) = 47 := rfl
  exact u8_same (by rw [e, h47]))
theorem lastK_join {f n : Tx} (h : NoSl n) (h0 : n ≠ []) : lastK (joinR f n) = n := by
  have h47 : ((47 : UInt8).toNat : Int) = 47 := rfl
  unfold lastK splitK
  rw [if_neg (join_ne h0)]
  unfold joinR
  split
  · rw [splitL_nosl h]; rfl
  · have := splitL_mid 47 n f
    rw [h47] at this
    rw [this, splitL_nosl h, List.getLastD_eq_getLast?]
    simp
/-- A tree that shows itself: what Tree tells of it. -/
structure Shown (st : List EntryD) (l : List PackD) : Prop where
  nd : l.Pairwise fun p q => p.path ≠ q.path
  n59 : ∀ p ∈ l, ∀ x ∈ txtD st p, x ≠ 59
  n64 : ∀ p ∈ l, ∀ x ∈ p.path, x ≠ 64
  last : ∀ p ∈ l, lastK p.path = (st.getD p.of zeroD).name
  ne : ∀ p ∈ l, p.path ≠ []
theorem numT_no {n : Nat} (h : n ≤ 99) : ∀ x ∈ numT n, 48 ≤ x.toNat ∧ x.toNat ≤ 57 := by
  have : ∀ i : Fin 100, ∀ x ∈ numT i.1, 48 ≤ x.toNat ∧ x.toNat ≤ 57 := by decide
  exact this ⟨n, by omega⟩
theorem vtx_no {v : V3} (h : Valid v) : ∀ x ∈ vtx v, 46 ≤ x.toNat ∧ x.toNat ≤ 57 := by
  obtain ⟨a, b, c⟩ := v
  obtain ⟨a0, a1, b0, b1, c0, c1⟩ := h
  intro x hx
  unfold vtx verT at hx
  simp only [List.mem_append, List.mem_singleton] at hx
  have key : ∀ n : Nat, n ≤ 99 → x ∈ numT n → 46 ≤ x.toNat ∧ x.toNat ≤ 57 := fun n hn hx => by have := numT_no hn x hx; omega
  simp only at *
  rcases hx with (((hx | hx) | hx) | hx) | hx
  · exact key _ (by omega) hx
  · subst hx; decide
  · exact key _ (by omega) hx
  · subst hx; decide
  · exact key _ (by omega) hx
theorem path_bytes {stx : List EntX} {l : List PackD} {t : List PkX} (ht : TreeSame stx l t) (hf : Folded l) : ∀ (n : Nat) (p : PackD), p ∈ l → p.path.length ≤ n → ∀ x ∈ p.path, low x = true ∨ x = 47
  | n, p, hp, hn, x, hx => by
    have hw := ht.wf p hp
    have hnm := ht.nm p hp
    rw [hw] at hx
    unfold joinR at hx
    split at hx
    · exact .inl (name_low hnm x hx)
    · rename_i hfo
      simp only [List.mem_append, List.mem_singleton] at hx
      rcases hx with (hx | hx) | hx
      · have hlt := folderP_lt (tree_ne' ht hp)
        have hmem : folderP p.path ∈ foldersR p.path := by
          rw [foldersR_cons _ (tree_ne' ht hp)]
          exact List.mem_cons_of_mem _ (folders_self _)
        rcases hf p hp _ hmem with h0 | ⟨b, hb, e⟩
        · exact absurd h0 hfo
        · match n with
          | 0 => omega
          | n + 1 => exact path_bytes ht hf n b hb (by rw [e]; omega) x (by rw [e]; exact hx)
      · exact .inr hx
      · exact .inl (name_low hnm x hx)
theorem SiteSame.shown {sx : SiteX} {sd : SiteD} (h : SiteSame sx sd) : Shown sd.stock sd.packs := by
  have hne : ∀ p ∈ sd.packs, p.path ≠ [] := fun p hp => tree_ne' h.tr hp
  have hby : ∀ p ∈ sd.packs, ∀ x ∈ p.path, x ≠ 59 ∧ x ≠ 64 := fun p hp x hx => by
    rcases path_bytes h.tr h.fold _ p hp (Nat.le_refl _) x hx with h1 | h1
    · have := low_no h1; exact ⟨this.1, this.2.2.2.1⟩
    · subst h1; decide
  refine ⟨h.tr.nd, fun p hp x hx => ?_, fun p hp x hx => (hby p hp x hx).2, fun p hp => ?_, hne⟩
  · unfold txtD at hx
    simp only [List.mem_append, List.mem_singleton] at hx
    rcases hx with (hx | hx) | hx
    · exact (hby p hp x hx).1
    · subst hx; decide
    · have hv := (h.st.at (h.tr.of p hp)).val
      have := vtx_no hv x hx
      rintro rfl
      simp at this
  · have h1 := h.tr.wf p hp
    have h2 := h.tr.nm p hp
    have h3 := (h.st.at (h.tr.of p hp)).name
    rw [h1, lastK_join (name_nosl h2) (name_ne h2), h3]
theorem pieces_eq {sd : SiteD} (h : Shown sd.stock sd.packs) : piecesK sd = sd.packs.map (txtD sd.stock) := by
  unfold piecesK splitK
  rw [textR_join]
  by_cases h0 : sd.packs = []
  · rw [h0]; rfl
  · have hne : joinT [59] (sd.packs.map (txtD sd.stock)) ≠ [] := by
      obtain ⟨p, r, e⟩ := List.exists_cons_of_ne_nil h0
      rw [e, List.map_cons]
      unfold joinT
      rw [joinGo]
      simp [txtD]
    rw [if_neg hne]
    have h59 : ((59 : UInt8).toNat : Int) = 59 := rfl
    have := split_join 59 (sd.packs.map (txtD sd.stock)) (by simpa using h0) fun p hp x hx => by
      obtain ⟨q, hq, rfl⟩ := List.mem_map.1 hp
      exact h.n59 q hq x hx
    rw [h59] at this
    exact this
theorem piece_cut {st : List EntryD} {l : List PackD} (h : Shown st l) {p : PackD} (hp : p ∈ l) : cutR 64 (txtD st p) = (p.path, vtx (verOf st p.of), true) := by
  unfold txtD
  exact cut_mid _ _ (h.n64 p hp)
theorem atGoK_at {st : List EntryD} : ∀ {l : List PackD}, Shown st l → ∀ p ∈ l, atGoK p.path (l.map (txtD st)) = vtx (verOf st p.of)
  | [], _, p, hp => by simp at hp
  | q :: r, h, p, hp => by
    have hc := piece_cut h (p := q) (by simp)
    rw [List.map_cons, atGoK, hc]
    simp only
    have hl' := List.pairwise_cons.1 h.nd
    rcases List.mem_cons.1 hp with rfl | hp
    · rw [if_pos rfl]
    · rw [if_neg (hl'.1 p hp)]
      exact atGoK_at ⟨hl'.2, fun p hp => h.n59 p (List.mem_cons_of_mem _ hp), fun p hp => h.n64 p (List.mem_cons_of_mem _ hp), fun p hp => h.last p (List.mem_cons_of_mem _ hp), fun p hp => h.ne p (List.mem_cons_of_mem _ hp)⟩ p hp
theorem text_size {sx : SiteX} {sd : SiteD} (h : SiteSame sx sd) : (textR sd.stock sd.packs).length ≤ 100000 := by
  have key : ∀ (l : List PackD) (b : Bool), (∀ p ∈ l, p.path.length ≤ 160) → (textGo sd.stock b l).length ≤ 200 * l.length := by
    intro l
    induction l with
    | nil => intro b _; simp [textGo]
    | cons p r ih =>
      intro b hp
      have h1 := ih false fun q hq => hp q (List.mem_cons_of_mem _ hq)
      have h2 := hp p (by simp)
      have h3 := verT_len (verOf sd.stock p.of).a.toNat (verOf sd.stock p.of).b.toNat (verOf sd.stock p.of).c.toNat
      rw [textGo]
      unfold vtx
      cases b <;> simp <;> omega
  have h40 := h.l40
  have := key sd.packs true fun p hp => by have := path_short h.tr h.fold p hp; omega
  unfold textR
  omega

/-! ### a settled site -/
/-- The site was built for these wants out of these items. -/
structure KInv (items : List ItemX) (site : List WantX) (sd : SiteD) : Prop where
  same : ∃ sx, SiteSame sx sd
  well : ItemsWell items
  stock : sd.stock = items.map fun x => entryD x false
  good : Good sd.stock sd.needs sd.packs
  needs : sd.needs.Perm (site.map wantN)
theorem KInv.at {items : List ItemX} {site : List WantX} {sd : SiteD} (h : KInv items site sd) {p : PackD} (hp : p ∈ sd.packs) : ∃ x ∈ items, sd.stock.getD p.of zeroD = entryD x false := by
  obtain ⟨sx, hs⟩ := h.same
  have hk : p.of < sd.stock.length := by rw [← hs.st.all.len]; exact hs.tr.of p hp
  have hk' : p.of < items.length := by rw [h.stock, List.length_map] at hk; exact hk
  refine ⟨items[p.of], List.getElem_mem _, ?_⟩
  rw [h.stock, List.getD_eq_getElem?_getD, List.getElem?_map, List.getElem?_eq_getElem hk']
  rfl
theorem entryD_needs (x : ItemX) {n : NeedD} : n ∈ (entryD x false).needs ↔ ∃ y ∈ x.wants, wantN y = n := by
  unfold entryD
  simp only
  rw [(sortedR_perm _).mem_iff]
  simp
theorem pw_head {items : List ItemX} (h : items.Pairwise fun x y => headK x.name x.major x.minor ≠ headK y.name y.major y.minor) {x y : ItemX} (hx : x ∈ items) (hy : y ∈ items) (e : headK x.name x.major x.minor = headK y.name y.major y.minor) : x = y := by
  induction items with
  | nil => simp at hx
  | cons z r ih =>
    have h' := List.pairwise_cons.1 h
    rcases List.mem_cons.1 hx with h1 | h1
    · rcases List.mem_cons.1 hy with h2 | h2
      · rw [h1, h2]
      · exact absurd e (by rw [h1]; exact h'.1 y h2)
    · rcases List.mem_cons.1 hy with h2 | h2
      · exact absurd e.symm (by rw [h2]; exact h'.1 x h1)
      · exact ih h'.2 h1 h2
theorem KInv.item {items : List ItemX} {site : List WantX} {sd : SiteD} (h : KInv items site sd) {p : PackD} (hp : p ∈ sd.packs) : ∃ x ∈ items, sd.stock.getD p.of zeroD = entryD x false ∧ itemAt items (txtD sd.stock p) = some x := by
  obtain ⟨sx, hs⟩ := h.same
  obtain ⟨x, hx, e⟩ := h.at hp
  refine ⟨x, hx, e, ?_⟩
  have hc := piece_cut hs.shown hp
  have h1 : lastK p.path = nameK x.name := by rw [hs.shown.last p hp, e]; rfl
  have h2 : verOf sd.stock p.of = verK x.major x.minor := by
    have : verOf sd.stock p.of = (sd.stock.getD p.of zeroD).v := rfl
    rw [this, e]; rfl
  have hh : headK x.name x.major x.minor = lastK (pieceP (txtD sd.stock p)) ++ [64] ++ pieceV (txtD sd.stock p) := by
    unfold pieceP pieceV
    rw [hc]
    simp only
    rw [h1, h2, verK_text]
    rfl
  unfold itemAt
  rcases ef : items.find? (isHead (lastK (pieceP (txtD sd.stock p))) (pieceV (txtD sd.stock p))) with _ | y
  · have := List.find?_eq_none.1 ef x hx
    exact absurd (decide_eq_true hh) this
  · have hy := List.mem_of_find?_eq_some ef
    have hp' := List.find?_some ef
    have hy2 : headK y.name y.major y.minor = lastK (pieceP (txtD sd.stock p)) ++ [64] ++ pieceV (txtD sd.stock p) := of_decide_eq_true hp'
    rw [pw_head h.well.two hy hx (by rw [hy2, hh])]
theorem fits_prog {r : Tx} {v : V3} (hr : isRangeR r = true) (hv : Valid v) (hvt : versionR (vtx v) = (v, true)) (hf : fitR r v = true) : fitsProg r (vtx v) = (true, 0) := by
  rcases rangeP_law r with ⟨_, e⟩ | ⟨sp, e1, _, e3⟩
  · rw [hr] at e; simp at e
  · have hp : versionP (vtx v) = some (place v) := by
      have := versionP_of (l := vtx v) (by rw [hvt])
      rw [hvt] at this
      exact this
    rw [fitsProg3 e1 hp, ← e3 v hv, hf]
theorem KInv.met {items : List ItemX} {site : List WantX} {sd : SiteD} (h : KInv items site sd) {path : Tx} {x : WantX} (hw : (⟨path, wantN x⟩ : WhoD) ∈ allR sd.stock sd.needs sd.packs) : MetK sd path x ∧ ∃ k, findR sd.packs path (nameK x.name) = some k ∧ foundAt sd.packs path x = (packAt sd.packs k).path := by
  obtain ⟨sx, hs⟩ := h.same
  obtain ⟨k, hk, hf⟩ := metR_some (h.good.met _ hw)
  simp only [wantN] at hk hf
  have hlook : lookR sd.packs path (nameK x.name) = ((packAt sd.packs k).path, 0) := by
    have h1 : (decide (0 < path.length) && (atR sd.packs path).isNone) = false := by
      rcases allR_mem hw with ⟨e, _⟩ | ⟨p, hp, e, _⟩
      · simp only at e; subst e; rfl
      · simp only at e
        subst e
        rcases ea : atR sd.packs p.path with _ | j
        · exact absurd rfl (atR_none.1 ea p hp)
        · simp
    rw [lkd_find h1 (nameK_ok x.name), hk]
  have hmem := (findR_some hk).2.1
  obtain ⟨f, hf', hj⟩ := (findR_some hk).2.2
  have hfo : foundAt sd.packs path x = (packAt sd.packs k).path := by unfold foundAt; rw [hlook]
  obtain ⟨y, hy, ey⟩ := h.at hmem
  have hv : verOf sd.stock (packAt sd.packs k).of = verK y.major y.minor := by
    have : verOf sd.stock (packAt sd.packs k).of = (sd.stock.getD (packAt sd.packs k).of zeroD).v := rfl
    rw [this, ey]; rfl
  refine ⟨⟨by rw [hlook], ?_, ?_, ?_, ?_⟩, k, hk, hfo⟩
  · rw [hfo]
    have := path_short hs.tr hs.fold _ hmem
    have := hs.l40
    omega
  · rw [hfo, hj, lastK_join (name_nosl (nameK_ok x.name)) (name_ne (nameK_ok x.name))]
  · rw [hfo]
    unfold atK
    have hp := pieces_eq hs.shown
    unfold piecesK at hp
    rw [hp, atGoK_at hs.shown _ hmem]
    refine fits_prog (rngK_ok x).1 (hs.st.at (hs.tr.of _ hmem)).val ?_ hf
    rw [hv, verK_text, numberK_ver]
  · rw [hfo]; exact hs.shown.ne _ hmem
theorem KInv.settled {items : List ItemX} {site : List WantX} {sd : SiteD} (h : KInv items site sd) : SettledK sd items site := by
  obtain ⟨sx, hs⟩ := h.same
  have hpe := pieces_eq hs.shown
  have hsite : ∀ x ∈ site, (⟨[], wantN x⟩ : WhoD) ∈ allR sd.stock sd.needs sd.packs := fun x hx => allR_of_site (h.needs.mem_iff.2 (List.mem_map.2 ⟨x, hx, rfl⟩))
  have hpack : ∀ p ∈ sd.packs, ∀ x ∈ itemWants items (txtD sd.stock p), (⟨p.path, wantN x⟩ : WhoD) ∈ allR sd.stock sd.needs sd.packs := fun p hp x hx => by
    obtain ⟨y, hy, ey, ei⟩ := h.item hp
    unfold itemWants at hx
    rw [ei] at hx
    refine allR_of_pack hp ?_
    have : needsOf sd.stock p.of = (sd.stock.getD p.of zeroD).needs := rfl
    rw [this, ey]
    exact (entryD_needs y).2 ⟨x, hx, rfl⟩
  refine ⟨text_size hs, by rw [hpe, List.length_map]; exact hs.l40, fun x hx => (h.met (hsite x hx)).1, fun z hz => ?_, fun z hz x hx => ?_, fun z hz => ?_⟩
  · rw [hpe] at hz
    obtain ⟨p, hp, rfl⟩ := List.mem_map.1 hz
    obtain ⟨y, _, _, ei⟩ := h.item hp
    rw [ei]; rfl
  · rw [hpe] at hz
    obtain ⟨p, hp, rfl⟩ := List.mem_map.1 hz
    have hc : pieceP (txtD sd.stock p) = p.path := by unfold pieceP; rw [piece_cut hs.shown hp]
    rw [hc]
    exact (h.met (hpack p hp x hx)).1
  · rw [hpe] at hz
    obtain ⟨p, hp, rfl⟩ := List.mem_map.1 hz
    have hc : pieceP (txtD sd.stock p) = p.path := by unfold pieceP; rw [piece_cut hs.shown hp]
    rw [hc, hasR_mem]
    obtain ⟨n, hu⟩ := h.good.used p hp
    match n, hu with
    | n + 1, ⟨w, k, hw, _, hk, e⟩ =>
      unfold foundK
      rw [List.mem_append]
      rcases allR_mem hw with ⟨e1, h1⟩ | ⟨q, hq, e1, h1⟩
      · left
        obtain ⟨x, hx, ex⟩ := List.mem_map.1 (h.needs.mem_iff.1 h1)
        refine List.mem_map.2 ⟨x, hx, ?_⟩
        obtain ⟨_, k', hk', hf⟩ := h.met (hsite x hx)
        rw [e1, ← ex] at hk
        simp only [wantN] at hk
        rw [hk] at hk'
        have := Option.some.inj hk'
        subst this
        rw [hf, e]
      · right
        refine List.mem_flatMap.2 ⟨txtD sd.stock q, by rw [hpe]; exact List.mem_map.2 ⟨q, hq, rfl⟩, ?_⟩
        obtain ⟨y, hy, ey, ei⟩ := h.item hq
        have hn : needsOf sd.stock q.of = (sd.stock.getD q.of zeroD).needs := rfl
        rw [hn, ey] at h1
        obtain ⟨x, hx, ex⟩ := (entryD_needs y).1 h1
        have hxw : x ∈ itemWants items (txtD sd.stock q) := by unfold itemWants; rw [ei]; exact hx
        unfold foundOf
        refine List.mem_map.2 ⟨x, hxw, ?_⟩
        have hcq : pieceP (txtD sd.stock q) = q.path := by unfold pieceP; rw [piece_cut hs.shown hq]
        rw [hcq]
        obtain ⟨_, k', hk', hf⟩ := h.met (hpack q hq x hxw)
        rw [e1, ← ex] at hk
        simp only [wantN] at hk
        rw [hk] at hk'
        have := Option.some.inj hk'
        subst this
        rw [hf, e]

/-! ### adding -/
theorem need_is {l : Tx} (h : (needR l).2 = true) : ∃ x : NeedX, NeedOf l x := by
  have h' := h
  rw [← needOk_same] at h'
  unfold needR at h
  simp only [Bool.and_eq_true] at h
  rcases rangeP_law (l.drop (lowLen l)) with ⟨_, e⟩ | ⟨sp, e, _⟩
  · rw [h.2] at e; simp at e
  · exact ⟨⟨l.take (lowLen l), .bool true, sp, l⟩, h', rfl, e, rfl⟩
theorem rest_all {nd : List NeedD} {name : Tx} (h : ∀ n ∈ nd, n.name ≠ name) : restR nd name = nd := by
  unfold restR
  rw [List.filter_eq_self]
  intro n hn
  simp [h n hn]
theorem add_good {sx : SiteX} {sd : SiteD} (h : SiteSame sx sd) {l : Tx} (hl : (needR l).2 = true) (hf : ∀ n ∈ sd.needs, n.name ≠ (needR l).1.name) (h5 : sd.needs.length ≤ 5) :
    (∃ e, addR sd l = (sd, e) ∧ (e = 8 ∨ e = 9)) ∨ ∃ packs, addR sd l = (⟨sd.stock, sortedR (sd.needs ++ [(needR l).1]), packs⟩, 0) ∧ Good sd.stock (sortedR (sd.needs ++ [(needR l).1])) packs ∧ ∃ sx', SiteSame sx' ⟨sd.stock, sortedR (sd.needs ++ [(needR l).1]), packs⟩ := by
  obtain ⟨x, hx⟩ := need_is hl
  have hs := needOf_same hx
  have hrest := rest_all hf
  have h6 : ¬ 6 ≤ (withoutN sx.needs x.name).length := by
    rw [hs.name, (rest_same h.nd _).len, hrest]; omega
  have ha := (add_same h hx h6 (.bool true)).2
  have e : addR sd l = settleR sd (sortedR (sd.needs ++ [(needR l).1])) sd.packs := by
    unfold addR
    rw [if_neg (by rw [hl]; simp), hrest, if_neg (by omega)]
  obtain ⟨w1, w2⟩ := with_same h.nd h.rs hs hf
  have h6' : (sortedR (sd.needs ++ [(needR l).1])).length ≤ 6 := by
    rw [(sortedR_perm _).length_eq]; simp; omega
  rw [e]
  rw [e] at ha
  rcases settle_good h w1 w2 h6' h.tr with ⟨k, h1, h2⟩ | ⟨p, h1, h2⟩
  · exact .inl ⟨k, h1, h2⟩
  · rw [h1] at ha
    exact .inr ⟨p, h1, h2, _, ha⟩
theorem adds_well {items : List ItemX} : ∀ (l site : List WantX) (sd : SiteD), KInv items site sd → (site ++ l).Pairwise (fun a b => nameK a.name ≠ nameK b.name) → (site ++ l).length ≤ 6 → AddsWell items sd site l ∧ KInv items (addsK sd site l).2 (addsK sd site l).1
  | [], site, sd, h, _, _ => ⟨trivial, h⟩
  | x :: r, site, sd, h, hp, h6 => by
    obtain ⟨sx, hs⟩ := h.same
    have hnd := want_need x
    have hlen : sd.needs.length = site.length := by rw [h.needs.length_eq, List.length_map]
    have hfr : ∀ n ∈ sd.needs, n.name ≠ (needR (wantT x)).1.name := fun n hn => by
      obtain ⟨y, hy, rfl⟩ := List.mem_map.1 (h.needs.mem_iff.1 hn)
      rw [hnd]
      exact (List.pairwise_append.1 hp).2.2 y hy x (by simp)
    have h5 : sd.needs.length ≤ 5 := by simp at h6; omega
    rw [AddsWell, addsK]
    rcases add_good hs (by rw [hnd]) hfr h5 with ⟨e, h1, h2⟩ | ⟨p, h1, h2, sx', h3⟩
    · have hne : ¬ e = 0 := by omega
      obtain ⟨g1, g2⟩ := adds_well r site sd h (by
        rw [List.pairwise_append] at hp ⊢
        exact ⟨hp.1, (List.pairwise_cons.1 hp.2.1).2, fun a ha b hb => hp.2.2 a ha b (List.mem_cons_of_mem _ hb)⟩) (by simp at h6 ⊢; omega)
      rw [h1]
      simp only
      rw [if_neg hne]
      exact ⟨⟨fun h0 => absurd h0 hne, fun _ => ⟨trivial, h2, h.settled, g1⟩⟩, g2⟩
    · have hk : KInv items (site ++ [x]) ⟨sd.stock, sortedR (sd.needs ++ [(needR (wantT x)).1]), p⟩ := by
        refine ⟨⟨sx', h3⟩, h.well, h.stock, h2, ?_⟩
        simp only
        refine (sortedR_perm _).trans ?_
        rw [hnd, List.map_append]
        exact h.needs.append_right _
      obtain ⟨g1, g2⟩ := adds_well r (site ++ [x]) _ hk (by simpa using hp) (by simpa using h6)
      rw [h1]
      simp only
      rw [if_pos trivial]
      exact ⟨⟨fun _ => ⟨hk.settled, g1⟩, fun h0 => absurd rfl h0⟩, g2⟩

end Hst
end Go.Proofs.YtecocheolbkneaaDoor
