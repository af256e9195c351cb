/- Twine, Pslimd, Tslim, Dslim, Dslimx, Mslim -/
import Derived.Test.YtecocheolbkneabGreatDoorW27
import Derived.Test.YtecocheolbkneabGreatDoorW31
import Derived.Test.YtecocheolbkneabGreatDoorW29
import Derived.Test.YtecocheolbkneabGreatDoorW23
import Derived.Test.YtecocheolbkneabGreatDoorW24
namespace Go.Proofs.YtecocheolbkneabGreatDoor
open Go.RowKit
namespace Hst
set_option maxRecDepth 100000

theorem opW_2 (w : World) (x d : Nat) (k on : Int) (S T : ByteArray) : (opW w x d k on S T).cell? ⟨w.heap.size + 1, 3, none⟩ = some (.string T) := by simp [go_sem]

set_option maxHeartbeats 4000000 in
theorem done10 (x d : Nat) (on : Int) (S T : ByteArray) (w : World) (h : TwinAt w x d) (hT : T.size ≤ 9223372036854775807) :
    Calls Tryz.prog 8 #[twV x d, opV 10 on S T] w fun e w' => e = .returned (.bool true) ∧ TMv x d w w' ∧ TwinAt w' x d := by
  have hba := opW_below w x d 10 on S T
  have HH := hid' (h.below hba)
  have HB := hid' hba
  obtain ⟨sx, sd, h1, h2, h3⟩ := h
  have HA := hid' (look_any' x sx S T _ (h1.below hba) h3.sok h3.pathx hT)
  have HD := hid' (fun w h => lookD_any d sd S T w h (by have := h3.l40; omega) (fun q hq => by have := (h3.path q hq).2; omega) hT)
  have H2 := hid' (h2.below hba)
  have HC := hid' (opW_1 w x d 10 on S T)
  have HC2 := hid' (opW_2 w x d 10 on S T)
  have HE := hid' (look_same h3 (tx S) (tx T))
  rw [HE.out] at HA
  generalize lookR sd.packs (tx S) (tx T) = lr at *
  clear h1 h2 h3 hba HE
  go_enter Tryz.func8, Tryz.ntmps8
  go_wp2_with fail
  refine HA.out.mono ?_
  rintro e w1 ⟨rfl, hb1⟩
  obtain ⟨q1, q2, q3⟩ := HC.out
  have c1 := ((bcell hb1).1 w.heap.size 1 (by omega)).trans q1
  have c2 := ((bcell hb1).1 (w.heap.size + 1) 2 (by omega)).trans q2
  have c3 := ((bcell hb1).1 (w.heap.size + 1) 3 (by omega)).trans HC2.out
  have hsz : w.heap.size + 2 ≤ w1.heap.size := by have := hb1.size; omega
  have hsa : w.heap.size < w1.heap.size := by omega
  have hsb : w.heap.size + 1 < w1.heap.size := by omega
  have HDA := hid' (H2.out.below hb1)
  have HB1 := hid' hb1
  clear hb1 q1 q2 q3 HC HC2
  go_wp2_with fail
  refine (HD.out _ HDA.out).mono ?_
  rintro e w2 ⟨rfl, hb2⟩
  have HR : Hid (TMv x d w w2 ∧ TwinAt w2 x d) := ⟨⟨_, SMv.of_below HB.out, SMv.of_below (HB1.out.trans (hb2.mono HB1.out.size))⟩, (HH.out.below HB1.out).below hb2⟩
  clear hb2
  obtain ⟨lt, lk⟩ := lr
  simp only
  generalize bs lt = lb at *
  have hbb : (lb.toList == lb.toList) = true := by simp
  go_wp2_with fail
  refine (num_any _ _).mono ?_
  rintro e w3 ⟨rfl, rfl⟩
  go_wp2
  go_ret
  exact ⟨by simp, HR.out⟩

set_option maxHeartbeats 4000000 in
theorem done11 (x d : Nat) (on : Int) (S T : ByteArray) (w : World) (h : TwinAt w x d) :
    Calls Tryz.prog 8 #[twV x d, opV 11 on S T] w fun e w' => e = .returned (.bool true) ∧ TMv x d w w' ∧ TwinAt w' x d := by
  obtain ⟨hx, hd, hxd⟩ := h.lt
  obtain ⟨sx, sd, h1, h2, h3⟩ := h
  have hba := opW_below w x d 11 on S T
  have HA := hid' (load_any' x sx S _ (h1.below hba) h3.sok)
  have HD := hid' (fun w h => loadD_any d sd S w h h3.dok h3.v3)
  have HG := hid' (load_same h3 (tx S))
  have H2 := hid' (h2.below hba)
  have HT := hid' (h1.below hba).tag
  have HTD := hid' (h2.below hba).tag
  have HM := hid' (SMv.of_below (b := x) hba)
  have HC := hid' (opW_1 w x d 11 on S T)
  generalize loadR sd (tx S) = ar at *
  clear h1 h2 h3 hba
  go_enter Tryz.func8, Tryz.ntmps8
  go_wp2_with fail
  refine HA.out.mono ?_
  rintro e w1 ⟨rfl, hm1, hs1⟩
  have hss := HG.out.2
  rw [← HG.out.1]
  obtain ⟨q1, q2, q3⟩ := HC.out
  have c1 := (hm1.but.cell (g := w.heap.size) (o := 1) (by omega) (by omega)).trans q1
  have c2 := (hm1.but.cell (g := w.heap.size + 1) (o := 2) (by omega) (by omega)).trans q2
  have hsz : w.heap.size + 2 ≤ w1.heap.size := by have := hm1.but.size; omega
  have hsa : w.heap.size < w1.heap.size := by omega
  have hsb : w.heap.size + 1 < w1.heap.size := by omega
  have HDA := hid' (H2.out.keep hm1.but (by omega) HT.out (by decide) (by decide) (by decide))
  have HM1 := hid' (HM.out.trans hm1)
  have HS1 := hid' hs1
  have HSS := hid' hss
  have HTD1 : Hid (tagOf w1 d = some 72) := HDA.out.tag
  clear hm1 hs1 hss q1 q2 q3
  go_wp2_with fail
  refine (HD.out _ HDA.out).mono ?_
  rintro e w2 ⟨rfl, hm2, hd2⟩
  have HR : Hid (TMv x d w w2 ∧ TwinAt w2 x d) := ⟨⟨w1, HM1.out, hm2⟩, _, ar.1, HS1.out.other hm2.but hxd (.inr HTD1.out), hd2, HSS.out⟩
  clear hm2 hd2
  go_wp2_with fail
  refine (num_any _ _).mono ?_
  rintro e w3 ⟨rfl, rfl⟩
  go_wp2
  go_ret
  exact ⟨by simp, HR.out⟩

end Hst
end Go.Proofs.YtecocheolbkneabGreatDoor
namespace Go.Proofs.YtecocheolbkneabGreatDoor
namespace Hst

/-- The path begins with the other and a slash. -/
def isUnderP (p x : Tx) : Bool := decide (p.take (x.length + 1) = x ++ [47])
def withoutP (t : List PkX) (x : Tx) : List PkX := t.filter fun p => !decide (p.path = x) && !isUnderP p.path x
def pkPath (t : List PkX) (i : Nat) : Tx := (t.map fun p => p.path).getD i []
def spareGoP (nd : List NeedX) (t : List PkX) : Nat → Option (List PkX)
  | 0 => none
  | i + 1 => if soundP (withoutP t (pkPath t i)) nd = true then some (withoutP t (pkPath t i)) else spareGoP nd t i
def spareP (nd : List NeedX) (t : List PkX) : Option (List PkX) := spareGoP nd t t.length
def slimGoP (nv : Value) (nd : List NeedX) : Nat → List PkX → List PkX
  | 0, t => t
  | f + 1, t => match spareP nd t with
    | none => t
    | some m => slimGoP nv nd f (inUseP m nv nd)
def slimTP (nv : Value) (nd : List NeedX) (t : List PkX) : List PkX := slimGoP nv nd t.length t
def slimP (s : SiteX) : SiteX × Int := (⟨s.stock, s.needs, s.nv, slimTP s.nv s.needs s.tree⟩, (s.tree.length : Int) - ((slimTP s.nv s.needs s.tree).length : Int))

end Hst
end Go.Proofs.YtecocheolbkneabGreatDoor
namespace Go.Proofs.YtecocheolbkneabGreatDoor
namespace Hst
set_option maxRecDepth 100000

/-- The tree without what stands at a path or below it. -/
def withoutR (l : List PackD) (x : Tx) : List PackD := l.filter fun p => !hasR (foldersR p.path) x
/-- The tree without the last package (of the first i) that can be spared. -/
def spareGo (st : List EntryD) (nd : List NeedD) (l : List PackD) : Nat → Option (List PackD)
  | 0 => none
  | i + 1 => if allMetR st (withoutR l (packAt l i).path) (allR st nd (withoutR l (packAt l i).path)) = true then some (withoutR l (packAt l i).path) else spareGo st nd l i
def spareR (st : List EntryD) (nd : List NeedD) (l : List PackD) : Option (List PackD) := spareGo st nd l l.length
def slimGo (st : List EntryD) (nd : List NeedD) : Nat → List PackD → List PackD
  | 0, l => l
  | f + 1, l => match spareR st nd l with
    | none => l
    | some m => slimGo st nd f (prunedR st nd m)
def slimL (st : List EntryD) (nd : List NeedD) (l : List PackD) : List PackD := slimGo st nd l.length l
theorem wtd_yes (l acc : List PackD) (x : Tx) (k : Nat) (hk : k < l.length) (h : hasR (foldersR l[k].path) x = false) : acc ++ withoutR (l.drop k) x = (acc ++ [l[k]]) ++ withoutR (l.drop (k + 1)) x := by
  unfold withoutR; rw [List.drop_eq_getElem_cons hk, List.filter_cons_of_pos (by rw [h]; rfl)]; simp
theorem wtd_no (l acc : List PackD) (x : Tx) (k : Nat) (hk : k < l.length) (h : hasR (foldersR l[k].path) x = true) : acc ++ withoutR (l.drop k) x = acc ++ withoutR (l.drop (k + 1)) x := by
  unfold withoutR; rw [List.drop_eq_getElem_cons hk, List.filter_cons_of_neg (by rw [h]; simp)]
theorem wtd_end (l acc : List PackD) (x : Tx) (k : Nat) (hk : ¬ k < l.length) : acc ++ withoutR (l.drop k) x = acc := by
  rw [List.drop_of_length_le (by omega)]; simp [withoutR]
theorem wtd_mem {l : List PackD} {x : Tx} {p : PackD} (h : p ∈ withoutR l x) : p ∈ l := (List.mem_filter.1 h).1
theorem wtd_len (l : List PackD) (x : Tx) : (withoutR l x).length ≤ l.length := List.length_filter_le _ _
theorem spg_yes {st : List EntryD} {nd : List NeedD} {l : List PackD} {i : Nat} (h : allMetR st (withoutR l (packAt l i).path) (allR st nd (withoutR l (packAt l i).path)) = true) : spareGo st nd l (i + 1) = some (withoutR l (packAt l i).path) := by rw [spareGo, if_pos h]
theorem spg_no {st : List EntryD} {nd : List NeedD} {l : List PackD} {i : Nat} (h : allMetR st (withoutR l (packAt l i).path) (allR st nd (withoutR l (packAt l i).path)) = false) : spareGo st nd l (i + 1) = spareGo st nd l i := by rw [spareGo, if_neg (by rw [h]; simp)]
theorem prg_ok (used : List Tx) : ∀ (l out : List PackD), (prunedGo used out l).length ≤ out.length + l.length ∧ ∀ p ∈ prunedGo used out l, p ∈ out ∨ p ∈ l
  | [], out => ⟨by simp [prunedGo], fun p hp => .inl hp⟩
  | x :: r, out => by
    rw [prunedGo]
    split
    · obtain ⟨h1, h2⟩ := prg_ok used r (placedR out x)
      have h0 : (placedR out x).length = out.length + 1 := by rw [placedR_ins]; exact insX_len _ _ _
      rw [h0] at h1
      refine ⟨by simp; omega, fun p hp => ?_⟩
      rcases h2 p hp with h | h
      · rw [placedR_ins] at h
        rcases (insX_mem _ _ _ _).1 h with rfl | h
        · exact .inr (by simp)
        · exact .inl h
      · exact .inr (List.mem_cons_of_mem _ h)
    · obtain ⟨h1, h2⟩ := prg_ok used r out
      refine ⟨by simp; omega, fun p hp => ?_⟩
      rcases h2 p hp with h | h
      · exact .inl h
      · exact .inr (List.mem_cons_of_mem _ h)
theorem prR_le (st : List EntryD) (nd : List NeedD) (l : List PackD) : (prunedR st nd l).length ≤ l.length := by
  have := (prg_ok (inUseR st nd l) l []).1
  simpa [prunedR] using this
theorem prR_sub {st : List EntryD} {nd : List NeedD} {l : List PackD} {p : PackD} (h : p ∈ prunedR st nd l) : p ∈ l := by
  rcases (prg_ok (inUseR st nd l) l []).2 p h with h | h
  · simp at h
  · exact h
theorem has_self (p : Tx) : hasR (foldersR p) p = true := by
  unfold hasR
  rw [List.any_eq_true]
  by_cases h : p = []
  · subst h; exact ⟨[], by rw [foldersR_nil]; simp, by simp⟩
  · exact ⟨p, by rw [foldersR_cons p h]; simp, by simp⟩
theorem wtd_lt {l : List PackD} {i : Nat} (hi : i < l.length) : (withoutR l (packAt l i).path).length < l.length := by
  have e : packAt l i = l[i] := by unfold packAt; rw [List.getD_eq_getElem?_getD, List.getElem?_eq_getElem hi]; rfl
  have h1 : ¬ (withoutR l (packAt l i).path).length = l.length := fun h => by
    have := List.length_filter_eq_length_iff.1 h l[i] (List.getElem_mem hi)
    rw [e, has_self] at this
    simp at this
  have := wtd_len l (packAt l i).path
  omega
theorem spg_some {st : List EntryD} {nd : List NeedD} {l m : List PackD} : ∀ i, spareGo st nd l i = some m → ∃ j, j < i ∧ m = withoutR l (packAt l j).path
  | 0, h => by simp [spareGo] at h
  | i + 1, h => by
    rw [spareGo] at h
    split at h
    · exact ⟨i, by omega, (Option.some.inj h).symm⟩
    · obtain ⟨j, hj, e⟩ := spg_some i h
      exact ⟨j, by omega, e⟩
theorem spare_lt {st : List EntryD} {nd : List NeedD} {l m : List PackD} (h : spareR st nd l = some m) : m.length < l.length ∧ ∀ p ∈ m, p ∈ l := by
  obtain ⟨j, hj, rfl⟩ := spg_some _ h
  exact ⟨wtd_lt hj, fun p hp => wtd_mem hp⟩
theorem spare_nil (st : List EntryD) (nd : List NeedD) : spareR st nd [] = none := rfl
theorem slg_up {st : List EntryD} {nd : List NeedD} : ∀ (f : Nat) (l : List PackD), l.length ≤ f → slimGo st nd (f + 1) l = slimGo st nd f l
  | 0, l, h => by
    have : l = [] := List.eq_nil_of_length_eq_zero (by omega)
    subst this
    rfl
  | f + 1, l, h => by
    rw [slimGo, slimGo]
    rcases e : spareR st nd l with _ | m
    · rfl
    · simp only
      have h1 := (spare_lt e).1
      have h2 := prR_le st nd m
      exact slg_up f _ (by omega)
theorem slg_to {st : List EntryD} {nd : List NeedD} {l : List PackD} : ∀ (d : Nat), slimGo st nd (l.length + d) l = slimL st nd l
  | 0 => rfl
  | d + 1 => by rw [← Nat.add_assoc, slg_up _ _ (by omega), slg_to d]
theorem slim_none {st : List EntryD} {nd : List NeedD} {l : List PackD} (h : spareR st nd l = none) : slimL st nd l = l := by
  unfold slimL
  rcases e : l.length with _ | n
  · rfl
  · rw [slimGo, h]
theorem slim_some {st : List EntryD} {nd : List NeedD} {l m : List PackD} (h : spareR st nd l = some m) : slimL st nd l = slimL st nd (prunedR st nd m) := by
  have h1 := (spare_lt h).1
  have h2 := prR_le st nd m
  have e : slimL st nd l = slimGo st nd (l.length - 1) (prunedR st nd m) := by
    unfold slimL
    obtain ⟨n, hn⟩ : ∃ n, l.length = n + 1 := ⟨l.length - 1, by omega⟩
    rw [hn, slimGo, h]; rfl
  rw [e, ← slg_to (l.length - 1 - (prunedR st nd m).length)]
  congr 1
  omega
theorem slim_le {st : List EntryD} {nd : List NeedD} : ∀ (n : Nat) (l : List PackD), l.length ≤ n → (slimL st nd l).length ≤ l.length
  | 0, l, h => by
    have : l = [] := List.eq_nil_of_length_eq_zero (by omega)
    subst this
    exact Nat.le_refl _
  | n + 1, l, h => by
    rcases e : spareR st nd l with _ | m
    · rw [slim_none e]; exact Nat.le_refl _
    · have h1 := (spare_lt e).1
      have h2 := prR_le st nd m
      rw [slim_some e]
      have := slim_le (st := st) (nd := nd) n (prunedR st nd m) (by omega)
      omega
/-- What Slim does, by the document. -/
def slimR (s : SiteD) : SiteD × Int := (⟨s.stock, s.needs, slimL s.stock s.needs s.packs⟩, (s.packs.length : Int) - ((slimL s.stock s.needs s.packs).length : Int))
theorem fg_mem (p x : Tx) (hx : x ≠ []) : ∀ i, x ∈ foldersGo p i ↔ ∃ j, j ≤ i ∧ isEnd p j = true ∧ x = p.take j
  | 0 => by
    rw [foldersGo]
    constructor
    · intro h
      split at h
      · simp at h; exact absurd h hx
      · simp at h
    · rintro ⟨j, hj, _, e⟩
      have : j = 0 := by omega
      subst this
      simp at e
      exact absurd e hx
  | i + 1 => by
    rw [foldersGo]
    constructor
    · intro h
      split at h
      · rename_i he
        rcases List.mem_cons.1 h with h | h
        · exact ⟨i + 1, Nat.le_refl _, he, h⟩
        · obtain ⟨j, hj, h1, h2⟩ := (fg_mem p x hx i).1 h
          exact ⟨j, by omega, h1, h2⟩
      · obtain ⟨j, hj, h1, h2⟩ := (fg_mem p x hx i).1 h
        exact ⟨j, by omega, h1, h2⟩
    · rintro ⟨j, hj, h1, h2⟩
      by_cases e : j = i + 1
      · subst e
        rw [if_pos h1, h2]; exact List.mem_cons_self
      · have := (fg_mem p x hx i).2 ⟨j, by omega, h1, h2⟩
        split
        · exact List.mem_cons_of_mem _ this
        · exact this
theorem under_same (p x : Tx) (hx : x ≠ []) : hasR (foldersR p) x = (decide (p = x) || isUnderP p x) := by
  rw [Bool.eq_iff_iff, hasR_mem, Bool.or_eq_true, decide_eq_true_iff]
  unfold isUnderP foldersR
  rw [decide_eq_true_iff, fg_mem p x hx]
  constructor
  · rintro ⟨j, hj, h1, rfl⟩
    by_cases e : j = p.length
    · left; subst e; simp
    · right
      have hlt : j < p.length := by omega
      have hl : (p.take j).length = j := by simp; omega
      have hj0 : j ≠ 0 := fun h => by subst h; simp at hx
      unfold isEnd at h1
      simp [e, hj0] at h1
      rw [hl, List.take_add_one, List.getElem?_eq_getElem hlt]
      rw [List.getElem?_eq_getElem hlt] at h1
      simp at h1
      rw [h1]; rfl
  · rintro (rfl | h)
    · exact ⟨p.length, Nat.le_refl _, by simp [isEnd], by simp⟩
    · have hl := congrArg List.length h
      simp at hl
      have hlt : x.length < p.length := by omega
      refine ⟨x.length, by omega, ?_, ?_⟩
      · have hg : (p.take (x.length + 1))[x.length]? = some 47 := by rw [h]; simp
        rw [List.getElem?_take_of_lt (by omega)] at hg
        unfold isEnd
        simp [hg]
      · have := congrArg (List.take x.length) h
        rw [List.take_take, Nat.min_eq_left (by omega), List.take_left' rfl] at this
        exact this.symm

theorem rises_of {stx : List EntX} {l : List PackD} {t : List PkX} (ht : TreeSame stx l t) (he : t = l.map (toX stx)) : Rises (fun p => p.path) l := by
  have h := ht.rises
  rw [he] at h
  unfold Rises at h ⊢
  rw [List.pairwise_map] at h
  exact h
theorem without_tree {stx : List EntX} {l : List PackD} {t : List PkX} (ht : TreeSame stx l t) (he : t = l.map (toX stx)) (x : Tx) : TreeSame stx (withoutR l x) ((withoutR l x).map (toX stx)) :=
  ht.of_map (List.Pairwise.sublist List.filter_sublist (rises_of ht he)) fun _ hp => wtd_mem hp

end Hst
end Go.Proofs.YtecocheolbkneabGreatDoor
namespace Go.Proofs.YtecocheolbkneabGreatDoor
open Go.RowKit
namespace Hst
set_option maxRecDepth 100000



set_option maxHeartbeats 4000000 in
theorem without_any (v : Value) (l : List PackD) (i : Nat) (w : World) (hl : PacksI w v l) (hi' : i < l.length) (hn : l.length ≤ 1000) (hp : ∀ p ∈ l, p.path.length ≤ 900) :
    Calls Tryz.prog 105 #[v, .int .i64 i] w fun e w' => ∃ v', e = .returned v' ∧ PacksI w' v' (withoutR l (packAt l i).path) ∧ Below w.heap.size w w' := by
  obtain ⟨i0, hi, iz0, iz1, iz2⟩ := info_parts info_packD
  obtain ⟨a, cap, rfl⟩ := RowX.form hl
  have HPK : Hid (packAt l i = l[i]) := by unfold Hid packAt; rw [List.getD_eq_getElem?_getD, List.getElem?_eq_getElem hi']; rfl
  have HL := hid' hl
  have HP := hid' hp
  rw [HPK.out]
  have HIC : Hid (∀ (W : World), Below w.heap.size w W → ∀ g o : Nat, a = some ⟨g, o, none⟩ → W.cell? ⟨g, o + i * 2, none⟩ = some (.string (bs l[i].path))) := fun W hb g o ha => by
    obtain ⟨g', o', cap', hv, _, hc⟩ := (RowX.below hl hb).packs hi'
    simp at hv
    obtain ⟨hv1, rfl⟩ := hv
    rw [hv1] at ha
    simp at ha
    obtain ⟨rfl, rfl⟩ := ha
    exact (hc i hi').1
  have j0 : (0 : Int) ≤ (i : Int) := by omega
  have j1 : (i : Int) < (l.length : Int) := by omega
  generalize l[i].path = x at *
  have HR : Hid (withoutR l x = [] ++ withoutR (l.drop 0) x) := rfl
  generalize withoutR l x = res at *
  clear hl hp HPK hi'
  go_enter Tryz.func105, Tryz.ntmps105
  go_wp2
  go_loopw [5, 6] (fun v i wr => ∃ (k : Nat) (acc : List PackD), k ≤ l.length ∧ acc.length ≤ k ∧ i = .int .i64 k ∧ wr.ownsRow w.heap.size 107 2 v acc.length (acc.flatMap packC) ∧ Below w.heap.size w wr ∧ Hid (res = acc ++ withoutR (l.drop k) x)) (fun _ i _ => l.length - (intOf i).toNat)
  case atStart => exact ⟨0, [], Nat.zero_le _, by simp, rfl, World.ownsRow_nil _ _ _ _, Below.refl _ _, HR⟩
  case round =>
    obtain ⟨k, acc, hk, hacc, rfl, hown, hbel, hall⟩ := hrel
    have hz := hbel.size
    by_cases hlt : k < l.length
    · obtain ⟨g, o, cap', hv, hg, hc⟩ := (RowX.below HL.out hbel).packs hlt
      simp at hv
      obtain ⟨rfl, rfl⟩ := hv
      obtain ⟨c0, c1⟩ := hc k hlt
      have HFO := hid' (folders_any (bs l[k].path) wr (by rw [bs_size]; have := HP.out l[k] (List.getElem_mem hlt); omega))
      rw [tx_bs] at HFO
      have HFL : Hid ((foldersR l[k].path).length ≤ 100000) := by unfold Hid; have h1 := foldersR_len l[k].path; have := HP.out l[k] (List.getElem_mem hlt); omega
      have HYE := hid' (wtd_yes l acc x k hlt)
      have HNO := hid' (wtd_no l acc x k hlt)
      clear hc
      generalize l[k] = y at *
      obtain ⟨yp, yo⟩ := y
      simp only at c0 c1 HFO HYE HNO HFL
      have k0 : (0 : Int) ≤ (k : Int) := by omega
      have k1 : (k : Int) < (l.length : Int) := by omega
      go_wp2_with fail
      refine HFO.out.mono ?_
      rintro e w2 ⟨fv, rfl, hrow, hb2⟩
      obtain ⟨fa, fc, rfl, hst⟩ := RowV hrow
      have HHA := hid' (has_any fa _ fc (foldersR yp) (bs x) w2 hst HFL.out)
      rw [tx_bs] at HHA
      have hz2 := hb2.size
      have hg2 : g < w2.heap.size := by omega
      have d0 := ((bcell hb2).1 g (o + k * 2) hg).trans c0
      have d1 := ((bcell hb2).1 g (o + k * 2 + 1) hg).trans c1
      have di := HIC.out w2 (hbel.trans (hb2.mono hz)) g o rfl
      have hown2 := own_below hown hb2
      have HB2 := hid' hb2
      clear hb2 hrow hst c0 c1
      generalize (foldersR yp).length = fl at *
      rcases hh : hasR (foldersR yp) x with _ | _
      · have HF : Hid (res = (acc ++ [⟨yp, yo⟩]) ++ withoutR (l.drop (k + 1)) x) := by unfold Hid; rw [hall.out]; exact HYE.out hh
        rw [hh] at HHA
        clear hh hall HYE HNO
        go_wp2_with fail
        refine HHA.out.mono ?_
        rintro e w3 ⟨he, hw⟩
        subst he hw
        go_wp2_with (first | (at_builtin; refine wpList_append_lies _ rfl _ _ 70 rfl w.heap.size 107 i0 (.agg #[.string ByteArray.empty, .int .i64 0]) 2 24 Tryz.underlying70 hi iz0 iz1 iz2 rfl (by omega) _ _ _ rfl (hown2.alloc _) ⟨w3.heap.size, 0, none⟩ 1 1 [.string (bs yp), .int .i64 (yo : Nat)] rfl rfl (news_2' _ _ _ _) (packD_one ⟨yp, yo⟩) (by omega) (by unfold maxLen; omega) (by omega) (by simp; omega) (w3.heap.size + 1) (by simp) ?_; intro g1 cap1 w4 hown4 hgrow hat hlt1))
        have R := step_gen2 packC (x := ⟨yp, yo⟩) rfl hown hbel (HB2.out.alloc hz2 _) hown4 hgrow
        clear hown4 hgrow hown hown2
        go_wp2
        go_roundw
        case rel => exact ⟨k + 1, _, by omega, by simp; omega, by go_num, R.1, R.2, HF⟩
        case measure => simp [intOf] <;> omega
      · have HF : Hid (res = acc ++ withoutR (l.drop (k + 1)) x) := by unfold Hid; rw [hall.out]; exact HNO.out hh
        have HBE := hid' (hbel.trans (HB2.out.mono hz))
        rw [hh] at HHA
        clear hh hall HYE HNO
        go_wp2_with fail
        refine HHA.out.mono ?_
        rintro e w3 ⟨he, hw⟩
        subst he hw
        go_wp2
        go_roundw
        case rel => exact ⟨k + 1, acc, by omega, by omega, by go_num, hown2, HBE.out, HF⟩
        case measure => simp [intOf] <;> omega
    · have HF : Hid (res = acc) := by unfold Hid; rw [hall.out, wtd_end l acc x k hlt]
      have HRX := hid' (show RowX packC 2 107 wr _ acc from RowX.of_own hown)
      obtain ⟨oa, oc, rfl⟩ := own_slice hown
      clear hown hall
      go_wp2
      go_ret
      refine ⟨_, rfl, ?_, hbel⟩
      rw [HF.out]; exact HRX.out


/-- What a site must be for Slim. -/
structure SlOk (s : SiteD) : Prop where
  ok : DOk s
  le : s.packs.length ≤ 40
  of : ∀ p ∈ s.packs, p.of < s.stock.length
  path : ∀ p ∈ s.packs, p.path.length ≤ 900

set_option maxHeartbeats 4000000 in
theorem spare_any (b : Nat) (s : SiteD) (w : World) (hs : DAt w b s) (hok : SlOk s) :
    Calls Tryz.prog 68 #[.pointer (some ⟨b, 0, none⟩)] w fun e w' => ∃ a n c, e = .returned (.tuple #[.slice a n c, .bool (spareR s.stock s.needs s.packs).isSome]) ∧ (∀ m, spareR s.stock s.needs s.packs = some m → PacksI w' (.slice a n c) m) ∧ Below w.heap.size w w' := by
  obtain ⟨v2, e2, r2⟩ := hs.packs
  obtain ⟨pa, pc, rfl⟩ := RowX.form r2
  obtain ⟨v1, e1, r1⟩ := hs.needs
  obtain ⟨na, nc, rfl⟩ := RowX.form r1
  have hlt := hs.lt
  have hle := hok.le
  have HS := hid' hs
  have H1 := hid' r1
  have H2 := hid' r2
  have HW := hid' (fun i w h hi => without_any (.slice pa s.packs.length pc) s.packs i w h hi (by omega) hok.path)
  have HA := hid' (fun (m : List PackD) a c w (hm : ∀ p ∈ m, p ∈ s.packs) (hml : m.length ≤ s.packs.length) h1 h2 h3 => all_any b s na s.needs.length nc s.needs a m.length c m w h1 (NeedsI.r h2) (by have := hok.ok.nl; omega) (PacksI.r h3) (by omega) (fun p hp => hok.of p (hm p hp)) (fun e he => by have := (hok.ok.st.2 e he).1; omega))
  have HM := hid' (fun (m : List PackD) a c a' c' w (hm : ∀ p ∈ m, p ∈ s.packs) (hml : m.length ≤ s.packs.length) h1 h2 h3 => allMet_any b s a m.length c m a' (allR s.stock s.needs m).length c' (allR s.stock s.needs m) w h1 (PacksI.r h2) (by omega) h3 (by have := allR_len (nd := s.needs) hok.ok.st (fun p hp => hok.of p (hm p hp)); have := hok.ok.nl; omega) (allR_ok hok.ok.st hok.ok.no (fun p hp => ⟨hok.of p (hm p hp), by have := hok.path p (hm p hp); omega⟩)) (fun p hp => hok.of p (hm p hp)))
  have HR : Hid (spareR s.stock s.needs s.packs = spareGo s.stock s.needs s.packs s.packs.length) := rfl
  generalize spareR s.stock s.needs s.packs = res at *
  clear hs r1 r2 hok
  go_enter Tryz.func68, Tryz.ntmps68
  go_wp2
  go_loopw [4] (fun i wr => ∃ j : Nat, j ≤ s.packs.length ∧ i = .int .i64 ((j : Int) - 1) ∧ Below w.heap.size w wr ∧ Hid (res = spareGo s.stock s.needs s.packs j)) (fun i _ => (intOf i + 1).toNat)
  case atStart => exact ⟨s.packs.length, Nat.le_refl _, by go_num, Below.refl _ _, HR⟩
  case round =>
    obtain ⟨j, hj, rfl, hbel, hall⟩ := hrel
    have hz := hbel.size
    cases j with
    | zero =>
      have HF : Hid (res = none) := hall.out
      go_wp2
      go_ret2
      exact ⟨none, 0, 0, by rw [HF.out]; rfl, fun m hm => by rw [HF.out] at hm; simp at hm, hbel⟩
    | succ j =>
      have hbw : b < wr.heap.size := by omega
      have c1 := ((bcell hbel).1 b 1 hlt).trans e1
      have c2 := ((bcell hbel).1 b 2 hlt).trans e2
      have HWI := hid' (HW.out j wr (RowX.below H2.out hbel) (by omega))
      have HML : Hid ((∀ p ∈ withoutR s.packs (packAt s.packs j).path, p ∈ s.packs) ∧ (withoutR s.packs (packAt s.packs j).path).length ≤ s.packs.length) := ⟨fun p hp => wtd_mem hp, wtd_len _ _⟩
      have HYE := hid' (spg_yes (st := s.stock) (nd := s.needs) (l := s.packs) (i := j))
      have HNO := hid' (spg_no (st := s.stock) (nd := s.needs) (l := s.packs) (i := j))
      generalize withoutR s.packs (packAt s.packs j).path = m at *
      have ej : (((j + 1 : Nat) : Int) - 1) = (j : Int) := by omega
      rw [ej]
      have j0 : (0 : Int) ≤ (j : Int) := by omega
      go_wp2_with fail
      refine HWI.out.mono ?_
      rintro e w2 ⟨mv, rfl, hm, hb2⟩
      obtain ⟨ma, mc, rfl⟩ := RowX.form hm
      have HB2 := hid' (hbel.trans (hb2.mono hz))
      have hz2 := HB2.out.size
      have d1 := ((bcell hb2).1 b 1 hbw).trans c1
      have hb2w : b < w2.heap.size := by omega
      have HI2 := hid' hm
      have HAL := hid' (HA.out m ma mc w2 HML.out.1 HML.out.2 (HS.out.below HB2.out).site (RowX.below H1.out HB2.out) hm)
      clear hm hb2 c1 c2
      go_wp2_with fail
      refine HAL.out.mono ?_
      rintro e w3 ⟨wv, rfl, hown3, hb3⟩
      obtain ⟨wa, wc, rfl⟩ := own_slice hown3
      have HB3 := hid' (HB2.out.trans (hb3.mono hz2))
      have hz3 := HB3.out.size
      have HI3 := hid' (RowX.below HI2.out hb3)
      have HAM := hid' (HM.out m ma mc wa wc w3 HML.out.1 HML.out.2 (HS.out.below HB3.out).site HI3.out ⟨rfl, RowR.of_own hown3⟩)
      clear hown3 hb3
      generalize (allR s.stock s.needs m).length = al at *
      rcases hmet : allMetR s.stock m (allR s.stock s.needs m) with _ | _
      · have HF : Hid (res = spareGo s.stock s.needs s.packs j) := by unfold Hid; rw [hall.out]; exact HNO.out hmet
        rw [hmet] at HAM
        clear hmet hall HYE HNO
        go_wp2_with fail
        refine HAM.out.mono ?_
        rintro e w4 ⟨rfl, hb4⟩
        have HB4 := hid' (HB3.out.trans (hb4.mono hz3))
        clear hb4
        go_wp2
        go_roundw
        case rel => exact ⟨j, by omega, by go_num, HB4.out, HF⟩
        case measure => simp [intOf] <;> omega
      · have HF : Hid (res = some m) := by unfold Hid; rw [hall.out]; exact HYE.out hmet
        rw [hmet] at HAM
        clear hmet hall HYE HNO
        go_wp2_with fail
        refine HAM.out.mono ?_
        rintro e w4 ⟨rfl, hb4⟩
        have HB4 := hid' (HB3.out.trans (hb4.mono hz3))
        have HI4 := hid' (RowX.below HI3.out hb4)
        clear hb4
        go_wp2
        go_ret2
        exact ⟨ma, m.length, mc, by rw [HF.out]; rfl, fun m' hm' => by rw [HF.out] at hm'; rw [← Option.some.inj hm']; exact HI4.out, HB4.out⟩

end Hst
end Go.Proofs.YtecocheolbkneabGreatDoor
namespace Go.Proofs.YtecocheolbkneabGreatDoor
open Go.RowKit
namespace Hst
set_option maxRecDepth 100000

theorem SlOk.next {s : SiteD} {m : List PackD} (h : SlOk s) (hl : m.length ≤ s.packs.length) (hm : ∀ p ∈ m, p ∈ s.packs) : SlOk ⟨s.stock, s.needs, m⟩ :=
  ⟨⟨h.ok.st, h.ok.nl, h.ok.no, by have := h.le; simp only; omega⟩, by have := h.le; simp only; omega, fun p hp => h.of p (hm p hp), fun p hp => h.path p (hm p hp)⟩
/-- How long the tree of the site at a block is. -/
def lenAt (w : World) (b : Nat) : Nat := match w.cell? ⟨b, 2, none⟩ with
  | some v => lenOf v
  | none => 0
theorem lenAt_of {w : World} {b n c : Nat} {a : Option Addr} (h : w.cell? ⟨b, 2, none⟩ = some (.slice a n c)) : lenAt w b = n := by unfold lenAt; rw [h]; rfl
theorem DAt.len {w : World} {b : Nat} {s : SiteD} (h : DAt w b s) : lenAt w b = s.packs.length := by
  obtain ⟨v, e, r⟩ := h.packs
  obtain ⟨a, c, rfl⟩ := RowX.form r
  exact lenAt_of e

set_option maxHeartbeats 4000000 in
theorem slimD_any (b : Nat) (s : SiteD) (w : World) (hs : DAt w b s) (hok : SlOk s) :
    Calls Tryz.prog 28 #[.pointer (some ⟨b, 0, none⟩)] w fun e w' => e = .returned (.int .i64 (slimR s).2) ∧ SMv b w w' ∧ DAt w' b (slimR s).1 := by
  obtain ⟨v2, e2, r2⟩ := hs.packs
  obtain ⟨pa, pc, rfl⟩ := RowX.form r2
  have hlt := hs.lt
  have hle := hok.le
  have HS := hid' hs
  have HO := hid' hok
  have HR : Hid (slimR s = (⟨s.stock, s.needs, slimL s.stock s.needs s.packs⟩, (s.packs.length : Int) - ((slimL s.stock s.needs s.packs).length : Int))) := rfl
  generalize slimR s = sr at *
  generalize hres : slimL s.stock s.needs s.packs = res at *
  have HRS := hid' hres
  clear hs r2 hok hres
  go_enter Tryz.func28, Tryz.ntmps28
  go_wp2
  go_loopw [4] (fun v4 wr => ∃ (cur : List PackD) (more : Bool), v4 = .bool more ∧ cur.length ≤ s.packs.length ∧ Hid (SMv b w wr ∧ DAt wr b ⟨s.stock, s.needs, cur⟩ ∧ SlOk ⟨s.stock, s.needs, cur⟩ ∧ (more = true → res = slimL s.stock s.needs cur) ∧ (more = false → res = cur))) (fun v4 wr => if flagOf v4 = true then lenAt wr b + 1 else 0)
  case atStart => exact ⟨s.packs, true, rfl, Nat.le_refl _, ⟨SMv.of_below (Below.refl _ _), HS.out, HO.out, fun _ => HRS.out.symm, fun h => absurd h (by simp)⟩⟩
  case round =>
    obtain ⟨cur, more, rfl, hcl, hall⟩ := hrel
    have HMV := hid' hall.out.1
    have HD := hid' hall.out.2.1
    have HK := hid' hall.out.2.2.1
    have HLN := hid' (DAt.len HD.out)
    obtain ⟨v2', t2, q2⟩ := HD.out.packs
    obtain ⟨qa, qc, rfl⟩ := RowX.form q2
    have hlw := HD.out.lt
    clear q2
    simp only at t2
    cases more
    · have HF := hid' (hall.out.2.2.2.2 rfl)
      have HN : Hid (cur.length = res.length) := by unfold Hid; rw [HF.out]
      clear hall
      go_wp2
      go_ret
      refine ⟨ret_int (by rw [HR.out]; simp only; rw [← HN.out]), HMV.out, ?_⟩
      rw [HR.out, HF.out]; exact HD.out
    · have HF := hid' (hall.out.2.2.2.1 rfl)
      have HSP := hid' (spare_any b ⟨s.stock, s.needs, cur⟩ wr HD.out HK.out)
      simp only at HSP
      clear hall
      rcases hsp : spareR s.stock s.needs cur with _ | m
      · have HG : Hid (res = cur) := by unfold Hid; rw [HF.out, slim_none hsp]
        rw [hsp] at HSP
        clear hsp
        simp only [Option.isSome_none] at HSP
        go_wp2_with fail
        refine HSP.out.mono ?_
        rintro e w1 ⟨ra, rn, rc, rfl, -, hb1⟩
        have HD1 := hid' (HD.out.below hb1)
        have HM1 := hid' (HMV.out.trans (SMv.of_below hb1))
        clear hb1
        go_wp2
        go_roundw
        case rel => exact ⟨cur, false, rfl, hcl, ⟨HM1.out, HD1.out, HK.out, fun h => absurd h (by simp), fun _ => HG.out⟩⟩
        case measure => simp [flagOf]
      · have HG : Hid (res = slimL s.stock s.needs (prunedR s.stock s.needs m)) := by unfold Hid; rw [HF.out, slim_some hsp]
        have HL1 : Hid ((prunedR s.stock s.needs m).length < cur.length) := by unfold Hid; have := (spare_lt hsp).1; have := prR_le s.stock s.needs m; omega
        have HKM : Hid (SlOk ⟨s.stock, s.needs, m⟩) := HK.out.next (Nat.le_of_lt (spare_lt hsp).1) (spare_lt hsp).2
        have HKN : Hid (SlOk ⟨s.stock, s.needs, prunedR s.stock s.needs m⟩) := HKM.out.next (prR_le _ _ _) (fun p hp => prR_sub hp)
        rw [hsp] at HSP
        clear hsp
        simp only [Option.isSome_some] at HSP
        go_wp2_with fail
        refine HSP.out.mono ?_
        rintro e w1 ⟨ra, rn, rc, rfl, hin, hb1⟩
        have hm1 := hin m rfl
        have hrn : rn = m.length := by obtain ⟨_, _, e⟩ := RowX.form hm1; simp at e; exact e.2.1
        subst hrn
        have HD1 := hid' (HD.out.below hb1)
        have HM1 := hid' (HMV.out.trans (SMv.of_below hb1))
        obtain ⟨v1, u1, n1⟩ := HD1.out.needs
        obtain ⟨na, nc, rfl⟩ := RowX.form n1
        have hlt1 := HD1.out.lt
        have HPR := hid' (prunedD_any b ⟨s.stock, s.needs, cur⟩ (.slice na s.needs.length nc) s.needs (.slice ra m.length rc) m w1 HD1.out n1 hm1 (by have := HK.out.ok.nl; simp only at this; omega) (by have := HKM.out.le; simp only at this; omega) HKM.out.of (fun e he => by have := (HK.out.ok.st.2 e he).1; omega) (allR_ok HKM.out.ok.st HKM.out.ok.no (fun p hp => ⟨HKM.out.of p hp, by have := HKM.out.path p hp; omega⟩)) (by have := allR_len (nd := s.needs) HKM.out.ok.st HKM.out.of; have := HKM.out.le; have := HK.out.ok.nl; simp only at *; omega))
        clear hb1 hin hm1 n1
        simp only at u1 HPR
        generalize prunedR s.stock s.needs m = pm at *
        go_wp2_with fail
        refine HPR.out.mono ?_
        rintro e w2 ⟨pv, rfl, hp2, hb2⟩
        obtain ⟨xa, xc, rfl⟩ := RowX.form hp2
        have HD2 := hid' (HD1.out.below hb2)
        have HM2 := hid' (HM1.out.trans (SMv.of_below hb2))
        have HDS := hid' (HD2.out.setP hp2)
        have f2 := HD2.out.f2
        have hlt2 := HD2.out.lt
        obtain ⟨z2, y2, -⟩ := HD2.out.packs
        have HM3 := hid' (HM2.out.trans (SMv.set w2 b 2 (.slice xa pm.length xc)))
        have HLM : Hid (lenAt (w2.setCell ⟨b, 2, none⟩ (.slice xa pm.length xc)) b = pm.length) := DAt.len HDS.out
        clear hb2 hp2
        go_wp2
        go_roundw
        case rel => exact ⟨pm, true, rfl, by have := HL1.out; omega, ⟨HM3.out, HDS.out, HKN.out, fun _ => HG.out, fun h => absurd h (by simp)⟩⟩
        case measure => have h1 := HL1.out; have h2 := HLM.out; have h3 := HLN.out; simp [flagOf, h2, h3] <;> omega

end Hst
end Go.Proofs.YtecocheolbkneabGreatDoor
namespace Go.Proofs.YtecocheolbkneabGreatDoor
namespace Hst

theorem without_same {stx : List EntX} {l : List PackD} {x : Tx} (hx : x ≠ []) : withoutP (l.map (toX stx)) x = (withoutR l x).map (toX stx) := by
  unfold withoutP withoutR
  rw [List.filter_map]
  congr 1
  apply List.filter_congr
  intro p _
  simp only [Function.comp]
  rw [under_same p.path x hx, Bool.not_or]
  rfl
theorem pkPath_same {stx : List EntX} {l : List PackD} {i : Nat} : pkPath (l.map (toX stx)) i = (packAt l i).path := by
  unfold pkPath packAt
  rw [List.map_map]
  simp only [List.getD_eq_getElem?_getD, List.getElem?_map]
  cases l[i]? <;> rfl
theorem spareGo_same {stx : List EntX} {st : List EntryD} {ndx : List NeedX} {nd : List NeedD} {l : List PackD} {t : List PkX} (hs : StockSame stx st) (ht : TreeSame stx l t) (he : t = l.map (toX stx)) (hn : All2 NeedSame ndx nd) : ∀ i, i ≤ l.length → spareGoP ndx t i = (spareGo st nd l i).map fun m => m.map (toX stx)
  | 0, _ => rfl
  | i + 1, hi => by
    have hx : (packAt l i).path ≠ [] := by
      refine tree_ne' ht (p := packAt l i) ?_
      unfold packAt
      rw [List.getD_eq_getElem?_getD, List.getElem?_eq_getElem (by omega)]
      exact List.getElem_mem _
    have hp : pkPath t i = (packAt l i).path := by rw [he]; exact pkPath_same
    have hw : withoutP t (packAt l i).path = (withoutR l (packAt l i).path).map (toX stx) := by rw [he]; exact without_same hx
    have hso := sound_same hs (without_tree ht he (packAt l i).path) rfl hn
    rw [spareGoP, spareGo, hp, hw, hso, spareGo_same hs ht he hn i (by omega)]
    split <;> rfl
theorem slimGo_same {stx : List EntX} {st : List EntryD} {ndx : List NeedX} {nd : List NeedD} (hs : StockSame stx st) (hn : SiteNeeds ndx nd) (hn2 : All2 NeedSame ndx nd) (v : Value) : ∀ (f : Nat) (l : List PackD) (t : List PkX), TreeSame stx l t → t = l.map (toX stx) → Folded l → slimGoP v ndx f t = (slimGo st nd f l).map (toX stx) ∧ TreeSame stx (slimGo st nd f l) (slimGoP v ndx f t) ∧ Folded (slimGo st nd f l)
  | 0, l, t, ht, he, hf => ⟨he, ht, hf⟩
  | f + 1, l, t, ht, he, hf => by
    have hl : t.length = l.length := ht.len
    have hsp : spareP ndx t = (spareR st nd l).map fun m => m.map (toX stx) := by
      unfold spareP spareR
      rw [hl]
      exact spareGo_same hs ht he hn2 l.length (Nat.le_refl _)
    rw [slimGoP, slimGo, hsp]
    rcases e : spareR st nd l with _ | m
    · exact ⟨he, ht, hf⟩
    · simp only [Option.map_some]
      obtain ⟨j, hj, rfl⟩ := spg_some _ e
      have hw := without_tree ht he (packAt l j).path
      obtain ⟨h1, h2⟩ := inUse_same hs hn hw v
      exact slimGo_same hs hn hn2 v f _ _ h2 h1 (pruned_folded hs hn hw)
theorem slim_same {sx : SiteX} {sd : SiteD} (h : SiteSame sx sd) : (slimR sd).2 = (slimP sx).2 ∧ SiteSame (slimP sx).1 (slimR sd).1 := by
  have hl := h.tr.len
  obtain ⟨h1, h2, h3⟩ := slimGo_same h.st (siteNeeds_of h.nd h.rs) h.nd sx.nv sd.packs.length sd.packs sx.tree h.tr h.eq h.fold
  have e : slimTP sx.nv sx.needs sx.tree = (slimL sd.stock sd.needs sd.packs).map (toX sx.stock) := by
    unfold slimTP slimL
    rw [hl]; exact h1
  have ht : TreeSame sx.stock (slimL sd.stock sd.needs sd.packs) (slimTP sx.nv sx.needs sx.tree) := by
    unfold slimTP slimL
    rw [hl]; exact h2
  refine ⟨?_, ⟨h.st, h.h6, h.s40, h.nd, h.rs, h.n6, ht, e, ?_, h3⟩⟩
  · unfold slimR slimP
    simp only
    rw [e, List.length_map, hl]
  · have := slim_le (st := sd.stock) (nd := sd.needs) _ sd.packs (Nat.le_refl _)
    have := h.l40
    simp only [slimR]
    omega

end Hst
end Go.Proofs.YtecocheolbkneabGreatDoor
