/- Mpaths, Mread, Rfit, Sitea -/
import Derived.Test.YtecocheolbkneaaGreatDoorW23
import Derived.Test.YtecocheolbkneaaGreatDoorW24
import Derived.Test.YtecocheolbkneaaGreatDoorW09
import Derived.Test.YtecocheolbkneaaGreatDoorW11
import Derived.Deep.DrawnRows
import Derived.Test.YtecocheolbkneaaGreatDoorW14
namespace Go.Proofs.YtecocheolbkneaaGreatDoor
namespace Hst

/-- A path's last '/'. -/
theorem path_cases (p : Tx) : ∀ i, i ≤ p.length → (∀ j, i ≤ j → j < p.length → p.getD j 0 ≠ 47) → ((∀ j, j < p.length → p.getD j 0 ≠ 47) ∧ folderGo p i = [] ∧ nameGo p i = p) ∨ ∃ f n, p = f ++ [47] ++ n ∧ NoSl n ∧ folderGo p i = f ∧ nameGo p i = n
  | 0, _, h => .inl ⟨fun j hj => h j (Nat.zero_le _) hj, rfl, rfl⟩
  | i + 1, hi, h => by
    rw [folderGo, nameGo]
    by_cases h47 : p.getD i 0 = 47
    · rw [if_pos h47, if_pos h47]
      right
      have hlt : i < p.length := by omega
      have hg : p[i] = 47 := by rw [List.getD_eq_getElem?_getD, List.getElem?_eq_getElem hlt] at h47; exact h47
      refine ⟨p.take i, p.drop (i + 1), ?_, fun b hb => ?_, rfl, rfl⟩
      · rw [← hg, ← List.take_succ_eq_append_getElem hlt, List.take_append_drop]
      · obtain ⟨j, hj, e⟩ := List.mem_iff_getElem.1 hb
        rw [List.getElem_drop] at e
        simp at hj
        have := h (i + 1 + j) (by omega) (by omega)
        rw [List.getD_eq_getElem?_getD, List.getElem?_eq_getElem (by omega)] at this
        rw [← e]
        exact this
    · rw [if_neg h47, if_neg h47]
      refine path_cases p i (by omega) fun j hj hl => ?_
      by_cases e : j = i
      · subst e; exact h47
      · exact h j (by omega) hl
theorem path_two (p : Tx) : (NoSl p ∧ folderP p = [] ∧ nameP p = p) ∨ ∃ f n, p = f ++ [47] ++ n ∧ NoSl n ∧ folderP p = f ∧ nameP p = n := by
  rcases path_cases p p.length (Nat.le_refl _) (fun j h1 h2 => by omega) with ⟨h1, h2, h3⟩ | h
  · refine .inl ⟨fun b hb e => ?_, h2, h3⟩
    obtain ⟨j, hj, e2⟩ := List.mem_iff_getElem.1 hb
    have := h1 j hj
    rw [List.getD_eq_getElem?_getD, List.getElem?_eq_getElem hj] at this
    exact this (by rw [← e, ← e2]; rfl)
  · exact .inr h
theorem isPath_one {p : Tx} (h : NoSl p) : isPathP p = isNameR p := by
  unfold isPathP
  rw [splitL_one 47 p fun x hx e => h x hx (u8_same (s := 47) (by simpa using e))]
  simp
theorem isPath_two {f n : Tx} (h : NoSl n) : isPathP (f ++ [47] ++ n) = (isPathP f && isNameR n) := by
  unfold isPathP
  have h47 : ((47 : UInt8).toNat : Int) = 47 := rfl
  rw [← h47, splitL_mid, h47, splitL_one 47 n fun x hx e => h x hx (u8_same (s := 47) (by simpa using e)), List.all_append]
  simp
/-- A path of names: its last name, and its folder. -/
theorem path_last {p : Tx} (h : isPathP p = true) : p ≠ [] ∧ isNameR (nameP p) = true ∧ p = joinR (folderP p) (nameP p) ∧ lastR p = (nameP p, folderP p) := by
  rcases path_two p with ⟨h1, h2, h3⟩ | ⟨f, n, e, h1, h2, h3⟩
  · rw [isPath_one h1] at h
    have h0 := name_ne h
    refine ⟨h0, by rw [h3]; exact h, ?_, ?_⟩
    · rw [h2, h3]; unfold joinR; rw [if_pos rfl]
    · rw [last_out h0 h2, h2, h3]
  · have h' := h
    rw [e, isPath_two h1, Bool.and_eq_true] at h'
    have h0 : p ≠ [] := by rw [e]; simp
    have hf : f ≠ [] := by
      rintro rfl
      have := h'.1
      unfold isPathP at this
      simp [splitL, isNameR] at this
    refine ⟨h0, by rw [h3]; exact h'.2, ?_, ?_⟩
    · rw [h2, h3]; unfold joinR; rw [if_neg hf]; exact e
    · rw [last_in h0 (by rw [h2]; exact hf), h2, h3]
      congr 1
      rw [e]
      simp
/-- A path whose last name is a name, in a folder that is a path. -/
theorem last_path {p : Tx} (hn : isNameR (lastR p).1 = true) (hf : (lastR p).2 = [] ∨ isPathP (lastR p).2 = true) : isPathP p = true := by
  by_cases h0 : p = []
  · rw [h0, last_nil] at hn; simp [isNameR] at hn
  · by_cases hfo : folderP p = []
    · rw [last_out h0 hfo] at hn
      rw [isPath_one (name_nosl hn)]; exact hn
    · rw [last_in h0 hfo] at hn hf
      simp only at hn hf
      rcases path_two p with ⟨h1, h2, h3⟩ | ⟨f, n, e, h1, h2, h3⟩
      · exact absurd h2 hfo
      · rw [h2] at hn hf hfo
        have en : p.drop (f.length + 1) = n := by rw [e]; simp
        rw [en] at hn
        rw [e, isPath_two h1, hn]
        rcases hf with hf | hf
        · exact absurd hf hfo
        · rw [hf]; rfl

end Hst
end Go.Proofs.YtecocheolbkneaaGreatDoor
namespace Go.Proofs.YtecocheolbkneaaGreatDoor
namespace Hst


/-! ### entries by name and version -/
theorem v3_of_eq3 {v w : V3} (h : eq3 v w = true) : v = w := by
  unfold eq3 at h
  simp only [Bool.and_eq_true, decide_eq_true_eq] at h
  obtain ⟨a, b, c⟩ := v
  obtain ⟨a', b', c'⟩ := w
  simp only at h
  rw [h.1.1, h.1.2, h.2]
theorem entry_find {name : Tx} {v : V3} (hv : Valid v) : ∀ {xs : List EntX} {ds : List EntryD} (i : Nat), All2 EntSame xs ds →
    (∃ k, entryOfGo name v i ds = some (i + k) ∧ k < xs.length ∧ findE xs name (place v) = some (xs.getD k zeroE) ∧ (ds.getD k zeroD).name = name ∧ (ds.getD k zeroD).v = v) ∨ (entryOfGo name v i ds = none ∧ findE xs name (place v) = none)
  | [], [], i, _ => .inr ⟨rfl, rfl⟩
  | e :: xs, d :: ds, i, h => by
    have hc : (decide (e.name = name) && decide (e.ver = place v)) = (decide (d.name = name) && eq3 d.v v) := by
      rw [h.1.name, h.1.ver, eq3_place h.1.val hv]
    rw [entryOfGo]
    unfold findE
    rw [List.find?_cons, hc]
    by_cases hb : (decide (d.name = name) && eq3 d.v v) = true
    · rw [if_pos hb, hb]
      rw [Bool.and_eq_true] at hb
      exact .inl ⟨0, rfl, by simp, rfl, of_decide_eq_true hb.1, v3_of_eq3 hb.2⟩
    · rw [if_neg hb]
      have hb' : (decide (d.name = name) && eq3 d.v v) = false := by simpa using hb
      rw [hb']
      rcases entry_find (name := name) hv (i + 1) h.2 with ⟨k, h1, h2, h3, h4, h5⟩ | ⟨h1, h2⟩
      · exact .inl ⟨k + 1, by rw [h1]; congr 1; omega, by simpa using h2, h3, h4, h5⟩
      · exact .inr ⟨h1, h2⟩
  | [], _ :: _, _, h => False.elim h
  | _ :: _, [], _, h => False.elim h
theorem entry_same {stx : List EntX} {st : List EntryD} (hs : StockSame stx st) {name : Tx} {v : V3} (hv : Valid v) :
    (∃ k, entryOfR st name v = some k ∧ k < stx.length ∧ findE stx name (place v) = some (stx.getD k zeroE) ∧ (stx.getD k zeroE).name = name ∧ verOf st k = v) ∨ (entryOfR st name v = none ∧ findE stx name (place v) = none) := by
  rcases entry_find (name := name) hv 0 hs.all with ⟨k, h1, h2, h3, h4, h5⟩ | h
  · rw [Nat.zero_add] at h1
    exact .inl ⟨k, h1, h2, h3, by rw [(hs.at h2).name]; exact h4, h5⟩
  · exact .inr h
theorem insX_end {α : Type} (key : α → Tx) (x : α) : ∀ l : List α, (∀ y ∈ l, less (key y) (key x) = true) → insG key x false l = l ++ [x]
  | [], _ => rfl
  | y :: r, h => by
    rw [insG, if_neg fun hc => by rw [less_asymm (h y (by simp))] at hc; exact absurd hc.2 (by simp), insX_end key x r fun z hz => h z (List.mem_cons_of_mem _ hz)]
    rfl
theorem less_nil {p : Tx} (h : p ≠ []) : less [] p = true := by
  rcases p with _ | ⟨b, r⟩
  · exact absurd rfl h
  · rfl
theorem less_longer : ∀ (a b : Tx), b ≠ [] → less a (a ++ b) = true
  | [], b, h => less_nil h
  | x :: a, b, h => by
    have := less_longer a b h
    unfold less at this ⊢
    simp [Op.bytesLess, this]
theorem lastR_snd (p : Tx) : (lastR p).2 = folderP p := by
  by_cases h : p = []
  · rw [h, last_nil]; rfl
  · by_cases hf : folderP p = []
    · rw [last_out h hf, hf]
    · rw [last_in h hf]

/-! ### what the program reads, the document reads -/
theorem go_read {stx : List EntX} {st : List EntryD} (hs : StockSame stx st) : ∀ (d : List Tx) (l0 : List PackD) (last : Tx) (tr : List PkX), packsGo stx (l0.map (toX stx)) last d = some tr → TreeSame stx l0 (l0.map (toX stx)) → Rises (fun p => p.path) l0 → Folded l0 → (∀ p ∈ l0, p.path = last ∨ less p.path last = true) →
    tr = (readGo st l0 d).map (toX stx) ∧ TreeSame stx (readGo st l0 d) tr ∧ Rises (fun p => p.path) (readGo st l0 d) ∧ Folded (readGo st l0 d) ∧ (readGo st l0 d).map (txtD st) = l0.map (txtD st) ++ d
  | [], l0, last, tr, h, ht, hr, hf, _ => by
    rw [packsGo] at h
    have h := Option.some.inj h
    subst h
    rw [readGo]
    exact ⟨rfl, ht, hr, hf, by simp⟩
  | x :: r, l0, last, tr, h, ht, hr, hf, hlast => by
    rw [packsGo] at h
    rcases ep : packP stx x with _ | y
    · rw [ep] at h; exact absurd h (by simp)
    rw [ep] at h
    simp only at h
    by_cases hls : less last y.path = false
    · rw [if_pos hls] at h; exact absurd h (by simp)
    rw [if_neg hls] at h
    by_cases hfo : hasFolderP (l0.map (toX stx)) y.path = false
    · rw [if_pos hfo] at h; exact absurd h (by simp)
    rw [if_neg hfo] at h
    have hls : less last y.path = true := by simpa using hls
    have hfo : hasFolderP (l0.map (toX stx)) y.path = true := by simpa using hfo
    -- the piece
    unfold packP at ep
    rcases hcut : cutR 64 x with ⟨hd, vr, b⟩
    rw [hcut] at ep
    simp only at ep
    by_cases hc : (b && isPathP hd) = false
    · rw [if_pos hc] at ep; exact absurd ep (by simp)
    rw [if_neg hc] at ep
    have hc : (b && isPathP hd) = true := by simpa using hc
    rw [Bool.and_eq_true] at hc
    obtain ⟨rfl, hpath⟩ := hc
    rcases hv : versionP vr with _ | n
    · rw [hv] at ep; exact absurd ep (by simp)
    rw [hv] at ep
    simp only at ep
    obtain ⟨hv1, rfl⟩ := versionP_some hv
    have hval := versionR_valid vr hv1
    obtain ⟨hne, hnm, hjoin, hlst⟩ := path_last hpath
    rcases entry_same hs (name := nameP hd) hval with ⟨k, e1, hk, e2, e3, e4⟩ | ⟨_, e2⟩
    · rw [e2] at ep
      have ep := Option.some.inj ep
      subst ep
      simp only at hls hfo h
      have hlo : ∀ p ∈ l0, less p.path hd = true := fun p hp => by
        rcases hlast p hp with e | e
        · rw [e]; exact hls
        · exact less_trans _ _ _ e hls
      have hread : readGo st l0 (x :: r) = readGo st (l0 ++ [⟨hd, k⟩]) r := by
        rw [readGo, hcut]
        simp only
        rw [if_pos hv1, hlst]
        simp only
        rw [e1]
        simp only
        rw [placedR_ins, insX_end _ _ _ hlo]
      have hwith : withP (l0.map (toX stx)) ⟨hd, stx.getD k zeroE⟩ = (l0 ++ [(⟨hd, k⟩ : PackD)]).map (toX stx) := by
        unfold withP
        rw [insX_end _ _ _ fun y hy => by
          obtain ⟨p, hp, rfl⟩ := List.mem_map.1 hy
          exact hlo p hp]
        rw [List.map_append]
        rfl
      have hat : atR l0 (joinR (folderP hd) (stx.getD k zeroE).name) = none := atR_none.2 fun p hp e => by
        rw [e3, ← hjoin] at e
        exact less_ne (hlo p hp) e
      have ht2 := ht.app hk (by rw [e3]; exact hnm) hat
      rw [e3, ← hjoin, hwith] at ht2
      have hr2 : Rises (fun p => p.path) (l0 ++ [(⟨hd, k⟩ : PackD)]) := by
        unfold Rises
        rw [List.pairwise_append]
        exact ⟨hr, by simp, fun p hp q hq => by rw [List.mem_singleton.1 hq]; exact hlo p hp⟩
      have hf2 : Folded (l0 ++ [⟨hd, k⟩]) := by
        intro p hp f hff
        rcases List.mem_append.1 hp with hp | hp
        · rcases hf p hp f hff with e | ⟨q, hq, e⟩
          · exact .inl e
          · exact .inr ⟨q, List.mem_append_left _ hq, e⟩
        · rw [List.mem_singleton.1 hp] at hff
          simp only at hff
          rw [foldersR_cons hd hne] at hff
          rcases List.mem_cons.1 hff with rfl | hff
          · exact .inr ⟨_, List.mem_append_right _ (List.mem_singleton.2 rfl), rfl⟩
          · unfold hasFolderP at hfo
            rw [Bool.or_eq_true] at hfo
            rcases hfo with e | e
            · rw [of_decide_eq_true e, foldersR_nil] at hff
              exact .inl (List.mem_singleton.1 hff)
            · rw [hasAt_same ht] at e
              obtain ⟨j, hj⟩ := Option.isSome_iff_exists.1 e
              obtain ⟨_, h2, h3⟩ := atR_some hj
              rw [← h3] at hff
              rcases hf _ h2 f hff with e | ⟨q, hq, e⟩
              · exact .inl e
              · exact .inr ⟨q, List.mem_append_left _ hq, e⟩
      rw [hwith] at h
      obtain ⟨g1, g2, g3, g4, g5⟩ := go_read hs r (l0 ++ [⟨hd, k⟩]) hd tr h ht2 hr2 hf2 fun p hp => by
        rcases List.mem_append.1 hp with hp | hp
        · exact .inr (hlo p hp)
        · rw [List.mem_singleton.1 hp]; exact .inl rfl
      rw [hread]
      refine ⟨g1, g2, g3, g4, ?_⟩
      rw [g5]
      have htx : txtD st ⟨hd, k⟩ = x := by
        unfold txtD
        simp only
        rw [e4, ← version_text hv1]
        exact (cut_eq x hd vr hcut).1.symm
      simp [htx]
    · rw [e2] at ep
      exact absurd ep (by simp)
theorem atR_idx : ∀ (l : List PackD), (l.Pairwise fun p q => p.path ≠ q.path) → ∀ (k : Nat) (hk : k < l.length) (i : Nat), atGo l[k].path i l = some (i + k)
  | [], _, k, hk, _ => by simp at hk
  | p :: r, h, 0, hk, i => by rw [atGo]; simp
  | p :: r, h, k + 1, hk, i => by
    have h' := List.pairwise_cons.1 h
    have hk' : k < r.length := by simpa using hk
    rw [List.getElem_cons_succ, atGo, if_neg (h'.1 _ (List.getElem_mem hk')), atR_idx r h'.2 k hk' (i + 1)]
    congr 1
    omega
theorem hangs_of {l : List PackD} (hn : l.Pairwise fun p q => p.path ≠ q.path) (hf : Folded l) (h0 : ∀ p ∈ l, p.path ≠ []) : hangsR l = true := by
  have go : ∀ (m i : Nat), i + m = l.length → hangsGo l i (l.drop i) = true := by
    intro m
    induction m with
    | zero => intro i hi; rw [List.drop_of_length_le (by omega)]; rfl
    | succ m ih =>
      intro i hi
      have hlt : i < l.length := by omega
      rw [List.drop_eq_getElem_cons hlt, hangsGo, lastR_snd]
      have hat : atR l l[i].path = some i := by
        have := atR_idx l hn i hlt 0
        rw [Nat.zero_add] at this
        exact this
      rw [if_neg, ih (i + 1) (by omega)]
      intro hc
      rw [Bool.or_eq_true] at hc
      rcases hc with hc | hc
      · rw [hat] at hc; simp at hc
      · rw [Bool.and_eq_true] at hc
        have hlen := of_decide_eq_true hc.1
        have hp := h0 _ (List.getElem_mem hlt)
        have hmem : folderP l[i].path ∈ foldersR l[i].path := by
          rw [foldersR_cons _ hp]
          exact List.mem_cons_of_mem _ (folders_self _)
        rcases hf _ (List.getElem_mem hlt) _ hmem with e | ⟨b, hb, e⟩
        · rw [e] at hlen; simp at hlen
        · rcases ea : atR l (folderP l[i].path) with _ | j
          · exact atR_none.1 ea b hb e
          · rw [ea] at hc; simp at hc
  exact go l.length 0 (by omega)

end Hst
end Go.Proofs.YtecocheolbkneaaGreatDoor
namespace Go.Proofs.YtecocheolbkneaaGreatDoor
open Go.RowKit
namespace Hst
set_option maxRecDepth 100000

theorem an_yes (f : Tx → Bool) (d : List Tx) (k : Nat) (hk : k < d.length) (h : f d[k] = true) : (d.drop k).any f = true := by
  rw [List.drop_eq_getElem_cons hk, List.any_cons, h, Bool.true_or]
theorem an_no (f : Tx → Bool) (d : List Tx) (k : Nat) (hk : k < d.length) (h : f d[k] = false) : (d.drop k).any f = (d.drop (k + 1)).any f := by
  rw [List.drop_eq_getElem_cons hk, List.any_cons, h, Bool.false_or]
theorem an_end (f : Tx → Bool) (d : List Tx) (k : Nat) (hk : ¬ k < d.length) : (d.drop k).any f = false := by
  rw [List.drop_of_length_le (by omega)]; rfl

/-- What is known of an alternative in the midst of its conditions. -/
def AltSt (alt bl : Bool) (m : List Tx) (v : V3) : Prop := (bl = true → alt = m.all (fun x => holdsR x v)) ∧ (bl = false → alt = false)

attribute [local go_sem ↓] Go.wp_at_zero Go.wp_at_succ

set_option maxHeartbeats 2000000 in
theorem fit_any (s : ByteArray) (a b c : Int) (w : World) (h60 : s.size ≤ 60) :
    Calls Tryz.prog 123 #[.string s, verV a b c] w fun e w' => e = .returned (.bool (fitR (tx s) ⟨a, b, c⟩)) ∧ Below w.heap.size w w' := by
  have HP : Hid (fitR (tx s) ⟨a, b, c⟩ = (splitL 124 (tx s)).any (fun x => altFitR x ⟨a, b, c⟩)) := rfl
  go_enter Tryz.func123, Tryz.ntmps123
  go_wp2_with fail
  refine (rsplit_any s 124 _ (by omega)).mono ?_
  rintro e w1 ⟨v, rfl, hrow, hb1⟩
  obtain ⟨g, cap, rfl, hg1, hg2, hcell⟩ := hrow.form (splitL_ne _ _)
  have HS := hid (piece_mem (n := 124) h60)
  have hlen := splitL_len 124 (tx s)
  rw [tx_length] at hlen
  generalize splitL 124 (tx s) = d at *
  have HC := hid hcell
  have hz1 := hb1.size
  simp at hz1
  have v0 := (bcell hb1).1 w.heap.size 0 (by simp)
  have v1 := (bcell hb1).1 w.heap.size 1 (by simp)
  have v2 := (bcell hb1).1 w.heap.size 2 (by simp)
  simp at v0 v1 v2
  have HB1 := hid (((Below.refl _ _).alloc (Nat.le_refl _) _).trans (hb1.mono (by simp)) : Below w.heap.size w w1)
  clear hcell hrow hb1
  go_wp2
  go_loopw [6] (fun i wr => ∃ (k : Nat), k ≤ d.length ∧ i = .int .i64 k ∧ Below w1.heap.size w1 wr ∧ Hid (fitR (tx s) ⟨a, b, c⟩ = (d.drop k).any (fun x => altFitR x ⟨a, b, c⟩))) (fun i _ => d.length - (intOf i).toNat)
  case atStart => exact ⟨0, by omega, rfl, Below.refl _ _, by unfold Hid; rw [HP.out]; rfl⟩
  case round =>
    obtain ⟨k, hk, rfl, hbel, hall⟩ := hrel
    clear HP
    have hz := hbel.size
    by_cases hlt : k < d.length
    · have hc := (hbel.cell (p := ⟨g, k, none⟩) hg2).trans (HC.out k hlt)
      have hps := HS.out k hlt
      have HA : Hid (altFitR d[k] ⟨a, b, c⟩ = (splitL 38 (tx (bs d[k]))).all (fun x => holdsR x ⟨a, b, c⟩)) := by unfold Hid; rw [tx_bs]; rfl
      have HY := hid (an_yes (fun x => altFitR x ⟨a, b, c⟩) d k hlt)
      have HN := hid (an_no (fun x => altFitR x ⟨a, b, c⟩) d k hlt)
      generalize altFitR d[k] ⟨a, b, c⟩ = alt at *
      generalize bs d[k] = q at *
      go_wp2_with fail
      refine (rsplit_any q 38 _ (by omega)).mono ?_
      rintro e w2 ⟨v, rfl, hrow, hb2⟩
      obtain ⟨g2, cap2, rfl, hg3, hg4, hcell2⟩ := hrow.form (splitL_ne _ _)
      have HS2 := hid (piece_mem (n := 38) hps)
      have hlen2 := splitL_len 38 (tx q)
      rw [tx_length] at hlen2
      generalize splitL 38 (tx q) = m at *
      have HC2 := hid hcell2
      have hz2 := hb2.size
      have HB2 := hid (hbel.trans (hb2.mono hz))
      have hB2 := HB2.out
      have u0 := (hB2.cell (p := ⟨w.heap.size, 0, none⟩) (by show w.heap.size < _; omega)).trans v0
      have u1 := (hB2.cell (p := ⟨w.heap.size, 1, none⟩) (by show w.heap.size < _; omega)).trans v1
      have u2 := (hB2.cell (p := ⟨w.heap.size, 2, none⟩) (by show w.heap.size < _; omega)).trans v2
      clear hcell2 hrow hc hB2 v0 v1 v2
      go_wp2
      go_loopw [8, 9] (fun al i wq => ∃ (j : Nat) (bl : Bool), j ≤ m.length ∧ al = .bool bl ∧ i = .int .i64 j ∧ Below w2.heap.size w2 wq ∧ AltSt alt bl (m.drop j) ⟨a, b, c⟩) (fun _ i _ => m.length - (intOf i).toNat)
      case atStart => exact ⟨0, true, by omega, rfl, rfl, Below.refl _ _, ⟨fun _ => by rw [HA.out]; rfl, fun h => by cases h⟩⟩
      case round =>
        obtain ⟨j, bl, hj, rfl, rfl, hbel2, hall2⟩ := hrel
        clear HA
        have hz4 := hbel2.size
        have HB := hid (HB2.out.trans (hbel2.mono (by omega)))
        have HBw := hid (HB1.out.trans (HB.out.mono (by omega)))
        cases bl
        · -- the alternative does not fit
          have HF : Hid (alt = false) := hall2.2 rfl
          have HF2 : Hid (fitR (tx s) ⟨a, b, c⟩ = (d.drop (k + 1)).any (fun x => altFitR x ⟨a, b, c⟩)) := by unfold Hid; rw [hall.out, HN.out HF.out]
          by_cases hjl : j < m.length
          all_goals
            go_wp2
            go_roundw
            case rel => exact ⟨k + 1, by omega, by go_num, HB.out, HF2⟩
            case measure => simp [intOf]; omega
        · by_cases hjl : j < m.length
          · have hc2 := (hbel2.cell (p := ⟨g2, j, none⟩) hg4).trans (HC2.out j hjl)
            have hh := fun w => holds_any (bs m[j]) a b c w
            rw [tx_bs] at hh
            have HH := hid hh
            have t0 := (hbel2.cell (p := ⟨w.heap.size, 0, none⟩) (by show w.heap.size < _; omega)).trans u0
            have t1 := (hbel2.cell (p := ⟨w.heap.size, 1, none⟩) (by show w.heap.size < _; omega)).trans u1
            have t2 := (hbel2.cell (p := ⟨w.heap.size, 2, none⟩) (by show w.heap.size < _; omega)).trans u2
            have HY2 := hid (al_yes (fun x => holdsR x ⟨a, b, c⟩) m j hjl)
            have HN2 := hid (al_no (fun x => holdsR x ⟨a, b, c⟩) m j hjl)
            generalize holdsR m[j] ⟨a, b, c⟩ = cnd at *
            generalize bs m[j] = q2 at *
            clear hh u0 u1 u2
            have HF : AltSt alt cnd (m.drop (j + 1)) ⟨a, b, c⟩ := ⟨fun h => by rw [hall2.1 rfl, HY2.out h], fun h => by rw [hall2.1 rfl, HN2.out h]⟩
            have hgq : g2 < wr.heap.size := by omega
            have hwq : w.heap.size < wr.heap.size := by omega
            have hj0 : (0 : Int) ≤ (j : Int) := by omega
            have hj1 : (j : Int) < (m.length : Int) := by omega
            go_wp2
            go_region_held3 (fun w' => w'.cell? ⟨g2, j, none⟩ = some (.string q2) ∧ w'.cell? ⟨w.heap.size, 0, none⟩ = some (.int .i64 a) ∧ w'.cell? ⟨w.heap.size, 1, none⟩ = some (.int .i64 b) ∧ w'.cell? ⟨w.heap.size, 2, none⟩ = some (.int .i64 c)) (go_keep)
              (first | (go_at_call 155; refine (HH.out _).mono ?_; rintro e w3 ⟨rfl, hb3⟩; have hz3 := (bcell hb3).1; simp at hz3))
            have HB3 := hid (hbel2.drew.trans (hb3.mono hz4))
            clear hb3
            go_wp2
            go_roundw
            case rel => exact ⟨j + 1, cnd, by omega, rfl, by go_num, HB3.out, HF⟩
            case measure => simp [intOf]; omega
          · have HF : Hid (fitR (tx s) ⟨a, b, c⟩ = true) := by unfold Hid; rw [hall.out, HY.out (by rw [hall2.1 rfl, al_end _ m j hjl])]
            go_wp2
            go_ret
            exact ⟨ret_bool (by rw [HF.out]), HBw.out⟩
    · have HF : Hid (fitR (tx s) ⟨a, b, c⟩ = false) := by unfold Hid; rw [hall.out, an_end _ d k hlt]
      have HB := hid (HB1.out.trans (hbel.mono (by omega)))
      go_wp2
      go_ret
      exact ⟨ret_bool (by rw [HF.out]), HB.out⟩

end Hst
end Go.Proofs.YtecocheolbkneaaGreatDoor
namespace Go.Proofs.YtecocheolbkneaaGreatDoor
open Go.RowKit
namespace Hst
set_option maxRecDepth 100000

/-- A slice of needs. -/
def NeedsR (w : World) (a : Option Addr) (n cap : Nat) (l : List NeedD) : Prop := n = l.length ∧ RowR w a n cap 2 (l.flatMap needC)
theorem needC_len (p : NeedD) : (needC p).length = 2 := rfl
theorem NeedsR.below {w w' : World} {a : Option Addr} {n cap : Nat} {l : List NeedD} (h : NeedsR w a n cap l) (hb : Below w.heap.size w w') : NeedsR w' a n cap l := ⟨h.1, h.2.below hb⟩
theorem NeedsR.cells {w : World} {a : Option Addr} {n cap : Nat} {l : List NeedD} (h : NeedsR w a n cap l) {k : Nat} (hk : k < l.length) :
    ∃ g o, a = some ⟨g, o, none⟩ ∧ g < w.heap.size ∧ ∀ (j : Nat) (hj : j < l.length), w.cell? ⟨g, o + j * 2, none⟩ = some (.string (bs l[j].name)) ∧ w.cell? ⟨g, o + j * 2 + 1, none⟩ = some (.string (bs l[j].rng)) := by
  obtain ⟨rfl, hr⟩ := h
  obtain ⟨g, o, ha, hg, hc⟩ := hr.at' (by omega)
  refine ⟨g, o, ha, hg, fun j hj => ⟨?_, ?_⟩⟩
  · have := hc (j * 2 + 0) (by omega)
    rw [flat_at needC 2 needC_len l j 0 hj (by omega)] at this
    exact this
  · have := hc (j * 2 + 1) (by omega)
    rw [flat_at needC 2 needC_len l j 1 hj (by omega)] at this
    exact this
/-- The cells of an entry, its needs' slice beside it. -/
def entC (z : EntryD × Value) : List Value := [.string (bs z.1.name), .int .i64 z.1.v.a, .int .i64 z.1.v.b, .int .i64 z.1.v.c, z.2]
theorem entC_len (z : EntryD × Value) : (entC z).length = 5 := rfl
/-- A slice of entries. -/
def StockR (w : World) (a : Option Addr) (n cap : Nat) (st : List EntryD) : Prop :=
  ∃ zs : List (EntryD × Value), zs.map Prod.fst = st ∧ n = zs.length ∧ RowR w a n cap 5 (zs.flatMap entC) ∧ ∀ z ∈ zs, ∃ a n cap, z.2 = .slice a n cap ∧ NeedsR w a n cap z.1.needs
theorem StockR.below {w w' : World} {a : Option Addr} {n cap : Nat} {st : List EntryD} (h : StockR w a n cap st) (hb : Below w.heap.size w w') : StockR w' a n cap st := by
  obtain ⟨zs, h1, h2, h3, h4⟩ := h
  exact ⟨zs, h1, h2, h3.below hb, fun z hz => by obtain ⟨a, n, c, e, hn⟩ := h4 z hz; exact ⟨a, n, c, e, hn.below hb⟩⟩
theorem StockR.len {w : World} {a : Option Addr} {n cap : Nat} {st : List EntryD} (h : StockR w a n cap st) : n = st.length := by
  obtain ⟨zs, h1, h2, _⟩ := h
  rw [← h1, List.length_map]; exact h2
theorem StockR.cells {w : World} {a : Option Addr} {n cap : Nat} {st : List EntryD} (h : StockR w a n cap st) {k : Nat} (hk : k < st.length) :
    ∃ g o, a = some ⟨g, o, none⟩ ∧ g < w.heap.size ∧ ∀ (j : Nat) (hj : j < st.length), w.cell? ⟨g, o + j * 5, none⟩ = some (.string (bs st[j].name)) ∧ w.cell? ⟨g, o + j * 5 + 1, none⟩ = some (.int .i64 st[j].v.a) ∧
      w.cell? ⟨g, o + j * 5 + 2, none⟩ = some (.int .i64 st[j].v.b) ∧ w.cell? ⟨g, o + j * 5 + 3, none⟩ = some (.int .i64 st[j].v.c) ∧ ∃ na nn nc, w.cell? ⟨g, o + j * 5 + 4, none⟩ = some (.slice na nn nc) ∧ NeedsR w na nn nc st[j].needs := by
  obtain ⟨zs, rfl, rfl, hr, hz⟩ := h
  rw [List.length_map] at hk
  obtain ⟨g, o, ha, hg, hc⟩ := hr.at' (by omega)
  refine ⟨g, o, ha, hg, fun j hj => ?_⟩
  rw [List.length_map] at hj
  have e : (zs.map Prod.fst)[j]'(by simpa using hj) = zs[j].1 := by simp
  rw [e]
  have get : ∀ i, i < 5 → w.cell? ⟨g, o + (j * 5 + i), none⟩ = (entC zs[j])[i]? := fun i hi => by
    rw [hc (j * 5 + i) (by omega), flat_at entC 5 entC_len zs j i hj hi]
  obtain ⟨na, nn, nc, e2, hn⟩ := hz zs[j] (List.getElem_mem hj)
  refine ⟨get 0 (by omega), get 1 (by omega), get 2 (by omega), get 3 (by omega), na, nn, nc, ?_, hn⟩
  have := get 4 (by omega)
  rw [← e2]
  exact this

/-- A site of the document's answer, at block b. -/
structure SiteAt (w : World) (b : Nat) (s : SiteD) : Prop where
  lt : b < w.heap.size
  stock : ∃ a n cap, w.cell? ⟨b, 0, none⟩ = some (.slice a n cap) ∧ StockR w a n cap s.stock
  needs : ∃ a n cap, w.cell? ⟨b, 1, none⟩ = some (.slice a n cap) ∧ NeedsR w a n cap s.needs
  packs : ∃ a n cap, w.cell? ⟨b, 2, none⟩ = some (.slice a n cap) ∧ PacksR w a n cap s.packs
  f1 : w.frozen? ⟨b, 1, none⟩ = false
  f2 : w.frozen? ⟨b, 2, none⟩ = false
theorem SiteAt.below {w w' : World} {b : Nat} {s : SiteD} (h : SiteAt w b s) (hb : Below w.heap.size w w') : SiteAt w' b s := by
  obtain ⟨hc, hf⟩ := bcell hb
  obtain ⟨a0, n0, c0, e0, r0⟩ := h.stock
  obtain ⟨a1, n1, c1, e1, r1⟩ := h.needs
  obtain ⟨a2, n2, c2, e2, r2⟩ := h.packs
  exact ⟨Nat.lt_of_lt_of_le h.lt hb.size, ⟨a0, n0, c0, by rw [hc _ _ h.lt]; exact e0, r0.below hb⟩, ⟨a1, n1, c1, by rw [hc _ _ h.lt]; exact e1, r1.below hb⟩, ⟨a2, n2, c2, by rw [hc _ _ h.lt]; exact e2, r2.below hb⟩,
    by rw [hf _ _ h.lt]; exact h.f1, by rw [hf _ _ h.lt]; exact h.f2⟩

abbrev whoV (x : WhoD) : Value := .agg #[.string (bs x.path), .string (bs x.n.name), .string (bs x.n.rng)]
theorem met_none {st : List EntryD} {l : List PackD} {x : WhoD} (h : findR l x.path x.n.name = none) : metR st l x = false := by simp [metR, h]
theorem met_some {st : List EntryD} {l : List PackD} {x : WhoD} {k : Nat} (h : findR l x.path x.n.name = some k) : metR st l x = fitR x.n.rng (verOf st (packAt l k).of) := by simp [metR, h]
theorem atGo_lt (path : Tx) : ∀ (l : List PackD) (i k : Nat), atGo path i l = some k → i ≤ k ∧ k < i + l.length
  | [], i, k, h => by simp [atGo] at h
  | p :: r, i, k, h => by
    simp only [atGo] at h
    split at h
    · simp at h; subst h; simp
    · have := atGo_lt path r (i + 1) k h
      simp; omega
theorem atR_lt {l : List PackD} {path : Tx} {k : Nat} (h : atR l path = some k) : k < l.length := by have := atGo_lt path l 0 k h; omega
theorem findGo_lt (l : List PackD) (name : Tx) : ∀ (f : List Tx) (k : Nat), findGo l name f = some k → k < l.length
  | [], k, h => by simp [findGo] at h
  | x :: r, k, h => by
    simp only [findGo] at h
    rcases ha : atR l (joinR x name) with _ | j
    · rw [ha] at h; exact findGo_lt l name r k h
    · rw [ha] at h; simp at h; subst h; exact atR_lt ha
theorem findR_lt {l : List PackD} {path name : Tx} {k : Nat} (h : findR l path name = some k) : k < l.length := findGo_lt l name _ k h

attribute [local go_sem ↓] Go.wp_at_zero Go.wp_at_succ

set_option maxHeartbeats 4000000 in
theorem met_any (b : Nat) (s : SiteD) (a : Option Addr) (n cap : Nat) (l : List PackD) (x : WhoD) (w : World) (hs : SiteAt w b s) (hl : PacksR w a n cap l) (hn : n ≤ 100000) (hp : x.path.length ≤ 50000) (hq : x.n.name.length ≤ 50000) (hr : x.n.rng.length ≤ 60)
    (hof : ∀ p ∈ l, p.of < s.stock.length) :
    Calls Tryz.prog 138 #[.pointer (some ⟨b, 0, none⟩), .slice a n cap, whoV x] w fun e w' => e = .returned (.bool (metR s.stock l x)) ∧ Below w.heap.size w w' := by
  obtain ⟨path, name, rng⟩ := x
  simp only at hp hq hr
  have hbw := (Below.refl w.heap.size w).alloc (Nat.le_refl _) (.cells #[.string (bs path), .string (bs name), .string (bs rng)] 200)
  have HFD := hid' (fun (w : World) hl => find_any a n cap l (bs path) (bs name) w hl hn (by rw [bs_size]; exact hp) (by rw [bs_size]; exact hq))
  rw [tx_bs, tx_bs] at HFD
  have HL1 := hid' (hl.below hbw)
  have HS1 := hid' (hs.below hbw)
  have HB1 := hid' hbw
  have HNL := hid' hl.1
  clear hbw hs hl
  rcases hf : findR l path name with _ | k
  · rw [met_none (by exact hf)]
    rw [hf] at HFD
    clear hf
    go_enter Tryz.func138, Tryz.ntmps138
    go_wp2_with fail
    refine (HFD.out _ HL1.out).mono ?_
    rintro e w1 ⟨rfl, hb1⟩
    simp only [idx]
    have HB2 := hid' (HB1.out.trans (hb1.mono (by simp)))
    clear hb1
    go_wp2
    go_ret
    exact ⟨rfl, HB2.out⟩
  · rw [met_some (by exact hf)]
    rw [hf] at HFD
    have hkl := findR_lt hf
    have hofk := hof l[k] (List.getElem_mem hkl)
    have epk : packAt l k = l[k] := by unfold packAt; rw [List.getD_eq_getElem?_getD, List.getElem?_eq_getElem hkl]; rfl
    have ev : verOf s.stock (packAt l k).of = s.stock[l[k].of].v := by
      rw [epk]; unfold verOf; rw [List.getD_eq_getElem?_getD, List.getElem?_eq_getElem hofk]; rfl
    rw [ev]
    have HFT := hid' (fun w => fit_any (bs rng) s.stock[l[k].of].v.a s.stock[l[k].of].v.b s.stock[l[k].of].v.c w (by rw [bs_size]; exact hr))
    rw [tx_bs] at HFT
    clear hf ev epk
    go_enter Tryz.func138, Tryz.ntmps138
    go_wp2_with fail
    refine (HFD.out _ HL1.out).mono ?_
    rintro e w1 ⟨rfl, hb1⟩
    simp only [idx]
    obtain ⟨g, o, rfl, hg, hc⟩ := (HL1.out.below hb1).cells hkl
    obtain ⟨sa, sn, sc, es, hsr⟩ := (HS1.out.below hb1).stock
    have HSL := hid' hsr.len
    obtain ⟨gs, os, rfl, hgs, hcs⟩ := hsr.cells hofk
    have p1 := (hc k hkl).2
    obtain ⟨_, q1, q2, q3, _⟩ := hcs l[k].of hofk
    have hlt := (HS1.out.below hb1).lt
    have d0 := (bcell hb1).1 w.heap.size 0 (by simp)
    have d1 := (bcell hb1).1 w.heap.size 1 (by simp)
    have d2 := (bcell hb1).1 w.heap.size 2 (by simp)
    simp at d0 d1 d2
    have hz1 := hb1.size
    simp at hz1
    have HB2 := hid' (HB1.out.trans (hb1.mono (by simp)))
    clear hb1 hc hcs hsr
    generalize hvv : s.stock[l[k].of].v = vv at *
    obtain ⟨va, vb, vc⟩ := vv
    simp only at q1 q2 q3 HFT
    have HV := hid' hvv
    clear hvv
    generalize l[k].of = m at p1 q1 q2 q3 hofk
    have i0 : (0 : Int) ≤ (k : Int) := by omega
    have i1 : (k : Int) < (n : Int) := by have := HNL.out; omega
    have i2 : (0 : Int) ≤ (m : Int) := by omega
    have i3 : (m : Int) < (sn : Int) := by have := HSL.out; omega
    have hwl : w.heap.size < w1.heap.size := by omega
    go_wp2
    go_region_held3 (fun w' => w'.cell? ⟨w.heap.size, 2, none⟩ = some (.string (bs rng)) ∧ w'.cell? ⟨b, 0, none⟩ = some (.slice (some ⟨gs, os, none⟩) sn sc) ∧ w'.cell? ⟨g, o + k * 2 + 1, none⟩ = some (.int .i64 m) ∧ w'.cell? ⟨gs, os + m * 5 + 1, none⟩ = some (.int .i64 va) ∧ w'.cell? ⟨gs, os + m * 5 + 2, none⟩ = some (.int .i64 vb) ∧ w'.cell? ⟨gs, os + m * 5 + 3, none⟩ = some (.int .i64 vc)) (go_keep)
      (first | (go_at_call 123; refine (HFT.out _).mono ?_; rintro e w2 ⟨rfl, hb2⟩; have hz2 := (bcell hb2).1; simp at hz2))
    have HB3 := hid' (HB2.out.drew.trans (hb2.mono (by simp; omega)))
    clear hb2
    go_wp2
    go_ret
    exact ⟨ret_bool (by rw [HV.out]), HB3.out⟩

end Hst
end Go.Proofs.YtecocheolbkneaaGreatDoor
