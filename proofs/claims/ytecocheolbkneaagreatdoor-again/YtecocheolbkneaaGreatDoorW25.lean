/- Mpaths, Mread, Pload, Psound, Pfind -/
import Derived.Test.YtecocheolbkneaaGreatDoorW23
import Derived.Test.YtecocheolbkneaaGreatDoorW24
import Derived.Test.YtecocheolbkneaaGreatDoorW09
import Derived.Test.YtecocheolbkneaaGreatDoorW16
import Derived.Test.YtecocheolbkneaaGreatDoorW15
import Derived.Test.YtecocheolbkneaaGreatDoorW12
import Derived.Test.YtecocheolbkneaaGreatDoorW20
namespace Go.Proofs.YtecocheolbkneaaGreatDoor
namespace Hst

/-- A path's last '/'. -/
theorem path_cases (p : Tx) : ∀ i, i ≤ p.length → (∀ j, i ≤ j → j < p.length → p.getD j 0 ≠ 47) → ((∀ j, j < p.length → p.getD j 0 ≠ 47) ∧ folderGo p i = [] ∧ nameGo p i = p) ∨ ∃ f n, p = f ++ [47] ++ n ∧ NoSl n ∧ folderGo p i = f ∧ nameGo p i = n
  | 0, _, h => .inl ⟨fun j hj => h j (Nat.zero_le _) hj, rfl, rfl⟩
  | i + 1, hi, h => by
    rw [folderGo, nameGo]
    by_cases h47 : p.getD i 0 = 47
    · rw [if_pos h47, if_pos h47]
      right
      have hlt : i < p.length := by omega
      have hg : p[i] = 47 := by rw [List.getD_eq_getElem?_getD, List.getElem?_eq_getElem hlt] at h47; exact h47
      refine ⟨p.take i, p.drop (i + 1), ?_, fun b hb => ?_, rfl, rfl⟩
      · rw [← hg, ← List.take_succ_eq_append_getElem hlt, List.take_append_drop]
      · obtain ⟨j, hj, e⟩ := List.mem_iff_getElem.1 hb
        rw [List.getElem_drop] at e
        simp at hj
        have := h (i + 1 + j) (by omega) (by omega)
        rw [List.getD_eq_getElem?_getD, List.getElem?_eq_getElem (by omega)] at this
        rw [← e]
        exact this
    · rw [if_neg h47, if_neg h47]
      refine path_cases p i (by omega) fun j hj hl => ?_
      by_cases e : j = i
      · subst e; exact h47
      · exact h j (by omega) hl
theorem path_two (p : Tx) : (NoSl p ∧ folderP p = [] ∧ nameP p = p) ∨ ∃ f n, p = f ++ [47] ++ n ∧ NoSl n ∧ folderP p = f ∧ nameP p = n := by
  rcases path_cases p p.length (Nat.le_refl _) (fun j h1 h2 => by omega) with ⟨h1, h2, h3⟩ | h
  · refine .inl ⟨fun b hb e => ?_, h2, h3⟩
    obtain ⟨j, hj, e2⟩ := List.mem_iff_getElem.1 hb
    have := h1 j hj
    rw [List.getD_eq_getElem?_getD, List.getElem?_eq_getElem hj] at this
    exact this (by rw [← e, ← e2]; rfl)
  · exact .inr h
theorem isPath_one {p : Tx} (h : NoSl p) : isPathP p = isNameR p := by
  unfold isPathP
  rw [splitL_one 47 p fun x hx e => h x hx (u8_same (s := 47) (by simpa using e))]
  simp
theorem isPath_two {f n : Tx} (h : NoSl n) : isPathP (f ++ [47] ++ n) = (isPathP f && isNameR n) := by
  unfold isPathP
  have h47 : ((47 : UInt8).toNat : Int) = 47 := rfl
  rw [← h47, splitL_mid, h47, splitL_one 47 n fun x hx e => h x hx (u8_same (s := 47) (by simpa using e)), List.all_append]
  simp
/-- A path of names: its last name, and its folder. -/
theorem path_last {p : Tx} (h : isPathP p = true) : p ≠ [] ∧ isNameR (nameP p) = true ∧ p = joinR (folderP p) (nameP p) ∧ lastR p = (nameP p, folderP p) := by
  rcases path_two p with ⟨h1, h2, h3⟩ | ⟨f, n, e, h1, h2, h3⟩
  · rw [isPath_one h1] at h
    have h0 := name_ne h
    refine ⟨h0, by rw [h3]; exact h, ?_, ?_⟩
    · rw [h2, h3]; unfold joinR; rw [if_pos rfl]
    · rw [last_out h0 h2, h2, h3]
  · have h' := h
    rw [e, isPath_two h1, Bool.and_eq_true] at h'
    have h0 : p ≠ [] := by rw [e]; simp
    have hf : f ≠ [] := by
      rintro rfl
      have := h'.1
      unfold isPathP at this
      simp [splitL, isNameR] at this
    refine ⟨h0, by rw [h3]; exact h'.2, ?_, ?_⟩
    · rw [h2, h3]; unfold joinR; rw [if_neg hf]; exact e
    · rw [last_in h0 (by rw [h2]; exact hf), h2, h3]
      congr 1
      rw [e]
      simp
/-- A path whose last name is a name, in a folder that is a path. -/
theorem last_path {p : Tx} (hn : isNameR (lastR p).1 = true) (hf : (lastR p).2 = [] ∨ isPathP (lastR p).2 = true) : isPathP p = true := by
  by_cases h0 : p = []
  · rw [h0, last_nil] at hn; simp [isNameR] at hn
  · by_cases hfo : folderP p = []
    · rw [last_out h0 hfo] at hn
      rw [isPath_one (name_nosl hn)]; exact hn
    · rw [last_in h0 hfo] at hn hf
      simp only at hn hf
      rcases path_two p with ⟨h1, h2, h3⟩ | ⟨f, n, e, h1, h2, h3⟩
      · exact absurd h2 hfo
      · rw [h2] at hn hf hfo
        have en : p.drop (f.length + 1) = n := by rw [e]; simp
        rw [en] at hn
        rw [e, isPath_two h1, hn]
        rcases hf with hf | hf
        · exact absurd hf hfo
        · rw [hf]; rfl

end Hst
end Go.Proofs.YtecocheolbkneaaGreatDoor
namespace Go.Proofs.YtecocheolbkneaaGreatDoor
namespace Hst


/-! ### entries by name and version -/
theorem v3_of_eq3 {v w : V3} (h : eq3 v w = true) : v = w := by
  unfold eq3 at h
  simp only [Bool.and_eq_true, decide_eq_true_eq] at h
  obtain ⟨a, b, c⟩ := v
  obtain ⟨a', b', c'⟩ := w
  simp only at h
  rw [h.1.1, h.1.2, h.2]
theorem entry_find {name : Tx} {v : V3} (hv : Valid v) : ∀ {xs : List EntX} {ds : List EntryD} (i : Nat), All2 EntSame xs ds →
    (∃ k, entryOfGo name v i ds = some (i + k) ∧ k < xs.length ∧ findE xs name (place v) = some (xs.getD k zeroE) ∧ (ds.getD k zeroD).name = name ∧ (ds.getD k zeroD).v = v) ∨ (entryOfGo name v i ds = none ∧ findE xs name (place v) = none)
  | [], [], i, _ => .inr ⟨rfl, rfl⟩
  | e :: xs, d :: ds, i, h => by
    have hc : (decide (e.name = name) && decide (e.ver = place v)) = (decide (d.name = name) && eq3 d.v v) := by
      rw [h.1.name, h.1.ver, eq3_place h.1.val hv]
    rw [entryOfGo]
    unfold findE
    rw [List.find?_cons, hc]
    by_cases hb : (decide (d.name = name) && eq3 d.v v) = true
    · rw [if_pos hb, hb]
      rw [Bool.and_eq_true] at hb
      exact .inl ⟨0, rfl, by simp, rfl, of_decide_eq_true hb.1, v3_of_eq3 hb.2⟩
    · rw [if_neg hb]
      have hb' : (decide (d.name = name) && eq3 d.v v) = false := by simpa using hb
      rw [hb']
      rcases entry_find (name := name) hv (i + 1) h.2 with ⟨k, h1, h2, h3, h4, h5⟩ | ⟨h1, h2⟩
      · exact .inl ⟨k + 1, by rw [h1]; congr 1; omega, by simpa using h2, h3, h4, h5⟩
      · exact .inr ⟨h1, h2⟩
  | [], _ :: _, _, h => False.elim h
  | _ :: _, [], _, h => False.elim h
theorem entry_same {stx : List EntX} {st : List EntryD} (hs : StockSame stx st) {name : Tx} {v : V3} (hv : Valid v) :
    (∃ k, entryOfR st name v = some k ∧ k < stx.length ∧ findE stx name (place v) = some (stx.getD k zeroE) ∧ (stx.getD k zeroE).name = name ∧ verOf st k = v) ∨ (entryOfR st name v = none ∧ findE stx name (place v) = none) := by
  rcases entry_find (name := name) hv 0 hs.all with ⟨k, h1, h2, h3, h4, h5⟩ | h
  · rw [Nat.zero_add] at h1
    exact .inl ⟨k, h1, h2, h3, by rw [(hs.at h2).name]; exact h4, h5⟩
  · exact .inr h
theorem insX_end {α : Type} (key : α → Tx) (x : α) : ∀ l : List α, (∀ y ∈ l, less (key y) (key x) = true) → insG key x false l = l ++ [x]
  | [], _ => rfl
  | y :: r, h => by
    rw [insG, if_neg fun hc => by rw [less_asymm (h y (by simp))] at hc; exact absurd hc.2 (by simp), insX_end key x r fun z hz => h z (List.mem_cons_of_mem _ hz)]
    rfl
theorem less_nil {p : Tx} (h : p ≠ []) : less [] p = true := by
  rcases p with _ | ⟨b, r⟩
  · exact absurd rfl h
  · rfl
theorem less_longer : ∀ (a b : Tx), b ≠ [] → less a (a ++ b) = true
  | [], b, h => less_nil h
  | x :: a, b, h => by
    have := less_longer a b h
    unfold less at this ⊢
    simp [Op.bytesLess, this]
theorem lastR_snd (p : Tx) : (lastR p).2 = folderP p := by
  by_cases h : p = []
  · rw [h, last_nil]; rfl
  · by_cases hf : folderP p = []
    · rw [last_out h hf, hf]
    · rw [last_in h hf]

/-! ### what the program reads, the document reads -/
theorem go_read {stx : List EntX} {st : List EntryD} (hs : StockSame stx st) : ∀ (d : List Tx) (l0 : List PackD) (last : Tx) (tr : List PkX), packsGo stx (l0.map (toX stx)) last d = some tr → TreeSame stx l0 (l0.map (toX stx)) → Rises (fun p => p.path) l0 → Folded l0 → (∀ p ∈ l0, p.path = last ∨ less p.path last = true) →
    tr = (readGo st l0 d).map (toX stx) ∧ TreeSame stx (readGo st l0 d) tr ∧ Rises (fun p => p.path) (readGo st l0 d) ∧ Folded (readGo st l0 d) ∧ (readGo st l0 d).map (txtD st) = l0.map (txtD st) ++ d
  | [], l0, last, tr, h, ht, hr, hf, _ => by
    rw [packsGo] at h
    have h := Option.some.inj h
    subst h
    rw [readGo]
    exact ⟨rfl, ht, hr, hf, by simp⟩
  | x :: r, l0, last, tr, h, ht, hr, hf, hlast => by
    rw [packsGo] at h
    rcases ep : packP stx x with _ | y
    · rw [ep] at h; exact absurd h (by simp)
    rw [ep] at h
    simp only at h
    by_cases hls : less last y.path = false
    · rw [if_pos hls] at h; exact absurd h (by simp)
    rw [if_neg hls] at h
    by_cases hfo : hasFolderP (l0.map (toX stx)) y.path = false
    · rw [if_pos hfo] at h; exact absurd h (by simp)
    rw [if_neg hfo] at h
    have hls : less last y.path = true := by simpa using hls
    have hfo : hasFolderP (l0.map (toX stx)) y.path = true := by simpa using hfo
    -- the piece
    unfold packP at ep
    rcases hcut : cutR 64 x with ⟨hd, vr, b⟩
    rw [hcut] at ep
    simp only at ep
    by_cases hc : (b && isPathP hd) = false
    · rw [if_pos hc] at ep; exact absurd ep (by simp)
    rw [if_neg hc] at ep
    have hc : (b && isPathP hd) = true := by simpa using hc
    rw [Bool.and_eq_true] at hc
    obtain ⟨rfl, hpath⟩ := hc
    rcases hv : versionP vr with _ | n
    · rw [hv] at ep; exact absurd ep (by simp)
    rw [hv] at ep
    simp only at ep
    obtain ⟨hv1, rfl⟩ := versionP_some hv
    have hval := versionR_valid vr hv1
    obtain ⟨hne, hnm, hjoin, hlst⟩ := path_last hpath
    rcases entry_same hs (name := nameP hd) hval with ⟨k, e1, hk, e2, e3, e4⟩ | ⟨_, e2⟩
    · rw [e2] at ep
      have ep := Option.some.inj ep
      subst ep
      simp only at hls hfo h
      have hlo : ∀ p ∈ l0, less p.path hd = true := fun p hp => by
        rcases hlast p hp with e | e
        · rw [e]; exact hls
        · exact less_trans _ _ _ e hls
      have hread : readGo st l0 (x :: r) = readGo st (l0 ++ [⟨hd, k⟩]) r := by
        rw [readGo, hcut]
        simp only
        rw [if_pos hv1, hlst]
        simp only
        rw [e1]
        simp only
        rw [placedR_ins, insX_end _ _ _ hlo]
      have hwith : withP (l0.map (toX stx)) ⟨hd, stx.getD k zeroE⟩ = (l0 ++ [(⟨hd, k⟩ : PackD)]).map (toX stx) := by
        unfold withP
        rw [insX_end _ _ _ fun y hy => by
          obtain ⟨p, hp, rfl⟩ := List.mem_map.1 hy
          exact hlo p hp]
        rw [List.map_append]
        rfl
      have hat : atR l0 (joinR (folderP hd) (stx.getD k zeroE).name) = none := atR_none.2 fun p hp e => by
        rw [e3, ← hjoin] at e
        exact less_ne (hlo p hp) e
      have ht2 := ht.app hk (by rw [e3]; exact hnm) hat
      rw [e3, ← hjoin, hwith] at ht2
      have hr2 : Rises (fun p => p.path) (l0 ++ [(⟨hd, k⟩ : PackD)]) := by
        unfold Rises
        rw [List.pairwise_append]
        exact ⟨hr, by simp, fun p hp q hq => by rw [List.mem_singleton.1 hq]; exact hlo p hp⟩
      have hf2 : Folded (l0 ++ [⟨hd, k⟩]) := by
        intro p hp f hff
        rcases List.mem_append.1 hp with hp | hp
        · rcases hf p hp f hff with e | ⟨q, hq, e⟩
          · exact .inl e
          · exact .inr ⟨q, List.mem_append_left _ hq, e⟩
        · rw [List.mem_singleton.1 hp] at hff
          simp only at hff
          rw [foldersR_cons hd hne] at hff
          rcases List.mem_cons.1 hff with rfl | hff
          · exact .inr ⟨_, List.mem_append_right _ (List.mem_singleton.2 rfl), rfl⟩
          · unfold hasFolderP at hfo
            rw [Bool.or_eq_true] at hfo
            rcases hfo with e | e
            · rw [of_decide_eq_true e, foldersR_nil] at hff
              exact .inl (List.mem_singleton.1 hff)
            · rw [hasAt_same ht] at e
              obtain ⟨j, hj⟩ := Option.isSome_iff_exists.1 e
              obtain ⟨_, h2, h3⟩ := atR_some hj
              rw [← h3] at hff
              rcases hf _ h2 f hff with e | ⟨q, hq, e⟩
              · exact .inl e
              · exact .inr ⟨q, List.mem_append_left _ hq, e⟩
      rw [hwith] at h
      obtain ⟨g1, g2, g3, g4, g5⟩ := go_read hs r (l0 ++ [⟨hd, k⟩]) hd tr h ht2 hr2 hf2 fun p hp => by
        rcases List.mem_append.1 hp with hp | hp
        · exact .inr (hlo p hp)
        · rw [List.mem_singleton.1 hp]; exact .inl rfl
      rw [hread]
      refine ⟨g1, g2, g3, g4, ?_⟩
      rw [g5]
      have htx : txtD st ⟨hd, k⟩ = x := by
        unfold txtD
        simp only
        rw [e4, ← version_text hv1]
        exact (cut_eq x hd vr hcut).1.symm
      simp [htx]
    · rw [e2] at ep
      exact absurd ep (by simp)
theorem atR_idx : ∀ (l : List PackD), (l.Pairwise fun p q => p.path ≠ q.path) → ∀ (k : Nat) (hk : k < l.length) (i : Nat), atGo l[k].path i l = some (i + k)
  | [], _, k, hk, _ => by simp at hk
  | p :: r, h, 0, hk, i => by rw [atGo]; simp
  | p :: r, h, k + 1, hk, i => by
    have h' := List.pairwise_cons.1 h
    have hk' : k < r.length := by simpa using hk
    rw [List.getElem_cons_succ, atGo, if_neg (h'.1 _ (List.getElem_mem hk')), atR_idx r h'.2 k hk' (i + 1)]
    congr 1
    omega
theorem hangs_of {l : List PackD} (hn : l.Pairwise fun p q => p.path ≠ q.path) (hf : Folded l) (h0 : ∀ p ∈ l, p.path ≠ []) : hangsR l = true := by
  have go : ∀ (m i : Nat), i + m = l.length → hangsGo l i (l.drop i) = true := by
    intro m
    induction m with
    | zero => intro i hi; rw [List.drop_of_length_le (by omega)]; rfl
    | succ m ih =>
      intro i hi
      have hlt : i < l.length := by omega
      rw [List.drop_eq_getElem_cons hlt, hangsGo, lastR_snd]
      have hat : atR l l[i].path = some i := by
        have := atR_idx l hn i hlt 0
        rw [Nat.zero_add] at this
        exact this
      rw [if_neg, ih (i + 1) (by omega)]
      intro hc
      rw [Bool.or_eq_true] at hc
      rcases hc with hc | hc
      · rw [hat] at hc; simp at hc
      · rw [Bool.and_eq_true] at hc
        have hlen := of_decide_eq_true hc.1
        have hp := h0 _ (List.getElem_mem hlt)
        have hmem : folderP l[i].path ∈ foldersR l[i].path := by
          rw [foldersR_cons _ hp]
          exact List.mem_cons_of_mem _ (folders_self _)
        rcases hf _ (List.getElem_mem hlt) _ hmem with e | ⟨b, hb, e⟩
        · rw [e] at hlen; simp at hlen
        · rcases ea : atR l (folderP l[i].path) with _ | j
          · exact atR_none.1 ea b hb e
          · rw [ea] at hc; simp at hc
  exact go l.length 0 (by omega)

end Hst
end Go.Proofs.YtecocheolbkneaaGreatDoor
namespace Go.Proofs.YtecocheolbkneaaGreatDoor
open Go.RowKit
namespace Hst
set_option maxRecDepth 100000

theorem nmg_sl (s : ByteArray) (i : Nat) (h : i < s.size) (hb : ((s[i]).toNat : Int) = 47) : nameGo (tx s) (i + 1) = (tx s).drop (i + 1) := by
  have hl := tx_length s
  have e : (tx s).getD i 0 = s[i] := by rw [List.getD_eq_getElem?_getD, List.getElem?_eq_getElem (by omega)]; rfl
  have e2 : s[i] = 47 := UInt8.toNat_inj.1 (by simp; omega)
  simp only [nameGo]
  rw [e, if_pos e2]
theorem nmg_sn (s : ByteArray) (i : Nat) (h : i < s.size) (hb : ¬ ((s[i]).toNat : Int) = 47) : nameGo (tx s) (i + 1) = nameGo (tx s) i := by
  have hl := tx_length s
  have e : (tx s).getD i 0 = s[i] := by rw [List.getD_eq_getElem?_getD, List.getElem?_eq_getElem (by omega)]; rfl
  have e2 : ¬ s[i] = 47 := fun hh => hb (by rw [hh]; rfl)
  simp only [nameGo]
  rw [e, if_neg e2]

set_option maxHeartbeats 1000000 in
theorem nameOf_any (s : ByteArray) (w : World) (hs : s.size ≤ 100000) :
    Calls Tryz.prog 147 #[.string s] w fun e w' => e = .returned (.string (bs (nameP (tx s)))) ∧ w' = w := by
  have HP : Hid (nameP (tx s) = nameGo (tx s) s.size) := by unfold Hid nameP; rw [tx_length]
  go_enter Tryz.func147, Tryz.ntmps147
  go_wp2
  go_loop [3] (fun i => ∃ k : Nat, k ≤ s.size ∧ i = .int .i64 ((k : Int) - 1) ∧ Hid (nameP (tx s) = nameGo (tx s) k)) (fun i => (intOf i + 1).toNat)
  case atStart => exact ⟨s.size, Nat.le_refl _, rfl, HP⟩
  case round =>
    obtain ⟨k, hk, rfl, hall⟩ := hrel
    clear HP
    cases k with
    | zero =>
      have HF : Hid (nameP (tx s) = tx s) := hall.out
      go_wp2
      go_ret
      exact ⟨ret_str (by rw [HF.out, bs_tx]), rfl⟩
    | succ i =>
      have hlt : i < s.size := by omega
      have e0 : (((i + 1 : Nat) : Int) - 1) = (i : Int) := by omega
      rw [e0]
      by_cases hb : ((s[i]'hlt).toNat : Int) = 47
      · have HF : Hid (nameP (tx s) = (tx s).drop (i + 1)) := by unfold Hid; rw [hall.out, nmg_sl s i hlt hb]
        have hbb : (((s[i]'hlt).toNat : Int) == 47) = true := by simp [hb]
        have HX1 := hid' (ext_from s (i + 1))
        clear hb hall
        go_wp2
        go_ret
        exact ⟨ret_str (by rw [HF.out, ← HX1.out]), rfl⟩
      · have HF : Hid (nameP (tx s) = nameGo (tx s) i) := by unfold Hid; rw [hall.out, nmg_sn s i hlt hb]
        have hbb : (((s[i]'hlt).toNat : Int) == 47) = false := beq_eq_false_iff_ne.2 hb
        clear hb hall
        go_wp2
        go_round
        case rel => exact ⟨i, by omega, by go_num, HF⟩
        case measure => simp [intOf] <;> omega

set_option maxHeartbeats 1000000 in
theorem isPath_any (s : ByteArray) (w : World) (hs : s.size ≤ 100000) :
    Calls Tryz.prog 146 #[.string s] w fun e w' => e = .returned (.bool (isPathP (tx s))) ∧ Below w.heap.size w w' := by
  have HPS : Hid (∀ j (hj : j < (splitL 47 (tx s)).length), (bs (splitL 47 (tx s))[j]).size ≤ 100000) := fun j hj => by have := piece_size 47 s j hj; omega
  have HE : Hid (isPathP (tx s) = ((splitL 47 (tx s)).drop 0).all isNameR) := rfl
  have HDL : Hid ((splitL 47 (tx s)).length ≤ 100001) := by unfold Hid; have := splitL_len 47 (tx s); rw [tx_length] at this; omega
  go_enter Tryz.func146, Tryz.ntmps146
  go_wp2_with fail
  refine (psplit_any s 47 _ hs).mono ?_
  rintro e w1 ⟨v, rfl, hrow, hb1⟩
  have hrx := hrow.rowx
  obtain ⟨ta, tc, rfl⟩ := hrx.form
  have HRX := hid' hrx
  have HB1 := hid' hb1
  have hz1 := hb1.size
  clear hrow hrx hb1
  generalize splitL 47 (tx s) = d at *
  go_wp2
  go_loopw [8] (fun i wr => ∃ k : Nat, k ≤ d.length ∧ i = .int .i64 k ∧ Below w1.heap.size w1 wr ∧ Hid (isPathP (tx s) = (d.drop k).all isNameR)) (fun i _ => d.length - (intOf i).toNat)
  case atStart => exact ⟨0, Nat.zero_le _, rfl, Below.refl _ _, HE⟩
  case round =>
    obtain ⟨k, hk, rfl, hbel, hall⟩ := hrel
    have hdl := HDL.out
    have HBW := hid' (HB1.out.trans (hbel.mono hz1))
    by_cases hlt : k < d.length
    · obtain ⟨g, o, cap', hv, hg, hc⟩ := (HRX.out.below hbel).strs hlt
      simp at hv
      obtain ⟨rfl, rfl⟩ := hv
      have c0 := hc k hlt
      have HP := hid' (fun w => isNameP_any (bs d[k]) w (by have := HPS.out k hlt; omega))
      rw [tx_bs] at HP
      clear hc
      rcases hok : isNameR d[k] with _ | _
      · have HF : Hid (isPathP (tx s) = false) := by unfold Hid; rw [hall.out, pl_no isNameR d k hlt hok]
        rw [hok] at HP
        clear hok hall
        generalize bs d[k] = q at *
        go_wp2_with fail
        refine (HP.out _).mono ?_
        rintro e w2 ⟨he, hw⟩
        subst he hw
        go_wp2
        go_ret
        exact ⟨ret_bool (by rw [HF.out]), HBW.out⟩
      · have HF : Hid (isPathP (tx s) = (d.drop (k + 1)).all isNameR) := by unfold Hid; rw [hall.out, pl_yes isNameR d k hlt hok]
        rw [hok] at HP
        clear hok hall
        generalize bs d[k] = q at *
        go_wp2_with fail
        refine (HP.out _).mono ?_
        rintro e w2 ⟨he, hw⟩
        subst he hw
        go_wp2
        go_roundw
        case rel => exact ⟨k + 1, by omega, by go_num, hbel, HF⟩
        case measure => simp [intOf] <;> omega
    · have HF : Hid (isPathP (tx s) = true) := by unfold Hid; rw [hall.out, pl_end isNameR d k hlt]
      go_wp2
      go_ret
      exact ⟨ret_bool (by rw [HF.out]), HBW.out⟩

set_option maxHeartbeats 1000000 in
theorem hasFolder_any (v : Value) (l : List PkX) (p : ByteArray) (w : World) (hl : PksIn w v l) (hn : l.length ≤ 100000) (hp : p.size ≤ 100000) :
    Calls Tryz.prog 112 #[.agg #[v], .string p] w fun e w' => e = .returned (.bool (hasFolderP l (tx p))) ∧ Below w.heap.size w w' := by
  obtain ⟨a, cap, rfl⟩ := hl.1.form
  have hba := (Below.refl w.heap.size w).alloc (Nat.le_refl _) (.cells #[.slice a l.length cap] 73)
  have HF := hid' (fun w => folder_any p w hp)
  have HA := hid' (hasAt_any (.slice a l.length cap) l (bs (folderP (tx p))) _ (hl.below hba) hn)
  rw [tx_bs] at HA
  have HBA := hid' hba
  have HE : Hid (hasFolderP l (tx p) = (decide (folderP (tx p) = []) || hasAtP l (folderP (tx p)))) := rfl
  clear hl hba
  generalize hasFolderP l (tx p) = res at *
  generalize folderP (tx p) = f at *
  go_enter Tryz.func112, Tryz.ntmps112
  go_wp2_with fail
  refine (HF.out _).mono ?_
  rintro e w1 ⟨he, hw⟩
  subst he hw
  by_cases h0 : f = []
  · have hb : ((bs f).toList == []) = true := by rw [tx_toList, tx_bs, h0]; rfl
    have HR : Hid (res = true) := by unfold Hid; rw [HE.out]; simp [h0]
    clear h0
    go_wp2
    go_ret
    exact ⟨ret_bool (by rw [HR.out]), HBA.out⟩
  · have hb : ((bs f).toList == []) = false := by rw [tx_toList, tx_bs]; exact beq_eq_false_iff_ne.2 h0
    have HR : Hid (res = hasAtP l f) := by unfold Hid; rw [HE.out]; simp [h0]
    clear h0
    go_wp2_with fail
    refine HA.out.mono ?_
    rintro e w2 ⟨rfl, hb2⟩
    have HB2 := hid' (HBA.out.trans (hb2.mono (by simp)))
    clear hb2
    go_wp2
    go_ret
    exact ⟨ret_bool (by rw [HR.out]), HB2.out⟩

end Hst
end Go.Proofs.YtecocheolbkneaaGreatDoor
namespace Go.Proofs.YtecocheolbkneaaGreatDoor
open Go.RowKit
namespace Hst
set_option maxRecDepth 100000

theorem gl_yes {α : Type} (f : α → Bool) (d : List α) (k : Nat) (hk : k < d.length) (h : f d[k] = true) : (d.drop k).all f = (d.drop (k + 1)).all f := by
  rw [List.drop_eq_getElem_cons hk, List.all_cons, h, Bool.true_and]
theorem gl_no {α : Type} (f : α → Bool) (d : List α) (k : Nat) (hk : k < d.length) (h : f d[k] = false) : (d.drop k).all f = false := by
  rw [List.drop_eq_getElem_cons hk, List.all_cons, h, Bool.false_and]
theorem gl_end {α : Type} (f : α → Bool) (d : List α) (k : Nat) (hk : ¬ k < d.length) : (d.drop k).all f = true := by
  rw [List.drop_of_length_le (by omega)]; rfl

set_option maxHeartbeats 2000000 in
theorem meetsAll_any (v : Value) (t : List PkX) (f : ByteArray) (nv : Value) (nd : List NeedX) (w : World) (hl : PksIn w v t) (ht : t.length ≤ 1000) (hp : PathsOk t) (hf : f.size ≤ 50000) (hn : NeedsIn w nv nd) (hnl : nd.length ≤ 1000) :
    Calls Tryz.prog 71 #[.agg #[v], .string f, nv] w fun e w' => e = .returned (.bool (nd.all fun n => meetsP t (tx f) n)) ∧ Below w.heap.size w w' := by
  obtain ⟨a, cap, rfl⟩ := hl.1.form
  obtain ⟨na, nc, rfl⟩ := hn.1.form
  have hbw := (Below.refl w.heap.size w).alloc (Nat.le_refl _) (.cells #[.slice a t.length cap] 73)
  have HL1 := hid' (hl.below hbw)
  have HN1 := hid' (hn.below hbw)
  have HW := hid' hbw
  have e0 : (w.alloc (.cells #[.slice a t.length cap] 73)).cell? ⟨w.heap.size, 0, none⟩ = some (.slice a t.length cap) := by simp
  have hsz : (w.alloc (.cells #[.slice a t.length cap] 73)).heap.size = w.heap.size + 1 := by simp
  have HM := hid' (fun x w h hx => meets_any (.slice a t.length cap) t f x w h (by omega) hp hf hx)
  have HR : Hid ((nd.all fun n => meetsP t (tx f) n) = (nd.drop 0).all fun n => meetsP t (tx f) n) := rfl
  clear hl hn hbw hp
  generalize (nd.all fun n => meetsP t (tx f) n) = res at *
  go_enter Tryz.func71, Tryz.ntmps71
  go_wp2
  generalize w.alloc (.cells #[.slice a t.length cap] 73) = W at *
  have HS := hid' hsz
  clear hsz
  go_loopw [11] (fun i wr => ∃ k : Nat, k ≤ nd.length ∧ i = .int .i64 k ∧ Below W.heap.size W wr ∧ Hid (res = (nd.drop k).all fun n => meetsP t (tx f) n)) (fun i _ => nd.length - (intOf i).toNat)
  case atStart => exact ⟨0, Nat.zero_le _, rfl, Below.refl _ _, HR⟩
  case round =>
    obtain ⟨k, hk, rfl, hbel, hall⟩ := hrel
    have hz := hbel.size
    have hwW : w.heap.size < W.heap.size := by have := HS.out; omega
    have d0 := ((bcell hbel).1 w.heap.size 0 hwW).trans e0
    have hwr : w.heap.size < wr.heap.size := by omega
    by_cases hlt : k < nd.length
    · obtain ⟨g, o, cap', hv, hg, hc⟩ := (HN1.out.below hbel).1.needs hlt
      simp at hv
      obtain ⟨rfl, rfl⟩ := hv
      obtain ⟨c0, c1, c2⟩ := hc k hlt
      have hin := (HN1.out.below hbel).2 nd[k] (List.getElem_mem hlt)
      obtain ⟨sa, sc, hsp⟩ := hin.form
      have hba := (Below.refl wr.heap.size wr).alloc (Nat.le_refl _) (.cells #[.string (bs nd[k].name), nd[k].sp, .string (bs nd[k].text)] 105)
      have HMK := hid' (HM.out nd[k] _ ((HL1.out.below hbel).below hba) (hin.below hba))
      have HB2 := hid' (hbel.trans (hba.mono hz))
      have HY := hid' (gl_yes (fun n => meetsP t (tx f) n) nd k hlt)
      have HNO := hid' (gl_no (fun n => meetsP t (tx f) n) nd k hlt)
      clear hc hin hba
      generalize nd[k] = x at *
      obtain ⟨xn, xsp, xs, xt⟩ := x
      simp only at c0 c1 c2 hsp HMK HB2 HY HNO
      subst hsp
      generalize meetsP t (tx f) ⟨xn, .slice sa xs.length sc, xs, xt⟩ = bb at *
      go_wp2_with fail
      refine HMK.out.mono ?_
      rintro e w2 ⟨rfl, hb2⟩
      have HB3 := hid' (HB2.out.trans (hb2.mono (by simp; omega)))
      clear hb2
      cases bb
      · have HF : Hid (res = false) := by unfold Hid; rw [hall.out]; exact HNO.out rfl
        have HB4 := hid' (HW.out.trans (HB3.out.mono (by omega)))
        clear hall
        go_wp2
        go_ret
        exact ⟨ret_bool (by rw [HF.out]), HB4.out⟩
      · have HF : Hid (res = (nd.drop (k + 1)).all fun n => meetsP t (tx f) n) := by unfold Hid; rw [hall.out]; exact HY.out rfl
        clear hall
        go_wp2
        go_roundw
        case rel => exact ⟨k + 1, by omega, by go_num, HB3.out, HF⟩
        case measure => simp [intOf] <;> omega
    · have HF : Hid (res = true) := by unfold Hid; rw [hall.out, gl_end _ nd k hlt]
      have HB4 := hid' (HW.out.trans (hbel.mono (by omega)))
      clear hall
      go_wp2
      go_ret
      exact ⟨ret_bool (by rw [HF.out]), HB4.out⟩

set_option maxHeartbeats 2000000 in
theorem isSound_any (v : Value) (t : List PkX) (nv : Value) (nd : List NeedX) (w : World) (hl : PksIn w v t) (ht : t.length ≤ 1000) (hp : PathsOk t) (hn : NeedsIn w nv nd) (hnl : nd.length ≤ 1000) :
    Calls Tryz.prog 37 #[.agg #[v], nv] w fun e w' => e = .returned (.bool (soundP t nd)) ∧ Below w.heap.size w w' := by
  obtain ⟨a, cap, rfl⟩ := hl.1.form
  obtain ⟨na, nc, rfl⟩ := hn.1.form
  have hbw := (Below.refl w.heap.size w).alloc (Nat.le_refl _) (.cells #[.slice a t.length cap] 73)
  have HL1 := hid' (hl.below hbw)
  have HW := hid' hbw
  have e0 : (w.alloc (.cells #[.slice a t.length cap] 73)).cell? ⟨w.heap.size, 0, none⟩ = some (.slice a t.length cap) := by simp
  have hsz : (w.alloc (.cells #[.slice a t.length cap] 73)).heap.size = w.heap.size + 1 := by simp
  have HS1 := hid' (meetsAll_any (.slice a t.length cap) t ByteArray.empty (.slice na nd.length nc) nd _ (hl.below hbw) ht hp (by simp) (hn.below hbw) hnl)
  have HM := hid' (fun f nv nd w h hf hn hnl => meetsAll_any (.slice a t.length cap) t f nv nd w h ht hp hf hn hnl)
  have HP := hid' hp
  have HT : Hid (tx ByteArray.empty = []) := rfl
  rw [HT.out] at HS1
  have HR : Hid (soundP t nd = ((nd.all fun n => meetsP t [] n) && (t.drop 0).all fun p => p.e.nd.all fun n => meetsP t p.path n)) := rfl
  clear hl hn hbw hp
  generalize soundP t nd = res at *
  generalize (nd.all fun n => meetsP t [] n) = b1 at *
  go_enter Tryz.func37, Tryz.ntmps37
  go_wp2_with fail
  refine HS1.out.mono ?_
  rintro e w1 ⟨rfl, hb1⟩
  have hwW : w.heap.size < w1.heap.size := by have := hb1.size; omega
  have d0 := ((bcell hb1).1 w.heap.size 0 (by omega)).trans e0
  have HB1 := hid' (HW.out.trans (hb1.mono (by omega)))
  have HL2 := hid' (HL1.out.below hb1)
  clear hb1 e0 hsz HL1
  cases b1
  · have HF : Hid (res = false) := by unfold Hid; rw [HR.out]; rfl
    go_wp2
    go_ret
    exact ⟨ret_bool (by rw [HF.out]), HB1.out⟩
  · have HR2 : Hid (res = (t.drop 0).all fun p => p.e.nd.all fun n => meetsP t p.path n) := by unfold Hid; rw [HR.out]; rfl
    go_wp2
    go_loopw [14] (fun i wr => ∃ k : Nat, k ≤ t.length ∧ i = .int .i64 k ∧ Below w1.heap.size w1 wr ∧ Hid (res = (t.drop k).all fun p => p.e.nd.all fun n => meetsP t p.path n)) (fun i _ => t.length - (intOf i).toNat)
    case atStart => exact ⟨0, Nat.zero_le _, rfl, Below.refl _ _, HR2⟩
    case round =>
      obtain ⟨k, hk, rfl, hbel, hall⟩ := hrel
      have hz := hbel.size
      have f0 := ((bcell hbel).1 w.heap.size 0 hwW).trans d0
      have hwr : w.heap.size < wr.heap.size := by omega
      by_cases hlt : k < t.length
      · obtain ⟨g, o, cap', hv, hg, hc⟩ := (HL2.out.below hbel).1.pks hlt
        simp at hv
        obtain ⟨rfl, rfl⟩ := hv
        obtain ⟨c0, c1, c2, c3⟩ := hc k hlt
        have hin := (HL2.out.below hbel).2 t[k] (List.getElem_mem hlt)
        obtain ⟨sa, sc, hsp⟩ := hin.form'
        have hpk := HP.out t[k] (List.getElem_mem hlt)
        have hba := (Below.refl wr.heap.size wr).alloc (Nat.le_refl _) (.cells #[.string (bs t[k].path), .string (bs t[k].e.name), .int .i64 t[k].e.ver, t[k].e.needs] 113)
        have HMK := hid' (HM.out (bs t[k].path) t[k].e.needs t[k].e.nd _ ((HL2.out.below hbel).below hba) (by rw [bs_size]; omega) (hin.1.below hba) (by have := hin.2.1; omega))
        rw [tx_bs] at HMK
        have HB2 := hid' (hbel.trans (hba.mono hz))
        have HY := hid' (gl_yes (fun p : PkX => p.e.nd.all fun n => meetsP t p.path n) t k hlt)
        have HNO := hid' (gl_no (fun p : PkX => p.e.nd.all fun n => meetsP t p.path n) t k hlt)
        clear hc hin hba hpk
        generalize t[k] = x at *
        obtain ⟨xp, xn, xv, xsp, xd⟩ := x
        simp only at c0 c1 c2 c3 hsp HMK HB2 HY HNO
        subst hsp
        generalize (xd.all fun n => meetsP t xp n) = bb at *
        go_wp2_with fail
        refine HMK.out.mono ?_
        rintro e w2 ⟨rfl, hb2⟩
        have HB3 := hid' (HB2.out.trans (hb2.mono (by simp; omega)))
        clear hb2
        cases bb
        · have HF : Hid (res = false) := by unfold Hid; rw [hall.out]; exact HNO.out rfl
          have HB4 := hid' (HB1.out.trans (HB3.out.mono (by omega)))
          clear hall
          go_wp2
          go_ret
          exact ⟨ret_bool (by rw [HF.out]), HB4.out⟩
        · have HF : Hid (res = (t.drop (k + 1)).all fun p => p.e.nd.all fun n => meetsP t p.path n) := by unfold Hid; rw [hall.out]; exact HY.out rfl
          clear hall
          go_wp2
          go_roundw
          case rel => exact ⟨k + 1, by omega, by go_num, HB3.out, HF⟩
          case measure => simp [intOf] <;> omega
      · have HF : Hid (res = true) := by unfold Hid; rw [hall.out, gl_end _ t k hlt]
        have HB4 := hid' (HB1.out.trans (hbel.mono (by omega)))
        clear hall
        go_wp2
        go_ret
        exact ⟨ret_bool (by rw [HF.out]), HB4.out⟩

set_option maxHeartbeats 2000000 in
theorem allInUse_any (v : Value) (t : List PkX) (nv : Value) (nd : List NeedX) (w : World) (hl : PksIn w v t) (ht : t.length ≤ 1000) (hp : PathsOk t) (hn : NeedsIn w nv nd) (hnl : nd.length ≤ 1000) :
    Calls Tryz.prog 38 #[.agg #[v], nv] w fun e w' => e = .returned (.bool (decide ((inUseP t nv nd).length = t.length))) ∧ Below w.heap.size w w' := by
  obtain ⟨a, cap, rfl⟩ := hl.1.form
  obtain ⟨na, nc, rfl⟩ := hn.1.form
  have hbw := (Below.refl w.heap.size w).alloc (Nat.le_refl _) (.cells #[.slice a t.length cap] 73)
  have HI := hid' (inUse_any' (.slice a t.length cap) t (.slice na nd.length nc) nd _ (hl.below hbw) (hn.below hbw) ht hp hnl)
  have HW := hid' hbw
  have e0 : (w.alloc (.cells #[.slice a t.length cap] 73)).cell? ⟨w.heap.size, 0, none⟩ = some (.slice a t.length cap) := by simp
  have hsz : (w.alloc (.cells #[.slice a t.length cap] 73)).heap.size = w.heap.size + 1 := by simp
  clear hl hn hbw hp
  generalize inUseP t (.slice na nd.length nc) nd = u at *
  go_enter Tryz.func38, Tryz.ntmps38
  go_wp2_with fail
  refine HI.out.mono ?_
  rintro e w1 ⟨v', rfl, hin, hb1⟩
  obtain ⟨ua, uc, rfl⟩ := hin.1.form
  have hwW : w.heap.size < w1.heap.size := by have := hb1.size; omega
  have d0 := ((bcell hb1).1 w.heap.size 0 (by omega)).trans e0
  have HB1 := hid' (HW.out.trans (hb1.mono (by omega)))
  have hz1 := HB1.out.size
  clear hb1 e0 hsz hin
  have HE : Hid (((u.length : Int) == (t.length : Int)) = decide (u.length = t.length)) := by
    unfold Hid
    rw [Bool.eq_iff_iff, beq_iff_eq, decide_eq_true_iff]
    omega
  go_wp2
  go_ret
  exact ⟨ret_bool (by rw [HE.out]), HB1.out.alloc (by omega) _⟩

end Hst
end Go.Proofs.YtecocheolbkneaaGreatDoor
namespace Go.Proofs.YtecocheolbkneaaGreatDoor
open Go.RowKit
namespace Hst
set_option maxRecDepth 100000

theorem fe_yes (l : List EntX) (n : Tx) (v : Int) (k : Nat) (hk : k < l.length) (h : l[k].name = n) (h' : l[k].ver = v) : findE (l.drop k) n v = some l[k] := by
  rw [List.drop_eq_getElem_cons hk]; unfold findE; rw [List.find?_cons]; simp [h, h']
theorem fe_no (l : List EntX) (n : Tx) (v : Int) (k : Nat) (hk : k < l.length) (h : ¬ (l[k].name = n ∧ l[k].ver = v)) : findE (l.drop k) n v = findE (l.drop (k + 1)) n v := by
  rw [List.drop_eq_getElem_cons hk]; unfold findE; rw [List.find?_cons]
  have : (decide (l[k].name = n) && decide (l[k].ver = v)) = false := by
    simp only [Bool.and_eq_false_iff, decide_eq_false_iff_not]
    by_cases h1 : l[k].name = n
    · exact .inr fun h2 => h ⟨h1, h2⟩
    · exact .inl h1
  rw [this]
theorem fe_end (l : List EntX) (n : Tx) (v : Int) (k : Nat) (hk : ¬ k < l.length) : findE (l.drop k) n v = none := by
  rw [List.drop_of_length_le (by omega)]; rfl
/-- What Find answers: the entry where there is one. -/
def HitE (o : Option EntX) (x : EntX) : Prop := (∃ a n c, x.needs = .slice a n c) ∧ ∀ p, o = some p → x = p

set_option maxHeartbeats 2000000 in
theorem findE_any (v : Value) (l : List EntX) (n : ByteArray) (ver : Int) (w : World) (hl : EntsIn w v l) (hn : l.length ≤ 100000) :
    Calls Tryz.prog 148 #[.agg #[v], .string n, .int .i64 ver] w fun e w' => ∃ x, e = .returned (.tuple #[entXV x, .bool (findE l (tx n) ver).isSome]) ∧ Below w.heap.size w w' ∧ HitE (findE l (tx n) ver) x := by
  obtain ⟨a, cap, rfl⟩ := hl.1.form
  have HL := hid' hl
  clear hl
  go_enter Tryz.func148, Tryz.ntmps148
  go_wp2
  have hbw := ((Below.refl w.heap.size w).alloc (Nat.le_refl _) (.cells #[.slice a l.length cap] 69)).alloc (by simp) (.cells #[.string ⟨#[]⟩, .int .i64 0, .slice none 0 0] 111)
  have e := fun i => (show ((w.alloc (.cells #[.slice a l.length cap] 69)).alloc (.cells #[.string ⟨#[]⟩, .int .i64 0, .slice none 0 0] 111)).cell? ⟨w.heap.size + 1, i, none⟩ = #[Value.string ⟨#[]⟩, .int .i64 0, .slice none 0 0][i]? by simp)
  have ef := fun i => (show ((w.alloc (.cells #[.slice a l.length cap] 69)).alloc (.cells #[.string ⟨#[]⟩, .int .i64 0, .slice none 0 0] 111)).frozen? ⟨w.heap.size + 1, i, none⟩ = false by simp)
  have hsz : ((w.alloc (.cells #[.slice a l.length cap] 69)).alloc (.cells #[.string ⟨#[]⟩, .int .i64 0, .slice none 0 0] 111)).heap.size = w.heap.size + 2 := by simp
  generalize (w.alloc (.cells #[.slice a l.length cap] 69)).alloc (.cells #[.string ⟨#[]⟩, .int .i64 0, .slice none 0 0] 111) = W at *
  have HW := hid' hbw
  have HL1 := hid' (HL.out.below hbw)
  have HS := hid' hsz
  have HE := hid' e
  have HEF := hid' ef
  clear hbw hsz e ef
  go_loopw [13] (fun i wr => ∃ k : Nat, k ≤ l.length ∧ i = .int .i64 k ∧ Below W.heap.size W wr ∧ Hid (findE l (tx n) ver = findE (l.drop k) (tx n) ver)) (fun i _ => l.length - (intOf i).toNat)
  case atStart => exact ⟨0, Nat.zero_le _, rfl, Below.refl _ _, rfl⟩
  case round =>
    obtain ⟨k, hk, rfl, hbel, hall⟩ := hrel
    have hz := hbel.size
    have hwz : w.heap.size + 1 < W.heap.size := by have := HS.out; omega
    have hwr : w.heap.size + 1 < wr.heap.size := by omega
    obtain ⟨hcc, hff⟩ := bcell hbel
    have d0 := (hcc (w.heap.size + 1) 0 hwz).trans (HE.out 0)
    have d1 := (hcc (w.heap.size + 1) 1 hwz).trans (HE.out 1)
    have d2 := (hcc (w.heap.size + 1) 2 hwz).trans (HE.out 2)
    have g0 := (hff (w.heap.size + 1) 0 hwz).trans (HEF.out 0)
    have g1 := (hff (w.heap.size + 1) 1 hwz).trans (HEF.out 1)
    have g2 := (hff (w.heap.size + 1) 2 hwz).trans (HEF.out 2)
    simp at d0 d1 d2
    have HB := hid' (HW.out.trans (hbel.mono (by omega)))
    clear hcc hff
    by_cases hlt : k < l.length
    · obtain ⟨g, o, cap', hv, hg, hc⟩ := (HL1.out.below hbel).1.ents hlt
      simp at hv
      obtain ⟨rfl, rfl⟩ := hv
      obtain ⟨c0, c1, c2⟩ := hc k hlt
      obtain ⟨sa, sc, hsp⟩ := (HL.out.2 l[k] (List.getElem_mem hlt)).form
      clear hc
      by_cases he : l[k].name = tx n
      · have hb : ((bs l[k].name).toList == n.toList) = true := by rw [he, bs_tx]; simp
        by_cases hf : l[k].ver = ver
        · have HF : Hid (findE l (tx n) ver = some l[k]) := by unfold Hid; rw [hall.out, fe_yes l (tx n) ver k hlt he hf]
          have hb2 : (l[k].ver == ver) = true := by simp [hf]
          clear he hall hf
          generalize l[k] = x at *
          obtain ⟨xn, xv, xs, xd⟩ := x
          simp only at hsp c0 c1 c2 hb hb2
          subst hsp
          go_wp2
          refine bodyPost_ret (v := .tuple #[.agg #[.string (bs xn), .int .i64 xv, .slice sa xd.length sc], .bool true]) (by simp [results, Tryz.results148, go_sem, *]) rfl ⟨⟨xn, xv, .slice sa xd.length sc, xd⟩, by rw [HF.out]; rfl, ?_, ⟨_, _, _, rfl⟩, fun p h => by rw [HF.out] at h; simpa using h⟩
          exact (((HB.out.setCell (by simp) _).setCell (by simp) _).setCell (by simp) _).alloc (by simp; omega) _
        · have HF : Hid (findE l (tx n) ver = findE (l.drop (k + 1)) (tx n) ver) := by unfold Hid; rw [hall.out, fe_no l (tx n) ver k hlt (fun h => hf h.2)]
          have hb2 : (l[k].ver == ver) = false := beq_eq_false_iff_ne.2 hf
          clear he hall hf
          generalize l[k] = x at *
          go_wp2
          go_roundw
          case rel => exact ⟨k + 1, by omega, by go_num, hbel.alloc hz _, HF⟩
          case measure => simp [intOf] <;> omega
      · have HF : Hid (findE l (tx n) ver = findE (l.drop (k + 1)) (tx n) ver) := by unfold Hid; rw [hall.out, fe_no l (tx n) ver k hlt (fun h => he h.1)]
        have hb : ((bs l[k].name).toList == n.toList) = false := by rw [tx_toList, tx_toList, tx_bs]; simp [he]
        clear he hall
        generalize l[k] = x at *
        go_wp2
        go_roundw
        case rel => exact ⟨k + 1, by omega, by go_num, hbel.alloc hz _, HF⟩
        case measure => simp [intOf] <;> omega
    · have HF : Hid (findE l (tx n) ver = none) := by unfold Hid; rw [hall.out, fe_end l (tx n) ver k hlt]
      clear hall
      go_wp2
      refine bodyPost_ret (v := .tuple #[.agg #[.string ByteArray.empty, .int .i64 0, .slice none 0 0], .bool false]) (by simp [results, Tryz.results148, go_sem, *]; rfl) rfl ⟨zeroE, by rw [HF.out]; rfl, ?_, ⟨none, 0, 0, rfl⟩, fun p h => by rw [HF.out] at h; simp at h⟩
      exact ((HB.out.setCell (by simp) _).setCell (by simp) _).setCell (by simp) _

end Hst
end Go.Proofs.YtecocheolbkneaaGreatDoor
