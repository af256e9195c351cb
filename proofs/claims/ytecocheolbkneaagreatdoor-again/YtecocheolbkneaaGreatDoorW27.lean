/- Ploady, Mload, Mloads, Pslimd, Tslim, Mslim -/
import Derived.Test.YtecocheolbkneaaGreatDoorW26
import Derived.Test.YtecocheolbkneaaGreatDoorW25
import Derived.Test.YtecocheolbkneaaGreatDoorW21
import Derived.Test.YtecocheolbkneaaGreatDoorW24
import Derived.Test.YtecocheolbkneaaGreatDoorW09
import Derived.Test.YtecocheolbkneaaGreatDoorW23
namespace Go.Proofs.YtecocheolbkneaaGreatDoor
open Go.RowKit
namespace Hst
set_option maxRecDepth 100000

attribute [local go_sem ↓] Go.wp_at_zero Go.wp_at_succ

set_option maxHeartbeats 8000000 in
theorem load_any' (b : Nat) (s : SiteX) (p : ByteArray) (w : World) (hs : SAt w b s) (hok : SOk s) :
    Calls Tryz.prog 14 #[.pointer (some ⟨b, 0, none⟩), .string p] w fun e w' => e = .returned (.int .i64 (loadP s (tx p)).2) ∧ SMv b w w' ∧ SAt w' b (loadP s (tx p)).1 := by
  obtain ⟨v0, e0, r0⟩ := hs.stock
  obtain ⟨sa, sc, rfl⟩ := r0.1.form
  have hlt := hs.lt
  have hnl := hok.nd
  have HP := hid' (tparse_any p (.slice sa s.stock.length sc) s.stock w r0 (by have := hok.st.1; omega))
  have HS := hid' hs
  by_cases hk : parseK s.stock (tx p) = 0
  · obtain ⟨h4, t, ht⟩ := parse_zero hk
    have hlen := packsP_len ht (by omega)
    have L1 := hid' (ld_sound h4 ht)
    have L2 := hid' (ld_use h4 ht)
    have L3 := hid' (ld_good h4 ht)
    have HPK : Hid (∀ t', parseK s.stock (tx p) = 0 → packsP s.stock (tx p) = some t' → t' = t) := fun t' _ h => by rw [ht] at h; exact (Option.some.inj h).symm
    have HT := hid' ht
    have HK := hid' hk
    rw [hk] at HP
    clear hk h4 ht hs hok r0
    generalize loadP s (tx p) = res at *
    have htl := hlen.1
    have HPO : Hid (PathsOk t) := fun q hq => by have := hlen.2 q hq; omega
    clear hlen
    go_enter Tryz.func14, Tryz.ntmps14
    go_wp2_with fail
    refine HP.out.mono ?_
    rintro e w1 ⟨a, n, c, rfl, hb1, hpk⟩
    have hpk1 := hpk t (by first | rfl | trivial) HT.out
    obtain ⟨a', c', hf⟩ := hpk1.1.form
    simp at hf
    obtain ⟨rfl, rfl, rfl⟩ := hf
    have hba := (Below.refl w1.heap.size w1).alloc (Nat.le_refl _) (.cells #[.slice a t.length c] 73)
    have HS2 := hid' ((HS.out.below hb1).below hba)
    have HM2 := hid' (SMv.of_below (b := b) (hb1.trans (hba.mono hb1.size)))
    have HPK2 := hid' (hpk1.below hba)
    obtain ⟨e1, r1⟩ := HS2.out.needs
    obtain ⟨na, nc, hnf⟩ := r1.1.form
    rw [hnf] at e1 r1
    have HNF := hid' hnf
    have HR1 := hid' r1
    have q0 : (w1.alloc (.cells #[.slice a t.length c] 73)).cell? ⟨w1.heap.size, 0, none⟩ = some (.slice a t.length c) := by simp
    have hsz : (w1.alloc (.cells #[.slice a t.length c] 73)).heap.size = w1.heap.size + 1 := by simp
    have hb2 := HS2.out.lt
    have HSO := hid' (fun w h1 h2 => isSound_any (.slice a t.length c) t (.slice na s.needs.length nc) s.needs w h1 (by omega) HPO.out h2 (by omega))
    have HAU := hid' (fun w h1 h2 => allInUse_any (.slice a t.length c) t (.slice na s.needs.length nc) s.needs w h1 (by omega) HPO.out h2 (by omega))
    rw [HNF.out] at L2 L3
    clear hpk hpk1 hb1 hba r1 hnf HPK HP
    generalize soundP t s.needs = sb at *
    generalize decide ((inUseP t (.slice na s.needs.length nc) s.needs).length = t.length) = ub at *
    go_wp2
    generalize w1.alloc (.cells #[.slice a t.length c] 73) = V at *
    have hV1 : w1.heap.size < V.heap.size := by omega
    clear hsz
    go_region_held3 (fun w' => w'.cell? ⟨b, 1, none⟩ = some (.slice na s.needs.length nc) ∧ w'.cell? ⟨w1.heap.size, 0, none⟩ = some (.slice a t.length c)) (go_keep)
      (first | (go_at_call 37; refine (HSO.out _ (by first | exact HPK2.out | exact HPK2.out.below (Below.refl _ _).drew) (by first | exact HR1.out | exact HR1.out.below (Below.refl _ _).drew)).mono ?_; rintro e w2 ⟨rfl, hb2'⟩; have hz2 := (bcell hb2').1; simp at hz2))
    have hb3 := (Below.refl V.heap.size V).drew.trans (hb2'.mono (by simp))
    have HS3 := hid' (HS2.out.below hb3)
    have HM3 := hid' (HM2.out.trans (SMv.of_below (b := b) hb3))
    have HPK3 := hid' (HPK2.out.below hb3)
    have HR3 := hid' (HR1.out.below hb3)
    have hcc := (bcell hb3).1
    have p0 := (hcc w1.heap.size 0 hV1).trans q0
    have p1 := (hcc b 1 hb2).trans e1
    have h12 : w1.heap.size < w2.heap.size := by have := hb3.size; omega
    have hb2s := HS3.out.lt
    clear hb2' hb3 hcc hz2 q0 e1 HR1 HPK2 HSO
    cases sb
    · have HF := hid' (L1.out rfl)
      go_wp2
      go_ret
      exact ⟨ret_int (by rw [HF.out]), HM3.out, by rw [HF.out]; exact HS3.out⟩
    · have L2' := hid' (L2.out (by first | rfl | trivial))
      have L3' := hid' (L3.out (by first | rfl | trivial))
      clear L1 L2 L3
      go_wp2
      go_region_held3 (fun w' => w'.cell? ⟨b, 1, none⟩ = some (.slice na s.needs.length nc) ∧ w'.cell? ⟨w1.heap.size, 0, none⟩ = some (.slice a t.length c)) (go_keep)
        (first | (go_at_call 38; refine (HAU.out _ (by first | exact HPK3.out | exact HPK3.out.below (Below.refl _ _).drew) (by first | exact HR3.out | exact HR3.out.below (Below.refl _ _).drew)).mono ?_; rintro e w3 ⟨rfl, hb3'⟩; have hz3 := (bcell hb3').1; simp at hz3))
      have hb4 := (Below.refl w2.heap.size w2).drew.trans (hb3'.mono (by simp))
      have HS4 := hid' (HS3.out.below hb4)
      have HM4 := hid' (HM3.out.trans (SMv.of_below (b := b) hb4))
      have HPK4 := hid' (HPK3.out.below hb4)
      have hcc := (bcell hb4).1
      have s0 := (hcc w1.heap.size 0 h12).trans p0
      have h13 : w1.heap.size < w3.heap.size := by have := hb4.size; omega
      have hb3s := HS4.out.lt
      clear hb3' hb4 hcc hz3 p0 p1 HR3 HPK3 HAU
      cases ub
      · have HF := hid' (L2'.out (by first | rfl | trivial))
        go_wp2
        go_ret
        exact ⟨ret_int (by rw [HF.out]), HM4.out, by rw [HF.out]; exact HS4.out⟩
      · have HF := hid' (L3'.out (by first | rfl | trivial))
        obtain ⟨tv, t2, rt⟩ := HS4.out.tree
        have f2 := HS4.out.f2
        have HSS := hid' (HS4.out.setT HPK4.out)
        clear rt
        go_wp2
        go_ret
        exact ⟨ret_int (by rw [HF.out]), HM4.out.trans (SMv.set _ b 2 _), by rw [HF.out, ← HNF.out]; exact HSS.out⟩
  · have HF := hid' (ld_err hk)
    have hkb : (parseK s.stock (tx p) == 0) = false := beq_eq_false_iff_ne.2 hk
    clear hk hs hok r0
    generalize loadP s (tx p) = res at *
    generalize parseK s.stock (tx p) = kk at *
    go_enter Tryz.func14, Tryz.ntmps14
    go_wp2_with fail
    refine HP.out.mono ?_
    rintro e w1 ⟨a, n, c, rfl, hb1, -⟩
    have hba := hb1.alloc hb1.size (.cells #[.slice a n c] 73)
    have HR := hid' (And.intro (SMv.of_below (b := b) hba) (HS.out.below hba))
    clear hb1 hba
    go_wp2
    go_ret
    exact ⟨ret_int (by rw [HF.out]), HR.out.1, by rw [HF.out]; exact HR.out.2⟩

end Hst
end Go.Proofs.YtecocheolbkneaaGreatDoor
namespace Go.Proofs.YtecocheolbkneaaGreatDoor
namespace Hst

/-! ### what the document reads -/
structure ReadOk (st : List EntryD) (p : PackD) : Prop where
  of : p.of < st.length
  ver : versionR (vtx (verOf st p.of)) = (verOf st p.of, true)
  n59 : ∀ x ∈ txtD st p, x ≠ 59
  n64 : ∀ x ∈ p.path, x ≠ 64
  nm : (lastR p.path).1 = (st.getD p.of zeroD).name
theorem read_ok {stx : List EntX} {st : List EntryD} (hs : StockSame stx st) : ∀ (d : List Tx) (l : List PackD), (∀ p ∈ d, ∀ x ∈ p, x ≠ 59) → (∀ p ∈ l, ReadOk st p) → Climbs (fun p => p.path) l → (∀ p ∈ readGo st l d, ReadOk st p) ∧ Climbs (fun p => p.path) (readGo st l d)
  | [], l, _, hl, hc => by rw [readGo]; exact ⟨hl, hc⟩
  | x :: r, l, hd, hl, hc => by
    have hr : ∀ p ∈ r, ∀ x ∈ p, x ≠ 59 := fun p hp => hd p (List.mem_cons_of_mem _ hp)
    rw [readGo]
    by_cases hv : (versionR (cutR 64 x).2.1).2 = true
    · rw [if_pos hv]
      rcases entry_same hs (name := (lastR (cutR 64 x).1).1) (versionR_valid _ hv) with ⟨k, e1, hk, _, e3, e4⟩ | ⟨e1, _⟩
      · rw [e1]
        simp only
        have hvt := version_text hv
        rw [placedR_ins]
        refine read_ok hs r _ hr (fun p hp => ?_) (insG_climbs _ _ _ hc)
        rcases (insX_mem _ _ _ _).1 hp with rfl | hp
        · have hxt : txtD st ⟨(cutR 64 x).1, k⟩ = x ∧ ∀ y ∈ (cutR 64 x).1, y ≠ 64 := by
            rcases hcut : cutR 64 x with ⟨h, v, b⟩
            rcases b with _ | _
            · have := cut_none x h v hcut
              rw [hcut] at hv
              simp only at hv
              rw [this] at hv
              simp [versionR, splitL] at hv
            · obtain ⟨g1, g2⟩ := cut_eq x h v hcut
              rw [hcut] at hvt e4
              simp only at hvt e4
              refine ⟨?_, g2⟩
              unfold txtD
              simp only
              rw [e4, ← hvt]
              exact g1.symm
          refine ⟨by rw [← hs.all.len]; exact hk, ?_, by rw [hxt.1]; exact hd x (by simp), hxt.2, ?_⟩
          · simp only
            rw [e4, ← hvt]
            exact Prod.ext rfl hv
          · simp only
            rw [← (hs.at hk).name, e3]
        · exact hl p hp
      · rw [e1]
        exact read_ok hs r l hr hl hc
    · rw [if_neg hv]
      exact read_ok hs r l hr hl hc
theorem hangs_spec {l : List PackD} (h : hangsR l = true) : ∀ (k : Nat) (hk : k < l.length), atR l l[k].path = some k ∧ (folderP l[k].path = [] ∨ ∃ b ∈ l, b.path = folderP l[k].path) := by
  have go : ∀ (m i : Nat), i + m = l.length → hangsGo l i (l.drop i) = true → ∀ (k : Nat) (hk : k < l.length), i ≤ k → atR l l[k].path = some k ∧ (folderP l[k].path = [] ∨ ∃ b ∈ l, b.path = folderP l[k].path) := by
    intro m
    induction m with
    | zero => intro i hi _ k hk hik; omega
    | succ m ih =>
      intro i hi hg k hk hik
      have hlt : i < l.length := by omega
      rw [List.drop_eq_getElem_cons hlt, hangsGo, lastR_snd] at hg
      by_cases hc : (!decide (atR l l[i].path = some i) || (decide (0 < (folderP l[i].path).length) && (atR l (folderP l[i].path)).isNone)) = true
      · rw [if_pos hc] at hg; exact absurd hg (by simp)
      · rw [if_neg hc] at hg
        by_cases e : k = i
        · subst e
          have hc : (!decide (atR l l[k].path = some k) || (decide (0 < (folderP l[k].path).length) && (atR l (folderP l[k].path)).isNone)) = false := Bool.eq_false_iff.2 hc
          rw [Bool.or_eq_false_iff, Bool.and_eq_false_iff] at hc
          refine ⟨by simpa using hc.1, ?_⟩
          rcases hc.2 with h1 | h1
          · left
            have := of_decide_eq_false h1
            exact List.length_eq_zero_iff.1 (by omega)
          · right
            rcases ea : atR l (folderP l[k].path) with _ | j
            · rw [ea] at h1; simp at h1
            · obtain ⟨_, h2, h3⟩ := atR_some ea
              exact ⟨_, h2, h3⟩
        · exact ih (i + 1) (by omega) hg k hk (by omega)
  exact fun k hk => go l.length 0 (by omega) h k hk (by omega)
theorem rises_of_hangs {l : List PackD} (hc : Climbs (fun p => p.path) l) (h : hangsR l = true) : Rises (fun p => p.path) l := by
  unfold Rises
  rw [List.pairwise_iff_getElem]
  intro i j hi hj hij
  have h1 := List.pairwise_iff_getElem.1 hc i j hi hj hij
  rcases less_tri l[i].path l[j].path with t | t | t
  · exact t
  · have a1 := (hangs_spec h i hi).1
    have a2 := (hangs_spec h j hj).1
    rw [t, a2] at a1
    have := Option.some.inj a1
    omega
  · rw [t] at h1; exact absurd h1 (by simp)
theorem all_paths {stx : List EntX} {st : List EntryD} (hs : StockSame stx st) {l : List PackD} (hr : ∀ p ∈ l, ReadOk st p) (h : hangsR l = true) : ∀ (n : Nat) (p : PackD), p ∈ l → p.path.length ≤ n → isPathP p.path = true
  | n, p, hp, hn => by
    have ho := hr p hp
    have hnm : isNameR (lastR p.path).1 = true := by
      rw [ho.nm]
      exact (hs.at (by rw [hs.all.len]; exact ho.of)).isn
    refine last_path hnm ?_
    rw [lastR_snd]
    obtain ⟨k, hk, e⟩ := List.mem_iff_getElem.1 hp
    rcases (hangs_spec h k hk).2 with e1 | ⟨b, hb, e1⟩
    · left; rw [← e]; exact e1
    · rw [e] at e1
      by_cases h0 : p.path = []
      · left; rw [h0]; rfl
      · have hlt := folderP_lt h0
        right
        rw [← e1] at hlt ⊢
        match n with
        | 0 => omega
        | n + 1 => exact all_paths hs hr h n b hb (by omega)
/-- What the document reads, the program reads. -/
theorem go_back {stx : List EntX} {st : List EntryD} (hs : StockSame stx st) {l : List PackD} (hr : ∀ p ∈ l, ReadOk st p) (h : hangsR l = true) (hri : Rises (fun p => p.path) l) : ∀ (l1 l0 : List PackD) (last : Tx), l = l0 ++ l1 → (∀ q ∈ l1, less last q.path = true) → (packsGo stx (l0.map (toX stx)) last (l1.map (txtD st))).isSome = true
  | [], l0, last, _, _ => by rw [List.map_nil, packsGo]; rfl
  | p :: l1, l0, last, e, hl => by
    have hpl : p ∈ l := by rw [e]; simp
    have ho := hr p hpl
    have hpa := all_paths hs hr h _ p hpl (Nat.le_refl _)
    obtain ⟨hne, hnm, hjoin, hlst⟩ := path_last hpa
    have hk : p.of < stx.length := by rw [hs.all.len]; exact ho.of
    have hval := hs.val p.of ho.of
    rw [List.map_cons, packsGo]
    have hpk : packP stx (txtD st p) = some (toX stx p) := by
      unfold packP
      have hcut : cutR 64 (txtD st p) = (p.path, vtx (verOf st p.of), true) := cut_mid _ _ ho.n64
      rw [hcut]
      simp only
      rw [if_neg (by rw [hpa]; simp)]
      have hv : versionP (vtx (verOf st p.of)) = some (place (verOf st p.of)) := by
        have := versionP_of (l := vtx (verOf st p.of)) (by rw [ho.ver])
        rw [ho.ver] at this
        exact this
      rw [hv]
      simp only
      have hnme : (stx.getD p.of zeroE).name = nameP p.path := by
        rw [(hs.at hk).name, ← ho.nm, hlst]
      rcases entry_same hs (name := nameP p.path) hval with ⟨k, _, hk2, e2, e3, e4⟩ | ⟨_, e2⟩
      · have hko : k = p.of := hs.one k p.of hk2 hk (by rw [e3, hnme]) (by rw [(hs.ver hk2).1, (hs.ver hk).1, e4])
        rw [e2, hko]
        rfl
      · exfalso
        have hin : stx.getD p.of zeroE ∈ stx := by
          rw [List.getD_eq_getElem?_getD, List.getElem?_eq_getElem hk]
          exact List.getElem_mem _
        have := List.find?_eq_none.1 e2 _ hin
        exact this (by rw [hnme, (hs.ver hk).1]; simp)
    rw [hpk]
    simp only
    have hlp : less last (toX stx p).path = true := hl p (by simp)
    rw [if_neg (by rw [hlp]; simp)]
    have hri' := hri
    rw [e] at hri'
    have hri2 := List.pairwise_append.1 hri'
    have hri3 := List.pairwise_cons.1 hri2.2.1
    have hfo : hasFolderP (l0.map (toX stx)) (toX stx p).path = true := by
      unfold hasFolderP
      have ep : (toX stx p).path = p.path := rfl
      rw [ep]
      obtain ⟨j, hj, ej⟩ := List.mem_iff_getElem.1 hpl
      rcases (hangs_spec h j hj).2 with e1 | ⟨b, hb, e1⟩
      · rw [ej] at e1; rw [e1]; simp
      · rw [ej] at e1
        by_cases hf0 : folderP p.path = []
        · rw [hf0]; simp
        · rw [Bool.or_eq_true]
          right
          have hlt : less b.path p.path = true := by
            rw [e1]
            have hj2 : p.path = folderP p.path ++ ([47] ++ nameP p.path) := by
              have := hjoin
              unfold joinR at this
              rw [if_neg hf0, List.append_assoc] at this
              exact this
            have := less_longer (folderP p.path) ([47] ++ nameP p.path) (by simp)
            rw [← hj2] at this
            exact this
          have hb0 : b ∈ l0 := by
            rw [e] at hb
            rcases List.mem_append.1 hb with hb | hb
            · exact hb
            · rcases List.mem_cons.1 hb with rfl | hb
              · rw [less_irr] at hlt; exact absurd hlt (by simp)
              · have := hri3.1 b hb
                rw [less_asymm this] at hlt
                exact absurd hlt (by simp)
          unfold hasAtP
          rw [List.any_eq_true]
          exact ⟨toX stx b, List.mem_map.2 ⟨b, hb0, rfl⟩, decide_eq_true e1⟩
    rw [if_neg (by rw [hfo]; simp)]
    have hwith : withP (l0.map (toX stx)) (toX stx p) = (l0 ++ [p]).map (toX stx) := by
      unfold withP
      rw [insX_end _ _ _ fun y hy => by
        obtain ⟨q, hq, rfl⟩ := List.mem_map.1 hy
        exact hri2.2.2 q hq p (by simp)]
      rw [List.map_append]
      rfl
    rw [hwith]
    exact go_back hs hr h hri l1 (l0 ++ [p]) p.path (by rw [e]; simp) fun q hq => hri3.1 q hq
/-- What the document asks of a text, first. -/
def textBad (st : List EntryD) (t : Tx) : Bool := !decide (textR st (readR st t) = t) || (!hangsR (readR st t) || decide (40 < (readR st t).length))
theorem packs_read {stx : List EntX} {st : List EntryD} (hs : StockSame stx st) (t : Tx) :
    (packsP stx t = none ∧ textBad st t = true) ∨ ∃ tr, packsP stx t = some tr ∧ textBad st t = false ∧ tr = (readR st t).map (toX stx) ∧ TreeSame stx (readR st t) tr ∧ Folded (readR st t) ∧ (readR st t).length ≤ 40 := by
  have fwd : ∀ tr, t ≠ [] → ¬ 40 < (splitL 59 t).length → packsGo stx [] [] (splitL 59 t) = some tr → textBad st t = false ∧ tr = (readR st t).map (toX stx) ∧ TreeSame stx (readR st t) tr ∧ Folded (readR st t) ∧ (readR st t).length ≤ 40 := by
    intro tr h0 h40 hg
    obtain ⟨g1, g2, g3, g4, g5⟩ := go_read hs (splitL 59 t) [] [] tr hg (TreeSame.nil stx) (Rises.nil _) (by intro p hp; simp at hp) (by simp)
    have e : readGo st [] (splitL 59 t) = readR st t := rfl
    rw [e] at g1 g2 g3 g4 g5
    simp only [List.map_nil, List.nil_append] at g5
    have hlen : (readR st t).length = (splitL 59 t).length := by rw [← g5, List.length_map]
    have htx : textR st (readR st t) = t := by
      rw [textR_join, g5]
      exact join_split 59 t
    have hh : hangsR (readR st t) = true := hangs_of g2.nd g4 fun p hp => by
      rw [g2.wf p hp]
      exact join_ne (name_ne (g2.nm p hp))
    refine ⟨?_, g1, g2, g4, by omega⟩
    unfold textBad
    rw [htx, hh]
    simp
    omega
  by_cases h0 : t = []
  · right
    subst h0
    have hr : readR st [] = [] := by
      unfold readR
      simp [splitL, readGo, cutR, versionR]
    refine ⟨[], pcs_nil rfl, ?_, by rw [hr]; rfl, by rw [hr]; exact TreeSame.nil _, by rw [hr]; intro p hp; simp at hp, by rw [hr]; simp⟩
    unfold textBad
    rw [hr]
    rfl
  · rcases hp : packsP stx t with _ | tr
    · left
      refine ⟨rfl, ?_⟩
      rcases hb : textBad st t with _ | _
      · exfalso
        unfold textBad at hb
        rw [Bool.or_eq_false_iff, Bool.or_eq_false_iff] at hb
        have htx : textR st (readR st t) = t := by simpa using hb.1
        have hh : hangsR (readR st t) = true := by simpa using hb.2.1
        have h40 : ¬ 40 < (readR st t).length := of_decide_eq_false hb.2.2
        obtain ⟨hro, hcl⟩ := read_ok hs (splitL 59 t) [] (fun p hp x hx e => splitL_no 59 t p hp x hx (by rw [e]; rfl)) (by simp) (by simp [Climbs])
        have e : readGo st [] (splitL 59 t) = readR st t := rfl
        rw [e] at hro hcl
        have hri := rises_of_hangs hcl hh
        have hne : readR st t ≠ [] := fun e => by
          rw [e] at htx
          exact h0 htx.symm
        have hsp : splitL 59 t = (readR st t).map (txtD st) := by
          have h59 : ((59 : UInt8).toNat : Int) = 59 := rfl
          have := split_join 59 ((readR st t).map (txtD st)) (by simpa using hne) fun p hp x hx => by
            obtain ⟨q, hq, rfl⟩ := List.mem_map.1 hp
            exact (hro q hq).n59 x hx
          rw [← textR_join, htx, h59] at this
          exact this
        have hback := go_back hs hro hh hri (readR st t) [] [] rfl fun q hq => less_nil (path_last (all_paths hs hro hh _ q hq (Nat.le_refl _))).1
        rw [List.map_nil, ← hsp] at hback
        have hlen : (splitL 59 t).length = (readR st t).length := by rw [hsp, List.length_map]
        unfold packsP at hp
        rw [if_neg h0, if_neg (by omega)] at hp
        rw [hp] at hback
        exact absurd hback (by simp)
      · rfl
    · right
      have hp' := hp
      unfold packsP at hp'
      rw [if_neg h0] at hp'
      by_cases h40 : 40 < (splitL 59 t).length
      · rw [if_pos h40] at hp'; exact absurd hp' (by simp)
      · rw [if_neg h40] at hp'
        obtain ⟨g1, g2, g3, g4, g5⟩ := fwd tr h0 h40 hp'
        exact ⟨tr, rfl, g1, g2, g3, g4, g5⟩

end Hst
end Go.Proofs.YtecocheolbkneaaGreatDoor
namespace Go.Proofs.YtecocheolbkneaaGreatDoor
open Go.RowKit
namespace Hst

theorem meets_all {stx : List EntX} {st : List EntryD} {l : List PackD} {t : List PkX} (hs : StockSame stx st) (ht : TreeSame stx l t) (path : Tx) : ∀ {a : List NeedX} {b : List NeedD}, All2 NeedSame a b → (a.all fun n => meetsP t path n) = (b.map fun n => (⟨path, n⟩ : WhoD)).all fun w => metR st l w
  | [], [], _ => rfl
  | x :: a, y :: b, h => by
    rw [List.all_cons, List.map_cons, List.all_cons, met_same hs ht h.1 path, meets_all hs ht path h.2]
  | [], _ :: _, h => False.elim h
  | _ :: _, [], h => False.elim h
theorem sound_same {stx : List EntX} {st : List EntryD} {ndx : List NeedX} {nd : List NeedD} {l : List PackD} {t : List PkX} (hs : StockSame stx st) (ht : TreeSame stx l t) (he : t = l.map (toX stx)) (hn : All2 NeedSame ndx nd) : soundP t ndx = allMetR st l (allR st nd l) := by
  unfold soundP allMetR allR
  rw [List.all_append, meets_all hs ht [] hn]
  congr 1
  have go : ∀ m : List PackD, (∀ p ∈ m, p ∈ l) → ((m.map (toX stx)).all fun p => p.e.nd.all fun n => meetsP t p.path n) = (m.flatMap fun p => (needsOf st p.of).map fun n => (⟨p.path, n⟩ : WhoD)).all fun w => metR st l w := by
    intro m
    induction m with
    | nil => intro _; rfl
    | cons p m ih =>
      intro hm
      rw [List.map_cons, List.all_cons, List.flatMap_cons, List.all_append, ih fun q hq => hm q (List.mem_cons_of_mem _ hq)]
      congr 1
      exact meets_all hs ht p.path (needsOf_same hs (ht.of p (hm p (by simp)))).1
  conv => lhs; rw [he]
  rw [← he]
  have := go l fun p hp => hp
  rw [← he] at this
  exact this
theorem load_same {sx : SiteX} {sd : SiteD} (h : SiteSame sx sd) (t : Tx) : (loadR sd t).2 = (loadP sx t).2 ∧ SiteSame (loadP sx t).1 (loadR sd t).1 := by
  by_cases h4 : 4000 < t.length
  · rw [lr_long h4]
    unfold loadP
    rw [if_pos h4]
    exact ⟨rfl, h⟩
  · rcases packs_read h.st t with ⟨h1, h2⟩ | ⟨tr, h1, h2, h3, h5, h6, h7⟩
    · rw [lr_text h4 h2]
      unfold loadP
      rw [if_neg h4, h1]
      exact ⟨rfl, h⟩
    · have hso := sound_same h.st h5 h3 h.nd
      obtain ⟨hu1, hu2⟩ := inUse_same h.st (siteNeeds_of h.nd h.rs) h5 sx.nv
      have hlen : (inUseP tr sx.nv sx.needs).length = (inUseR sd.stock sd.needs (readR sd.stock t)).length := by
        rw [hu1, List.length_map, used_len h5.nd]
      have htl := h5.len
      rcases hs : soundP tr sx.needs with _ | _
      · rw [ld_sound h4 h1 hs, lr_use h4 h2 (by rw [← hso, hs]; rfl)]
        exact ⟨rfl, h⟩
      · rcases hu : decide ((inUseP tr sx.nv sx.needs).length = tr.length) with _ | _
        · rw [ld_use h4 h1 hs hu, lr_use h4 h2 (by rw [← hlen, ← htl, hu]; simp)]
          exact ⟨rfl, h⟩
        · rw [ld_good h4 h1 hs hu, lr_good h4 h2 (by rw [← hso, hs, ← hlen, ← htl, hu]; rfl)]
          exact ⟨rfl, ⟨h.st, h.h6, h.s40, h.nd, h.rs, h.n6, h5, h3, h7, h6⟩⟩

end Hst
end Go.Proofs.YtecocheolbkneaaGreatDoor
namespace Go.Proofs.YtecocheolbkneaaGreatDoor
namespace Hst

/-- The path begins with the other and a slash. -/
def isUnderP (p x : Tx) : Bool := decide (p.take (x.length + 1) = x ++ [47])
def withoutP (t : List PkX) (x : Tx) : List PkX := t.filter fun p => !decide (p.path = x) && !isUnderP p.path x
def pkPath (t : List PkX) (i : Nat) : Tx := (t.map fun p => p.path).getD i []
def spareGoP (nd : List NeedX) (t : List PkX) : Nat → Option (List PkX)
  | 0 => none
  | i + 1 => if soundP (withoutP t (pkPath t i)) nd = true then some (withoutP t (pkPath t i)) else spareGoP nd t i
def spareP (nd : List NeedX) (t : List PkX) : Option (List PkX) := spareGoP nd t t.length
def slimGoP (nv : Value) (nd : List NeedX) : Nat → List PkX → List PkX
  | 0, t => t
  | f + 1, t => match spareP nd t with
    | none => t
    | some m => slimGoP nv nd f (inUseP m nv nd)
def slimTP (nv : Value) (nd : List NeedX) (t : List PkX) : List PkX := slimGoP nv nd t.length t
def slimP (s : SiteX) : SiteX × Int := (⟨s.stock, s.needs, s.nv, slimTP s.nv s.needs s.tree⟩, (s.tree.length : Int) - ((slimTP s.nv s.needs s.tree).length : Int))

end Hst
end Go.Proofs.YtecocheolbkneaaGreatDoor
namespace Go.Proofs.YtecocheolbkneaaGreatDoor
namespace Hst
set_option maxRecDepth 100000

/-- The tree without what stands at a path or below it. -/
def withoutR (l : List PackD) (x : Tx) : List PackD := l.filter fun p => !hasR (foldersR p.path) x
/-- The tree without the last package (of the first i) that can be spared. -/
def spareGo (st : List EntryD) (nd : List NeedD) (l : List PackD) : Nat → Option (List PackD)
  | 0 => none
  | i + 1 => if allMetR st (withoutR l (packAt l i).path) (allR st nd (withoutR l (packAt l i).path)) = true then some (withoutR l (packAt l i).path) else spareGo st nd l i
def spareR (st : List EntryD) (nd : List NeedD) (l : List PackD) : Option (List PackD) := spareGo st nd l l.length
def slimGo (st : List EntryD) (nd : List NeedD) : Nat → List PackD → List PackD
  | 0, l => l
  | f + 1, l => match spareR st nd l with
    | none => l
    | some m => slimGo st nd f (prunedR st nd m)
def slimL (st : List EntryD) (nd : List NeedD) (l : List PackD) : List PackD := slimGo st nd l.length l
theorem wtd_yes (l acc : List PackD) (x : Tx) (k : Nat) (hk : k < l.length) (h : hasR (foldersR l[k].path) x = false) : acc ++ withoutR (l.drop k) x = (acc ++ [l[k]]) ++ withoutR (l.drop (k + 1)) x := by
  unfold withoutR; rw [List.drop_eq_getElem_cons hk, List.filter_cons_of_pos (by rw [h]; rfl)]; simp
theorem wtd_no (l acc : List PackD) (x : Tx) (k : Nat) (hk : k < l.length) (h : hasR (foldersR l[k].path) x = true) : acc ++ withoutR (l.drop k) x = acc ++ withoutR (l.drop (k + 1)) x := by
  unfold withoutR; rw [List.drop_eq_getElem_cons hk, List.filter_cons_of_neg (by rw [h]; simp)]
theorem wtd_end (l acc : List PackD) (x : Tx) (k : Nat) (hk : ¬ k < l.length) : acc ++ withoutR (l.drop k) x = acc := by
  rw [List.drop_of_length_le (by omega)]; simp [withoutR]
theorem wtd_mem {l : List PackD} {x : Tx} {p : PackD} (h : p ∈ withoutR l x) : p ∈ l := (List.mem_filter.1 h).1
theorem wtd_len (l : List PackD) (x : Tx) : (withoutR l x).length ≤ l.length := List.length_filter_le _ _
theorem spg_yes {st : List EntryD} {nd : List NeedD} {l : List PackD} {i : Nat} (h : allMetR st (withoutR l (packAt l i).path) (allR st nd (withoutR l (packAt l i).path)) = true) : spareGo st nd l (i + 1) = some (withoutR l (packAt l i).path) := by rw [spareGo, if_pos h]
theorem spg_no {st : List EntryD} {nd : List NeedD} {l : List PackD} {i : Nat} (h : allMetR st (withoutR l (packAt l i).path) (allR st nd (withoutR l (packAt l i).path)) = false) : spareGo st nd l (i + 1) = spareGo st nd l i := by rw [spareGo, if_neg (by rw [h]; simp)]
theorem prg_ok (used : List Tx) : ∀ (l out : List PackD), (prunedGo used out l).length ≤ out.length + l.length ∧ ∀ p ∈ prunedGo used out l, p ∈ out ∨ p ∈ l
  | [], out => ⟨by simp [prunedGo], fun p hp => .inl hp⟩
  | x :: r, out => by
    rw [prunedGo]
    split
    · obtain ⟨h1, h2⟩ := prg_ok used r (placedR out x)
      have h0 : (placedR out x).length = out.length + 1 := by rw [placedR_ins]; exact insX_len _ _ _
      rw [h0] at h1
      refine ⟨by simp; omega, fun p hp => ?_⟩
      rcases h2 p hp with h | h
      · rw [placedR_ins] at h
        rcases (insX_mem _ _ _ _).1 h with rfl | h
        · exact .inr (by simp)
        · exact .inl h
      · exact .inr (List.mem_cons_of_mem _ h)
    · obtain ⟨h1, h2⟩ := prg_ok used r out
      refine ⟨by simp; omega, fun p hp => ?_⟩
      rcases h2 p hp with h | h
      · exact .inl h
      · exact .inr (List.mem_cons_of_mem _ h)
theorem prR_le (st : List EntryD) (nd : List NeedD) (l : List PackD) : (prunedR st nd l).length ≤ l.length := by
  have := (prg_ok (inUseR st nd l) l []).1
  simpa [prunedR] using this
theorem prR_sub {st : List EntryD} {nd : List NeedD} {l : List PackD} {p : PackD} (h : p ∈ prunedR st nd l) : p ∈ l := by
  rcases (prg_ok (inUseR st nd l) l []).2 p h with h | h
  · simp at h
  · exact h
theorem has_self (p : Tx) : hasR (foldersR p) p = true := by
  unfold hasR
  rw [List.any_eq_true]
  by_cases h : p = []
  · subst h; exact ⟨[], by rw [foldersR_nil]; simp, by simp⟩
  · exact ⟨p, by rw [foldersR_cons p h]; simp, by simp⟩
theorem wtd_lt {l : List PackD} {i : Nat} (hi : i < l.length) : (withoutR l (packAt l i).path).length < l.length := by
  have e : packAt l i = l[i] := by unfold packAt; rw [List.getD_eq_getElem?_getD, List.getElem?_eq_getElem hi]; rfl
  have h1 : ¬ (withoutR l (packAt l i).path).length = l.length := fun h => by
    have := List.length_filter_eq_length_iff.1 h l[i] (List.getElem_mem hi)
    rw [e, has_self] at this
    simp at this
  have := wtd_len l (packAt l i).path
  omega
theorem spg_some {st : List EntryD} {nd : List NeedD} {l m : List PackD} : ∀ i, spareGo st nd l i = some m → ∃ j, j < i ∧ m = withoutR l (packAt l j).path
  | 0, h => by simp [spareGo] at h
  | i + 1, h => by
    rw [spareGo] at h
    split at h
    · exact ⟨i, by omega, (Option.some.inj h).symm⟩
    · obtain ⟨j, hj, e⟩ := spg_some i h
      exact ⟨j, by omega, e⟩
theorem spare_lt {st : List EntryD} {nd : List NeedD} {l m : List PackD} (h : spareR st nd l = some m) : m.length < l.length ∧ ∀ p ∈ m, p ∈ l := by
  obtain ⟨j, hj, rfl⟩ := spg_some _ h
  exact ⟨wtd_lt hj, fun p hp => wtd_mem hp⟩
theorem spare_nil (st : List EntryD) (nd : List NeedD) : spareR st nd [] = none := rfl
theorem slg_up {st : List EntryD} {nd : List NeedD} : ∀ (f : Nat) (l : List PackD), l.length ≤ f → slimGo st nd (f + 1) l = slimGo st nd f l
  | 0, l, h => by
    have : l = [] := List.eq_nil_of_length_eq_zero (by omega)
    subst this
    rfl
  | f + 1, l, h => by
    rw [slimGo, slimGo]
    rcases e : spareR st nd l with _ | m
    · rfl
    · simp only
      have h1 := (spare_lt e).1
      have h2 := prR_le st nd m
      exact slg_up f _ (by omega)
theorem slg_to {st : List EntryD} {nd : List NeedD} {l : List PackD} : ∀ (d : Nat), slimGo st nd (l.length + d) l = slimL st nd l
  | 0 => rfl
  | d + 1 => by rw [← Nat.add_assoc, slg_up _ _ (by omega), slg_to d]
theorem slim_none {st : List EntryD} {nd : List NeedD} {l : List PackD} (h : spareR st nd l = none) : slimL st nd l = l := by
  unfold slimL
  rcases e : l.length with _ | n
  · rfl
  · rw [slimGo, h]
theorem slim_some {st : List EntryD} {nd : List NeedD} {l m : List PackD} (h : spareR st nd l = some m) : slimL st nd l = slimL st nd (prunedR st nd m) := by
  have h1 := (spare_lt h).1
  have h2 := prR_le st nd m
  have e : slimL st nd l = slimGo st nd (l.length - 1) (prunedR st nd m) := by
    unfold slimL
    obtain ⟨n, hn⟩ : ∃ n, l.length = n + 1 := ⟨l.length - 1, by omega⟩
    rw [hn, slimGo, h]; rfl
  rw [e, ← slg_to (l.length - 1 - (prunedR st nd m).length)]
  congr 1
  omega
theorem slim_le {st : List EntryD} {nd : List NeedD} : ∀ (n : Nat) (l : List PackD), l.length ≤ n → (slimL st nd l).length ≤ l.length
  | 0, l, h => by
    have : l = [] := List.eq_nil_of_length_eq_zero (by omega)
    subst this
    exact Nat.le_refl _
  | n + 1, l, h => by
    rcases e : spareR st nd l with _ | m
    · rw [slim_none e]; exact Nat.le_refl _
    · have h1 := (spare_lt e).1
      have h2 := prR_le st nd m
      rw [slim_some e]
      have := slim_le (st := st) (nd := nd) n (prunedR st nd m) (by omega)
      omega
/-- What Slim does, by the document. -/
def slimR (s : SiteD) : SiteD × Int := (⟨s.stock, s.needs, slimL s.stock s.needs s.packs⟩, (s.packs.length : Int) - ((slimL s.stock s.needs s.packs).length : Int))
theorem fg_mem (p x : Tx) (hx : x ≠ []) : ∀ i, x ∈ foldersGo p i ↔ ∃ j, j ≤ i ∧ isEnd p j = true ∧ x = p.take j
  | 0 => by
    rw [foldersGo]
    constructor
    · intro h
      split at h
      · simp at h; exact absurd h hx
      · simp at h
    · rintro ⟨j, hj, _, e⟩
      have : j = 0 := by omega
      subst this
      simp at e
      exact absurd e hx
  | i + 1 => by
    rw [foldersGo]
    constructor
    · intro h
      split at h
      · rename_i he
        rcases List.mem_cons.1 h with h | h
        · exact ⟨i + 1, Nat.le_refl _, he, h⟩
        · obtain ⟨j, hj, h1, h2⟩ := (fg_mem p x hx i).1 h
          exact ⟨j, by omega, h1, h2⟩
      · obtain ⟨j, hj, h1, h2⟩ := (fg_mem p x hx i).1 h
        exact ⟨j, by omega, h1, h2⟩
    · rintro ⟨j, hj, h1, h2⟩
      by_cases e : j = i + 1
      · subst e
        rw [if_pos h1, h2]; exact List.mem_cons_self
      · have := (fg_mem p x hx i).2 ⟨j, by omega, h1, h2⟩
        split
        · exact List.mem_cons_of_mem _ this
        · exact this
theorem under_same (p x : Tx) (hx : x ≠ []) : hasR (foldersR p) x = (decide (p = x) || isUnderP p x) := by
  rw [Bool.eq_iff_iff, hasR_mem, Bool.or_eq_true, decide_eq_true_iff]
  unfold isUnderP foldersR
  rw [decide_eq_true_iff, fg_mem p x hx]
  constructor
  · rintro ⟨j, hj, h1, rfl⟩
    by_cases e : j = p.length
    · left; subst e; simp
    · right
      have hlt : j < p.length := by omega
      have hl : (p.take j).length = j := by simp; omega
      have hj0 : j ≠ 0 := fun h => by subst h; simp at hx
      unfold isEnd at h1
      simp [e, hj0] at h1
      rw [hl, List.take_add_one, List.getElem?_eq_getElem hlt]
      rw [List.getElem?_eq_getElem hlt] at h1
      simp at h1
      rw [h1]; rfl
  · rintro (rfl | h)
    · exact ⟨p.length, Nat.le_refl _, by simp [isEnd], by simp⟩
    · have hl := congrArg List.length h
      simp at hl
      have hlt : x.length < p.length := by omega
      refine ⟨x.length, by omega, ?_, ?_⟩
      · have hg : (p.take (x.length + 1))[x.length]? = some 47 := by rw [h]; simp
        rw [List.getElem?_take_of_lt (by omega)] at hg
        unfold isEnd
        simp [hg]
      · have := congrArg (List.take x.length) h
        rw [List.take_take, Nat.min_eq_left (by omega), List.take_left' rfl] at this
        exact this.symm

theorem rises_of {stx : List EntX} {l : List PackD} {t : List PkX} (ht : TreeSame stx l t) (he : t = l.map (toX stx)) : Rises (fun p => p.path) l := by
  have h := ht.rises
  rw [he] at h
  unfold Rises at h ⊢
  rw [List.pairwise_map] at h
  exact h
theorem without_tree {stx : List EntX} {l : List PackD} {t : List PkX} (ht : TreeSame stx l t) (he : t = l.map (toX stx)) (x : Tx) : TreeSame stx (withoutR l x) ((withoutR l x).map (toX stx)) :=
  ht.of_map (List.Pairwise.sublist List.filter_sublist (rises_of ht he)) fun _ hp => wtd_mem hp

end Hst
end Go.Proofs.YtecocheolbkneaaGreatDoor
namespace Go.Proofs.YtecocheolbkneaaGreatDoor
namespace Hst

theorem without_same {stx : List EntX} {l : List PackD} {x : Tx} (hx : x ≠ []) : withoutP (l.map (toX stx)) x = (withoutR l x).map (toX stx) := by
  unfold withoutP withoutR
  rw [List.filter_map]
  congr 1
  apply List.filter_congr
  intro p _
  simp only [Function.comp]
  rw [under_same p.path x hx, Bool.not_or]
  rfl
theorem pkPath_same {stx : List EntX} {l : List PackD} {i : Nat} : pkPath (l.map (toX stx)) i = (packAt l i).path := by
  unfold pkPath packAt
  rw [List.map_map]
  simp only [List.getD_eq_getElem?_getD, List.getElem?_map]
  cases l[i]? <;> rfl
theorem spareGo_same {stx : List EntX} {st : List EntryD} {ndx : List NeedX} {nd : List NeedD} {l : List PackD} {t : List PkX} (hs : StockSame stx st) (ht : TreeSame stx l t) (he : t = l.map (toX stx)) (hn : All2 NeedSame ndx nd) : ∀ i, i ≤ l.length → spareGoP ndx t i = (spareGo st nd l i).map fun m => m.map (toX stx)
  | 0, _ => rfl
  | i + 1, hi => by
    have hx : (packAt l i).path ≠ [] := by
      refine tree_ne' ht (p := packAt l i) ?_
      unfold packAt
      rw [List.getD_eq_getElem?_getD, List.getElem?_eq_getElem (by omega)]
      exact List.getElem_mem _
    have hp : pkPath t i = (packAt l i).path := by rw [he]; exact pkPath_same
    have hw : withoutP t (packAt l i).path = (withoutR l (packAt l i).path).map (toX stx) := by rw [he]; exact without_same hx
    have hso := sound_same hs (without_tree ht he (packAt l i).path) rfl hn
    rw [spareGoP, spareGo, hp, hw, hso, spareGo_same hs ht he hn i (by omega)]
    split <;> rfl
theorem slimGo_same {stx : List EntX} {st : List EntryD} {ndx : List NeedX} {nd : List NeedD} (hs : StockSame stx st) (hn : SiteNeeds ndx nd) (hn2 : All2 NeedSame ndx nd) (v : Value) : ∀ (f : Nat) (l : List PackD) (t : List PkX), TreeSame stx l t → t = l.map (toX stx) → Folded l → slimGoP v ndx f t = (slimGo st nd f l).map (toX stx) ∧ TreeSame stx (slimGo st nd f l) (slimGoP v ndx f t) ∧ Folded (slimGo st nd f l)
  | 0, l, t, ht, he, hf => ⟨he, ht, hf⟩
  | f + 1, l, t, ht, he, hf => by
    have hl : t.length = l.length := ht.len
    have hsp : spareP ndx t = (spareR st nd l).map fun m => m.map (toX stx) := by
      unfold spareP spareR
      rw [hl]
      exact spareGo_same hs ht he hn2 l.length (Nat.le_refl _)
    rw [slimGoP, slimGo, hsp]
    rcases e : spareR st nd l with _ | m
    · exact ⟨he, ht, hf⟩
    · simp only [Option.map_some]
      obtain ⟨j, hj, rfl⟩ := spg_some _ e
      have hw := without_tree ht he (packAt l j).path
      obtain ⟨h1, h2⟩ := inUse_same hs hn hw v
      exact slimGo_same hs hn hn2 v f _ _ h2 h1 (pruned_folded hs hn hw)
theorem slim_same {sx : SiteX} {sd : SiteD} (h : SiteSame sx sd) : (slimR sd).2 = (slimP sx).2 ∧ SiteSame (slimP sx).1 (slimR sd).1 := by
  have hl := h.tr.len
  obtain ⟨h1, h2, h3⟩ := slimGo_same h.st (siteNeeds_of h.nd h.rs) h.nd sx.nv sd.packs.length sd.packs sx.tree h.tr h.eq h.fold
  have e : slimTP sx.nv sx.needs sx.tree = (slimL sd.stock sd.needs sd.packs).map (toX sx.stock) := by
    unfold slimTP slimL
    rw [hl]; exact h1
  have ht : TreeSame sx.stock (slimL sd.stock sd.needs sd.packs) (slimTP sx.nv sx.needs sx.tree) := by
    unfold slimTP slimL
    rw [hl]; exact h2
  refine ⟨?_, ⟨h.st, h.h6, h.s40, h.nd, h.rs, h.n6, ht, e, ?_, h3⟩⟩
  · unfold slimR slimP
    simp only
    rw [e, List.length_map, hl]
  · have := slim_le (st := sd.stock) (nd := sd.needs) _ sd.packs (Nat.le_refl _)
    have := h.l40
    simp only [slimR]
    omega

end Hst
end Go.Proofs.YtecocheolbkneaaGreatDoor
