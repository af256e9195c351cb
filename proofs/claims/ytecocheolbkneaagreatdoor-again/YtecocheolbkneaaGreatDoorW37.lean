/- Pslimx, Pslims, Kload, Kagain -/
import Derived.Test.YtecocheolbkneaaGreatDoorW36
import Derived.Test.YtecocheolbkneaaGreatDoorW35
import Derived.Test.YtecocheolbkneaaGreatDoorW22
import Derived.Test.YtecocheolbkneaaGreatDoorW24
import Derived.Test.YtecocheolbkneaaGreatDoorW25
namespace Go.Proofs.YtecocheolbkneaaGreatDoor
open Go.RowKit
namespace Hst
set_option maxRecDepth 100000

theorem usedGo_inv {t : List PkX} {path : Tx} : ∀ (r : List NeedX) {used : List PkX} {list : List WhX}, UInv t used list → UInv t (usedGo t path used list r).1 (usedGo t path used list r).2
  | [], _, _, h => h
  | n :: r, used, list, h => by
    rw [usedGo]
    rcases e : findP t n.name path with _ | p
    · exact usedGo_inv r h
    · simp only
      rcases hh : hasAtP used p.path with _ | _
      · rw [if_neg (by simp)]
        exact usedGo_inv r (h.step (findP_in e) hh _)
      · rw [if_pos rfl]
        exact usedGo_inv r h
theorem inUseGo_inv {t : List PkX} : ∀ (f k : Nat) {used : List PkX} {list : List WhX}, UInv t used list → ∃ list', UInv t (inUseGo t f k used list) list'
  | 0, _, _, list, h => ⟨list, h⟩
  | f + 1, k, used, list, h => by
    rw [inUseGo]
    rcases list[k]? with _ | x
    · exact ⟨list, h⟩
    · exact inUseGo_inv f (k + 1) (usedGo_inv x.nd h)
theorem inUseP_sub {t : List PkX} {v : Value} {nd : List NeedX} : (∀ p ∈ inUseP t v nd, p ∈ t) ∧ (inUseP t v nd).length ≤ t.length := by
  obtain ⟨_, h⟩ := inUseGo_inv (t := t) (t.length + 2) 0 (used := []) (list := [⟨[], v, nd⟩]) ⟨by simp, by simp, rfl⟩
  exact ⟨h.sub, h.le⟩
theorem spareGoP_sub {nd : List NeedX} {t m : List PkX} : ∀ i, spareGoP nd t i = some m → (∀ p ∈ m, p ∈ t) ∧ m.length ≤ t.length
  | 0, h => by simp [spareGoP] at h
  | i + 1, h => by
    rw [spareGoP] at h
    split at h
    · have := Option.some.inj h
      subst this
      exact ⟨fun p hp => wp_mem hp, List.length_filter_le _ _⟩
    · exact spareGoP_sub i h
theorem slp_none {nv : Value} {nd : List NeedX} {f : Nat} {t : List PkX} (h : spareP nd t = none) : slimGoP nv nd (f + 1) t = t := by rw [slimGoP, h]
theorem slp_some {nv : Value} {nd : List NeedX} {f : Nat} {t m : List PkX} (h : spareP nd t = some m) : slimGoP nv nd (f + 1) t = slimGoP nv nd f (inUseP m nv nd) := by rw [slimGoP, h]

theorem slimGoP_le {nv : Value} {nd : List NeedX} : ∀ (f : Nat) (t : List PkX), (slimGoP nv nd f t).length ≤ t.length
  | 0, t => Nat.le_refl _
  | f + 1, t => by
    rcases e : spareP nd t with _ | m
    · rw [slp_none e]; exact Nat.le_refl _
    · rw [slp_some e]
      have h1 := slimGoP_le (nv := nv) (nd := nd) f (inUseP m nv nd)
      have h2 := (inUseP_sub (t := m) (v := nv) (nd := nd)).2
      have h3 := (spareGoP_sub _ e).2
      omega

attribute [local go_sem ↓] Go.wp_at_zero Go.wp_at_succ

set_option maxHeartbeats 4000000 in
theorem slimT_any (v : Value) (t : List PkX) (nv : Value) (nd : List NeedX) (w : World) (hl : PksIn w v t) (ht : t.length ≤ 1000) (hp : PathsOk t) (hn : NeedsIn w nv nd) (hnl : nd.length ≤ 1000) :
    Calls Tryz.prog 45 #[.agg #[v], nv] w fun e w' => ∃ v', e = .returned (.agg #[v']) ∧ PksIn w' v' (slimTP nv nd t) ∧ Below w.heap.size w w' := by
  obtain ⟨a, cap, rfl⟩ := hl.1.form
  obtain ⟨na, nc, rfl⟩ := hn.1.form
  have hbw := (((Below.refl w.heap.size w).alloc (Nat.le_refl _) (.cells #[.slice a t.length cap] 73)).alloc (by simp) (.cells #[.slice none 0 0] 73)).alloc (by simp; omega) (.cells #[.slice a t.length cap] 73)
  have HL := hid' (hl.below hbw)
  have HN := hid' hn
  have HW := hid' hbw
  have HSP := hid' (fun cv (cur : List PkX) w h (hc : cur.length ≤ t.length) hpo h2 => spareLast_any cv cur (.slice na nd.length nc) nd w h (by omega) hpo h2 hnl)
  have HIU := hid' (fun mv (m : List PkX) w h (hm : m.length ≤ t.length) hpo h2 => inUse_any' mv m (.slice na nd.length nc) nd w h h2 (by omega) hpo hnl)
  have HR : Hid (slimTP (.slice na nd.length nc) nd t = slimGoP (.slice na nd.length nc) nd (t.length - 0) t) := rfl
  have HPO := hid' hp
  generalize slimTP (.slice na nd.length nc) nd t = res at *
  have e4 : (((w.alloc (.cells #[.slice a t.length cap] 73)).alloc (.cells #[.slice none 0 0] 73)).alloc (.cells #[.slice a t.length cap] 73)).cell? ⟨w.heap.size + 1, 0, none⟩ = some (.slice none 0 0) := by simp [go_sem]
  have e5 : (((w.alloc (.cells #[.slice a t.length cap] 73)).alloc (.cells #[.slice none 0 0] 73)).alloc (.cells #[.slice a t.length cap] 73)).frozen? ⟨w.heap.size + 1, 0, none⟩ = false := by simp [go_sem]
  have e6 : (((w.alloc (.cells #[.slice a t.length cap] 73)).alloc (.cells #[.slice none 0 0] 73)).alloc (.cells #[.slice a t.length cap] 73)).cell? ⟨w.heap.size + 1 + 1, 0, none⟩ = some (.slice a t.length cap) := by simp [go_sem]
  have e7 : (((w.alloc (.cells #[.slice a t.length cap] 73)).alloc (.cells #[.slice none 0 0] 73)).alloc (.cells #[.slice a t.length cap] 73)).frozen? ⟨w.heap.size + 1 + 1, 0, none⟩ = false := by simp [go_sem]
  have hsz : (((w.alloc (.cells #[.slice a t.length cap] 73)).alloc (.cells #[.slice none 0 0] 73)).alloc (.cells #[.slice a t.length cap] 73)).heap.size = w.heap.size + 3 := by simp
  have HT2 : Hid (tagOf (((w.alloc (.cells #[.slice a t.length cap] 73)).alloc (.cells #[.slice none 0 0] 73)).alloc (.cells #[.slice a t.length cap] 73)) (w.heap.size + 1 + 1) = some 73) := by
    have := tag_new ((w.alloc (.cells #[.slice a t.length cap] 73)).alloc (.cells #[.slice none 0 0] 73)) #[.slice a t.length cap] 73
    unfold Hid
    simpa using this
  have HT1 : Hid (tagOf (((w.alloc (.cells #[.slice a t.length cap] 73)).alloc (.cells #[.slice none 0 0] 73)).alloc (.cells #[.slice a t.length cap] 73)) (w.heap.size + 1) = some 73) := by
    have h1 := tag_new (w.alloc (.cells #[.slice a t.length cap] 73)) #[.slice none 0 0] 73
    have h2 := tagOf_below ((Below.refl _ ((w.alloc (.cells #[.slice a t.length cap] 73)).alloc (.cells #[.slice none 0 0] 73))).alloc (Nat.le_refl _) (.cells #[.slice a t.length cap] 73)) (b := w.heap.size + 1) (by simp)
    unfold Hid
    rw [h2]
    simpa using h1
  clear hl hn hp hbw
  go_enter Tryz.func45, Tryz.ntmps45
  go_wp2
  generalize ((w.alloc (.cells #[.slice a t.length cap] 73)).alloc (.cells #[.slice none 0 0] 73)).alloc (.cells #[.slice a t.length cap] 73) = W at *
  go_loopw [12] (fun i wr => ∃ (k : Nat) (cur : List PkX) (ca : Option Addr) (cc : Nat), k ≤ t.length ∧ i = .int .i64 k ∧ w.heap.size + 3 ≤ wr.heap.size ∧ wr.cell? ⟨w.heap.size + 1, 0, none⟩ = some (.slice none 0 0) ∧ wr.frozen? ⟨w.heap.size + 1, 0, none⟩ = false ∧ wr.cell? ⟨w.heap.size + 1 + 1, 0, none⟩ = some (.slice ca cur.length cc) ∧ wr.frozen? ⟨w.heap.size + 1 + 1, 0, none⟩ = false ∧ Hid (Below w.heap.size w wr ∧ PksIn wr (.slice ca cur.length cc) cur ∧ tagOf wr (w.heap.size + 1) = some 73 ∧ tagOf wr (w.heap.size + 1 + 1) = some 73 ∧ cur.length ≤ t.length ∧ PathsOk cur ∧ res = slimGoP (.slice na nd.length nc) nd (t.length - k) cur)) (fun i _ => t.length - (intOf i).toNat)
  case atStart => exact ⟨0, t, a, cap, Nat.zero_le _, rfl, by omega, e4, e5, e6, e7, HW.out, HL.out, HT1.out, HT2.out, Nat.le_refl _, HPO.out, HR.out⟩
  case round =>
    obtain ⟨k, cur, ca, cc, hk, rfl, hwr, d4, d5, d6, d7, hall⟩ := hrel
    obtain ⟨hbel, hpk, ht1, ht2, hcl, hcp, hres⟩ := hall.out
    have HBR := hid' hbel
    have HPK := hid' hpk
    have HT1R := hid' ht1
    have HT2R := hid' ht2
    have HCP := hid' hcp
    have HRES := hid' hres
    have h1r : w.heap.size + 1 < wr.heap.size := by omega
    have h2r : w.heap.size + 1 + 1 < wr.heap.size := by omega
    clear hbel hpk ht1 ht2 hcp hres hall e4 e5 e6 e7
    by_cases hlt : k < t.length
    · have hf : t.length - k = (t.length - (k + 1)) + 1 := by omega
      rw [hf] at HRES
      have HSL := hid' (HSP.out (.slice ca cur.length cc) cur wr HPK.out hcl HCP.out (HN.out.below HBR.out))
      rcases hsp : spareP nd cur with _ | m
      · have HF : Hid (res = cur) := by unfold Hid; rw [HRES.out]; exact slp_none hsp
        rw [hsp] at HSL
        simp only [Option.isSome_none, Option.getD_none] at HSL
        clear hsp
        go_wp2_with fail
        refine HSL.out.mono ?_
        rintro e w1 ⟨v1, rfl, hin1, hb1⟩
        obtain ⟨va, vc, rfl⟩ := hin1.1.form
        have hcc := (bcell hb1).1
        have hff := (bcell hb1).2
        have q4 := (hcc (w.heap.size + 1) 0 h1r).trans d4
        have q5 := (hff (w.heap.size + 1) 0 h1r).trans d5
        have q6 := (hcc (w.heap.size + 1 + 1) 0 h2r).trans d6
        have hz1 := hb1.size
        have h11 : w.heap.size + 1 < w1.heap.size := by omega
        have h21 : w.heap.size + 1 + 1 < w1.heap.size := by omega
        have HB1 := hid' (((HBR.out.trans (hb1.mono (by omega))).setCell (p := ⟨w.heap.size + 1, 0, none⟩) (show w.heap.size ≤ w.heap.size + 1 by omega) (.slice ca cur.length cc)).alloc (by simp; omega) (.cells #[.slice va cur.length vc] 73))
        have HP1 := hid' (((HPK.out.below hb1).off (But.set w1 (w.heap.size + 1) 0 (.slice ca cur.length cc)) ((tagOf_below hb1 h1r).trans HT1R.out) (by decide) (by decide) (by decide)).below ((Below.refl _ _).alloc (Nat.le_refl _) (.cells #[.slice va cur.length vc] 73)))
        clear hb1 hin1 hcc hff
        go_wp2
        refine bodyPost_ret (v := .agg #[.slice ca cur.length cc]) (by simp [results, Tryz.results45, go_sem, *]) rfl ⟨_, rfl, ?_, HB1.out⟩
        rw [HF.out]
        exact HP1.out
      · have HF : Hid (res = slimGoP (.slice na nd.length nc) nd (t.length - (k + 1)) (inUseP m (.slice na nd.length nc) nd)) := by unfold Hid; rw [HRES.out]; exact slp_some hsp
        have hsub := spareGoP_sub _ hsp
        have hmp : PathsOk m := fun p hp => HCP.out p (hsub.1 p hp)
        have hus := inUseP_sub (t := m) (v := .slice na nd.length nc) (nd := nd)
        have HUP : Hid (PathsOk (inUseP m (.slice na nd.length nc) nd)) := fun p hp => hmp p (hus.1 p hp)
        have HUL : Hid ((inUseP m (.slice na nd.length nc) nd).length ≤ t.length) := by unfold Hid; have := hus.2; have := hsub.2; omega
        have hml : m.length ≤ t.length := by have := hsub.2; omega
        have HMP := hid' hmp
        rw [hsp] at HSL
        simp only [Option.isSome_some, Option.getD_some] at HSL
        clear hsp hsub hus hmp
        go_wp2_with fail
        refine HSL.out.mono ?_
        rintro e w1 ⟨v1, rfl, hin1, hb1⟩
        obtain ⟨va, vc, rfl⟩ := hin1.1.form
        have hcc := (bcell hb1).1
        have hff := (bcell hb1).2
        have q4 := (hcc (w.heap.size + 1) 0 h1r).trans d4
        have q5 := (hff (w.heap.size + 1) 0 h1r).trans d5
        have q6 := (hcc (w.heap.size + 1 + 1) 0 h2r).trans d6
        have q7 := (hff (w.heap.size + 1 + 1) 0 h2r).trans d7
        have hz1 := hb1.size
        have h11 : w.heap.size + 1 < w1.heap.size := by omega
        have h21 : w.heap.size + 1 + 1 < w1.heap.size := by omega
        have hba := (Below.refl w1.heap.size w1).alloc (Nat.le_refl _) (.cells #[.slice va m.length vc] 73)
        have HB1 := hid' ((HBR.out.trans (hb1.mono (by omega))).alloc (by omega) (.cells #[.slice va m.length vc] 73))
        have HTA := hid' ((tagOf_below hba h11).trans ((tagOf_below hb1 h1r).trans HT1R.out))
        have HTB := hid' ((tagOf_below hba h21).trans ((tagOf_below hb1 h2r).trans HT2R.out))
        have HUU := hid' (HIU.out (.slice va m.length vc) m _ (hin1.below hba) hml HMP.out (HN.out.below HB1.out))
        have z4 := ((bcell hba).1 (w.heap.size + 1) 0 h11).trans q4
        have z5 := ((bcell hba).2 (w.heap.size + 1) 0 h11).trans q5
        have z6 := ((bcell hba).1 (w.heap.size + 1 + 1) 0 h21).trans q6
        have z7 := ((bcell hba).2 (w.heap.size + 1 + 1) 0 h21).trans q7
        clear hb1 hin1 hcc hff hba d4 d5 d6 d7
        generalize inUseP m (.slice na nd.length nc) nd = u at *
        go_wp2_with fail
        refine HUU.out.mono ?_
        rintro e w2 ⟨v2, rfl, hin2, hb2⟩
        obtain ⟨ua, uc, rfl⟩ := hin2.1.form
        have hcc := (bcell hb2).1
        have hff := (bcell hb2).2
        have hz2 : w1.heap.size + 1 ≤ w2.heap.size := by have := hb2.size; simpa using this
        have r4 := (hcc (w.heap.size + 1) 0 (by simp; omega)).trans z4
        have r5 := (hff (w.heap.size + 1) 0 (by simp; omega)).trans z5
        have r6 := (hcc (w.heap.size + 1 + 1) 0 (by simp; omega)).trans z6
        have r7 := (hff (w.heap.size + 1 + 1) 0 (by simp; omega)).trans z7
        have h12 : w.heap.size + 1 < w2.heap.size := by omega
        have h22 : w.heap.size + 1 + 1 < w2.heap.size := by omega
        have HT1N := hid' ((tagOf_below hb2 (by simp; omega)).trans HTA.out)
        have HT2N := hid' ((tagOf_below hb2 (by simp; omega)).trans HTB.out)
        have HB2 := hid' ((HB1.out.trans (hb2.mono (by simp; omega))).setCell (p := ⟨w.heap.size + 1 + 1, 0, none⟩) (show w.heap.size ≤ w.heap.size + 1 + 1 by omega) (.slice ua u.length uc))
        have HP2 := hid' (hin2.off (But.set w2 (w.heap.size + 1 + 1) 0 (.slice ua u.length uc)) HT2N.out (by decide) (by decide) (by decide))
        clear hb2 hin2 hcc hff q4 q5 q6 q7 z4 z5 z6 z7
        go_wp2
        go_roundw
        case rel => exact ⟨k + 1, u, ua, uc, by omega, by go_num, by simp; omega, by simp [go_sem, *], by simp [go_sem, *], by simp [go_sem, *], by simp [go_sem, *], HB2.out, HP2.out, by rw [tag_set]; exact HT1N.out, by rw [tag_set]; exact HT2N.out, HUL.out, HUP.out, HF.out⟩
        case measure => simp [intOf] <;> omega
    · have HF : Hid (res = cur) := by
        unfold Hid
        rw [HRES.out, show t.length - k = 0 by omega]; rfl
      have HB1 := hid' (HBR.out.setCell (p := ⟨w.heap.size + 1, 0, none⟩) (show w.heap.size ≤ w.heap.size + 1 by omega) (.slice ca cur.length cc))
      have HP1 := hid' (HPK.out.off (But.set wr (w.heap.size + 1) 0 (.slice ca cur.length cc)) HT1R.out (by decide) (by decide) (by decide))
      go_wp2
      refine bodyPost_ret (v := .agg #[.slice ca cur.length cc]) (by simp [results, Tryz.results45, go_sem, *]) rfl ⟨_, rfl, ?_, HB1.out⟩
      rw [HF.out]
      exact HP1.out

end Hst
end Go.Proofs.YtecocheolbkneaaGreatDoor
namespace Go.Proofs.YtecocheolbkneaaGreatDoor
open Go.RowKit
namespace Hst
set_option maxRecDepth 100000

attribute [local go_sem ↓] Go.wp_at_zero Go.wp_at_succ

set_option maxHeartbeats 4000000 in
theorem slim_any' (b : Nat) (s : SiteX) (w : World) (hs : SAt w b s) (hok : SOk s) (hp : ∀ q ∈ s.tree, q.path.length ≤ 900) :
    Calls Tryz.prog 20 #[.pointer (some ⟨b, 0, none⟩)] w fun e w' => e = .returned (.int .i64 (slimP s).2) ∧ SMv b w w' ∧ SAt w' b (slimP s).1 := by
  obtain ⟨v2, e2, r2⟩ := hs.tree
  obtain ⟨ta, tc, rfl⟩ := r2.1.form
  obtain ⟨e1, r1⟩ := hs.needs
  obtain ⟨na, nc, hnf⟩ := r1.1.form
  have htl := hok.tr
  have hnl := hok.nd
  have HS := hid' hs
  have HC := hid' (count_any (.slice ta s.tree.length tc) s.tree w r2)
  have HCN := hid' (fun v l w h => count_any v l w h)
  have HSL := hid' (fun w h1 h2 => slimT_any (.slice ta s.tree.length tc) s.tree s.nv s.needs w h1 htl (fun p hp' => by have := hp p hp'; omega) h2 (by omega))
  have HR : Hid (slimP s = (⟨s.stock, s.needs, s.nv, slimTP s.nv s.needs s.tree⟩, (s.tree.length : Int) - ((slimTP s.nv s.needs s.tree).length : Int))) := rfl
  have HLE : Hid ((slimTP s.nv s.needs s.tree).length ≤ s.tree.length) := slimGoP_le _ _
  have HR1 := hid' r1
  have HR2 := hid' r2
  generalize slimP s = res at *
  generalize slimTP s.nv s.needs s.tree = u at *
  rw [hnf] at e1 HSL HR1
  have HNF := hid' hnf
  have hlt := hs.lt
  clear hs hok hp r1 r2 hnf
  go_enter Tryz.func20, Tryz.ntmps20
  go_wp2_with fail
  refine HC.out.mono ?_
  rintro e w1 ⟨rfl, hb1⟩
  have hcc := (bcell hb1).1
  have d1 := (hcc b 1 hlt).trans e1
  have d2 := (hcc b 2 hlt).trans e2
  have HS1 := hid' (HS.out.below hb1)
  have HP1 := hid' (HR2.out.below hb1)
  have HN1 := hid' (HR1.out.below hb1)
  have HM1 := hid' (SMv.of_below (b := b) hb1)
  have hlt1 := HS1.out.lt
  have hlt2 : b < w1.heap.size + 1 := by omega
  have n1 : b ≠ w1.heap.size := by omega
  have n2 : w1.heap.size ≠ b := by omega
  clear hb1 hcc e1 e2 HS HR1 HR2
  go_wp2
  go_cut [4] (fun p wc => ∃ (c : Nat) (ua : Option Addr) (uc : Nat), p = .pointer (some ⟨c, 0, none⟩) ∧ w1.heap.size ≤ c ∧ c < wc.heap.size ∧ wc.cell? ⟨c, 0, none⟩ = some (.slice ua u.length uc) ∧ Below w1.heap.size w1 wc ∧ Hid (PksIn wc (.slice ua u.length uc) u))
  case first =>
    go_region_held3 (fun w' => w'.cell? ⟨b, 2, none⟩ = some (.slice ta s.tree.length tc) ∧ w'.cell? ⟨b, 1, none⟩ = some (.slice na s.needs.length nc)) (go_keep)
      (first | (go_at_call 45; refine (HSL.out _ (by first | exact HP1.out.drew | exact HP1.out.below ((Below.refl _ _).alloc (Nat.le_refl _) _).drew) (by first | exact HN1.out.below (Below.refl _ _).drew | exact HN1.out.below ((Below.refl _ _).alloc (Nat.le_refl _) _).drew)).mono ?_; rintro e w2 ⟨v2, rfl, hin2, hb2⟩; obtain ⟨ua, uc, rfl⟩ := hin2.1.form; have hz2 := (bcell hb2).1; have hz3 := (bcell hb2).2; simp at hz2 hz3))
    · have hb2' := (((Below.refl w1.heap.size w1).drew.trans (hb2.mono (by simp))).alloc (by have := hb2.size; simpa using this) (.cells #[.slice ua u.length uc] 73))
      have hin3 := hin2.below ((Below.refl _ _).alloc (Nat.le_refl _) (.cells #[.slice ua u.length uc] 73))
      have HZ : Hid (w1.heap.size ≤ w2.heap.size) := by unfold Hid; have := hb2.size; simpa using this
      go_wp2_with fail
      go_meet
      exact ⟨w2.heap.size, ua, uc, rfl, HZ.out, by simp, by simp, hb2', hin3⟩
    · have hb2' := ((((Below.refl w1.heap.size w1).alloc (Nat.le_refl _) (.cells #[.slice none 0 0] 73)).drew.trans (hb2.mono (by simp))).setCell (p := ⟨w1.heap.size, 0, none⟩) (Nat.le_refl _) (.slice ua u.length uc))
      have htg : tagOf w2 w1.heap.size = some 73 := by
        rw [tagOf_below hb2 (by simp)]
        exact tag_new w1 #[.slice none 0 0] 73
      have hin3 := hin2.off (But.set w2 w1.heap.size 0 (.slice ua u.length uc)) htg (by decide) (by decide) (by decide)
      have HZ : Hid (w1.heap.size < w2.heap.size) := by unfold Hid; have := hb2.size; simp at this; omega
      have hc0 := hz2 w1.heap.size 0 (by omega)
      simp at hc0
      go_wp2_with fail
      go_meet
      exact ⟨w1.heap.size, ua, uc, rfl, Nat.le_refl _, by simpa using HZ.out, by simp [go_sem, hc0], hb2', hin3⟩
  case rest =>
    obtain ⟨c, ua, uc, rfl, hc1, hc2, hc3, hb2, HIN2⟩ := hcut
    have HSC := hid' (HS1.out.below hb2)
    have HMC := hid' (HM1.out.trans (SMv.of_below (b := b) hb2))
    obtain ⟨v2, q2, -⟩ := HSC.out.tree
    have f2 := HSC.out.f2
    have hbc := HSC.out.lt
    have hcb : c ≠ b := by omega
    have hbc2 : b ≠ c := by omega
    have HSS := hid' (HSC.out.setT HIN2.out)
    have HSM := hid' (HMC.out.trans (SMv.set _ b 2 (.slice ua u.length uc)))
    have HPU := hid' (HIN2.out.off (But.set wc b 2 (.slice ua u.length uc)) HSC.out.tag (by decide) (by decide) (by decide))
    have HC2 := hid' (HCN.out (.slice ua u.length uc) u _ HPU.out)
    clear hb2 d1 d2
    go_wp2_with fail
    refine HC2.out.mono ?_
    rintro e w3 ⟨rfl, hb3⟩
    have HF := hid' (And.intro (HSM.out.trans (SMv.of_below (b := b) hb3)) (HSS.out.below hb3))
    have hu := HLE.out
    clear hb3
    go_wp2
    go_ret
    exact ⟨ret_int (by rw [HR.out]), HF.out.1, by rw [HR.out]; exact HF.out.2⟩

end Hst
end Go.Proofs.YtecocheolbkneaaGreatDoor
namespace Go.Proofs.YtecocheolbkneaaGreatDoor
open Go.RowKit
namespace Hst
set_option maxRecDepth 100000

theorem kload_any (b : Nat) (sd : SiteD) (p : ByteArray) (w : World) (h : KAt w b sd) :
    Calls Tryz.prog 14 #[.pointer (some ⟨b, 0, none⟩), .string p] w fun e w' => e = .returned (.int .i64 (loadR sd (tx p)).2) ∧ SMv b w w' ∧ KAt w' b (loadR sd (tx p)).1 := by
  obtain ⟨sx, h1, h2⟩ := h
  obtain ⟨g1, g2⟩ := load_same h2 (tx p)
  refine (load_any' b sx p w h1 h2.sok).mono fun e w' ⟨he, hm, ha⟩ => ?_
  exact ⟨by rw [he, g1], hm, _, ha, g2⟩
theorem kslim_any (b : Nat) (sd : SiteD) (w : World) (h : KAt w b sd) :
    Calls Tryz.prog 20 #[.pointer (some ⟨b, 0, none⟩)] w fun e w' => e = .returned (.int .i64 (slimR sd).2) ∧ SMv b w w' ∧ KAt w' b (slimR sd).1 := by
  obtain ⟨sx, h1, h2⟩ := h
  obtain ⟨g1, g2⟩ := slim_same h2
  refine (slim_any' b sx w h1 h2.sok h2.pathx).mono fun e w' ⟨he, hm, ha⟩ => ?_
  exact ⟨by rw [he, g1], hm, _, ha, g2⟩

end Hst
end Go.Proofs.YtecocheolbkneaaGreatDoor
namespace Go.Proofs.YtecocheolbkneaaGreatDoor
namespace Hst
set_option maxRecDepth 100000

/-! ### how long a tree's text is -/
theorem folder_ahead {p f : Tx} (hf : f ∈ foldersR p) (h0 : f ≠ []) : f = p ∨ less f p = true := by
  obtain ⟨j, _, _, rfl⟩ := (fg_mem p f h0 _).1 hf
  by_cases e : p.drop j = []
  · left
    have := List.take_append_drop j p
    rw [e, List.append_nil] at this
    exact this
  · right
    have := less_longer (p.take j) (p.drop j) e
    rw [List.take_append_drop] at this
    exact this
theorem path_at {stx : List EntX} {l : List PackD} {t : List PkX} (ht : TreeSame stx l t) (hr : Rises (fun p => p.path) l) (hf : Folded l) (k : Nat) (hk : k < l.length) : l[k].path.length ≤ 4 * (k + 1) := by
  have hp := List.getElem_mem hk
  have h1 := path_folders ht _ l[k].path (Nat.le_refl _) (hf _ hp)
  have h2 := nodup_len (foldersR l[k].path) ([] :: (l.take (k + 1)).map fun p => p.path) (folders_nodup _ _ (Nat.le_refl _)) fun f hfm => by
    rcases hf _ hp f hfm with h0 | ⟨b, hb, e⟩
    · rw [h0]; simp
    · by_cases hf0 : f = []
      · rw [hf0]; simp
      · refine List.mem_cons_of_mem _ (List.mem_map.2 ⟨b, ?_, e⟩)
        obtain ⟨j, hj, rfl⟩ := List.mem_iff_getElem.1 hb
        have hjk : j ≤ k := by
          rcases Nat.lt_or_ge k j with h | h
          · have h3 : less l[k].path l[j].path = true := List.pairwise_iff_getElem.1 hr k j hk hj h
            rcases folder_ahead hfm hf0 with h4 | h4
            · rw [e, h4, less_irr] at h3; exact absurd h3 (by simp)
            · rw [e, less_asymm h4] at h3; exact absurd h3 (by simp)
          · exact h
        rw [List.mem_take_iff_getElem]
        exact ⟨j, by omega, rfl⟩
  simp at h2
  have h3 : ((l.take (k + 1)).map fun p : PackD => p.path).length ≤ k + 1 := by simp; omega
  omega
def triN : Nat → Nat
  | 0 => 0
  | k + 1 => triN k + 4 * (k + 1) + 10
theorem triN_mono : ∀ (a b : Nat), a ≤ b → triN a ≤ triN b
  | a, 0, h => by have : a = 0 := by omega
                  subst this; exact Nat.le_refl _
  | a, b + 1, h => by
    by_cases e : a = b + 1
    · rw [e]; exact Nat.le_refl _
    · have := triN_mono a b (by omega)
      rw [triN]
      omega
theorem text_len {st : List EntryD} {l : List PackD} (h : ∀ (k : Nat) (hk : k < l.length), l[k].path.length ≤ 4 * (k + 1)) : ∀ (m k : Nat) (b : Bool), k + m = l.length → (textGo st b (l.drop k)).length + triN k ≤ triN l.length
  | 0, k, b, hk => by
    rw [txg_end st l k (by omega) b, show k = l.length by omega]
    simp
  | m + 1, k, b, hk => by
    have hlt : k < l.length := by omega
    have h1 := text_len (st := st) h m (k + 1) false (by omega)
    have h2 := h k hlt
    have h3 := verT_len (verOf st l[k].of).a.toNat (verOf st l[k].of).b.toNat (verOf st l[k].of).c.toNat
    rw [triN] at h1
    rw [txg_next st l k hlt b]
    unfold vtx
    cases b <;> simp <;> omega
theorem text_short {stx : List EntX} {st : List EntryD} {l : List PackD} {t : List PkX} (ht : TreeSame stx l t) (hr : Rises (fun p => p.path) l) (hf : Folded l) (h40 : l.length ≤ 40) : (textR st l).length ≤ 4000 := by
  have h1 := text_len (st := st) (path_at ht hr hf) l.length 0 true (by omega)
  have h2 := triN_mono l.length 40 h40
  have h3 : triN 40 = 3680 := by decide
  simp only [List.drop_zero] at h1
  unfold textR
  omega

/-! ### what is read of a tree's own text -/
theorem last_name {stx : List EntX} {l : List PackD} {t : List PkX} (ht : TreeSame stx l t) {p : PackD} (hp : p ∈ l) : (lastR p.path).1 = (stx.getD p.of zeroE).name := by
  have hw := ht.wf p hp
  have hne := tree_ne' ht hp
  by_cases h0 : folderP p.path = []
  · rw [last_out hne h0]
    rw [h0] at hw
    unfold joinR at hw
    rw [if_pos rfl] at hw
    exact hw
  · rw [last_in hne h0]
    unfold joinR at hw
    rw [if_neg h0] at hw
    have e : p.path.drop ((folderP p.path).length + 1) = (folderP p.path ++ [47] ++ (stx.getD p.of zeroE).name).drop ((folderP p.path).length + 1) := by rw [← hw]
    simp only
    rw [e]
    exact List.drop_left' (by simp)
theorem read_go {stx : List EntX} {st : List EntryD} {l : List PackD} {t : List PkX} (hs : StockSame stx st) (ht : TreeSame stx l t) (hr : Rises (fun p => p.path) l) (hsh : Shown st l) (hv : ∀ p ∈ l, versionR (vtx (verOf st p.of)) = (verOf st p.of, true)) : ∀ (l1 l0 : List PackD), l = l0 ++ l1 → readGo st l0 (l1.map (txtD st)) = l
  | [], l0, e => by rw [List.map_nil, readGo, e]; simp
  | p :: l1, l0, e => by
    have hp : p ∈ l := by rw [e]; simp
    have hk := ht.of p hp
    rw [List.map_cons, readGo, piece_cut hsh hp]
    simp only
    rw [hv p hp]
    simp only
    rw [if_pos trivial, last_name ht hp]
    have hval := (hs.at hk).val
    rcases entry_same hs (name := (stx.getD p.of zeroE).name) hval with ⟨k, e1, hk1, _, e3, e4⟩ | ⟨_, e2⟩
    · have hko : k = p.of := hs.one k p.of hk1 hk e3 (by rw [(hs.ver hk1).1, (hs.ver hk).1, e4]; rfl)
      have hvv : verOf st p.of = (st.getD p.of zeroD).v := rfl
      rw [hvv, e1, hko]
      simp only
      have hr' := hr
      rw [e] at hr'
      have hpw := List.pairwise_append.1 hr'
      have hpl : placedR l0 ⟨p.path, p.of⟩ = l0 ++ [p] := by
        rw [placedR_ins]
        exact insX_end _ _ _ fun y hy => hpw.2.2 y hy p (by simp)
      rw [hpl]
      exact read_go hs ht hr hsh hv l1 (l0 ++ [p]) (by rw [e]; simp)
    · exfalso
      have hin : stx.getD p.of zeroE ∈ stx := by
        rw [List.getD_eq_getElem?_getD, List.getElem?_eq_getElem hk]
        exact List.getElem_mem _
      have := List.find?_eq_none.1 e2 _ hin
      exact this (by rw [(hs.ver hk).1]; simp; rfl)
theorem read_text {stx : List EntX} {st : List EntryD} {l : List PackD} {t : List PkX} (hs : StockSame stx st) (ht : TreeSame stx l t) (hr : Rises (fun p => p.path) l) (hsh : Shown st l) (hv : ∀ p ∈ l, versionR (vtx (verOf st p.of)) = (verOf st p.of, true)) : readR st (textR st l) = l := by
  unfold readR
  by_cases h0 : l = []
  · subst h0
    simp [textR, textGo, splitL, readGo, cutR, versionR]
  · have h59 : ((59 : UInt8).toNat : Int) = 59 := rfl
    have := split_join 59 (l.map (txtD st)) (by simpa using h0) fun p hp x hx => by
      obtain ⟨q, hq, rfl⟩ := List.mem_map.1 hp
      exact hsh.n59 q hq x hx
    rw [h59] at this
    rw [textR_join, this]
    exact read_go hs ht hr hsh hv l [] rfl

/-! ### Load -/
theorem KInv.ver {items : List ItemX} {site : List WantX} {sd : SiteD} (h : KInv items site sd) : ∀ p ∈ sd.packs, versionR (vtx (verOf sd.stock p.of)) = (verOf sd.stock p.of, true) := fun p hp => by
  obtain ⟨y, hy, ey⟩ := h.at hp
  have hv : verOf sd.stock p.of = verK y.major y.minor := by
    have : verOf sd.stock p.of = (sd.stock.getD p.of zeroD).v := rfl
    rw [this, ey]; rfl
  rw [hv, verK_text, numberK_ver]
theorem KInv.load {items : List ItemX} {site : List WantX} {sd : SiteD} (h : KInv items site sd) : loadR sd (textR sd.stock sd.packs) = (sd, 0) := by
  obtain ⟨sx, hs⟩ := h.same
  have hr := rises_of hs.tr hs.eq
  have hrd := read_text hs.st hs.tr hr hs.shown h.ver
  have hlen := text_short (st := sd.stock) hs.tr hr hs.fold hs.l40
  have hh : hangsR sd.packs = true := hangs_of hs.tr.nd hs.fold hs.shown.ne
  have hpr : prunedR sd.stock sd.needs sd.packs = sd.packs := by
    obtain ⟨hr2, hm⟩ := prunedR_mem (st := sd.stock) (nd := sd.needs) hs.tr.nd
    refine Rises.ext hr2 hr fun p => ?_
    rw [hm p]
    exact ⟨fun h => h.1, fun hp => ⟨hp, h.good.used p hp⟩⟩
  have hu : (inUseR sd.stock sd.needs sd.packs).length = sd.packs.length := by rw [used_len hs.tr.nd, hpr]
  have h40 := hs.l40
  have hm : allMetR sd.stock sd.packs (allR sd.stock sd.needs sd.packs) = true := by
    unfold allMetR
    rw [List.all_eq_true]
    exact h.good.met
  rw [lr_good (by omega) (by rw [hrd, hh]; simp; omega) (by rw [hrd, hm, hu]; simp), hrd]
theorem spare_none {st : List EntryD} {nd : List NeedD} {l : List PackD} : ∀ (i : Nat), spareGo st nd l i = none → ∀ j, j < i → allMetR st (withoutR l (packAt l j).path) (allR st nd (withoutR l (packAt l j).path)) = false
  | 0, _, j, hj => by omega
  | i + 1, h, j, hj => by
    rw [spareGo] at h
    split at h
    · simp at h
    · rename_i hn
      by_cases e : j = i
      · rw [e]; simpa using hn
      · exact spare_none i h j (by omega)
theorem Shown.sub {st : List EntryD} {l m : List PackD} (h : Shown st l) (hn : m.Pairwise fun p q => p.path ≠ q.path) (hm : ∀ p ∈ m, p ∈ l) : Shown st m :=
  ⟨hn, fun p hp => h.n59 p (hm p hp), fun p hp => h.n64 p (hm p hp), fun p hp => h.last p (hm p hp), fun p hp => h.ne p (hm p hp)⟩
theorem textR_sub {st : List EntryD} (f : PackD → Bool) : ∀ (l : List PackD) (b : Bool), (textGo st b (l.filter f)).length ≤ (textGo st b l).length
  | [], b => by simp
  | p :: r, b => by
    have h1 := textR_sub (st := st) f r false
    have h2 := textR_sub (st := st) f r b
    have h3 : (textGo st b r).length ≤ (textGo st false r).length := by
      cases r with
      | nil => simp [textGo]
      | cons q r => rw [textGo, textGo]; cases b <;> simp
    rw [List.filter_cons]
    split
    · rw [textGo, textGo]
      cases b <;> simp <;> omega
    · rw [textGo]
      cases b <;> simp <;> omega
theorem KInv.thin {items : List ItemX} {site : List WantX} {sd : SiteD} (h : KInv items site sd) (hsp : spareR sd.stock sd.needs sd.packs = none) {p : PackD} (hp : p ∈ sd.packs) : loadR sd (textR sd.stock (withoutR sd.packs p.path)) = (sd, 12) := by
  obtain ⟨sx, hs⟩ := h.same
  have hr := rises_of hs.tr hs.eq
  have hlen := text_short (st := sd.stock) hs.tr hr hs.fold hs.l40
  have hlen2 : (textR sd.stock (withoutR sd.packs p.path)).length ≤ 4000 := by
    have := textR_sub (st := sd.stock) (fun q => !hasR (foldersR q.path) p.path) sd.packs true
    unfold textR at hlen ⊢
    unfold withoutR
    omega
  have hsub : ∀ q ∈ withoutR sd.packs p.path, q ∈ sd.packs := fun q hq => wtd_mem hq
  have ht2 := without_tree hs.tr hs.eq p.path
  have hr2 : Rises (fun p => p.path) (withoutR sd.packs p.path) := List.Pairwise.sublist List.filter_sublist hr
  have hrd := read_text hs.st ht2 hr2 (hs.shown.sub ht2.nd hsub) fun q hq => h.ver q (hsub q hq)
  have hns : allMetR sd.stock (withoutR sd.packs p.path) (allR sd.stock sd.needs (withoutR sd.packs p.path)) = false := by
    obtain ⟨k, hk, e⟩ := List.mem_iff_getElem.1 hp
    have := spare_none _ hsp k hk
    have e2 : packAt sd.packs k = p := by unfold packAt; rw [List.getD_eq_getElem?_getD, List.getElem?_eq_getElem hk]; exact e
    rw [e2] at this
    exact this
  rcases hb : (!decide (textR sd.stock (readR sd.stock (textR sd.stock (withoutR sd.packs p.path))) = textR sd.stock (withoutR sd.packs p.path)) || (!hangsR (readR sd.stock (textR sd.stock (withoutR sd.packs p.path))) || decide (40 < (readR sd.stock (textR sd.stock (withoutR sd.packs p.path))).length))) with _ | _
  · exact lr_use (by omega) hb (by rw [hrd, hns]; rfl)
  · exact lr_text (by omega) hb

/-! ### Slim -/
theorem spg_sound {st : List EntryD} {nd : List NeedD} {l m : List PackD} : ∀ i, spareGo st nd l i = some m → allMetR st m (allR st nd m) = true
  | 0, h => by simp [spareGo] at h
  | i + 1, h => by
    rw [spareGo] at h
    split at h
    · rename_i hs
      have := Option.some.inj h
      subst this
      exact hs
    · exact spg_sound i h
theorem prR_nd {st : List EntryD} {nd : List NeedD} {l : List PackD} (hl : l.Pairwise fun p q => p.path ≠ q.path) : (prunedR st nd l).Pairwise fun p q => p.path ≠ q.path := List.Pairwise.imp (fun h => less_ne h) (prunedR_mem (st := st) (nd := nd) hl).1
theorem slim_good {st : List EntryD} {nd : List NeedD} : ∀ (n : Nat) (l : List PackD), l.length ≤ n → (l.Pairwise fun p q => p.path ≠ q.path) → (∀ p ∈ l, p.path ≠ []) → Good st nd l → Good st nd (slimL st nd l) ∧ spareR st nd (slimL st nd l) = none
  | n, l, hn, hl, hne, hg => by
    rcases e : spareR st nd l with _ | m
    · rw [slim_none e]; exact ⟨hg, e⟩
    · have h1 := spare_lt e
      have h2 := prR_le st nd m
      rw [slim_some e]
      obtain ⟨j, hj, rfl⟩ := spg_some _ e
      have hsub : ∀ q ∈ withoutR l (packAt l j).path, q ∈ l := fun q hq => wtd_mem hq
      have hnd : (withoutR l (packAt l j).path).Pairwise fun p q => p.path ≠ q.path := List.Pairwise.sublist List.filter_sublist hl
      have hso := spg_sound _ e
      unfold allMetR at hso
      rw [List.all_eq_true] at hso
      match n with
      | 0 => omega
      | n + 1 => exact slim_good n _ (by omega) (prR_nd hnd) (fun p hp => hne p (hsub p (prR_sub hp))) (pruned_good hnd (fun p hp => hne p (hsub p hp)) hso)
theorem KInv.slim {items : List ItemX} {site : List WantX} {sd : SiteD} (h : KInv items site sd) (hs' : ∃ sx, SiteSame sx (slimR sd).1) : KInv items site (slimR sd).1 ∧ spareR (slimR sd).1.stock (slimR sd).1.needs (slimR sd).1.packs = none ∧ slimR (slimR sd).1 = ((slimR sd).1, 0) ∧ (slimR sd).2 = (sd.packs.length : Int) - ((slimR sd).1.packs.length : Int) := by
  obtain ⟨sx, hs⟩ := h.same
  obtain ⟨g1, g2⟩ := slim_good _ sd.packs (Nat.le_refl _) hs.tr.nd hs.shown.ne h.good
  refine ⟨⟨hs', h.well, h.stock, g1, h.needs⟩, g2, ?_, rfl⟩
  have e : slimL sd.stock sd.needs (slimL sd.stock sd.needs sd.packs) = slimL sd.stock sd.needs sd.packs := slim_none g2
  unfold slimR
  simp only
  rw [e]
  simp

/-! ### Update, Drop -/
theorem update_two {sd : SiteD} (h : (updateR sd).2 = 0) : updateR (updateR sd).1 = ((updateR sd).1, 0) := by
  unfold updateR settleR at h ⊢
  rcases e : buildR sd.stock sd.needs [] with ⟨_ | l, k⟩
  · rw [e] at h
    simp only at h
    subst h
    simp only
    rw [e]
  · simp only
    rw [e]
theorem update_needs (sd : SiteD) : (updateR sd).1.needs = sd.needs ∧ (updateR sd).1.stock = sd.stock := by
  unfold updateR settleR
  rcases buildR sd.stock sd.needs [] with ⟨_ | l, k⟩ <;> exact ⟨rfl, rfl⟩
theorem drop_last_need {sd : SiteD} {n : NeedD} (h : sd.needs = [n]) : dropR sd n.name = (⟨sd.stock, [], []⟩, 0) := by
  have hr : restR sd.needs n.name = [] := by rw [h]; simp [restR]
  unfold dropR
  rw [hr, h]
  simp only [List.length_nil, List.length_cons]
  rw [if_neg (by omega)]
  unfold settleR buildR
  have hb : buildGo sd.stock sd.packs 1000 [] [] (allR sd.stock [] []) = (some [], 0) := rfl
  rw [hb]
  simp only
  have hp : prunedR sd.stock [] [] = [] := rfl
  rw [hp]

end Hst
end Go.Proofs.YtecocheolbkneaaGreatDoor
