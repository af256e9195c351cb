/- Pworkat, Puse, Pmv -/
import Derived.Test.YtecocheolbkneaaDoorW21
import Derived.Deep.DeepCutAuto
import Derived.Deep.RegionLaw
namespace Go.Proofs.YtecocheolbkneaaDoor
open Go.RowKit
namespace Hst
set_option maxRecDepth 100000

theorem info_asX : (Tryd.prog.info? 164).map (fun i => (i.zero, i.size, i.bytes)) = some (some (.agg #[.string ByteArray.empty, .string ByteArray.empty, .slice none 0 0, .string ByteArray.empty]), 4, 72) := by kernel_rfl
theorem asX_one (x : AsX) {a : Option Addr} {m c : Nat} (h : x.n.sp = .slice a m c) : ∀ u ∈ asXC x, u.oneCell' = true := by
  intro u hu; simp [asXC, h] at hu; rcases hu with rfl | rfl | rfl | rfl <;> rfl
theorem wg_met {st : List EntX} {fav : List PkX} {p : Tx} {k : WorkX} {l : List NeedX} {j : Nat} (hj : j < l.length) (h : meetsP k.tree p l[j] = true) : workGo st fav p k (l.drop j) = workGo st fav p ⟨k.tree, k.list, k.gone ++ [⟨p, l[j]⟩]⟩ (l.drop (j + 1)) := by
  rw [List.drop_eq_getElem_cons hj, workGo, if_pos h]
theorem wg_lay {st : List EntX} {fav : List PkX} {p : Tx} {k : WorkX} {l : List NeedX} {j : Nat} (hj : j < l.length) (h : meetsP k.tree p l[j] = false) (h' : (layP st fav k p l[j]).2 = 0) :
    workGo st fav p k (l.drop j) = workGo st fav p ⟨(layP st fav k p l[j]).1.tree, (layP st fav k p l[j]).1.list, (layP st fav k p l[j]).1.gone ++ [⟨p, l[j]⟩]⟩ (l.drop (j + 1)) := by
  rw [List.drop_eq_getElem_cons hj, workGo, if_neg (by rw [h]; simp), if_pos h']
theorem wg_err {st : List EntX} {fav : List PkX} {p : Tx} {k : WorkX} {l : List NeedX} {j : Nat} (hj : j < l.length) (h : meetsP k.tree p l[j] = false) (h' : ¬ (layP st fav k p l[j]).2 = 0) :
    workGo st fav p k (l.drop j) = layP st fav k p l[j] := by
  rw [List.drop_eq_getElem_cons hj, workGo, if_neg (by rw [h]; simp), if_neg h']
theorem wg_end {st : List EntX} {fav : List PkX} {p : Tx} {k : WorkX} {l : List NeedX} {j : Nat} (hj : ¬ j < l.length) : workGo st fav p k (l.drop j) = (k, 0) := by
  rw [List.drop_of_length_le (by omega)]; rfl

attribute [local go_sem ↓] Go.wp_at_zero Go.wp_at_succ

set_option maxHeartbeats 4000000 in
theorem workAt_any (b B : Nat) (st : List EntX) (fav : List PkX) (k : WorkX) (x : WhX) (w : World) (hw : WorkAt w b B st fav k) (hB : B ≤ b) (hx : NeedsIn w x.needs x.nd) (hst : StOk st) (hfl : fav.length ≤ 1000) (hok : WOk k) (hxp : x.path.length ≤ 4 * k.tree.length) (hxn : x.nd.length ≤ 6) (hgl : k.gone.length ≤ 50000) :
    Calls Tryd.prog 90 #[.pointer (some ⟨b, 0, none⟩), whXV x] w fun e w' => e = .returned (.int .i64 (workGo st fav x.path k x.nd).2) ∧ Moves b B w w' ∧ WorkAt w' b B st fav (workGo st fav x.path k x.nd).1 := by
  obtain ⟨i0, hi, hz0, hz1, hz2⟩ := info_parts info_asX
  obtain ⟨xp, xv, xd⟩ := x
  simp only at hx hxp hxn
  obtain ⟨xa, xc, rfl⟩ := hx.1.form
  have hlt := hw.lt
  have HBz : Hid (B ≤ w.heap.size) := by unfold Hid; omega
  have hbw := (Below.refl w.heap.size w).alloc (Nat.le_refl _) (.cells #[.string (bs xp), .slice xa xd.length xc] 145)
  have HW := hid' (hw.below hbw)
  have HX := hid' (hx.below hbw)
  have HM0 := hid' (Moves.of_below (b := b) (B := B) hbw hlt HBz.out)
  have e0 : (w.alloc (.cells #[.string (bs xp), .slice xa xd.length xc] 145)).cell? ⟨w.heap.size, 0, none⟩ = some (.string (bs xp)) := by simp
  have hsz : (w.alloc (.cells #[.string (bs xp), .slice xa xd.length xc] 145)).heap.size = w.heap.size + 1 := by simp
  have HFR : Hid (Free (w.alloc (.cells #[.string (bs xp), .slice xa xd.length xc] 145)) b w.heap.size) := by
    obtain ⟨v3, c3, r3, _⟩ := hw.list
    obtain ⟨v4, c4, r4, _⟩ := hw.gone
    refine ⟨by simp, by omega, fun v hv e => ?_, fun v hv e => ?_⟩
    · rw [(bcell hbw).1 b 3 hlt, c3] at hv; simp at hv; subst hv; have := (r3.lt _ e).2; omega
    · rw [(bcell hbw).1 b 4 hlt, c4] at hv; simp at hv; subst hv; have := (r4.lt _ e).2; omega
  have HST := hid' hst
  have HOK := hid' hok
  clear hw hx hbw hok
  go_enter Tryd.func90, Tryd.ntmps90
  go_wp2
  generalize w.alloc (.cells #[.string (bs xp), .slice xa xd.length xc] 145) = W at *
  have HE0 := hid' e0
  have hWz : w.heap.size < W.heap.size := by omega
  clear e0 hsz
  go_loopw [11] (fun i wr => ∃ (j : Nat) (kk : WorkX), j ≤ xd.length ∧ i = .int .i64 j ∧ Hid (Moves b B W wr ∧ WorkAt wr b B st fav kk ∧ WOk kk ∧ k.tree.length ≤ kk.tree.length ∧ kk.gone.length ≤ k.gone.length + j ∧ workGo st fav xp k xd = workGo st fav xp kk (xd.drop j))) (fun i _ => xd.length - (intOf i).toNat)
  case atStart => exact ⟨0, k, Nat.zero_le _, rfl, Moves.refl _ _ _, HW.out, HOK.out, Nat.le_refl _, by omega, rfl⟩
  case round =>
    obtain ⟨j, kk, hj, rfl, hall⟩ := hrel
    obtain ⟨hmv, hwk, hok, htl, hgn, heq⟩ := hall.out
    have HMV := hid' hmv; have HWK := hid' hwk; have HOK2 := hid' hok; have HTL := hid' htl; have HGN := hid' hgn; have HEQ := hid' heq
    obtain ⟨hfr1, hfr2⟩ := hmv.free _ HFR.out
    have hwr := hfr2.1
    have ep : wr.cell? ⟨w.heap.size, 0, none⟩ = some (.string (bs xp)) := by rw [World.cell?_of_block (w := W) hfr1]; exact HE0.out
    have hXN := HX.out.moves HW.out hmv
    have HFR2 := hid' hfr2
    have hbr := hwk.lt
    clear hmv hwk hok htl hgn heq hfr1 hfr2 hall
    by_cases hlt2 : j < xd.length
    · obtain ⟨g, o, cap', hv, hg, hc⟩ := hXN.1.needs hlt2
      simp at hv
      obtain ⟨rfl, rfl⟩ := hv
      obtain ⟨c0, c1, c2⟩ := hc j hlt2
      have hni := hXN.2 xd[j] (List.getElem_mem hlt2)
      obtain ⟨na, nc, hnf⟩ := hni.form
      have hba := (Below.refl wr.heap.size wr).alloc (Nat.le_refl _) (.cells #[.string (bs xd[j].name), xd[j].sp, .string (bs xd[j].text)] 86)
      have HNI := hid' (hni.below hba)
      have HWB := hid' (HWK.out.below hba)
      have HMB := hid' (HMV.out.trans (Moves.of_below hba hbr (by omega)))
      have HFB := hid' ((Moves.of_below (b := b) (B := B) hba hbr (by omega)).free _ HFR2.out)
      have epb := ((bcell hba).1 w.heap.size 0 hwr).trans ep
      have G1 := hid' (wg_met (st := st) (fav := fav) (p := xp) (k := kk) hlt2)
      have G2 := hid' (wg_lay (st := st) (fav := fav) (p := xp) (k := kk) hlt2)
      have G3 := hid' (wg_err (st := st) (fav := fav) (p := xp) (k := kk) hlt2)
      clear hc hni hba hXN
      generalize xd[j] = y at *
      obtain ⟨yn, ysp, ys, yt⟩ := y
      simp only at hnf c0 c1 c2 HWB HNI HMB HFB epb
      subst hnf
      obtain ⟨v2, e2, r2⟩ := HWB.out.tree
      obtain ⟨ta, tc, rfl⟩ := r2.1.form
      have HR2 := hid' r2
      have HMT := hid' (fun w h hn => meets_any (.slice ta kk.tree.length tc) kk.tree (bs xp) ⟨yn, .slice na ys.length nc, ys, yt⟩ w h (by have := HOK2.out.tree; omega) (fun q hq => by have h1 := HOK2.out.tp q hq; have h2 := HOK2.out.tree; omega) (by rw [bs_size]; have h1 := HOK2.out.tree; have h2 := HTL.out; omega) hn)
      rw [tx_bs] at HMT
      have q0 : (wr.alloc (.cells #[.string (bs yn), .slice na ys.length nc, .string (bs yt)] 86)).cell? ⟨wr.heap.size, 0, none⟩ = some (.string (bs yn)) := by simp
      have q1 : (wr.alloc (.cells #[.string (bs yn), .slice na ys.length nc, .string (bs yt)] 86)).cell? ⟨wr.heap.size, 1, none⟩ = some (.slice na ys.length nc) := by simp
      have q2 : (wr.alloc (.cells #[.string (bs yn), .slice na ys.length nc, .string (bs yt)] 86)).cell? ⟨wr.heap.size, 2, none⟩ = some (.string (bs yt)) := by simp
      have hsz : (wr.alloc (.cells #[.string (bs yn), .slice na ys.length nc, .string (bs yt)] 86)).heap.size = wr.heap.size + 1 := by simp
      have htg : tagOf (wr.alloc (.cells #[.string (bs yn), .slice na ys.length nc, .string (bs yt)] 86)) wr.heap.size = some 86 := tag_new _ _ _
      clear r2
      go_wp2
      generalize wr.alloc (.cells #[.string (bs yn), .slice na ys.length nc, .string (bs yt)] 86) = V at *
      have hVw : w.heap.size < V.heap.size := by omega
      have hVr : wr.heap.size < V.heap.size := by omega
      have hVb : b < V.heap.size := by omega
      clear c0 c1 c2 hsz
      go_region_held3 (fun w' => w'.cell? ⟨b, 2, none⟩ = some (.slice ta kk.tree.length tc) ∧ w'.cell? ⟨w.heap.size, 0, none⟩ = some (.string (bs xp)) ∧ w'.cell? ⟨wr.heap.size, 0, none⟩ = some (.string (bs yn)) ∧ w'.cell? ⟨wr.heap.size, 1, none⟩ = some (.slice na ys.length nc) ∧ w'.cell? ⟨wr.heap.size, 2, none⟩ = some (.string (bs yt))) (go_keep)
        (first | (go_at_call 102; refine (HMT.out _ (by first | exact HR2.out | exact HR2.out.drew) (by first | exact HNI.out | exact HNI.out.drew)).mono ?_; rintro e w1 ⟨rfl, hb1⟩; have hy1 := (bcell hb1).1; simp at hy1))
      have hb1' := (Below.refl V.heap.size V).drew.trans (hb1.mono (by simp))
      have hcc := (bcell hb1').1
      have ep1 := (hcc w.heap.size 0 hVw).trans epb
      have p0 := (hcc wr.heap.size 0 hVr).trans q0
      have p1 := (hcc wr.heap.size 1 hVr).trans q1
      have p2 := (hcc wr.heap.size 2 hVr).trans q2
      have hz1q := hb1'.size
      have HW1 := hid' (HWB.out.below hb1')
      have HM1 := hid' (HMB.out.trans (Moves.of_below hb1' hVb (by omega)))
      have HN1 := hid' (HNI.out.below hb1')
      have HF1 := hid' ((Moves.of_below (b := b) (B := B) hb1' hVb (by omega)).free _ HFB.out.2).2
      have HF2 : Hid (Free w1 b wr.heap.size) := HW1.out.free (by omega) (by rw [tagOf_below hb1' hVr]; exact htg) (by decide) (by decide) (by decide)
      have hw1 : w.heap.size < w1.heap.size := by omega
      have hw1r : wr.heap.size < w1.heap.size := by omega
      clear hb1 hb1' hcc hy1 q0 q1 q2 epb htg HWB HMB HNI HFB HMT HR2 e2
      go_upto_if 23 with fail
      go_cut [7] (fun t wc => ∃ k2 : WorkX, Hid (Moves b B W wc ∧ WorkAt wc b B st fav k2 ∧ WOk k2 ∧ k.tree.length ≤ k2.tree.length ∧ k2.gone.length ≤ k.gone.length + j ∧ workGo st fav xp k xd = workGo st fav xp ⟨k2.tree, k2.list, k2.gone ++ [⟨xp, ⟨yn, .slice na ys.length nc, ys, yt⟩⟩]⟩ (xd.drop (j + 1)) ∧ NeedIn wc ⟨yn, .slice na ys.length nc, ys, yt⟩) ∧ w.heap.size < wc.heap.size ∧ wr.heap.size < wc.heap.size ∧ wc.cell? ⟨w.heap.size, 0, none⟩ = some (.string (bs xp)) ∧ wc.cell? ⟨wr.heap.size, 0, none⟩ = some (.string (bs yn)) ∧ wc.cell? ⟨wr.heap.size, 1, none⟩ = some (.slice na ys.length nc) ∧ wc.cell? ⟨wr.heap.size, 2, none⟩ = some (.string (bs yt)))
      case first =>
        have HLA := hid' (lay_any b B st fav kk (bs xp) ⟨yn, .slice na ys.length nc, ys, yt⟩ w1 HW1.out hB HN1.out (by have := HST.out.1; omega) hfl (by rw [bs_size]; have h1 := HOK2.out.tree; have h2 := HTL.out; omega) (by have := HOK2.out.tree; omega) (fun q hq => by have h1 := HOK2.out.tp q hq; have h2 := HOK2.out.tree; omega) (by have := HGN.out; omega) (fun q hq => by have := HOK2.out.gp q hq; omega) (by have h1 := HOK2.out.list; have h2 := HOK2.out.tree; omega))
        rw [tx_bs] at HLA
        have HLO := hid' (HOK2.out.lay (fav := fav) (n := ⟨yn, .slice na ys.length nc, ys, yt⟩) HST.out (show xp.length ≤ 4 * kk.tree.length by have := HTL.out; omega))
        rcases hmt : meetsP kk.tree xp ⟨yn, .slice na ys.length nc, ys, yt⟩ with _ | _
        · have G2' := hid' (G2.out hmt)
          have G3' := hid' (G3.out hmt)
          clear hmt G1 G2 G3
          generalize layP st fav kk xp ⟨yn, .slice na ys.length nc, ys, yt⟩ = lr at *
          obtain ⟨lk, le⟩ := lr
          simp only at HLA HLO G2' G3'
          go_wp2_with fail
          refine HLA.out.mono ?_
          rintro e w2 ⟨rfl, hm2, hwk2⟩
          obtain ⟨hfa, hfb⟩ := hm2.free _ HF1.out
          obtain ⟨hfc, hfd⟩ := hm2.free _ HF2.out
          have x0 : w2.cell? ⟨w.heap.size, 0, none⟩ = some (.string (bs xp)) := by rw [World.cell?_of_block (w := w1) hfa]; exact ep1
          have y0 : w2.cell? ⟨wr.heap.size, 0, none⟩ = some (.string (bs yn)) := by rw [World.cell?_of_block (w := w1) hfc]; exact p0
          have y1 : w2.cell? ⟨wr.heap.size, 1, none⟩ = some (.slice na ys.length nc) := by rw [World.cell?_of_block (w := w1) hfc]; exact p1
          have y2 : w2.cell? ⟨wr.heap.size, 2, none⟩ = some (.string (bs yt)) := by rw [World.cell?_of_block (w := w1) hfc]; exact p2
          have HM2 := hid' (HM1.out.trans hm2)
          have HN2 := hid' (HN1.out.moves HW1.out hm2)
          have HW2 := hid' hwk2
          have l1 := hfb.1
          have l2 := hfd.1
          by_cases hle : le = 0
          · subst hle
            have HE : Hid (workGo st fav xp k xd = workGo st fav xp ⟨lk.tree, lk.list, lk.gone ++ [⟨xp, ⟨yn, .slice na ys.length nc, ys, yt⟩⟩]⟩ (xd.drop (j + 1))) := by unfold Hid; rw [HEQ.out]; exact G2'.out (by first | rfl | trivial)
            have HG : Hid (lk.gone.length ≤ k.gone.length + j) := by unfold Hid; rw [HLO.out.2.2]; exact HGN.out
            clear G2' G3' hfa hfb hfc hfd hm2 hwk2
            go_wp2
            go_meet
            exact ⟨lk, ⟨HM2.out, HW2.out, HLO.out.1, Nat.le_trans HTL.out HLO.out.2.1, HG.out, HE.out, HN2.out⟩, l1, l2, x0, y0, y1, y2⟩
          · have HE : Hid (workGo st fav xp k xd = (lk, le)) := by unfold Hid; rw [HEQ.out]; exact G3'.out hle
            have hbn : (le == 0) = false := beq_eq_false_iff_ne.2 hle
            have hbn2 : (le != 0) = true := by simp [bne, hbn]
            clear G2' G3' hfa hfb hfc hfd hm2 hwk2
            go_wp2
            go_ret
            refine ⟨ret_int (by rw [HE.out]), HM0.out.trans HM2.out, ?_⟩
            rw [HE.out]; exact HW2.out
        · have HE : Hid (workGo st fav xp k xd = workGo st fav xp ⟨kk.tree, kk.list, kk.gone ++ [⟨xp, ⟨yn, .slice na ys.length nc, ys, yt⟩⟩]⟩ (xd.drop (j + 1))) := by unfold Hid; rw [HEQ.out]; exact G1.out hmt
          clear hmt G1 G2 G3 HLA HLO
          go_wp2
          go_meet
          exact ⟨kk, ⟨HM1.out, HW1.out, HOK2.out, HTL.out, HGN.out, HE.out, HN1.out⟩, hw1, hw1r, ep1, p0, p1, p2⟩
      case rest =>
        obtain ⟨k2, hh, l1, l2, x0, y0, y1, y2⟩ := hcut
        obtain ⟨hm2, hwk2, hok2, htl2, hgn2, heq2, hni2⟩ := hh.out
        have HM2 := hid' hm2; have HW2 := hid' hwk2; have HN2 := hid' hni2; have HOK3 := hid' hok2; have HTL2 := hid' htl2; have HGN2 := hid' hgn2; have HEQ2 := hid' heq2
        obtain ⟨v4, e4, r4, q4⟩ := hwk2.gone
        obtain ⟨ga, gc, rfl⟩ := own_slice r4
        have hf4 := hwk2.f4
        have hXb := hwk2.lt
        have hgl2 : k2.gone.length ≤ 60000 := by omega
        have HNB : Hid (∀ q, (Value.slice ga k2.gone.length gc).ownBlock = some q → q ≠ b) := fun q hq e => by
          have h1 := tag_of_own r4 hq
          rw [e, hwk2.tag] at h1
          exact absurd h1 (by decide)
        obtain ⟨X, rfl⟩ : ∃ X, X = wc := ⟨_, rfl⟩
        clear hh hm2 hwk2 hok2 htl2 hgn2 heq2 hni2 q4 HM1 HW1 HN1 HF1 HF2 ep1 p0 p1 p2 HMV HWK HOK2 HTL HGN HEQ HFR2 ep G1 G2 G3
        go_wp2
        have HOK4 := hid' (HOK3.out.gone (path := xp) (show xp.length ≤ 4 * k2.tree.length by have := HTL2.out; omega) ⟨yn, .slice na ys.length nc, ys, yt⟩)
        go_region_law (refine step_append_lies _ (by rfl) _ _ 141 (by rfl) B 164 i0 (.agg #[.string ByteArray.empty, .string ByteArray.empty, .slice none 0 0, .string ByteArray.empty]) 4 72 Tryd.underlying141 hi hz0 hz1 hz2 (by rfl) (by omega) _ _ _ (by rfl) (by first | exact (r4.alloc _).drew | exact r4.drew.alloc _) ⟨X.heap.size, 0, none⟩ 1 1 [.string (bs xp), .string (bs yn), .slice na ys.length nc, .string (bs yt)] (by rfl) (by rfl) (by first | exact news_4 _ _ _ _ _ _) (asX_one ⟨xp, ⟨yn, .slice na ys.length nc, ys, yt⟩⟩ rfl) (by omega) (by unfold maxLen; omega) (by omega) (by simp; omega) (X.heap.size + 1) (by simp) ?_; intro g1 cap1 w5 hown5 hgrow5 hat5 hlt5; have y3 := grow_far hgrow5 (b := b) (by simp; omega) HNB.out 4; have y4 := grow_far_f hgrow5 (b := b) (by simp; omega) HNB.out 4; simp [go_sem] at y3 y4)
        all_goals
          have R := WorkAt.pushGone (v := .slice ga k2.gone.length gc) (x := ⟨xp, ⟨yn, .slice na ys.length nc, ys, yt⟩⟩) (HW2.out.below (by first | exact ((Below.refl _ _).alloc (Nat.le_refl _) _).drew | exact (Below.refl _ _).drew.alloc (by simp) _)) hB ((Below.cell (w := X) (by first | exact ((Below.refl _ _).alloc (Nat.le_refl _) _).drew | exact (Below.refl _ _).drew.alloc (by simp) _) (p := ⟨b, 4, none⟩) hXb).trans e4) (HN2.out.below (by first | exact ((Below.refl _ _).alloc (Nat.le_refl _) _).drew | exact (Below.refl _ _).drew.alloc (by simp) _)) hown5 hgrow5 (hat5.imp id (fun h => by rw [h]; simp))
          have HR := hid' (And.intro R.1 ((HM2.out.trans (Moves.of_below (by first | exact ((Below.refl _ _).alloc (Nat.le_refl _) _).drew | exact (Below.refl _ _).drew.alloc (by simp) _) hXb (by omega))).trans R.2))
          clear R hown5 hgrow5 hat5
          go_wp2
          go_roundw
          case rel => exact ⟨j + 1, ⟨k2.tree, k2.list, k2.gone ++ [⟨xp, ⟨yn, .slice na ys.length nc, ys, yt⟩⟩]⟩, by omega, by go_num, HR.out.2, HR.out.1, HOK4.out, HTL2.out, by have := HGN2.out; simp; omega, HEQ2.out⟩
          case measure => simp [intOf] <;> omega
    · have HF : Hid (workGo st fav xp k xd = (kk, 0)) := by unfold Hid; rw [HEQ.out, wg_end hlt2]
      go_wp2
      go_ret
      refine ⟨ret_int (by rw [HF.out]), HM0.out.trans HMV.out, ?_⟩
      rw [HF.out]; exact HWK.out

end Hst
end Go.Proofs.YtecocheolbkneaaDoor
namespace Go.Proofs.YtecocheolbkneaaDoor
namespace Hst

theorem insG_true {α : Type} (key : α → Tx) (x : α) : ∀ l : List α, insG key x true l = l
  | [] => rfl
  | y :: r => by simp [insG, insG_true key x r]
theorem insG_perm {α : Type} (key : α → Tx) (x : α) : ∀ l : List α, (insG key x false l).Perm (x :: l)
  | [] => by simp [insG]
  | y :: r => by
    simp only [insG, true_and]
    split
    · rw [insG_true]
    · exact ((insG_perm key x r).cons y).trans (List.Perm.swap x y r)
theorem nodup_le {α : Type} [DecidableEq α] : ∀ (l m : List α), l.Nodup → (∀ x ∈ l, x ∈ m) → l.length ≤ m.length
  | [], m, _, _ => by simp
  | x :: r, m, hn, hs => by
    have hx := hs x (by simp)
    have h1 : (m.erase x).length = m.length - 1 := List.length_erase_of_mem hx
    have h2 := nodup_le r (m.erase x) (List.nodup_cons.1 hn).2 (fun y hy => by
      have hne : y ≠ x := fun e => (List.nodup_cons.1 hn).1 (e ▸ hy)
      exact (List.mem_erase_of_ne hne).2 (hs y (by simp [hy])))
    have h3 : 0 < m.length := List.length_pos_of_mem hx
    simp; omega
/-- What holds of the used packages and of the list. -/
structure UInv (t : List PkX) (used : List PkX) (list : List WhX) : Prop where
  nd : (used.map fun p => p.path).Nodup
  sub : ∀ p ∈ used, p ∈ t
  len : list.length = used.length + 1
theorem UInv.le {t used : List PkX} {list : List WhX} (h : UInv t used list) : used.length ≤ t.length := by
  have := nodup_le (used.map fun p => p.path) (t.map fun p => p.path) h.nd (fun x hx => by
    simp only [List.mem_map] at hx ⊢
    obtain ⟨p, hp, e⟩ := hx
    exact ⟨p, h.sub p hp, e⟩)
  simpa using this
theorem findGo_in (l : List PkX) (n : Tx) : ∀ (m : Nat) (f : Tx) (p : PkX), f.length ≤ m → findP l n f = some p → p ∈ l
  | m, f, p, hm, h => by
    rw [findP_eq] at h
    by_cases h0 : f = []
    · rw [dif_pos h0] at h; exact List.mem_of_find?_eq_some h
    · rw [dif_neg h0] at h
      rcases hi : inP l f n with _ | q
      · rw [hi] at h
        have hlt := folderP_lt h0
        cases m with
        | zero => have := List.length_pos_iff.2 h0; omega
        | succ m => exact findGo_in l n m _ p (by omega) h
      · rw [hi] at h; simp at h; subst h; exact List.mem_of_find?_eq_some hi
theorem findP_in {l : List PkX} {n f : Tx} {p : PkX} (h : findP l n f = some p) : p ∈ l := findGo_in l n _ f p (Nat.le_refl _) h
theorem UInv.step {t used : List PkX} {list : List WhX} (h : UInv t used list) {p : PkX} (hp : p ∈ t) (hh : hasAtP used p.path = false) (x : WhX) : UInv t (withP used p) (list ++ [x]) := by
  have hperm := insG_perm (fun p : PkX => p.path) p used
  refine ⟨?_, fun q hq => ?_, ?_⟩
  · have h1 : ((withP used p).map fun p => p.path).Perm (p.path :: used.map fun p => p.path) := hperm.map _
    refine h1.nodup_iff.2 (List.nodup_cons.2 ⟨fun hm => ?_, h.nd⟩)
    simp only [List.mem_map] at hm
    obtain ⟨q, hq, e⟩ := hm
    unfold hasAtP at hh
    have := List.any_eq_false.1 hh q hq
    simp at this
    exact this e
  · rcases List.mem_cons.1 (hperm.mem_iff.1 hq) with rfl | hq
    · exact hp
    · exact h.sub q hq
  · have := insG_len' (fun p : PkX => p.path) p used false
    unfold withP
    rw [this]
    simp [h.len]
theorem ug_none {t used : List PkX} {path : Tx} {list : List WhX} {nd : List NeedX} {j : Nat} (hj : j < nd.length) (h : findP t nd[j].name path = none) : usedGo t path used list (nd.drop j) = usedGo t path used list (nd.drop (j + 1)) := by
  rw [List.drop_eq_getElem_cons hj, usedGo, h]
theorem ug_has {t used : List PkX} {path : Tx} {list : List WhX} {nd : List NeedX} {j : Nat} {p : PkX} (hj : j < nd.length) (h : findP t nd[j].name path = some p) (hh : hasAtP used p.path = true) : usedGo t path used list (nd.drop j) = usedGo t path used list (nd.drop (j + 1)) := by
  rw [List.drop_eq_getElem_cons hj, usedGo, h]; simp only; rw [if_pos hh]
theorem ug_new {t used : List PkX} {path : Tx} {list : List WhX} {nd : List NeedX} {j : Nat} {p : PkX} (hj : j < nd.length) (h : findP t nd[j].name path = some p) (hh : hasAtP used p.path = false) : usedGo t path used list (nd.drop j) = usedGo t path (withP used p) (list ++ [⟨p.path, p.e.needs, p.e.nd⟩]) (nd.drop (j + 1)) := by
  rw [List.drop_eq_getElem_cons hj, usedGo, h]; simp only; rw [if_neg (by rw [hh]; simp)]
theorem ug_end {t used : List PkX} {path : Tx} {list : List WhX} {nd : List NeedX} {j : Nat} (hj : ¬ j < nd.length) : usedGo t path used list (nd.drop j) = (used, list) := by
  rw [List.drop_of_length_le (by omega)]; rfl
theorem iu_step {t used : List PkX} {list : List WhX} {f i : Nat} (hi : i < list.length) : inUseGo t (f + 1) i used list = inUseGo t f (i + 1) (usedGo t list[i].path used list list[i].nd).1 (usedGo t list[i].path used list list[i].nd).2 := by
  rw [inUseGo, List.getElem?_eq_getElem hi]
theorem iu_end {t used : List PkX} {list : List WhX} {f i : Nat} (hi : ¬ i < list.length) : inUseGo t (f + 1) i used list = used := by
  rw [inUseGo, List.getElem?_eq_none (by omega)]

end Hst
end Go.Proofs.YtecocheolbkneaaDoor
namespace Go.Proofs.YtecocheolbkneaaDoor
open Go.RowKit
namespace Hst

structure Mv (c B : Nat) (w w' : World) (lv lv' : Value) : Prop where
  below : Below B w w'
  free : ∀ s, s < w.heap.size → s ≠ c → lv.ownBlock ≠ some s → w'.heap[s]? = w.heap[s]? ∧ lv'.ownBlock ≠ some s
theorem Mv.refl (c B : Nat) (w : World) (lv : Value) : Mv c B w w lv lv := ⟨Below.refl _ _, fun _ _ _ h => ⟨rfl, h⟩⟩
theorem Mv.trans {c B : Nat} {w w1 w2 : World} {l0 l1 l2 : Value} (h : Mv c B w w1 l0 l1) (k : Mv c B w1 w2 l1 l2) : Mv c B w w2 l0 l2 :=
  ⟨h.below.trans k.below, fun s h1 h2 h3 => by
    obtain ⟨a, b⟩ := h.free s h1 h2 h3
    obtain ⟨a', b'⟩ := k.free s (Nat.lt_of_lt_of_le h1 h.below.size) h2 b
    exact ⟨a'.trans a, b'⟩⟩
theorem Mv.of_below {c B : Nat} {w w' : World} {lv : Value} (h : Below w.heap.size w w') (hB : B ≤ w.heap.size) : Mv c B w w' lv lv := ⟨h.mono hB, fun s h1 _ h3 => ⟨h.block s h1, h3⟩⟩
theorem RowX.mv {α : Type} {f : α → List Value} {size n B' : Nat} {t : TypeId} {c B : Nat} {w w' : World} {v lv lv' : Value} {l : List α} {xs : List Value} (h : RowX f size t w v l) (ho : w.ownsRow B' 145 2 lv n xs) (hc : tagOf w c = some 96) (hm : Mv c B w w' lv lv') (h1 : t ≠ 145) (h2 : t ≠ 96) : RowX f size t w' v l := by
  obtain ⟨a, cap, e, hr, ht⟩ := h
  have hfar : ∀ g o, 0 < l.length → a = some ⟨g, o, none⟩ → g < w.heap.size → w'.heap[g]? = w.heap[g]? := fun g o h0 ha hlt => by
    refine (hm.free g hlt (fun e => ?_) (fun e => ?_)).1
    · subst e; have := ht g o h0 ha; rw [hc] at this; exact h2 (by simpa using this.symm)
    · have := tag_of_own ho e; rw [ht g o h0 ha] at this; exact h1 (by simpa using this)
  refine ⟨a, cap, e, ⟨hr.len, hr.cap, fun hn => ?_⟩, fun g o h0 ha => ?_⟩
  · obtain ⟨g, o, ha, hlt, hcc⟩ := hr.at' hn
    exact ⟨g, o, ha, Nat.lt_of_lt_of_le hlt hm.below.size, fun i hi => by rw [World.cell?_of_block (w := w) (hfar g o hn ha hlt)]; exact hcc i hi⟩
  · obtain ⟨g', o', ha', hlt, _⟩ := hr.at' h0
    rw [ha] at ha'
    simp at ha'
    have hq := hfar g o h0 ha (by omega)
    unfold tagOf
    rw [hq]
    exact ht g o h0 ha

/-- The used tree and the list, in memory. -/
structure UAt (w : World) (c B : Nat) (lv : Value) (used : List PkX) (list : List WhX) : Prop where
  own : w.ownsRow B 145 2 lv list.length (list.flatMap whXC)
  wh : ∀ x ∈ list, NeedsIn w x.needs x.nd
  cell : ∃ v, w.cell? ⟨c, 0, none⟩ = some v ∧ PksIn w v used
  fr : w.frozen? ⟨c, 0, none⟩ = false
  tag : tagOf w c = some 96
  lt : c < w.heap.size
theorem UAt.below {w w' : World} {c B : Nat} {lv : Value} {used : List PkX} {list : List WhX} (h : UAt w c B lv used list) (hb : Below w.heap.size w w') : UAt w' c B lv used list := by
  obtain ⟨v, e, r⟩ := h.cell
  exact ⟨own_below h.own hb, fun x hx => (h.wh x hx).below hb, ⟨v, by rw [(bcell hb).1 c 0 h.lt]; exact e, r.below hb⟩, by rw [(bcell hb).2 c 0 h.lt]; exact h.fr, by rw [tagOf_below hb h.lt]; exact h.tag, Nat.lt_of_lt_of_le h.lt hb.size⟩
theorem NeedIn.mv {w w' : World} {c B : Nat} {lv lv' : Value} {used : List PkX} {list : List WhX} {x : NeedX} (h : NeedIn w x) (hu : UAt w c B lv used list) (hm : Mv c B w w' lv lv') : NeedIn w' x :=
  ⟨RowX.mv h.sp hu.own hu.tag hm (by decide) (by decide), h.ne, h.le, h.nm, h.tx⟩
theorem NeedsIn.mv {w w' : World} {c B : Nat} {lv lv' : Value} {used : List PkX} {list : List WhX} {v : Value} {l : List NeedX} (h : NeedsIn w v l) (hu : UAt w c B lv used list) (hm : Mv c B w w' lv lv') : NeedsIn w' v l :=
  ⟨RowX.mv h.1 hu.own hu.tag hm (by decide) (by decide), fun n hn => (h.2 n hn).mv hu hm⟩
theorem EntIn.mv {w w' : World} {c B : Nat} {lv lv' : Value} {used : List PkX} {list : List WhX} {e : EntX} (h : EntIn w e) (hu : UAt w c B lv used list) (hm : Mv c B w w' lv lv') : EntIn w' e := ⟨h.1.mv hu hm, h.2⟩
theorem PksIn.mv {w w' : World} {c B : Nat} {lv lv' : Value} {used : List PkX} {list : List WhX} {v : Value} {l : List PkX} (h : PksIn w v l) (hu : UAt w c B lv used list) (hm : Mv c B w w' lv lv') : PksIn w' v l :=
  ⟨RowX.mv h.1 hu.own hu.tag hm (by decide) (by decide), fun n hn => (h.2 n hn).mv hu hm⟩
theorem UAt.set {w : World} {c B : Nat} {lv : Value} {used used' : List PkX} {list : List WhX} (h : UAt w c B lv used list) (hB : B ≤ c) {v : Value} (hv : PksIn w v used') :
    UAt (w.setCell ⟨c, 0, none⟩ v) c B lv used' list ∧ Mv c B w (w.setCell ⟨c, 0, none⟩ v) lv lv := by
  obtain ⟨v0, e0, _⟩ := h.cell
  have hbut := But.set w c 0 v
  have f := h.fr
  refine ⟨⟨own_but h.own hbut (.inr (by rw [h.tag]; decide)), fun x hx => (h.wh x hx).off hbut (odd_of h.tag (by decide) (by decide)), ⟨v, by simp [go_sem, *], hv.off hbut h.tag (by decide) (by decide) (by decide)⟩, by simp [go_sem, *], by rw [tag_set]; exact h.tag, by simpa using h.lt⟩, ?_⟩
  exact ⟨(Below.refl _ _).setCell hB _, fun s h1 h2 h3 => ⟨hbut.block s h1 h2, h3⟩⟩
theorem UAt.push {w w1 : World} {c B : Nat} {lv : Value} {used : List PkX} {list : List WhX} (h : UAt w c B lv used list) {x : WhX} (hx : NeedsIn w x.needs x.nd) {g cap : Nat} (hBz : B ≤ w.heap.size)
    (hown : w1.ownsRow B 145 2 (.slice (some ⟨g, 0, none⟩) (list.length + 1) cap) (list.length + 1) (list.flatMap whXC ++ whXC x)) (hg : w.grownBy w1 lv.ownBlock) (hat : lv.ownBlock = some g ∨ g = w.heap.size) :
    UAt w1 c B (.slice (some ⟨g, 0, none⟩) (list.length + 1) cap) used (list ++ [x]) ∧ Mv c B w w1 lv (.slice (some ⟨g, 0, none⟩) (list.length + 1) cap) := by
  obtain ⟨v0, e0, r0⟩ := h.cell
  have hne : some c ≠ lv.ownBlock := fun e => by
    have := tag_of_own h.own e.symm; rw [h.tag] at this; exact absurd this (by decide)
  have hcb : w1.heap[c]? = w.heap[c]? := hg.block c h.lt hne
  have e1' : (list ++ [x]).flatMap whXC = list.flatMap whXC ++ whXC x := by simp
  have e2' : (list ++ [x]).length = list.length + 1 := by simp
  refine ⟨⟨by rw [e1', e2']; exact hown, fun y hy => ?_, ⟨v0, by rw [World.cell?_of_block (w := w) hcb]; exact e0, ⟨RowX.grown r0.1 hg h.own (by decide), fun e he => (r0.2 e he).grown hg h.own (by decide) (by decide)⟩⟩, by rw [World.frozen?_of_block (w := w) hcb]; exact h.fr, by unfold tagOf; rw [hcb]; exact h.tag, Nat.lt_of_lt_of_le h.lt hg.size⟩, ?_⟩
  · simp only [List.mem_append, List.mem_singleton] at hy
    rcases hy with hy | rfl
    · exact (h.wh y hy).grown hg h.own (by decide) (by decide)
    · exact hx.grown hg h.own (by decide) (by decide)
  · refine ⟨(Below.refl B w).grown hg hBz (fun q hq => (h.own.lt q hq).1), fun s h1 h2 h3 => ⟨hg.block s h1 (fun e => h3 e.symm), ?_⟩⟩
    simp [Value.ownBlock]
    intro e
    rcases hat with hat | hat
    · exact h3 (by rw [hat, e])
    · omega

end Hst
end Go.Proofs.YtecocheolbkneaaDoor
