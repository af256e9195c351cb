/- Pwill, Pset, Pplace -/
import Derived.Test.YtecocheolbkneaaDoorW15
import Derived.Deep.DeepCutAuto
namespace Go.Proofs.YtecocheolbkneaaDoor
open Go.RowKit
namespace Hst
set_option maxRecDepth 100000

def goneOk (l : List PkX) (gone : List AsX) : Bool := gone.all fun a => meetsP l a.path a.n
theorem wd_at {l : List PkX} {gone : List AsX} {path : Tx} {p : PkX} (h : hasAtP l p.path = true) : willDoP l gone path p = false := by simp [willDoP, h]
theorem wd_none {l : List PkX} {gone : List AsX} {path : Tx} {p : PkX} (h : findP (withP l p) p.e.name path = none) : willDoP l gone path p = false := by simp [willDoP, h]
theorem wd_far {l : List PkX} {gone : List AsX} {path : Tx} {p q : PkX} (h : findP (withP l p) p.e.name path = some q) (h' : ¬ q.path = p.path) : willDoP l gone path p = false := by simp [willDoP, h, h']
theorem wd_go {l : List PkX} {gone : List AsX} {path : Tx} {p q : PkX} (h0 : hasAtP l p.path = false) (h : findP (withP l p) p.e.name path = some q) (h' : q.path = p.path) : willDoP l gone path p = goneOk (withP l p) gone := by simp [willDoP, h, h', h0, goneOk]
theorem go_yes (l : List PkX) (g : List AsX) (k : Nat) (hk : k < g.length) (h : meetsP l g[k].path g[k].n = true) : goneOk l (g.drop k) = goneOk l (g.drop (k + 1)) := by
  rw [List.drop_eq_getElem_cons hk]; unfold goneOk; rw [List.all_cons, h, Bool.true_and]
theorem go_no (l : List PkX) (g : List AsX) (k : Nat) (hk : k < g.length) (h : meetsP l g[k].path g[k].n = false) : goneOk l (g.drop k) = false := by
  rw [List.drop_eq_getElem_cons hk]; unfold goneOk; rw [List.all_cons, h, Bool.false_and]
theorem go_end (l : List PkX) (g : List AsX) (k : Nat) (hk : ¬ k < g.length) : goneOk l (g.drop k) = true := by
  rw [List.drop_of_length_le (by omega)]; rfl
theorem RowX.ass {w : World} {v : Value} {l : List AsX} (h : RowX asXC 4 164 w v l) {k : Nat} (hk : k < l.length) :
    ∃ g o cap, v = .slice (some ⟨g, o, none⟩) l.length cap ∧ g < w.heap.size ∧ ∀ (j : Nat) (hj : j < l.length), w.cell? ⟨g, o + j * 4, none⟩ = some (.string (bs l[j].path)) ∧ w.cell? ⟨g, o + j * 4 + 1, none⟩ = some (.string (bs l[j].n.name)) ∧ w.cell? ⟨g, o + j * 4 + 2, none⟩ = some l[j].n.sp ∧ w.cell? ⟨g, o + j * 4 + 3, none⟩ = some (.string (bs l[j].n.text)) := by
  obtain ⟨g, o, cap, hv, hg, hc⟩ := h.cells asXC_len hk
  exact ⟨g, o, cap, hv, hg, fun j hj => ⟨hc j hj 0 (by omega), hc j hj 1 (by omega), hc j hj 2 (by omega), hc j hj 3 (by omega)⟩⟩
theorem pathsOk_with {l : List PkX} {p : PkX} (h : PathsOk l) (hp : p.path.length ≤ 50000) : PathsOk (withP l p) := by
  intro q hq
  rcases insG_mem _ p l false q hq with rfl | hq
  · exact hp
  · exact h q hq

attribute [local go_sem ↓] Go.wp_at_zero Go.wp_at_succ

set_option maxHeartbeats 4000000 in
theorem willDo_any (b B : Nat) (st : List EntX) (fav : List PkX) (kk : WorkX) (p : ByteArray) (x : PkX) (w : World) (hw : WorkAt w b B st fav kk) (hx : EntIn w x.e) (hp : p.size ≤ 50000) (hxp : x.path.length ≤ 50000) (htl : kk.tree.length ≤ 1000) (hpo : PathsOk kk.tree) (hgl : kk.gone.length ≤ 100000) (hgp : ∀ a ∈ kk.gone, a.path.length ≤ 50000) :
    Calls Tryd.prog 125 #[.pointer (some ⟨b, 0, none⟩), .string p, pkXV x] w fun e w' => e = .returned (.bool (willDoP kk.tree kk.gone (tx p) x)) ∧ Below w.heap.size w w' := by
  obtain ⟨xa, xc, hxf⟩ := hx.form'
  obtain ⟨tv, ht0, ht1⟩ := hw.tree
  obtain ⟨ta, tc, rfl⟩ := ht1.1.form
  obtain ⟨gv, hg0, hg1, hg2⟩ := hw.gone
  obtain ⟨ga, gc, rfl⟩ := own_slice hg1
  have hlt := hw.lt
  have HHA := hid' (fun w h => hasAt_any (.slice ta kk.tree.length tc) kk.tree (bs x.path) w h (by omega))
  rw [tx_bs] at HHA
  have HWP := hid' (fun w h h' => withP_any (.slice ta kk.tree.length tc) kk.tree x w h h' (by omega))
  have HFD := hid' (fun v w h => findP_any v (withP kk.tree x) p (bs x.e.name) w h (by rw [withP_len]; omega) (pathsOk_with hpo hxp) hp)
  rw [tx_bs] at HFD
  have HMT := hid' (fun v f n w h hf hn => meets_any v (withP kk.tree x) f n w h (by rw [withP_len]; omega) (pathsOk_with hpo hxp) hf hn)
  have W1 := hid' (wd_at (l := kk.tree) (gone := kk.gone) (path := tx p) (p := x))
  have W2 := hid' (wd_none (l := kk.tree) (gone := kk.gone) (path := tx p) (p := x))
  have W3 := hid' (fun q => wd_far (l := kk.tree) (gone := kk.gone) (path := tx p) (p := x) (q := q))
  have W4 := hid' (fun q => wd_go (l := kk.tree) (gone := kk.gone) (path := tx p) (p := x) (q := q))
  have HX := hid' hx
  have HT1 := hid' ht1
  have HG1 := hid' hg1
  have HG2 := hid' hg2
  have HGP := hid' hgp
  have HWL := hid' (withP_len kk.tree x)
  generalize willDoP kk.tree kk.gone (tx p) x = res at *
  generalize withP kk.tree x = tr at *
  generalize kk.gone = gn at *
  generalize kk.tree = tt at *
  obtain ⟨xp, xn, xv, xsp, xd⟩ := x
  simp only at hxf HX HHA HFD W1 W2 W3 W4
  subst hxf
  clear hx ht1 hg1 hg2 hw hgp
  go_enter Tryd.func125, Tryd.ntmps125
  go_wp2
  have hbw := (Below.refl w.heap.size w).alloc (Nat.le_refl _) (.cells #[.string (bs xp), .string (bs xn), .int .i64 xv, .slice xa xd.length xc] 130)
  have e0 : (w.alloc (.cells #[.string (bs xp), .string (bs xn), .int .i64 xv, .slice xa xd.length xc] 130)).cell? ⟨w.heap.size, 0, none⟩ = some (.string (bs xp)) := by simp
  have e1 : (w.alloc (.cells #[.string (bs xp), .string (bs xn), .int .i64 xv, .slice xa xd.length xc] 130)).cell? ⟨w.heap.size, 1, none⟩ = some (.string (bs xn)) := by simp
  have e2 : (w.alloc (.cells #[.string (bs xp), .string (bs xn), .int .i64 xv, .slice xa xd.length xc] 130)).cell? ⟨w.heap.size, 2, none⟩ = some (.int .i64 xv) := by simp
  have e3 : (w.alloc (.cells #[.string (bs xp), .string (bs xn), .int .i64 xv, .slice xa xd.length xc] 130)).cell? ⟨w.heap.size, 3, none⟩ = some (.slice xa xd.length xc) := by simp
  have hsz : (w.alloc (.cells #[.string (bs xp), .string (bs xn), .int .i64 xv, .slice xa xd.length xc] 130)).heap.size = w.heap.size + 1 := by simp
  have et := ((bcell hbw).1 b 2 hlt).trans ht0
  have eg := ((bcell hbw).1 b 4 hlt).trans hg0
  generalize w.alloc (.cells #[.string (bs xp), .string (bs xn), .int .i64 xv, .slice xa xd.length xc] 130) = W at *
  have HW := hid' hbw
  have HT2 := hid' (HT1.out.below hbw)
  have HX2 := hid' (HX.out.below hbw)
  have HG3 := hid' (own_below HG1.out hbw)
  have HG4 : Hid (∀ x ∈ gn, NeedIn W x.n) := fun x hx => (HG2.out x hx).below hbw
  have hwz : w.heap.size < W.heap.size := by omega
  have hbz : b < W.heap.size := by omega
  clear hbw hsz HT1 HX HG1 HG2 ht0 hg0
  go_region_held3 (fun w' => w'.cell? ⟨b, 2, none⟩ = some (.slice ta tt.length tc) ∧ w'.cell? ⟨w.heap.size, 0, none⟩ = some (.string (bs xp))) (go_keep)
    (first | (go_at_call 100; refine (HHA.out _ (by first | exact HT2.out | exact HT2.out.drew)).mono ?_; rintro e w1 ⟨rfl, hb1⟩; have hz1 := (bcell hb1).1; simp at hz1))
  have HB1 := hid' (HW.out.trans ((Below.refl w.heap.size W).drew.trans (hb1.mono (by simp; omega))))
  have hcc := (bcell hb1).1
  simp at hcc
  have hw1 : W.heap.size ≤ w1.heap.size := by have := hb1.size; simpa using this
  have HT3 := hid' (HT2.out.drew.below hb1)
  have HX3 := hid' ((HX2.out.below (Below.refl _ _).drew).below hb1)
  have HG5 := hid' (own_below (own_below HG3.out (Below.refl _ _).drew) hb1)
  have HG6 : Hid (∀ x ∈ gn, NeedIn w1 x.n) := fun x hx => ((HG4.out x hx).drew).below hb1
  have e0' := (hcc w.heap.size 0 hwz).trans e0
  have e1' := (hcc w.heap.size 1 hwz).trans e1
  have e2' := (hcc w.heap.size 2 hwz).trans e2
  have e3' := (hcc w.heap.size 3 hwz).trans e3
  have et' := (hcc b 2 hbz).trans et
  have eg' := (hcc b 4 hbz).trans eg
  clear hb1 hcc hz1 HT2 HX2 HG3 HG4 e0 e1 e2 e3 et eg
  have hwz1 : w.heap.size < w1.heap.size := by omega
  have hbz1 : b < w1.heap.size := by omega
  rcases hha : hasAtP tt xp with _ | _
  · have HA := hid' hha
    clear hha
    have hbz2 : b < w1.heap.size + 1 := by omega
    have hwz2 : w.heap.size < w1.heap.size + 1 := by omega
    have n1 : b ≠ w1.heap.size := by omega
    have n2 : w.heap.size ≠ w1.heap.size := by omega
    have n3 : w1.heap.size ≠ b := by omega
    have n4 : w1.heap.size ≠ w.heap.size := by omega
    go_wp2
    go_cut [7] (fun t wc => ∃ (c : Nat) (na : Option Addr) (nc : Nat), t = .pointer (some ⟨c, 0, none⟩) ∧ w1.heap.size ≤ c ∧ c < wc.heap.size ∧ wc.cell? ⟨c, 0, none⟩ = some (.slice na tr.length nc) ∧ Below w1.heap.size w1 wc ∧ Hid (PksIn wc (.slice na tr.length nc) tr))
    case first =>
      go_region_held3 (fun w' => w'.cell? ⟨b, 2, none⟩ = some (.slice ta tt.length tc) ∧ w'.cell? ⟨w.heap.size, 0, none⟩ = some (.string (bs xp)) ∧ w'.cell? ⟨w.heap.size, 1, none⟩ = some (.string (bs xn)) ∧ w'.cell? ⟨w.heap.size, 2, none⟩ = some (.int .i64 xv) ∧ w'.cell? ⟨w.heap.size, 3, none⟩ = some (.slice xa xd.length xc)) (go_keep)
        (first | (go_at_call 104; refine (HWP.out _ (by first | exact HT3.out.drew | exact HT3.out.below ((Below.refl _ _).alloc (Nat.le_refl _) _).drew) (by first | exact HX3.out.below (Below.refl _ _).drew | exact HX3.out.below ((Below.refl _ _).alloc (Nat.le_refl _) _).drew)).mono ?_; rintro e w2 ⟨v2, rfl, hin2, hb2⟩; obtain ⟨na, nc, rfl⟩ := hin2.1.form; have hz2 := (bcell hb2).1; have hz3 := (bcell hb2).2; simp at hz2 hz3))
      · have hb2' := (((Below.refl w1.heap.size w1).drew.trans (hb2.mono (by simp))).alloc (by have := hb2.size; simpa using this) (.cells #[.slice na tr.length nc] 96))
        have hin3 := hin2.below ((Below.refl _ _).alloc (Nat.le_refl _) (.cells #[.slice na tr.length nc] 96))
        have HZ : Hid (w1.heap.size ≤ w2.heap.size) := by unfold Hid; have := hb2.size; simpa using this
        go_wp2_with fail
        go_meet
        exact ⟨w2.heap.size, na, nc, rfl, HZ.out, by simp, by simp, hb2', hin3⟩
      · have hb2' := ((((Below.refl w1.heap.size w1).alloc (Nat.le_refl _) (.cells #[.slice none 0 0] 96)).drew.trans (hb2.mono (by simp))).setCell (p := ⟨w1.heap.size, 0, none⟩) (Nat.le_refl _) (.slice na tr.length nc))
        have htg : tagOf w2 w1.heap.size = some 96 := by
          rw [tagOf_below hb2 (by simp)]
          exact tag_new w1 #[.slice none 0 0] 96
        have hin3 := hin2.off (But.set w2 w1.heap.size 0 (.slice na tr.length nc)) htg (by decide) (by decide) (by decide)
        have HZ : Hid (w1.heap.size < w2.heap.size) := by unfold Hid; have := hb2.size; simp at this; omega
        have hc0 := hz2 w1.heap.size 0 (by omega)
        simp at hc0
        go_wp2_with fail
        go_meet
        exact ⟨w1.heap.size, na, nc, rfl, Nat.le_refl _, by simpa using HZ.out, by simp [go_sem, hc0], hb2', hin3⟩
    case rest =>
      obtain ⟨c, na, nc, rfl, hc1, hc2, hc3, hb2, HIN2⟩ := hcut
      have hcc := (bcell hb2).1
      have e0'' := (hcc w.heap.size 0 hwz1).trans e0'
      have e1'' := (hcc w.heap.size 1 hwz1).trans e1'
      have eg'' := (hcc b 4 hbz1).trans eg'
      have HG7 := hid' (own_below HG5.out hb2)
      have HG8 : Hid (∀ x ∈ gn, NeedIn wc x.n) := fun x hx => (HG6.out x hx).below hb2
      have hw2 := hb2.size
      have HB2 := hid' (HB1.out.trans (hb2.mono (by omega)))
      have hwzc : w.heap.size < wc.heap.size := by omega
      have hbzc : b < wc.heap.size := by omega
      clear hb2 hcc e0' e1' e2' e3' et' eg' HT3 HX3 HG5 HG6 n1 n2 n3 n4
      go_wp2_with fail
      refine (HFD.out _ _ HIN2.out).mono ?_
      rintro e w3 ⟨y, rfl, hb3, ⟨ya, yl, yc, hyf⟩, hy⟩
      obtain ⟨hcc, -⟩ := bcell hb3
      have k0 := (hcc w.heap.size 0 hwzc).trans e0''
      have kg := (hcc b 4 hbzc).trans eg''
      have kc := (hcc c 0 hc2).trans hc3
      have hw3 := hb3.size
      have HG9 := hid' (own_below HG7.out hb3)
      have HG10 : Hid (∀ x ∈ gn, NeedIn w3 x.n) := fun x hx => (HG8.out x hx).below hb3
      have HIN3 := hid' (HIN2.out.below hb3)
      have HB3 := hid' (HB2.out.trans (hb3.mono (by omega)))
      have hwz3 : w.heap.size < w3.heap.size := by omega
      have hbz3 : b < w3.heap.size := by omega
      have hcz3 : c < w3.heap.size := by omega
      clear hb3 hcc e0'' e1'' eg'' hc3 HG7 HG8 HIN2
      rcases hfd : findP tr xn (tx p) with _ | q
      · have HF := hid' (W2.out hfd)
        clear hfd hy
        obtain ⟨yp, yn, yv, ys, yd⟩ := y
        simp only at hyf
        subst hyf
        simp only [Option.isSome]
        go_wp2
        go_ret
        exact ⟨ret_bool (by rw [HF.out]), HB3.out.alloc (by omega) _⟩
      · have hyq := hy q hfd
        subst hyq
        have W3' := hid' (W3.out y hfd)
        have W4' := hid' (W4.out y HA.out hfd)
        clear hfd hy W1 W2 W3 W4
        obtain ⟨yp, yn, yv, ys, yd⟩ := y
        simp only at hyf W3' W4'
        subst hyf
        simp only [Option.isSome]
        by_cases hpe : yp = xp
        · have HF := hid' (W4'.out hpe)
          have hbe : ((bs yp).toList == (bs xp).toList) = true := by rw [hpe]; simp
          have hbn : ((bs yp).toList != (bs xp).toList) = false := by simp [bne, hbe]
          have hba := (Below.refl w3.heap.size w3).alloc (Nat.le_refl _) (.cells #[.string (bs yp), .string (bs yn), .int .i64 yv, .slice ya yl yc] 130)
          have kc2 := ((bcell hba).1 c 0 hcz3).trans kc
          have HG11 := hid' (own_below HG9.out hba)
          have HG12 : Hid (∀ x ∈ gn, NeedIn (w3.alloc (.cells #[.string (bs yp), .string (bs yn), .int .i64 yv, .slice ya yl yc] 130)) x.n) := fun x hx => (HG10.out x hx).below hba
          have HIN4 := hid' (HIN3.out.below hba)
          have HB4 := hid' (HB3.out.trans (hba.mono (by omega)))
          have hsz : (w3.alloc (.cells #[.string (bs yp), .string (bs yn), .int .i64 yv, .slice ya yl yc] 130)).heap.size = w3.heap.size + 1 := by simp
          clear hpe W3' W4' hba
          go_wp2
          generalize w3.alloc (.cells #[.string (bs yp), .string (bs yn), .int .i64 yv, .slice ya yl yc] 130) = V at *
          have hcV : c < V.heap.size := by omega
          have hwV : w.heap.size ≤ V.heap.size := by omega
          clear hsz kc k0 kg
          go_loopw [48] (fun i wr => ∃ k : Nat, k ≤ gn.length ∧ i = .int .i64 k ∧ Below V.heap.size V wr ∧ Hid (res = goneOk tr (gn.drop k))) (fun i _ => gn.length - (intOf i).toNat)
          case atStart => exact ⟨0, Nat.zero_le _, rfl, Below.refl _ _, HF⟩
          case round =>
            obtain ⟨k, hk, rfl, hbel, hall⟩ := hrel
            have hz := hbel.size
            by_cases hlt2 : k < gn.length
            · have hown := own_below HG11.out hbel
              obtain ⟨g, o, cap', hv, hg, hc⟩ := (RowX.of_own (f := asXC) hown).ass hlt2
              simp at hv
              obtain ⟨rfl, rfl⟩ := hv
              obtain ⟨c0, c1, c2, c3⟩ := hc k hlt2
              have hni := (HG12.out gn[k] (List.getElem_mem hlt2)).below hbel
              obtain ⟨za, zc, hzf⟩ := hni.form
              have kc3 := ((bcell hbel).1 c 0 hcV).trans kc2
              have hcr : c < wr.heap.size := by omega
              have hba := (Below.refl wr.heap.size wr).alloc (Nat.le_refl _) (.cells #[.string (bs gn[k].path), .string (bs gn[k].n.name), gn[k].n.sp, .string (bs gn[k].n.text)] 164)
              have HMM := hid' (HMT.out (.slice na tr.length nc) (bs gn[k].path) gn[k].n _ ((HIN4.out.below hbel).below hba) (by rw [bs_size]; exact HGP.out gn[k] (List.getElem_mem hlt2)) (hni.below hba))
              rw [tx_bs] at HMM
              have HBA := hid' (hbel.trans (hba.mono hz))
              have GY := hid' (go_yes tr gn k hlt2)
              have GN := hid' (go_no tr gn k hlt2)
              clear hc hown hni hba
              rcases hmt : meetsP tr gn[k].path gn[k].n with _ | _
              · have HF2 : Hid (res = false) := by unfold Hid; rw [hall.out]; exact GN.out hmt
                rw [hmt] at HMM
                clear hmt hall GY GN
                generalize gn[k] = z at *
                obtain ⟨zp, zn, zsp, zs, zt⟩ := z
                simp only at hzf c0 c1 c2 c3 HMM HBA
                subst hzf
                go_wp2_with fail
                refine HMM.out.mono ?_
                rintro e w5 ⟨rfl, hb5⟩
                have HB5 := hid' (HB4.out.trans ((HBA.out.trans (hb5.mono (by simp; omega))).mono hwV))
                clear hb5
                go_wp2
                go_ret
                exact ⟨ret_bool (by rw [HF2.out]), HB5.out⟩
              · have HF2 : Hid (res = goneOk tr (gn.drop (k + 1))) := by unfold Hid; rw [hall.out]; exact GY.out hmt
                rw [hmt] at HMM
                clear hmt hall GY GN
                generalize gn[k] = z at *
                obtain ⟨zp, zn, zsp, zs, zt⟩ := z
                simp only at hzf c0 c1 c2 c3 HMM HBA
                subst hzf
                go_wp2_with fail
                refine HMM.out.mono ?_
                rintro e w5 ⟨rfl, hb5⟩
                have HB5 := hid' (HBA.out.trans (hb5.mono (by simp; omega)))
                clear hb5
                go_wp2
                go_roundw
                case rel => exact ⟨k + 1, by omega, by go_num, HB5.out, HF2⟩
                case measure => simp [intOf] <;> omega
            · have HF2 : Hid (res = true) := by unfold Hid; rw [hall.out, go_end tr gn k hlt2]
              have HB5 := hid' (HB4.out.trans (hbel.mono hwV))
              clear hall
              go_wp2
              go_ret
              exact ⟨ret_bool (by rw [HF2.out]), HB5.out⟩
        · have HF := hid' (W3'.out hpe)
          have hbe : ((bs yp).toList == (bs xp).toList) = false := by rw [tx_toList, tx_toList, tx_bs, tx_bs]; simp [hpe]
          have hbn : ((bs yp).toList != (bs xp).toList) = true := by simp [bne, hbe]
          clear hpe W3' W4'
          go_wp2
          go_ret
          exact ⟨ret_bool (by rw [HF.out]), HB3.out.alloc (by omega) _⟩
  · have HF := hid' (W1.out hha)
    clear hha
    go_wp2
    go_ret
    exact ⟨ret_bool (by rw [HF.out]), HB1.out⟩

end Hst
end Go.Proofs.YtecocheolbkneaaDoor
namespace Go.Proofs.YtecocheolbkneaaDoor
open Go.RowKit
namespace Hst
/-- What stands in a block of three cells that were set. -/
def stored (w : World) (b : Nat) (x y z : Value) : Prop :=
  (((w.setCell ⟨b, 0, none⟩ x).setCell ⟨b, 1, none⟩ y).setCell ⟨b, 2, none⟩ z).cell? ⟨b, 0, none⟩ = some x ∧
  (((w.setCell ⟨b, 0, none⟩ x).setCell ⟨b, 1, none⟩ y).setCell ⟨b, 2, none⟩ z).cell? ⟨b, 1, none⟩ = some y ∧
  (((w.setCell ⟨b, 0, none⟩ x).setCell ⟨b, 1, none⟩ y).setCell ⟨b, 2, none⟩ z).cell? ⟨b, 2, none⟩ = some z ∧
  ∀ i, (((w.setCell ⟨b, 0, none⟩ x).setCell ⟨b, 1, none⟩ y).setCell ⟨b, 2, none⟩ z).frozen? ⟨b, i, none⟩ = false
theorem stored_of (w : World) (b : Nat) (x y z x' y' z' : Value) (h0 : w.cell? ⟨b, 0, none⟩ = some x') (h1 : w.cell? ⟨b, 1, none⟩ = some y') (h2 : w.cell? ⟨b, 2, none⟩ = some z') (hf : ∀ i, w.frozen? ⟨b, i, none⟩ = false) : stored w b x y z := by
  refine ⟨?_, ?_, ?_, fun i => ?_⟩
  · simp [go_sem, *]
  · simp [go_sem, *]
  · simp [go_sem, *]
  · simp [go_sem, *]
/-- What stands in a block of four cells that were set. -/
def stored4 (w : World) (b : Nat) (x y z u : Value) : Prop :=
  ((((w.setCell ⟨b, 0, none⟩ x).setCell ⟨b, 1, none⟩ y).setCell ⟨b, 2, none⟩ z).setCell ⟨b, 3, none⟩ u).cell? ⟨b, 0, none⟩ = some x ∧
  ((((w.setCell ⟨b, 0, none⟩ x).setCell ⟨b, 1, none⟩ y).setCell ⟨b, 2, none⟩ z).setCell ⟨b, 3, none⟩ u).cell? ⟨b, 1, none⟩ = some y ∧
  ((((w.setCell ⟨b, 0, none⟩ x).setCell ⟨b, 1, none⟩ y).setCell ⟨b, 2, none⟩ z).setCell ⟨b, 3, none⟩ u).cell? ⟨b, 2, none⟩ = some z ∧
  ((((w.setCell ⟨b, 0, none⟩ x).setCell ⟨b, 1, none⟩ y).setCell ⟨b, 2, none⟩ z).setCell ⟨b, 3, none⟩ u).cell? ⟨b, 3, none⟩ = some u ∧
  ∀ i, ((((w.setCell ⟨b, 0, none⟩ x).setCell ⟨b, 1, none⟩ y).setCell ⟨b, 2, none⟩ z).setCell ⟨b, 3, none⟩ u).frozen? ⟨b, i, none⟩ = false
theorem stored4_of (w : World) (b : Nat) (x y z u x' y' z' u' : Value) (h0 : w.cell? ⟨b, 0, none⟩ = some x') (h1 : w.cell? ⟨b, 1, none⟩ = some y') (h2 : w.cell? ⟨b, 2, none⟩ = some z') (h3 : w.cell? ⟨b, 3, none⟩ = some u') (hf : ∀ i, w.frozen? ⟨b, i, none⟩ = false) : stored4 w b x y z u := by
  refine ⟨?_, ?_, ?_, ?_, fun i => ?_⟩
  · simp [go_sem, *]
  · simp [go_sem, *]
  · simp [go_sem, *]
  · simp [go_sem, *]
  · simp [go_sem, *]
end Hst
end Go.Proofs.YtecocheolbkneaaDoor
namespace Go.Proofs.YtecocheolbkneaaDoor
open Go.RowKit
namespace Hst
set_option maxRecDepth 100000

theorem plg_end (l : List PkX) (g : List AsX) (p : Tx) (e : EntX) (b : PkX) : placeGo l g p e [] b = b := by rw [placeGo_eq]; simp
theorem plg_yes (l : List PkX) (g : List AsX) (p : Tx) (e : EntX) (f : Tx) (b : PkX) (hf : f ≠ []) (h : willDoP l g p ⟨joinR (folderP f) e.name, e⟩ = true) : placeGo l g p e f b = placeGo l g p e (folderP f) ⟨joinR (folderP f) e.name, e⟩ := by
  rw [placeGo_eq, dif_neg hf, if_pos h]
theorem plg_no (l : List PkX) (g : List AsX) (p : Tx) (e : EntX) (f : Tx) (b : PkX) (hf : f ≠ []) (h : willDoP l g p ⟨joinR (folderP f) e.name, e⟩ = false) : placeGo l g p e f b = placeGo l g p e (folderP f) b := by
  rw [placeGo_eq, dif_neg hf, if_neg (by rw [h]; simp)]
theorem joinR_len (f n : Tx) : (joinR f n).length ≤ f.length + 1 + n.length := by
  unfold joinR
  by_cases h : f = []
  · rw [if_pos h]; omega
  · rw [if_neg h]; simp; omega

attribute [local go_sem ↓] Go.wp_at_zero Go.wp_at_succ

set_option maxHeartbeats 4000000 in
theorem place_any (b B : Nat) (st : List EntX) (fav : List PkX) (kk : WorkX) (p : ByteArray) (e : EntX) (w : World) (hw : WorkAt w b B st fav kk) (he : EntIn w e) (hp : p.size ≤ 40000) (htl : kk.tree.length ≤ 1000) (hpo : PathsOk kk.tree) (hgl : kk.gone.length ≤ 100000) (hgp : ∀ a ∈ kk.gone, a.path.length ≤ 50000) :
    Calls Tryd.prog 118 #[.pointer (some ⟨b, 0, none⟩), .string p, entXV e] w fun ee w' => ee = .returned (pkXV (placeP kk.tree kk.gone (tx p) e)) ∧ Below w.heap.size w w' := by
  obtain ⟨ea, ec, hef⟩ := he.form
  generalize e.nd.length = el at hef
  have hen := he.2.2.1
  have HIN := hid' (fun (f : ByteArray) (w : World) (h : f.size ≤ 100000) => in_any f (bs e.name) w h (by rw [bs_size]; omega))
  rw [tx_bs] at HIN
  have HWD := hid' (fun (x : PkX) w hw hx hxp => willDo_any b B st fav kk p x w hw hx (by omega) hxp htl hpo hgl hgp)
  have HE := hid' he
  have HW := hid' hw
  have hlt := hw.lt
  have HP : Hid (placeP kk.tree kk.gone (tx p) e = placeGo kk.tree kk.gone (tx p) e (tx p) ⟨joinR (tx p) e.name, e⟩) := rfl
  have PE := hid' (fun q => plg_end kk.tree kk.gone (tx p) e q)
  have PY := hid' (fun f q => plg_yes kk.tree kk.gone (tx p) e f q)
  have PN := hid' (fun f q => plg_no kk.tree kk.gone (tx p) e f q)
  generalize placeP kk.tree kk.gone (tx p) e = res at *
  generalize hwd : willDoP kk.tree kk.gone (tx p) = wd at *
  generalize hpg : placeGo kk.tree kk.gone (tx p) e = pg at *
  obtain ⟨en, ev, esp, ed⟩ := e
  simp only at hef hen HIN HP PY PN
  subst hef
  have HI1 := hid' (fun w => HIN.out p w (by omega))
  clear hw he hwd hpg
  go_enter Tryd.func118, Tryd.ntmps118
  go_wp2
  have hbw := ((Below.refl w.heap.size w).alloc (Nat.le_refl _) (.cells #[.string (bs en), .int .i64 ev, .slice ea el ec] 128)).alloc (by simp) (.cells #[.string ⟨#[]⟩, .string ⟨#[]⟩, .int .i64 0, .slice none 0 0] 130)
  have b0 : (((w.alloc (.cells #[.string (bs en), .int .i64 ev, .slice ea el ec] 128)).alloc (.cells #[.string ⟨#[]⟩, .string ⟨#[]⟩, .int .i64 0, .slice none 0 0] 130))).cell? ⟨w.heap.size, 0, none⟩ = some (.string (bs en)) := by simp [go_sem]
  have b1 : (((w.alloc (.cells #[.string (bs en), .int .i64 ev, .slice ea el ec] 128)).alloc (.cells #[.string ⟨#[]⟩, .string ⟨#[]⟩, .int .i64 0, .slice none 0 0] 130))).cell? ⟨w.heap.size, 1, none⟩ = some (.int .i64 ev) := by simp [go_sem]
  have b2 : (((w.alloc (.cells #[.string (bs en), .int .i64 ev, .slice ea el ec] 128)).alloc (.cells #[.string ⟨#[]⟩, .string ⟨#[]⟩, .int .i64 0, .slice none 0 0] 130))).cell? ⟨w.heap.size, 2, none⟩ = some (.slice ea el ec) := by simp [go_sem]
  have r0 := fun i => (show (((w.alloc (.cells #[.string (bs en), .int .i64 ev, .slice ea el ec] 128)).alloc (.cells #[.string ⟨#[]⟩, .string ⟨#[]⟩, .int .i64 0, .slice none 0 0] 130))).cell? ⟨w.heap.size + 1, i, none⟩ = #[Value.string ⟨#[]⟩, .string ⟨#[]⟩, .int .i64 0, .slice none 0 0][i]? by simp [go_sem])
  have f0 := fun i => (show (((w.alloc (.cells #[.string (bs en), .int .i64 ev, .slice ea el ec] 128)).alloc (.cells #[.string ⟨#[]⟩, .string ⟨#[]⟩, .int .i64 0, .slice none 0 0] 130))).frozen? ⟨w.heap.size + 1, i, none⟩ = false by simp [go_sem])
  have hsz : (((w.alloc (.cells #[.string (bs en), .int .i64 ev, .slice ea el ec] 128)).alloc (.cells #[.string ⟨#[]⟩, .string ⟨#[]⟩, .int .i64 0, .slice none 0 0] 130))).heap.size = w.heap.size + 2 := by simp
  generalize ((w.alloc (.cells #[.string (bs en), .int .i64 ev, .slice ea el ec] 128)).alloc (.cells #[.string ⟨#[]⟩, .string ⟨#[]⟩, .int .i64 0, .slice none 0 0] 130)) = W at *
  have HBW := hid' hbw
  have HR0 := hid' r0; have HF0 := hid' f0; have HSZ := hid' hsz
  have hwz : w.heap.size < W.heap.size := by omega
  clear hbw r0 f0 hsz
  generalize hjn : bs (joinR (tx p) en) = jn at *
  have HJN := hid' hjn
  clear hjn
  go_cut [8] (fun t wc => t = .pointer (some ⟨W.heap.size, 0, none⟩) ∧ W.heap.size < wc.heap.size ∧ wc.cell? ⟨W.heap.size, 0, none⟩ = some (.string jn) ∧ wc.cell? ⟨W.heap.size, 1, none⟩ = some (.string (bs en)) ∧ wc.cell? ⟨W.heap.size, 2, none⟩ = some (.int .i64 ev) ∧ wc.cell? ⟨W.heap.size, 3, none⟩ = some (.slice ea el ec) ∧ (∀ i, wc.frozen? ⟨W.heap.size, i, none⟩ = false) ∧ Below W.heap.size W wc)
  case first =>
    go_region_held3 (fun w' => w'.cell? ⟨w.heap.size, 0, none⟩ = some (.string (bs en)) ∧ w'.cell? ⟨w.heap.size, 1, none⟩ = some (.int .i64 ev) ∧ w'.cell? ⟨w.heap.size, 2, none⟩ = some (.slice ea el ec)) (go_keep)
      (first | (go_at_call 124; refine (HI1.out _).mono ?_; rintro e w1 ⟨rfl, rfl⟩))
    all_goals
      go_wp2_with fail
      go_meet
      refine ⟨rfl, by simp, by simp [go_sem], by simp [go_sem], by simp [go_sem], by simp [go_sem], fun i => by simp [go_sem], ?_⟩
      repeat (first | refine Below.drew ?_ | refine Below.setCell ?_ (by simp) _ | refine Below.alloc ?_ (by simp) _)
      exact Below.refl _ _
  case rest =>
    obtain ⟨rfl, hw1, q0, q1, q2, q3, hqf, hb1⟩ := hcut
    obtain ⟨wa, rfl⟩ : ∃ wa, wa = wc := ⟨_, rfl⟩
    generalize he0 : (⟨en, ev, .slice ea el ec, ed⟩ : EntX) = e0 at *
    have HE0 := hid' he0
    clear he0
    go_wp2
    have HBC := hid' (HBW.out.trans (hb1.mono (by omega)))
    have hcc := (bcell hb1).1
    have hff := (bcell hb1).2
    have HX0 : Hid (wa.cell? ⟨w.heap.size, 0, none⟩ = some (.string (bs en)) ∧ wa.cell? ⟨w.heap.size, 1, none⟩ = some (.int .i64 ev) ∧ wa.cell? ⟨w.heap.size, 2, none⟩ = some (.slice ea el ec)) := ⟨(hcc _ _ hwz).trans b0, (hcc _ _ hwz).trans b1, (hcc _ _ hwz).trans b2⟩
    have HR1 : Hid (∀ i, wa.cell? ⟨w.heap.size + 1, i, none⟩ = #[Value.string ⟨#[]⟩, .string ⟨#[]⟩, .int .i64 0, .slice none 0 0][i]? ∧ wa.frozen? ⟨w.heap.size + 1, i, none⟩ = false) := fun i => ⟨by rw [hcc _ _ (by have := HSZ.out; omega)]; exact HR0.out i, by rw [hff _ _ (by have := HSZ.out; omega)]; exact HF0.out i⟩
    clear hb1 hcc hff b0 b1 b2 HR0 HF0
    have HQF := hid' hqf
    generalize hC : W.heap.size = C at *
    have HSC := HSZ
    clear hqf
    go_loopw [7] (fun q wr => ∃ (t : ByteArray) (bp : Tx), t.size ≤ p.size ∧ q = .string t ∧ wr.cell? ⟨C, 0, none⟩ = some (.string (bs bp)) ∧ wr.cell? ⟨C, 1, none⟩ = some (.string (bs en)) ∧ wr.cell? ⟨C, 2, none⟩ = some (.int .i64 ev) ∧ wr.cell? ⟨C, 3, none⟩ = some (.slice ea el ec) ∧ (∀ i, wr.frozen? ⟨C, i, none⟩ = false) ∧ But C wa wr ∧ Below w.heap.size w wr ∧ Hid (res = pg (tx t) ⟨bp, e0⟩)) (fun q _ => strSize q)
    case atStart => exact ⟨p, joinR (tx p) en, Nat.le_refl _, rfl, by rw [HJN.out]; exact q0, q1, q2, q3, HQF.out, But.refl _ _, HBC.out, HP⟩
    case round =>
      obtain ⟨t, bp, ht, rfl, z0, z1, z2, z3, hzf, hbut, hbel, hall⟩ := hrel
      have hzr := hbut.size
      have hCr : C < wr.heap.size := by omega
      have hsC : w.heap.size ≠ C := by have := HSC.out; omega
      have hs1C : w.heap.size + 1 ≠ C := by have := HSC.out; omega
      have hsr : w.heap.size < wr.heap.size := by have := HSC.out; omega
      have hs1r : w.heap.size + 1 < wr.heap.size := by have := HSC.out; omega
      have f0 := hzf 0; have f1 := hzf 1; have f2 := hzf 2; have f3 := hzf 3
      by_cases h0 : tx t = []
      · have hb : (t.toList == []) = true := by rw [tx_toList, h0]; rfl
        have HF : Hid (res = ⟨bp, e0⟩) := by unfold Hid; rw [hall.out, h0]; exact PE.out _
        have hwc1 : w.heap.size + 1 < wa.heap.size := by have := HSC.out; omega
        have s0 := (hbut.cell (o := 0) hwc1 hs1C).trans (HR1.out 0).1
        have s1 := (hbut.cell (o := 1) hwc1 hs1C).trans (HR1.out 1).1
        have s2 := (hbut.cell (o := 2) hwc1 hs1C).trans (HR1.out 2).1
        have s3 := (hbut.cell (o := 3) hwc1 hs1C).trans (HR1.out 3).1
        have y0 := (hbut.froz (o := 0) hwc1 hs1C).trans (HR1.out 0).2
        have y1 := (hbut.froz (o := 1) hwc1 hs1C).trans (HR1.out 1).2
        have y2 := (hbut.froz (o := 2) hwc1 hs1C).trans (HR1.out 2).2
        have y3 := (hbut.froz (o := 3) hwc1 hs1C).trans (HR1.out 3).2
        simp at s0 s1 s2 s3
        have HBE := hid' hbel
        clear hall hbut hbel h0 hzf
        go_wp2
        refine bodyPost_ret (v := .agg #[.string (bs bp), .string (bs en), .int .i64 ev, .slice ea el ec]) (by simp [results, Tryd.results118, go_sem, *]) rfl ⟨by rw [HF.out, ← HE0.out], ?_⟩
        exact (((HBE.out.setCell (show w.heap.size ≤ w.heap.size + 1 by omega) _).setCell (show w.heap.size ≤ w.heap.size + 1 by omega) _).setCell (show w.heap.size ≤ w.heap.size + 1 by omega) _).setCell (show w.heap.size ≤ w.heap.size + 1 by omega) _
      · have hb : (t.toList == []) = false := by rw [tx_toList]; exact beq_eq_false_iff_ne.2 h0
        have HFO := hid' (fun w => folder_any t w (by omega))
        have hfl := folderP_lt h0
        have hfs : (bs (folderP (tx t))).size < t.size := by rw [bs_size, ← tx_length t]; exact hfl
        have HI2 := hid' (fun w => HIN.out (bs (folderP (tx t))) w (by omega))
        rw [tx_bs] at HI2
        have hwcs : w.heap.size < wa.heap.size := by have := HSC.out; omega
        have x0 := (hbut.cell (o := 0) hwcs hsC).trans HX0.out.1
        have x1 := (hbut.cell (o := 1) hwcs hsC).trans HX0.out.2.1
        have x2 := (hbut.cell (o := 2) hwcs hsC).trans HX0.out.2.2
        have hlen := joinR_len (folderP (tx t)) en
        have hlp : (joinR (folderP (tx t)) en).length ≤ 50000 := by rw [tx_length] at hfl; omega
        have PY' := hid' (PY.out (tx t) ⟨bp, e0⟩ h0)
        have PN' := hid' (PN.out (tx t) ⟨bp, e0⟩ h0)
        have HTB : Hid (tx (bs (folderP (tx t))) = folderP (tx t)) := tx_bs _
        have HFZ := hid' hzf
        clear h0 hfl hlen hzf
        generalize folderP (tx t) = ft at *
        generalize bs ft = t2 at *
        go_wp2_with fail
        refine (HFO.out _).mono ?_
        rintro e w2 ⟨rfl, rfl⟩
        go_wp2
        generalize hj2 : bs (joinR ft en) = j2 at *
        have HJ2 := hid' hj2
        clear hj2
        go_cut [9] (fun u wd => u = .pointer (some ⟨w2.heap.size, 0, none⟩) ∧ w2.heap.size < wd.heap.size ∧ wd.cell? ⟨w2.heap.size, 0, none⟩ = some (.string j2) ∧ wd.cell? ⟨w2.heap.size, 1, none⟩ = some (.string (bs en)) ∧ wd.cell? ⟨w2.heap.size, 2, none⟩ = some (.int .i64 ev) ∧ wd.cell? ⟨w2.heap.size, 3, none⟩ = some (.slice ea el ec) ∧ Below w2.heap.size w2 wd)
        case first =>
          go_region_held3 (fun w' => w'.cell? ⟨w.heap.size, 0, none⟩ = some (.string (bs en)) ∧ w'.cell? ⟨w.heap.size, 1, none⟩ = some (.int .i64 ev) ∧ w'.cell? ⟨w.heap.size, 2, none⟩ = some (.slice ea el ec)) (go_keep)
            (first | (go_at_call 124; refine (HI2.out _).mono ?_; rintro e w1 ⟨rfl, rfl⟩))
          all_goals
            go_wp2_with fail
            go_meet
            refine ⟨rfl, by simp, by simp [go_sem], by simp [go_sem], by simp [go_sem], by simp [go_sem], ?_⟩
            repeat (first | refine Below.drew ?_ | refine Below.setCell ?_ (by simp) _ | refine Below.alloc ?_ (by simp) _)
            exact Below.refl _ _
        case rest =>
          obtain ⟨rfl, hwd1, d0, d1, d2, d3, hbd⟩ := hcut
          have hzw := hbd.size
          have HBD := hid' (hbel.trans (hbd.mono hbel.size))
          have hcc := (bcell hbd).1
          have hff := (bcell hbd).2
          have z0' := (hcc C 0 hCr).trans z0
          have z1' := (hcc C 1 hCr).trans z1
          have z2' := (hcc C 2 hCr).trans z2
          have z3' := (hcc C 3 hCr).trans z3
          have HFZ2 : Hid (∀ i, wc.frozen? ⟨C, i, none⟩ = false) := fun i => by rw [hff C i hCr]; exact HFZ.out i
          have hwk := HW.out.below HBD.out
          have hei := HE.out.below HBD.out
          have HWD2 := hid' (HWD.out ⟨joinR ft en, e0⟩ wc hwk hei hlp)
          rw [← HE0.out] at HWD2
          simp only [pkXV, HJ2.out] at HWD2
          rw [HE0.out] at HWD2
          have HBU := hid' (hbut.trans (But.of_below hbd))
          clear hcc hff z0 z1 z2 z3 f0 f1 f2 f3 hwk hei hbel hbut hbd x0 x1 x2 HFZ
          go_wp2_with fail
          refine HWD2.out.mono ?_
          rintro e w3 ⟨rfl, hb3⟩
          have hCc : C < wc.heap.size := by omega
          have hcc := (bcell hb3).1
          have hff := (bcell hb3).2
          have d0' := (hcc w2.heap.size 0 hwd1).trans d0
          have d1' := (hcc w2.heap.size 1 hwd1).trans d1
          have d2' := (hcc w2.heap.size 2 hwd1).trans d2
          have d3' := (hcc w2.heap.size 3 hwd1).trans d3
          have z0 := (hcc C 0 hCc).trans z0'
          have z1 := (hcc C 1 hCc).trans z1'
          have z2 := (hcc C 2 hCc).trans z2'
          have z3 := (hcc C 3 hCc).trans z3'
          have HFZ3 : Hid (∀ i, w3.frozen? ⟨C, i, none⟩ = false) := fun i => by rw [hff C i hCc]; exact HFZ2.out i
          have f0 := HFZ3.out 0; have f1 := HFZ3.out 1; have f2 := HFZ3.out 2; have f3 := HFZ3.out 3
          have hz3 := hb3.size
          have hC3 : C < w3.heap.size := by omega
          have h23 : w2.heap.size < w3.heap.size := by omega
          have HB3 := hid' (HBD.out.trans (hb3.mono HBD.out.size))
          have HBU3 := hid' (HBU.out.trans (But.of_below hb3))
          clear hcc hff hb3 z0' z1' z2' z3' d0 d1 d2 d3
          rcases hwv : wd ⟨joinR ft en, e0⟩ with _ | _
          · have HF : Hid (res = pg (tx t2) ⟨bp, e0⟩) := by unfold Hid; rw [hall.out, PN'.out hwv, HTB.out]
            clear hwv hall PY' PN'
            go_wp2
            go_roundw
            case rel => exact ⟨t2, bp, by omega, rfl, z0, z1, z2, z3, HFZ3.out, HBU3.out, HB3.out, HF⟩
            case measure => simp [strSize]; omega
          · have HF : Hid (res = pg (tx t2) ⟨joinR ft en, e0⟩) := by unfold Hid; rw [hall.out, PY'.out hwv, HTB.out]
            have HST := hid' (stored4_of w3 C (.string j2) (.string (bs en)) (.int .i64 ev) (.slice ea el ec) _ _ _ _ z0 z1 z2 z3 HFZ3.out)
            have HBU4 := hid' ((((HBU3.out.trans (But.set w3 C 0 (.string j2))).trans (But.set _ C 1 (.string (bs en)))).trans (But.set _ C 2 (.int .i64 ev))).trans (But.set _ C 3 (.slice ea el ec)))
            have hwC : w.heap.size ≤ C := by have := HSC.out; omega
            have HB4 := hid' ((((HB3.out.setCell (p := ⟨C, 0, none⟩) hwC (.string j2)).setCell (p := ⟨C, 1, none⟩) hwC (.string (bs en))).setCell (p := ⟨C, 2, none⟩) hwC (.int .i64 ev)).setCell (p := ⟨C, 3, none⟩) hwC (.slice ea el ec))
            clear hwv hall PY' PN'
            go_wp2
            go_roundw
            case rel => exact ⟨t2, joinR ft en, by omega, rfl, by rw [HJ2.out]; exact HST.out.1, HST.out.2.1, HST.out.2.2.1, HST.out.2.2.2.1, HST.out.2.2.2.2, HBU4.out, HB4.out, HF⟩
            case measure => simp [strSize]; omega


end Hst
end Go.Proofs.YtecocheolbkneaaDoor
