/- Pplace, Pchoose -/
import Derived.Test.YtecocheolbkneaaDoorW19
namespace Go.Proofs.YtecocheolbkneaaDoor
open Go.RowKit
namespace Hst
set_option maxRecDepth 100000

theorem plg_end (l : List PkX) (g : List AsX) (p : Tx) (e : EntX) (b : PkX) : placeGo l g p e [] b = b := by rw [placeGo_eq]; simp
theorem plg_yes (l : List PkX) (g : List AsX) (p : Tx) (e : EntX) (f : Tx) (b : PkX) (hf : f ≠ []) (h : willDoP l g p ⟨joinR (folderP f) e.name, e⟩ = true) : placeGo l g p e f b = placeGo l g p e (folderP f) ⟨joinR (folderP f) e.name, e⟩ := by
  rw [placeGo_eq, dif_neg hf, if_pos h]
theorem plg_no (l : List PkX) (g : List AsX) (p : Tx) (e : EntX) (f : Tx) (b : PkX) (hf : f ≠ []) (h : willDoP l g p ⟨joinR (folderP f) e.name, e⟩ = false) : placeGo l g p e f b = placeGo l g p e (folderP f) b := by
  rw [placeGo_eq, dif_neg hf, if_neg (by rw [h]; simp)]
theorem joinR_len (f n : Tx) : (joinR f n).length ≤ f.length + 1 + n.length := by
  unfold joinR
  by_cases h : f = []
  · rw [if_pos h]; omega
  · rw [if_neg h]; simp; omega

attribute [local go_sem ↓] Go.wp_at_zero Go.wp_at_succ

set_option maxHeartbeats 4000000 in
theorem place_any (b B : Nat) (st : List EntX) (fav : List PkX) (kk : WorkX) (p : ByteArray) (e : EntX) (w : World) (hw : WorkAt w b B st fav kk) (he : EntIn w e) (hp : p.size ≤ 40000) (htl : kk.tree.length ≤ 1000) (hpo : PathsOk kk.tree) (hgl : kk.gone.length ≤ 100000) (hgp : ∀ a ∈ kk.gone, a.path.length ≤ 50000) :
    Calls Tryd.prog 118 #[.pointer (some ⟨b, 0, none⟩), .string p, entXV e] w fun ee w' => ee = .returned (pkXV (placeP kk.tree kk.gone (tx p) e)) ∧ Below w.heap.size w w' := by
  obtain ⟨ea, ec, hef⟩ := he.form
  generalize e.nd.length = el at hef
  have hen := he.2.2.1
  have HIN := hid' (fun (f : ByteArray) (w : World) (h : f.size ≤ 100000) => in_any f (bs e.name) w h (by rw [bs_size]; omega))
  rw [tx_bs] at HIN
  have HWD := hid' (fun (x : PkX) w hw hx hxp => willDo_any b B st fav kk p x w hw hx (by omega) hxp htl hpo hgl hgp)
  have HE := hid' he
  have HW := hid' hw
  have hlt := hw.lt
  have HP : Hid (placeP kk.tree kk.gone (tx p) e = placeGo kk.tree kk.gone (tx p) e (tx p) ⟨joinR (tx p) e.name, e⟩) := rfl
  have PE := hid' (fun q => plg_end kk.tree kk.gone (tx p) e q)
  have PY := hid' (fun f q => plg_yes kk.tree kk.gone (tx p) e f q)
  have PN := hid' (fun f q => plg_no kk.tree kk.gone (tx p) e f q)
  generalize placeP kk.tree kk.gone (tx p) e = res at *
  generalize hwd : willDoP kk.tree kk.gone (tx p) = wd at *
  generalize hpg : placeGo kk.tree kk.gone (tx p) e = pg at *
  obtain ⟨en, ev, esp, ed⟩ := e
  simp only at hef hen HIN HP PY PN
  subst hef
  have HI1 := hid' (fun w => HIN.out p w (by omega))
  clear hw he hwd hpg
  go_enter Tryd.func118, Tryd.ntmps118
  go_wp2
  have hbw := ((Below.refl w.heap.size w).alloc (Nat.le_refl _) (.cells #[.string (bs en), .int .i64 ev, .slice ea el ec] 128)).alloc (by simp) (.cells #[.string ⟨#[]⟩, .string ⟨#[]⟩, .int .i64 0, .slice none 0 0] 130)
  have b0 : (((w.alloc (.cells #[.string (bs en), .int .i64 ev, .slice ea el ec] 128)).alloc (.cells #[.string ⟨#[]⟩, .string ⟨#[]⟩, .int .i64 0, .slice none 0 0] 130))).cell? ⟨w.heap.size, 0, none⟩ = some (.string (bs en)) := by simp [go_sem]
  have b1 : (((w.alloc (.cells #[.string (bs en), .int .i64 ev, .slice ea el ec] 128)).alloc (.cells #[.string ⟨#[]⟩, .string ⟨#[]⟩, .int .i64 0, .slice none 0 0] 130))).cell? ⟨w.heap.size, 1, none⟩ = some (.int .i64 ev) := by simp [go_sem]
  have b2 : (((w.alloc (.cells #[.string (bs en), .int .i64 ev, .slice ea el ec] 128)).alloc (.cells #[.string ⟨#[]⟩, .string ⟨#[]⟩, .int .i64 0, .slice none 0 0] 130))).cell? ⟨w.heap.size, 2, none⟩ = some (.slice ea el ec) := by simp [go_sem]
  have r0 := fun i => (show (((w.alloc (.cells #[.string (bs en), .int .i64 ev, .slice ea el ec] 128)).alloc (.cells #[.string ⟨#[]⟩, .string ⟨#[]⟩, .int .i64 0, .slice none 0 0] 130))).cell? ⟨w.heap.size + 1, i, none⟩ = #[Value.string ⟨#[]⟩, .string ⟨#[]⟩, .int .i64 0, .slice none 0 0][i]? by simp [go_sem])
  have f0 := fun i => (show (((w.alloc (.cells #[.string (bs en), .int .i64 ev, .slice ea el ec] 128)).alloc (.cells #[.string ⟨#[]⟩, .string ⟨#[]⟩, .int .i64 0, .slice none 0 0] 130))).frozen? ⟨w.heap.size + 1, i, none⟩ = false by simp [go_sem])
  have hsz : (((w.alloc (.cells #[.string (bs en), .int .i64 ev, .slice ea el ec] 128)).alloc (.cells #[.string ⟨#[]⟩, .string ⟨#[]⟩, .int .i64 0, .slice none 0 0] 130))).heap.size = w.heap.size + 2 := by simp
  generalize ((w.alloc (.cells #[.string (bs en), .int .i64 ev, .slice ea el ec] 128)).alloc (.cells #[.string ⟨#[]⟩, .string ⟨#[]⟩, .int .i64 0, .slice none 0 0] 130)) = W at *
  have HBW := hid' hbw
  have HR0 := hid' r0; have HF0 := hid' f0; have HSZ := hid' hsz
  have hwz : w.heap.size < W.heap.size := by omega
  clear hbw r0 f0 hsz
  generalize hjn : bs (joinR (tx p) en) = jn at *
  have HJN := hid' hjn
  clear hjn
  go_cut [8] (fun t wc => t = .pointer (some ⟨W.heap.size, 0, none⟩) ∧ W.heap.size < wc.heap.size ∧ wc.cell? ⟨W.heap.size, 0, none⟩ = some (.string jn) ∧ wc.cell? ⟨W.heap.size, 1, none⟩ = some (.string (bs en)) ∧ wc.cell? ⟨W.heap.size, 2, none⟩ = some (.int .i64 ev) ∧ wc.cell? ⟨W.heap.size, 3, none⟩ = some (.slice ea el ec) ∧ (∀ i, wc.frozen? ⟨W.heap.size, i, none⟩ = false) ∧ Below W.heap.size W wc)
  case first =>
    go_region_held3 (fun w' => w'.cell? ⟨w.heap.size, 0, none⟩ = some (.string (bs en)) ∧ w'.cell? ⟨w.heap.size, 1, none⟩ = some (.int .i64 ev) ∧ w'.cell? ⟨w.heap.size, 2, none⟩ = some (.slice ea el ec)) (go_keep)
      (first | (go_at_call 124; refine (HI1.out _).mono ?_; rintro e w1 ⟨rfl, rfl⟩))
    all_goals
      go_wp2_with fail
      go_meet
      refine ⟨rfl, by simp, by simp [go_sem], by simp [go_sem], by simp [go_sem], by simp [go_sem], fun i => by simp [go_sem], ?_⟩
      repeat (first | refine Below.drew ?_ | refine Below.setCell ?_ (by simp) _ | refine Below.alloc ?_ (by simp) _)
      exact Below.refl _ _
  case rest =>
    obtain ⟨rfl, hw1, q0, q1, q2, q3, hqf, hb1⟩ := hcut
    obtain ⟨wa, rfl⟩ : ∃ wa, wa = wc := ⟨_, rfl⟩
    generalize he0 : (⟨en, ev, .slice ea el ec, ed⟩ : EntX) = e0 at *
    have HE0 := hid' he0
    clear he0
    go_wp2
    have HBC := hid' (HBW.out.trans (hb1.mono (by omega)))
    have hcc := (bcell hb1).1
    have hff := (bcell hb1).2
    have HX0 : Hid (wa.cell? ⟨w.heap.size, 0, none⟩ = some (.string (bs en)) ∧ wa.cell? ⟨w.heap.size, 1, none⟩ = some (.int .i64 ev) ∧ wa.cell? ⟨w.heap.size, 2, none⟩ = some (.slice ea el ec)) := ⟨(hcc _ _ hwz).trans b0, (hcc _ _ hwz).trans b1, (hcc _ _ hwz).trans b2⟩
    have HR1 : Hid (∀ i, wa.cell? ⟨w.heap.size + 1, i, none⟩ = #[Value.string ⟨#[]⟩, .string ⟨#[]⟩, .int .i64 0, .slice none 0 0][i]? ∧ wa.frozen? ⟨w.heap.size + 1, i, none⟩ = false) := fun i => ⟨by rw [hcc _ _ (by have := HSZ.out; omega)]; exact HR0.out i, by rw [hff _ _ (by have := HSZ.out; omega)]; exact HF0.out i⟩
    clear hb1 hcc hff b0 b1 b2 HR0 HF0
    have HQF := hid' hqf
    generalize hC : W.heap.size = C at *
    have HSC := HSZ
    clear hqf
    go_loopw [7] (fun q wr => ∃ (t : ByteArray) (bp : Tx), t.size ≤ p.size ∧ q = .string t ∧ wr.cell? ⟨C, 0, none⟩ = some (.string (bs bp)) ∧ wr.cell? ⟨C, 1, none⟩ = some (.string (bs en)) ∧ wr.cell? ⟨C, 2, none⟩ = some (.int .i64 ev) ∧ wr.cell? ⟨C, 3, none⟩ = some (.slice ea el ec) ∧ (∀ i, wr.frozen? ⟨C, i, none⟩ = false) ∧ But C wa wr ∧ Below w.heap.size w wr ∧ Hid (res = pg (tx t) ⟨bp, e0⟩)) (fun q _ => strSize q)
    case atStart => exact ⟨p, joinR (tx p) en, Nat.le_refl _, rfl, by rw [HJN.out]; exact q0, q1, q2, q3, HQF.out, But.refl _ _, HBC.out, HP⟩
    case round =>
      obtain ⟨t, bp, ht, rfl, z0, z1, z2, z3, hzf, hbut, hbel, hall⟩ := hrel
      have hzr := hbut.size
      have hCr : C < wr.heap.size := by omega
      have hsC : w.heap.size ≠ C := by have := HSC.out; omega
      have hs1C : w.heap.size + 1 ≠ C := by have := HSC.out; omega
      have hsr : w.heap.size < wr.heap.size := by have := HSC.out; omega
      have hs1r : w.heap.size + 1 < wr.heap.size := by have := HSC.out; omega
      have f0 := hzf 0; have f1 := hzf 1; have f2 := hzf 2; have f3 := hzf 3
      by_cases h0 : tx t = []
      · have hb : (t.toList == []) = true := by rw [tx_toList, h0]; rfl
        have HF : Hid (res = ⟨bp, e0⟩) := by unfold Hid; rw [hall.out, h0]; exact PE.out _
        have hwc1 : w.heap.size + 1 < wa.heap.size := by have := HSC.out; omega
        have s0 := (hbut.cell (o := 0) hwc1 hs1C).trans (HR1.out 0).1
        have s1 := (hbut.cell (o := 1) hwc1 hs1C).trans (HR1.out 1).1
        have s2 := (hbut.cell (o := 2) hwc1 hs1C).trans (HR1.out 2).1
        have s3 := (hbut.cell (o := 3) hwc1 hs1C).trans (HR1.out 3).1
        have y0 := (hbut.froz (o := 0) hwc1 hs1C).trans (HR1.out 0).2
        have y1 := (hbut.froz (o := 1) hwc1 hs1C).trans (HR1.out 1).2
        have y2 := (hbut.froz (o := 2) hwc1 hs1C).trans (HR1.out 2).2
        have y3 := (hbut.froz (o := 3) hwc1 hs1C).trans (HR1.out 3).2
        simp at s0 s1 s2 s3
        have HBE := hid' hbel
        clear hall hbut hbel h0 hzf
        go_wp2
        refine bodyPost_ret (v := .agg #[.string (bs bp), .string (bs en), .int .i64 ev, .slice ea el ec]) (by simp [results, Tryd.results118, go_sem, *]) rfl ⟨by rw [HF.out, ← HE0.out], ?_⟩
        exact (((HBE.out.setCell (show w.heap.size ≤ w.heap.size + 1 by omega) _).setCell (show w.heap.size ≤ w.heap.size + 1 by omega) _).setCell (show w.heap.size ≤ w.heap.size + 1 by omega) _).setCell (show w.heap.size ≤ w.heap.size + 1 by omega) _
      · have hb : (t.toList == []) = false := by rw [tx_toList]; exact beq_eq_false_iff_ne.2 h0
        have HFO := hid' (fun w => folder_any t w (by omega))
        have hfl := folderP_lt h0
        have hfs : (bs (folderP (tx t))).size < t.size := by rw [bs_size, ← tx_length t]; exact hfl
        have HI2 := hid' (fun w => HIN.out (bs (folderP (tx t))) w (by omega))
        rw [tx_bs] at HI2
        have hwcs : w.heap.size < wa.heap.size := by have := HSC.out; omega
        have x0 := (hbut.cell (o := 0) hwcs hsC).trans HX0.out.1
        have x1 := (hbut.cell (o := 1) hwcs hsC).trans HX0.out.2.1
        have x2 := (hbut.cell (o := 2) hwcs hsC).trans HX0.out.2.2
        have hlen := joinR_len (folderP (tx t)) en
        have hlp : (joinR (folderP (tx t)) en).length ≤ 50000 := by rw [tx_length] at hfl; omega
        have PY' := hid' (PY.out (tx t) ⟨bp, e0⟩ h0)
        have PN' := hid' (PN.out (tx t) ⟨bp, e0⟩ h0)
        have HTB : Hid (tx (bs (folderP (tx t))) = folderP (tx t)) := tx_bs _
        have HFZ := hid' hzf
        clear h0 hfl hlen hzf
        generalize folderP (tx t) = ft at *
        generalize bs ft = t2 at *
        go_wp2_with fail
        refine (HFO.out _).mono ?_
        rintro e w2 ⟨rfl, rfl⟩
        go_wp2
        generalize hj2 : bs (joinR ft en) = j2 at *
        have HJ2 := hid' hj2
        clear hj2
        go_cut [9] (fun u wd => u = .pointer (some ⟨w2.heap.size, 0, none⟩) ∧ w2.heap.size < wd.heap.size ∧ wd.cell? ⟨w2.heap.size, 0, none⟩ = some (.string j2) ∧ wd.cell? ⟨w2.heap.size, 1, none⟩ = some (.string (bs en)) ∧ wd.cell? ⟨w2.heap.size, 2, none⟩ = some (.int .i64 ev) ∧ wd.cell? ⟨w2.heap.size, 3, none⟩ = some (.slice ea el ec) ∧ Below w2.heap.size w2 wd)
        case first =>
          go_region_held3 (fun w' => w'.cell? ⟨w.heap.size, 0, none⟩ = some (.string (bs en)) ∧ w'.cell? ⟨w.heap.size, 1, none⟩ = some (.int .i64 ev) ∧ w'.cell? ⟨w.heap.size, 2, none⟩ = some (.slice ea el ec)) (go_keep)
            (first | (go_at_call 124; refine (HI2.out _).mono ?_; rintro e w1 ⟨rfl, rfl⟩))
          all_goals
            go_wp2_with fail
            go_meet
            refine ⟨rfl, by simp, by simp [go_sem], by simp [go_sem], by simp [go_sem], by simp [go_sem], ?_⟩
            repeat (first | refine Below.drew ?_ | refine Below.setCell ?_ (by simp) _ | refine Below.alloc ?_ (by simp) _)
            exact Below.refl _ _
        case rest =>
          obtain ⟨rfl, hwd1, d0, d1, d2, d3, hbd⟩ := hcut
          have hzw := hbd.size
          have HBD := hid' (hbel.trans (hbd.mono hbel.size))
          have hcc := (bcell hbd).1
          have hff := (bcell hbd).2
          have z0' := (hcc C 0 hCr).trans z0
          have z1' := (hcc C 1 hCr).trans z1
          have z2' := (hcc C 2 hCr).trans z2
          have z3' := (hcc C 3 hCr).trans z3
          have HFZ2 : Hid (∀ i, wc.frozen? ⟨C, i, none⟩ = false) := fun i => by rw [hff C i hCr]; exact HFZ.out i
          have hwk := HW.out.below HBD.out
          have hei := HE.out.below HBD.out
          have HWD2 := hid' (HWD.out ⟨joinR ft en, e0⟩ wc hwk hei hlp)
          rw [← HE0.out] at HWD2
          simp only [pkXV, HJ2.out] at HWD2
          rw [HE0.out] at HWD2
          have HBU := hid' (hbut.trans (But.of_below hbd))
          clear hcc hff z0 z1 z2 z3 f0 f1 f2 f3 hwk hei hbel hbut hbd x0 x1 x2 HFZ
          go_wp2_with fail
          refine HWD2.out.mono ?_
          rintro e w3 ⟨rfl, hb3⟩
          have hCc : C < wc.heap.size := by omega
          have hcc := (bcell hb3).1
          have hff := (bcell hb3).2
          have d0' := (hcc w2.heap.size 0 hwd1).trans d0
          have d1' := (hcc w2.heap.size 1 hwd1).trans d1
          have d2' := (hcc w2.heap.size 2 hwd1).trans d2
          have d3' := (hcc w2.heap.size 3 hwd1).trans d3
          have z0 := (hcc C 0 hCc).trans z0'
          have z1 := (hcc C 1 hCc).trans z1'
          have z2 := (hcc C 2 hCc).trans z2'
          have z3 := (hcc C 3 hCc).trans z3'
          have HFZ3 : Hid (∀ i, w3.frozen? ⟨C, i, none⟩ = false) := fun i => by rw [hff C i hCc]; exact HFZ2.out i
          have f0 := HFZ3.out 0; have f1 := HFZ3.out 1; have f2 := HFZ3.out 2; have f3 := HFZ3.out 3
          have hz3 := hb3.size
          have hC3 : C < w3.heap.size := by omega
          have h23 : w2.heap.size < w3.heap.size := by omega
          have HB3 := hid' (HBD.out.trans (hb3.mono HBD.out.size))
          have HBU3 := hid' (HBU.out.trans (But.of_below hb3))
          clear hcc hff hb3 z0' z1' z2' z3' d0 d1 d2 d3
          rcases hwv : wd ⟨joinR ft en, e0⟩ with _ | _
          · have HF : Hid (res = pg (tx t2) ⟨bp, e0⟩) := by unfold Hid; rw [hall.out, PN'.out hwv, HTB.out]
            clear hwv hall PY' PN'
            go_wp2
            go_roundw
            case rel => exact ⟨t2, bp, by omega, rfl, z0, z1, z2, z3, HFZ3.out, HBU3.out, HB3.out, HF⟩
            case measure => simp [strSize]; omega
          · have HF : Hid (res = pg (tx t2) ⟨joinR ft en, e0⟩) := by unfold Hid; rw [hall.out, PY'.out hwv, HTB.out]
            have HST := hid' (stored4_of w3 C (.string j2) (.string (bs en)) (.int .i64 ev) (.slice ea el ec) _ _ _ _ z0 z1 z2 z3 HFZ3.out)
            have HBU4 := hid' ((((HBU3.out.trans (But.set w3 C 0 (.string j2))).trans (But.set _ C 1 (.string (bs en)))).trans (But.set _ C 2 (.int .i64 ev))).trans (But.set _ C 3 (.slice ea el ec)))
            have hwC : w.heap.size ≤ C := by have := HSC.out; omega
            have HB4 := hid' ((((HB3.out.setCell (p := ⟨C, 0, none⟩) hwC (.string j2)).setCell (p := ⟨C, 1, none⟩) hwC (.string (bs en))).setCell (p := ⟨C, 2, none⟩) hwC (.int .i64 ev)).setCell (p := ⟨C, 3, none⟩) hwC (.slice ea el ec))
            clear hwv hall PY' PN'
            go_wp2
            go_roundw
            case rel => exact ⟨t2, joinR ft en, by omega, rfl, by rw [HJ2.out]; exact HST.out.1, HST.out.2.1, HST.out.2.2.1, HST.out.2.2.2.1, HST.out.2.2.2.2, HBU4.out, HB4.out, HF⟩
            case measure => simp [strSize]; omega


end Hst
end Go.Proofs.YtecocheolbkneaaDoor
namespace Go.Proofs.YtecocheolbkneaaDoor
open Go.RowKit
namespace Hst
set_option maxRecDepth 100000

/-- Whether an entry is taken over the best so far. -/
def better (fav : List PkX) (best : EntX) (bf found : Bool) (e : EntX) : Bool := !found || (if hasP fav e.name e.ver = bf then decide (best.ver < e.ver) else hasP fav e.name e.ver)
theorem cg_yes (fav : List PkX) (best : EntX) (bf found : Bool) (l : List EntX) (k : Nat) (hk : k < l.length) (h : better fav best bf found l[k] = true) :
    chooseGo fav best bf found (l.drop k) = chooseGo fav l[k] (hasP fav l[k].name l[k].ver) true (l.drop (k + 1)) := by
  rw [List.drop_eq_getElem_cons hk, chooseGo]; unfold better at h; rw [if_pos h]
theorem cg_no (fav : List PkX) (best : EntX) (bf found : Bool) (l : List EntX) (k : Nat) (hk : k < l.length) (h : better fav best bf found l[k] = false) :
    chooseGo fav best bf found (l.drop k) = chooseGo fav best bf true (l.drop (k + 1)) := by
  rw [List.drop_eq_getElem_cons hk, chooseGo]; unfold better at h; rw [if_neg (by rw [h]; simp)]
theorem cg_end (fav : List PkX) (best : EntX) (bf found : Bool) (l : List EntX) (k : Nat) (hk : ¬ k < l.length) : chooseGo fav best bf found (l.drop k) = (best, found) := by
  rw [List.drop_of_length_le (by omega)]; rfl

attribute [local go_sem ↓] Go.wp_at_zero Go.wp_at_succ

set_option maxHeartbeats 4000000 in
theorem choose_any' (b B : Nat) (st : List EntX) (fav : List PkX) (kk : WorkX) (x : NeedX) (w : World) (hw : WorkAt w b B st fav kk) (hx : NeedIn w x) (hst : st.length ≤ 1000) (hfl : fav.length ≤ 1000) :
    Calls Tryd.prog 116 #[.pointer (some ⟨b, 0, none⟩), needXV x] w fun e w' => e = .returned (.tuple #[entXV (chooseP st fav x).1, .bool (chooseP st fav x).2]) ∧ Below w.heap.size w w' ∧ (∃ a n c, (chooseP st fav x).1.needs = .slice a n c) := by
  obtain ⟨xa, xc, hxf⟩ := hx.form
  obtain ⟨sv, hs0, hs1⟩ := hw.stock
  obtain ⟨fv, hf0, hf1⟩ := hw.fav
  obtain ⟨sa, sc, rfl⟩ := hs1.1.form
  obtain ⟨fa, fc, rfl⟩ := hf1.1.form
  have HFT := hid' (fun w h h' => fitting_any' (.slice sa st.length sc) st x w h h' (by omega))
  have HFL := hid' (fitting_len st x)
  have HCP : Hid (chooseP st fav x = chooseGo fav zeroE false false (fittingP st x)) := rfl
  have HX := hid' hx
  have HS1 := hid' hs1
  have HF1 := hid' hf1
  have hlt := hw.lt
  obtain ⟨xn, xsp, xs, xt⟩ := x
  simp only at hxf
  subst hxf
  generalize fittingP st ⟨xn, .slice xa xs.length xc, xs, xt⟩ = fl at *
  generalize chooseP st fav ⟨xn, .slice xa xs.length xc, xs, xt⟩ = res at *
  clear hx hs1 hf1 hw
  go_enter Tryd.func116, Tryd.ntmps116
  go_wp2
  have hbw := (((Below.refl w.heap.size w).alloc (Nat.le_refl _) (.cells #[.string (bs xn), .slice xa xs.length xc, .string (bs xt)] 86)).alloc (by simp) (.cells #[.string ⟨#[]⟩, .int .i64 0, .slice none 0 0] 128)).alloc (by simp; omega) (.cells #[.string ⟨#[]⟩, .int .i64 0, .slice none 0 0] 128)
  have e0 : (((w.alloc (.cells #[.string (bs xn), .slice xa xs.length xc, .string (bs xt)] 86)).alloc (.cells #[.string ⟨#[]⟩, .int .i64 0, .slice none 0 0] 128)).alloc (.cells #[.string ⟨#[]⟩, .int .i64 0, .slice none 0 0] 128)).cell? ⟨w.heap.size, 0, none⟩ = some (.string (bs xn)) := by simp [go_sem]
  have e1 : (((w.alloc (.cells #[.string (bs xn), .slice xa xs.length xc, .string (bs xt)] 86)).alloc (.cells #[.string ⟨#[]⟩, .int .i64 0, .slice none 0 0] 128)).alloc (.cells #[.string ⟨#[]⟩, .int .i64 0, .slice none 0 0] 128)).cell? ⟨w.heap.size, 1, none⟩ = some (.slice xa xs.length xc) := by simp [go_sem]
  have e2 : (((w.alloc (.cells #[.string (bs xn), .slice xa xs.length xc, .string (bs xt)] 86)).alloc (.cells #[.string ⟨#[]⟩, .int .i64 0, .slice none 0 0] 128)).alloc (.cells #[.string ⟨#[]⟩, .int .i64 0, .slice none 0 0] 128)).cell? ⟨w.heap.size, 2, none⟩ = some (.string (bs xt)) := by simp [go_sem]
  have er := fun i => (show (((w.alloc (.cells #[.string (bs xn), .slice xa xs.length xc, .string (bs xt)] 86)).alloc (.cells #[.string ⟨#[]⟩, .int .i64 0, .slice none 0 0] 128)).alloc (.cells #[.string ⟨#[]⟩, .int .i64 0, .slice none 0 0] 128)).cell? ⟨w.heap.size + 1, i, none⟩ = #[Value.string ⟨#[]⟩, .int .i64 0, .slice none 0 0][i]? by simp [go_sem])
  have eb := fun i => (show (((w.alloc (.cells #[.string (bs xn), .slice xa xs.length xc, .string (bs xt)] 86)).alloc (.cells #[.string ⟨#[]⟩, .int .i64 0, .slice none 0 0] 128)).alloc (.cells #[.string ⟨#[]⟩, .int .i64 0, .slice none 0 0] 128)).cell? ⟨w.heap.size + 1 + 1, i, none⟩ = #[Value.string ⟨#[]⟩, .int .i64 0, .slice none 0 0][i]? by simp [go_sem])
  have fr := fun i => (show (((w.alloc (.cells #[.string (bs xn), .slice xa xs.length xc, .string (bs xt)] 86)).alloc (.cells #[.string ⟨#[]⟩, .int .i64 0, .slice none 0 0] 128)).alloc (.cells #[.string ⟨#[]⟩, .int .i64 0, .slice none 0 0] 128)).frozen? ⟨w.heap.size + 1, i, none⟩ = false by simp [go_sem])
  have fb := fun i => (show (((w.alloc (.cells #[.string (bs xn), .slice xa xs.length xc, .string (bs xt)] 86)).alloc (.cells #[.string ⟨#[]⟩, .int .i64 0, .slice none 0 0] 128)).alloc (.cells #[.string ⟨#[]⟩, .int .i64 0, .slice none 0 0] 128)).frozen? ⟨w.heap.size + 1 + 1, i, none⟩ = false by simp [go_sem])
  have ht : tagOf (((w.alloc (.cells #[.string (bs xn), .slice xa xs.length xc, .string (bs xt)] 86)).alloc (.cells #[.string ⟨#[]⟩, .int .i64 0, .slice none 0 0] 128)).alloc (.cells #[.string ⟨#[]⟩, .int .i64 0, .slice none 0 0] 128)) (w.heap.size + 1 + 1) = some 128 := by have := tag_new ((w.alloc (.cells #[.string (bs xn), .slice xa xs.length xc, .string (bs xt)] 86)).alloc (.cells #[.string ⟨#[]⟩, .int .i64 0, .slice none 0 0] 128)) #[.string ⟨#[]⟩, .int .i64 0, .slice none 0 0] 128; simpa using this
  have hsz : (((w.alloc (.cells #[.string (bs xn), .slice xa xs.length xc, .string (bs xt)] 86)).alloc (.cells #[.string ⟨#[]⟩, .int .i64 0, .slice none 0 0] 128)).alloc (.cells #[.string ⟨#[]⟩, .int .i64 0, .slice none 0 0] 128)).heap.size = w.heap.size + 3 := by simp
  have es := ((bcell hbw).1 b 0 hlt).trans hs0
  have ef := ((bcell hbw).1 b 1 hlt).trans hf0
  generalize ((w.alloc (.cells #[.string (bs xn), .slice xa xs.length xc, .string (bs xt)] 86)).alloc (.cells #[.string ⟨#[]⟩, .int .i64 0, .slice none 0 0] 128)).alloc (.cells #[.string ⟨#[]⟩, .int .i64 0, .slice none 0 0] 128) = W at *
  have HW := hid' hbw
  have HS2 := hid' (HS1.out.below hbw)
  have HF2 := hid' (HF1.out.below hbw)
  have HX2 := hid' (HX.out.below hbw)
  have HER := hid' er; have HEB := hid' eb; have HFR := hid' fr; have HFB := hid' fb; have HT := hid' ht; have HSZ := hid' hsz
  have hwz : w.heap.size < W.heap.size := by omega
  have hbz : b < W.heap.size := by omega
  clear hbw er eb fr fb ht hsz HS1 HF1 HX hs0 hf0
  go_region_held3 (fun w' => w'.cell? ⟨b, 0, none⟩ = some (.slice sa st.length sc) ∧ w'.cell? ⟨w.heap.size, 0, none⟩ = some (.string (bs xn)) ∧ w'.cell? ⟨w.heap.size, 1, none⟩ = some (.slice xa xs.length xc) ∧ w'.cell? ⟨w.heap.size, 2, none⟩ = some (.string (bs xt))) (go_keep)
    (first | (go_at_call 122; refine (HFT.out _ (by first | exact HS2.out | exact HS2.out.drew) (by first | exact HX2.out | exact HX2.out.drew)).mono ?_; rintro e w1 ⟨v1, rfl, hown1, hin1, hb1⟩; obtain ⟨fa1, fc1, rfl⟩ := own_slice hown1; have hz1 := (bcell hb1).1; simp at hz1))
  have HB1 := hid' (HW.out.trans ((Below.refl w.heap.size W).drew.trans (hb1.mono (by simp; omega))))
  have hcc := (bcell hb1).1
  have hff := (bcell hb1).2
  simp at hcc hff
  have HW1 : Hid (w.heap.size + 1 + 1 < w1.heap.size ∧ W.heap.size ≤ w1.heap.size) := by have := hb1.size; simp at this; exact ⟨by have := HSZ.out; omega, this⟩
  have HO1 := hid' hown1
  have HI1 := hid' hin1
  have HF3 := hid' ((HF2.out.drew).below hb1)
  have HT1 : Hid (tagOf w1 (w.heap.size + 1 + 1) = some 128) := by
    unfold Hid
    rw [tagOf_below hb1 (by simp; have := HSZ.out; omega)]
    exact HT.out
  have HEF : Hid (w1.cell? ⟨b, 1, none⟩ = some (.slice fa fav.length fc)) := by unfold Hid; rw [hcc b 1 hbz]; exact ef
  have HR1 : Hid (∀ i, w1.cell? ⟨w.heap.size + 1, i, none⟩ = #[Value.string ⟨#[]⟩, .int .i64 0, .slice none 0 0][i]? ∧ w1.frozen? ⟨w.heap.size + 1, i, none⟩ = false) := fun i => ⟨by rw [hcc _ _ (by have := HSZ.out; omega)]; exact HER.out i, by rw [hff _ _ (by have := HSZ.out; omega)]; exact HFR.out i⟩
  have HB0 : Hid (∀ i, w1.cell? ⟨w.heap.size + 1 + 1, i, none⟩ = #[Value.string ⟨#[]⟩, .int .i64 0, .slice none 0 0][i]? ∧ w1.frozen? ⟨w.heap.size + 1 + 1, i, none⟩ = false) := fun i => ⟨by rw [hcc _ _ (by have := HSZ.out; omega)]; exact HEB.out i, by rw [hff _ _ (by have := HSZ.out; omega)]; exact HFB.out i⟩
  have HBASE : Hid (w.heap.size + 1 + 1 < W.drew.heap.size) := by unfold Hid; simp; have := HSZ.out; omega
  have HHP := hid' (fun p n w h => hasP_any (.slice fa fav.length fc) fav p n w h (by omega))
  clear hb1 hcc hff hown1 hin1 hz1 es ef e0 e1 e2 HER HEB HFR HFB HT HS2 HF2 HX2 HFT
  go_wp2
  go_loopw [7, 8, 21] (fun v7 v8 i wr => ∃ (k : Nat) (bf fd : Bool) (bn : Tx) (bv : Int) (ba : Option Addr) (bl bc : Nat) (bd : List NeedX), k ≤ fl.length ∧ v7 = .bool bf ∧ v8 = .bool fd ∧ i = .int .i64 k ∧
      wr.cell? ⟨w.heap.size + 1 + 1, 0, none⟩ = some (.string (bs bn)) ∧ wr.cell? ⟨w.heap.size + 1 + 1, 1, none⟩ = some (.int .i64 bv) ∧ wr.cell? ⟨w.heap.size + 1 + 1, 2, none⟩ = some (.slice ba bl bc) ∧ (∀ i, wr.frozen? ⟨w.heap.size + 1 + 1, i, none⟩ = false) ∧
      But (w.heap.size + 1 + 1) w1 wr ∧ Below w.heap.size w wr ∧ Hid (res = chooseGo fav ⟨bn, bv, .slice ba bl bc, bd⟩ bf fd (fl.drop k))) (fun _ _ i _ => fl.length - (intOf i).toNat)
  case atStart =>
    have h0 := (HB0.out 0).1; have h1 := (HB0.out 1).1; have h2 := (HB0.out 2).1
    simp at h0 h1 h2
    exact ⟨0, false, false, [], 0, none, 0, 0, [], Nat.zero_le _, rfl, rfl, rfl, h0, h1, h2, fun i => (HB0.out i).2, But.refl _ _, HB1.out, HCP⟩
  case round =>
    obtain ⟨k, bf, fd, bn, bv, ba, bl, bc, bd, hk, rfl, rfl, rfl, b0, b1, b2, hfz, hbut, hbel, hall⟩ := hrel
    have hfl2 : fl.length ≤ 1000 := Nat.le_trans HFL.out hst
    have hzr := hbut.size
    have hs2 : w.heap.size + 1 + 1 < wr.heap.size := by have := HW1.out.1; omega
    have z0 := hfz 0; have z1 := hfz 1; have z2 := hfz 2
    have HFZ := hid' hfz
    clear hfz
    by_cases hlt2 : k < fl.length
    · have hown := own_but HO1.out hbut (.inl HBASE.out)
      obtain ⟨g, o, cap', hv, hg, hc⟩ := (RowX.of_own (f := entXC) hown).ents hlt2
      simp at hv
      obtain ⟨rfl, rfl⟩ := hv
      obtain ⟨c0, c1, c2⟩ := hc k hlt2
      obtain ⟨sa', sc', hsp⟩ := (HI1.out fl[k] (List.getElem_mem hlt2)).form
      have HY := hid' (cg_yes fav ⟨bn, bv, .slice ba bl bc, bd⟩ bf fd fl k hlt2)
      have HN := hid' (cg_no fav ⟨bn, bv, .slice ba bl bc, bd⟩ bf fd fl k hlt2)
      have hfav := HF3.out.off hbut HT1.out (by decide) (by decide) (by decide)
      have hbb : b ≠ w.heap.size + 1 + 1 := by omega
      have ef := (hbut.cell (o := 1) (show b < w1.heap.size by have := HW1.out.2; omega) hbb).trans HEF.out
      have hbr : b < wr.heap.size := by omega
      have HFA := hid' hfav
      clear hc hown hfav
      generalize fl[k] = y at *
      obtain ⟨yn, yv, ysp, yd⟩ := y
      simp only at hsp c0 c1 c2
      subst hsp
      have hba := (Below.refl wr.heap.size wr).alloc (Nat.le_refl _) (.cells #[.string (bs yn), .int .i64 yv, .slice sa' yd.length sc'] 128)
      have HFB := hid' (HFA.out.below hba)
      have HH := hid' (fun w h => HHP.out (bs yn) yv w h)
      rw [tx_bs] at HH
      have q0 : (wr.alloc (.cells #[.string (bs yn), .int .i64 yv, .slice sa' yd.length sc'] 128)).cell? ⟨b, 1, none⟩ = some (.slice fa fav.length fc) := by rw [(bcell hba).1 b 1 hbr]; exact ef
      have q1 : (wr.alloc (.cells #[.string (bs yn), .int .i64 yv, .slice sa' yd.length sc'] 128)).cell? ⟨wr.heap.size, 0, none⟩ = some (.string (bs yn)) := by simp
      have q2 : (wr.alloc (.cells #[.string (bs yn), .int .i64 yv, .slice sa' yd.length sc'] 128)).cell? ⟨wr.heap.size, 1, none⟩ = some (.int .i64 yv) := by simp
      have q3 : (wr.alloc (.cells #[.string (bs yn), .int .i64 yv, .slice sa' yd.length sc'] 128)).cell? ⟨wr.heap.size, 2, none⟩ = some (.slice sa' yd.length sc') := by simp
      have p0 := ((bcell hba).1 (w.heap.size + 1 + 1) 0 hs2).trans b0
      have p1 := ((bcell hba).1 (w.heap.size + 1 + 1) 1 hs2).trans b1
      have p2 := ((bcell hba).1 (w.heap.size + 1 + 1) 2 hs2).trans b2
      have HPF : Hid (∀ i, (wr.alloc (.cells #[.string (bs yn), .int .i64 yv, .slice sa' yd.length sc'] 128)).frozen? ⟨w.heap.size + 1 + 1, i, none⟩ = false) := fun i => by rw [(bcell hba).2 (w.heap.size + 1 + 1) i hs2]; exact HFZ.out i
      have hsz2 : (wr.alloc (.cells #[.string (bs yn), .int .i64 yv, .slice sa' yd.length sc'] 128)).heap.size = wr.heap.size + 1 := by simp
      have HBT := hid' (hbut.trans (But.of_below hba))
      have HBL := hid' (hbel.trans (hba.mono hbel.size))
      go_wp2
      generalize (wr.alloc (.cells #[.string (bs yn), .int .i64 yv, .slice sa' yd.length sc'] 128)) = WB at *
      have HSB := hid' hsz2
      have hwb : wr.heap.size < WB.heap.size := by omega
      have hbwb : b < WB.heap.size := by omega
      clear c0 c1 c2 b0 b1 b2 z0 z1 z2 ef hbut hbel hba hsz2 HFA HFZ
      go_region_held3 (fun w' => w'.cell? ⟨b, 1, none⟩ = some (.slice fa fav.length fc) ∧ w'.cell? ⟨wr.heap.size, 0, none⟩ = some (.string (bs yn)) ∧ w'.cell? ⟨wr.heap.size, 1, none⟩ = some (.int .i64 yv)) (go_keep)
        (first | (go_at_call 123; refine (HH.out _ (by first | exact HFB.out | exact HFB.out.drew)).mono ?_; rintro e w2 ⟨rfl, hb2⟩; have hz2 := (bcell hb2).1; simp at hz2))
      have hcc := (bcell hb2).1
      have hff := (bcell hb2).2
      simp at hcc hff
      have hs2b : w.heap.size + 1 + 1 < WB.heap.size := by have := HSB.out; omega
      have r0 := (hcc wr.heap.size 0 hwb).trans q1
      have r1 := (hcc wr.heap.size 1 hwb).trans q2
      have r2 := (hcc wr.heap.size 2 hwb).trans q3
      have t0 := (hcc (w.heap.size + 1 + 1) 0 hs2b).trans p0
      have t1 := (hcc (w.heap.size + 1 + 1) 1 hs2b).trans p1
      have t2 := (hcc (w.heap.size + 1 + 1) 2 hs2b).trans p2
      have HTF : Hid (∀ i, w2.frozen? ⟨w.heap.size + 1 + 1, i, none⟩ = false) := fun i => by rw [hff (w.heap.size + 1 + 1) i hs2b]; exact HPF.out i
      have z0 := HTF.out 0; have z1 := HTF.out 1; have z2 := HTF.out 2
      have hw2 : wr.heap.size < w2.heap.size := by have := hb2.size; simp at this; omega
      have hw3 : w.heap.size + 1 + 1 < w2.heap.size := by omega
      have HBT2 := hid' (HBT.out.trans ((But.of_below (Below.refl WB.heap.size WB).drew).trans (But.of_below hb2)))
      have HBL2 := hid' (HBL.out.trans (((Below.refl w.heap.size WB).drew).trans (hb2.mono (by simp; omega))))
      clear hb2 hcc hff hz2 q0 q1 q2 q3 p0 p1 p2 HBT HBL HPF
      by_cases hbt : better fav ⟨bn, bv, .slice ba bl bc, bd⟩ bf fd ⟨yn, yv, .slice sa' yd.length sc', yd⟩ = true
      · have HF : Hid (res = chooseGo fav ⟨yn, yv, .slice sa' yd.length sc', yd⟩ (hasP fav yn yv) true (fl.drop (k + 1))) := by unfold Hid; rw [hall.out]; exact HY.out hbt
        clear HY HN hall
        unfold better at hbt
        simp only at hbt
        generalize hasP fav yn yv = isf at *
        have HBT3 := hid' (((HBT2.out.trans (But.set w2 (w.heap.size + 1 + 1) 0 (.string (bs yn)))).trans (But.set _ (w.heap.size + 1 + 1) 1 (.int .i64 yv))).trans (But.set _ (w.heap.size + 1 + 1) 2 (.slice sa' yd.length sc')))
        have HBL3 := hid' (((HBL2.out.setCell (p := ⟨w.heap.size + 1 + 1, 0, none⟩) (show w.heap.size ≤ w.heap.size + 1 + 1 by omega) (.string (bs yn))).setCell (p := ⟨w.heap.size + 1 + 1, 1, none⟩) (show w.heap.size ≤ w.heap.size + 1 + 1 by omega) (.int .i64 yv)).setCell (p := ⟨w.heap.size + 1 + 1, 2, none⟩) (show w.heap.size ≤ w.heap.size + 1 + 1 by omega) (.slice sa' yd.length sc'))
        have HST : Hid (stored w2 (w.heap.size + 1 + 1) (.string (bs yn)) (.int .i64 yv) (.slice sa' yd.length sc')) := stored_of w2 (w.heap.size + 1 + 1) _ _ _ _ _ _ t0 t1 t2 HTF.out
        by_cases hv : bv < yv
        all_goals
          cases fd <;> cases isf <;> cases bf
          all_goals first
            | (exfalso; simp [hv] at hbt; done)
            | (clear hbt
               go_wp2
               go_roundw
               case rel => exact ⟨k + 1, _, true, yn, yv, sa', yd.length, sc', yd, by omega, rfl, rfl, by go_num, HST.out.1, HST.out.2.1, HST.out.2.2.1, HST.out.2.2.2, HBT3.out, HBL3.out, HF⟩
               case measure => simp [intOf] <;> omega)
      · have hbt : better fav ⟨bn, bv, .slice ba bl bc, bd⟩ bf fd ⟨yn, yv, .slice sa' yd.length sc', yd⟩ = false := by simpa using hbt
        have HF : Hid (res = chooseGo fav ⟨bn, bv, .slice ba bl bc, bd⟩ bf true (fl.drop (k + 1))) := by unfold Hid; rw [hall.out]; exact HN.out hbt
        clear HY HN hall
        unfold better at hbt
        simp only at hbt
        generalize hasP fav yn yv = isf at *
        by_cases hv : bv < yv
        all_goals
          cases fd <;> cases isf <;> cases bf
          all_goals first
            | (exfalso; simp [hv] at hbt; done)
            | (clear hbt
               go_wp2
               go_roundw
               case rel => exact ⟨k + 1, _, true, bn, bv, ba, bl, bc, bd, by omega, rfl, rfl, by go_num, t0, t1, t2, HTF.out, HBT2.out, HBL2.out, HF⟩
               case measure => simp [intOf] <;> omega)
    · have HF : Hid (res = (⟨bn, bv, .slice ba bl bc, bd⟩, fd)) := by unfold Hid; rw [hall.out, cg_end fav ⟨bn, bv, .slice ba bl bc, bd⟩ bf fd fl k hlt2]
      have hne1 : w.heap.size + 1 ≠ w.heap.size + 1 + 1 := by omega
      have hw11 : w.heap.size + 1 < w1.heap.size := by have := HW1.out.1; omega
      have s0 := (hbut.cell (o := 0) hw11 hne1).trans (HR1.out 0).1
      have s1 := (hbut.cell (o := 1) hw11 hne1).trans (HR1.out 1).1
      have s2 := (hbut.cell (o := 2) hw11 hne1).trans (HR1.out 2).1
      have y0 := (hbut.froz (o := 0) hw11 hne1).trans (HR1.out 0).2
      have y1 := (hbut.froz (o := 1) hw11 hne1).trans (HR1.out 1).2
      have y2 := (hbut.froz (o := 2) hw11 hne1).trans (HR1.out 2).2
      simp at s0 s1 s2
      have hsr : w.heap.size + 1 < wr.heap.size := by omega
      have HBE := hid' hbel
      clear hall hbut hbel
      go_wp2
      refine bodyPost_ret (v := .tuple #[.agg #[.string (bs bn), .int .i64 bv, .slice ba bl bc], .bool fd]) (by simp [results, Tryd.results116, go_sem, *]) rfl ⟨by rw [HF.out], ?_, by rw [HF.out]; exact ⟨_, _, _, rfl⟩⟩
      exact ((HBE.out.setCell (show w.heap.size ≤ w.heap.size + 1 by omega) _).setCell (show w.heap.size ≤ w.heap.size + 1 by omega) _).setCell (show w.heap.size ≤ w.heap.size + 1 by omega) _

end Hst
end Go.Proofs.YtecocheolbkneaaDoor
