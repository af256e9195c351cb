/- Pchoose, Pmoves -/
import Derived.Test.YtecocheolbkneaaDoorW16
namespace Go.Proofs.YtecocheolbkneaaDoor
open Go.RowKit
namespace Hst
set_option maxRecDepth 100000

/-- Whether an entry is taken over the best so far. -/
def better (fav : List PkX) (best : EntX) (bf found : Bool) (e : EntX) : Bool := !found || (if hasP fav e.name e.ver = bf then decide (best.ver < e.ver) else hasP fav e.name e.ver)
theorem cg_yes (fav : List PkX) (best : EntX) (bf found : Bool) (l : List EntX) (k : Nat) (hk : k < l.length) (h : better fav best bf found l[k] = true) :
    chooseGo fav best bf found (l.drop k) = chooseGo fav l[k] (hasP fav l[k].name l[k].ver) true (l.drop (k + 1)) := by
  rw [List.drop_eq_getElem_cons hk, chooseGo]; unfold better at h; rw [if_pos h]
theorem cg_no (fav : List PkX) (best : EntX) (bf found : Bool) (l : List EntX) (k : Nat) (hk : k < l.length) (h : better fav best bf found l[k] = false) :
    chooseGo fav best bf found (l.drop k) = chooseGo fav best bf true (l.drop (k + 1)) := by
  rw [List.drop_eq_getElem_cons hk, chooseGo]; unfold better at h; rw [if_neg (by rw [h]; simp)]
theorem cg_end (fav : List PkX) (best : EntX) (bf found : Bool) (l : List EntX) (k : Nat) (hk : ¬ k < l.length) : chooseGo fav best bf found (l.drop k) = (best, found) := by
  rw [List.drop_of_length_le (by omega)]; rfl

attribute [local go_sem ↓] Go.wp_at_zero Go.wp_at_succ

set_option maxHeartbeats 4000000 in
theorem choose_any' (b B : Nat) (st : List EntX) (fav : List PkX) (kk : WorkX) (x : NeedX) (w : World) (hw : WorkAt w b B st fav kk) (hx : NeedIn w x) (hst : st.length ≤ 1000) (hfl : fav.length ≤ 1000) :
    Calls Tryd.prog 116 #[.pointer (some ⟨b, 0, none⟩), needXV x] w fun e w' => e = .returned (.tuple #[entXV (chooseP st fav x).1, .bool (chooseP st fav x).2]) ∧ Below w.heap.size w w' ∧ (∃ a n c, (chooseP st fav x).1.needs = .slice a n c) := by
  obtain ⟨xa, xc, hxf⟩ := hx.form
  obtain ⟨sv, hs0, hs1⟩ := hw.stock
  obtain ⟨fv, hf0, hf1⟩ := hw.fav
  obtain ⟨sa, sc, rfl⟩ := hs1.1.form
  obtain ⟨fa, fc, rfl⟩ := hf1.1.form
  have HFT := hid' (fun w h h' => fitting_any' (.slice sa st.length sc) st x w h h' (by omega))
  have HFL := hid' (fitting_len st x)
  have HCP : Hid (chooseP st fav x = chooseGo fav zeroE false false (fittingP st x)) := rfl
  have HX := hid' hx
  have HS1 := hid' hs1
  have HF1 := hid' hf1
  have hlt := hw.lt
  obtain ⟨xn, xsp, xs, xt⟩ := x
  simp only at hxf
  subst hxf
  generalize fittingP st ⟨xn, .slice xa xs.length xc, xs, xt⟩ = fl at *
  generalize chooseP st fav ⟨xn, .slice xa xs.length xc, xs, xt⟩ = res at *
  clear hx hs1 hf1 hw
  go_enter Tryd.func116, Tryd.ntmps116
  go_wp2
  have hbw := (((Below.refl w.heap.size w).alloc (Nat.le_refl _) (.cells #[.string (bs xn), .slice xa xs.length xc, .string (bs xt)] 86)).alloc (by simp) (.cells #[.string ⟨#[]⟩, .int .i64 0, .slice none 0 0] 128)).alloc (by simp; omega) (.cells #[.string ⟨#[]⟩, .int .i64 0, .slice none 0 0] 128)
  have e0 : (((w.alloc (.cells #[.string (bs xn), .slice xa xs.length xc, .string (bs xt)] 86)).alloc (.cells #[.string ⟨#[]⟩, .int .i64 0, .slice none 0 0] 128)).alloc (.cells #[.string ⟨#[]⟩, .int .i64 0, .slice none 0 0] 128)).cell? ⟨w.heap.size, 0, none⟩ = some (.string (bs xn)) := by simp [go_sem]
  have e1 : (((w.alloc (.cells #[.string (bs xn), .slice xa xs.length xc, .string (bs xt)] 86)).alloc (.cells #[.string ⟨#[]⟩, .int .i64 0, .slice none 0 0] 128)).alloc (.cells #[.string ⟨#[]⟩, .int .i64 0, .slice none 0 0] 128)).cell? ⟨w.heap.size, 1, none⟩ = some (.slice xa xs.length xc) := by simp [go_sem]
  have e2 : (((w.alloc (.cells #[.string (bs xn), .slice xa xs.length xc, .string (bs xt)] 86)).alloc (.cells #[.string ⟨#[]⟩, .int .i64 0, .slice none 0 0] 128)).alloc (.cells #[.string ⟨#[]⟩, .int .i64 0, .slice none 0 0] 128)).cell? ⟨w.heap.size, 2, none⟩ = some (.string (bs xt)) := by simp [go_sem]
  have er := fun i => (show (((w.alloc (.cells #[.string (bs xn), .slice xa xs.length xc, .string (bs xt)] 86)).alloc (.cells #[.string ⟨#[]⟩, .int .i64 0, .slice none 0 0] 128)).alloc (.cells #[.string ⟨#[]⟩, .int .i64 0, .slice none 0 0] 128)).cell? ⟨w.heap.size + 1, i, none⟩ = #[Value.string ⟨#[]⟩, .int .i64 0, .slice none 0 0][i]? by simp [go_sem])
  have eb := fun i => (show (((w.alloc (.cells #[.string (bs xn), .slice xa xs.length xc, .string (bs xt)] 86)).alloc (.cells #[.string ⟨#[]⟩, .int .i64 0, .slice none 0 0] 128)).alloc (.cells #[.string ⟨#[]⟩, .int .i64 0, .slice none 0 0] 128)).cell? ⟨w.heap.size + 1 + 1, i, none⟩ = #[Value.string ⟨#[]⟩, .int .i64 0, .slice none 0 0][i]? by simp [go_sem])
  have fr := fun i => (show (((w.alloc (.cells #[.string (bs xn), .slice xa xs.length xc, .string (bs xt)] 86)).alloc (.cells #[.string ⟨#[]⟩, .int .i64 0, .slice none 0 0] 128)).alloc (.cells #[.string ⟨#[]⟩, .int .i64 0, .slice none 0 0] 128)).frozen? ⟨w.heap.size + 1, i, none⟩ = false by simp [go_sem])
  have fb := fun i => (show (((w.alloc (.cells #[.string (bs xn), .slice xa xs.length xc, .string (bs xt)] 86)).alloc (.cells #[.string ⟨#[]⟩, .int .i64 0, .slice none 0 0] 128)).alloc (.cells #[.string ⟨#[]⟩, .int .i64 0, .slice none 0 0] 128)).frozen? ⟨w.heap.size + 1 + 1, i, none⟩ = false by simp [go_sem])
  have ht : tagOf (((w.alloc (.cells #[.string (bs xn), .slice xa xs.length xc, .string (bs xt)] 86)).alloc (.cells #[.string ⟨#[]⟩, .int .i64 0, .slice none 0 0] 128)).alloc (.cells #[.string ⟨#[]⟩, .int .i64 0, .slice none 0 0] 128)) (w.heap.size + 1 + 1) = some 128 := by have := tag_new ((w.alloc (.cells #[.string (bs xn), .slice xa xs.length xc, .string (bs xt)] 86)).alloc (.cells #[.string ⟨#[]⟩, .int .i64 0, .slice none 0 0] 128)) #[.string ⟨#[]⟩, .int .i64 0, .slice none 0 0] 128; simpa using this
  have hsz : (((w.alloc (.cells #[.string (bs xn), .slice xa xs.length xc, .string (bs xt)] 86)).alloc (.cells #[.string ⟨#[]⟩, .int .i64 0, .slice none 0 0] 128)).alloc (.cells #[.string ⟨#[]⟩, .int .i64 0, .slice none 0 0] 128)).heap.size = w.heap.size + 3 := by simp
  have es := ((bcell hbw).1 b 0 hlt).trans hs0
  have ef := ((bcell hbw).1 b 1 hlt).trans hf0
  generalize ((w.alloc (.cells #[.string (bs xn), .slice xa xs.length xc, .string (bs xt)] 86)).alloc (.cells #[.string ⟨#[]⟩, .int .i64 0, .slice none 0 0] 128)).alloc (.cells #[.string ⟨#[]⟩, .int .i64 0, .slice none 0 0] 128) = W at *
  have HW := hid' hbw
  have HS2 := hid' (HS1.out.below hbw)
  have HF2 := hid' (HF1.out.below hbw)
  have HX2 := hid' (HX.out.below hbw)
  have HER := hid' er; have HEB := hid' eb; have HFR := hid' fr; have HFB := hid' fb; have HT := hid' ht; have HSZ := hid' hsz
  have hwz : w.heap.size < W.heap.size := by omega
  have hbz : b < W.heap.size := by omega
  clear hbw er eb fr fb ht hsz HS1 HF1 HX hs0 hf0
  go_region_held3 (fun w' => w'.cell? ⟨b, 0, none⟩ = some (.slice sa st.length sc) ∧ w'.cell? ⟨w.heap.size, 0, none⟩ = some (.string (bs xn)) ∧ w'.cell? ⟨w.heap.size, 1, none⟩ = some (.slice xa xs.length xc) ∧ w'.cell? ⟨w.heap.size, 2, none⟩ = some (.string (bs xt))) (go_keep)
    (first | (go_at_call 122; refine (HFT.out _ (by first | exact HS2.out | exact HS2.out.drew) (by first | exact HX2.out | exact HX2.out.drew)).mono ?_; rintro e w1 ⟨v1, rfl, hown1, hin1, hb1⟩; obtain ⟨fa1, fc1, rfl⟩ := own_slice hown1; have hz1 := (bcell hb1).1; simp at hz1))
  have HB1 := hid' (HW.out.trans ((Below.refl w.heap.size W).drew.trans (hb1.mono (by simp; omega))))
  have hcc := (bcell hb1).1
  have hff := (bcell hb1).2
  simp at hcc hff
  have HW1 : Hid (w.heap.size + 1 + 1 < w1.heap.size ∧ W.heap.size ≤ w1.heap.size) := by have := hb1.size; simp at this; exact ⟨by have := HSZ.out; omega, this⟩
  have HO1 := hid' hown1
  have HI1 := hid' hin1
  have HF3 := hid' ((HF2.out.drew).below hb1)
  have HT1 : Hid (tagOf w1 (w.heap.size + 1 + 1) = some 128) := by
    unfold Hid
    rw [tagOf_below hb1 (by simp; have := HSZ.out; omega)]
    exact HT.out
  have HEF : Hid (w1.cell? ⟨b, 1, none⟩ = some (.slice fa fav.length fc)) := by unfold Hid; rw [hcc b 1 hbz]; exact ef
  have HR1 : Hid (∀ i, w1.cell? ⟨w.heap.size + 1, i, none⟩ = #[Value.string ⟨#[]⟩, .int .i64 0, .slice none 0 0][i]? ∧ w1.frozen? ⟨w.heap.size + 1, i, none⟩ = false) := fun i => ⟨by rw [hcc _ _ (by have := HSZ.out; omega)]; exact HER.out i, by rw [hff _ _ (by have := HSZ.out; omega)]; exact HFR.out i⟩
  have HB0 : Hid (∀ i, w1.cell? ⟨w.heap.size + 1 + 1, i, none⟩ = #[Value.string ⟨#[]⟩, .int .i64 0, .slice none 0 0][i]? ∧ w1.frozen? ⟨w.heap.size + 1 + 1, i, none⟩ = false) := fun i => ⟨by rw [hcc _ _ (by have := HSZ.out; omega)]; exact HEB.out i, by rw [hff _ _ (by have := HSZ.out; omega)]; exact HFB.out i⟩
  have HBASE : Hid (w.heap.size + 1 + 1 < W.drew.heap.size) := by unfold Hid; simp; have := HSZ.out; omega
  have HHP := hid' (fun p n w h => hasP_any (.slice fa fav.length fc) fav p n w h (by omega))
  clear hb1 hcc hff hown1 hin1 hz1 es ef e0 e1 e2 HER HEB HFR HFB HT HS2 HF2 HX2 HFT
  go_wp2
  go_loopw [7, 8, 21] (fun v7 v8 i wr => ∃ (k : Nat) (bf fd : Bool) (bn : Tx) (bv : Int) (ba : Option Addr) (bl bc : Nat) (bd : List NeedX), k ≤ fl.length ∧ v7 = .bool bf ∧ v8 = .bool fd ∧ i = .int .i64 k ∧
      wr.cell? ⟨w.heap.size + 1 + 1, 0, none⟩ = some (.string (bs bn)) ∧ wr.cell? ⟨w.heap.size + 1 + 1, 1, none⟩ = some (.int .i64 bv) ∧ wr.cell? ⟨w.heap.size + 1 + 1, 2, none⟩ = some (.slice ba bl bc) ∧ (∀ i, wr.frozen? ⟨w.heap.size + 1 + 1, i, none⟩ = false) ∧
      But (w.heap.size + 1 + 1) w1 wr ∧ Below w.heap.size w wr ∧ Hid (res = chooseGo fav ⟨bn, bv, .slice ba bl bc, bd⟩ bf fd (fl.drop k))) (fun _ _ i _ => fl.length - (intOf i).toNat)
  case atStart =>
    have h0 := (HB0.out 0).1; have h1 := (HB0.out 1).1; have h2 := (HB0.out 2).1
    simp at h0 h1 h2
    exact ⟨0, false, false, [], 0, none, 0, 0, [], Nat.zero_le _, rfl, rfl, rfl, h0, h1, h2, fun i => (HB0.out i).2, But.refl _ _, HB1.out, HCP⟩
  case round =>
    obtain ⟨k, bf, fd, bn, bv, ba, bl, bc, bd, hk, rfl, rfl, rfl, b0, b1, b2, hfz, hbut, hbel, hall⟩ := hrel
    have hfl2 : fl.length ≤ 1000 := Nat.le_trans HFL.out hst
    have hzr := hbut.size
    have hs2 : w.heap.size + 1 + 1 < wr.heap.size := by have := HW1.out.1; omega
    have z0 := hfz 0; have z1 := hfz 1; have z2 := hfz 2
    have HFZ := hid' hfz
    clear hfz
    by_cases hlt2 : k < fl.length
    · have hown := own_but HO1.out hbut (.inl HBASE.out)
      obtain ⟨g, o, cap', hv, hg, hc⟩ := (RowX.of_own (f := entXC) hown).ents hlt2
      simp at hv
      obtain ⟨rfl, rfl⟩ := hv
      obtain ⟨c0, c1, c2⟩ := hc k hlt2
      obtain ⟨sa', sc', hsp⟩ := (HI1.out fl[k] (List.getElem_mem hlt2)).form
      have HY := hid' (cg_yes fav ⟨bn, bv, .slice ba bl bc, bd⟩ bf fd fl k hlt2)
      have HN := hid' (cg_no fav ⟨bn, bv, .slice ba bl bc, bd⟩ bf fd fl k hlt2)
      have hfav := HF3.out.off hbut HT1.out (by decide) (by decide) (by decide)
      have hbb : b ≠ w.heap.size + 1 + 1 := by omega
      have ef := (hbut.cell (o := 1) (show b < w1.heap.size by have := HW1.out.2; omega) hbb).trans HEF.out
      have hbr : b < wr.heap.size := by omega
      have HFA := hid' hfav
      clear hc hown hfav
      generalize fl[k] = y at *
      obtain ⟨yn, yv, ysp, yd⟩ := y
      simp only at hsp c0 c1 c2
      subst hsp
      have hba := (Below.refl wr.heap.size wr).alloc (Nat.le_refl _) (.cells #[.string (bs yn), .int .i64 yv, .slice sa' yd.length sc'] 128)
      have HFB := hid' (HFA.out.below hba)
      have HH := hid' (fun w h => HHP.out (bs yn) yv w h)
      rw [tx_bs] at HH
      have q0 : (wr.alloc (.cells #[.string (bs yn), .int .i64 yv, .slice sa' yd.length sc'] 128)).cell? ⟨b, 1, none⟩ = some (.slice fa fav.length fc) := by rw [(bcell hba).1 b 1 hbr]; exact ef
      have q1 : (wr.alloc (.cells #[.string (bs yn), .int .i64 yv, .slice sa' yd.length sc'] 128)).cell? ⟨wr.heap.size, 0, none⟩ = some (.string (bs yn)) := by simp
      have q2 : (wr.alloc (.cells #[.string (bs yn), .int .i64 yv, .slice sa' yd.length sc'] 128)).cell? ⟨wr.heap.size, 1, none⟩ = some (.int .i64 yv) := by simp
      have q3 : (wr.alloc (.cells #[.string (bs yn), .int .i64 yv, .slice sa' yd.length sc'] 128)).cell? ⟨wr.heap.size, 2, none⟩ = some (.slice sa' yd.length sc') := by simp
      have p0 := ((bcell hba).1 (w.heap.size + 1 + 1) 0 hs2).trans b0
      have p1 := ((bcell hba).1 (w.heap.size + 1 + 1) 1 hs2).trans b1
      have p2 := ((bcell hba).1 (w.heap.size + 1 + 1) 2 hs2).trans b2
      have HPF : Hid (∀ i, (wr.alloc (.cells #[.string (bs yn), .int .i64 yv, .slice sa' yd.length sc'] 128)).frozen? ⟨w.heap.size + 1 + 1, i, none⟩ = false) := fun i => by rw [(bcell hba).2 (w.heap.size + 1 + 1) i hs2]; exact HFZ.out i
      have hsz2 : (wr.alloc (.cells #[.string (bs yn), .int .i64 yv, .slice sa' yd.length sc'] 128)).heap.size = wr.heap.size + 1 := by simp
      have HBT := hid' (hbut.trans (But.of_below hba))
      have HBL := hid' (hbel.trans (hba.mono hbel.size))
      go_wp2
      generalize (wr.alloc (.cells #[.string (bs yn), .int .i64 yv, .slice sa' yd.length sc'] 128)) = WB at *
      have HSB := hid' hsz2
      have hwb : wr.heap.size < WB.heap.size := by omega
      have hbwb : b < WB.heap.size := by omega
      clear c0 c1 c2 b0 b1 b2 z0 z1 z2 ef hbut hbel hba hsz2 HFA HFZ
      go_region_held3 (fun w' => w'.cell? ⟨b, 1, none⟩ = some (.slice fa fav.length fc) ∧ w'.cell? ⟨wr.heap.size, 0, none⟩ = some (.string (bs yn)) ∧ w'.cell? ⟨wr.heap.size, 1, none⟩ = some (.int .i64 yv)) (go_keep)
        (first | (go_at_call 123; refine (HH.out _ (by first | exact HFB.out | exact HFB.out.drew)).mono ?_; rintro e w2 ⟨rfl, hb2⟩; have hz2 := (bcell hb2).1; simp at hz2))
      have hcc := (bcell hb2).1
      have hff := (bcell hb2).2
      simp at hcc hff
      have hs2b : w.heap.size + 1 + 1 < WB.heap.size := by have := HSB.out; omega
      have r0 := (hcc wr.heap.size 0 hwb).trans q1
      have r1 := (hcc wr.heap.size 1 hwb).trans q2
      have r2 := (hcc wr.heap.size 2 hwb).trans q3
      have t0 := (hcc (w.heap.size + 1 + 1) 0 hs2b).trans p0
      have t1 := (hcc (w.heap.size + 1 + 1) 1 hs2b).trans p1
      have t2 := (hcc (w.heap.size + 1 + 1) 2 hs2b).trans p2
      have HTF : Hid (∀ i, w2.frozen? ⟨w.heap.size + 1 + 1, i, none⟩ = false) := fun i => by rw [hff (w.heap.size + 1 + 1) i hs2b]; exact HPF.out i
      have z0 := HTF.out 0; have z1 := HTF.out 1; have z2 := HTF.out 2
      have hw2 : wr.heap.size < w2.heap.size := by have := hb2.size; simp at this; omega
      have hw3 : w.heap.size + 1 + 1 < w2.heap.size := by omega
      have HBT2 := hid' (HBT.out.trans ((But.of_below (Below.refl WB.heap.size WB).drew).trans (But.of_below hb2)))
      have HBL2 := hid' (HBL.out.trans (((Below.refl w.heap.size WB).drew).trans (hb2.mono (by simp; omega))))
      clear hb2 hcc hff hz2 q0 q1 q2 q3 p0 p1 p2 HBT HBL HPF
      by_cases hbt : better fav ⟨bn, bv, .slice ba bl bc, bd⟩ bf fd ⟨yn, yv, .slice sa' yd.length sc', yd⟩ = true
      · have HF : Hid (res = chooseGo fav ⟨yn, yv, .slice sa' yd.length sc', yd⟩ (hasP fav yn yv) true (fl.drop (k + 1))) := by unfold Hid; rw [hall.out]; exact HY.out hbt
        clear HY HN hall
        unfold better at hbt
        simp only at hbt
        generalize hasP fav yn yv = isf at *
        have HBT3 := hid' (((HBT2.out.trans (But.set w2 (w.heap.size + 1 + 1) 0 (.string (bs yn)))).trans (But.set _ (w.heap.size + 1 + 1) 1 (.int .i64 yv))).trans (But.set _ (w.heap.size + 1 + 1) 2 (.slice sa' yd.length sc')))
        have HBL3 := hid' (((HBL2.out.setCell (p := ⟨w.heap.size + 1 + 1, 0, none⟩) (show w.heap.size ≤ w.heap.size + 1 + 1 by omega) (.string (bs yn))).setCell (p := ⟨w.heap.size + 1 + 1, 1, none⟩) (show w.heap.size ≤ w.heap.size + 1 + 1 by omega) (.int .i64 yv)).setCell (p := ⟨w.heap.size + 1 + 1, 2, none⟩) (show w.heap.size ≤ w.heap.size + 1 + 1 by omega) (.slice sa' yd.length sc'))
        have HST : Hid (stored w2 (w.heap.size + 1 + 1) (.string (bs yn)) (.int .i64 yv) (.slice sa' yd.length sc')) := stored_of w2 (w.heap.size + 1 + 1) _ _ _ _ _ _ t0 t1 t2 HTF.out
        by_cases hv : bv < yv
        all_goals
          cases fd <;> cases isf <;> cases bf
          all_goals first
            | (exfalso; simp [hv] at hbt; done)
            | (clear hbt
               go_wp2
               go_roundw
               case rel => exact ⟨k + 1, _, true, yn, yv, sa', yd.length, sc', yd, by omega, rfl, rfl, by go_num, HST.out.1, HST.out.2.1, HST.out.2.2.1, HST.out.2.2.2, HBT3.out, HBL3.out, HF⟩
               case measure => simp [intOf] <;> omega)
      · have hbt : better fav ⟨bn, bv, .slice ba bl bc, bd⟩ bf fd ⟨yn, yv, .slice sa' yd.length sc', yd⟩ = false := by simpa using hbt
        have HF : Hid (res = chooseGo fav ⟨bn, bv, .slice ba bl bc, bd⟩ bf true (fl.drop (k + 1))) := by unfold Hid; rw [hall.out]; exact HN.out hbt
        clear HY HN hall
        unfold better at hbt
        simp only at hbt
        generalize hasP fav yn yv = isf at *
        by_cases hv : bv < yv
        all_goals
          cases fd <;> cases isf <;> cases bf
          all_goals first
            | (exfalso; simp [hv] at hbt; done)
            | (clear hbt
               go_wp2
               go_roundw
               case rel => exact ⟨k + 1, _, true, bn, bv, ba, bl, bc, bd, by omega, rfl, rfl, by go_num, t0, t1, t2, HTF.out, HBT2.out, HBL2.out, HF⟩
               case measure => simp [intOf] <;> omega)
    · have HF : Hid (res = (⟨bn, bv, .slice ba bl bc, bd⟩, fd)) := by unfold Hid; rw [hall.out, cg_end fav ⟨bn, bv, .slice ba bl bc, bd⟩ bf fd fl k hlt2]
      have hne1 : w.heap.size + 1 ≠ w.heap.size + 1 + 1 := by omega
      have hw11 : w.heap.size + 1 < w1.heap.size := by have := HW1.out.1; omega
      have s0 := (hbut.cell (o := 0) hw11 hne1).trans (HR1.out 0).1
      have s1 := (hbut.cell (o := 1) hw11 hne1).trans (HR1.out 1).1
      have s2 := (hbut.cell (o := 2) hw11 hne1).trans (HR1.out 2).1
      have y0 := (hbut.froz (o := 0) hw11 hne1).trans (HR1.out 0).2
      have y1 := (hbut.froz (o := 1) hw11 hne1).trans (HR1.out 1).2
      have y2 := (hbut.froz (o := 2) hw11 hne1).trans (HR1.out 2).2
      simp at s0 s1 s2
      have hsr : w.heap.size + 1 < wr.heap.size := by omega
      have HBE := hid' hbel
      clear hall hbut hbel
      go_wp2
      refine bodyPost_ret (v := .tuple #[.agg #[.string (bs bn), .int .i64 bv, .slice ba bl bc], .bool fd]) (by simp [results, Tryd.results116, go_sem, *]) rfl ⟨by rw [HF.out], ?_, by rw [HF.out]; exact ⟨_, _, _, rfl⟩⟩
      exact ((HBE.out.setCell (show w.heap.size ≤ w.heap.size + 1 by omega) _).setCell (show w.heap.size ≤ w.heap.size + 1 by omega) _).setCell (show w.heap.size ≤ w.heap.size + 1 by omega) _

end Hst
end Go.Proofs.YtecocheolbkneaaDoor
namespace Go.Proofs.YtecocheolbkneaaDoor
open Go.RowKit
namespace Hst

/-- A block that a work at b does not write. -/
def Free (w : World) (b s : Nat) : Prop := s < w.heap.size ∧ s ≠ b ∧ (∀ v, w.cell? ⟨b, 3, none⟩ = some v → v.ownBlock ≠ some s) ∧ (∀ v, w.cell? ⟨b, 4, none⟩ = some v → v.ownBlock ≠ some s)
/-- What the calls of a work change: itself, its list, what was gone through, and new blocks. -/
structure Moves (b B : Nat) (w w' : World) : Prop where
  below : Below B w w'
  free : ∀ s, Free w b s → w'.heap[s]? = w.heap[s]? ∧ Free w' b s
theorem Moves.refl (b B : Nat) (w : World) : Moves b B w w := ⟨Below.refl _ _, fun _ h => ⟨rfl, h⟩⟩
theorem Moves.trans {b B : Nat} {w w1 w2 : World} (h : Moves b B w w1) (k : Moves b B w1 w2) : Moves b B w w2 :=
  ⟨h.below.trans k.below, fun s hs => ⟨(k.free s (h.free s hs).2).1.trans (h.free s hs).1, (k.free s (h.free s hs).2).2⟩⟩
theorem Moves.of_below {b B : Nat} {w w' : World} (h : Below w.heap.size w w') (hb : b < w.heap.size) (hB : B ≤ w.heap.size) : Moves b B w w' := by
  refine ⟨h.mono hB, fun s hs => ⟨h.block s hs.1, Nat.lt_of_lt_of_le hs.1 h.size, hs.2.1, ?_, ?_⟩⟩
  · rw [(bcell h).1 b 3 hb]; exact hs.2.2.1
  · rw [(bcell h).1 b 4 hb]; exact hs.2.2.2
theorem WorkAt.free {w : World} {b B s : Nat} {st : List EntX} {fav : List PkX} {k : WorkX} (h : WorkAt w b B st fav k) {t : TypeId} (hs : s < w.heap.size) (ht : tagOf w s = some t) (h1 : t ≠ 143) (h2 : t ≠ 145) (h3 : t ≠ 164) : Free w b s := by
  obtain ⟨v3, e3, r3, _⟩ := h.list
  obtain ⟨v4, e4, r4, _⟩ := h.gone
  refine ⟨hs, fun e => ?_, fun v hv e => ?_, fun v hv e => ?_⟩
  · subst e; have := h.tag; rw [ht] at this; exact h1 (by simpa using this)
  · rw [e3] at hv; simp at hv; subst hv; have := tag_of_own r3 e; rw [ht] at this; exact h2 (by simpa using this)
  · rw [e4] at hv; simp at hv; subst hv; have := tag_of_own r4 e; rw [ht] at this; exact h3 (by simpa using this)
theorem RowX.moves {α : Type} {f : α → List Value} {size : Nat} {t : TypeId} {b B : Nat} {w w' : World} {v : Value} {l : List α} {st : List EntX} {fav : List PkX} {k : WorkX} (h : RowX f size t w v l) (hw : WorkAt w b B st fav k) (hm : Moves b B w w') (h1 : t ≠ 143) (h2 : t ≠ 145) (h3 : t ≠ 164) : RowX f size t w' v l := by
  obtain ⟨a, cap, e, hr, ht⟩ := h
  have hfar : ∀ g o, 0 < l.length → a = some ⟨g, o, none⟩ → g < w.heap.size → w'.heap[g]? = w.heap[g]? := fun g o h0 ha hlt => (hm.free g (hw.free hlt (ht g o h0 ha) h1 h2 h3)).1
  refine ⟨a, cap, e, ⟨hr.len, hr.cap, fun hn => ?_⟩, fun g o h0 ha => ?_⟩
  · obtain ⟨g, o, ha, hlt, hc⟩ := hr.at' hn
    exact ⟨g, o, ha, Nat.lt_of_lt_of_le hlt hm.below.size, fun i hi => by rw [World.cell?_of_block (w := w) (hfar g o hn ha hlt)]; exact hc i hi⟩
  · obtain ⟨g', o', ha', hlt, _⟩ := hr.at' h0
    rw [ha] at ha'
    simp at ha'
    have hq := hfar g o h0 ha (by omega)
    unfold tagOf
    rw [hq]
    exact ht g o h0 ha
theorem NeedIn.moves {b B : Nat} {w w' : World} {st : List EntX} {fav : List PkX} {k : WorkX} {x : NeedX} (h : NeedIn w x) (hw : WorkAt w b B st fav k) (hm : Moves b B w w') : NeedIn w' x :=
  ⟨RowX.moves h.sp hw hm (by decide) (by decide) (by decide), h.ne, h.le, h.nm, h.tx⟩
theorem NeedsIn.moves {b B : Nat} {w w' : World} {st : List EntX} {fav : List PkX} {k : WorkX} {v : Value} {l : List NeedX} (h : NeedsIn w v l) (hw : WorkAt w b B st fav k) (hm : Moves b B w w') : NeedsIn w' v l :=
  ⟨RowX.moves h.1 hw hm (by decide) (by decide) (by decide), fun n hn => (h.2 n hn).moves hw hm⟩
theorem EntIn.moves {b B : Nat} {w w' : World} {st : List EntX} {fav : List PkX} {k : WorkX} {e : EntX} (h : EntIn w e) (hw : WorkAt w b B st fav k) (hm : Moves b B w w') : EntIn w' e := ⟨h.1.moves hw hm, h.2⟩
theorem EntsIn.moves {b B : Nat} {w w' : World} {st : List EntX} {fav : List PkX} {k : WorkX} {v : Value} {l : List EntX} (h : EntsIn w v l) (hw : WorkAt w b B st fav k) (hm : Moves b B w w') : EntsIn w' v l :=
  ⟨RowX.moves h.1 hw hm (by decide) (by decide) (by decide), fun n hn => (h.2 n hn).moves hw hm⟩
theorem PksIn.moves {b B : Nat} {w w' : World} {st : List EntX} {fav : List PkX} {k : WorkX} {v : Value} {l : List PkX} (h : PksIn w v l) (hw : WorkAt w b B st fav k) (hm : Moves b B w w') : PksIn w' v l :=
  ⟨RowX.moves h.1 hw hm (by decide) (by decide) (by decide), fun n hn => (h.2 n hn).moves hw hm⟩

/-- The work's tree is another. -/
theorem WorkAt.setTree {w : World} {b B : Nat} {st : List EntX} {fav : List PkX} {k : WorkX} (h : WorkAt w b B st fav k) (hB : B ≤ b) {v : Value} {t : List PkX} (hv : PksIn w v t) :
    WorkAt (w.setCell ⟨b, 2, none⟩ v) b B st fav ⟨t, k.list, k.gone⟩ ∧ Moves b B w (w.setCell ⟨b, 2, none⟩ v) := by
  obtain ⟨v0, e0, r0⟩ := h.stock
  obtain ⟨v1, e1, r1⟩ := h.fav
  obtain ⟨v2, e2, _⟩ := h.tree
  obtain ⟨v3, e3, r3, q3⟩ := h.list
  obtain ⟨v4, e4, r4, q4⟩ := h.gone
  have f2 := h.f2; have f3 := h.f3; have f4 := h.f4
  have hbut := But.set w b 2 v
  have g0 : (w.setCell ⟨b, 2, none⟩ v).cell? ⟨b, 0, none⟩ = some v0 := by simp [go_sem, *]
  have g1 : (w.setCell ⟨b, 2, none⟩ v).cell? ⟨b, 1, none⟩ = some v1 := by simp [go_sem, *]
  have g2 : (w.setCell ⟨b, 2, none⟩ v).cell? ⟨b, 2, none⟩ = some v := by simp [go_sem, *]
  have g3 : (w.setCell ⟨b, 2, none⟩ v).cell? ⟨b, 3, none⟩ = some v3 := by simp [go_sem, *]
  have g4 : (w.setCell ⟨b, 2, none⟩ v).cell? ⟨b, 4, none⟩ = some v4 := by simp [go_sem, *]
  refine ⟨⟨by simpa using h.lt, by rw [tag_set]; exact h.tag, ⟨v0, g0, r0.off hbut h.tag (by decide) (by decide) (by decide)⟩, ⟨v1, g1, r1.off hbut h.tag (by decide) (by decide) (by decide)⟩, ⟨v, g2, hv.off hbut h.tag (by decide) (by decide) (by decide)⟩,
    ⟨v3, g3, own_but r3 hbut (.inr (by rw [h.tag]; decide)), fun x hx => (q3 x hx).off hbut (odd_of h.tag (by decide) (by decide))⟩,
    ⟨v4, g4, own_but r4 hbut (.inr (by rw [h.tag]; decide)), fun x hx => (q4 x hx).off hbut (odd_of h.tag (by decide) (by decide))⟩, by simp [go_sem, *], by simp [go_sem, *], by simp [go_sem, *]⟩, ?_⟩
  refine ⟨(Below.refl _ _).setCell hB _, fun s hs => ⟨hbut.block s hs.1 hs.2.1, by simpa using hs.1, hs.2.1, ?_, ?_⟩⟩
  · rw [g3, ← e3]; exact hs.2.2.1
  · rw [g4, ← e4]; exact hs.2.2.2

/-- One more in the work's list. -/
theorem WorkAt.pushList {W w1 : World} {b B : Nat} {st : List EntX} {fav : List PkX} {k : WorkX} (h : WorkAt W b B st fav k) (hB : B ≤ b) {v : Value} (ev : W.cell? ⟨b, 3, none⟩ = some v) {x : WhX} (hx : NeedsIn W x.needs x.nd) {g cap : Nat}
    (hown : w1.ownsRow B 145 2 (.slice (some ⟨g, 0, none⟩) (k.list.length + 1) cap) (k.list.length + 1) (k.list.flatMap whXC ++ whXC x)) (hg : W.grownBy w1 v.ownBlock) (hat : v.ownBlock = some g ∨ g = W.heap.size) :
    WorkAt (w1.setCell ⟨b, 3, none⟩ (.slice (some ⟨g, 0, none⟩) (k.list.length + 1) cap)) b B st fav ⟨k.tree, k.list ++ [x], k.gone⟩ ∧ Moves b B W (w1.setCell ⟨b, 3, none⟩ (.slice (some ⟨g, 0, none⟩) (k.list.length + 1) cap)) := by
  obtain ⟨v0, e0, r0⟩ := h.stock
  obtain ⟨v1, e1, r1⟩ := h.fav
  obtain ⟨v2, e2, r2⟩ := h.tree
  obtain ⟨v3, e3, r3, q3⟩ := h.list
  obtain ⟨v4, e4, r4, q4⟩ := h.gone
  obtain rfl : v = v3 := by rw [e3] at ev; simpa using ev.symm
  have hne : ∀ s t, tagOf W s = some t → t ≠ 145 → some s ≠ v.ownBlock := fun s t ht hn e => by
    have := tag_of_own r3 e.symm; rw [ht] at this; exact hn (by simpa using this)
  have hbb : w1.heap[b]? = W.heap[b]? := hg.block b h.lt (hne b _ h.tag (by decide))
  have hc : ∀ o, w1.cell? ⟨b, o, none⟩ = W.cell? ⟨b, o, none⟩ := fun o => World.cell?_of_block (w := W) hbb
  have hf : ∀ o, w1.frozen? ⟨b, o, none⟩ = W.frozen? ⟨b, o, none⟩ := fun o => World.frozen?_of_block (w := W) hbb
  have htb : tagOf w1 b = some 143 := by unfold tagOf; rw [hbb]; exact h.tag
  have hz := hg.size
  have hbut := But.set w1 b 3 (.slice (some ⟨g, 0, none⟩) (k.list.length + 1) cap)
  have c0 := (hc 0).trans e0; have c1 := (hc 1).trans e1; have c2 := (hc 2).trans e2; have c3 := (hc 3).trans e3; have c4 := (hc 4).trans e4
  have f2 := (hf 2).trans h.f2; have f3 := (hf 3).trans h.f3; have f4 := (hf 4).trans h.f4
  have g0 : (w1.setCell ⟨b, 3, none⟩ (.slice (some ⟨g, 0, none⟩) (k.list.length + 1) cap)).cell? ⟨b, 0, none⟩ = some v0 := by simp [go_sem, *]
  have g1 : (w1.setCell ⟨b, 3, none⟩ (.slice (some ⟨g, 0, none⟩) (k.list.length + 1) cap)).cell? ⟨b, 1, none⟩ = some v1 := by simp [go_sem, *]
  have g2 : (w1.setCell ⟨b, 3, none⟩ (.slice (some ⟨g, 0, none⟩) (k.list.length + 1) cap)).cell? ⟨b, 2, none⟩ = some v2 := by simp [go_sem, *]
  have g3 : (w1.setCell ⟨b, 3, none⟩ (.slice (some ⟨g, 0, none⟩) (k.list.length + 1) cap)).cell? ⟨b, 3, none⟩ = some (.slice (some ⟨g, 0, none⟩) (k.list.length + 1) cap) := by simp [go_sem, *]
  have g4 : (w1.setCell ⟨b, 3, none⟩ (.slice (some ⟨g, 0, none⟩) (k.list.length + 1) cap)).cell? ⟨b, 4, none⟩ = some v4 := by simp [go_sem, *]
  have ro := r4.kept hg (by
    rcases ho : v4.ownBlock with _ | q
    · exact .inl rfl
    · exact .inr (hne q _ (tag_of_own r4 ho) (by decide)))
  have e1' : (k.list ++ [x]).flatMap whXC = k.list.flatMap whXC ++ whXC x := by simp
  have e2' : (k.list ++ [x]).length = k.list.length + 1 := by simp
  have hl1 : w1.ownsRow B 145 2 (.slice (some ⟨g, 0, none⟩) (k.list.length + 1) cap) (k.list ++ [x]).length ((k.list ++ [x]).flatMap whXC) := by rw [e1', e2']; exact hown
  have hmem : ∀ y ∈ k.list ++ [x], NeedsIn w1 y.needs y.nd := by
    intro y hy
    simp only [List.mem_append, List.mem_singleton] at hy
    rcases hy with hy | rfl
    · exact (q3 y hy).grown hg r3 (by decide) (by decide)
    · exact hx.grown hg r3 (by decide) (by decide)
  have hoth : ∀ y ∈ k.gone, NeedIn w1 y.n := fun y hy => (q4 y hy).grown hg r3 (by decide)
  have R0 : EntsIn w1 v0 st := ⟨RowX.grown r0.1 hg r3 (by decide), fun e he => (r0.2 e he).grown hg r3 (by decide) (by decide)⟩
  have R1 : PksIn w1 v1 fav := ⟨RowX.grown r1.1 hg r3 (by decide), fun e he => (r1.2 e he).grown hg r3 (by decide) (by decide)⟩
  have R2 : PksIn w1 v2 k.tree := ⟨RowX.grown r2.1 hg r3 (by decide), fun e he => (r2.2 e he).grown hg r3 (by decide) (by decide)⟩
  have ho' : Odd w1 b := odd_of htb (by decide) (by decide)
  refine ⟨⟨by have := h.lt; simp; omega, by rw [tag_set]; exact htb, ⟨v0, g0, R0.off hbut htb (by decide) (by decide) (by decide)⟩, ⟨v1, g1, R1.off hbut htb (by decide) (by decide) (by decide)⟩, ⟨v2, g2, R2.off hbut htb (by decide) (by decide) (by decide)⟩,
    ⟨_, g3, own_but hl1 hbut (.inr (by rw [htb]; decide)), fun y hy => (hmem y hy).off hbut ho'⟩, ⟨v4, g4, own_but ro hbut (.inr (by rw [htb]; decide)), fun y hy => (hoth y hy).off hbut ho'⟩, by simp [go_sem, f2], by simp [go_sem, f3], by simp [go_sem, f4]⟩, ?_⟩
  refine ⟨((Below.refl B W).grown hg (by have := h.lt; omega) (fun q hq => (r3.lt q hq).1)).setCell hB _, fun s hs => ⟨?_, by have := hs.1; simp; omega, hs.2.1, ?_, ?_⟩⟩
  · rw [hbut.block s (by have := hs.1; omega) hs.2.1]
    exact hg.block s hs.1 (fun e => hs.2.2.1 v e3 e.symm)
  · intro u hu
    rw [g3] at hu; simp at hu; subst hu
    simp [Value.ownBlock]
    intro e
    rcases hat with hat | hat
    · exact hs.2.2.1 v e3 (by rw [hat, e])
    · have := hs.1; omega
  · intro u hu
    rw [g4] at hu; simp at hu; subst hu
    exact hs.2.2.2 v4 e4

/-- One more in the work's gone. -/
theorem WorkAt.pushGone {W w1 : World} {b B : Nat} {st : List EntX} {fav : List PkX} {k : WorkX} (h : WorkAt W b B st fav k) (hB : B ≤ b) {v : Value} (ev : W.cell? ⟨b, 4, none⟩ = some v) {x : AsX} (hx : NeedIn W x.n) {g cap : Nat}
    (hown : w1.ownsRow B 164 4 (.slice (some ⟨g, 0, none⟩) (k.gone.length + 1) cap) (k.gone.length + 1) (k.gone.flatMap asXC ++ asXC x)) (hg : W.grownBy w1 v.ownBlock) (hat : v.ownBlock = some g ∨ g = W.heap.size) :
    WorkAt (w1.setCell ⟨b, 4, none⟩ (.slice (some ⟨g, 0, none⟩) (k.gone.length + 1) cap)) b B st fav ⟨k.tree, k.list, k.gone ++ [x]⟩ ∧ Moves b B W (w1.setCell ⟨b, 4, none⟩ (.slice (some ⟨g, 0, none⟩) (k.gone.length + 1) cap)) := by
  obtain ⟨v0, e0, r0⟩ := h.stock
  obtain ⟨v1, e1, r1⟩ := h.fav
  obtain ⟨v2, e2, r2⟩ := h.tree
  obtain ⟨v3, e3, r3, q3⟩ := h.list
  obtain ⟨v4, e4, r4, q4⟩ := h.gone
  obtain rfl : v = v4 := by rw [e4] at ev; simpa using ev.symm
  have hne : ∀ s t, tagOf W s = some t → t ≠ 164 → some s ≠ v.ownBlock := fun s t ht hn e => by
    have := tag_of_own r4 e.symm; rw [ht] at this; exact hn (by simpa using this)
  have hbb : w1.heap[b]? = W.heap[b]? := hg.block b h.lt (hne b _ h.tag (by decide))
  have hc : ∀ o, w1.cell? ⟨b, o, none⟩ = W.cell? ⟨b, o, none⟩ := fun o => World.cell?_of_block (w := W) hbb
  have hf : ∀ o, w1.frozen? ⟨b, o, none⟩ = W.frozen? ⟨b, o, none⟩ := fun o => World.frozen?_of_block (w := W) hbb
  have htb : tagOf w1 b = some 143 := by unfold tagOf; rw [hbb]; exact h.tag
  have hz := hg.size
  have hbut := But.set w1 b 4 (.slice (some ⟨g, 0, none⟩) (k.gone.length + 1) cap)
  have c0 := (hc 0).trans e0; have c1 := (hc 1).trans e1; have c2 := (hc 2).trans e2; have c3 := (hc 3).trans e3; have c4 := (hc 4).trans e4
  have f2 := (hf 2).trans h.f2; have f3 := (hf 3).trans h.f3; have f4 := (hf 4).trans h.f4
  have g0 : (w1.setCell ⟨b, 4, none⟩ (.slice (some ⟨g, 0, none⟩) (k.gone.length + 1) cap)).cell? ⟨b, 0, none⟩ = some v0 := by simp [go_sem, *]
  have g1 : (w1.setCell ⟨b, 4, none⟩ (.slice (some ⟨g, 0, none⟩) (k.gone.length + 1) cap)).cell? ⟨b, 1, none⟩ = some v1 := by simp [go_sem, *]
  have g2 : (w1.setCell ⟨b, 4, none⟩ (.slice (some ⟨g, 0, none⟩) (k.gone.length + 1) cap)).cell? ⟨b, 2, none⟩ = some v2 := by simp [go_sem, *]
  have g4 : (w1.setCell ⟨b, 4, none⟩ (.slice (some ⟨g, 0, none⟩) (k.gone.length + 1) cap)).cell? ⟨b, 4, none⟩ = some (.slice (some ⟨g, 0, none⟩) (k.gone.length + 1) cap) := by simp [go_sem, *]
  have g3 : (w1.setCell ⟨b, 4, none⟩ (.slice (some ⟨g, 0, none⟩) (k.gone.length + 1) cap)).cell? ⟨b, 3, none⟩ = some v3 := by simp [go_sem, *]
  have ro := r3.kept hg (by
    rcases ho : v3.ownBlock with _ | q
    · exact .inl rfl
    · exact .inr (hne q _ (tag_of_own r3 ho) (by decide)))
  have e1' : (k.gone ++ [x]).flatMap asXC = k.gone.flatMap asXC ++ asXC x := by simp
  have e2' : (k.gone ++ [x]).length = k.gone.length + 1 := by simp
  have hl1 : w1.ownsRow B 164 4 (.slice (some ⟨g, 0, none⟩) (k.gone.length + 1) cap) (k.gone ++ [x]).length ((k.gone ++ [x]).flatMap asXC) := by rw [e1', e2']; exact hown
  have hmem : ∀ y ∈ k.gone ++ [x], NeedIn w1 y.n := by
    intro y hy
    simp only [List.mem_append, List.mem_singleton] at hy
    rcases hy with hy | rfl
    · exact (q4 y hy).grown hg r4 (by decide)
    · exact hx.grown hg r4 (by decide)
  have hoth : ∀ y ∈ k.list, NeedsIn w1 y.needs y.nd := fun y hy => (q3 y hy).grown hg r4 (by decide) (by decide)
  have R0 : EntsIn w1 v0 st := ⟨RowX.grown r0.1 hg r4 (by decide), fun e he => (r0.2 e he).grown hg r4 (by decide) (by decide)⟩
  have R1 : PksIn w1 v1 fav := ⟨RowX.grown r1.1 hg r4 (by decide), fun e he => (r1.2 e he).grown hg r4 (by decide) (by decide)⟩
  have R2 : PksIn w1 v2 k.tree := ⟨RowX.grown r2.1 hg r4 (by decide), fun e he => (r2.2 e he).grown hg r4 (by decide) (by decide)⟩
  have ho' : Odd w1 b := odd_of htb (by decide) (by decide)
  refine ⟨⟨by have := h.lt; simp; omega, by rw [tag_set]; exact htb, ⟨v0, g0, R0.off hbut htb (by decide) (by decide) (by decide)⟩, ⟨v1, g1, R1.off hbut htb (by decide) (by decide) (by decide)⟩, ⟨v2, g2, R2.off hbut htb (by decide) (by decide) (by decide)⟩,
    ⟨v3, g3, own_but ro hbut (.inr (by rw [htb]; decide)), fun y hy => (hoth y hy).off hbut ho'⟩, ⟨_, g4, own_but hl1 hbut (.inr (by rw [htb]; decide)), fun y hy => (hmem y hy).off hbut ho'⟩, by simp [go_sem, f2], by simp [go_sem, f3], by simp [go_sem, f4]⟩, ?_⟩
  refine ⟨((Below.refl B W).grown hg (by have := h.lt; omega) (fun q hq => (r4.lt q hq).1)).setCell hB _, fun s hs => ⟨?_, by have := hs.1; simp; omega, hs.2.1, ?_, ?_⟩⟩
  · rw [hbut.block s (by have := hs.1; omega) hs.2.1]
    exact hg.block s hs.1 (fun e => hs.2.2.2 v e4 e.symm)
  · intro u hu
    rw [g3] at hu; simp at hu; subst hu
    exact hs.2.2.1 v3 e3
  · intro u hu
    rw [g4] at hu; simp at hu; subst hu
    simp [Value.ownBlock]
    intro e
    rcases hat with hat | hat
    · exact hs.2.2.2 v e4 (by rw [hat, e])
    · have := hs.1; omega

end Hst
end Go.Proofs.YtecocheolbkneaaDoor
