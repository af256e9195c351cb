/- Pbuild, Psmv, Psite, Psiteb, Psitec, Ptext -/
import Derived.Test.YtecocheolbkneaaDoorW18
import Derived.Test.YtecocheolbkneaaDoorW19
import Derived.Test.YtecocheolbkneaaDoorW12
import Derived.Test.YtecocheolbkneaaDoorW11
namespace Go.Proofs.YtecocheolbkneaaDoor
open Go.RowKit
namespace Hst
set_option maxRecDepth 100000

theorem bg_end {st : List EntX} {fav : List PkX} {f i : Nat} {k : WorkX} (h : ¬ i < k.list.length) : buildGoP st fav (f + 1) i k = (k, 0) := by rw [buildGoP, List.getElem?_eq_none (by omega)]
theorem bg_ok {st : List EntX} {fav : List PkX} {f i : Nat} {k : WorkX} (h : i < k.list.length) (h' : (workGo st fav k.list[i].path k k.list[i].nd).2 = 0) : buildGoP st fav (f + 1) i k = buildGoP st fav f (i + 1) (workGo st fav k.list[i].path k k.list[i].nd).1 := by
  rw [buildGoP, List.getElem?_eq_getElem h]; simp only; rw [if_pos h']
theorem bg_err {st : List EntX} {fav : List PkX} {f i : Nat} {k : WorkX} (h : i < k.list.length) (h' : ¬ (workGo st fav k.list[i].path k k.list[i].nd).2 = 0) : buildGoP st fav (f + 1) i k = workGo st fav k.list[i].path k k.list[i].nd := by
  rw [buildGoP, List.getElem?_eq_getElem h]; simp only; rw [if_neg h']
theorem bp_ok {st : List EntX} {v : Value} {site : List NeedX} {fav : List PkX} {k : WorkX} (h : buildGoP st fav 60 0 ⟨[], [⟨[], v, site⟩], []⟩ = (k, 0)) : buildP st v site fav = (some (inUseP k.tree v site), 0) := by unfold buildP; rw [h]; rfl
theorem bp_err {st : List EntX} {v : Value} {site : List NeedX} {fav : List PkX} {k : WorkX} {e : Int} (h : buildGoP st fav 60 0 ⟨[], [⟨[], v, site⟩], []⟩ = (k, e)) (he : ¬ e = 0) : buildP st v site fav = (none, e) := by unfold buildP; rw [h]; simp only; rw [if_neg he]

set_option maxHeartbeats 4000000 in
theorem build_any' (v sv fv : Value) (st : List EntX) (site : List NeedX) (fav : List PkX) (w : World) (hv : EntsIn w v st) (hs : NeedsIn w sv site) (hf : PksIn w fv fav) (hst : StOk st) (hsl : site.length ≤ 6) (hfl : fav.length ≤ 1000) :
    Calls Tryd.prog 80 #[.agg #[v], sv, .agg #[fv]] w fun e w' => ∃ a n c, e = .returned (.tuple #[.agg #[.slice a n c], .int .i64 (buildP st sv site fav).2]) ∧ Below w.heap.size w w' ∧ (∀ t, (buildP st sv site fav).1 = some t → PksIn w' (.slice a n c) t) := by
  obtain ⟨i0, hi, iz0, iz1, iz2⟩ := info_parts info_whX
  obtain ⟨sa, sc, rfl⟩ := hv.1.form
  obtain ⟨na, nc, rfl⟩ := hs.1.form
  obtain ⟨fa, fc, rfl⟩ := hf.1.form
  have HBO := hid' (fun k => bp_ok (st := st) (v := .slice na site.length nc) (site := site) (fav := fav) (k := k))
  have HBE := hid' (fun k e => bp_err (st := st) (v := .slice na site.length nc) (site := site) (fav := fav) (k := k) (e := e))
  generalize buildP st (.slice na site.length nc) site fav = res at *
  have hbw := ((((Below.refl w.heap.size w).alloc (Nat.le_refl _) (.cells #[.slice sa st.length sc] 93)).alloc (by simp) (.cells #[.slice fa fav.length fc] 96)).alloc (by simp; omega) (.cells #[.slice none 0 0] 96)).alloc (by simp; omega) (.cells #[.slice sa st.length sc, .slice fa fav.length fc, .slice none 0 0, .slice none 0 0, .slice none 0 0] 143)
  have HV := hid' (hv.below hbw)
  have HS := hid' (hs.below hbw)
  have HF := hid' (hf.below hbw)
  have HBW := hid' hbw
  have hsz : ((((w.alloc (.cells #[.slice sa st.length sc] 93)).alloc (.cells #[.slice fa fav.length fc] 96)).alloc (.cells #[.slice none 0 0] 96)).alloc (.cells #[.slice sa st.length sc, .slice fa fav.length fc, .slice none 0 0, .slice none 0 0, .slice none 0 0] 143)).heap.size = w.heap.size + 4 := by simp
  have er : ((((w.alloc (.cells #[.slice sa st.length sc] 93)).alloc (.cells #[.slice fa fav.length fc] 96)).alloc (.cells #[.slice none 0 0] 96)).alloc (.cells #[.slice sa st.length sc, .slice fa fav.length fc, .slice none 0 0, .slice none 0 0, .slice none 0 0] 143)).cell? ⟨w.heap.size + 1 + 1, 0, none⟩ = some (.slice none 0 0) ∧ ((((w.alloc (.cells #[.slice sa st.length sc] 93)).alloc (.cells #[.slice fa fav.length fc] 96)).alloc (.cells #[.slice none 0 0] 96)).alloc (.cells #[.slice sa st.length sc, .slice fa fav.length fc, .slice none 0 0, .slice none 0 0, .slice none 0 0] 143)).frozen? ⟨w.heap.size + 1 + 1, 0, none⟩ = false := by constructor <;> simp [go_sem]
  have htr : tagOf ((((w.alloc (.cells #[.slice sa st.length sc] 93)).alloc (.cells #[.slice fa fav.length fc] 96)).alloc (.cells #[.slice none 0 0] 96)).alloc (.cells #[.slice sa st.length sc, .slice fa fav.length fc, .slice none 0 0, .slice none 0 0, .slice none 0 0] 143)) (w.heap.size + 1 + 1) = some 96 := by
    have h1 := tag_new ((w.alloc (.cells #[.slice sa st.length sc] 93)).alloc (.cells #[.slice fa fav.length fc] 96)) #[.slice none 0 0] 96
    rw [tagOf_below (w := (((w.alloc (.cells #[.slice sa st.length sc] 93)).alloc (.cells #[.slice fa fav.length fc] 96)).alloc (.cells #[.slice none 0 0] 96))) ((Below.refl _ _).alloc (Nat.le_refl _) _) (by simp)]
    simpa using h1
  have htb : tagOf ((((w.alloc (.cells #[.slice sa st.length sc] 93)).alloc (.cells #[.slice fa fav.length fc] 96)).alloc (.cells #[.slice none 0 0] 96)).alloc (.cells #[.slice sa st.length sc, .slice fa fav.length fc, .slice none 0 0, .slice none 0 0, .slice none 0 0] 143)) (w.heap.size + 1 + 1 + 1) = some 143 := by
    have h1 := tag_new (((w.alloc (.cells #[.slice sa st.length sc] 93)).alloc (.cells #[.slice fa fav.length fc] 96)).alloc (.cells #[.slice none 0 0] 96)) #[.slice sa st.length sc, .slice fa fav.length fc, .slice none 0 0, .slice none 0 0, .slice none 0 0] 143
    simpa using h1
  have hW0 : WorkAt ((((w.alloc (.cells #[.slice sa st.length sc] 93)).alloc (.cells #[.slice fa fav.length fc] 96)).alloc (.cells #[.slice none 0 0] 96)).alloc (.cells #[.slice sa st.length sc, .slice fa fav.length fc, .slice none 0 0, .slice none 0 0, .slice none 0 0] 143)) (w.heap.size + 1 + 1 + 1) w.heap.size st fav ⟨[], [], []⟩ :=
    ⟨by omega, htb, ⟨_, by simp [go_sem], HV.out⟩, ⟨_, by simp [go_sem], HF.out⟩, ⟨.slice none 0 0, by simp [go_sem], RowX.nil _ _ _ _, by simp⟩, ⟨.slice none 0 0, by simp [go_sem], World.ownsRow_nil _ _ _ _, by simp⟩, ⟨.slice none 0 0, by simp [go_sem], World.ownsRow_nil _ _ _ _, by simp⟩, by simp [go_sem], by simp [go_sem], by simp [go_sem]⟩
  have HW0 := hid' hW0
  clear hv hs hf hbw htb
  go_enter Tryd.func80, Tryd.ntmps80
  have e3 : ((((w.alloc (.cells #[.slice sa st.length sc] 93)).alloc (.cells #[.slice fa fav.length fc] 96)).alloc (.cells #[.slice none 0 0] 96)).alloc (.cells #[.slice sa st.length sc, .slice fa fav.length fc, .slice none 0 0, .slice none 0 0, .slice none 0 0] 143)).cell? ⟨w.heap.size + 1 + 1 + 1, 3, none⟩ = some (.slice none 0 0) := by simp [go_sem]
  go_wp2_with (first | (at_builtin; refine wpList_append_lies _ rfl _ _ 140 rfl w.heap.size 145 i0 (.agg #[.string ByteArray.empty, .slice none 0 0]) 2 40 Tryd.underlying140 hi iz0 iz1 iz2 rfl (by omega) _ 0 [] rfl (World.ownsRow_nil _ _ _ _) ⟨w.heap.size + 1 + 1 + 1 + 1, 0, none⟩ 1 1 [.string ⟨#[]⟩, .slice na site.length nc] rfl rfl (by have := news_2 ((((w.alloc (.cells #[.slice sa st.length sc] 93)).alloc (.cells #[.slice fa fav.length fc] 96)).alloc (.cells #[.slice none 0 0] 96)).alloc (.cells #[.slice sa st.length sc, .slice fa fav.length fc, .slice none 0 0, .slice none 0 0, .slice none 0 0] 143)) (.string ⟨#[]⟩) (.slice na site.length nc) 145; simpa using this) (whX_one ⟨[], .slice na site.length nc, site⟩ rfl) (by omega) (by unfold maxLen; omega) (by omega) (by simp; omega) (w.heap.size + 5) (by simp) ?_; intro g1 cap1 w1 hown1 hgrow1 hat1 hlt1; have y3 := grow_far hgrow1 (b := w.heap.size + 1 + 1 + 1) (by simp <;> omega) (fun q hq => nomatch (show (none : Option Nat) = some q from hq)) 3; have y4 := grow_far_f hgrow1 (b := w.heap.size + 1 + 1 + 1) (by simp <;> omega) (fun q hq => nomatch (show (none : Option Nat) = some q from hq)) 3; have hgz := hgrow1.size; simp at hgz; have hBz : w.heap.size + 1 + 1 + 1 < w1.heap.size := (by omega); simp [go_sem] at y3 y4))
  have hba := (Below.refl _ ((((w.alloc (.cells #[.slice sa st.length sc] 93)).alloc (.cells #[.slice fa fav.length fc] 96)).alloc (.cells #[.slice none 0 0] 96)).alloc (.cells #[.slice sa st.length sc, .slice fa fav.length fc, .slice none 0 0, .slice none 0 0, .slice none 0 0] 143))).alloc (Nat.le_refl _) (.cells #[.string ⟨#[]⟩, .slice na site.length nc] 145)
  have R := WorkAt.pushList (k := ⟨[], [], []⟩) (v := .slice none 0 0) (x := ⟨[], .slice na site.length nc, site⟩) (HW0.out.below hba) (show w.heap.size ≤ w.heap.size + 1 + 1 + 1 by omega) ((Below.cell (w := ((((w.alloc (.cells #[.slice sa st.length sc] 93)).alloc (.cells #[.slice fa fav.length fc] 96)).alloc (.cells #[.slice none 0 0] 96)).alloc (.cells #[.slice sa st.length sc, .slice fa fav.length fc, .slice none 0 0, .slice none 0 0, .slice none 0 0] 143))) hba (p := ⟨w.heap.size + 1 + 1 + 1, 3, none⟩) (by simp)).trans e3) (HS.out.below hba) hown1 hgrow1 (hat1.imp id (fun h => by rw [h]; simp))
  simp only [List.nil_append, List.length_nil, Nat.zero_add] at R
  have HFR : Hid (Free ((((w.alloc (.cells #[.slice sa st.length sc] 93)).alloc (.cells #[.slice fa fav.length fc] 96)).alloc (.cells #[.slice none 0 0] 96)).alloc (.cells #[.slice sa st.length sc, .slice fa fav.length fc, .slice none 0 0, .slice none 0 0, .slice none 0 0] 143)) (w.heap.size + 1 + 1 + 1) (w.heap.size + 1 + 1)) := HW0.out.free (by omega) htr (by decide) (by decide) (by decide)
  have HM := hid' ((Moves.of_below (b := w.heap.size + 1 + 1 + 1) (B := w.heap.size) hba (by simp) (by simp; omega)).trans R.2)
  have HWK := hid' R.1
  have HMF := hid' (HM.out.free _ HFR.out)
  have HBL := hid' (HBW.out.trans HM.out.below)
  have HER : Hid ((w1.setCell ⟨w.heap.size + 1 + 1 + 1, 3, none⟩ (.slice (some ⟨g1, 0, none⟩) 1 cap1)).cell? ⟨w.heap.size + 1 + 1, 0, none⟩ = some (.slice none 0 0) ∧ (w1.setCell ⟨w.heap.size + 1 + 1 + 1, 3, none⟩ (.slice (some ⟨g1, 0, none⟩) 1 cap1)).frozen? ⟨w.heap.size + 1 + 1, 0, none⟩ = false) := ⟨by rw [World.cell?_of_block (w := ((((w.alloc (.cells #[.slice sa st.length sc] 93)).alloc (.cells #[.slice fa fav.length fc] 96)).alloc (.cells #[.slice none 0 0] 96)).alloc (.cells #[.slice sa st.length sc, .slice fa fav.length fc, .slice none 0 0, .slice none 0 0, .slice none 0 0] 143))) HMF.out.1]; exact er.1, by rw [World.frozen?_of_block (w := ((((w.alloc (.cells #[.slice sa st.length sc] 93)).alloc (.cells #[.slice fa fav.length fc] 96)).alloc (.cells #[.slice none 0 0] 96)).alloc (.cells #[.slice sa st.length sc, .slice fa fav.length fc, .slice none 0 0, .slice none 0 0, .slice none 0 0] 143))) HMF.out.1]; exact er.2⟩
  have HTR : Hid (tagOf (w1.setCell ⟨w.heap.size + 1 + 1 + 1, 3, none⟩ (.slice (some ⟨g1, 0, none⟩) 1 cap1)) (w.heap.size + 1 + 1) = some 96) := by unfold Hid tagOf; rw [HMF.out.1]; exact htr
  have HSM := hid' ((HS.out.below hba).moves (HW0.out.below hba) R.2)
  clear R hown1 hgrow1 hat1 hba e3 er htr hW0
  generalize w1.setCell ⟨w.heap.size + 1 + 1 + 1, 3, none⟩ (.slice (some ⟨g1, 0, none⟩) 1 cap1) = X at *
  clear HM
  have HOK0 : Hid (WOk ⟨[], [⟨[], .slice na site.length nc, site⟩], []⟩) := ⟨by simp, rfl, fun x hx => by simp only [List.mem_singleton] at hx; subst hx; exact ⟨by simp, hsl⟩, by simp, by simp⟩
  have HST := hid' hst
  have hRB : w.heap.size ≤ w.heap.size + 1 + 1 + 1 := by omega
  go_loopw [9] (fun i wr => ∃ (n : Nat) (k : WorkX), n ≤ k.list.length ∧ k.list.length ≤ 41 ∧ i = .int .i64 n ∧ Hid (Moves (w.heap.size + 1 + 1 + 1) w.heap.size X wr ∧ WorkAt wr (w.heap.size + 1 + 1 + 1) w.heap.size st fav k ∧ WOk k ∧ k.gone.length ≤ 6 * n ∧ buildGoP st fav 60 0 ⟨[], [⟨[], .slice na site.length nc, site⟩], []⟩ = buildGoP st fav (60 - n) n k)) (fun i _ => 60 - (intOf i).toNat)
  case atStart => exact ⟨0, ⟨[], [⟨[], .slice na site.length nc, site⟩], []⟩, by simp, by simp, rfl, Moves.refl _ _ _, HWK.out, HOK0.out, by simp, rfl⟩
  case round =>
    obtain ⟨n, k, hn, hk41, rfl, hall⟩ := hrel
    have HMV := hid' hall.out.1; have HWA := hid' hall.out.2.1; have HOK := hid' hall.out.2.2.1; have HGN := hid' hall.out.2.2.2.1; have HEQ := hid' hall.out.2.2.2.2
    obtain ⟨v3, e3, r3, q3⟩ := HWA.out.list
    obtain ⟨la, lc, rfl⟩ := own_slice r3
    have hbr := HWA.out.lt
    have hmf := HMV.out.free _ HMF.out.2
    have er : wr.cell? ⟨w.heap.size + 1 + 1, 0, none⟩ = some (.slice none 0 0) := by rw [World.cell?_of_block (w := X) hmf.1]; exact HER.out.1
    have ef : wr.frozen? ⟨w.heap.size + 1 + 1, 0, none⟩ = false := by rw [World.frozen?_of_block (w := X) hmf.1]; exact HER.out.2
    have HTR2 : Hid (tagOf wr (w.heap.size + 1 + 1) = some 96) := by unfold Hid tagOf; rw [hmf.1]; exact HTR.out
    have HFR2 := hid' hmf.2
    have hRr := hmf.2.1
    have HBR := hid' (HBL.out.trans HMV.out.below)
    clear hall hmf
    by_cases hlt : n < k.list.length
    · obtain ⟨g, o, cap', hv, hg, hc⟩ := (RowX.of_own (f := whXC) r3).whs hlt
      simp at hv
      obtain ⟨rfl, rfl⟩ := hv
      obtain ⟨c0, c1⟩ := hc n hlt
      have hnx := q3 k.list[n] (List.getElem_mem hlt)
      obtain ⟨xa, xc, hxf⟩ := hnx.1.form
      have hlx := HOK.out.lp k.list[n] (List.getElem_mem hlt)
      have G1 := hid' (bg_ok (st := st) (fav := fav) (f := 59 - n) (k := k) hlt)
      have G2 := hid' (bg_err (st := st) (fav := fav) (f := 59 - n) (k := k) hlt)
      have e60 : 60 - n = 59 - n + 1 := by omega
      rw [e60] at HEQ
      have hba := (Below.refl wr.heap.size wr).alloc (Nat.le_refl _) (.cells #[.string (bs k.list[n].path), k.list[n].needs] 145)
      have HWC := hid' (workAt_any (w.heap.size + 1 + 1 + 1) w.heap.size st fav k k.list[n] _ (HWA.out.below hba) hRB (hnx.below hba) HST.out hfl HOK.out hlx.1 hlx.2 (by have := HGN.out; omega))
      have HWO := hid' (WOk.work (fav := fav) (path := k.list[n].path) HST.out k.list[n].nd k HOK.out hlx.1)
      have HMB := hid' (HMV.out.trans (Moves.of_below hba hbr (by omega)))
      have HFB := hid' ((Moves.of_below (b := w.heap.size + 1 + 1 + 1) (B := w.heap.size) hba hbr (by omega)).free _ HFR2.out).2
      have er2 := ((bcell hba).1 (w.heap.size + 1 + 1) 0 hRr).trans er
      have ef2 := ((bcell hba).2 (w.heap.size + 1 + 1) 0 hRr).trans ef
      have HBB := hid' (HBR.out.trans (hba.mono (by omega)))
      have hnl : k.list[n].nd.length ≤ 6 := hlx.2
      clear hc hnx hba q3 e60 hlx
      generalize k.list[n] = x at *
      obtain ⟨xp, xv, xd⟩ := x
      simp only at hxf c0 c1 HWC HWO G1 G2 HMB HFB er2 ef2 HBB hnl
      subst hxf
      generalize workGo st fav xp k xd = wg at *
      obtain ⟨wk, we⟩ := wg
      simp only at HWC HWO G1 G2
      go_wp2_with fail
      refine HWC.out.mono ?_
      rintro e w2 ⟨rfl, hm2, hwk2⟩
      have hf2 := hm2.free _ HFB.out
      have er3 : w2.cell? ⟨w.heap.size + 1 + 1, 0, none⟩ = some (.slice none 0 0) := by rw [World.cell?_of_block hf2.1]; exact er2
      have ef3 : w2.frozen? ⟨w.heap.size + 1 + 1, 0, none⟩ = false := by rw [World.frozen?_of_block hf2.1]; exact ef2
      have hR2 := hf2.2.1
      have HM2 := hid' (HMB.out.trans hm2)
      have HW2 := hid' hwk2
      have HB2 := hid' (HBB.out.trans hm2.below)
      clear hm2 hwk2 hf2 er ef er2 ef2 e3 r3 c0 c1
      by_cases hwe : we = 0
      · subst hwe
        have HE : Hid (buildGoP st fav 60 0 ⟨[], [⟨[], .slice na site.length nc, site⟩], []⟩ = buildGoP st fav (60 - (n + 1)) (n + 1) wk) := by
          unfold Hid; rw [HEQ.out]
          have e : 60 - (n + 1) = 59 - n := by omega
          rw [e]; exact G1.out (by first | rfl | trivial)
        have hl1 : n + 1 ≤ wk.list.length := by have h1 := HWO.out.1.list; have h2 := HOK.out.list; have h3 := HWO.out.2.1; omega
        have hl2 : wk.list.length ≤ 41 := by have h1 := HWO.out.1.list; have h2 := HWO.out.1.tree; omega
        have HG : Hid (wk.gone.length ≤ 6 * (n + 1)) := by unfold Hid; have h1 := HWO.out.2.2; have h2 := HGN.out; omega
        clear G1 G2
        go_wp2
        go_roundw
        case rel => exact ⟨n + 1, wk, hl1, hl2, by go_num, HM2.out, HW2.out, HWO.out.1, HG.out, HE.out⟩
        case measure => simp [intOf] <;> omega
      · have HF2 : Hid (res = (none, we)) := by unfold Hid; exact HBE.out wk we (by rw [HEQ.out]; exact G2.out hwe) hwe
        have hbn : (we == 0) = false := beq_eq_false_iff_ne.2 hwe
        have hbn2 : (we != 0) = true := by simp [bne, hbn]
        clear G1 G2
        go_wp2
        refine bodyPost_ret (v := .tuple #[.agg #[.slice none 0 0], .int .i64 we]) (by simp [results, Tryd.results80, go_sem, *]) rfl ⟨none, 0, 0, by rw [HF2.out], HB2.out.setCell (show w.heap.size ≤ w.heap.size + 1 + 1 by omega) _, fun t ht => by rw [HF2.out] at ht; simp at ht⟩
    · have HK : Hid (res = (some (inUseP k.tree (.slice na site.length nc) site), 0)) := by
        unfold Hid
        refine HBO.out k ?_
        rw [HEQ.out]
        have e60 : 60 - n = 59 - n + 1 := by omega
        rw [e60]; exact bg_end hlt
      obtain ⟨v2, e2, r2⟩ := HWA.out.tree
      obtain ⟨ta, tc, rfl⟩ := r2.1.form
      have HR2 := hid' r2
      have HSN := hid' (HSM.out.moves HWK.out HMV.out)
      have HIU := hid' (fun w h h' => inUse_any' (.slice ta k.tree.length tc) k.tree (.slice na site.length nc) site w h h' (by have := HOK.out.tree; omega) (fun q hq => by have h1 := HOK.out.tp q hq; have h2 := HOK.out.tree; omega) (by omega))
      clear r2 r3 q3
      go_wp2_with fail
      refine (HIU.out _ HR2.out HSN.out).mono ?_
      rintro e w2 ⟨v', rfl, hin2, hb2⟩
      obtain ⟨ua, uc, rfl⟩ := hin2.1.form
      have er3 := ((bcell hb2).1 (w.heap.size + 1 + 1) 0 hRr).trans er
      have ef3 := ((bcell hb2).2 (w.heap.size + 1 + 1) 0 hRr).trans ef
      have hR2 : w.heap.size + 1 + 1 < w2.heap.size := by have := hb2.size; omega
      have HT3 : Hid (tagOf w2 (w.heap.size + 1 + 1) = some 96) := by unfold Hid; rw [tagOf_below hb2 hRr]; exact HTR2.out
      have HB2 := hid' (HBR.out.trans (hb2.mono (by have := hRr; omega)))
      have HI2 := hid' hin2
      clear hb2 hin2 er ef
      go_wp2
      refine bodyPost_ret (v := .tuple #[.agg #[.slice ua (inUseP k.tree (.slice na site.length nc) site).length uc], .int .i64 0]) (by simp [results, Tryd.results80, go_sem, *]) rfl ⟨ua, _, uc, by rw [HK.out], HB2.out.setCell (show w.heap.size ≤ w.heap.size + 1 + 1 by omega) _, fun t ht => ?_⟩
      rw [HK.out] at ht
      simp at ht
      subst ht
      exact HI2.out.off (But.set _ _ _ _) HT3.out (by decide) (by decide) (by decide)

end Hst
end Go.Proofs.YtecocheolbkneaaDoor
namespace Go.Proofs.YtecocheolbkneaaDoor
open Go.RowKit
namespace Hst

/-- What a call of a site changes: its block, and new ones. -/
structure SMv (b : Nat) (w w' : World) : Prop where
  os : w'.os = w.os
  tape : w'.tape = w.tape
  output : w'.output = w.output
  but : But b w w'
theorem SMv.of_below {b : Nat} {w w' : World} (h : Below w.heap.size w w') : SMv b w w' := ⟨h.os, h.tape, h.output, But.of_below h⟩
theorem SMv.trans {b : Nat} {w w1 w2 : World} (h : SMv b w w1) (k : SMv b w1 w2) : SMv b w w2 := ⟨k.os.trans h.os, k.tape.trans h.tape, k.output.trans h.output, h.but.trans k.but⟩
theorem SMv.set (w : World) (b o : Nat) (u : Value) : SMv b w (w.setCell ⟨b, o, none⟩ u) := ⟨rfl, rfl, rfl, But.set w b o u⟩

end Hst
end Go.Proofs.YtecocheolbkneaaDoor
namespace Go.Proofs.YtecocheolbkneaaDoor
open Go.RowKit
namespace Hst
set_option maxRecDepth 100000

structure SAt (w : World) (b : Nat) (s : SiteX) : Prop where
  lt : b < w.heap.size
  tag : tagOf w b = some 98
  stock : ∃ v, w.cell? ⟨b, 0, none⟩ = some v ∧ EntsIn w v s.stock
  needs : w.cell? ⟨b, 1, none⟩ = some s.nv ∧ NeedsIn w s.nv s.needs
  tree : ∃ v, w.cell? ⟨b, 2, none⟩ = some v ∧ PksIn w v s.tree
  f1 : w.frozen? ⟨b, 1, none⟩ = false
  f2 : w.frozen? ⟨b, 2, none⟩ = false
theorem SAt.below {w w' : World} {b : Nat} {s : SiteX} (h : SAt w b s) (hb : Below w.heap.size w w') : SAt w' b s := by
  obtain ⟨hc, hf⟩ := bcell hb
  obtain ⟨v0, e0, r0⟩ := h.stock
  obtain ⟨e1, r1⟩ := h.needs
  obtain ⟨v2, e2, r2⟩ := h.tree
  exact ⟨Nat.lt_of_lt_of_le h.lt hb.size, by rw [tagOf_below hb h.lt]; exact h.tag, ⟨v0, by rw [hc _ _ h.lt]; exact e0, r0.below hb⟩, ⟨by rw [hc _ _ h.lt]; exact e1, r1.below hb⟩, ⟨v2, by rw [hc _ _ h.lt]; exact e2, r2.below hb⟩, by rw [hf _ _ h.lt]; exact h.f1, by rw [hf _ _ h.lt]; exact h.f2⟩
/-- A site stays as it is while a block of another type is changed. -/
theorem SAt.keep {w w' : World} {b c : Nat} {s : SiteX} (h : SAt w b s) (hm : But c w w') (hne : b ≠ c) {t : TypeId} (ht : tagOf w c = some t) (h1 : t ≠ 86) (h2 : t ≠ 106) (h3 : t ≠ 128) (h4 : t ≠ 130) : SAt w' b s := by
  obtain ⟨v0, e0, r0⟩ := h.stock
  obtain ⟨e1, r1⟩ := h.needs
  obtain ⟨v2, e2, r2⟩ := h.tree
  exact ⟨Nat.lt_of_lt_of_le h.lt hm.size, by rw [hm.tags h.lt]; exact h.tag, ⟨v0, by rw [hm.cell h.lt hne]; exact e0, r0.off hm ht h1 h2 h3⟩, ⟨by rw [hm.cell h.lt hne]; exact e1, r1.off hm (odd_of ht h1 h2)⟩, ⟨v2, by rw [hm.cell h.lt hne]; exact e2, r2.off hm ht h1 h2 h4⟩, by rw [hm.froz h.lt hne]; exact h.f1, by rw [hm.froz h.lt hne]; exact h.f2⟩
/-- The site with other needs and another tree. -/
theorem SAt.set {w : World} {b : Nat} {s : SiteX} (h : SAt w b s) {nv tv : Value} {nd : List NeedX} {t : List PkX} (hn : NeedsIn w nv nd) (ht : PksIn w tv t) :
    SAt ((w.setCell ⟨b, 1, none⟩ nv).setCell ⟨b, 2, none⟩ tv) b ⟨s.stock, nd, nv, t⟩ := by
  have hbut := (But.set w b 1 nv).trans (But.set _ b 2 tv)
  obtain ⟨v0, e0, r0⟩ := h.stock
  obtain ⟨e1, r1⟩ := h.needs
  obtain ⟨v2, e2, r2⟩ := h.tree
  have f1 := h.f1; have f2 := h.f2
  have g0 : ((w.setCell ⟨b, 1, none⟩ nv).setCell ⟨b, 2, none⟩ tv).cell? ⟨b, 0, none⟩ = some v0 := by simp [go_sem, *]
  have g1 : ((w.setCell ⟨b, 1, none⟩ nv).setCell ⟨b, 2, none⟩ tv).cell? ⟨b, 1, none⟩ = some nv := by simp [go_sem, *]
  have g2 : ((w.setCell ⟨b, 1, none⟩ nv).setCell ⟨b, 2, none⟩ tv).cell? ⟨b, 2, none⟩ = some tv := by simp [go_sem, *]
  exact ⟨by simpa using h.lt, by rw [tag_set, tag_set]; exact h.tag, ⟨v0, g0, r0.off hbut h.tag (by decide) (by decide) (by decide)⟩, ⟨g1, hn.off hbut (odd_of h.tag (by decide) (by decide))⟩, ⟨tv, g2, ht.off hbut h.tag (by decide) (by decide) (by decide)⟩, by simp [go_sem, *], by simp [go_sem, *]⟩
theorem buildP_two (st : List EntX) (v : Value) (nd : List NeedX) (fav : List PkX) : (∃ e, ¬ e = 0 ∧ buildP st v nd fav = (none, e)) ∨ ∃ t, buildP st v nd fav = (some t, 0) := by
  unfold buildP
  rcases buildGoP st fav 60 0 ⟨[], [⟨[], v, nd⟩], []⟩ with ⟨k, e⟩
  by_cases h : e = 0
  · exact .inr ⟨_, by simp only; rw [if_pos h]⟩
  · exact .inl ⟨e, h, by simp only; rw [if_neg h]⟩

attribute [local go_sem ↓] Go.wp_at_zero Go.wp_at_succ

set_option maxHeartbeats 4000000 in
theorem sbuild_any (b : Nat) (s : SiteX) (nv : Value) (nd : List NeedX) (fv : Value) (fav : List PkX) (w : World) (hs : SAt w b s) (hn : NeedsIn w nv nd) (hf : PksIn w fv fav) (hst : StOk s.stock) (hnl : nd.length ≤ 6) (hfl : fav.length ≤ 1000) :
    Calls Tryd.prog 51 #[.pointer (some ⟨b, 0, none⟩), nv, .agg #[fv]] w fun e w' => e = .returned (.int .i64 (buildP s.stock nv nd fav).2) ∧ SMv b w w' ∧ SAt w' b (settleX s nv nd (buildP s.stock nv nd fav).1) := by
  obtain ⟨na, nc, rfl⟩ := hn.1.form
  obtain ⟨fa, fc, rfl⟩ := hf.1.form
  obtain ⟨v0, e0, r0⟩ := hs.stock
  obtain ⟨sa, sc, rfl⟩ := r0.1.form
  have hlt := hs.lt
  have HBD := hid' (fun w h1 h2 h3 => build_any' (.slice sa s.stock.length sc) (.slice na nd.length nc) (.slice fa fav.length fc) s.stock nd fav w h1 h2 h3 hst hnl hfl)
  have HTW := hid' (buildP_two s.stock (.slice na nd.length nc) nd fav)
  generalize buildP s.stock (.slice na nd.length nc) nd fav = res at *
  have hbw := (Below.refl w.heap.size w).alloc (Nat.le_refl _) (.cells #[.slice fa fav.length fc] 96)
  have HS1 := hid' (hs.below hbw)
  have HN1 := hid' (hn.below hbw)
  have HF1 := hid' (hf.below hbw)
  have HR1 := hid' (r0.below hbw)
  have HBW := hid' hbw
  have q0 : (w.alloc (.cells #[.slice fa fav.length fc] 96)).cell? ⟨w.heap.size, 0, none⟩ = some (.slice fa fav.length fc) := by simp
  have q1 := ((bcell hbw).1 b 0 hlt).trans e0
  have hsz : (w.alloc (.cells #[.slice fa fav.length fc] 96)).heap.size = w.heap.size + 1 := by simp
  clear hs hn hf e0 r0 hbw
  go_enter Tryd.func51, Tryd.ntmps51
  go_wp2
  generalize w.alloc (.cells #[.slice fa fav.length fc] 96) = V at *
  have hVw : w.heap.size < V.heap.size := by omega
  have hVb : b < V.heap.size := by omega
  have hVw2 : w.heap.size < V.heap.size + 1 := by omega
  have hVb2 : b < V.heap.size + 1 := by omega
  have n1 : b ≠ V.heap.size := by omega
  have n2 : w.heap.size ≠ V.heap.size := by omega
  have n3 : V.heap.size ≠ b := by omega
  have n4 : V.heap.size ≠ w.heap.size := by omega
  clear hsz
  go_cut [7, 8] (fun t8 t9 wc => ∃ (c : Nat) (ra : Option Addr) (rn rc : Nat), t8 = .pointer (some ⟨c, 0, none⟩) ∧ t9 = .int .i64 res.2 ∧ c < wc.heap.size ∧ c ≠ b ∧ wc.cell? ⟨c, 0, none⟩ = some (.slice ra rn rc) ∧ Below V.heap.size V wc ∧ Hid (∀ t, res.1 = some t → PksIn wc (.slice ra rn rc) t))
  case first =>
    go_region_held3 (fun w' => w'.cell? ⟨b, 0, none⟩ = some (.slice sa s.stock.length sc) ∧ w'.cell? ⟨w.heap.size, 0, none⟩ = some (.slice fa fav.length fc)) (go_keep)
      (first | (go_at_call 80; refine (HBD.out _ (by first | exact HR1.out.drew | exact HR1.out.below ((Below.refl _ _).alloc (Nat.le_refl _) _).drew) (by first | exact HN1.out.below (Below.refl _ _).drew | exact HN1.out.below ((Below.refl _ _).alloc (Nat.le_refl _) _).drew) (by first | exact HF1.out.drew | exact HF1.out.below ((Below.refl _ _).alloc (Nat.le_refl _) _).drew)).mono ?_; rintro e w2 ⟨ra, rn, rc, rfl, hb2, hin2⟩; have hz2 := (bcell hb2).1; have hz3 := (bcell hb2).2; simp at hz2 hz3))
    · have hb2' := ((Below.refl V.heap.size V).drew.trans (hb2.mono (by simp))).alloc (by have := hb2.size; simpa using this) (.cells #[.slice ra rn rc] 96)
      have hin3 : Hid (∀ t, res.1 = some t → PksIn (w2.alloc (.cells #[.slice ra rn rc] 96)) (.slice ra rn rc) t) := fun t ht => (hin2 t ht).below ((Below.refl _ _).alloc (Nat.le_refl _) _)
      have hzz : V.heap.size ≤ w2.heap.size := by have := hb2.size; simpa using this
      go_wp2_with fail
      go_meet
      exact ⟨w2.heap.size, ra, rn, rc, rfl, rfl, by simp, by omega, by simp, hb2', hin3⟩
    · have hb2' := ((((Below.refl V.heap.size V).alloc (Nat.le_refl _) (.cells #[.slice none 0 0] 96)).drew.trans (hb2.mono (by simp))).setCell (p := ⟨V.heap.size, 0, none⟩) (Nat.le_refl _) (.slice ra rn rc))
      have htg : tagOf w2 V.heap.size = some 96 := by
        rw [tagOf_below hb2 (by simp)]
        exact tag_new V #[.slice none 0 0] 96
      have hin3 : Hid (∀ t, res.1 = some t → PksIn (w2.setCell ⟨V.heap.size, 0, none⟩ (.slice ra rn rc)) (.slice ra rn rc) t) := fun t ht => (hin2 t ht).off (But.set w2 V.heap.size 0 (.slice ra rn rc)) htg (by decide) (by decide) (by decide)
      have HZ : Hid (V.heap.size < w2.heap.size) := by unfold Hid; have := hb2.size; simp at this; omega
      have hc0 := hz2 V.heap.size 0 (by omega)
      simp at hc0
      go_wp2_with fail
      go_meet
      exact ⟨V.heap.size, ra, rn, rc, rfl, rfl, by simpa using HZ.out, by omega, by simp [go_sem, hc0], hb2', hin3⟩
  case rest =>
    obtain ⟨c, ra, rn, rc, rfl, rfl, hc1, hc2, hc3, hb2, HIN⟩ := hcut
    have HS2 := hid' (HS1.out.below hb2)
    have HN2 := hid' (HN1.out.below hb2)
    have HM2 := hid' (SMv.of_below (b := b) (HBW.out.trans (hb2.mono (by omega))))
    have hz2 := hb2.size
    have hbc := HS2.out.lt
    obtain ⟨v2, t2, _⟩ := HS2.out.tree
    have t1 := HS2.out.needs.1
    have f1 := HS2.out.f1
    have f2 := HS2.out.f2
    clear hb2
    rcases HTW.out with ⟨e, he, hres⟩ | ⟨t, hres⟩
    · have HR := hid' hres
      rw [hres]
      clear hres HTW
      simp only
      have hbn : (e == 0) = false := beq_eq_false_iff_ne.2 he
      have hbn2 : (e != 0) = true := by simp [bne, hbn]
      go_wp2
      go_ret
      refine ⟨ret_int (by rw [HR.out]), HM2.out, ?_⟩
      rw [HR.out]; exact HS2.out
    · have HR := hid' hres
      have HTI := hid' (HIN.out t (by rw [hres]))
      rw [hres]
      clear hres HTW HIN
      simp only
      have HSS := hid' (HS2.out.set HN2.out HTI.out)
      have hcb : c ≠ b := hc2
      have hbc2 : b ≠ c := fun h => hc2 h.symm
      go_wp2
      go_ret
      refine ⟨ret_int (by rw [HR.out]), HM2.out.trans ((SMv.set _ b 1 _).trans (SMv.set _ b 2 _)), ?_⟩
      rw [HR.out]; exact HSS.out

end Hst
end Go.Proofs.YtecocheolbkneaaDoor
namespace Go.Proofs.YtecocheolbkneaaDoor
open Go.RowKit
namespace Hst
set_option maxRecDepth 100000

/-- What New answers. -/
def NewAns (l : Tx) (k : Int) (p : Option Addr) (base : Nat) (w' : World) : Prop :=
  (4000 < l.length ∧ k = 4 ∧ p = none) ∨ (l.length ≤ 4000 ∧ stockOkP l = false ∧ k = 5 ∧ p = none) ∨
  (l.length ≤ 4000 ∧ stockOkP l = true ∧ ∃ es, StockOf l es ∧ es.length ≤ 40 ∧ ((twGo [] es = true ∧ k = 6 ∧ p = none) ∨ (twGo [] es = false ∧ k = 0 ∧ ∃ b, p = some ⟨b, 0, none⟩ ∧ base ≤ b ∧ SAt w' b ⟨es, [], .slice none 0 0, []⟩ ∧ ∀ e ∈ es, e.name.length ≤ 3 ∧ e.nd.length ≤ 6)))

set_option maxHeartbeats 2000000 in
theorem new_any' (s : ByteArray) (w : World) :
    Calls Tryd.prog 44 #[.string s] w fun e w' => ∃ p k, e = .returned (.tuple #[.pointer p, .int .i64 k]) ∧ Below w.heap.size w w' ∧ NewAns (tx s) k p w.heap.size w' := by
  go_enter Tryd.func44, Tryd.ntmps44
  go_wp2_with fail
  refine (sparse_any s _).mono ?_
  rintro e w1 ⟨a, n, c, k, rfl, hb1, hans⟩
  have HB1 := hid' hb1
  have hz1 := hb1.size
  clear hb1
  rcases hans with ⟨h1, rfl⟩ | ⟨h1, h2, rfl⟩ | ⟨h1, h2, es, h3, h4, ⟨h5, rfl⟩ | ⟨h5, rfl, h6⟩⟩
  · have H := hid' (show NewAns (tx s) 4 none w.heap.size (w1.alloc (.cells #[.slice a n c] 93)) from .inl ⟨h1, rfl, rfl⟩)
    clear h1
    go_wp2
    go_ret2
    exact ⟨none, 4, rfl, HB1.out.alloc (by omega) _, H.out⟩
  · have H := hid' (show NewAns (tx s) 5 none w.heap.size (w1.alloc (.cells #[.slice a n c] 93)) from .inr (.inl ⟨h1, h2, rfl, rfl⟩))
    clear h1 h2
    go_wp2
    go_ret2
    exact ⟨none, 5, rfl, HB1.out.alloc (by omega) _, H.out⟩
  · have H := hid' (show NewAns (tx s) 6 none w.heap.size (w1.alloc (.cells #[.slice a n c] 93)) from .inr (.inr ⟨h1, h2, es, h3, h4, .inl ⟨h5, rfl, rfl⟩⟩))
    clear h1 h2 h3 h4 h5
    go_wp2
    go_ret2
    exact ⟨none, 6, rfl, HB1.out.alloc (by omega) _, H.out⟩
  · have HH := hid' (And.intro h1 (And.intro h2 (And.intro h3 (And.intro h4 h5))))
    have hba := ((Below.refl w1.heap.size w1).alloc (Nat.le_refl _) (.cells #[.slice a n c] 93)).alloc (by simp) (.cells #[.slice a n c, .slice none 0 0, .slice none 0 0] 98)
    have HE := hid' (h6.below hba)
    have HBA := hid' (HB1.out.trans (hba.mono hz1))
    clear h1 h2 h3 h4 h5 h6 hba
    go_wp2
    go_ret2
    refine ⟨some ⟨w1.heap.size + 1, 0, none⟩, 0, rfl, HBA.out, .inr (.inr ⟨HH.out.1, HH.out.2.1, es, HH.out.2.2.1, HH.out.2.2.2.1, .inr ⟨HH.out.2.2.2.2, rfl, w1.heap.size + 1, rfl, by omega, ⟨by simp, ?_, ⟨_, by simp [go_sem], HE.out⟩, ⟨by simp [go_sem], RowX.nil _ _ _ _, by simp⟩, ⟨.slice none 0 0, by simp [go_sem], RowX.nil _ _ _ _, by simp⟩, by simp [go_sem], by simp [go_sem]⟩, fun e he => ⟨(HE.out.2 e he).2.2.1, (HE.out.2 e he).2.1⟩⟩⟩)⟩
    have := tag_new (w1.alloc (.cells #[.slice a n c] 93)) #[.slice a n c, .slice none 0 0, .slice none 0 0] 98
    simpa using this

/-- What keeps a site within its bounds. -/
structure SOk (s : SiteX) : Prop where
  st : StOk s.stock
  nd : s.needs.length ≤ 6
  tr : s.tree.length ≤ 1000

set_option maxHeartbeats 2000000 in
theorem update_any' (b : Nat) (s : SiteX) (w : World) (hs : SAt w b s) (hok : SOk s) :
    Calls Tryd.prog 26 #[.pointer (some ⟨b, 0, none⟩)] w fun e w' => e = .returned (.int .i64 (buildP s.stock s.nv s.needs []).2) ∧ SMv b w w' ∧ SAt w' b (settleX s s.nv s.needs (buildP s.stock s.nv s.needs []).1) := by
  obtain ⟨e1, r1⟩ := hs.needs
  have hlt := hs.lt
  have hba := (Below.refl w.heap.size w).alloc (Nat.le_refl _) (.cells #[.slice none 0 0] 96)
  have HB := hid' (sbuild_any b s s.nv s.needs (.slice none 0 0) [] _ (hs.below hba) (r1.below hba) ⟨RowX.nil _ _ _ _, by simp⟩ hok.st hok.nd (by simp))
  have HM := hid' (SMv.of_below (b := b) hba)
  clear hs r1 hok hba
  obtain ⟨st, nd, nv, tr⟩ := s
  simp only at e1 HB
  generalize buildP st nv nd [] = res at *
  go_enter Tryd.func26, Tryd.ntmps26
  go_wp2_with fail
  refine HB.out.mono ?_
  rintro e w1 ⟨rfl, hm, hs1⟩
  have HR := hid' (And.intro (HM.out.trans hm) hs1)
  clear hm hs1
  go_wp2
  go_ret
  exact ⟨rfl, HR.out.1, HR.out.2⟩

/-- What Drop does. -/
def DropAns (s : SiteX) (name : Tx) (k : Int) (b : Nat) (w' : World) : Prop :=
  (hasN s.needs name = false ∧ k = 3 ∧ SAt w' b s) ∨
  (hasN s.needs name = true ∧ ∃ nv, k = (buildP s.stock nv (withoutN s.needs name) s.tree).2 ∧ SAt w' b (settleX s nv (withoutN s.needs name) (buildP s.stock nv (withoutN s.needs name) s.tree).1))
theorem withoutN_len (l : List NeedX) (name : Tx) : (withoutN l name).length ≤ l.length := List.length_filter_le _ _

end Hst
end Go.Proofs.YtecocheolbkneaaDoor
namespace Go.Proofs.YtecocheolbkneaaDoor
open Go.RowKit
namespace Hst
set_option maxRecDepth 100000

/-- What Add does. -/
def AddAns (s : SiteX) (l : Tx) (k : Int) (b : Nat) (w' : World) : Prop :=
  (needOkP l = false ∧ k = 5 ∧ SAt w' b s) ∨
  (∃ x, NeedOf l x ∧ ((6 ≤ (withoutN s.needs x.name).length ∧ k = 7 ∧ SAt w' b s) ∨
    (¬ 6 ≤ (withoutN s.needs x.name).length ∧ ∃ nv, k = (buildP s.stock nv (withN (withoutN s.needs x.name) x) s.tree).2 ∧ SAt w' b (settleX s nv (withN (withoutN s.needs x.name) x) (buildP s.stock nv (withN (withoutN s.needs x.name) x) s.tree).1))))

attribute [local go_sem ↓] Go.wp_at_zero Go.wp_at_succ

set_option maxHeartbeats 4000000 in
theorem add_any' (b : Nat) (s : SiteX) (p : ByteArray) (w : World) (hs : SAt w b s) (hok : SOk s) (hp : p.size ≤ 9223372036854775807) :
    Calls Tryd.prog 23 #[.pointer (some ⟨b, 0, none⟩), .string p] w fun e w' => ∃ k, e = .returned (.int .i64 k) ∧ SMv b w w' ∧ AddAns s (tx p) k b w' := by
  have HS := hid' hs
  have hlt := hs.lt
  have HOK := hid' hok
  have HAA : Hid (∀ k w', AddAns s (tx p) k b w' = ((needOkP (tx p) = false ∧ k = 5 ∧ SAt w' b s) ∨ (∃ x, NeedOf (tx p) x ∧ ((6 ≤ (withoutN s.needs x.name).length ∧ k = 7 ∧ SAt w' b s) ∨ (¬ 6 ≤ (withoutN s.needs x.name).length ∧ ∃ nv, k = (buildP s.stock nv (withN (withoutN s.needs x.name) x) s.tree).2 ∧ SAt w' b (settleX s nv (withN (withoutN s.needs x.name) x) (buildP s.stock nv (withN (withoutN s.needs x.name) x) s.tree).1)))))) := fun _ _ => rfl
  clear hs hok
  go_enter Tryd.func23, Tryd.ntmps23
  go_wp2_with fail
  refine (nparse_any p _ hp).mono ?_
  rintro e w1 ⟨x, rfl, hb1, ⟨xa, xn', xc, hxf⟩, hx⟩
  have HS1 := hid' (HS.out.below hb1)
  have HM1 := hid' (SMv.of_below (b := b) hb1)
  clear hb1
  rcases hok : needOkP (tx p) with _ | _
  · have HF := hid' hok
    obtain ⟨xn, xsp, xs, xt⟩ := x
    simp only at hxf
    subst hxf
    have hba := (Below.refl w1.heap.size w1).alloc (Nat.le_refl _) (.cells #[.string (bs xn), .slice xa xn' xc, .string (bs xt)] 86)
    have HS2 := hid' (HS1.out.below hba)
    have HM2 := hid' (HM1.out.trans (SMv.of_below (b := b) hba))
    clear hx hok hba
    go_wp2
    go_ret
    exact ⟨5, rfl, HM2.out, by rw [HAA.out]; exact .inl ⟨HF.out, rfl, HS2.out⟩⟩
  · obtain ⟨hx1, hx2⟩ := hx hok
    have HX1 := hid' hx1
    have hnm := hx2.nm
    obtain ⟨xn, xsp, xs, xt⟩ := x
    simp only at hxf hnm
    subst hxf
    have hba := (Below.refl w1.heap.size w1).alloc (Nat.le_refl _) (.cells #[.string (bs xn), .slice xa xn' xc, .string (bs xt)] 86)
    have HS2 := hid' (HS1.out.below hba)
    have HM2 := hid' (HM1.out.trans (SMv.of_below (b := b) hba))
    have HX2 := hid' (hx2.below hba)
    have HWN := hid' (fun w h => withoutN_any s.nv s.needs (bs xn) w h (by have := HOK.out.nd; omega))
    rw [tx_bs] at HWN
    obtain ⟨e1, r1⟩ := HS2.out.needs
    obtain ⟨na, nc, hnf⟩ := r1.1.form
    rw [hnf] at e1 r1 HWN
    have HR1 := hid' r1
    have q0 : (w1.alloc (.cells #[.string (bs xn), .slice xa xn' xc, .string (bs xt)] 86)).cell? ⟨w1.heap.size, 0, none⟩ = some (.string (bs xn)) := by simp
    have q1 : (w1.alloc (.cells #[.string (bs xn), .slice xa xn' xc, .string (bs xt)] 86)).cell? ⟨w1.heap.size, 1, none⟩ = some (.slice xa xn' xc) := by simp
    have q2 : (w1.alloc (.cells #[.string (bs xn), .slice xa xn' xc, .string (bs xt)] 86)).cell? ⟨w1.heap.size, 2, none⟩ = some (.string (bs xt)) := by simp
    have hsz : (w1.alloc (.cells #[.string (bs xn), .slice xa xn' xc, .string (bs xt)] 86)).heap.size = w1.heap.size + 1 := by simp
    have hb2 := HS2.out.lt
    clear hx hx1 hx2 hba hok r1 hnf
    go_wp2
    generalize w1.alloc (.cells #[.string (bs xn), .slice xa xn' xc, .string (bs xt)] 86) = V at *
    have hV1 : w1.heap.size < V.heap.size := by omega
    clear hsz
    go_region_held3 (fun w' => w'.cell? ⟨b, 1, none⟩ = some (.slice na s.needs.length nc) ∧ w'.cell? ⟨w1.heap.size, 0, none⟩ = some (.string (bs xn))) (go_keep)
      (first | (go_at_call 49; refine (HWN.out _ (by first | exact HR1.out | exact HR1.out.below (Below.refl _ _).drew)).mono ?_; rintro e w2 ⟨v2, rfl, hin2, hb2'⟩; obtain ⟨oa, oc, rfl⟩ := hin2.1.form; have hz2 := (bcell hb2').1; simp at hz2))
    have hb3 := (Below.refl V.heap.size V).drew.trans (hb2'.mono (by simp))
    have HS3 := hid' (HS2.out.below hb3)
    have HM3 := hid' (HM2.out.trans (SMv.of_below (b := b) hb3))
    have HX3 := hid' (HX2.out.below hb3)
    have hcc := (bcell hb3).1
    have p0 := (hcc w1.heap.size 0 hV1).trans q0
    have p1 := (hcc w1.heap.size 1 hV1).trans q1
    have p2 := (hcc w1.heap.size 2 hV1).trans q2
    have h12 : w1.heap.size < w2.heap.size := by have := hb3.size; omega
    have HI2 := hid' hin2
    have hb2s := HS3.out.lt
    clear hb2' hb3 hcc hz2 hin2 q0 q1 q2 e1 HR1
    by_cases h6 : 6 ≤ (withoutN s.needs xn).length
    · have h6' : (6 : Int) ≤ ((withoutN s.needs xn).length : Int) := by omega
      have H6 := hid' h6
      go_wp2
      go_ret
      exact ⟨7, rfl, HM3.out, by rw [HAA.out]; exact .inr ⟨_, HX1.out, .inl ⟨H6.out, rfl, HS3.out⟩⟩⟩
    · have h6' : ¬ (6 : Int) ≤ ((withoutN s.needs xn).length : Int) := by omega
      have H6 := hid' h6
      have HWI := hid' (withN_any (.slice oa (withoutN s.needs xn).length oc) (withoutN s.needs xn) ⟨xn, .slice xa xn' xc, xs, xt⟩ w2 HI2.out HX3.out (by omega))
      have hwl := withN_len (withoutN s.needs xn) ⟨xn, .slice xa xn' xc, xs, xt⟩
      go_wp2_with fail
      refine HWI.out.mono ?_
      rintro e w3 ⟨v3, rfl, hin3, hb3⟩
      have HS4 := hid' (HS3.out.below hb3)
      have HM4 := hid' (HM3.out.trans (SMv.of_below (b := b) hb3))
      obtain ⟨tv, t2, rt⟩ := HS4.out.tree
      obtain ⟨ta, tc, rfl⟩ := rt.1.form
      have hba := (Below.refl w3.heap.size w3).alloc (Nat.le_refl _) (.cells #[.slice ta s.tree.length tc] 96)
      have HB := hid' (sbuild_any b s v3 (withN (withoutN s.needs xn) ⟨xn, .slice xa xn' xc, xs, xt⟩) (.slice ta s.tree.length tc) s.tree _ (HS4.out.below hba) (hin3.below hba) (rt.below hba) HOK.out.st (by omega) HOK.out.tr)
      have HM5 := hid' (HM4.out.trans (SMv.of_below (b := b) hba))
      have hb4 := HS4.out.lt
      clear hb3 hin3 rt hba hwl p0 p1 p2
      go_wp2_with fail
      refine HB.out.mono ?_
      rintro e w4 ⟨rfl, hm, hs4⟩
      have HR := hid' (And.intro (HM5.out.trans hm) hs4)
      clear hm hs4
      go_wp2
      go_ret
      exact ⟨_, rfl, HR.out.1, by rw [HAA.out]; exact .inr ⟨_, HX1.out, .inr ⟨H6.out, v3, rfl, HR.out.2⟩⟩⟩

end Hst
end Go.Proofs.YtecocheolbkneaaDoor
namespace Go.Proofs.YtecocheolbkneaaDoor
open Go.RowKit
namespace Hst
set_option maxRecDepth 100000

theorem strs_snoc' (d : List Tx) (p : Tx) : (d ++ [p]).flatMap strC = d.flatMap strC ++ [Value.string (bs p)] := by simp [strC]

set_option maxHeartbeats 2000000 in
theorem ntext_any (v : Value) (l : List NeedX) (w : World) (hl : NeedsIn w v l) (hn : l.length ≤ 1000) :
    Calls Tryd.prog 73 #[v] w fun e w' => e = .returned (.string (bs (needsT l))) ∧ Below w.heap.size w w' := by
  obtain ⟨i0, hi, iz0, iz1, iz2⟩ := info_parts info_str
  obtain ⟨a, cap, rfl⟩ := hl.1.form
  have HL := hid' hl
  have HNT : Hid (needsT l = joinT [44] (l.map fun n => n.text)) := rfl
  clear hl
  go_enter Tryd.func73, Tryd.ntmps73
  go_wp2
  go_loopw [3, 8] (fun v i wr => ∃ (k : Nat) (d : List Tx), k ≤ l.length ∧ d.length ≤ k ∧ i = .int .i64 k ∧ wr.ownsRow w.heap.size 9 1 v d.length (d.flatMap strC) ∧ Below w.heap.size w wr ∧ Hid (d = (l.take k).map fun n => n.text)) (fun _ i _ => l.length - (intOf i).toNat)
  case atStart => exact ⟨0, [], Nat.zero_le _, by simp, rfl, World.ownsRow_nil _ _ _ _, Below.refl _ _, by simp [Hid]⟩
  case round =>
    obtain ⟨k, d, hk, hd, rfl, hown, hbel, hall⟩ := hrel
    have hz := hbel.size
    by_cases hlt : k < l.length
    · obtain ⟨g, o, cap', hv, hg, hc⟩ := (HL.out.below hbel).1.needs hlt
      simp at hv
      obtain ⟨rfl, rfl⟩ := hv
      obtain ⟨c0, c1, c2⟩ := hc k hlt
      obtain ⟨sa, sc, hsp⟩ := (HL.out.2 l[k] (List.getElem_mem hlt)).form
      have HF : Hid (d ++ [l[k].text] = (l.take (k + 1)).map fun n => n.text) := by unfold Hid; rw [hall.out, List.take_succ_eq_append_getElem hlt, List.map_append]; rfl
      clear hc hall
      generalize l[k] = x at *
      obtain ⟨xn, xsp, xs, xt⟩ := x
      simp only at hsp c0 c1 c2 HF
      subst hsp
      go_wp2_with (first | (at_builtin; refine wpList_append_lies _ rfl _ _ 35 rfl w.heap.size 9 i0 (.string ByteArray.empty) 1 16 Tryd.underlying35 hi iz0 iz1 iz2 rfl (by omega) _ _ _ rfl ((hown.alloc _).alloc _) ⟨wr.heap.size + 1, 0, none⟩ 1 1 [.string (bs xt)] rfl rfl (by have := cell_one_new (wr.alloc (.cells #[.string (bs xn), .slice sa xs.length sc, .string (bs xt)] 86)) (.string (bs xt)) 9; simpa using this) (one_str _) (by omega) (by unfold maxLen; omega) (by omega) (by simp; omega) (wr.heap.size + 2) (by simp) ?_; intro g1 cap1 w1 hown1 hgrow hat hlt1))
      have R := step_gen2 strC (x := xt) rfl hown hbel (((Below.refl _ _).alloc (Nat.le_refl _) _).alloc (by simp) _) hown1 hgrow
      clear hown1 hgrow hown
      go_wp2
      go_roundw
      case rel => exact ⟨k + 1, _, by omega, by simp; omega, by go_num, R.1, R.2, HF⟩
      case measure => simp [intOf] <;> omega
    · have HF : Hid (d = l.map fun n => n.text) := by unfold Hid; rw [hall.out, List.take_of_length_le (by omega)]
      have hrx := RowX.of_own (f := strC) hown
      have HJ := hid' (join_all _ d ⟨#[44]⟩ wr hrx (by omega) (by show 1 ≤ 1000; omega) (fun x hx => by
        have h := HF.out
        rw [h] at hx
        simp only [List.mem_map] at hx
        obtain ⟨n, hn', rfl⟩ := hx
        have := (HL.out.2 n hn').tx; omega))
      obtain ⟨da, dc, rfl⟩ := own_slice hown
      have HB := hid' hbel
      clear hall hown hrx hbel
      go_wp2_with fail
      refine HJ.out.mono ?_
      rintro e w1 ⟨rfl, hb1⟩
      have HB1 := hid' (HB.out.trans (hb1.mono hz))
      clear hb1
      go_wp2
      go_ret
      exact ⟨ret_str (by rw [HNT.out, HF.out]; rfl), HB1.out⟩

set_option maxHeartbeats 2000000 in
theorem needs_any' (b : Nat) (s : SiteX) (w : World) (hs : SAt w b s) (hok : SOk s) :
    Calls Tryd.prog 45 #[.pointer (some ⟨b, 0, none⟩)] w fun e w' => e = .returned (.string (bs (needsT s.needs))) ∧ Below w.heap.size w w' := by
  obtain ⟨e1, r1⟩ := hs.needs
  have hlt := hs.lt
  have HT := hid' (ntext_any s.nv s.needs w r1 (by have := hok.nd; omega))
  generalize s.nv = nv at *
  generalize needsT s.needs = tt at *
  clear hs hok r1
  go_enter Tryd.func45, Tryd.ntmps45
  go_wp2_with fail
  refine HT.out.mono ?_
  rintro e w1 ⟨rfl, hb1⟩
  have HB := hid' hb1
  clear hb1
  go_wp2
  go_ret
  exact ⟨rfl, HB.out⟩

end Hst
end Go.Proofs.YtecocheolbkneaaDoor
