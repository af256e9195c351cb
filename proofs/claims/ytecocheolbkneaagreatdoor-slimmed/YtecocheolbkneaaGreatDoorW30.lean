/- Kslimw, Kopen, Slimmed -/
import Derived.Test.YtecocheolbkneaaGreatDoorW24
import Derived.Test.YtecocheolbkneaaGreatDoorW28
import Derived.Test.YtecocheolbkneaaGreatDoorW29
import Derived.Test.YtecocheolbkneaaGreatDoorW10
import Derived.ProofKit
import Derived.OpenShut
import Derived.ShutString
import Derived.SizedLaws
import Derived.Carry
import Derived.Deep.Slices
import Derived.Test.YtecocheolbkneaaGreatDoorTie
import Derived.Test.YtecocheolbkneaaGreatDoorCards
import Derived.LaidMore
import Derived.Stop.Joined
import Derived.SevenTiedAt
namespace Go.Proofs.YtecocheolbkneaaGreatDoor
open Go.RowKit
namespace Hst
set_option maxRecDepth 100000

theorem addsK_len : ∀ (l : List WantX) (sd : SiteD) (site : List WantX), site.length + l.length ≤ 6 → (addsK sd site l).2.length ≤ 6
  | [], _, site, h => by rw [addsK]; simpa using h
  | y :: r, sd, site, h => by
    rw [addsK]
    split
    · exact addsK_len r _ _ (by simp at h ⊢; omega)
    · exact addsK_len r _ _ (by simp at h ⊢; omega)

set_option maxHeartbeats 8000000 in
theorem slimmed_any (a : Option Addr) (cap : Nat) (items : List ItemX) (la : Option Addr) (lc : Nat) (l : List WantX) (w : World) (hr : ItemsR w a cap items) (hn : items.length ≤ 9223372036854775807) (hwn : ∀ x ∈ items, x.wants.length ≤ 9223372036854775807) (hok : ∀ x ∈ items, ItemOk x) (hl : RowR w la l.length lc 4 (l.flatMap wantC)) (hln : l.length ≤ 9223372036854775807) (hlo : ∀ x ∈ l, WantOk x) :
    Calls Tryz.prog 6 #[.slice a items.length cap, .slice la l.length lc] w fun e w' => e = .returned (.bool true) ∧ Below w.heap.size w w' := by
  have HST := hid' (stocked_any a cap items w hr hn hwn hok)
  have HPL := hid' (fun w h => plain_any la lc l w h hln hlo)
  have HPK : Hid ((plainK l).length ≤ 6 ∧ ∀ x ∈ plainK l, WantOk x) := ⟨plainK_len l, fun x hx => hlo x (plainK_in hx)⟩
  have HL := hid' hl
  clear hr hn hwn hok hl hln hlo
  go_enter Tryz.func6, Tryz.ntmps6
  go_wp2_with fail
  refine HST.out.mono ?_
  rintro e w1 ⟨oa, oc, out, rfl, hix, hbare, h40, hio, hb1⟩
  have HIX := hid' hix
  have HW := hid' (items_well hbare h40 fun x hx => (hio x hx).2)
  have HIO := hid' hio
  have HB1 := hid' hb1
  have HSK := hid' (stock_any false entryF oa oc out 0 w1 hix.r h40 (by omega) (fun x hx => (hio x hx).2) (fun x hx => (hio x hx).1))
  rw [rotK_zero] at HSK
  have HNW := hid' (new_items false out HW.out)
  clear hix hbare hio hb1
  go_wp2_with fail
  refine HSK.out.mono ?_
  rintro e w2 ⟨rfl, hb2⟩
  have HB2 := hid' (HB1.out.trans (hb2.mono HB1.out.size))
  have HIX2 := hid' (HIX.out.below hb2)
  have HRD := hid' (ready_any (bs (stockT false true out)) _ w2 (by rw [tx_bs]; exact HNW.out))
  clear hb2
  generalize bs (stockT false true out) = tb at *
  go_wp2_with fail
  refine HRD.out.mono ?_
  rintro e w3 ⟨b, rfl, hbb, hk3, hb3⟩
  have HB3 := hid' (HB2.out.trans (hb3.mono HB2.out.size))
  have HIX3 := hid' (HIX2.out.below hb3)
  have HK3 := hid' hk3
  have HBB := hid' hbb
  have HPC := hid' (HPL.out w3 (HL.out.below HB3.out))
  clear hb3 hk3 hbb
  go_wp2_with fail
  refine HPC.out.mono ?_
  rintro e w4 ⟨pv, rfl, hown, hb4⟩
  obtain ⟨pa, pc, rfl⟩ := own_slice hown
  have HB4 := hid' (HB3.out.trans (hb4.mono HB3.out.size))
  have HK4 := hid' (HK3.out.below hb4)
  have HIX4 := hid' (HIX3.out.below hb4)
  have HWX := hid' (show WantsX w4 (.slice pa (plainK l).length pc) (plainK l) from RowX.of_own hown)
  obtain ⟨sx, hsx⟩ := HK3.out
  have HAS := hid' (adds_start HW.out hsx.2 l)
  have HAC := hid' (added_any b _ oa oc out pa pc (plainK l) w4 HK4.out HIX4.out (by omega) (fun x hx => (HIO.out x hx).2) (fun x hx => (HIO.out x hx).1) HWX.out (by have := HPK.out.1; omega) HPK.out.2 HAS.out.1)
  have HKI := hid' HAS.out.2
  have HSU : Hid (∀ x ∈ (addsK ⟨out.map fun x => entryD x false, [], []⟩ [] (plainK l)).2, x ∈ plainK l) := fun x hx => by
    rcases addsK_sub (plainK l) _ [] x hx with h | h
    · simp at h
    · exact h
  have HSN : Hid ((addsK ⟨out.map fun x => entryD x false, [], []⟩ [] (plainK l)).2.length ≤ 6) := by have := HKI.out.same; exact addsK_len _ _ _ (by have := HPK.out.1; simpa using this)
  have HZ : Hid (w.heap.size ≤ b ∧ w.heap.size ≤ w4.heap.size) := ⟨by have := HB2.out.size; have := HBB.out; omega, HB4.out.size⟩
  clear hb4 hown hsx HAS
  generalize (addsK ⟨out.map fun x => entryD x false, [], []⟩ [] (plainK l)).2 = site at *
  generalize (addsK ⟨out.map fun x => entryD x false, [], []⟩ [] (plainK l)).1 = sd at *
  generalize plainK l = pl at *
  go_wp2_with fail
  refine HAC.out.mono ?_
  rintro e w5 ⟨sa, sc, rfl, hsw, hk5, hm5⟩
  have HSW := hid' hsw
  have HK5 := hid' hk5
  have HM5 := hid' hm5
  have HB5 := hid' (HB4.out.trans (hm5.below_of HZ.out.1 HZ.out.2))
  have HIX5 := hid' (HIX4.out.off hm5.but HK4.out.tag)
  have HZ5 : Hid (w.heap.size ≤ b ∧ w.heap.size ≤ w5.heap.size) := ⟨HZ.out.1, HB5.out.size⟩
  clear hsw hk5 hm5
  obtain ⟨sx0, hsx0⟩ := HKI.out.same
  have HT0 := hid' (fun w h => ktree_any b sd w h)
  have HP0 : Hid ((splitK 59 (textR sd.stock sd.packs)).length = sd.packs.length) := by
    unfold Hid
    have := pieces_eq hsx0.shown
    unfold piecesK at this
    rw [this, List.length_map]
  have HS0 := hid' (fun w => ksplit_any (bs (textR sd.stock sd.packs)) 59 w (by rw [bs_size]; exact text_size hsx0))
  rw [tx_bs] at HS0
  have HSL := hid' (fun w h => kslim_any b sd w h)
  have hp40 := hsx0.l40
  clear hsx0
  generalize splitK 59 (textR sd.stock sd.packs) = d0 at *
  generalize bs (textR sd.stock sd.packs) = t0 at *
  go_wp2_with fail
  refine (HT0.out _ HK5.out).mono ?_
  rintro e w6 ⟨rfl, hb6⟩
  have HK6 := hid' (HK5.out.below hb6)
  have HM6 := hid' (SMv.of_below (b := b) hb6)
  clear hb6
  go_wp2_with fail
  refine (HS0.out _).mono ?_
  rintro e w7 ⟨dv, rfl, hrow, hb7⟩
  obtain ⟨da0, dc0, rfl, -⟩ := RowV hrow
  have HK7 := hid' (HK6.out.below hb7)
  have HM7 := hid' (HM6.out.trans (SMv.of_below (b := b) hb7))
  rw [HP0.out]
  clear hb7 hrow
  go_wp2_with fail
  refine (HSL.out _ HK7.out).mono ?_
  rintro e w8 ⟨rfl, hm8, hk8⟩
  obtain ⟨sx1, hat1, hsx1⟩ := hk8
  obtain ⟨hki1, hsp1, hsl1, hsn1⟩ := HKI.out.slim ⟨sx1, hsx1⟩
  have HK8 : Hid (KAt w8 b (slimR sd).1) := ⟨sx1, hat1, hsx1⟩
  have HM8 := hid' (HM7.out.trans hm8)
  have HKI1 := hid' hki1
  have HT1 := hid' (fun w h => ktree_any b (slimR sd).1 w h)
  have HD1 : Hid (splitK 59 (textR (slimR sd).1.stock (slimR sd).1.packs) = (slimR sd).1.packs.map (txtD (slimR sd).1.stock)) := by
    have := pieces_eq hsx1.shown
    unfold piecesK at this
    exact this
  have HTS : Hid ((textR (slimR sd).1.stock (slimR sd).1.packs).length ≤ 100000) := text_size hsx1
  have HS1 := hid' (fun w => ksplit_any (bs (textR (slimR sd).1.stock (slimR sd).1.packs)) 59 w (by rw [bs_size]; exact HTS.out))
  rw [tx_bs] at HS1
  have HSE := hid' (fun w h h1 h2 => settled_any b (slimR sd).1 oa oc out sa sc site w h h1 (by omega) (fun x hx => (HIO.out x hx).2) (fun x hx => (HIO.out x hx).1) h2 (by have := HPK.out.1; have := HSN.out; omega) (fun x hx => HPK.out.2 x (HSU.out x hx)) hki1.settled)
  have HSL2 := hid' (fun w h => kslim_any b (slimR sd).1 w h)
  rw [hsl1] at HSL2
  simp only at HSL2
  have HTH : Hid (∀ z ∈ (slimR sd).1.packs.map (txtD (slimR sd).1.stock), loadR (slimR sd).1 (thinK (textR (slimR sd).1.stock (slimR sd).1.packs) (cutR 64 z).1) = ((slimR sd).1, 12) ∧ (cutR 64 z).1.length ≤ 1000 ∧ z.length ≤ 100000) := fun z hz => by
    obtain ⟨p, hp, rfl⟩ := List.mem_map.1 hz
    rw [piece_cut hsx1.shown hp]
    simp only
    rw [thin_text hsx1.shown (hsx1.shown.ne p hp)]
    have hps := path_short hsx1.tr hsx1.fold p hp
    have h40' := hsx1.l40
    have hvl := verT_len (verOf (slimR sd).1.stock p.of).a.toNat (verOf (slimR sd).1.stock p.of).b.toNat (verOf (slimR sd).1.stock p.of).c.toNat
    refine ⟨hki1.thin hsp1 hp, by omega, ?_⟩
    unfold txtD vtx
    simp
    omega
  have HLE1 : Hid ((slimR sd).1.packs.length ≤ 40) := hsx1.l40
  have HTX : Hid (tx (bs (textR (slimR sd).1.stock (slimR sd).1.packs)) = textR (slimR sd).1.stock (slimR sd).1.packs) := tx_bs _
  have HTZ : Hid ((bs (textR (slimR sd).1.stock (slimR sd).1.packs)).size ≤ 100000) := by unfold Hid; rw [bs_size]; exact HTS.out
  have HLN : Hid (((slimR sd).1.packs.map (txtD (slimR sd).1.stock)).length = (slimR sd).1.packs.length) := by unfold Hid; rw [List.length_map]
  rw [hsn1]
  rw [HD1.out] at HS1
  have hbb1 : ((bs (textR (slimR sd).1.stock (slimR sd).1.packs)).toList == (bs (textR (slimR sd).1.stock (slimR sd).1.packs)).toList) = true := by simp
  generalize textR (slimR sd).1.stock (slimR sd).1.packs = tx1 at *
  generalize bs tx1 = t1 at *
  clear hm8 hat1 hsx1 hki1 hsp1 hsl1 hsn1 HSL HKI HT0 HS0
  generalize (slimR sd).1.packs.map (txtD (slimR sd).1.stock) = d1 at *
  have hle1 := HLE1.out
  have hln1 := HLN.out
  have HLN' := hid' hln1
  rw [← hln1]
  clear hln1
  generalize (slimR sd).1 = s1 at *
  generalize sd.packs.length = n0 at *
  have hq0 : ((d1.length : Nat) : Int) ≤ 40 := by have := HLN'.out; omega
  have HNN : Hid ((n0 : Int) - ((n0 : Int) - ((d1.length : Nat) : Int)) = ((d1.length : Nat) : Int)) := by unfold Hid; omega
  have hn1 : (n0 : Int) - ((d1.length : Nat) : Int) ≤ 40 := by omega
  have hn2 : -40 ≤ (n0 : Int) - ((d1.length : Nat) : Int) := by omega
  generalize (n0 : Int) - ((d1.length : Nat) : Int) = nn at *
  have hq := HNN.out
  go_wp2_with fail
  refine (HT1.out _ HK8.out).mono ?_
  rintro e w9 ⟨rfl, hb9⟩
  have HK9 := hid' (HK8.out.below hb9)
  have HM9 := hid' (HM8.out.trans (SMv.of_below (b := b) hb9))
  clear hb9
  go_wp2_with fail
  refine (HS1.out _).mono ?_
  rintro e wa ⟨dv, rfl, hrow, hba⟩
  have HROW := hid' hrow
  obtain ⟨da, dc, rfl, -⟩ := RowV hrow
  have HKA := hid' (HK9.out.below hba)
  have HMA := hid' (HM9.out.trans (SMv.of_below (b := b) hba))
  have HSC := hid' (HSE.out wa HKA.out (HIX5.out.off HMA.out.but HK5.out.tag).r (WantsX.r (RowX.off HSW.out HMA.out.but (by rw [HK5.out.tag]; decide))))
  clear hba hrow
  go_wp2_with fail
  refine HSC.out.mono ?_
  rintro e wb ⟨rfl, hbb⟩
  have HKB := hid' (HKA.out.below hbb)
  have HMB := hid' (SMv.of_below (b := b) hbb)
  clear hbb
  go_wp2_with fail
  refine (HSL2.out _ HKB.out).mono ?_
  rintro e wc ⟨rfl, hmc, hkc⟩
  have HKC := hid' hkc
  have HMC := hid' (HMB.out.trans hmc)
  have hdl : d1.length ≤ 40 := by have := HLN'.out; omega
  clear hmc hkc
  go_wp2
  go_loopw [14] (fun i wr => ∃ k : Nat, k ≤ d1.length ∧ i = .int .i64 k ∧ Hid (SMv b wa wr ∧ KAt wr b s1)) (fun i _ => d1.length - (intOf i).toNat)
  case atStart => exact ⟨0, Nat.zero_le _, rfl, HMC.out, HKC.out⟩
  case round =>
    obtain ⟨k, hk, rfl, hall⟩ := hrel
    have HMR := hid' hall.out.1
    have HKR := hid' hall.out.2
    clear hall
    by_cases hlt : k < d1.length
    · have hrow' : Row wr _ (.slice da d1.length dc) d1 := own_bt HROW.out HMR.out.but (by rw [HKA.out.tag]; decide)
      obtain ⟨da', dc', hv', hst⟩ := RowV hrow'
      simp at hv'
      obtain ⟨rfl, rfl⟩ := hv'
      obtain ⟨g, o, hv, hg, hc⟩ := hst.cells hlt
      subst hv
      have c0 := hc k hlt
      obtain ⟨hz1, hz2, hz3⟩ := HTH.out d1[k] (List.getElem_mem hlt)
      have HAH := hid' (fun w => ahead_any (bs d1[k]) 64 w (by rw [bs_size]; omega))
      rw [tx_bs] at HAH
      have HTN := hid' (fun w => thin_any t1 (bs (cutR 64 d1[k]).1) w HTZ.out (by rw [bs_size]; omega))
      rw [tx_bs, HTX.out] at HTN
      have HLD := hid' (fun w h => kload_any b s1 (bs (thinK tx1 (cutR 64 d1[k]).1)) w h)
      rw [tx_bs, hz1] at HLD
      simp only at HLD
      clear hc hst hrow' hz1 hz2 hz3
      generalize bs (thinK tx1 (cutR 64 d1[k]).1) = tb at *
      generalize bs (cutR 64 d1[k]).1 = pb at *
      generalize bs (cutR 64 d1[k]).2.1 = vb at *
      generalize d1[k] = z at *
      have k0 : (0 : Int) ≤ (k : Int) := by omega
      have k1 : (k : Int) < (d1.length : Int) := by omega
      go_wp2_with fail
      refine (HAH.out _).mono ?_
      rintro e x1 ⟨rfl, hb1⟩
      have HX1 := hid' (HKR.out.below hb1)
      have HY1 := hid' (HMR.out.trans (SMv.of_below (b := b) hb1))
      clear hb1 c0
      go_wp2_with fail
      refine (HTN.out _).mono ?_
      rintro e x2 ⟨rfl, hb2⟩
      have HX2 := hid' (HX1.out.below hb2)
      have HY2 := hid' (HY1.out.trans (SMv.of_below (b := b) hb2))
      clear hb2
      go_wp2_with fail
      refine (HLD.out _ HX2.out).mono ?_
      rintro e x3 ⟨rfl, hm3, hk3⟩
      have HX3 := hid' hk3
      have HY3 := hid' (HY2.out.trans hm3)
      clear hm3 hk3
      go_wp2_with fail
      refine (HT1.out _ HX3.out).mono ?_
      rintro e x4 ⟨rfl, hb4⟩
      have HX4 := hid' (HX3.out.below hb4)
      have HY4 := hid' (HY3.out.trans (SMv.of_below (b := b) hb4))
      clear hb4
      go_wp2
      go_roundw
      case rel => exact ⟨k + 1, by omega, by go_num, HY4.out, HX4.out⟩
      case measure => simp [intOf] <;> omega
    · have HV := hid' (HB5.out.trans ((HMA.out.trans HMR.out).below_of HZ5.out.1 HZ5.out.2))
      go_wp2
      go_ret
      exact ⟨rfl, HV.out⟩

end Hst
end Go.Proofs.YtecocheolbkneaaGreatDoor
namespace Go.Proofs.YtecocheolbkneaaGreatDoor
open Go.ChangeShapes Go.WideShapes Go.ChangeAt Go.RowKit Go.Deep
namespace Hst
set_option maxRecDepth 100000

theorem kcells_want : Tryz.prog.cellsOf 40 = 4 := by kernel_rfl
theorem kcells_item : Tryz.prog.cellsOf 62 = 4 := by kernel_rfl
theorem kcells_int : Tryz.prog.cellsOf 3 = 1 := by kernel_rfl
theorem kcells_wants : Tryz.prog.cellsOf 26 = 1 := by kernel_rfl
theorem klaidOut : laidOutB Tryz.prog = true := by kernel_rfl

section
variable {H : Type} {enc : TypeId × Value → H}
/-- One want, off its four cells. -/
theorem open_want {W : World} {sp : Nat → Bool} {n : Nat} {cs : List Value} {y : DataW H × List MemPlace} (h : DataW.trod enc Tryz.prog W 0 sp true n 40 cs = some y) : ∃ o : WantX, cs = wantC o ∧ WantOk o := by
  obtain ⟨xs, k, hk, hxy, hcl, hxl, hf⟩ := DataW.trod_struct Tryz.underlying40 h
  rw [kcells_want] at hcl
  match xs, hxl, cs, hcl with
  | [y0, y1, y2, y3], _, [v0, v1, v2, v3], _ =>
    have g0 := hf 0 _ rfl
    have g1 := hf 1 _ rfl
    have g2 := hf 2 _ rfl
    have g3 := hf 3 _ rfl
    simp [kcells_int] at g0 g1 g2 g3
    obtain ⟨a, ha, _, wa⟩ := DataW.trod_int Tryz.underlying3 g0
    obtain ⟨b, hb, _, wb⟩ := DataW.trod_int Tryz.underlying3 g1
    obtain ⟨c, hc, _, wc⟩ := DataW.trod_int Tryz.underlying3 g2
    obtain ⟨d, hd, _, wd⟩ := DataW.trod_int Tryz.underlying3 g3
    simp only [List.cons.injEq, and_true] at ha hb hc hd
    subst ha hb hc hd
    exact ⟨⟨a, b, c, d⟩, rfl, bounds_i64 wa, bounds_i64 wb, bounds_i64 wc, bounds_i64 wd⟩
/-- Rows of elements of four cells. -/
theorem row_of4 {α : Type} {W : World} {a : Addr} {len cap : Nat} (f : α → List Value) (hf : ∀ x, (f x).length = 4) (q : Nat → α) (hl : len ≤ cap) (hq : ∀ i, i < len → ∀ j, j < 4 → W.cell? (a.add (i * 4 + j)) = (f (q i))[j]?) : RowR W (some a) len cap 4 (((List.range len).map q).flatMap f) := by
  have hlen : ((List.range len).map q).length = len := by simp
  refine ⟨by rw [flat_len f 4 hf, hlen], hl, fun h0 => ?_⟩
  have hc0 := hq 0 h0 0 (by omega)
  simp only [Nat.zero_mul, Nat.add_zero] at hc0
  have hc0' : W.cell? (a.add 0) = some ((f (q 0))[0]'(by rw [hf]; omega)) := by rw [hc0, List.getElem?_eq_getElem]
  have hsp := World.cell?_spot hc0'
  have hbl := World.block_lt_of_cell? W _ hc0'
  obtain ⟨g, o, spot⟩ := a
  have hspot : spot = none := by simpa [Addr.add] using hsp
  subst hspot
  refine ⟨g, o, rfl, by simpa [Addr.add] using hbl, fun i hi => ?_⟩
  have hd : i / 4 < len := by omega
  have e1 : i = i / 4 * 4 + i % 4 := by omega
  have hc := hq (i / 4) hd (i % 4) (by omega)
  have hfl := flat_at f 4 hf ((List.range len).map q) (i / 4) (i % 4) (by rw [hlen]; exact hd) (by omega)
  rw [← e1] at hc hfl
  rw [hfl]
  have e2 : ((List.range len).map q)[i / 4]'(by rw [hlen]; exact hd) = q (i / 4) := by simp
  rw [e2, ← hc, add_plain]
/-- The wants. -/
theorem open_wants {W : World} {fuel : Nat} {cs : List Value} {x : DataW H × List MemPlace} (h : DataW.trod enc Tryz.prog W 0 (fun _ => true) true fuel 26 cs = some x) :
    ∃ (a : Option Addr) (cap : Nat) (l : List WantX), cs = [.slice a l.length cap] ∧ RowR W a l.length cap 4 (l.flatMap wantC) ∧ (∀ o ∈ l, WantOk o) ∧ l.length ≤ 9223372036854775807 := by
  rcases open_slice Tryz.underlying26 h with ⟨rfl, rfl⟩ | ⟨a, len, cap, m, n, D, Pl, rfl, _, hl, hm, hmm, rfl, hx⟩
  · exact ⟨none, 0, [], rfl, ⟨by simp, by simp, fun h => absurd h (by simp)⟩, by simp, by simp⟩
  · simp only [if_true] at hmm
    have each : ∀ i, i < len → ∃ o : WantX, WantOk o ∧ ∀ j, j < 4 → W.cell? (a.add (i * 4 + j)) = (wantC o)[j]? := fun i hi => by
      obtain ⟨cs', h1, h2⟩ := hx i (by omega)
      rw [kcells_want] at h1
      obtain ⟨_, _, hcell⟩ := World.cells?_some h1
      obtain ⟨o, rfl, hok⟩ := open_want h2
      exact ⟨o, hok, fun j hj => by have := hcell j hj; rw [add_add] at this; exact this⟩
    have hin : Inhabited WantX := ⟨⟨0, 0, 0, 0⟩⟩
    obtain ⟨q, hq⟩ := choose_lt each
    have hlen : ((List.range len).map q).length = len := by simp
    refine ⟨some a, cap, (List.range len).map q, by rw [hlen], ?_, fun o ho => ?_, ?_⟩
    · rw [hlen]
      exact row_of4 wantC wantC_len q hl fun i hi => (hq i hi).2
    · obtain ⟨i, hi, rfl⟩ := List.mem_map.1 ho
      exact (hq i (List.mem_range.1 hi)).1
    · rw [hlen]
      unfold maxLen at hm
      omega
/-- One item, off its four cells. -/
theorem open_item {W : World} {n : Nat} {cs : List Value} {y : DataW H × List MemPlace} (h : DataW.trod enc Tryz.prog W 0 (fun _ => true) true n 62 cs = some y) : ∃ o : ItemX, cs = itemC o ∧ ItemOk o ∧ ItemIn W o ∧ o.wants.length ≤ 9223372036854775807 := by
  obtain ⟨xs, k, hk, hxy, hcl, hxl, hf⟩ := DataW.trod_struct Tryz.underlying62 h
  rw [kcells_item] at hcl
  match xs, hxl, cs, hcl with
  | [y0, y1, y2, y3], _, [v0, v1, v2, v3], _ =>
    have g0 := hf 0 _ rfl
    have g1 := hf 1 _ rfl
    have g2 := hf 2 _ rfl
    have g3 := hf 3 _ rfl
    simp [kcells_int, kcells_wants] at g0 g1 g2 g3
    obtain ⟨a, ha, _, wa⟩ := DataW.trod_int Tryz.underlying3 g0
    obtain ⟨b, hb, _, wb⟩ := DataW.trod_int Tryz.underlying3 g1
    obtain ⟨c, hc, _, wc⟩ := DataW.trod_int Tryz.underlying3 g2
    obtain ⟨va, vc, l, hd, hrow, hok, hle⟩ := open_wants g3
    simp only [List.cons.injEq, and_true] at ha hb hc hd
    subst ha hb hc hd
    exact ⟨⟨a, b, c, .slice va l.length vc, l⟩, rfl, ⟨bounds_i64 wa, bounds_i64 wb, bounds_i64 wc, hok⟩, ⟨va, vc, rfl, hrow⟩, hle⟩
/-- The items. -/
theorem open_items {W : World} {fuel : Nat} {cs : List Value} {x : DataW H × List MemPlace} (h : DataW.trod enc Tryz.prog W 0 (fun _ => true) true fuel 25 cs = some x) :
    ∃ (a : Option Addr) (cap : Nat) (l : List ItemX), cs = [.slice a l.length cap] ∧ ItemsR W a cap l ∧ (∀ o ∈ l, ItemOk o) ∧ l.length ≤ 9223372036854775807 ∧ ∀ o ∈ l, o.wants.length ≤ 9223372036854775807 := by
  rcases open_slice Tryz.underlying25 h with ⟨rfl, rfl⟩ | ⟨a, len, cap, m, n, D, Pl, rfl, _, hl, hm, hmm, rfl, hx⟩
  · exact ⟨none, 0, [], rfl, ⟨⟨by simp, by simp, fun h => absurd h (by simp)⟩, by simp⟩, by simp, by simp, by simp⟩
  · simp only [if_true] at hmm
    have each : ∀ i, i < len → ∃ o : ItemX, (ItemOk o ∧ ItemIn W o ∧ o.wants.length ≤ 9223372036854775807) ∧ ∀ j, j < 4 → W.cell? (a.add (i * 4 + j)) = (itemC o)[j]? := fun i hi => by
      obtain ⟨cs', h1, h2⟩ := hx i (by omega)
      rw [kcells_item] at h1
      obtain ⟨_, _, hcell⟩ := World.cells?_some h1
      obtain ⟨o, rfl, hok⟩ := open_item h2
      exact ⟨o, hok, fun j hj => by have := hcell j hj; rw [add_add] at this; exact this⟩
    have hin : Inhabited ItemX := ⟨⟨0, 0, 0, .slice none 0 0, []⟩⟩
    obtain ⟨q, hq⟩ := choose_lt each
    have hlen : ((List.range len).map q).length = len := by simp
    have hmem : ∀ o ∈ (List.range len).map q, ItemOk o ∧ ItemIn W o ∧ o.wants.length ≤ 9223372036854775807 := fun o ho => by
      obtain ⟨i, hi, rfl⟩ := List.mem_map.1 ho
      exact (hq i (List.mem_range.1 hi)).1
    refine ⟨some a, cap, (List.range len).map q, by rw [hlen], ⟨?_, fun o ho => (hmem o ho).2.1⟩, fun o ho => (hmem o ho).1, ?_, fun o ho => (hmem o ho).2.2⟩
    · rw [hlen]
      exact row_of4 itemC itemC_len q hl fun i hi => (hq i hi).2
    · rw [hlen]
      unfold maxLen at hm
      omega
end

end Hst
end Go.Proofs.YtecocheolbkneaaGreatDoor
namespace Go.Proofs.YtecocheolbkneaaGreatDoor
namespace SlimmedRow
open Go.ChangeShapes Go.WideShapes Go.ChangeAt Go.RowKit
set_option linter.unusedVariables false

theorem own : ownKnob Tryz.prog.godebug = none := by kernel_rfl
theorem door_met (os : Os) (args : Array Value) : laidMetH Tryz.prog Rows.slimmedRow.laid ((World.doorLaid Tryz.prog 4000 os).forCall (fun _ _ => 0) ⟨#[], args, []⟩).memory :=
  laidMetH_of_parts3 (fuel := 8) (laidMet_of_run' 8 (by kernel_rfl) (by kernel_rfl)) (by kernel_rfl) (by kernel_rfl)

set_option maxRecDepth 100000 in
theorem lifted (os : Os) (started : os.Started) (H : Type) (enc : TypeId × Value → H) :
    ReturnsInHanded {} Tryz.checked os 6 .any (fun w args => (Rows.slimmedSpec.pre enc Tryz.prog Tryz.f6 [] false w args ∧ laidMetH Tryz.prog Rows.slimmedRow.laid w) ∧ sizedMet enc Tryz.prog Tryz.f6 (OpenSpec.ofChange Rows.slimmedSpec) false w args)
      (Rows.slimmedSpec.post enc Tryz.prog Tryz.f6 false true false false) := by
  refine returnsInHanded_of_change_and (C := Tryz.checked) (X := fun w _ => laidMetH Tryz.prog Rows.slimmedRow.laid w) (fun _ _ _ hh h => h.of_heap hh) own started (by kernel_rfl) Tryz.func6
    (ChangeSpec.witness_shaped (enc := enc) (C := Tryz.checked) (os := os) (X := fun w _ => laidMetH Tryz.prog Rows.slimmedRow.laid w) false (World.doorLaid Tryz.prog 4000 os) #[.slice none 0 0, .slice none 0 0] 8 rfl (World.shaped_of_RefB (by kernel_rfl) (by kernel_rfl)) (by kernel_rfl) (by kernel_rfl) (by kernel_rfl) (door_met os _)) ?_
  intro W base args ds gs before hval0 hW _ hsz0 hL _
  have hval : ∀ (j : Nat) t v, Tryz.f6.params[j]? = some t → args[j]? = some v → Value.okWide Tryz.prog W .any base t v := hval0
  have hW' := hW
  obtain ⟨p, q, hA0, hV, rfl, hfz, hnd⟩ := hW
  have hA : DataW.TrodAll enc Tryz.prog W 0 (fun _ => true) true Tryz.f6.params.toList args.toList ds p := hA0
  rw [Tryz.params6] at hA hval
  obtain ⟨v0, v1, d0, d1, p0, p1, rfl, rfl, rfl, h0, h1⟩ := trodAll_two hA
  obtain ⟨rfl, rfl⟩ := trodVars_none hV
  have h0k := h0
  have h1k := h1
  obtain ⟨fuel, hf⟩ := h0
  obtain ⟨fuel1, hf1⟩ := h1
  clear hA0 hval0 hsz0
  simp only [List.append_nil] at hW'
  have hlt0 : ∀ x ∈ p0, x.block < W.heap.size := fun x hx => by simpa using hW'.lt x (by simp [hx])
  have hlt1 : ∀ x ∈ p1, x.block < W.heap.size := fun x hx => by simpa using hW'.lt x (by simp [hx])
  obtain ⟨a0, len, cap, rfl⟩ := okWide_slice Tryz.underlying25 (hval 0 25 v0 rfl rfl)
  obtain ⟨a1, len1, cap1, rfl⟩ := okWide_slice Tryz.underlying26 (hval 1 26 v1 rfl rfl)
  obtain ⟨a, cap', items, hcs, hrow, hok, hn, hwn⟩ := Hst.open_items hf
  obtain ⟨a', cap1', l, hcs1, hrow1, hok1, hn1⟩ := Hst.open_wants hf1
  have hcs' : Value.slice a0 len cap = .slice a items.length cap' := by simpa [Value.cells] using hcs
  have hcs1' : Value.slice a1 len1 cap1 = .slice a' l.length cap1' := by simpa [Value.cells] using hcs1
  rw [hcs'] at h0k ⊢
  rw [hcs1'] at h1k ⊢
  refine (Hst.slimmed_any a cap' items a' cap1' l W hrow hn hwn hok hrow1 hn1 hok1).mono fun e W' ⟨he, bel⟩ => ?_
  subst he
  rw [hcs', hcs1'] at hW'
  exact ⟨_, rfl, _, _, _, [], _, [], hW', trodAll_mk1 (shut_bool Tryz.underlying4 _), trodAll_mk2 (Below.trod Hst.klaidOut (by kernel_rfl) (of_decide_eq_true (by kernel_rfl)) h0k bel hlt0) (Below.trod Hst.klaidOut (by kernel_rfl) (of_decide_eq_true (by kernel_rfl)) h1k bel hlt1), rfl, bel.frame _, fun h => by cases h⟩

theorem over : Rows.SlimmedSaid :=
  OpenClaim.holds_of_wide 6 Tryz.f6 rfl rfl rfl rfl rfl rfl rfl ⟨rfl, rfl, rfl, rfl, rfl⟩ rfl rfl rfl rfl rfl (by kernel_rfl) Tryz.func6 (by kernel_rfl)
    (of_decide_eq_true (by kernel_rfl)) (by unfold Func.isWrapper; first | (rw [if_pos (by decide +kernel)]; kernel_rfl) | (rw [if_neg (by decide +kernel)]; exact ⟨rfl, rfl⟩))
    (fun os started H enc _ => lifted os started H enc)
end SlimmedRow

theorem slimmed_card : Rows.SlimmedCardSaid :=
  Claim7.holds_tied_plain_at .later [] [.data, .data, .data] true (true, "01bd52512ddeda93910ca64f7734339120873d78affce1afc02667bb3a607191") false
    SlimmedRow.over (fun _ h => by cases h) (by kernel_rfl) (fun _ h => by cases h) slimmed_row_tie rfl ⟨rfl, rfl⟩ (by kernel_rfl) rfl
    (fun f fn hf hfn => by
      obtain rfl : f = 6 := Option.some.inj ((show Tryz.prog.funcNamed "hoist/hoistkeep.Slimmed" = some 6 by kernel_rfl).symm.trans hf) |>.symm
      obtain rfl : fn = Tryz.f6 := (Option.some.inj (Tryz.func6.symm.trans hfn)).symm
      exact ⟨by kernel_rfl, fun j t ht => by
        rw [Tryz.params6] at ht
        have hm : t ∈ [25, 26] := by simpa using Array.mem_of_getElem? ht
        have hall : ([25, 26].all fun u => !Tryz.prog.wantsStandIn u) = true := by kernel_rfl
        exact (show Tryz.prog.wantsStandIn t = false by simpa using List.all_eq_true.1 hall t hm)⟩)
    (by kernel_rfl)
#print axioms slimmed_card
end Go.Proofs.YtecocheolbkneaaGreatDoor
