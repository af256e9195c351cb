/- Kshufw, Kopen, Shuffled -/
import Derived.Test.YtecocheolbkneaaDoorW23
import Derived.Test.YtecocheolbkneaaDoorW24
import Derived.Test.YtecocheolbkneaaDoorW10
import Derived.ProofKit
import Derived.OpenShut
import Derived.ShutString
import Derived.SizedLaws
import Derived.Carry
import Derived.Deep.Slices
import Derived.Test.YtecocheolbkneaaDoorTie
import Derived.Test.YtecocheolbkneaaDoorCards
import Derived.LaidMore
import Derived.Stop.Joined
import Derived.SevenTiedAt
namespace Go.Proofs.YtecocheolbkneaaDoor
open Go.RowKit
namespace Hst
set_option maxRecDepth 100000

theorem KAt.apart {w w' : World} {b c : Nat} {s : SiteD} (h : KAt w b s) (hm : But c w w') (hne : b ≠ c) (ht : tagOf w c = some 98) : KAt w' b s := by
  obtain ⟨sx, h1, h2⟩ := h
  exact ⟨sx, h1.keep hm hne ht (by decide) (by decide) (by decide) (by decide), h2⟩
/-- The contract of entry, with the needs turned round. -/
theorem entryB (x : ItemX) (w : World) (h : ItemIn w x) (hl : x.wants.length ≤ 1000) (hok : ItemOk x) : Calls Tryd.prog 46 #[itemV x, .bool true] w fun e w' => e = .returned (.string (bs (entryK x true))) ∧ Below w.heap.size w w' := by
  obtain ⟨va, vc, e, hr⟩ := h
  unfold itemV
  rw [e]
  exact entryb_any x va vc w hr hl hok
theorem rot_mem {m : List ItemX} {r : Nat} {x : ItemX} (h : x ∈ rotK m r) : x ∈ m := by
  obtain ⟨i, hi, rfl⟩ := List.mem_iff_getElem.1 h
  rw [rotK_len] at hi
  obtain ⟨j, hj, _, e⟩ := rotK_at m r i hi
  rw [List.getElem?_eq_getElem (by rw [rotK_len]; exact hi)] at e
  rw [Option.some.inj e]
  exact List.getElem_mem _
theorem rot_well {m : List ItemX} (h : ItemsWell m) {r : Nat} (hr : r < m.length) : ItemsWell (rotK m r) := by
  refine ⟨by rw [rotK_len]; exact h.le, fun x hx => h.six x (rot_mem hx), ?_, fun x hx => h.own x (rot_mem hx)⟩
  rw [List.pairwise_iff_getElem]
  intro i j hi hj hij
  have hi' := hi
  have hj' := hj
  rw [rotK_len] at hi' hj'
  obtain ⟨a, ha, ea, e1⟩ := rotK_at m r i hi'
  obtain ⟨b, hb, eb, e2⟩ := rotK_at m r j hj'
  rw [List.getElem?_eq_getElem hi] at e1
  rw [List.getElem?_eq_getElem hj] at e2
  rw [Option.some.inj e1, Option.some.inj e2]
  have hne : a ≠ b := fun e => by
    have h1 := turn_onto hr hi'
    have h2 := turn_onto hr hj'
    rw [← ea, e, eb, h2] at h1
    omega
  rcases Nat.lt_or_ge a b with hlt | hge
  · exact List.pairwise_iff_getElem.1 h.two a b ha hb hlt
  · exact fun e => List.pairwise_iff_getElem.1 h.two b a hb ha (by omega) e.symm

set_option maxHeartbeats 8000000 in
theorem shuffled_any (a : Option Addr) (cap : Nat) (items : List ItemX) (la : Option Addr) (lc : Nat) (l : List WantX) (from' : Int) (w : World) (hr : ItemsR w a cap items) (hn : items.length ≤ 9223372036854775807) (hwn : ∀ x ∈ items, x.wants.length ≤ 9223372036854775807) (hok : ∀ x ∈ items, ItemOk x) (hl : RowR w la l.length lc 4 (l.flatMap wantC)) (hln : l.length ≤ 9223372036854775807) (hlo : ∀ x ∈ l, WantOk x) (hfr : Raw from') :
    Calls Tryd.prog 7 #[.slice a items.length cap, .slice la l.length lc, .int .i64 from'] w fun e w' => e = .returned (.bool true) ∧ Below w.heap.size w w' := by
  have HST := hid' (stocked_any a cap items w hr hn hwn hok)
  have HPL := hid' (fun w h => plain_any la lc l w h hln hlo)
  have HPK : Hid ((plainK l).length ≤ 6 ∧ ∀ x ∈ plainK l, WantOk x) := ⟨plainK_len l, fun x hx => hlo x (plainK_in hx)⟩
  have HL := hid' hl
  have HPI := hid' (fun (n : Nat) w (h0 : 0 < n) (hm : n ≤ 40) => kpick_any from' n w hfr h0 (by omega))
  clear hr hn hwn hok hl hln hlo hfr
  go_enter Tryd.func7, Tryd.ntmps7
  go_wp2_with fail
  refine HST.out.mono ?_
  rintro e w1 ⟨oa, oc, out, rfl, hix, hbare, h40, hio, hb1⟩
  have HIX := hid' hix
  have HW := hid' (items_well hbare h40 fun x hx => (hio x hx).2)
  have HIO := hid' hio
  have HB1 := hid' hb1
  by_cases hout : out.length = 0
  · have ho0 : (out.length : Int) = 0 := by omega
    clear hix hbare hio hb1 hout
    go_wp2
    go_ret
    exact ⟨rfl, HB1.out⟩
  · have ho0 : ¬ (out.length : Int) = 0 := by omega
    have HSK := hid' (stock_any false entryF oa oc out 0 w1 hix.r h40 (by omega) (fun x hx => (hio x hx).2) (fun x hx => (hio x hx).1))
    rw [rotK_zero] at HSK
    have HNW := hid' (new_items false out HW.out)
    have hpos : 0 < out.length := by omega
    have HPR := hid' (pickZ_lt from' hpos)
    have HPC := hid' (fun w => HPI.out out.length w hpos h40)
    clear hix hbare hio hb1 hout
    go_wp2_with fail
    refine HSK.out.mono ?_
    rintro e w2 ⟨rfl, hb2⟩
    have HB2 := hid' (HB1.out.trans (hb2.mono HB1.out.size))
    have HIX2 := hid' (HIX.out.below hb2)
    have HRD := hid' (ready_any (bs (stockT false true out)) _ w2 (by rw [tx_bs]; exact HNW.out))
    clear hb2
    generalize bs (stockT false true out) = tb at *
    go_wp2_with fail
    refine HRD.out.mono ?_
    rintro e w3 ⟨b1, rfl, hbb1, hk3, hb3⟩
    have HB3 := hid' (HB2.out.trans (hb3.mono HB2.out.size))
    have HIX3 := hid' (HIX2.out.below hb3)
    have HK3 := hid' hk3
    have HBB1 : Hid (w.heap.size ≤ b1) := by unfold Hid; have := HB2.out.size; omega
    clear hb3 hk3 hbb1
    generalize hpz : pickZ from' out.length = r at *
    clear hpz
    go_wp2_with fail
    refine (HPC.out _).mono ?_
    rintro e w4 ⟨rfl, rfl⟩
    have HSK2 := hid' (stock_any true entryB oa oc out r w4 HIX3.out.r h40 (by have := HPR.out; omega) (fun x hx => (HIO.out x hx).2) (fun x hx => (HIO.out x hx).1))
    have HNW2 := hid' (new_items true (rotK out r) (rot_well HW.out HPR.out))
    go_wp2_with fail
    refine HSK2.out.mono ?_
    rintro e w5 ⟨rfl, hb5⟩
    have HB5 := hid' (HB3.out.trans (hb5.mono HB3.out.size))
    have HK5 := hid' (HK3.out.below hb5)
    have HRD2 := hid' (ready_any (bs (stockT true true (rotK out r))) _ w5 (by rw [tx_bs]; exact HNW2.out))
    clear hb5
    generalize bs (stockT true true (rotK out r)) = tb2 at *
    go_wp2_with fail
    refine HRD2.out.mono ?_
    rintro e w6 ⟨b2, rfl, hbb2, hk6, hb6⟩
    have HB6 := hid' (HB5.out.trans (hb6.mono HB5.out.size))
    have HX6 := hid' (HK5.out.below hb6)
    have HY6 := hid' hk6
    have HNE : Hid (b1 ≠ b2 ∧ w.heap.size ≤ b2) := ⟨by have := HK5.out.lt; omega, by have := HB5.out.size; omega⟩
    obtain ⟨sx, hsx⟩ := HK3.out
    have HSH := hid' (shuf_items HW.out HPR.out hsx.2.st)
    have HSS : Hid (ShufS (turnK out.length r) ⟨out.map fun x => entryD x false, [], []⟩ ⟨(rotK out r).map fun x => entryD x true, [], []⟩) := ⟨HSH.out, by intro p hp; simp at hp, rfl, rfl⟩
    have HPC2 := hid' (HPL.out w6 (HL.out.below HB6.out))
    clear hb6 hk6 hbb2 hsx
    generalize turnK out.length r = sg at *
    generalize (⟨out.map fun x => entryD x false, [], []⟩ : SiteD) = sd0 at *
    generalize (⟨(rotK out r).map fun x => entryD x true, [], []⟩ : SiteD) = sd0' at *
    go_wp2_with fail
    refine HPC2.out.mono ?_
    rintro e w7 ⟨pv, rfl, hown, hb7⟩
    obtain ⟨pa, pc, rfl⟩ := own_slice hown
    have HB7 := hid' (HB6.out.trans (hb7.mono HB6.out.size))
    have HX7 := hid' (HX6.out.below hb7)
    have HY7 := hid' (HY6.out.below hb7)
    have HWX := hid' (show WantsX w7 (.slice pa (plainK l).length pc) (plainK l) from RowX.of_own hown)
    have hpl := HPK.out.1
    clear hb7 hown
    generalize plainK l = pl at *
    go_wp2
    go_loopw [11] (fun i wr => ∃ (k : Nat) (sd sd' : SiteD), k ≤ pl.length + 1 ∧ i = .int .i64 k ∧ Hid (Below w.heap.size w wr ∧ KAt wr b1 sd ∧ KAt wr b2 sd' ∧ ShufS sg sd sd' ∧ WantsX wr (.slice pa pl.length pc) pl)) (fun i _ => pl.length + 1 - (intOf i).toNat)
    case atStart => exact ⟨0, sd0, sd0', Nat.zero_le _, rfl, HB7.out, HX7.out, HY7.out, HSS.out, HWX.out⟩
    case round =>
      obtain ⟨k, sd, sd', hk, rfl, hall⟩ := hrel
      have HBE := hid' hall.out.1
      have HKA := hid' hall.out.2.1
      have HKB := hid' hall.out.2.2.1
      have HSF := hid' hall.out.2.2.2.1
      have HWR := hid' hall.out.2.2.2.2
      clear hall
      by_cases hle : k ≤ pl.length
      · have k0 : (0 : Int) ≤ (k : Int) := by omega
        have kle : (k : Int) ≤ (pl.length : Int) := by omega
        by_cases hlt : k < pl.length
        · have klt : (k : Int) < (pl.length : Int) := by omega
          obtain ⟨g, o, hpa, hg, hc⟩ := (WantsX.r HWR.out).wants rfl hlt
          subst hpa
          have hgb1 : ¬ g = b1 := fun e => by
            have h1 := WantsX.tag HWR.out (by omega)
            rw [e, HKA.out.tag] at h1
            exact absurd h1 (by decide)
          have hgb2 : ¬ g = b2 := fun e => by
            have h1 := WantsX.tag HWR.out (by omega)
            rw [e, HKB.out.tag] at h1
            exact absurd h1 (by decide)
          have hxo := HPK.out.2 pl[k] (List.getElem_mem hlt)
          have HNA := hid' (fun w => names_any pl[k].name w hxo.name)
          have HRN := hid' (fun w => rng_any pl[k] w hxo)
          have HSM : Hid (bs (nameK pl[k].name) ++ bs (rngK pl[k]) = bs (wantT pl[k])) := bs_append _ _
          have s1 : (bs (nameK pl[k].name)).size ≤ 3 := by rw [bs_size]; exact nameK_len _
          have s2 : (bs (rngK pl[k])).size ≤ 9 := by rw [bs_size]; exact rngK_len _
          have HAD1 := hid' (fun w h => kadd_any b1 sd (bs (wantT pl[k])) w h (by rw [bs_size]; have := wantT_len pl[k]; omega))
          have HAD2 := hid' (fun w h => kadd_any b2 sd' (bs (wantT pl[k])) w h (by rw [bs_size]; have := wantT_len pl[k]; omega))
          rw [tx_bs] at HAD1 HAD2
          have HSA := hid' (HSF.out.add (wantT pl[k]))
          rw [HSA.out.1] at HAD2
          have HSHN := hid' HSA.out.2
          have HTX := hid' HSHN.out.text
          have HCL : Hid (∀ W : World, ∀ b, SMv b wr W → tagOf wr b = some 98 → W.cell? ⟨g, o + k * 4, none⟩ = some (.int .i64 pl[k].name) ∧ W.cell? ⟨g, o + k * 4 + 1, none⟩ = some (.int .i64 pl[k].sign) ∧ W.cell? ⟨g, o + k * 4 + 2, none⟩ = some (.int .i64 pl[k].major) ∧ W.cell? ⟨g, o + k * 4 + 3, none⟩ = some (.int .i64 pl[k].minor)) := fun W b hW ht => by
            obtain ⟨g', o', ha', _, hc'⟩ := (WantsX.r (RowX.off HWR.out hW.but (by rw [ht]; decide))).wants rfl hlt
            simp at ha'
            obtain ⟨rfl, rfl⟩ := ha'
            exact hc' k hlt
          clear hxo hc HSA
          generalize hA : addR sd (wantT pl[k]) = ar at *
          generalize hB : addR sd' (wantT pl[k]) = br at *
          clear hA hB
          generalize bs (wantT pl[k]) = bw at *
          generalize bs (nameK pl[k].name) = t1 at *
          generalize bs (rngK pl[k]) = t2 at *
          generalize pl[k] = x at *
          obtain ⟨xn, xs, xa, xi⟩ := x
          simp only at HCL HNA HRN
          obtain ⟨SA, ae⟩ := ar
          obtain ⟨SB, be⟩ := br
          simp only at HAD1 HAD2 HSHN HTX
          obtain ⟨c0, c1, c2, c3⟩ := HCL.out wr b1 (SMv.of_below (Below.refl _ _)) HKA.out.tag
          have hgw1 : g < wr.heap.size := hg
          have HKD1 := hid' (HKA.out.below (w' := wr.drew) (Below.refl _ _).drew)
          go_wp2
          have m1 : ¬ (9223372036854775807 < t1.size + t2.size) := by omega
          have hsm : t1 ++ t2 = bw := HSM.out
          go_region_held3 (fun w' => w'.cell? ⟨g, o + k * 4, none⟩ = some (.int .i64 xn) ∧ w'.cell? ⟨g, o + k * 4 + 1, none⟩ = some (.int .i64 xs) ∧ w'.cell? ⟨g, o + k * 4 + 2, none⟩ = some (.int .i64 xa) ∧ w'.cell? ⟨g, o + k * 4 + 3, none⟩ = some (.int .i64 xi)) (go_keep)
            (first | (go_at_call 24; refine (HNA.out _).mono ?_; rintro e x3 ⟨rfl, hb3⟩; have hy3 := (bcell hb3).1; have hz3 := hb3.size; simp at hz3; have z0 := hy3 g (o + k * 4) (by simp; omega); have z1 := hy3 g (o + k * 4 + 1) (by simp; omega); have z2 := hy3 g (o + k * 4 + 2) (by simp; omega); have z3 := hy3 g (o + k * 4 + 3) (by simp; omega); simp at z0 z1 z2 z3) | (go_at_call 25; refine (HRN.out _).mono ?_; rintro e x4 ⟨rfl, hb4⟩; have hy4 := (bcell hb4).1; have hz4 := hb4.size; have y0 := hy4 g (o + k * 4) (by omega); have y1 := hy4 g (o + k * 4 + 1) (by omega); have y2 := hy4 g (o + k * 4 + 2) (by omega); have y3 := hy4 g (o + k * 4 + 3) (by omega)) | (go_at_call 23; refine (HAD1.out _ ((HKD1.out.below hb3).below hb4)).mono ?_; rintro e x5 ⟨rfl, hm5, hk5⟩; have u0 := hm5.but.cell (g := g) (o := o + k * 4) (by omega) hgb1; have u1 := hm5.but.cell (g := g) (o := o + k * 4 + 1) (by omega) hgb1; have u2 := hm5.but.cell (g := g) (o := o + k * 4 + 2) (by omega) hgb1; have u3 := hm5.but.cell (g := g) (o := o + k * 4 + 3) (by omega) hgb1))
          have hbq1 := ((Below.refl wr.heap.size wr).drew.trans (hb3.mono (by simp))).trans (hb4.mono (by have := hb3.size; simpa using this))
          have hm1 := (SMv.of_below (b := b1) hbq1).trans hm5
          have HKN1 := hid' hk5
          have HMN1 := hid' hm1
          clear hb3 hb4 hm5 hk5 hy3 hy4 z0 z1 z2 z3 y0 y1 y2 y3 u0 u1 u2 u3 c0 c1 c2 c3 m1 hbq1 hm1
          have HKB5 := hid' (HKB.out.apart HMN1.out.but (fun e => HNE.out.1 e.symm) HKA.out.tag)
          have hg5 : g < x5.heap.size := by have := HMN1.out.but.size; omega
          have HBE5 := hid' (HBE.out.trans (HMN1.out.below_of HBB1.out HBE.out.size))
          have HWX5 := hid' (RowX.off HWR.out HMN1.out.but (by rw [HKA.out.tag]; decide))
          obtain ⟨c0, c1, c2, c3⟩ := HCL.out x5 b1 HMN1.out HKA.out.tag
          have hgw2 : g < x5.heap.size := hg5
          have HKD2 := hid' (HKB5.out.below (w' := x5.drew) (Below.refl _ _).drew)
          go_wp2
          have m1 : ¬ (9223372036854775807 < t1.size + t2.size) := by omega
          have hsm : t1 ++ t2 = bw := HSM.out
          go_region_held3 (fun w' => w'.cell? ⟨g, o + k * 4, none⟩ = some (.int .i64 xn) ∧ w'.cell? ⟨g, o + k * 4 + 1, none⟩ = some (.int .i64 xs) ∧ w'.cell? ⟨g, o + k * 4 + 2, none⟩ = some (.int .i64 xa) ∧ w'.cell? ⟨g, o + k * 4 + 3, none⟩ = some (.int .i64 xi)) (go_keep)
            (first | (go_at_call 24; refine (HNA.out _).mono ?_; rintro e x6 ⟨rfl, hb3⟩; have hy3 := (bcell hb3).1; have hz3 := hb3.size; simp at hz3; have z0 := hy3 g (o + k * 4) (by simp; omega); have z1 := hy3 g (o + k * 4 + 1) (by simp; omega); have z2 := hy3 g (o + k * 4 + 2) (by simp; omega); have z3 := hy3 g (o + k * 4 + 3) (by simp; omega); simp at z0 z1 z2 z3) | (go_at_call 25; refine (HRN.out _).mono ?_; rintro e x7 ⟨rfl, hb4⟩; have hy4 := (bcell hb4).1; have hz4 := hb4.size; have y0 := hy4 g (o + k * 4) (by omega); have y1 := hy4 g (o + k * 4 + 1) (by omega); have y2 := hy4 g (o + k * 4 + 2) (by omega); have y3 := hy4 g (o + k * 4 + 3) (by omega)) | (go_at_call 23; refine (HAD2.out _ ((HKD2.out.below hb3).below hb4)).mono ?_; rintro e x8 ⟨rfl, hm5, hk5⟩; have u0 := hm5.but.cell (g := g) (o := o + k * 4) (by omega) hgb2; have u1 := hm5.but.cell (g := g) (o := o + k * 4 + 1) (by omega) hgb2; have u2 := hm5.but.cell (g := g) (o := o + k * 4 + 2) (by omega) hgb2; have u3 := hm5.but.cell (g := g) (o := o + k * 4 + 3) (by omega) hgb2))
          have hbq2 := ((Below.refl x5.heap.size x5).drew.trans (hb3.mono (by simp))).trans (hb4.mono (by have := hb3.size; simpa using this))
          have hm2 := (SMv.of_below (b := b2) hbq2).trans hm5
          have HKN2 := hid' hk5
          have HMN2 := hid' hm2
          clear hb3 hb4 hm5 hk5 hy3 hy4 z0 z1 z2 z3 y0 y1 y2 y3 u0 u1 u2 u3 c0 c1 c2 c3 m1 hbq2 hm2
          have HKX := hid' (HKN1.out.apart HMN2.out.but HNE.out.1 HKB5.out.tag)
          have HKY := HKN2
          have HBEN := hid' (HBE5.out.trans (HMN2.out.below_of HNE.out.2 HBE5.out.size))
          have HWXN := hid' (RowX.off HWX5.out HMN2.out.but (by rw [HKB5.out.tag]; decide))
          have HT1 := hid' (fun w h => ktree_any b1 SA w h)
          have HT2 := hid' (fun w h => ktree_any b2 SB w h)
          rw [HTX.out] at HT2
          have hbb : ((bs (textR SA.stock SA.packs)).toList == (bs (textR SA.stock SA.packs)).toList) = true := by simp
          generalize bs (textR SA.stock SA.packs) = tt at *
          go_wp2_with fail
          refine (HT1.out _ HKX.out).mono ?_
          rintro e y1 ⟨rfl, hy1⟩
          have HKX1 := hid' (HKX.out.below hy1)
          have HKY1 := hid' (HKY.out.below hy1)
          have HWX1 := hid' (RowX.below HWXN.out hy1)
          have HBE1 := hid' (HBEN.out.trans (hy1.mono HBEN.out.size))
          clear hy1
          go_wp2_with fail
          refine (HT2.out _ HKY1.out).mono ?_
          rintro e y2 ⟨rfl, hy2⟩
          have HKX2 := hid' (HKX1.out.below hy2)
          have HKY2 := hid' (HKY1.out.below hy2)
          have HWX2 := hid' (RowX.below HWX1.out hy2)
          have HBE2 := hid' (HBE1.out.trans (hy2.mono HBE1.out.size))
          clear hy2
          go_wp2
          go_roundw
          case rel => exact ⟨k + 1, SA, SB, by omega, by go_num, HBE2.out, HKX2.out, HKY2.out, HSHN.out, HWX2.out⟩
          case measure => simp [intOf] <;> omega
        · have klt : ¬ (k : Int) < (pl.length : Int) := by omega
          have HUP1 := hid' (fun w h => kupdate_any b1 sd w h)
          have HUP2 := hid' (fun w h => kupdate_any b2 sd' w h)
          have HSA := hid' HSF.out.update
          rw [HSA.out.1] at HUP2
          have HSHN := hid' HSA.out.2
          have HTX := hid' HSHN.out.text
          clear HSA
          generalize updateR sd = ar at *
          generalize updateR sd' = br at *
          obtain ⟨SA, ae⟩ := ar
          obtain ⟨SB, be⟩ := br
          simp only at HUP1 HUP2 HSHN HTX
          go_wp2_with fail
          refine (HUP1.out _ HKA.out).mono ?_
          rintro e x5 ⟨rfl, hm5, hk5⟩
          have HKN1 := hid' hk5
          have HKB5 := hid' (HKB.out.apart hm5.but (fun e => HNE.out.1 e.symm) HKA.out.tag)
          have HBE5 := hid' (HBE.out.trans (hm5.below_of HBB1.out HBE.out.size))
          have HWX5 := hid' (RowX.off HWR.out hm5.but (by rw [HKA.out.tag]; decide))
          clear hm5 hk5
          go_wp2_with fail
          refine (HUP2.out _ HKB5.out).mono ?_
          rintro e x8 ⟨rfl, hm8, hk8⟩
          have HKY := hid' hk8
          have HKX := hid' (HKN1.out.apart hm8.but HNE.out.1 HKB5.out.tag)
          have HBEN := hid' (HBE5.out.trans (hm8.below_of HNE.out.2 HBE5.out.size))
          have HWXN := hid' (RowX.off HWX5.out hm8.but (by rw [HKB5.out.tag]; decide))
          clear hm8 hk8
          have HT1 := hid' (fun w h => ktree_any b1 SA w h)
          have HT2 := hid' (fun w h => ktree_any b2 SB w h)
          rw [HTX.out] at HT2
          have hbb : ((bs (textR SA.stock SA.packs)).toList == (bs (textR SA.stock SA.packs)).toList) = true := by simp
          generalize bs (textR SA.stock SA.packs) = tt at *
          go_wp2_with fail
          refine (HT1.out _ HKX.out).mono ?_
          rintro e y1 ⟨rfl, hy1⟩
          have HKX1 := hid' (HKX.out.below hy1)
          have HKY1 := hid' (HKY.out.below hy1)
          have HWX1 := hid' (RowX.below HWXN.out hy1)
          have HBE1 := hid' (HBEN.out.trans (hy1.mono HBEN.out.size))
          clear hy1
          go_wp2_with fail
          refine (HT2.out _ HKY1.out).mono ?_
          rintro e y2 ⟨rfl, hy2⟩
          have HKX2 := hid' (HKX1.out.below hy2)
          have HKY2 := hid' (HKY1.out.below hy2)
          have HWX2 := hid' (RowX.below HWX1.out hy2)
          have HBE2 := hid' (HBE1.out.trans (hy2.mono HBE1.out.size))
          clear hy2
          go_wp2
          go_roundw
          case rel => exact ⟨k + 1, SA, SB, by omega, by go_num, HBE2.out, HKX2.out, HKY2.out, HSHN.out, HWX2.out⟩
          case measure => simp [intOf] <;> omega
      · have kle : ¬ (k : Int) ≤ (pl.length : Int) := by omega
        go_wp2
        go_ret
        exact ⟨rfl, HBE.out⟩

end Hst
end Go.Proofs.YtecocheolbkneaaDoor
namespace Go.Proofs.YtecocheolbkneaaDoor
open Go.ChangeShapes Go.WideShapes Go.ChangeAt Go.RowKit Go.Deep
namespace Hst
set_option maxRecDepth 100000

theorem kcells_want : Tryd.prog.cellsOf 52 = 4 := by kernel_rfl
theorem kcells_item : Tryd.prog.cellsOf 58 = 4 := by kernel_rfl
theorem kcells_int : Tryd.prog.cellsOf 3 = 1 := by kernel_rfl
theorem kcells_wants : Tryd.prog.cellsOf 39 = 1 := by kernel_rfl
theorem klaidOut : laidOutB Tryd.prog = true := by kernel_rfl

section
variable {H : Type} {enc : TypeId × Value → H}
/-- One want, off its four cells. -/
theorem open_want {W : World} {sp : Nat → Bool} {n : Nat} {cs : List Value} {y : DataW H × List MemPlace} (h : DataW.trod enc Tryd.prog W 0 sp true n 52 cs = some y) : ∃ o : WantX, cs = wantC o ∧ WantOk o := by
  obtain ⟨xs, k, hk, hxy, hcl, hxl, hf⟩ := DataW.trod_struct Tryd.underlying52 h
  rw [kcells_want] at hcl
  match xs, hxl, cs, hcl with
  | [y0, y1, y2, y3], _, [v0, v1, v2, v3], _ =>
    have g0 := hf 0 _ rfl
    have g1 := hf 1 _ rfl
    have g2 := hf 2 _ rfl
    have g3 := hf 3 _ rfl
    simp [kcells_int] at g0 g1 g2 g3
    obtain ⟨a, ha, _, wa⟩ := DataW.trod_int Tryd.underlying3 g0
    obtain ⟨b, hb, _, wb⟩ := DataW.trod_int Tryd.underlying3 g1
    obtain ⟨c, hc, _, wc⟩ := DataW.trod_int Tryd.underlying3 g2
    obtain ⟨d, hd, _, wd⟩ := DataW.trod_int Tryd.underlying3 g3
    simp only [List.cons.injEq, and_true] at ha hb hc hd
    subst ha hb hc hd
    exact ⟨⟨a, b, c, d⟩, rfl, bounds_i64 wa, bounds_i64 wb, bounds_i64 wc, bounds_i64 wd⟩
/-- Rows of elements of four cells. -/
theorem row_of4 {α : Type} {W : World} {a : Addr} {len cap : Nat} (f : α → List Value) (hf : ∀ x, (f x).length = 4) (q : Nat → α) (hl : len ≤ cap) (hq : ∀ i, i < len → ∀ j, j < 4 → W.cell? (a.add (i * 4 + j)) = (f (q i))[j]?) : RowR W (some a) len cap 4 (((List.range len).map q).flatMap f) := by
  have hlen : ((List.range len).map q).length = len := by simp
  refine ⟨by rw [flat_len f 4 hf, hlen], hl, fun h0 => ?_⟩
  have hc0 := hq 0 h0 0 (by omega)
  simp only [Nat.zero_mul, Nat.add_zero] at hc0
  have hc0' : W.cell? (a.add 0) = some ((f (q 0))[0]'(by rw [hf]; omega)) := by rw [hc0, List.getElem?_eq_getElem]
  have hsp := World.cell?_spot hc0'
  have hbl := World.block_lt_of_cell? W _ hc0'
  obtain ⟨g, o, spot⟩ := a
  have hspot : spot = none := by simpa [Addr.add] using hsp
  subst hspot
  refine ⟨g, o, rfl, by simpa [Addr.add] using hbl, fun i hi => ?_⟩
  have hd : i / 4 < len := by omega
  have e1 : i = i / 4 * 4 + i % 4 := by omega
  have hc := hq (i / 4) hd (i % 4) (by omega)
  have hfl := flat_at f 4 hf ((List.range len).map q) (i / 4) (i % 4) (by rw [hlen]; exact hd) (by omega)
  rw [← e1] at hc hfl
  rw [hfl]
  have e2 : ((List.range len).map q)[i / 4]'(by rw [hlen]; exact hd) = q (i / 4) := by simp
  rw [e2, ← hc, add_plain]
/-- The wants. -/
theorem open_wants {W : World} {fuel : Nat} {cs : List Value} {x : DataW H × List MemPlace} (h : DataW.trod enc Tryd.prog W 0 (fun _ => true) true fuel 39 cs = some x) :
    ∃ (a : Option Addr) (cap : Nat) (l : List WantX), cs = [.slice a l.length cap] ∧ RowR W a l.length cap 4 (l.flatMap wantC) ∧ (∀ o ∈ l, WantOk o) ∧ l.length ≤ 9223372036854775807 := by
  rcases open_slice Tryd.underlying39 h with ⟨rfl, rfl⟩ | ⟨a, len, cap, m, n, D, Pl, rfl, _, hl, hm, hmm, rfl, hx⟩
  · exact ⟨none, 0, [], rfl, ⟨by simp, by simp, fun h => absurd h (by simp)⟩, by simp, by simp⟩
  · simp only [if_true] at hmm
    have each : ∀ i, i < len → ∃ o : WantX, WantOk o ∧ ∀ j, j < 4 → W.cell? (a.add (i * 4 + j)) = (wantC o)[j]? := fun i hi => by
      obtain ⟨cs', h1, h2⟩ := hx i (by omega)
      rw [kcells_want] at h1
      obtain ⟨_, _, hcell⟩ := World.cells?_some h1
      obtain ⟨o, rfl, hok⟩ := open_want h2
      exact ⟨o, hok, fun j hj => by have := hcell j hj; rw [add_add] at this; exact this⟩
    have hin : Inhabited WantX := ⟨⟨0, 0, 0, 0⟩⟩
    obtain ⟨q, hq⟩ := choose_lt each
    have hlen : ((List.range len).map q).length = len := by simp
    refine ⟨some a, cap, (List.range len).map q, by rw [hlen], ?_, fun o ho => ?_, ?_⟩
    · rw [hlen]
      exact row_of4 wantC wantC_len q hl fun i hi => (hq i hi).2
    · obtain ⟨i, hi, rfl⟩ := List.mem_map.1 ho
      exact (hq i (List.mem_range.1 hi)).1
    · rw [hlen]
      unfold maxLen at hm
      omega
/-- One item, off its four cells. -/
theorem open_item {W : World} {n : Nat} {cs : List Value} {y : DataW H × List MemPlace} (h : DataW.trod enc Tryd.prog W 0 (fun _ => true) true n 58 cs = some y) : ∃ o : ItemX, cs = itemC o ∧ ItemOk o ∧ ItemIn W o ∧ o.wants.length ≤ 9223372036854775807 := by
  obtain ⟨xs, k, hk, hxy, hcl, hxl, hf⟩ := DataW.trod_struct Tryd.underlying58 h
  rw [kcells_item] at hcl
  match xs, hxl, cs, hcl with
  | [y0, y1, y2, y3], _, [v0, v1, v2, v3], _ =>
    have g0 := hf 0 _ rfl
    have g1 := hf 1 _ rfl
    have g2 := hf 2 _ rfl
    have g3 := hf 3 _ rfl
    simp [kcells_int, kcells_wants] at g0 g1 g2 g3
    obtain ⟨a, ha, _, wa⟩ := DataW.trod_int Tryd.underlying3 g0
    obtain ⟨b, hb, _, wb⟩ := DataW.trod_int Tryd.underlying3 g1
    obtain ⟨c, hc, _, wc⟩ := DataW.trod_int Tryd.underlying3 g2
    obtain ⟨va, vc, l, hd, hrow, hok, hle⟩ := open_wants g3
    simp only [List.cons.injEq, and_true] at ha hb hc hd
    subst ha hb hc hd
    exact ⟨⟨a, b, c, .slice va l.length vc, l⟩, rfl, ⟨bounds_i64 wa, bounds_i64 wb, bounds_i64 wc, hok⟩, ⟨va, vc, rfl, hrow⟩, hle⟩
/-- The items. -/
theorem open_items {W : World} {fuel : Nat} {cs : List Value} {x : DataW H × List MemPlace} (h : DataW.trod enc Tryd.prog W 0 (fun _ => true) true fuel 38 cs = some x) :
    ∃ (a : Option Addr) (cap : Nat) (l : List ItemX), cs = [.slice a l.length cap] ∧ ItemsR W a cap l ∧ (∀ o ∈ l, ItemOk o) ∧ l.length ≤ 9223372036854775807 ∧ ∀ o ∈ l, o.wants.length ≤ 9223372036854775807 := by
  rcases open_slice Tryd.underlying38 h with ⟨rfl, rfl⟩ | ⟨a, len, cap, m, n, D, Pl, rfl, _, hl, hm, hmm, rfl, hx⟩
  · exact ⟨none, 0, [], rfl, ⟨⟨by simp, by simp, fun h => absurd h (by simp)⟩, by simp⟩, by simp, by simp, by simp⟩
  · simp only [if_true] at hmm
    have each : ∀ i, i < len → ∃ o : ItemX, (ItemOk o ∧ ItemIn W o ∧ o.wants.length ≤ 9223372036854775807) ∧ ∀ j, j < 4 → W.cell? (a.add (i * 4 + j)) = (itemC o)[j]? := fun i hi => by
      obtain ⟨cs', h1, h2⟩ := hx i (by omega)
      rw [kcells_item] at h1
      obtain ⟨_, _, hcell⟩ := World.cells?_some h1
      obtain ⟨o, rfl, hok⟩ := open_item h2
      exact ⟨o, hok, fun j hj => by have := hcell j hj; rw [add_add] at this; exact this⟩
    have hin : Inhabited ItemX := ⟨⟨0, 0, 0, .slice none 0 0, []⟩⟩
    obtain ⟨q, hq⟩ := choose_lt each
    have hlen : ((List.range len).map q).length = len := by simp
    have hmem : ∀ o ∈ (List.range len).map q, ItemOk o ∧ ItemIn W o ∧ o.wants.length ≤ 9223372036854775807 := fun o ho => by
      obtain ⟨i, hi, rfl⟩ := List.mem_map.1 ho
      exact (hq i (List.mem_range.1 hi)).1
    refine ⟨some a, cap, (List.range len).map q, by rw [hlen], ⟨?_, fun o ho => (hmem o ho).2.1⟩, fun o ho => (hmem o ho).1, ?_, fun o ho => (hmem o ho).2.2⟩
    · rw [hlen]
      exact row_of4 itemC itemC_len q hl fun i hi => (hq i hi).2
    · rw [hlen]
      unfold maxLen at hm
      omega
end

end Hst
end Go.Proofs.YtecocheolbkneaaDoor
namespace Go.Proofs.YtecocheolbkneaaDoor
namespace ShuffledRow
open Go.ChangeShapes Go.WideShapes Go.ChangeAt Go.RowKit
set_option linter.unusedVariables false

theorem own : ownKnob Tryd.prog.godebug = none := by kernel_rfl
theorem door_met (os : Os) (args : Array Value) : laidMetH Tryd.prog Rows.shuffledRow.laid ((World.doorLaid Tryd.prog 4000 os).forCall (fun _ _ => 0) ⟨#[], args, []⟩).memory :=
  laidMetH_of_parts3 (fuel := 8) (laidMet_of_run' 8 (by kernel_rfl) (by kernel_rfl)) (by kernel_rfl) (by kernel_rfl)

set_option maxRecDepth 100000 in
theorem lifted (os : Os) (started : os.Started) (H : Type) (enc : TypeId × Value → H) :
    ReturnsInHanded {} Tryd.checked os 7 .any (fun w args => (Rows.shuffledSpec.pre enc Tryd.prog Tryd.f7 [] false w args ∧ laidMetH Tryd.prog Rows.shuffledRow.laid w) ∧ sizedMet enc Tryd.prog Tryd.f7 (OpenSpec.ofChange Rows.shuffledSpec) false w args)
      (Rows.shuffledSpec.post enc Tryd.prog Tryd.f7 false true false false) := by
  refine returnsInHanded_of_change_and (C := Tryd.checked) (X := fun w _ => laidMetH Tryd.prog Rows.shuffledRow.laid w) (fun _ _ _ hh h => h.of_heap hh) own started (by kernel_rfl) Tryd.func7
    (ChangeSpec.witness_shaped (enc := enc) (C := Tryd.checked) (os := os) (X := fun w _ => laidMetH Tryd.prog Rows.shuffledRow.laid w) false (World.doorLaid Tryd.prog 4000 os) #[.slice none 0 0, .slice none 0 0, .int .i64 0] 8 rfl (World.shaped_of_RefB (by kernel_rfl) (by kernel_rfl)) (by kernel_rfl) (by kernel_rfl) (by kernel_rfl) (door_met os _)) ?_
  intro W base args ds gs before hval0 hW _ hsz0 hL _
  have hval : ∀ (j : Nat) t v, Tryd.f7.params[j]? = some t → args[j]? = some v → Value.okWide Tryd.prog W .any base t v := hval0
  have hW' := hW
  obtain ⟨p, q, hA0, hV, rfl, hfz, hnd⟩ := hW
  have hA : DataW.TrodAll enc Tryd.prog W 0 (fun _ => true) true Tryd.f7.params.toList args.toList ds p := hA0
  rw [Tryd.params7] at hA hval
  obtain ⟨v0, v1, v2, d0, d1, d2, p0, p1, p2, rfl, rfl, rfl, h0, h1, h2⟩ := trodAll_three hA
  obtain ⟨rfl, rfl⟩ := trodVars_none hV
  have h0k := h0
  have h1k := h1
  obtain ⟨fuel, hf⟩ := h0
  obtain ⟨fuel1, hf1⟩ := h1
  clear hA0 hval0 hsz0
  simp only [List.append_nil] at hW'
  have hlt0 : ∀ x ∈ p0, x.block < W.heap.size := fun x hx => by simpa using hW'.lt x (by simp [hx])
  have hlt1 : ∀ x ∈ p1, x.block < W.heap.size := fun x hx => by simpa using hW'.lt x (by simp [hx])
  obtain ⟨a0, len, cap, rfl⟩ := okWide_slice Tryd.underlying38 (hval 0 38 v0 rfl rfl)
  obtain ⟨a1, len1, cap1, rfl⟩ := okWide_slice Tryd.underlying39 (hval 1 39 v1 rfl rfl)
  obtain ⟨c, rfl, rfl, rfl, wc⟩ := open_int Tryd.underlying3 (hval 2 3 v2 rfl rfl) h2
  obtain ⟨a, cap', items, hcs, hrow, hok, hn, hwn⟩ := Hst.open_items hf
  obtain ⟨a', cap1', l, hcs1, hrow1, hok1, hn1⟩ := Hst.open_wants hf1
  have hcs' : Value.slice a0 len cap = .slice a items.length cap' := by simpa [Value.cells] using hcs
  have hcs1' : Value.slice a1 len1 cap1 = .slice a' l.length cap1' := by simpa [Value.cells] using hcs1
  rw [hcs'] at h0k ⊢
  rw [hcs1'] at h1k ⊢
  refine (Hst.shuffled_any a cap' items a' cap1' l c W hrow hn hwn hok hrow1 hn1 hok1 (bounds_i64 wc)).mono fun e W' ⟨he, bel⟩ => ?_
  subst he
  rw [hcs', hcs1'] at hW'
  exact ⟨_, rfl, _, _, _, [], _, [], hW', trodAll_mk1 (shut_bool Tryd.underlying4 _), (by have h := trodAll_mk3 (Below.trod Hst.klaidOut (by kernel_rfl) (of_decide_eq_true (by kernel_rfl)) h0k bel hlt0) (Below.trod Hst.klaidOut (by kernel_rfl) (of_decide_eq_true (by kernel_rfl)) h1k bel hlt1) (shut_int Tryd.underlying3 wc); rw [← List.append_assoc] at h; exact h), rfl, bel.frame _, fun h => by cases h⟩

theorem over : Rows.ShuffledSaid :=
  OpenClaim.holds_of_wide 7 Tryd.f7 rfl rfl rfl rfl rfl rfl rfl ⟨rfl, rfl, rfl, rfl, rfl⟩ rfl rfl rfl rfl rfl (by kernel_rfl) Tryd.func7 (by kernel_rfl)
    (of_decide_eq_true (by kernel_rfl)) (by unfold Func.isWrapper; first | (rw [if_pos (by decide +kernel)]; kernel_rfl) | (rw [if_neg (by decide +kernel)]; exact ⟨rfl, rfl⟩))
    (fun os started H enc _ => lifted os started H enc)
end ShuffledRow

theorem shuffled_card : Rows.ShuffledCardSaid :=
  Claim7.holds_tied_plain_at .later [] [.data, .data, .data] true (true, "bfc2785ac1dcaff8ecf88a087b1627aacc14db3af6142912dd4f3c852ffe190c") false
    ShuffledRow.over (fun _ h => by cases h) (by kernel_rfl) (fun _ h => by cases h) shuffled_row_tie rfl ⟨rfl, rfl⟩ (by kernel_rfl) rfl
    (fun f fn hf hfn => by
      obtain rfl : f = 7 := Option.some.inj ((show Tryd.prog.funcNamed "hoist/hoistkeep.Shuffled" = some 7 by kernel_rfl).symm.trans hf) |>.symm
      obtain rfl : fn = Tryd.f7 := (Option.some.inj (Tryd.func7.symm.trans hfn)).symm
      exact ⟨by kernel_rfl, fun j t ht => by
        rw [Tryd.params7] at ht
        have hm : t ∈ [38, 39, 3] := by simpa using Array.mem_of_getElem? ht
        have hall : ([38, 39, 3].all fun u => !Tryd.prog.wantsStandIn u) = true := by kernel_rfl
        exact (show Tryd.prog.wantsStandIn t = false by simpa using List.all_eq_true.1 hall t hm)⟩)
    (by kernel_rfl)
#print axioms shuffled_card
end Go.Proofs.YtecocheolbkneaaDoor
