/- Kagw, Kthinp, Kthin, Kslimw -/
import Derived.Test.YtecocheolbkneaaGreatDoorW24
import Derived.Test.YtecocheolbkneaaGreatDoorW37
import Derived.Test.YtecocheolbkneaaGreatDoorW14
namespace Go.Proofs.YtecocheolbkneaaGreatDoor
open Go.RowKit
namespace Hst
set_option maxRecDepth 100000

theorem addsK_sub : ∀ (l : List WantX) (sd : SiteD) (site : List WantX), ∀ x ∈ (addsK sd site l).2, x ∈ site ∨ x ∈ l
  | [], _, _, x, hx => .inl hx
  | y :: r, sd, site, x, hx => by
    rw [addsK] at hx
    split at hx
    · rcases addsK_sub r _ _ x hx with h | h
      · rcases List.mem_append.1 h with h | h
        · exact .inl h
        · simp at h; subst h; exact .inr (by simp)
      · exact .inr (List.mem_cons_of_mem _ h)
    · rcases addsK_sub r _ _ x hx with h | h
      · exact .inl h
      · exact .inr (List.mem_cons_of_mem _ h)

set_option maxHeartbeats 8000000 in
theorem again_any (a : Option Addr) (cap : Nat) (items : List ItemX) (la : Option Addr) (lc : Nat) (l : List WantX) (w : World) (hr : ItemsR w a cap items) (hn : items.length ≤ 9223372036854775807) (hwn : ∀ x ∈ items, x.wants.length ≤ 9223372036854775807) (hok : ∀ x ∈ items, ItemOk x) (hl : RowR w la l.length lc 4 (l.flatMap wantC)) (hln : l.length ≤ 9223372036854775807) (hlo : ∀ x ∈ l, WantOk x) :
    Calls Tryz.prog 5 #[.slice a items.length cap, .slice la l.length lc] w fun e w' => e = .returned (.bool true) ∧ Below w.heap.size w w' := by
  have HST := hid' (stocked_any a cap items w hr hn hwn hok)
  have HPL := hid' (fun w h => plain_any la lc l w h hln hlo)
  have HPK : Hid ((plainK l).length ≤ 6 ∧ ∀ x ∈ plainK l, WantOk x) := ⟨plainK_len l, fun x hx => hlo x (plainK_in hx)⟩
  have HL := hid' hl
  clear hr hn hwn hok hl hln hlo
  go_enter Tryz.func5, Tryz.ntmps5
  go_wp2_with fail
  refine HST.out.mono ?_
  rintro e w1 ⟨oa, oc, out, rfl, hix, hbare, h40, hio, hb1⟩
  have HIX := hid' hix
  have HW := hid' (items_well hbare h40 fun x hx => (hio x hx).2)
  have HIO := hid' hio
  have HB1 := hid' hb1
  have HSK := hid' (stock_any false entryF oa oc out 0 w1 hix.r h40 (by omega) (fun x hx => (hio x hx).2) (fun x hx => (hio x hx).1))
  rw [rotK_zero] at HSK
  have HNW := hid' (new_items false out HW.out)
  clear hix hbare hio hb1
  go_wp2_with fail
  refine HSK.out.mono ?_
  rintro e w2 ⟨rfl, hb2⟩
  have HB2 := hid' (HB1.out.trans (hb2.mono HB1.out.size))
  have HIX2 := hid' (HIX.out.below hb2)
  have HRD := hid' (ready_any (bs (stockT false true out)) _ w2 (by rw [tx_bs]; exact HNW.out))
  clear hb2
  generalize bs (stockT false true out) = tb at *
  go_wp2_with fail
  refine HRD.out.mono ?_
  rintro e w3 ⟨b, rfl, hbb, hk3, hb3⟩
  have HB3 := hid' (HB2.out.trans (hb3.mono HB2.out.size))
  have HIX3 := hid' (HIX2.out.below hb3)
  have HK3 := hid' hk3
  have HBB := hid' hbb
  have HPC := hid' (HPL.out w3 (HL.out.below HB3.out))
  clear hb3 hk3 hbb
  go_wp2_with fail
  refine HPC.out.mono ?_
  rintro e w4 ⟨pv, rfl, hown, hb4⟩
  obtain ⟨pa, pc, rfl⟩ := own_slice hown
  have HB4 := hid' (HB3.out.trans (hb4.mono HB3.out.size))
  have HK4 := hid' (HK3.out.below hb4)
  have HIX4 := hid' (HIX3.out.below hb4)
  have HWX := hid' (show WantsX w4 (.slice pa (plainK l).length pc) (plainK l) from RowX.of_own hown)
  obtain ⟨sx, hsx⟩ := HK3.out
  have HAS := hid' (adds_start HW.out hsx.2 l)
  have HAC := hid' (added_any b _ oa oc out pa pc (plainK l) w4 HK4.out HIX4.out (by omega) (fun x hx => (HIO.out x hx).2) (fun x hx => (HIO.out x hx).1) HWX.out (by have := HPK.out.1; omega) HPK.out.2 HAS.out.1)
  have HKI := hid' HAS.out.2
  have HSU : Hid (∀ x ∈ (addsK ⟨out.map fun x => entryD x false, [], []⟩ [] (plainK l)).2, x ∈ plainK l) := fun x hx => by
    rcases addsK_sub (plainK l) _ [] x hx with h | h
    · simp at h
    · exact h
  have HZ : Hid (w.heap.size ≤ b ∧ w.heap.size ≤ w4.heap.size) := ⟨by have := HB2.out.size; have := HBB.out; omega, HB4.out.size⟩
  clear hb4 hown hsx HAS
  generalize (addsK ⟨out.map fun x => entryD x false, [], []⟩ [] (plainK l)).2 = site at *
  generalize (addsK ⟨out.map fun x => entryD x false, [], []⟩ [] (plainK l)).1 = sd at *
  generalize plainK l = pl at *
  go_wp2_with fail
  refine HAC.out.mono ?_
  rintro e w5 ⟨sa, sc, rfl, hsw, hk5, hm5⟩
  have HSW := hid' hsw
  have HK5 := hid' hk5
  have HM5 := hid' hm5
  have HB5 := hid' (HB4.out.trans (hm5.below_of HZ.out.1 HZ.out.2))
  have HIX5 := hid' (HIX4.out.off hm5.but HK4.out.tag)
  have HZ5 : Hid (w.heap.size ≤ b ∧ w.heap.size ≤ w5.heap.size) := ⟨HZ.out.1, HB5.out.size⟩
  clear hsw hk5 hm5
  have HTR := hid' (fun w h => ktree_any b sd w h)
  have HLO := hid' (fun w h => kload_any b sd (bs (textR sd.stock sd.packs)) w h)
  rw [tx_bs, HKI.out.load] at HLO
  simp only at HLO
  have HUP := hid' (fun w h => kupdate_any b sd w h)
  have HND1 : Hid (∀ x, site = [x] → sd.needs = [wantN x]) := fun x hx => by
    have := HKI.out.needs
    rw [hx] at this
    exact List.perm_singleton.1 this
  have HND2 : Hid (∀ x, site = [x] → (updateR sd).1.needs = [wantN x]) := fun x hx => by rw [(update_needs sd).1]; exact HND1.out x hx
  have HU2 := hid' (update_two (sd := sd))
  have hbb0 : ((bs (textR sd.stock sd.packs)).toList == (bs (textR sd.stock sd.packs)).toList) = true := by simp
  generalize bs (textR sd.stock sd.packs) = tt at *
  go_wp2_with fail
  refine (HTR.out _ HK5.out).mono ?_
  rintro e w6 ⟨rfl, hb6⟩
  have HK6 := hid' (HK5.out.below hb6)
  have HM6 := hid' (SMv.of_below (b := b) hb6)
  clear hb6
  go_wp2_with fail
  refine (HLO.out _ HK6.out).mono ?_
  rintro e w7 ⟨rfl, hm7, hk7⟩
  have HK7 := hid' hk7
  have HM7 := hid' (HM6.out.trans hm7)
  clear hm7 hk7
  go_wp2_with fail
  refine (HTR.out _ HK7.out).mono ?_
  rintro e w8 ⟨rfl, hb8⟩
  have HK8 := hid' (HK7.out.below hb8)
  have HM8 := hid' (HM7.out.trans (SMv.of_below (b := b) hb8))
  clear hb8
  go_wp2_with fail
  refine (HUP.out _ HK8.out).mono ?_
  rintro e w9 ⟨rfl, hm9, hk9⟩
  have HK9 := hid' hk9
  have HM9 := hid' (HM8.out.trans hm9)
  clear hm9 hk9
  by_cases hu0 : (updateR sd).2 = 0
  · have HTW := hid' (HU2.out hu0)
    have HTR2 := hid' (fun w h => ktree_any b (updateR sd).1 w h)
    have HUP2 := hid' (fun w h => kupdate_any b (updateR sd).1 w h)
    rw [HTW.out] at HUP2
    simp only at HUP2
    rw [hu0]
    have hbb1 : ((bs (textR (updateR sd).1.stock (updateR sd).1.packs)).toList == (bs (textR (updateR sd).1.stock (updateR sd).1.packs)).toList) = true := by simp
    generalize bs (textR (updateR sd).1.stock (updateR sd).1.packs) = t2 at *
    clear HTW HU2 hu0
    generalize (updateR sd).1 = s1 at *
    go_wp2_with fail
    refine (HTR2.out _ HK9.out).mono ?_
    rintro e x1 ⟨rfl, hb1⟩
    have HKA := hid' (HK9.out.below hb1)
    have HMA := hid' (HM9.out.trans (SMv.of_below (b := b) hb1))
    clear hb1
    go_wp2_with fail
    refine (HUP2.out _ HKA.out).mono ?_
    rintro e x2 ⟨rfl, hm2, hk2⟩
    have HKB := hid' hk2
    have HMB := hid' (HMA.out.trans hm2)
    clear hm2 hk2
    go_wp2_with fail
    refine (HTR2.out _ HKB.out).mono ?_
    rintro e x3 ⟨rfl, hb3⟩
    have HKC := hid' (HKB.out.below hb3)
    have HMC := hid' (HMB.out.trans (SMv.of_below (b := b) hb3))
    clear hb3
    by_cases hs1 : site.length = 1
    · obtain ⟨x, hx⟩ := List.length_eq_one_iff.1 hs1
      have hi1 : (site.length : Int) = 1 := by omega
      have HWR := hid' (RowX.off HSW.out HMC.out.but (by rw [HK5.out.tag]; decide))
      obtain ⟨g, o, ha, hg, hc⟩ := (WantsX.r HWR.out).wants rfl (k := 0) (by omega)
      subst ha
      obtain ⟨c0, -, -, -⟩ := hc 0 (by omega)
      have hsx : site[0] = x := by simp [hx]
      rw [hsx] at c0
      simp only [Nat.zero_mul, Nat.add_zero] at c0
      have HXO : Hid (WantOk x) := HPK.out.2 x (HSU.out x (by rw [hx]; simp))
      have HNA := hid' (fun w => names_any x.name w HXO.out.name)
      have HND : Hid (s1.needs = [wantN x]) := HND2.out x hx
      have HDR : Hid (dropR s1 (nameK x.name) = (⟨s1.stock, [], []⟩, 0)) := drop_last_need HND.out
      have HDC := hid' (fun w h => kdrop_any b s1 (bs (nameK x.name)) w h)
      rw [tx_bs, HDR.out] at HDC
      have HTE := hid' (fun w h => ktree_any b ⟨s1.stock, [], []⟩ w h)
      have HNE := hid' (fun w h => kneeds_any b ⟨s1.stock, [], []⟩ w h)
      have et : textR s1.stock [] = [] := rfl
      have en : neededR ⟨s1.stock, [], []⟩ = [] := rfl
      have eb : bs [] = ByteArray.empty := rfl
      rw [et, eb] at HTE
      rw [en, eb] at HNE
      simp only at HDC HTE
      clear hx hsx hc et en eb hs1 HND HDR
      generalize bs (nameK x.name) = nb at *
      generalize x.name = xn at *
      go_wp2_with fail
      refine (HNA.out _).mono ?_
      rintro e u1 ⟨rfl, hu1⟩
      have HU1 := hid' (HKC.out.below hu1)
      have HV1 := hid' (HMC.out.trans (SMv.of_below (b := b) hu1))
      clear hu1 c0
      go_wp2_with fail
      refine (HDC.out _ HU1.out).mono ?_
      rintro e u2 ⟨rfl, hm2, hk2⟩
      have HU2 := hid' hk2
      have HV2 := hid' (HV1.out.trans hm2)
      clear hm2 hk2
      go_wp2_with fail
      refine (HTE.out _ HU2.out).mono ?_
      rintro e u3 ⟨rfl, hu3⟩
      have HU3 := hid' (HU2.out.below hu3)
      have HV3 := hid' (HV2.out.trans (SMv.of_below (b := b) hu3))
      clear hu3
      go_wp2_with fail
      refine (HNE.out _ HU3.out).mono ?_
      rintro e u4 ⟨rfl, hu4⟩
      have HV4 := hid' (HB5.out.trans ((HV3.out.trans (SMv.of_below (b := b) hu4)).below_of HZ5.out.1 HZ5.out.2))
      clear hu4
      go_wp2
      go_ret
      exact ⟨by simp, HV4.out⟩
    · have hi1 : ¬ (site.length : Int) = 1 := by omega
      have HV4 := hid' (HB5.out.trans (HMC.out.below_of HZ5.out.1 HZ5.out.2))
      go_wp2
      go_ret
      exact ⟨rfl, HV4.out⟩
  · have hu1 : ((updateR sd).2 == 0) = false := beq_eq_false_iff_ne.2 hu0
    generalize (updateR sd).2 = uk at *
    generalize (updateR sd).1 = s1 at *
    clear HU2 hu0
    by_cases hs1 : site.length = 1
    · obtain ⟨x, hx⟩ := List.length_eq_one_iff.1 hs1
      have hi1 : (site.length : Int) = 1 := by omega
      have HWR := hid' (RowX.off HSW.out HM9.out.but (by rw [HK5.out.tag]; decide))
      obtain ⟨g, o, ha, hg, hc⟩ := (WantsX.r HWR.out).wants rfl (k := 0) (by omega)
      subst ha
      obtain ⟨c0, -, -, -⟩ := hc 0 (by omega)
      have hsx : site[0] = x := by simp [hx]
      rw [hsx] at c0
      simp only [Nat.zero_mul, Nat.add_zero] at c0
      have HXO : Hid (WantOk x) := HPK.out.2 x (HSU.out x (by rw [hx]; simp))
      have HNA := hid' (fun w => names_any x.name w HXO.out.name)
      have HND : Hid (s1.needs = [wantN x]) := HND2.out x hx
      have HDR : Hid (dropR s1 (nameK x.name) = (⟨s1.stock, [], []⟩, 0)) := drop_last_need HND.out
      have HDC := hid' (fun w h => kdrop_any b s1 (bs (nameK x.name)) w h)
      rw [tx_bs, HDR.out] at HDC
      have HTE := hid' (fun w h => ktree_any b ⟨s1.stock, [], []⟩ w h)
      have HNE := hid' (fun w h => kneeds_any b ⟨s1.stock, [], []⟩ w h)
      have et : textR s1.stock [] = [] := rfl
      have en : neededR ⟨s1.stock, [], []⟩ = [] := rfl
      have eb : bs [] = ByteArray.empty := rfl
      rw [et, eb] at HTE
      rw [en, eb] at HNE
      simp only at HDC HTE
      clear hx hsx hc et en eb hs1 HND HDR
      generalize bs (nameK x.name) = nb at *
      generalize x.name = xn at *
      go_wp2_with fail
      refine (HNA.out _).mono ?_
      rintro e u1 ⟨rfl, hu1⟩
      have HU1 := hid' (HK9.out.below hu1)
      have HV1 := hid' (HM9.out.trans (SMv.of_below (b := b) hu1))
      clear hu1 c0
      go_wp2_with fail
      refine (HDC.out _ HU1.out).mono ?_
      rintro e u2 ⟨rfl, hm2, hk2⟩
      have HU2 := hid' hk2
      have HV2 := hid' (HV1.out.trans hm2)
      clear hm2 hk2
      go_wp2_with fail
      refine (HTE.out _ HU2.out).mono ?_
      rintro e u3 ⟨rfl, hu3⟩
      have HU3 := hid' (HU2.out.below hu3)
      have HV3 := hid' (HV2.out.trans (SMv.of_below (b := b) hu3))
      clear hu3
      go_wp2_with fail
      refine (HNE.out _ HU3.out).mono ?_
      rintro e u4 ⟨rfl, hu4⟩
      have HV4 := hid' (HB5.out.trans ((HV3.out.trans (SMv.of_below (b := b) hu4)).below_of HZ5.out.1 HZ5.out.2))
      clear hu4
      go_wp2
      go_ret
      exact ⟨by simp, HV4.out⟩
    · have hi1 : ¬ (site.length : Int) = 1 := by omega
      have HV4 := hid' (HB5.out.trans (HM9.out.below_of HZ5.out.1 HZ5.out.2))
      go_wp2
      go_ret
      exact ⟨rfl, HV4.out⟩

end Hst
end Go.Proofs.YtecocheolbkneaaGreatDoor
namespace Go.Proofs.YtecocheolbkneaaGreatDoor
namespace Hst
set_option maxRecDepth 100000

/-- At a path, or in it. -/
def inB (p path : Tx) : Bool := decide (p = path) || isUnderP p path
def thinGo (path : Tx) (s : Tx) : List Tx → Tx
  | [] => s
  | z :: r => if inB (cutR 64 z).1 path = true then thinGo path s r else thinGo path ((if s = [] then [] else s ++ [59]) ++ z) r
def thinK (tree path : Tx) : Tx := thinGo path [] (splitK 59 tree)
theorem thg_in {path s : Tx} {d : List Tx} {k : Nat} (hk : k < d.length) (h : inB (cutR 64 d[k]).1 path = true) : thinGo path s (d.drop k) = thinGo path s (d.drop (k + 1)) := by
  rw [List.drop_eq_getElem_cons hk, thinGo, if_pos h]
theorem thg_out {path s : Tx} {d : List Tx} {k : Nat} (hk : k < d.length) (h : inB (cutR 64 d[k]).1 path = false) : thinGo path s (d.drop k) = thinGo path ((if s = [] then [] else s ++ [59]) ++ d[k]) (d.drop (k + 1)) := by
  rw [List.drop_eq_getElem_cons hk, thinGo, if_neg (by rw [h]; simp)]
theorem thg_end {path s : Tx} {d : List Tx} {k : Nat} (hk : ¬ k < d.length) : thinGo path s (d.drop k) = s := by
  rw [List.drop_of_length_le (by omega)]; rfl
theorem thin_go {st : List EntryD} {path : Tx} (h0 : path ≠ []) : ∀ (l : List PackD) (s : Tx), Shown st l → thinGo path s (l.map (txtD st)) = s ++ joinGo [59] (decide (s = [])) ((withoutR l path).map (txtD st))
  | [], s, _ => by simp [thinGo, withoutR, joinGo]
  | p :: r, s, h => by
    have hr : Shown st r := h.sub (List.pairwise_cons.1 h.nd).2 fun q hq => List.mem_cons_of_mem _ hq
    have hin : inB (cutR 64 (txtD st p)).1 path = hasR (foldersR p.path) path := by
      rw [piece_cut h (p := p) (by simp), under_same p.path path h0]
      rfl
    rw [List.map_cons, thinGo, hin]
    rcases hh : hasR (foldersR p.path) path with _ | _
    · have hw : withoutR (p :: r) path = p :: withoutR r path := by
        unfold withoutR
        rw [List.filter_cons, if_pos (by rw [hh]; rfl)]
      rw [if_neg (by simp), thin_go h0 r _ hr, hw, List.map_cons, joinGo]
      have hne : (if s = [] then [] else s ++ [59]) ++ txtD st p ≠ [] := by
        unfold txtD
        simp
      rw [decide_eq_false hne]
      by_cases hs : s = []
      · subst hs; simp
      · simp [hs]
    · have hw : withoutR (p :: r) path = withoutR r path := by
        unfold withoutR
        rw [List.filter_cons, if_neg (by rw [hh]; simp)]
      rw [if_pos rfl, thin_go h0 r s hr, hw]
theorem thin_text {sd : SiteD} (h : Shown sd.stock sd.packs) {path : Tx} (h0 : path ≠ []) : thinK (textR sd.stock sd.packs) path = textR sd.stock (withoutR sd.packs path) := by
  have hp := pieces_eq h
  unfold piecesK at hp
  unfold thinK
  rw [hp, thin_go h0 _ _ h, textR_join]
  rfl

end Hst
end Go.Proofs.YtecocheolbkneaaGreatDoor
namespace Go.Proofs.YtecocheolbkneaaGreatDoor
open Go.RowKit
namespace Hst
set_option maxRecDepth 100000

theorem cut_short (n : Int) : ∀ l : Tx, (cutR n l).1.length ≤ l.length
  | [] => Nat.le_refl _
  | b :: r => by
    have := cut_short n r
    rw [cutR]
    split
    · simp
    · simp; omega

set_option maxHeartbeats 4000000 in
theorem thin_any (t p : ByteArray) (w : World) (ht : t.size ≤ 100000) (hp : p.size ≤ 100000) :
    Calls Tryz.prog 23 #[.string t, .string p] w fun e w' => e = .returned (.string (bs (thinK (tx t) (tx p)))) ∧ Below w.heap.size w w' := by
  have HS := hid' (ksplit_any t 59 w ht)
  have HLE : Hid ((splitK 59 (tx t)).length ≤ 100001 ∧ ∀ x ∈ splitK 59 (tx t), x.length ≤ 100000) := ⟨by
    unfold splitK
    split
    · simp
    · have := splitL_len 59 (tx t); have := tx_length t; omega, fun x hx => by have := splitK_size 59 t x hx; omega⟩
  have HR : Hid (thinK (tx t) (tx p) = thinGo (tx p) [] ((splitK 59 (tx t)).drop 0)) := rfl
  generalize thinK (tx t) (tx p) = res at *
  generalize splitK 59 (tx t) = d at *
  go_enter Tryz.func23, Tryz.ntmps23
  go_wp2_with fail
  refine HS.out.mono ?_
  rintro e w1 ⟨dv, rfl, hrow, hb1⟩
  obtain ⟨da, dc, rfl, hst⟩ := RowV hrow
  have HST := hid' hst
  have HB1 := hid' hb1
  have hdl := HLE.out.1
  clear hrow hst hb1
  go_wp2
  go_loopw [6, 7] (fun sv i wr => ∃ (k : Nat) (s : Tx), k ≤ d.length ∧ s.length ≤ k * 100001 ∧ sv = .string (bs s) ∧ i = .int .i64 k ∧ Below w1.heap.size w1 wr ∧ Hid (res = thinGo (tx p) s (d.drop k))) (fun _ i _ => d.length - (intOf i).toNat)
  case atStart => exact ⟨0, [], Nat.zero_le _, by simp, rfl, rfl, Below.refl _ _, HR⟩
  case round =>
    obtain ⟨k, s, hk, hsl, rfl, rfl, hbel, hall⟩ := hrel
    have hz := hbel.size
    by_cases hlt : k < d.length
    · obtain ⟨g, o, hv, hg, hc⟩ := (HST.out.below hbel).cells hlt
      subst hv
      have c0 := hc k hlt
      have hdk : d[k].length ≤ 100000 := HLE.out.2 _ (List.getElem_mem hlt)
      have HAH := hid' (fun w => ahead_any (bs d[k]) 64 w (by rw [bs_size]; omega))
      rw [tx_bs] at HAH
      have HIN := hid' (thg_in (path := tx p) (s := s) hlt)
      have HOU := hid' (thg_out (path := tx p) (s := s) hlt)
      have hcl : (cutR 64 d[k]).1.length ≤ d[k].length := cut_short 64 d[k]
      clear hc
      generalize d[k] = z at *
      have k0 : (0 : Int) ≤ (k : Int) := by omega
      have k1 : (k : Int) < (d.length : Int) := by omega
      generalize (cutR 64 z).2.1 = z2 at *
      have HPT : Hid (tx (bs (cutR 64 z).1) = (cutR 64 z).1) := tx_bs _
      generalize bs (cutR 64 z).1 = pb at *
      have hps : pb.size ≤ 100000 := by rw [← tx_length, HPT.out]; omega
      rw [← HPT.out] at HIN HOU
      clear hcl HPT
      have HLK : Hid (s.length ≤ (k + 1) * 100001 ∧ z.length ≤ (k + 1) * 100001 ∧ (s ++ [59] ++ z).length ≤ (k + 1) * 100001) := by unfold Hid; rw [Nat.add_mul]; simp; omega
      have HZ : Hid ((bs z).size = z.length) := bs_size z
      have HSZ : Hid ((bs s).size = s.length) := bs_size s
      go_wp2_with fail
      refine (HAH.out _).mono ?_
      rintro e w2 ⟨rfl, hb2⟩
      have HB2 := hid' (hbel.trans (hb2.mono hz))
      have hg2 : g < w2.heap.size := by have := hb2.size; omega
      have d0 := ((bcell hb2).1 _ _ hg).trans c0
      clear hb2 c0
      by_cases he : tx pb = tx p
      · have HE : Hid (inB (tx pb) (tx p) = true) := by unfold Hid inB; rw [decide_eq_true he]; rfl
        have hb : (pb.toList == p.toList) = true := by rw [tx_toList, tx_toList, he]; simp
        clear he
        have HF : Hid (res = thinGo (tx p) s (d.drop (k + 1))) := by unfold Hid; rw [hall.out]; exact HIN.out HE.out
        clear hall HIN HOU
        go_wp2
        go_roundw
        case rel => exact ⟨k + 1, s, by omega, HLK.out.1, rfl, by go_num, HB2.out, HF⟩
        case measure => simp [intOf] <;> omega
      · have hb : (pb.toList == p.toList) = false := by rw [tx_toList, tx_toList]; simpa using he
        have h8 := tx_length p
        have h9 := tx_length pb
        have HI : Hid (inB (tx pb) (tx p) = isUnderP (tx pb) (tx p)) := by unfold Hid inB; rw [decide_eq_false he]; rfl
        clear he
        by_cases hl : p.size < pb.size
        · have HTB : Hid (tx (p ++ (⟨#[47]⟩ : ByteArray)) = tx p ++ [47]) := by unfold Hid; have e : p ++ (⟨#[47]⟩ : ByteArray) = bs (tx p ++ [47]) := (by rw [← bs_append, bs_tx]; rfl); rw [e, tx_bs]
          have HU : Hid (isUnderP (tx pb) (tx p) = ((pb.extract 0 (p.size + 1)).toList == (p ++ (⟨#[47]⟩ : ByteArray)).toList)) := by
            unfold Hid isUnderP
            rw [tx_toList, tx_toList, tx_extract, HTB.out, List.drop_zero, tx_length]
            simp only [Nat.sub_zero]
            generalize (tx pb).take (p.size + 1) = zz
            by_cases e : zz = tx p ++ [47] <;> simp [e]
          have hl1 : (p.size : Int) < (pb.size : Int) := by omega
          have hl2 : (p.size : Int) + 1 ≤ (pb.size : Int) := by omega
          clear HTB h8 h9
          rcases hu : ((pb.extract 0 (p.size + 1)).toList == (p ++ (⟨#[47]⟩ : ByteArray)).toList) with _ | _
          · have HE : Hid (inB (tx pb) (tx p) = false) := by unfold Hid; rw [HI.out, HU.out]; exact hu
            have HF : Hid (res = thinGo (tx p) ((if s = [] then [] else s ++ [59]) ++ z) (d.drop (k + 1))) := by unfold Hid; rw [hall.out]; exact HOU.out HE.out
            clear hall HIN HOU
            by_cases hs : s = []
            · subst hs
              simp only [if_true, List.nil_append] at HF
              have e0 : bs [] = (⟨#[]⟩ : ByteArray) := rfl
              rw [e0]
              have HC : Hid ((⟨#[]⟩ : ByteArray) ++ bs z = bs z) := by unfold Hid; rw [← e0, bs_append]; rfl
              have hss2 : (bs z).size ≤ 100000 := by rw [HZ.out]; exact hdk
              clear e0 HSZ
              go_wp2
              go_roundw
              case rel => exact ⟨k + 1, z, by omega, HLK.out.2.1, by rw [HC.out], by go_num, HB2.out, HF⟩
              case measure => simp [intOf] <;> omega
            · rw [if_neg hs] at HF
              have hse : ((bs s).toList == []) = false := by rw [tx_toList, tx_bs]; simpa using hs
              have HC : Hid ((bs s ++ (⟨#[59]⟩ : ByteArray)) ++ bs z = bs (s ++ [59] ++ z)) := by unfold Hid; rw [← bs_append, ← bs_append]; rfl
              have hss : (bs s).size ≤ 20000000000 := by rw [HSZ.out]; omega
              have hss2 : (bs z).size ≤ 100000 := by rw [HZ.out]; exact hdk
              clear hs HZ HSZ HAH
              generalize bs z = zb at *
              generalize bs s = sb at *
              go_wp2
              go_roundw
              case rel => exact ⟨k + 1, _, by omega, HLK.out.2.2, by rw [HC.out], by go_num, HB2.out, HF⟩
              case measure => simp [intOf] <;> omega
          · have HE : Hid (inB (tx pb) (tx p) = true) := by unfold Hid; rw [HI.out, HU.out]; exact hu
            have HF : Hid (res = thinGo (tx p) s (d.drop (k + 1))) := by unfold Hid; rw [hall.out]; exact HIN.out HE.out
            clear hall HIN HOU
            go_wp2
            go_roundw
            case rel => exact ⟨k + 1, s, by omega, HLK.out.1, rfl, by go_num, HB2.out, HF⟩
            case measure => simp [intOf] <;> omega
        · have HE : Hid (inB (tx pb) (tx p) = false) := by
            unfold Hid
            rw [HI.out]
            unfold isUnderP
            refine decide_eq_false fun e => ?_
            have := congrArg List.length e
            rw [List.length_take] at this
            simp at this
            omega
          have hl1 : ¬ (p.size : Int) < (pb.size : Int) := by omega
          clear h8 h9
          have HF : Hid (res = thinGo (tx p) ((if s = [] then [] else s ++ [59]) ++ z) (d.drop (k + 1))) := by unfold Hid; rw [hall.out]; exact HOU.out HE.out
          clear hall HIN HOU
          by_cases hs : s = []
          · subst hs
            simp only [if_true, List.nil_append] at HF
            have e0 : bs [] = (⟨#[]⟩ : ByteArray) := rfl
            rw [e0]
            have HC : Hid ((⟨#[]⟩ : ByteArray) ++ bs z = bs z) := by unfold Hid; rw [← e0, bs_append]; rfl
            have hss2 : (bs z).size ≤ 100000 := by rw [HZ.out]; exact hdk
            clear e0 HSZ
            go_wp2
            go_roundw
            case rel => exact ⟨k + 1, z, by omega, HLK.out.2.1, by rw [HC.out], by go_num, HB2.out, HF⟩
            case measure => simp [intOf] <;> omega
          · rw [if_neg hs] at HF
            have hse : ((bs s).toList == []) = false := by rw [tx_toList, tx_bs]; simpa using hs
            have HC : Hid ((bs s ++ (⟨#[59]⟩ : ByteArray)) ++ bs z = bs (s ++ [59] ++ z)) := by unfold Hid; rw [← bs_append, ← bs_append]; rfl
            have hss : (bs s).size ≤ 20000000000 := by rw [HSZ.out]; omega
            have hss2 : (bs z).size ≤ 100000 := by rw [HZ.out]; exact hdk
            clear hs HZ HSZ HAH
            generalize bs z = zb at *
            generalize bs s = sb at *
            go_wp2
            go_roundw
            case rel => exact ⟨k + 1, _, by omega, HLK.out.2.2, by rw [HC.out], by go_num, HB2.out, HF⟩
            case measure => simp [intOf] <;> omega
    · have HF : Hid (res = s) := by unfold Hid; rw [hall.out, thg_end hlt]
      have HBE := hid' (HB1.out.trans (hbel.mono HB1.out.size))
      clear hall
      go_wp2
      go_ret
      exact ⟨by rw [HF.out]; rfl, HBE.out⟩

end Hst
end Go.Proofs.YtecocheolbkneaaGreatDoor
namespace Go.Proofs.YtecocheolbkneaaGreatDoor
open Go.RowKit
namespace Hst
set_option maxRecDepth 100000

theorem addsK_len : ∀ (l : List WantX) (sd : SiteD) (site : List WantX), site.length + l.length ≤ 6 → (addsK sd site l).2.length ≤ 6
  | [], _, site, h => by rw [addsK]; simpa using h
  | y :: r, sd, site, h => by
    rw [addsK]
    split
    · exact addsK_len r _ _ (by simp at h ⊢; omega)
    · exact addsK_len r _ _ (by simp at h ⊢; omega)

set_option maxHeartbeats 8000000 in
theorem slimmed_any (a : Option Addr) (cap : Nat) (items : List ItemX) (la : Option Addr) (lc : Nat) (l : List WantX) (w : World) (hr : ItemsR w a cap items) (hn : items.length ≤ 9223372036854775807) (hwn : ∀ x ∈ items, x.wants.length ≤ 9223372036854775807) (hok : ∀ x ∈ items, ItemOk x) (hl : RowR w la l.length lc 4 (l.flatMap wantC)) (hln : l.length ≤ 9223372036854775807) (hlo : ∀ x ∈ l, WantOk x) :
    Calls Tryz.prog 6 #[.slice a items.length cap, .slice la l.length lc] w fun e w' => e = .returned (.bool true) ∧ Below w.heap.size w w' := by
  have HST := hid' (stocked_any a cap items w hr hn hwn hok)
  have HPL := hid' (fun w h => plain_any la lc l w h hln hlo)
  have HPK : Hid ((plainK l).length ≤ 6 ∧ ∀ x ∈ plainK l, WantOk x) := ⟨plainK_len l, fun x hx => hlo x (plainK_in hx)⟩
  have HL := hid' hl
  clear hr hn hwn hok hl hln hlo
  go_enter Tryz.func6, Tryz.ntmps6
  go_wp2_with fail
  refine HST.out.mono ?_
  rintro e w1 ⟨oa, oc, out, rfl, hix, hbare, h40, hio, hb1⟩
  have HIX := hid' hix
  have HW := hid' (items_well hbare h40 fun x hx => (hio x hx).2)
  have HIO := hid' hio
  have HB1 := hid' hb1
  have HSK := hid' (stock_any false entryF oa oc out 0 w1 hix.r h40 (by omega) (fun x hx => (hio x hx).2) (fun x hx => (hio x hx).1))
  rw [rotK_zero] at HSK
  have HNW := hid' (new_items false out HW.out)
  clear hix hbare hio hb1
  go_wp2_with fail
  refine HSK.out.mono ?_
  rintro e w2 ⟨rfl, hb2⟩
  have HB2 := hid' (HB1.out.trans (hb2.mono HB1.out.size))
  have HIX2 := hid' (HIX.out.below hb2)
  have HRD := hid' (ready_any (bs (stockT false true out)) _ w2 (by rw [tx_bs]; exact HNW.out))
  clear hb2
  generalize bs (stockT false true out) = tb at *
  go_wp2_with fail
  refine HRD.out.mono ?_
  rintro e w3 ⟨b, rfl, hbb, hk3, hb3⟩
  have HB3 := hid' (HB2.out.trans (hb3.mono HB2.out.size))
  have HIX3 := hid' (HIX2.out.below hb3)
  have HK3 := hid' hk3
  have HBB := hid' hbb
  have HPC := hid' (HPL.out w3 (HL.out.below HB3.out))
  clear hb3 hk3 hbb
  go_wp2_with fail
  refine HPC.out.mono ?_
  rintro e w4 ⟨pv, rfl, hown, hb4⟩
  obtain ⟨pa, pc, rfl⟩ := own_slice hown
  have HB4 := hid' (HB3.out.trans (hb4.mono HB3.out.size))
  have HK4 := hid' (HK3.out.below hb4)
  have HIX4 := hid' (HIX3.out.below hb4)
  have HWX := hid' (show WantsX w4 (.slice pa (plainK l).length pc) (plainK l) from RowX.of_own hown)
  obtain ⟨sx, hsx⟩ := HK3.out
  have HAS := hid' (adds_start HW.out hsx.2 l)
  have HAC := hid' (added_any b _ oa oc out pa pc (plainK l) w4 HK4.out HIX4.out (by omega) (fun x hx => (HIO.out x hx).2) (fun x hx => (HIO.out x hx).1) HWX.out (by have := HPK.out.1; omega) HPK.out.2 HAS.out.1)
  have HKI := hid' HAS.out.2
  have HSU : Hid (∀ x ∈ (addsK ⟨out.map fun x => entryD x false, [], []⟩ [] (plainK l)).2, x ∈ plainK l) := fun x hx => by
    rcases addsK_sub (plainK l) _ [] x hx with h | h
    · simp at h
    · exact h
  have HSN : Hid ((addsK ⟨out.map fun x => entryD x false, [], []⟩ [] (plainK l)).2.length ≤ 6) := by have := HKI.out.same; exact addsK_len _ _ _ (by have := HPK.out.1; simpa using this)
  have HZ : Hid (w.heap.size ≤ b ∧ w.heap.size ≤ w4.heap.size) := ⟨by have := HB2.out.size; have := HBB.out; omega, HB4.out.size⟩
  clear hb4 hown hsx HAS
  generalize (addsK ⟨out.map fun x => entryD x false, [], []⟩ [] (plainK l)).2 = site at *
  generalize (addsK ⟨out.map fun x => entryD x false, [], []⟩ [] (plainK l)).1 = sd at *
  generalize plainK l = pl at *
  go_wp2_with fail
  refine HAC.out.mono ?_
  rintro e w5 ⟨sa, sc, rfl, hsw, hk5, hm5⟩
  have HSW := hid' hsw
  have HK5 := hid' hk5
  have HM5 := hid' hm5
  have HB5 := hid' (HB4.out.trans (hm5.below_of HZ.out.1 HZ.out.2))
  have HIX5 := hid' (HIX4.out.off hm5.but HK4.out.tag)
  have HZ5 : Hid (w.heap.size ≤ b ∧ w.heap.size ≤ w5.heap.size) := ⟨HZ.out.1, HB5.out.size⟩
  clear hsw hk5 hm5
  obtain ⟨sx0, hsx0⟩ := HKI.out.same
  have HT0 := hid' (fun w h => ktree_any b sd w h)
  have HP0 : Hid ((splitK 59 (textR sd.stock sd.packs)).length = sd.packs.length) := by
    unfold Hid
    have := pieces_eq hsx0.shown
    unfold piecesK at this
    rw [this, List.length_map]
  have HS0 := hid' (fun w => ksplit_any (bs (textR sd.stock sd.packs)) 59 w (by rw [bs_size]; exact text_size hsx0))
  rw [tx_bs] at HS0
  have HSL := hid' (fun w h => kslim_any b sd w h)
  have hp40 := hsx0.l40
  clear hsx0
  generalize splitK 59 (textR sd.stock sd.packs) = d0 at *
  generalize bs (textR sd.stock sd.packs) = t0 at *
  go_wp2_with fail
  refine (HT0.out _ HK5.out).mono ?_
  rintro e w6 ⟨rfl, hb6⟩
  have HK6 := hid' (HK5.out.below hb6)
  have HM6 := hid' (SMv.of_below (b := b) hb6)
  clear hb6
  go_wp2_with fail
  refine (HS0.out _).mono ?_
  rintro e w7 ⟨dv, rfl, hrow, hb7⟩
  obtain ⟨da0, dc0, rfl, -⟩ := RowV hrow
  have HK7 := hid' (HK6.out.below hb7)
  have HM7 := hid' (HM6.out.trans (SMv.of_below (b := b) hb7))
  rw [HP0.out]
  clear hb7 hrow
  go_wp2_with fail
  refine (HSL.out _ HK7.out).mono ?_
  rintro e w8 ⟨rfl, hm8, hk8⟩
  obtain ⟨sx1, hat1, hsx1⟩ := hk8
  obtain ⟨hki1, hsp1, hsl1, hsn1⟩ := HKI.out.slim ⟨sx1, hsx1⟩
  have HK8 : Hid (KAt w8 b (slimR sd).1) := ⟨sx1, hat1, hsx1⟩
  have HM8 := hid' (HM7.out.trans hm8)
  have HKI1 := hid' hki1
  have HT1 := hid' (fun w h => ktree_any b (slimR sd).1 w h)
  have HD1 : Hid (splitK 59 (textR (slimR sd).1.stock (slimR sd).1.packs) = (slimR sd).1.packs.map (txtD (slimR sd).1.stock)) := by
    have := pieces_eq hsx1.shown
    unfold piecesK at this
    exact this
  have HTS : Hid ((textR (slimR sd).1.stock (slimR sd).1.packs).length ≤ 100000) := text_size hsx1
  have HS1 := hid' (fun w => ksplit_any (bs (textR (slimR sd).1.stock (slimR sd).1.packs)) 59 w (by rw [bs_size]; exact HTS.out))
  rw [tx_bs] at HS1
  have HSE := hid' (fun w h h1 h2 => settled_any b (slimR sd).1 oa oc out sa sc site w h h1 (by omega) (fun x hx => (HIO.out x hx).2) (fun x hx => (HIO.out x hx).1) h2 (by have := HPK.out.1; have := HSN.out; omega) (fun x hx => HPK.out.2 x (HSU.out x hx)) hki1.settled)
  have HSL2 := hid' (fun w h => kslim_any b (slimR sd).1 w h)
  rw [hsl1] at HSL2
  simp only at HSL2
  have HTH : Hid (∀ z ∈ (slimR sd).1.packs.map (txtD (slimR sd).1.stock), loadR (slimR sd).1 (thinK (textR (slimR sd).1.stock (slimR sd).1.packs) (cutR 64 z).1) = ((slimR sd).1, 12) ∧ (cutR 64 z).1.length ≤ 1000 ∧ z.length ≤ 100000) := fun z hz => by
    obtain ⟨p, hp, rfl⟩ := List.mem_map.1 hz
    rw [piece_cut hsx1.shown hp]
    simp only
    rw [thin_text hsx1.shown (hsx1.shown.ne p hp)]
    have hps := path_short hsx1.tr hsx1.fold p hp
    have h40' := hsx1.l40
    have hvl := verT_len (verOf (slimR sd).1.stock p.of).a.toNat (verOf (slimR sd).1.stock p.of).b.toNat (verOf (slimR sd).1.stock p.of).c.toNat
    refine ⟨hki1.thin hsp1 hp, by omega, ?_⟩
    unfold txtD vtx
    simp
    omega
  have HLE1 : Hid ((slimR sd).1.packs.length ≤ 40) := hsx1.l40
  have HTX : Hid (tx (bs (textR (slimR sd).1.stock (slimR sd).1.packs)) = textR (slimR sd).1.stock (slimR sd).1.packs) := tx_bs _
  have HTZ : Hid ((bs (textR (slimR sd).1.stock (slimR sd).1.packs)).size ≤ 100000) := by unfold Hid; rw [bs_size]; exact HTS.out
  have HLN : Hid (((slimR sd).1.packs.map (txtD (slimR sd).1.stock)).length = (slimR sd).1.packs.length) := by unfold Hid; rw [List.length_map]
  rw [hsn1]
  rw [HD1.out] at HS1
  have hbb1 : ((bs (textR (slimR sd).1.stock (slimR sd).1.packs)).toList == (bs (textR (slimR sd).1.stock (slimR sd).1.packs)).toList) = true := by simp
  generalize textR (slimR sd).1.stock (slimR sd).1.packs = tx1 at *
  generalize bs tx1 = t1 at *
  clear hm8 hat1 hsx1 hki1 hsp1 hsl1 hsn1 HSL HKI HT0 HS0
  generalize (slimR sd).1.packs.map (txtD (slimR sd).1.stock) = d1 at *
  have hle1 := HLE1.out
  have hln1 := HLN.out
  have HLN' := hid' hln1
  rw [← hln1]
  clear hln1
  generalize (slimR sd).1 = s1 at *
  generalize sd.packs.length = n0 at *
  have hq0 : ((d1.length : Nat) : Int) ≤ 40 := by have := HLN'.out; omega
  have HNN : Hid ((n0 : Int) - ((n0 : Int) - ((d1.length : Nat) : Int)) = ((d1.length : Nat) : Int)) := by unfold Hid; omega
  have hn1 : (n0 : Int) - ((d1.length : Nat) : Int) ≤ 40 := by omega
  have hn2 : -40 ≤ (n0 : Int) - ((d1.length : Nat) : Int) := by omega
  generalize (n0 : Int) - ((d1.length : Nat) : Int) = nn at *
  have hq := HNN.out
  go_wp2_with fail
  refine (HT1.out _ HK8.out).mono ?_
  rintro e w9 ⟨rfl, hb9⟩
  have HK9 := hid' (HK8.out.below hb9)
  have HM9 := hid' (HM8.out.trans (SMv.of_below (b := b) hb9))
  clear hb9
  go_wp2_with fail
  refine (HS1.out _).mono ?_
  rintro e wa ⟨dv, rfl, hrow, hba⟩
  have HROW := hid' hrow
  obtain ⟨da, dc, rfl, -⟩ := RowV hrow
  have HKA := hid' (HK9.out.below hba)
  have HMA := hid' (HM9.out.trans (SMv.of_below (b := b) hba))
  have HSC := hid' (HSE.out wa HKA.out (HIX5.out.off HMA.out.but HK5.out.tag).r (WantsX.r (RowX.off HSW.out HMA.out.but (by rw [HK5.out.tag]; decide))))
  clear hba hrow
  go_wp2_with fail
  refine HSC.out.mono ?_
  rintro e wb ⟨rfl, hbb⟩
  have HKB := hid' (HKA.out.below hbb)
  have HMB := hid' (SMv.of_below (b := b) hbb)
  clear hbb
  go_wp2_with fail
  refine (HSL2.out _ HKB.out).mono ?_
  rintro e wc ⟨rfl, hmc, hkc⟩
  have HKC := hid' hkc
  have HMC := hid' (HMB.out.trans hmc)
  have hdl : d1.length ≤ 40 := by have := HLN'.out; omega
  clear hmc hkc
  go_wp2
  go_loopw [14] (fun i wr => ∃ k : Nat, k ≤ d1.length ∧ i = .int .i64 k ∧ Hid (SMv b wa wr ∧ KAt wr b s1)) (fun i _ => d1.length - (intOf i).toNat)
  case atStart => exact ⟨0, Nat.zero_le _, rfl, HMC.out, HKC.out⟩
  case round =>
    obtain ⟨k, hk, rfl, hall⟩ := hrel
    have HMR := hid' hall.out.1
    have HKR := hid' hall.out.2
    clear hall
    by_cases hlt : k < d1.length
    · have hrow' : Row wr _ (.slice da d1.length dc) d1 := own_bt HROW.out HMR.out.but (by rw [HKA.out.tag]; decide)
      obtain ⟨da', dc', hv', hst⟩ := RowV hrow'
      simp at hv'
      obtain ⟨rfl, rfl⟩ := hv'
      obtain ⟨g, o, hv, hg, hc⟩ := hst.cells hlt
      subst hv
      have c0 := hc k hlt
      obtain ⟨hz1, hz2, hz3⟩ := HTH.out d1[k] (List.getElem_mem hlt)
      have HAH := hid' (fun w => ahead_any (bs d1[k]) 64 w (by rw [bs_size]; omega))
      rw [tx_bs] at HAH
      have HTN := hid' (fun w => thin_any t1 (bs (cutR 64 d1[k]).1) w HTZ.out (by rw [bs_size]; omega))
      rw [tx_bs, HTX.out] at HTN
      have HLD := hid' (fun w h => kload_any b s1 (bs (thinK tx1 (cutR 64 d1[k]).1)) w h)
      rw [tx_bs, hz1] at HLD
      simp only at HLD
      clear hc hst hrow' hz1 hz2 hz3
      generalize bs (thinK tx1 (cutR 64 d1[k]).1) = tb at *
      generalize bs (cutR 64 d1[k]).1 = pb at *
      generalize bs (cutR 64 d1[k]).2.1 = vb at *
      generalize d1[k] = z at *
      have k0 : (0 : Int) ≤ (k : Int) := by omega
      have k1 : (k : Int) < (d1.length : Int) := by omega
      go_wp2_with fail
      refine (HAH.out _).mono ?_
      rintro e x1 ⟨rfl, hb1⟩
      have HX1 := hid' (HKR.out.below hb1)
      have HY1 := hid' (HMR.out.trans (SMv.of_below (b := b) hb1))
      clear hb1 c0
      go_wp2_with fail
      refine (HTN.out _).mono ?_
      rintro e x2 ⟨rfl, hb2⟩
      have HX2 := hid' (HX1.out.below hb2)
      have HY2 := hid' (HY1.out.trans (SMv.of_below (b := b) hb2))
      clear hb2
      go_wp2_with fail
      refine (HLD.out _ HX2.out).mono ?_
      rintro e x3 ⟨rfl, hm3, hk3⟩
      have HX3 := hid' hk3
      have HY3 := hid' (HY2.out.trans hm3)
      clear hm3 hk3
      go_wp2_with fail
      refine (HT1.out _ HX3.out).mono ?_
      rintro e x4 ⟨rfl, hb4⟩
      have HX4 := hid' (HX3.out.below hb4)
      have HY4 := hid' (HY3.out.trans (SMv.of_below (b := b) hb4))
      clear hb4
      go_wp2
      go_roundw
      case rel => exact ⟨k + 1, by omega, by go_num, HY4.out, HX4.out⟩
      case measure => simp [intOf] <;> omega
    · have HV := hid' (HB5.out.trans ((HMA.out.trans HMR.out).below_of HZ5.out.1 HZ5.out.2))
      go_wp2
      go_ret
      exact ⟨rfl, HV.out⟩

end Hst
end Go.Proofs.YtecocheolbkneaaGreatDoor
