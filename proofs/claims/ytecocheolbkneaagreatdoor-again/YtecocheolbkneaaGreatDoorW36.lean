/- Dslim, Dslimx, Mslim, Pslim, Pspare -/
import Derived.Test.YtecocheolbkneaaGreatDoorW35
import Derived.Test.YtecocheolbkneaaGreatDoorW33
import Derived.Test.YtecocheolbkneaaGreatDoorW29
import Derived.Test.YtecocheolbkneaaGreatDoorW15
namespace Go.Proofs.YtecocheolbkneaaGreatDoor
open Go.RowKit
namespace Hst
set_option maxRecDepth 100000



set_option maxHeartbeats 4000000 in
theorem without_any (v : Value) (l : List PackD) (i : Nat) (w : World) (hl : PacksI w v l) (hi' : i < l.length) (hn : l.length ≤ 1000) (hp : ∀ p ∈ l, p.path.length ≤ 900) :
    Calls Tryz.prog 140 #[v, .int .i64 i] w fun e w' => ∃ v', e = .returned v' ∧ PacksI w' v' (withoutR l (packAt l i).path) ∧ Below w.heap.size w w' := by
  obtain ⟨i0, hi, iz0, iz1, iz2⟩ := info_parts info_packD
  obtain ⟨a, cap, rfl⟩ := RowX.form hl
  have HPK : Hid (packAt l i = l[i]) := by unfold Hid packAt; rw [List.getD_eq_getElem?_getD, List.getElem?_eq_getElem hi']; rfl
  have HL := hid' hl
  have HP := hid' hp
  rw [HPK.out]
  have HIC : Hid (∀ (W : World), Below w.heap.size w W → ∀ g o : Nat, a = some ⟨g, o, none⟩ → W.cell? ⟨g, o + i * 2, none⟩ = some (.string (bs l[i].path))) := fun W hb g o ha => by
    obtain ⟨g', o', cap', hv, _, hc⟩ := (RowX.below hl hb).packs hi'
    simp at hv
    obtain ⟨hv1, rfl⟩ := hv
    rw [hv1] at ha
    simp at ha
    obtain ⟨rfl, rfl⟩ := ha
    exact (hc i hi').1
  have j0 : (0 : Int) ≤ (i : Int) := by omega
  have j1 : (i : Int) < (l.length : Int) := by omega
  generalize l[i].path = x at *
  have HR : Hid (withoutR l x = [] ++ withoutR (l.drop 0) x) := rfl
  generalize withoutR l x = res at *
  clear hl hp HPK hi'
  go_enter Tryz.func140, Tryz.ntmps140
  go_wp2
  go_loopw [5, 6] (fun v i wr => ∃ (k : Nat) (acc : List PackD), k ≤ l.length ∧ acc.length ≤ k ∧ i = .int .i64 k ∧ wr.ownsRow w.heap.size 146 2 v acc.length (acc.flatMap packC) ∧ Below w.heap.size w wr ∧ Hid (res = acc ++ withoutR (l.drop k) x)) (fun _ i _ => l.length - (intOf i).toNat)
  case atStart => exact ⟨0, [], Nat.zero_le _, by simp, rfl, World.ownsRow_nil _ _ _ _, Below.refl _ _, HR⟩
  case round =>
    obtain ⟨k, acc, hk, hacc, rfl, hown, hbel, hall⟩ := hrel
    have hz := hbel.size
    by_cases hlt : k < l.length
    · obtain ⟨g, o, cap', hv, hg, hc⟩ := (RowX.below HL.out hbel).packs hlt
      simp at hv
      obtain ⟨rfl, rfl⟩ := hv
      obtain ⟨c0, c1⟩ := hc k hlt
      have HFO := hid' (folders_any (bs l[k].path) wr (by rw [bs_size]; have := HP.out l[k] (List.getElem_mem hlt); omega))
      rw [tx_bs] at HFO
      have HFL : Hid ((foldersR l[k].path).length ≤ 100000) := by unfold Hid; have h1 := foldersR_len l[k].path; have := HP.out l[k] (List.getElem_mem hlt); omega
      have HYE := hid' (wtd_yes l acc x k hlt)
      have HNO := hid' (wtd_no l acc x k hlt)
      clear hc
      generalize l[k] = y at *
      obtain ⟨yp, yo⟩ := y
      simp only at c0 c1 HFO HYE HNO HFL
      have k0 : (0 : Int) ≤ (k : Int) := by omega
      have k1 : (k : Int) < (l.length : Int) := by omega
      go_wp2_with fail
      refine HFO.out.mono ?_
      rintro e w2 ⟨fv, rfl, hrow, hb2⟩
      obtain ⟨fa, fc, rfl, hst⟩ := RowV hrow
      have HHA := hid' (has_any fa _ fc (foldersR yp) (bs x) w2 hst HFL.out)
      rw [tx_bs] at HHA
      have hz2 := hb2.size
      have hg2 : g < w2.heap.size := by omega
      have d0 := ((bcell hb2).1 g (o + k * 2) hg).trans c0
      have d1 := ((bcell hb2).1 g (o + k * 2 + 1) hg).trans c1
      have di := HIC.out w2 (hbel.trans (hb2.mono hz)) g o rfl
      have hown2 := own_below hown hb2
      have HB2 := hid' hb2
      clear hb2 hrow hst c0 c1
      generalize (foldersR yp).length = fl at *
      rcases hh : hasR (foldersR yp) x with _ | _
      · have HF : Hid (res = (acc ++ [⟨yp, yo⟩]) ++ withoutR (l.drop (k + 1)) x) := by unfold Hid; rw [hall.out]; exact HYE.out hh
        rw [hh] at HHA
        clear hh hall HYE HNO
        go_wp2_with fail
        refine HHA.out.mono ?_
        rintro e w3 ⟨he, hw⟩
        subst he hw
        go_wp2_with (first | (at_builtin; refine wpList_append_lies _ rfl _ _ 127 rfl w.heap.size 146 i0 (.agg #[.string ByteArray.empty, .int .i64 0]) 2 24 Tryz.underlying127 hi iz0 iz1 iz2 rfl (by omega) _ _ _ rfl (hown2.alloc _) ⟨w3.heap.size, 0, none⟩ 1 1 [.string (bs yp), .int .i64 (yo : Nat)] rfl rfl (news_2' _ _ _ _) (packD_one ⟨yp, yo⟩) (by omega) (by unfold maxLen; omega) (by omega) (by simp; omega) (w3.heap.size + 1) (by simp) ?_; intro g1 cap1 w4 hown4 hgrow hat hlt1))
        have R := step_gen2 packC (x := ⟨yp, yo⟩) rfl hown hbel (HB2.out.alloc hz2 _) hown4 hgrow
        clear hown4 hgrow hown hown2
        go_wp2
        go_roundw
        case rel => exact ⟨k + 1, _, by omega, by simp; omega, by go_num, R.1, R.2, HF⟩
        case measure => simp [intOf] <;> omega
      · have HF : Hid (res = acc ++ withoutR (l.drop (k + 1)) x) := by unfold Hid; rw [hall.out]; exact HNO.out hh
        have HBE := hid' (hbel.trans (HB2.out.mono hz))
        rw [hh] at HHA
        clear hh hall HYE HNO
        go_wp2_with fail
        refine HHA.out.mono ?_
        rintro e w3 ⟨he, hw⟩
        subst he hw
        go_wp2
        go_roundw
        case rel => exact ⟨k + 1, acc, by omega, by omega, by go_num, hown2, HBE.out, HF⟩
        case measure => simp [intOf] <;> omega
    · have HF : Hid (res = acc) := by unfold Hid; rw [hall.out, wtd_end l acc x k hlt]
      have HRX := hid' (show RowX packC 2 146 wr _ acc from RowX.of_own hown)
      obtain ⟨oa, oc, rfl⟩ := own_slice hown
      clear hown hall
      go_wp2
      go_ret
      refine ⟨_, rfl, ?_, hbel⟩
      rw [HF.out]; exact HRX.out


/-- What a site must be for Slim. -/
structure SlOk (s : SiteD) : Prop where
  ok : DOk s
  le : s.packs.length ≤ 40
  of : ∀ p ∈ s.packs, p.of < s.stock.length
  path : ∀ p ∈ s.packs, p.path.length ≤ 900

set_option maxHeartbeats 4000000 in
theorem spare_any (b : Nat) (s : SiteD) (w : World) (hs : DAt w b s) (hok : SlOk s) :
    Calls Tryz.prog 100 #[.pointer (some ⟨b, 0, none⟩)] w fun e w' => ∃ a n c, e = .returned (.tuple #[.slice a n c, .bool (spareR s.stock s.needs s.packs).isSome]) ∧ (∀ m, spareR s.stock s.needs s.packs = some m → PacksI w' (.slice a n c) m) ∧ Below w.heap.size w w' := by
  obtain ⟨v2, e2, r2⟩ := hs.packs
  obtain ⟨pa, pc, rfl⟩ := RowX.form r2
  obtain ⟨v1, e1, r1⟩ := hs.needs
  obtain ⟨na, nc, rfl⟩ := RowX.form r1
  have hlt := hs.lt
  have hle := hok.le
  have HS := hid' hs
  have H1 := hid' r1
  have H2 := hid' r2
  have HW := hid' (fun i w h hi => without_any (.slice pa s.packs.length pc) s.packs i w h hi (by omega) hok.path)
  have HA := hid' (fun (m : List PackD) a c w (hm : ∀ p ∈ m, p ∈ s.packs) (hml : m.length ≤ s.packs.length) h1 h2 h3 => all_any b s na s.needs.length nc s.needs a m.length c m w h1 (NeedsI.r h2) (by have := hok.ok.nl; omega) (PacksI.r h3) (by omega) (fun p hp => hok.of p (hm p hp)) (fun e he => by have := (hok.ok.st.2 e he).1; omega))
  have HM := hid' (fun (m : List PackD) a c a' c' w (hm : ∀ p ∈ m, p ∈ s.packs) (hml : m.length ≤ s.packs.length) h1 h2 h3 => allMet_any b s a m.length c m a' (allR s.stock s.needs m).length c' (allR s.stock s.needs m) w h1 (PacksI.r h2) (by omega) h3 (by have := allR_len (nd := s.needs) hok.ok.st (fun p hp => hok.of p (hm p hp)); have := hok.ok.nl; omega) (allR_ok hok.ok.st hok.ok.no (fun p hp => ⟨hok.of p (hm p hp), by have := hok.path p (hm p hp); omega⟩)) (fun p hp => hok.of p (hm p hp)))
  have HR : Hid (spareR s.stock s.needs s.packs = spareGo s.stock s.needs s.packs s.packs.length) := rfl
  generalize spareR s.stock s.needs s.packs = res at *
  clear hs r1 r2 hok
  go_enter Tryz.func100, Tryz.ntmps100
  go_wp2
  go_loopw [4] (fun i wr => ∃ j : Nat, j ≤ s.packs.length ∧ i = .int .i64 ((j : Int) - 1) ∧ Below w.heap.size w wr ∧ Hid (res = spareGo s.stock s.needs s.packs j)) (fun i _ => (intOf i + 1).toNat)
  case atStart => exact ⟨s.packs.length, Nat.le_refl _, by go_num, Below.refl _ _, HR⟩
  case round =>
    obtain ⟨j, hj, rfl, hbel, hall⟩ := hrel
    have hz := hbel.size
    cases j with
    | zero =>
      have HF : Hid (res = none) := hall.out
      go_wp2
      go_ret2
      exact ⟨none, 0, 0, by rw [HF.out]; rfl, fun m hm => by rw [HF.out] at hm; simp at hm, hbel⟩
    | succ j =>
      have hbw : b < wr.heap.size := by omega
      have c1 := ((bcell hbel).1 b 1 hlt).trans e1
      have c2 := ((bcell hbel).1 b 2 hlt).trans e2
      have HWI := hid' (HW.out j wr (RowX.below H2.out hbel) (by omega))
      have HML : Hid ((∀ p ∈ withoutR s.packs (packAt s.packs j).path, p ∈ s.packs) ∧ (withoutR s.packs (packAt s.packs j).path).length ≤ s.packs.length) := ⟨fun p hp => wtd_mem hp, wtd_len _ _⟩
      have HYE := hid' (spg_yes (st := s.stock) (nd := s.needs) (l := s.packs) (i := j))
      have HNO := hid' (spg_no (st := s.stock) (nd := s.needs) (l := s.packs) (i := j))
      generalize withoutR s.packs (packAt s.packs j).path = m at *
      have ej : (((j + 1 : Nat) : Int) - 1) = (j : Int) := by omega
      rw [ej]
      have j0 : (0 : Int) ≤ (j : Int) := by omega
      go_wp2_with fail
      refine HWI.out.mono ?_
      rintro e w2 ⟨mv, rfl, hm, hb2⟩
      obtain ⟨ma, mc, rfl⟩ := RowX.form hm
      have HB2 := hid' (hbel.trans (hb2.mono hz))
      have hz2 := HB2.out.size
      have d1 := ((bcell hb2).1 b 1 hbw).trans c1
      have hb2w : b < w2.heap.size := by omega
      have HI2 := hid' hm
      have HAL := hid' (HA.out m ma mc w2 HML.out.1 HML.out.2 (HS.out.below HB2.out).site (RowX.below H1.out HB2.out) hm)
      clear hm hb2 c1 c2
      go_wp2_with fail
      refine HAL.out.mono ?_
      rintro e w3 ⟨wv, rfl, hown3, hb3⟩
      obtain ⟨wa, wc, rfl⟩ := own_slice hown3
      have HB3 := hid' (HB2.out.trans (hb3.mono hz2))
      have hz3 := HB3.out.size
      have HI3 := hid' (RowX.below HI2.out hb3)
      have HAM := hid' (HM.out m ma mc wa wc w3 HML.out.1 HML.out.2 (HS.out.below HB3.out).site HI3.out ⟨rfl, RowR.of_own hown3⟩)
      clear hown3 hb3
      generalize (allR s.stock s.needs m).length = al at *
      rcases hmet : allMetR s.stock m (allR s.stock s.needs m) with _ | _
      · have HF : Hid (res = spareGo s.stock s.needs s.packs j) := by unfold Hid; rw [hall.out]; exact HNO.out hmet
        rw [hmet] at HAM
        clear hmet hall HYE HNO
        go_wp2_with fail
        refine HAM.out.mono ?_
        rintro e w4 ⟨rfl, hb4⟩
        have HB4 := hid' (HB3.out.trans (hb4.mono hz3))
        clear hb4
        go_wp2
        go_roundw
        case rel => exact ⟨j, by omega, by go_num, HB4.out, HF⟩
        case measure => simp [intOf] <;> omega
      · have HF : Hid (res = some m) := by unfold Hid; rw [hall.out]; exact HYE.out hmet
        rw [hmet] at HAM
        clear hmet hall HYE HNO
        go_wp2_with fail
        refine HAM.out.mono ?_
        rintro e w4 ⟨rfl, hb4⟩
        have HB4 := hid' (HB3.out.trans (hb4.mono hz3))
        have HI4 := hid' (RowX.below HI3.out hb4)
        clear hb4
        go_wp2
        go_ret2
        exact ⟨ma, m.length, mc, by rw [HF.out]; rfl, fun m' hm' => by rw [HF.out] at hm'; rw [← Option.some.inj hm']; exact HI4.out, HB4.out⟩

end Hst
end Go.Proofs.YtecocheolbkneaaGreatDoor
namespace Go.Proofs.YtecocheolbkneaaGreatDoor
open Go.RowKit
namespace Hst
set_option maxRecDepth 100000

theorem SlOk.next {s : SiteD} {m : List PackD} (h : SlOk s) (hl : m.length ≤ s.packs.length) (hm : ∀ p ∈ m, p ∈ s.packs) : SlOk ⟨s.stock, s.needs, m⟩ :=
  ⟨⟨h.ok.st, h.ok.nl, h.ok.no, by have := h.le; simp only; omega⟩, by have := h.le; simp only; omega, fun p hp => h.of p (hm p hp), fun p hp => h.path p (hm p hp)⟩
/-- How long the tree of the site at a block is. -/
def lenAt (w : World) (b : Nat) : Nat := match w.cell? ⟨b, 2, none⟩ with
  | some v => lenOf v
  | none => 0
theorem lenAt_of {w : World} {b n c : Nat} {a : Option Addr} (h : w.cell? ⟨b, 2, none⟩ = some (.slice a n c)) : lenAt w b = n := by unfold lenAt; rw [h]; rfl
theorem DAt.len {w : World} {b : Nat} {s : SiteD} (h : DAt w b s) : lenAt w b = s.packs.length := by
  obtain ⟨v, e, r⟩ := h.packs
  obtain ⟨a, c, rfl⟩ := RowX.form r
  exact lenAt_of e

set_option maxHeartbeats 4000000 in
theorem slimD_any (b : Nat) (s : SiteD) (w : World) (hs : DAt w b s) (hok : SlOk s) :
    Calls Tryz.prog 61 #[.pointer (some ⟨b, 0, none⟩)] w fun e w' => e = .returned (.int .i64 (slimR s).2) ∧ SMv b w w' ∧ DAt w' b (slimR s).1 := by
  obtain ⟨v2, e2, r2⟩ := hs.packs
  obtain ⟨pa, pc, rfl⟩ := RowX.form r2
  have hlt := hs.lt
  have hle := hok.le
  have HS := hid' hs
  have HO := hid' hok
  have HR : Hid (slimR s = (⟨s.stock, s.needs, slimL s.stock s.needs s.packs⟩, (s.packs.length : Int) - ((slimL s.stock s.needs s.packs).length : Int))) := rfl
  generalize slimR s = sr at *
  generalize hres : slimL s.stock s.needs s.packs = res at *
  have HRS := hid' hres
  clear hs r2 hok hres
  go_enter Tryz.func61, Tryz.ntmps61
  go_wp2
  go_loopw [4] (fun v4 wr => ∃ (cur : List PackD) (more : Bool), v4 = .bool more ∧ cur.length ≤ s.packs.length ∧ Hid (SMv b w wr ∧ DAt wr b ⟨s.stock, s.needs, cur⟩ ∧ SlOk ⟨s.stock, s.needs, cur⟩ ∧ (more = true → res = slimL s.stock s.needs cur) ∧ (more = false → res = cur))) (fun v4 wr => if flagOf v4 = true then lenAt wr b + 1 else 0)
  case atStart => exact ⟨s.packs, true, rfl, Nat.le_refl _, ⟨SMv.of_below (Below.refl _ _), HS.out, HO.out, fun _ => HRS.out.symm, fun h => absurd h (by simp)⟩⟩
  case round =>
    obtain ⟨cur, more, rfl, hcl, hall⟩ := hrel
    have HMV := hid' hall.out.1
    have HD := hid' hall.out.2.1
    have HK := hid' hall.out.2.2.1
    have HLN := hid' (DAt.len HD.out)
    obtain ⟨v2', t2, q2⟩ := HD.out.packs
    obtain ⟨qa, qc, rfl⟩ := RowX.form q2
    have hlw := HD.out.lt
    clear q2
    simp only at t2
    cases more
    · have HF := hid' (hall.out.2.2.2.2 rfl)
      have HN : Hid (cur.length = res.length) := by unfold Hid; rw [HF.out]
      clear hall
      go_wp2
      go_ret
      refine ⟨ret_int (by rw [HR.out]; simp only; rw [← HN.out]), HMV.out, ?_⟩
      rw [HR.out, HF.out]; exact HD.out
    · have HF := hid' (hall.out.2.2.2.1 rfl)
      have HSP := hid' (spare_any b ⟨s.stock, s.needs, cur⟩ wr HD.out HK.out)
      simp only at HSP
      clear hall
      rcases hsp : spareR s.stock s.needs cur with _ | m
      · have HG : Hid (res = cur) := by unfold Hid; rw [HF.out, slim_none hsp]
        rw [hsp] at HSP
        clear hsp
        simp only [Option.isSome_none] at HSP
        go_wp2_with fail
        refine HSP.out.mono ?_
        rintro e w1 ⟨ra, rn, rc, rfl, -, hb1⟩
        have HD1 := hid' (HD.out.below hb1)
        have HM1 := hid' (HMV.out.trans (SMv.of_below hb1))
        clear hb1
        go_wp2
        go_roundw
        case rel => exact ⟨cur, false, rfl, hcl, ⟨HM1.out, HD1.out, HK.out, fun h => absurd h (by simp), fun _ => HG.out⟩⟩
        case measure => simp [flagOf]
      · have HG : Hid (res = slimL s.stock s.needs (prunedR s.stock s.needs m)) := by unfold Hid; rw [HF.out, slim_some hsp]
        have HL1 : Hid ((prunedR s.stock s.needs m).length < cur.length) := by unfold Hid; have := (spare_lt hsp).1; have := prR_le s.stock s.needs m; omega
        have HKM : Hid (SlOk ⟨s.stock, s.needs, m⟩) := HK.out.next (Nat.le_of_lt (spare_lt hsp).1) (spare_lt hsp).2
        have HKN : Hid (SlOk ⟨s.stock, s.needs, prunedR s.stock s.needs m⟩) := HKM.out.next (prR_le _ _ _) (fun p hp => prR_sub hp)
        rw [hsp] at HSP
        clear hsp
        simp only [Option.isSome_some] at HSP
        go_wp2_with fail
        refine HSP.out.mono ?_
        rintro e w1 ⟨ra, rn, rc, rfl, hin, hb1⟩
        have hm1 := hin m rfl
        have hrn : rn = m.length := by obtain ⟨_, _, e⟩ := RowX.form hm1; simp at e; exact e.2.1
        subst hrn
        have HD1 := hid' (HD.out.below hb1)
        have HM1 := hid' (HMV.out.trans (SMv.of_below hb1))
        obtain ⟨v1, u1, n1⟩ := HD1.out.needs
        obtain ⟨na, nc, rfl⟩ := RowX.form n1
        have hlt1 := HD1.out.lt
        have HPR := hid' (prunedD_any b ⟨s.stock, s.needs, cur⟩ (.slice na s.needs.length nc) s.needs (.slice ra m.length rc) m w1 HD1.out n1 hm1 (by have := HK.out.ok.nl; simp only at this; omega) (by have := HKM.out.le; simp only at this; omega) HKM.out.of (fun e he => by have := (HK.out.ok.st.2 e he).1; omega) (allR_ok HKM.out.ok.st HKM.out.ok.no (fun p hp => ⟨HKM.out.of p hp, by have := HKM.out.path p hp; omega⟩)) (by have := allR_len (nd := s.needs) HKM.out.ok.st HKM.out.of; have := HKM.out.le; have := HK.out.ok.nl; simp only at *; omega))
        clear hb1 hin hm1 n1
        simp only at u1 HPR
        generalize prunedR s.stock s.needs m = pm at *
        go_wp2_with fail
        refine HPR.out.mono ?_
        rintro e w2 ⟨pv, rfl, hp2, hb2⟩
        obtain ⟨xa, xc, rfl⟩ := RowX.form hp2
        have HD2 := hid' (HD1.out.below hb2)
        have HM2 := hid' (HM1.out.trans (SMv.of_below hb2))
        have HDS := hid' (HD2.out.setP hp2)
        have f2 := HD2.out.f2
        have hlt2 := HD2.out.lt
        obtain ⟨z2, y2, -⟩ := HD2.out.packs
        have HM3 := hid' (HM2.out.trans (SMv.set w2 b 2 (.slice xa pm.length xc)))
        have HLM : Hid (lenAt (w2.setCell ⟨b, 2, none⟩ (.slice xa pm.length xc)) b = pm.length) := DAt.len HDS.out
        clear hb2 hp2
        go_wp2
        go_roundw
        case rel => exact ⟨pm, true, rfl, by have := HL1.out; omega, ⟨HM3.out, HDS.out, HKN.out, fun _ => HG.out, fun h => absurd h (by simp)⟩⟩
        case measure => have h1 := HL1.out; have h2 := HLM.out; have h3 := HLN.out; simp [flagOf, h2, h3] <;> omega

end Hst
end Go.Proofs.YtecocheolbkneaaGreatDoor
namespace Go.Proofs.YtecocheolbkneaaGreatDoor
namespace Hst

theorem without_same {stx : List EntX} {l : List PackD} {x : Tx} (hx : x ≠ []) : withoutP (l.map (toX stx)) x = (withoutR l x).map (toX stx) := by
  unfold withoutP withoutR
  rw [List.filter_map]
  congr 1
  apply List.filter_congr
  intro p _
  simp only [Function.comp]
  rw [under_same p.path x hx, Bool.not_or]
  rfl
theorem pkPath_same {stx : List EntX} {l : List PackD} {i : Nat} : pkPath (l.map (toX stx)) i = (packAt l i).path := by
  unfold pkPath packAt
  rw [List.map_map]
  simp only [List.getD_eq_getElem?_getD, List.getElem?_map]
  cases l[i]? <;> rfl
theorem spareGo_same {stx : List EntX} {st : List EntryD} {ndx : List NeedX} {nd : List NeedD} {l : List PackD} {t : List PkX} (hs : StockSame stx st) (ht : TreeSame stx l t) (he : t = l.map (toX stx)) (hn : All2 NeedSame ndx nd) : ∀ i, i ≤ l.length → spareGoP ndx t i = (spareGo st nd l i).map fun m => m.map (toX stx)
  | 0, _ => rfl
  | i + 1, hi => by
    have hx : (packAt l i).path ≠ [] := by
      refine tree_ne' ht (p := packAt l i) ?_
      unfold packAt
      rw [List.getD_eq_getElem?_getD, List.getElem?_eq_getElem (by omega)]
      exact List.getElem_mem _
    have hp : pkPath t i = (packAt l i).path := by rw [he]; exact pkPath_same
    have hw : withoutP t (packAt l i).path = (withoutR l (packAt l i).path).map (toX stx) := by rw [he]; exact without_same hx
    have hso := sound_same hs (without_tree ht he (packAt l i).path) rfl hn
    rw [spareGoP, spareGo, hp, hw, hso, spareGo_same hs ht he hn i (by omega)]
    split <;> rfl
theorem slimGo_same {stx : List EntX} {st : List EntryD} {ndx : List NeedX} {nd : List NeedD} (hs : StockSame stx st) (hn : SiteNeeds ndx nd) (hn2 : All2 NeedSame ndx nd) (v : Value) : ∀ (f : Nat) (l : List PackD) (t : List PkX), TreeSame stx l t → t = l.map (toX stx) → Folded l → slimGoP v ndx f t = (slimGo st nd f l).map (toX stx) ∧ TreeSame stx (slimGo st nd f l) (slimGoP v ndx f t) ∧ Folded (slimGo st nd f l)
  | 0, l, t, ht, he, hf => ⟨he, ht, hf⟩
  | f + 1, l, t, ht, he, hf => by
    have hl : t.length = l.length := ht.len
    have hsp : spareP ndx t = (spareR st nd l).map fun m => m.map (toX stx) := by
      unfold spareP spareR
      rw [hl]
      exact spareGo_same hs ht he hn2 l.length (Nat.le_refl _)
    rw [slimGoP, slimGo, hsp]
    rcases e : spareR st nd l with _ | m
    · exact ⟨he, ht, hf⟩
    · simp only [Option.map_some]
      obtain ⟨j, hj, rfl⟩ := spg_some _ e
      have hw := without_tree ht he (packAt l j).path
      obtain ⟨h1, h2⟩ := inUse_same hs hn hw v
      exact slimGo_same hs hn hn2 v f _ _ h2 h1 (pruned_folded hs hn hw)
theorem slim_same {sx : SiteX} {sd : SiteD} (h : SiteSame sx sd) : (slimR sd).2 = (slimP sx).2 ∧ SiteSame (slimP sx).1 (slimR sd).1 := by
  have hl := h.tr.len
  obtain ⟨h1, h2, h3⟩ := slimGo_same h.st (siteNeeds_of h.nd h.rs) h.nd sx.nv sd.packs.length sd.packs sx.tree h.tr h.eq h.fold
  have e : slimTP sx.nv sx.needs sx.tree = (slimL sd.stock sd.needs sd.packs).map (toX sx.stock) := by
    unfold slimTP slimL
    rw [hl]; exact h1
  have ht : TreeSame sx.stock (slimL sd.stock sd.needs sd.packs) (slimTP sx.nv sx.needs sx.tree) := by
    unfold slimTP slimL
    rw [hl]; exact h2
  refine ⟨?_, ⟨h.st, h.h6, h.s40, h.nd, h.rs, h.n6, ht, e, ?_, h3⟩⟩
  · unfold slimR slimP
    simp only
    rw [e, List.length_map, hl]
  · have := slim_le (st := sd.stock) (nd := sd.needs) _ sd.packs (Nat.le_refl _)
    have := h.l40
    simp only [slimR]
    omega

end Hst
end Go.Proofs.YtecocheolbkneaaGreatDoor
namespace Go.Proofs.YtecocheolbkneaaGreatDoor
open Go.RowKit
namespace Hst
set_option maxRecDepth 100000

set_option maxHeartbeats 1000000 in
theorem isUnder_any (p x : ByteArray) (w : World) (hx : x.size ≤ 50000) :
    Calls Tryz.prog 150 #[.string p, .string x] w fun e w' => e = .returned (.bool (isUnderP (tx p) (tx x))) ∧ w' = w := by
  have HTB : Hid (tx (x ++ (⟨#[47]⟩ : ByteArray)) = tx x ++ [47]) := by unfold Hid; have e : x ++ (⟨#[47]⟩ : ByteArray) = bs (tx x ++ [47]) := (by rw [← bs_append, bs_tx]; rfl); rw [e, tx_bs]
  have h8 := tx_length x
  have h9 := tx_length p
  by_cases h : x.size + 1 ≤ p.size
  · have HE : Hid (isUnderP (tx p) (tx x) = ((p.extract 0 (x.size + 1)).toList == (x ++ (⟨#[47]⟩ : ByteArray)).toList)) := by
      unfold Hid isUnderP
      rw [tx_toList, tx_toList, tx_extract, HTB.out, List.drop_zero, tx_length]
      simp only [Nat.sub_zero]
      generalize (tx p).take (x.size + 1) = z
      by_cases e : z = tx x ++ [47] <;> simp [e]
    have hl : (x.size : Int) + 1 ≤ (p.size : Int) := by omega
    clear HTB h8 h9
    go_enter Tryz.func150, Tryz.ntmps150
    go_wp2
    go_ret
    exact ⟨ret_bool (by rw [HE.out]), rfl⟩
  · have HE : Hid (isUnderP (tx p) (tx x) = false) := by
      unfold Hid isUnderP
      refine decide_eq_false fun e => ?_
      have := congrArg List.length e
      rw [List.length_take] at this
      simp at this
      omega
    have hl : ¬ (x.size : Int) + 1 ≤ (p.size : Int) := by omega
    clear HTB h8 h9
    go_enter Tryz.func150, Tryz.ntmps150
    go_wp2
    go_ret
    exact ⟨ret_bool (by rw [HE.out]), rfl⟩

theorem wp_yes (t acc : List PkX) (x : Tx) (k : Nat) (hk : k < t.length) (h : (!decide (t[k].path = x) && !isUnderP t[k].path x) = true) : acc ++ withoutP (t.drop k) x = (acc ++ [t[k]]) ++ withoutP (t.drop (k + 1)) x := by
  unfold withoutP; rw [List.drop_eq_getElem_cons hk, List.filter_cons, if_pos h]; simp
theorem wp_no (t acc : List PkX) (x : Tx) (k : Nat) (hk : k < t.length) (h : (!decide (t[k].path = x) && !isUnderP t[k].path x) = false) : acc ++ withoutP (t.drop k) x = acc ++ withoutP (t.drop (k + 1)) x := by
  unfold withoutP; rw [List.drop_eq_getElem_cons hk, List.filter_cons, if_neg (by rw [h]; simp)]
theorem wp_end (t acc : List PkX) (x : Tx) (k : Nat) (hk : ¬ k < t.length) : acc ++ withoutP (t.drop k) x = acc := by
  rw [List.drop_of_length_le (by omega)]; simp [withoutP]
theorem wp_mem {t : List PkX} {x : Tx} {p : PkX} (h : p ∈ withoutP t x) : p ∈ t := (List.mem_filter.1 h).1

set_option maxHeartbeats 4000000 in
theorem withoutT_any (v : Value) (t : List PkX) (x : ByteArray) (w : World) (hl : PksIn w v t) (hn : t.length ≤ 1000) (hx : x.size ≤ 50000) :
    Calls Tryz.prog 116 #[.agg #[v], .string x] w fun e w' => ∃ v', e = .returned (.agg #[v']) ∧ PksIn w' v' (withoutP t (tx x)) ∧ Below w.heap.size w w' := by
  obtain ⟨i0, hi, hz0, hz1, hz2⟩ := info_parts info_pkX
  obtain ⟨a, cap, rfl⟩ := hl.1.form
  have HL := hid' hl
  have HP : Hid (withoutP t (tx x) = [] ++ withoutP (t.drop 0) (tx x)) := rfl
  have HI : Hid (∀ (w' : World), Below w.heap.size w w' → ∀ n ∈ withoutP t (tx x), EntIn w' n.e) := fun w' hb n hn => (HL.out.2 n (wp_mem hn)).below hb
  generalize withoutP t (tx x) = res at *
  clear hl
  go_enter Tryz.func116, Tryz.ntmps116
  go_wp2
  have hbw := ((Below.refl w.heap.size w).alloc (Nat.le_refl _) (.cells #[.slice a t.length cap] 73)).alloc (by simp) (.cells #[.slice none 0 0] 73)
  have e4 : ((w.alloc (.cells #[.slice a t.length cap] 73)).alloc (.cells #[.slice none 0 0] 73)).cell? ⟨w.heap.size + 1, 0, none⟩ = some (.slice none 0 0) := by simp [go_sem]
  have e5 : ((w.alloc (.cells #[.slice a t.length cap] 73)).alloc (.cells #[.slice none 0 0] 73)).frozen? ⟨w.heap.size + 1, 0, none⟩ = false := by simp [go_sem]
  have hsz : ((w.alloc (.cells #[.slice a t.length cap] 73)).alloc (.cells #[.slice none 0 0] 73)).heap.size = w.heap.size + 2 := by simp
  generalize (w.alloc (.cells #[.slice a t.length cap] 73)).alloc (.cells #[.slice none 0 0] 73) = W at *
  have HW := hid' hbw
  have HL1 := hid' (HL.out.below hbw)
  have HS := hid' hsz
  clear hbw
  go_loopw [5, 11] (fun v i wr => ∃ (k : Nat) (acc : List PkX), k ≤ t.length ∧ acc.length ≤ k ∧ i = .int .i64 k ∧ wr.ownsRow W.heap.size 113 4 v acc.length (acc.flatMap pkXC) ∧ Below W.heap.size W wr ∧ Hid (res = acc ++ withoutP (t.drop k) (tx x))) (fun _ i _ => t.length - (intOf i).toNat)
  case atStart => exact ⟨0, [], Nat.zero_le _, by simp, rfl, World.ownsRow_nil _ _ _ _, Below.refl _ _, HP⟩
  case round =>
    obtain ⟨k, acc, hk, hacc, rfl, hown, hbel, hall⟩ := hrel
    have hz := hbel.size
    have hwz : w.heap.size + 1 < W.heap.size := by have := HS.out; omega
    have hwr : w.heap.size + 1 < wr.heap.size := by omega
    clear HP
    by_cases hlt : k < t.length
    · obtain ⟨g, o, cap', hv, hg, hc⟩ := (HL1.out.below hbel).1.pks hlt
      simp at hv
      obtain ⟨rfl, rfl⟩ := hv
      obtain ⟨c0, c1, c2, c3⟩ := hc k hlt
      obtain ⟨sa, sc, hsp⟩ := (HL.out.2 t[k] (List.getElem_mem hlt)).form'
      have HY := hid' (wp_yes t acc (tx x) k hlt)
      have HN := hid' (wp_no t acc (tx x) k hlt)
      have HU := hid' (fun w => isUnder_any (bs t[k].path) x w hx)
      rw [tx_bs] at HU
      clear hc
      generalize t[k] = y at *
      obtain ⟨yp, yn, yv, ysp, yd⟩ := y
      simp only at hsp c0 c1 c2 c3 HY HN HU
      subst hsp
      by_cases he : yp = tx x
      · have HF : Hid (res = acc ++ withoutP (t.drop (k + 1)) (tx x)) := by unfold Hid; rw [hall.out]; exact HN.out (by rw [decide_eq_true he]; rfl)
        have hb : ((bs yp).toList == x.toList) = true := by rw [tx_toList, tx_toList, tx_bs, he]; simp
        clear hall HY HN HU he
        go_wp2
        go_roundw
        case rel => exact ⟨k + 1, acc, by omega, by omega, by go_num, hown.alloc _, hbel.alloc hz _, HF⟩
        case measure => simp [intOf] <;> omega
      · have hb : ((bs yp).toList == x.toList) = false := by rw [tx_toList, tx_toList, tx_bs]; simpa using he
        rw [decide_eq_false he] at HY HN
        simp only [Bool.not_false, Bool.true_and] at HY HN
        clear he
        rcases hu : isUnderP yp (tx x) with _ | _
        · rw [hu] at HU
          have HF : Hid (res = (acc ++ [⟨yp, yn, yv, .slice sa yd.length sc, yd⟩]) ++ withoutP (t.drop (k + 1)) (tx x)) := by unfold Hid; rw [hall.out]; exact HY.out (by rw [hu]; rfl)
          clear hall HY HN hu
          go_wp2_with fail
          refine (HU.out _).mono ?_
          rintro e w1 ⟨rfl, rfl⟩
          go_wp2_with (first | (at_builtin; refine wpList_append_lies _ rfl _ _ 71 rfl W.heap.size 113 i0 (.agg #[.string ByteArray.empty, .string ByteArray.empty, .int .i64 0, .slice none 0 0]) 4 64 Tryz.underlying71 hi hz0 hz1 hz2 rfl (by omega) _ _ _ rfl ((hown.alloc _).alloc _) ⟨wr.heap.size + 1, 0, none⟩ 1 1 [.string (bs yp), .string (bs yn), .int .i64 yv, .slice sa yd.length sc] rfl rfl (news_4b _ _ _ _ _ _ _) (pkX_one ⟨yp, yn, yv, _, yd⟩ rfl) (by omega) (by unfold maxLen; omega) (by omega) (by simp; omega) (wr.heap.size + 2) (by simp) ?_; intro g1 cap1 w2 hown1 hgrow hat hlt1))
          have R := step_gen2 pkXC (x := ⟨yp, yn, yv, .slice sa yd.length sc, yd⟩) rfl hown hbel (((Below.refl _ _).alloc (Nat.le_refl _) _).alloc (by simp) _) hown1 hgrow
          clear hown1 hgrow hown
          go_wp2
          go_roundw
          case rel => exact ⟨k + 1, _, by omega, by simp; omega, by go_num, R.1, R.2, HF⟩
          case measure => simp [intOf] <;> omega
        · rw [hu] at HU
          have HF : Hid (res = acc ++ withoutP (t.drop (k + 1)) (tx x)) := by unfold Hid; rw [hall.out]; exact HN.out (by rw [hu]; rfl)
          clear hall HY HN hu
          go_wp2_with fail
          refine (HU.out _).mono ?_
          rintro e w1 ⟨rfl, rfl⟩
          go_wp2
          go_roundw
          case rel => exact ⟨k + 1, acc, by omega, by omega, by go_num, hown.alloc _, hbel.alloc hz _, HF⟩
          case measure => simp [intOf] <;> omega
    · have HF : Hid (res = acc) := by unfold Hid; rw [hall.out, wp_end t acc (tx x) k hlt]
      have h4 := ((bcell hbel).1 (w.heap.size + 1) 0 hwz).trans e4
      have h5 := ((bcell hbel).2 (w.heap.size + 1) 0 hwz).trans e5
      obtain ⟨va, vc, rfl⟩ := own_slice hown
      have HR := hid' (And.intro hown hbel)
      have HB := hid' (HW.out.trans (hbel.mono (by omega)))
      clear hown hbel hall
      go_wp2
      refine bodyPost_ret (v := .agg #[.slice va acc.length vc]) (by simp [results, Tryz.results116, go_sem, *]) rfl ⟨_, rfl, ⟨?_, ?_⟩, HB.out.setCell (show w.heap.size ≤ w.heap.size + 1 by omega) _⟩
      · rw [HF.out]
        exact RowX.of_own (ownsRow_setCell_below HR.out.1 hwz _)
      · exact HI.out _ (HB.out.setCell (show w.heap.size ≤ w.heap.size + 1 by omega) _)

end Hst
end Go.Proofs.YtecocheolbkneaaGreatDoor
namespace Go.Proofs.YtecocheolbkneaaGreatDoor
open Go.RowKit
namespace Hst
set_option maxRecDepth 100000

theorem spp_yes {nd : List NeedX} {t : List PkX} {i : Nat} (h : soundP (withoutP t (pkPath t i)) nd = true) : spareGoP nd t (i + 1) = some (withoutP t (pkPath t i)) := by rw [spareGoP, if_pos h]
theorem spp_no {nd : List NeedX} {t : List PkX} {i : Nat} (h : soundP (withoutP t (pkPath t i)) nd = false) : spareGoP nd t (i + 1) = spareGoP nd t i := by rw [spareGoP, if_neg (by rw [h]; simp)]
theorem pkp_at {t : List PkX} {j : Nat} (h : j < t.length) : pkPath t j = t[j].path := by
  unfold pkPath
  rw [List.getD_eq_getElem?_getD, List.getElem?_map, List.getElem?_eq_getElem h]; rfl

attribute [local go_sem ↓] Go.wp_at_zero Go.wp_at_succ

set_option maxHeartbeats 4000000 in
theorem spareLast_any (v : Value) (t : List PkX) (nv : Value) (nd : List NeedX) (w : World) (hl : PksIn w v t) (ht : t.length ≤ 1000) (hp : PathsOk t) (hn : NeedsIn w nv nd) (hnl : nd.length ≤ 1000) :
    Calls Tryz.prog 74 #[.agg #[v], nv] w fun e w' => ∃ v', e = .returned (.tuple #[.agg #[v'], .bool (spareP nd t).isSome]) ∧ PksIn w' v' ((spareP nd t).getD t) ∧ Below w.heap.size w w' := by
  obtain ⟨a, cap, rfl⟩ := hl.1.form
  obtain ⟨na, nc, rfl⟩ := hn.1.form
  have hbw := ((Below.refl w.heap.size w).alloc (Nat.le_refl _) (.cells #[.slice a t.length cap] 73)).alloc (by simp) (.cells #[.slice none 0 0] 73)
  have HL := hid' (hl.below hbw)
  have HN := hid' (hn.below hbw)
  have HW := hid' hbw
  have HWI := hid' (fun x w h hx => withoutT_any (.slice a t.length cap) t x w h ht hx)
  have HSO := hid' (fun (m : List PkX) mv w (hm : ∀ p ∈ m, p ∈ t) (hml : m.length ≤ t.length) h1 h2 => isSound_any mv m (.slice na nd.length nc) nd w h1 (by omega) (fun p hpm => hp p (hm p hpm)) h2 hnl)
  have HR : Hid (spareP nd t = spareGoP nd t t.length) := rfl
  have HPO := hid' hp
  generalize spareP nd t = res at *
  have e0 : ((w.alloc (.cells #[.slice a t.length cap] 73)).alloc (.cells #[.slice none 0 0] 73)).cell? ⟨w.heap.size, 0, none⟩ = some (.slice a t.length cap) := by simp [go_sem]
  have e4 : ((w.alloc (.cells #[.slice a t.length cap] 73)).alloc (.cells #[.slice none 0 0] 73)).cell? ⟨w.heap.size + 1, 0, none⟩ = some (.slice none 0 0) := by simp [go_sem]
  have e5 : ((w.alloc (.cells #[.slice a t.length cap] 73)).alloc (.cells #[.slice none 0 0] 73)).frozen? ⟨w.heap.size + 1, 0, none⟩ = false := by simp [go_sem]
  have hsz : ((w.alloc (.cells #[.slice a t.length cap] 73)).alloc (.cells #[.slice none 0 0] 73)).heap.size = w.heap.size + 2 := by simp
  have htg : tagOf ((w.alloc (.cells #[.slice a t.length cap] 73)).alloc (.cells #[.slice none 0 0] 73)) (w.heap.size + 1) = some 73 := by
    have := tag_new (w.alloc (.cells #[.slice a t.length cap] 73)) #[.slice none 0 0] 73
    simpa using this
  have HTG := hid' htg
  have HS := hid' hsz
  clear hl hn hp hbw htg
  go_enter Tryz.func74, Tryz.ntmps74
  go_wp2
  generalize (w.alloc (.cells #[.slice a t.length cap] 73)).alloc (.cells #[.slice none 0 0] 73) = W at *
  go_loopw [6] (fun i wr => ∃ j : Nat, j ≤ t.length ∧ i = .int .i64 ((j : Int) - 1) ∧ Below W.heap.size W wr ∧ Hid (res = spareGoP nd t j)) (fun i _ => (intOf i + 1).toNat)
  case atStart => exact ⟨t.length, Nat.le_refl _, by go_num, Below.refl _ _, HR⟩
  case round =>
    obtain ⟨j, hj, rfl, hbel, hall⟩ := hrel
    have hz := hbel.size
    have hwW : w.heap.size < W.heap.size := by have := HS.out; omega
    have hwW1 : w.heap.size + 1 < W.heap.size := by have := HS.out; omega
    have hwr : w.heap.size < wr.heap.size := by omega
    have hwr1 : w.heap.size + 1 < wr.heap.size := by omega
    have d0 := ((bcell hbel).1 w.heap.size 0 hwW).trans e0
    have d4 := ((bcell hbel).1 (w.heap.size + 1) 0 hwW1).trans e4
    have d5 := ((bcell hbel).2 (w.heap.size + 1) 0 hwW1).trans e5
    have HTR := hid' ((tagOf_below hbel hwW1).trans HTG.out)
    have HLR := hid' (HL.out.below hbel)
    have HBR := hid' (HW.out.trans (hbel.mono (by omega)))
    cases j with
    | zero =>
      have HF : Hid (res = none) := hall.out
      have HPK := hid' (HLR.out.off (But.set wr (w.heap.size + 1) 0 (.slice a t.length cap)) HTR.out (by decide) (by decide) (by decide))
      clear hall
      go_wp2
      refine bodyPost_ret (v := .tuple #[.agg #[.slice a t.length cap], .bool false]) (by simp [results, Tryz.results74, go_sem, *]) rfl ⟨_, by rw [HF.out]; rfl, ?_, HBR.out.setCell (show w.heap.size ≤ w.heap.size + 1 by omega) _⟩
      rw [HF.out]
      exact HPK.out
    | succ j =>
      have hjl : j < t.length := by omega
      obtain ⟨g, o, cap', hv, hg, hc⟩ := HLR.out.1.pks hjl
      simp at hv
      obtain ⟨rfl, rfl⟩ := hv
      obtain ⟨c0, -, -, -⟩ := hc j hjl
      have HPJ := hid' (pkp_at hjl)
      have HWJ := hid' (fun w h => HWI.out (bs t[j].path) w h (by rw [bs_size]; have := HPO.out t[j] (List.getElem_mem hjl); omega))
      rw [tx_bs] at HWJ
      have HML : Hid ((∀ p ∈ withoutP t t[j].path, p ∈ t) ∧ (withoutP t t[j].path).length ≤ t.length) := ⟨fun p hp => wp_mem hp, List.length_filter_le _ _⟩
      have HYE := hid' (spp_yes (nd := nd) (t := t) (i := j))
      have HNO := hid' (spp_no (nd := nd) (t := t) (i := j))
      rw [HPJ.out] at HYE HNO
      clear hc
      generalize withoutP t t[j].path = m at *
      generalize t[j].path = tp at *
      have ej : (((j + 1 : Nat) : Int) - 1) = (j : Int) := by omega
      rw [ej]
      have j0 : (0 : Int) ≤ (j : Int) := by omega
      have j1 : (j : Int) < (t.length : Int) := by omega
      have hg2 : g < wr.heap.size + 1 := by omega
      have hwr2 : w.heap.size < wr.heap.size + 1 := by omega
      have n1 : w.heap.size ≠ wr.heap.size := by omega
      have n2 : wr.heap.size ≠ w.heap.size := by omega
      have n3 : g ≠ wr.heap.size := by omega
      have n4 : wr.heap.size ≠ g := by omega
      go_wp2
      go_cut [7] (fun p wc => ∃ (c : Nat) (ma : Option Addr) (mc : Nat), p = .pointer (some ⟨c, 0, none⟩) ∧ wr.heap.size ≤ c ∧ c < wc.heap.size ∧ wc.cell? ⟨c, 0, none⟩ = some (.slice ma m.length mc) ∧ Below wr.heap.size wr wc ∧ Hid (PksIn wc (.slice ma m.length mc) m))
      case first =>
        go_region_held3 (fun w' => w'.cell? ⟨w.heap.size, 0, none⟩ = some (.slice (some ⟨g, o, none⟩) t.length cap) ∧ w'.cell? ⟨g, o + j * 4, none⟩ = some (.string (bs tp))) (go_keep)
          (first | (go_at_call 116; refine (HWJ.out _ (by first | exact HLR.out.drew | exact HLR.out.below ((Below.refl _ _).alloc (Nat.le_refl _) _).drew)).mono ?_; rintro e w2 ⟨v2, rfl, hin2, hb2⟩; obtain ⟨ma, mc, rfl⟩ := hin2.1.form; have hz2 := (bcell hb2).1; have hz3 := (bcell hb2).2; simp at hz2 hz3))
        · have hb2' := (((Below.refl wr.heap.size wr).drew.trans (hb2.mono (by simp))).alloc (by have := hb2.size; simpa using this) (.cells #[.slice ma m.length mc] 73))
          have hin3 := hin2.below ((Below.refl _ _).alloc (Nat.le_refl _) (.cells #[.slice ma m.length mc] 73))
          have HZ : Hid (wr.heap.size ≤ w2.heap.size) := by unfold Hid; have := hb2.size; simpa using this
          go_wp2_with fail
          go_meet
          exact ⟨w2.heap.size, ma, mc, rfl, HZ.out, by simp, by simp, hb2', hin3⟩
        · have hb2' := ((((Below.refl wr.heap.size wr).alloc (Nat.le_refl _) (.cells #[.slice none 0 0] 73)).drew.trans (hb2.mono (by simp))).setCell (p := ⟨wr.heap.size, 0, none⟩) (Nat.le_refl _) (.slice ma m.length mc))
          have htg : tagOf w2 wr.heap.size = some 73 := by
            rw [tagOf_below hb2 (by simp)]
            exact tag_new wr #[.slice none 0 0] 73
          have hin3 := hin2.off (But.set w2 wr.heap.size 0 (.slice ma m.length mc)) htg (by decide) (by decide) (by decide)
          have HZ : Hid (wr.heap.size < w2.heap.size) := by unfold Hid; have := hb2.size; simp at this; omega
          have hc0 := hz2 wr.heap.size 0 (by omega)
          simp at hc0
          go_wp2_with fail
          go_meet
          exact ⟨wr.heap.size, ma, mc, rfl, Nat.le_refl _, by simpa using HZ.out, by simp [go_sem, hc0], hb2', hin3⟩
      case rest =>
        obtain ⟨c, ma, mc, rfl, hc1, hc2, hc3, hb2, HIN2⟩ := hcut
        have hcc := (bcell hb2).1
        have q4 := (hcc (w.heap.size + 1) 0 hwr1).trans d4
        have q5 := ((bcell hb2).2 (w.heap.size + 1) 0 hwr1).trans d5
        have HTC := hid' ((tagOf_below hb2 hwr1).trans HTR.out)
        have hzc := hb2.size
        have HBC := hid' (hbel.trans (hb2.mono hz))
        have HBC2 := hid' (HBR.out.trans (hb2.mono (by omega)))
        have HSD := hid' (HSO.out m (.slice ma m.length mc) wc HML.out.1 HML.out.2 HIN2.out (HN.out.below HBC.out))
        have h1c : w.heap.size + 1 < wc.heap.size := by omega
        clear hb2 hcc d0 d4 d5 c0
        rcases hso : soundP m nd with _ | _
        · have HF : Hid (res = spareGoP nd t j) := by unfold Hid; rw [hall.out]; exact HNO.out hso
          rw [hso] at HSD
          clear hso hall HYE HNO
          go_wp2_with fail
          refine HSD.out.mono ?_
          rintro e w3 ⟨rfl, hb3⟩
          have HB3 := hid' (HBC.out.trans (hb3.mono (by omega)))
          clear hb3
          go_wp2
          go_roundw
          case rel => exact ⟨j, by omega, by go_num, HB3.out, HF⟩
          case measure => simp [intOf] <;> omega
        · have HF : Hid (res = some m) := by unfold Hid; rw [hall.out]; exact HYE.out hso
          rw [hso] at HSD
          clear hso hall HYE HNO
          go_wp2_with fail
          refine HSD.out.mono ?_
          rintro e w3 ⟨rfl, hb3⟩
          have hcc := (bcell hb3).1
          have p3 := (hcc c 0 hc2).trans hc3
          have p4 := (hcc (w.heap.size + 1) 0 h1c).trans q4
          have p5 := ((bcell hb3).2 (w.heap.size + 1) 0 h1c).trans q5
          have h13 : w.heap.size + 1 < w3.heap.size := by have := hb3.size; omega
          have h1d : c < w3.heap.size := by have := hb3.size; omega
          have HB3 := hid' (HBC2.out.trans (hb3.mono (by omega)))
          have HTD := hid' ((tagOf_below hb3 h1c).trans HTC.out)
          have HPK := hid' ((HIN2.out.below hb3).off (But.set w3 (w.heap.size + 1) 0 (.slice ma m.length mc)) HTD.out (by decide) (by decide) (by decide))
          clear hb3 hcc q4 q5 hc3
          go_wp2
          refine bodyPost_ret (v := .tuple #[.agg #[.slice ma m.length mc], .bool true]) (by simp [results, Tryz.results74, go_sem, *]) rfl ⟨_, by rw [HF.out]; rfl, ?_, HB3.out.setCell (show w.heap.size ≤ w.heap.size + 1 by omega) _⟩
          rw [HF.out]
          exact HPK.out

end Hst
end Go.Proofs.YtecocheolbkneaaGreatDoor
