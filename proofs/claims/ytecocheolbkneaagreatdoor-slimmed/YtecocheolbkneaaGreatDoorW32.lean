/- Dtextb, Mtext, Dlook, Dlast, Dentryof, Dread -/
import Derived.Test.YtecocheolbkneaaGreatDoorW31
import Derived.Test.YtecocheolbkneaaGreatDoorW02
import Derived.Test.YtecocheolbkneaaGreatDoorW21
import Derived.Test.YtecocheolbkneaaGreatDoorW26
import Derived.Test.YtecocheolbkneaaGreatDoorW06
import Derived.Test.YtecocheolbkneaaGreatDoorW12
import Derived.Test.YtecocheolbkneaaGreatDoorW24
import Derived.Test.YtecocheolbkneaaGreatDoorW23
import Derived.Test.YtecocheolbkneaaGreatDoorW29
import Derived.Test.YtecocheolbkneaaGreatDoorW13
namespace Go.Proofs.YtecocheolbkneaaGreatDoor
open Go.RowKit
namespace Hst
set_option maxRecDepth 100000

attribute [local go_sem ↓] Go.wp_at_zero Go.wp_at_succ

set_option maxHeartbeats 4000000 in
theorem textD_any (b : Nat) (s : SiteD) (lv : Value) (l : List PackD) (w : World) (hs : DAt w b s) (hl : PacksI w lv l) (hn : l.length ≤ 5001) (hst : s.stock.length ≤ 1000) (hp : ∀ p ∈ l, p.of < s.stock.length ∧ p.path.length ≤ 5000) (hv : ∀ k, k < s.stock.length → V3Ok (verOf s.stock k)) :
    Calls Tryz.prog 95 #[.pointer (some ⟨b, 0, none⟩), lv] w fun e w' => e = .returned (.string (bs (textR s.stock l))) ∧ Below w.heap.size w w' := by
  obtain ⟨la, lc, rfl⟩ := RowX.form hl
  have hlt := hs.lt
  obtain ⟨sv, zs, es, rs, zeq⟩ := hs.stock
  obtain ⟨sa, sc, rfl⟩ := rs.1.form
  have HZ := hid' zeq
  have hzl : zs.length = s.stock.length := by rw [← zeq]; simp
  have HZL := hid' hzl
  have HRS := hid' rs
  have HL := hid' hl
  have HP := hid' hp
  have HV := hid' hv
  have HR : Hid (textR s.stock l = textGo s.stock true (l.drop 0)) := rfl
  have hzm : zs.length ≤ 1000 := by omega
  generalize textR s.stock l = res at *
  generalize s.stock = st at *
  clear hs hl rs zeq hp hv hst hzl
  go_enter Tryz.func95, Tryz.ntmps95
  go_wp2
  go_loopw [5, 6] (fun t i wr => ∃ (k : Nat) (acc : Tx), k ≤ l.length ∧ acc.length ≤ 5010 * k ∧ t = .string (bs acc) ∧ i = .int .i64 k ∧ Below w.heap.size w wr ∧ Hid (res = acc ++ textGo st (decide (k = 0)) (l.drop k))) (fun _ i _ => l.length - (intOf i).toNat)
  case atStart => exact ⟨0, [], Nat.zero_le _, by simp, rfl, rfl, Below.refl _ _, HR.out⟩
  case round =>
    obtain ⟨k, acc, hk, hacc, rfl, rfl, hbel, hall⟩ := hrel
    have hz := hbel.size
    have eb := (hbel.cell (p := ⟨b, 0, none⟩) hlt).trans es
    have hbr : b < wr.heap.size := by omega
    by_cases hlt2 : k < l.length
    · obtain ⟨g, o, cap', hv, hg, hc⟩ := (RowX.below HL.out hbel).cells packC_len hlt2
      simp at hv
      obtain ⟨rfl, rfl⟩ := hv
      have c0 : wr.cell? ⟨g, o + k * 2, none⟩ = some (.string (bs l[k].path)) := hc k hlt2 0 (by omega)
      have c1 : wr.cell? ⟨g, o + k * 2 + 1, none⟩ = some (.int .i64 l[k].of) := hc k hlt2 1 (by omega)
      have hpo := HP.out l[k] (List.getElem_mem hlt2)
      have hms : l[k].of < zs.length := by have := HZL.out; omega
      obtain ⟨g2, o2, cap2, hv2, hg2, hc2⟩ := (HRS.out.below hbel).1.cells entC_len hms
      simp at hv2
      obtain ⟨rfl, rfl⟩ := hv2
      have hze : zs[l[k].of].1 = st[l[k].of]'hpo.1 := by have h := HZ.out; subst h; simp
      have ev : verOf st l[k].of = zs[l[k].of].1.v := by rw [hze]; unfold verOf; rw [List.getD_eq_getElem?_getD, List.getElem?_eq_getElem hpo.1]; rfl
      have d1 : wr.cell? ⟨g2, o2 + l[k].of * 5 + 1, none⟩ = some (.int .i64 (verOf st l[k].of).a) := by rw [ev]; exact hc2 _ hms 1 (by omega)
      have d2 : wr.cell? ⟨g2, o2 + l[k].of * 5 + 2, none⟩ = some (.int .i64 (verOf st l[k].of).b) := by rw [ev]; exact hc2 _ hms 2 (by omega)
      have d3 : wr.cell? ⟨g2, o2 + l[k].of * 5 + 3, none⟩ = some (.int .i64 (verOf st l[k].of).c) := by rw [ev]; exact hc2 _ hms 3 (by omega)
      have hvo := HV.out _ hpo.1
      have HW := hid' (fun w => written_any (verOf st l[k].of).a (verOf st l[k].of).b (verOf st l[k].of).c w hvo.1.1 hvo.1.2 hvo.2.1.1 hvo.2.1.2 hvo.2.2.1 hvo.2.2.2)
      have k0 : (0 : Int) ≤ (k : Int) := by omega
      have k1 : (k : Int) < (l.length : Int) := by omega
      have m0 : (0 : Int) ≤ (l[k].of : Int) := by omega
      have m1 : (l[k].of : Int) < (zs.length : Int) := by omega
      have ha : (bs acc).size ≤ 5010 * k := by rw [bs_size]; exact hacc
      have hq1 : (bs l[k].path).size ≤ 5000 := by rw [bs_size]; exact hpo.2
      have hq2 : (bs (vtx (verOf st l[k].of))).size ≤ 8 := by rw [bs_size]; exact verT_len _ _ _
      have hvl : (vtx (verOf st l[k].of)).length ≤ 8 := verT_len _ _ _
      have HN := hid' (txg_next st l k hlt2)
      have HA0 : Hid (bs acc ++ bs l[k].path ++ ⟨#[64]⟩ ++ bs (vtx (verOf st l[k].of)) = bs (acc ++ l[k].path ++ [64] ++ vtx (verOf st l[k].of))) := by unfold Hid; rw [← bs_append, ← bs_append, ← bs_append]; rfl
      have HA1 : Hid (bs acc ++ ⟨#[59]⟩ ++ bs l[k].path ++ ⟨#[64]⟩ ++ bs (vtx (verOf st l[k].of)) = bs (acc ++ [59] ++ l[k].path ++ [64] ++ vtx (verOf st l[k].of))) := by unfold Hid; rw [← bs_append, ← bs_append, ← bs_append, ← bs_append]; rfl
      have hl0 : (acc ++ l[k].path ++ [64] ++ vtx (verOf st l[k].of)).length ≤ 5010 * (k + 1) := by have h1 := hpo.2; simp; omega
      have hl1 : (acc ++ [59] ++ l[k].path ++ [64] ++ vtx (verOf st l[k].of)).length ≤ 5010 * (k + 1) := by have h1 := hpo.2; simp; omega
      have HF0 : Hid (k = 0 → res = (acc ++ l[k].path ++ [64] ++ vtx (verOf st l[k].of)) ++ textGo st false (l.drop (k + 1))) := by
        intro h0
        have e : decide (k = 0) = true := by simp [h0]
        rw [hall.out, e, HN.out]; simp
      have HF1 : Hid (¬ k = 0 → res = (acc ++ [59] ++ l[k].path ++ [64] ++ vtx (verOf st l[k].of)) ++ textGo st false (l.drop (k + 1))) := by
        intro h0
        have e : decide (k = 0) = false := by simp [h0]
        rw [hall.out, e, HN.out]; simp
      clear hc hc2 hall hpo hvo ev hze HN hvl
      generalize acc ++ l[k].path ++ [64] ++ vtx (verOf st l[k].of) = nx0 at *
      generalize acc ++ [59] ++ l[k].path ++ [64] ++ vtx (verOf st l[k].of) = nx1 at *
      change Hid (∀ w, Calls _ _ _ w fun e w' => e = .returned (.string (bs (vtx (verOf st l[k].of)))) ∧ Below w.heap.size w w') at HW
      generalize bs (vtx (verOf st l[k].of)) = q2 at *
      generalize verOf st l[k].of = v at *
      obtain ⟨va, vb, vc⟩ := v
      simp only at d1 d2 d3 HW
      generalize l[k].of = m at *
      generalize bs l[k].path = q1 at *
      generalize bs acc = qa at *
      go_wp2
      go_region_held3 (fun w' => w'.cell? ⟨b, 0, none⟩ = some (.slice (some ⟨g2, o2, none⟩) zs.length sc) ∧ w'.cell? ⟨g, o + k * 2, none⟩ = some (.string q1) ∧ w'.cell? ⟨g, o + k * 2 + 1, none⟩ = some (.int .i64 m) ∧ w'.cell? ⟨g2, o2 + m * 5 + 1, none⟩ = some (.int .i64 va) ∧ w'.cell? ⟨g2, o2 + m * 5 + 2, none⟩ = some (.int .i64 vb) ∧ w'.cell? ⟨g2, o2 + m * 5 + 3, none⟩ = some (.int .i64 vc)) (go_keep)
        (first | (go_at_call 128; refine (HW.out _).mono ?_; rintro e w1 ⟨rfl, hb1⟩; have hy1 := (bcell hb1).1; simp at hy1))
      have e0 := (hy1 g (o + k * 2) hg).trans c0
      have hb2 := hbel.drew.trans (hb1.mono (by simp; omega))
      clear hb1 hy1 c0 c1 d1 d2 d3 eb
      by_cases h0 : k = 0
      · have HF := hid' (HF0.out h0)
        clear HF0 HF1 HA1 hl1
        subst h0
        simp only [Nat.zero_mul, Nat.add_zero] at e0
        go_wp2
        go_roundw
        case rel => exact ⟨0 + 1, nx0, by omega, hl0, by rw [HA0.out], by go_num, hb2, by rw [dz0]; exact HF.out⟩
        case measure => simp [intOf] <;> omega
      · have HF := hid' (HF1.out h0)
        clear HF0 HF1 HA0 hl0
        have hd : (0 : Int) < (k : Int) := by omega
        go_wp2
        go_roundw
        case rel => exact ⟨k + 1, nx1, by omega, hl1, by rw [HA1.out], by go_num, hb2, by rw [dz0]; exact HF.out⟩
        case measure => simp [intOf] <;> omega
    · have HF : Hid (res = acc) := by unfold Hid; rw [hall.out, txg_end st l k hlt2]; simp
      go_wp2
      go_ret
      exact ⟨ret_str (by rw [HF.out]), hbel⟩

theorem treeD_any (b : Nat) (s : SiteD) (w : World) (hs : DAt w b s) (hn : s.packs.length ≤ 1000) (hst : s.stock.length ≤ 1000) (hp : ∀ p ∈ s.packs, p.of < s.stock.length ∧ p.path.length ≤ 1000) (hv : ∀ k, k < s.stock.length → V3Ok (verOf s.stock k)) :
    Calls Tryz.prog 62 #[.pointer (some ⟨b, 0, none⟩)] w fun e w' => e = .returned (.string (bs (textR s.stock s.packs))) ∧ Below w.heap.size w w' := by
  obtain ⟨v2, e2, r2⟩ := hs.packs
  obtain ⟨pa, pc, rfl⟩ := RowX.form r2
  have hlt := hs.lt
  have HT := hid' (textD_any b s _ s.packs w hs r2 (by omega) hst (fun p h => ⟨(hp p h).1, by have := (hp p h).2; omega⟩) hv)
  clear hs hp hv r2
  generalize textR s.stock s.packs = res at *
  go_enter Tryz.func62, Tryz.ntmps62
  go_wp2_with fail
  refine (HT.out).mono ?_
  rintro e w1 ⟨rfl, hb1⟩
  go_wp2
  go_ret
  exact ⟨rfl, hb1⟩

end Hst
end Go.Proofs.YtecocheolbkneaaGreatDoor
namespace Go.Proofs.YtecocheolbkneaaGreatDoor
open Go.RowKit
namespace Hst

theorem need_ok {n : NeedX} {d : NeedD} (h : NeedSame n d) : NeedOk d := ⟨isName_3 h.isn, rangeP_60 h.rng⟩
theorem SiteSame.dok {sx : SiteX} {sd : SiteD} (h : SiteSame sx sd) : DOk sd := by
  refine ⟨⟨by rw [← h.st.all.len]; exact h.s40, fun e he => ?_⟩, h.n6, fun n hn => ?_, by have := h.l40; omega⟩
  · obtain ⟨j, hj, rfl⟩ := List.mem_iff_getElem.1 he
    have hj' : j < sx.stock.length := by rw [h.st.all.len]; exact hj
    have hs := h.st.all.get j hj' hj
    refine ⟨?_, fun n hn => ?_⟩
    · have := h.h6 j hj'
      unfold needsOf at this
      rw [List.getD_eq_getElem?_getD, List.getElem?_eq_getElem hj] at this
      exact this
    · obtain ⟨_, _, hr⟩ := hs.nd.mem n hn
      exact need_ok hr
  · obtain ⟨_, _, hr⟩ := h.nd.mem n hn
    exact need_ok hr
theorem SiteSame.lw_update {sx : SiteX} {sd : SiteD} (h : SiteSame sx sd) : LaysWell sd.stock [] sd.needs := lays_well h.st (siteNeeds_of h.nd h.rs) (TreeSame.nil _)
theorem SiteSame.lw_drop {sx : SiteX} {sd : SiteD} (h : SiteSame sx sd) (name : Tx) : LaysWell sd.stock sd.packs (restR sd.needs name) := lays_well h.st (siteNeeds_of (rest_same h.nd name) (rest_rises h.rs name)) h.tr
theorem needR_same {l : Tx} (h : (needR l).2 = true) : ∃ x, NeedOf l x := by
  rw [← needOk_same] at h
  have h' := h
  unfold needOkP at h'
  rw [Bool.and_eq_true] at h'
  unfold rok at h'
  obtain ⟨sp, hsp⟩ := Option.isSome_iff_exists.1 h'.2
  exact ⟨⟨l.take (lowLen l), .slice none 0 0, sp, l⟩, h, rfl, hsp, rfl⟩
theorem SiteSame.lw_add {sx : SiteX} {sd : SiteD} (h : SiteSame sx sd) {l : Tx} (hl : (needR l).2 = true) : LaysWell sd.stock sd.packs (addN sd l) := by
  obtain ⟨x, hx⟩ := needR_same hl
  have hs := needOf_same hx
  have hne : ∀ y ∈ restR sd.needs (needR l).1.name, y.name ≠ (needR l).1.name := fun y hy => by
    have := (List.mem_filter.1 hy).2
    simpa using this
  obtain ⟨w1, w2⟩ := with_same (rest_same h.nd (needR l).1.name) (rest_rises h.rs _) hs hne
  exact lays_well h.st (siteNeeds_of w1 w2) h.tr

end Hst
end Go.Proofs.YtecocheolbkneaaGreatDoor
namespace Go.Proofs.YtecocheolbkneaaGreatDoor
open Go.RowKit
namespace Hst
set_option maxRecDepth 100000

theorem lkd_at {l : List PackD} {path : Tx} {k : Nat} (hp : ∀ q ∈ l, q.path.length ≤ 900) (h : atR l path = some k) : path.length ≤ 900 := by
  obtain ⟨_, h2, h3⟩ := atR_some h
  rw [← h3]
  exact hp _ h2
theorem ix_none : idx none = -1 := rfl
theorem ix_some (k : Nat) : idx (some k) = k := rfl

set_option maxHeartbeats 4000000 in
theorem lookD_go (b : Nat) (s : SiteD) (p n : ByteArray) (w : World) (hs : DAt w b s) (hl : s.packs.length ≤ 1000) (hn : n.size ≤ 9223372036854775807) (hp9 : p.size ≤ 900) (hc : (decide (0 < (tx p).length) && (atR s.packs (tx p)).isNone) = false) :
    Calls Tryz.prog 59 #[.pointer (some ⟨b, 0, none⟩), .string p, .string n] w fun e w' => e = .returned (.tuple #[.string (bs (lookR s.packs (tx p) (tx n)).1), .int .i64 (lookR s.packs (tx p) (tx n)).2]) ∧ Below w.heap.size w w' := by
  obtain ⟨v, e2, r2⟩ := hs.packs
  obtain ⟨pa, pc, rfl⟩ := RowX.form r2
  have hlt := hs.lt
  have HAT := hid' (at_any pa s.packs.length pc s.packs p w (PacksI.r r2) (by omega))
  have HNM := hid' (fun w => isName_any n w hn)
  have HR := hid' r2
  have HL2 := hid' (lkd_name (name := tx n) hc)
  have HL3 := hid' (lkd_find (name := tx n) hc)
  have hg : p.size = 0 ∨ ∃ k, atR s.packs (tx p) = some k := by
    rw [Bool.and_eq_false_iff] at hc
    rcases hc with hc | hc
    · left
      have := of_decide_eq_false hc
      rw [tx_length] at this
      omega
    · right
      rcases e : atR s.packs (tx p) with _ | k
      · rw [e] at hc; simp at hc
      · exact ⟨k, rfl⟩
  clear hs r2 hc
  generalize lookR s.packs (tx p) (tx n) = res at *
  have fin : ∀ (iv : Int), (p.size = 0 ∨ 0 ≤ iv) → (Calls Tryz.prog 91 #[.slice pa s.packs.length pc, .string p] w fun e w' => e = .returned (.int .i64 iv) ∧ w' = w) → Calls Tryz.prog 59 #[.pointer (some ⟨b, 0, none⟩), .string p, .string n] w fun e w' => e = .returned (.tuple #[.string (bs res.1), .int .i64 res.2]) ∧ Below w.heap.size w w' := by
    intro iv hiv hcall
    have HC := hid' hcall
    clear hcall HAT
    go_enter Tryz.func59, Tryz.ntmps59
    go_wp2_with fail
    refine HC.out.mono ?_
    rintro e w1 ⟨he, hw⟩
    subst he hw
    go_upto_region 2 with fail
    go_cut [23] (fun t wc => t = .bool false ∧ wc = w1)
    case first =>
      rcases hiv with h0 | h0
      · have hb : ¬ (0 : Int) < (p.size : Int) := by omega
        go_wp2
        go_meet
        exact ⟨rfl, rfl⟩
      · have hb : ¬ iv < 0 := by omega
        by_cases hp0 : (0 : Int) < (p.size : Int)
        · go_wp2
          go_meet
          exact ⟨rfl, rfl⟩
        · go_wp2
          go_meet
          exact ⟨rfl, rfl⟩
    case rest =>
      obtain ⟨rfl, rfl⟩ := hcut
      rcases hnm : isNameR (tx n) with _ | _
      · have HF := hid' (HL2.out hnm)
        rw [hnm] at HNM
        clear hnm HL2 HL3
        go_wp2_with fail
        refine (HNM.out _).mono ?_
        rintro e w2 ⟨he, hw⟩
        subst he hw
        go_wp2
        go_ret2
        exact ⟨by rw [HF.out]; rfl, Below.refl _ _⟩
      · have HF := hid' (HL3.out hnm)
        rw [hnm] at HNM
        have HFD := hid' (find_any pa s.packs.length pc s.packs p n _ (PacksI.r HR.out) (by omega) (by omega) (by have := isName_3 hnm; rw [tx_length] at this; omega))
        clear hnm HL2 HL3
        rcases hfr : findR s.packs (tx p) (tx n) with _ | j
        · rw [hfr] at HFD HF
          clear hfr
          simp only [ix_none] at HFD
          go_wp2_with fail
          refine (HNM.out _).mono ?_
          rintro e w2 ⟨he, hw⟩
          subst he hw
          go_wp2_with fail
          refine HFD.out.mono ?_
          rintro e w3 ⟨rfl, hb3⟩
          go_wp2
          go_ret2
          exact ⟨by rw [HF.out]; rfl, hb3⟩
        · have hj := (findR_some hfr).1
          rw [hfr] at HFD HF
          clear hfr
          simp only [ix_some] at HFD HF
          obtain ⟨g, o, cap', hv, hg, hcc⟩ := RowX.packs HR.out hj
          simp at hv
          obtain ⟨rfl, rfl⟩ := hv
          have c0 := (hcc j hj).1
          have HPK : Hid (packAt s.packs j = s.packs[j]) := by unfold Hid packAt; rw [List.getD_eq_getElem?_getD, List.getElem?_eq_getElem hj]; rfl
          rw [HPK.out] at HF
          clear hcc
          generalize s.packs[j] = q at *
          have j0 : (0 : Int) ≤ (j : Int) := by omega
          have j1 : (j : Int) < (s.packs.length : Int) := by omega
          have hj0 : ¬ (j : Int) < 0 := by omega
          go_wp2_with fail
          refine (HNM.out _).mono ?_
          rintro e w2 ⟨he, hw⟩
          subst he hw
          go_wp2_with fail
          refine HFD.out.mono ?_
          rintro e w3 ⟨rfl, hb3⟩
          have d0 := ((bcell hb3).1 g (o + j * 2) hg).trans c0
          have d2 := ((bcell hb3).1 b 2 hlt).trans e2
          have hg3 : g < w3.heap.size := by have := hb3.size; omega
          have hb4 : b < w3.heap.size := by have := hb3.size; omega
          have HB3 := hid' hb3
          clear hb3
          go_wp2
          go_ret2
          exact ⟨by rw [HF.out]; rfl, HB3.out⟩
  rcases hg with h0 | ⟨k, hk⟩
  · exact fin _ (.inl h0) HAT.out
  · rw [hk] at HAT
    exact fin _ (.inr (by rw [ix_some]; omega)) HAT.out

set_option maxHeartbeats 4000000 in
theorem lookD_any (b : Nat) (s : SiteD) (p n : ByteArray) (w : World) (hs : DAt w b s) (hl : s.packs.length ≤ 1000) (hp : ∀ q ∈ s.packs, q.path.length ≤ 900) (hn : n.size ≤ 9223372036854775807) :
    Calls Tryz.prog 59 #[.pointer (some ⟨b, 0, none⟩), .string p, .string n] w fun e w' => e = .returned (.tuple #[.string (bs (lookR s.packs (tx p) (tx n)).1), .int .i64 (lookR s.packs (tx p) (tx n)).2]) ∧ Below w.heap.size w w' := by
  rcases hat : atR s.packs (tx p) with _ | k
  · by_cases h0 : 0 < p.size
    · have HF := hid' (lkd_path (name := tx n) (by rw [tx_length]; exact h0) hat)
      obtain ⟨v, e2, r2⟩ := hs.packs
      obtain ⟨pa, pc, rfl⟩ := RowX.form r2
      have hlt := hs.lt
      have HAT := hid' (at_any pa s.packs.length pc s.packs p w (PacksI.r r2) (by omega))
      rw [hat] at HAT
      simp only [ix_none] at HAT
      have hb : (0 : Int) < (p.size : Int) := by omega
      generalize lookR s.packs (tx p) (tx n) = res at *
      clear hs r2 hat hp
      go_enter Tryz.func59, Tryz.ntmps59
      go_wp2_with fail
      refine HAT.out.mono ?_
      rintro e w1 ⟨he, hw⟩
      subst he hw
      go_wp2
      go_ret2
      exact ⟨by rw [HF.out]; rfl, Below.refl _ _⟩
    · exact lookD_go b s p n w hs hl hn (by omega) (by rw [tx_length]; simp; omega)
  · refine lookD_go b s p n w hs hl hn ?_ (by rw [hat]; simp)
    have := lkd_at hp hat
    rw [tx_length] at this
    exact this

end Hst
end Go.Proofs.YtecocheolbkneaaGreatDoor
namespace Go.Proofs.YtecocheolbkneaaGreatDoor
open Go.RowKit
namespace Hst
set_option maxRecDepth 100000


set_option maxHeartbeats 2000000 in
theorem last_any (s : ByteArray) (w : World) (hs : s.size ≤ 50000) :
    Calls Tryz.prog 135 #[.string s] w fun e w' => e = .returned (.tuple #[.string (bs (lastR (tx s)).1), .string (bs (lastR (tx s)).2)]) ∧ Below w.heap.size w w' := by
  have HFO := hid' (folders_any s w (by omega))
  by_cases h0 : tx s = []
  · have HF : Hid (lastR (tx s) = (tx s, [])) := by unfold Hid; rw [h0]; exact last_nil
    rw [h0, foldersR_nil, ← h0] at HFO
    generalize lastR (tx s) = res at *
    clear h0
    go_enter Tryz.func135, Tryz.ntmps135
    go_wp2_with fail
    refine HFO.out.mono ?_
    rintro e w1 ⟨v, rfl, hrow, hb1⟩
    have hrx := hrow.rowx
    obtain ⟨ta, tc, rfl⟩ := hrx.form
    have HB1 := hid' hb1
    clear hrow hrx hb1
    go_wp2
    go_ret2
    exact ⟨by rw [HF.out, bs_tx]; rfl, HB1.out⟩
  · obtain ⟨r, er⟩ := folders_two (tx s) h0
    have hfl := folderP_lt h0
    rw [tx_length] at hfl
    rw [er] at HFO
    have hlen : (tx s :: folderP (tx s) :: r).length = r.length + 2 := rfl
    have HDR : Hid ((bs (folderP (tx s))).size = (folderP (tx s)).length) := bs_size _
    by_cases hf : folderP (tx s) = []
    · have HF := hid' (last_out h0 hf)
      generalize lastR (tx s) = res at *
      have hb2 : ((bs (folderP (tx s))).size : Int) = 0 := by rw [bs_size, hf]; rfl
      clear h0 hf er HDR hfl
      generalize folderP (tx s) = f at *
      go_enter Tryz.func135, Tryz.ntmps135
      go_wp2_with fail
      refine HFO.out.mono ?_
      rintro e w1 ⟨v, rfl, hrow, hb1⟩
      have hrx := hrow.rowx
      obtain ⟨g, o, cap', hv, hg, hc⟩ := hrx.strs (k := 1) (by simp)
      subst hv
      have c1 := hc 1 (by simp)
      simp only [List.getElem_cons_succ, List.getElem_cons_zero] at c1
      have HB1 := hid' hb1
      have hl2 : ¬ ((r.length + 2 : Nat) : Int) < 2 := by omega
      clear hrow hrx hb1 hc
      rw [hlen]
      clear hlen
      generalize bs f = fb at *
      have hb3 : ((fb.size : Int) == 0) = true := by simp [hb2]
      clear hb2
      have i1 : (1 : Int) < ((r.length + 2 : Nat) : Int) := by omega
      go_wp2
      go_ret2
      exact ⟨by rw [HF.out, bs_tx]; rfl, HB1.out⟩
    · have HF := hid' (last_in h0 hf)
      generalize lastR (tx s) = res at *
      have hfp := List.length_pos_iff.2 hf
      have hb2 : (((bs (folderP (tx s))).size : Int) == 0) = false := by rw [bs_size]; simp; omega
      have HX := hid' (ext_from s ((folderP (tx s)).length + 1))
      clear h0 hf er
      generalize folderP (tx s) = f at *
      go_enter Tryz.func135, Tryz.ntmps135
      go_wp2_with fail
      refine HFO.out.mono ?_
      rintro e w1 ⟨v, rfl, hrow, hb1⟩
      have hrx := hrow.rowx
      obtain ⟨g, o, cap', hv, hg, hc⟩ := hrx.strs (k := 1) (by simp)
      subst hv
      have c1 := hc 1 (by simp)
      simp only [List.getElem_cons_succ, List.getElem_cons_zero] at c1
      have HB1 := hid' hb1
      have hl2 : ¬ ((r.length + 2 : Nat) : Int) < 2 := by omega
      clear hrow hrx hb1 hc
      rw [hlen]
      clear hlen
      have HSZ := hid' HDR.out
      have hsb : (bs f).size < s.size := by rw [HDR.out]; omega
      have hsb2 : s.size ≤ 50000 := hs
      rw [← HDR.out] at HX HF
      have HFB : Hid (f = tx (bs f)) := by unfold Hid; rw [tx_bs]
      clear HDR hfl hfp
      generalize bs f = fb at *
      have i1 : (1 : Int) < ((r.length + 2 : Nat) : Int) := by omega
      have w0 : IntKind.i64.wrap ((fb.size : Int) + 1) = (fb.size : Int) + 1 := by rw [IntKind.wrap_i64]; omega
      have i2 : (fb.size : Int) + 1 ≤ (s.size : Int) := by omega
      have i3 : (0 : Int) ≤ (fb.size : Int) + 1 := by omega
      go_wp2
      go_region_held3 (fun w' => w'.cell? ⟨g, o + 1, none⟩ = some (.string fb)) (go_keep) (fail)
      go_wp2
      go_ret2
      refine ⟨?_, HB1.out.drew⟩
      rw [HF.out, ← HX.out]
      simp only
      rw [HFB.out, bs_tx]
      rfl

end Hst
end Go.Proofs.YtecocheolbkneaaGreatDoor
namespace Go.Proofs.YtecocheolbkneaaGreatDoor
open Go.RowKit
namespace Hst
set_option maxRecDepth 100000

theorem eof_yes (n : Tx) (v : V3) (zs : List (EntryD × Value)) (k : Nat) (hk : k < zs.length) (h : (decide (zs[k].1.name = n) && eq3 zs[k].1.v v) = true) : entryOfGo n v k ((zs.drop k).map Prod.fst) = some k := by
  rw [List.drop_eq_getElem_cons hk, List.map_cons, entryOfGo, if_pos h]
theorem eof_no (n : Tx) (v : V3) (zs : List (EntryD × Value)) (k : Nat) (hk : k < zs.length) (h : (decide (zs[k].1.name = n) && eq3 zs[k].1.v v) = false) : entryOfGo n v k ((zs.drop k).map Prod.fst) = entryOfGo n v (k + 1) ((zs.drop (k + 1)).map Prod.fst) := by
  rw [List.drop_eq_getElem_cons hk, List.map_cons, entryOfGo, if_neg (by rw [h]; simp)]
theorem eof_end (n : Tx) (v : V3) (zs : List (EntryD × Value)) (k : Nat) (hk : ¬ k < zs.length) : entryOfGo n v k ((zs.drop k).map Prod.fst) = none := by
  rw [List.drop_of_length_le (by omega)]; rfl

set_option maxHeartbeats 8000000 in
theorem entryOf_any (b : Nat) (s : SiteD) (n : ByteArray) (va vb vc : Int) (w : World) (hs : DAt w b s) (hst : s.stock.length ≤ 1000) :
    Calls Tryz.prog 136 #[.pointer (some ⟨b, 0, none⟩), .string n, verV va vb vc] w fun e w' => e = .returned (.int .i64 (idx (entryOfR s.stock (tx n) ⟨va, vb, vc⟩))) ∧ Below w.heap.size w w' := by
  have hlt := hs.lt
  obtain ⟨sv, zs, e0, r0, z0⟩ := hs.stock
  obtain ⟨sa, sc, rfl⟩ := RowX.form r0.1
  have hzl : zs.length ≤ 1000 := by rw [← z0, List.length_map] at hst; exact hst
  have HR : Hid (entryOfR s.stock (tx n) ⟨va, vb, vc⟩ = entryOfGo (tx n) ⟨va, vb, vc⟩ 0 ((zs.drop 0).map Prod.fst)) := by unfold Hid entryOfR; rw [← z0]; rfl
  have hbw := (Below.refl w.heap.size w).alloc (Nat.le_refl _) (.cells #[.int .i64 va, .int .i64 vb, .int .i64 vc] 177)
  have HW := hid' hbw
  have HE := hid' (r0.1.below hbw)
  have q0 := ((bcell hbw).1 b 0 hlt).trans e0
  have hsz : (w.alloc (.cells #[.int .i64 va, .int .i64 vb, .int .i64 vc] 177)).heap.size = w.heap.size + 1 := by simp
  have v0 : (w.alloc (.cells #[.int .i64 va, .int .i64 vb, .int .i64 vc] 177)).cell? ⟨w.heap.size, 0, none⟩ = some (.int .i64 va) := by simp
  have v1 : (w.alloc (.cells #[.int .i64 va, .int .i64 vb, .int .i64 vc] 177)).cell? ⟨w.heap.size, 1, none⟩ = some (.int .i64 vb) := by simp
  have v2 : (w.alloc (.cells #[.int .i64 va, .int .i64 vb, .int .i64 vc] 177)).cell? ⟨w.heap.size, 2, none⟩ = some (.int .i64 vc) := by simp
  clear hs r0 z0 hbw hst
  generalize entryOfR s.stock (tx n) ⟨va, vb, vc⟩ = res at *
  go_enter Tryz.func136, Tryz.ntmps136
  go_wp2
  generalize w.alloc (.cells #[.int .i64 va, .int .i64 vb, .int .i64 vc] 177) = W at *
  have hwW : w.heap.size < W.heap.size := by omega
  have hbW : b < W.heap.size := by omega
  clear hsz
  go_loopw [7] (fun i wr => ∃ k : Nat, k ≤ zs.length ∧ i = .int .i64 k ∧ Below W.heap.size W wr ∧ Hid (res = entryOfGo (tx n) ⟨va, vb, vc⟩ k ((zs.drop k).map Prod.fst))) (fun i _ => zs.length - (intOf i).toNat)
  case atStart => exact ⟨0, Nat.zero_le _, rfl, Below.refl _ _, HR⟩
  case round =>
    obtain ⟨k, hk, rfl, hbel, hall⟩ := hrel
    have hz := hbel.size
    have d0 := ((bcell hbel).1 b 0 hbW).trans q0
    have u0 := ((bcell hbel).1 w.heap.size 0 hwW).trans v0
    have u1 := ((bcell hbel).1 w.heap.size 1 hwW).trans v1
    have u2 := ((bcell hbel).1 w.heap.size 2 hwW).trans v2
    have hbr : b < wr.heap.size := by omega
    have hwr : w.heap.size < wr.heap.size := by omega
    have HBW := hid' (HW.out.trans (hbel.mono (by omega)))
    by_cases hltk : k < zs.length
    · obtain ⟨g, o, cap', hv, hg, hc⟩ := (RowX.below HE.out hbel).ent5 hltk
      simp at hv
      obtain ⟨rfl, rfl⟩ := hv
      obtain ⟨c0, c1, c2, c3, -⟩ := hc k hltk
      have HY : Hid ((decide (zs[k].1.name = tx n) && eq3 zs[k].1.v ⟨va, vb, vc⟩) = true → res = some k) := fun h => by rw [hall.out, eof_yes _ _ zs k hltk h]
      have HN : Hid ((decide (zs[k].1.name = tx n) && eq3 zs[k].1.v ⟨va, vb, vc⟩) = false → res = entryOfGo (tx n) ⟨va, vb, vc⟩ (k + 1) ((zs.drop (k + 1)).map Prod.fst)) := fun h => by rw [hall.out, eof_no _ _ zs k hltk h]
      clear hc hall
      generalize zs[k] = y at *
      obtain ⟨⟨yn, ⟨ya, yb, yc⟩, ym⟩, ys⟩ := y
      simp only at c0 c1 c2 c3 HY HN
      have k0 : (0 : Int) ≤ (k : Int) := by omega
      have k1 : (k : Int) < (zs.length : Int) := by omega
      go_wp2
      go_cut [38] (fun t wc => t = .bool (decide (yn = tx n) && eq3 ⟨ya, yb, yc⟩ ⟨va, vb, vc⟩) ∧ Below wr.heap.size wr wc)
      case first =>
        by_cases he : yn = tx n
        · have hb : ((bs yn).toList == n.toList) = true := by rw [he, bs_tx]; simp
          have HEQ : Hid ((decide (yn = tx n) && eq3 ⟨ya, yb, yc⟩ ⟨va, vb, vc⟩) = eq3 ⟨ya, yb, yc⟩ ⟨va, vb, vc⟩) := by unfold Hid; simp [he]
          clear he
          by_cases pa : ya = va
          · have bpa : (ya == va) = true := by simp [pa]
            have Ppa := hid' pa
            clear pa
            by_cases pb : yb = vb
            · have bpb : (yb == vb) = true := by simp [pb]
              have Ppb := hid' pb
              clear pb
              by_cases pc : yc = vc
              · have bpc : (yc == vc) = true := by simp [pc]
                have Ppc := hid' pc
                clear pc
                go_region_held3 (fun w' => w'.cell? ⟨b, 0, none⟩ = some (.slice (some ⟨g, o, none⟩) zs.length sc) ∧ w'.cell? ⟨g, o + k * 5, none⟩ = some (.string (bs yn)) ∧ w'.cell? ⟨g, o + k * 5 + 1, none⟩ = some (.int .i64 ya) ∧ w'.cell? ⟨g, o + k * 5 + 2, none⟩ = some (.int .i64 yb) ∧ w'.cell? ⟨g, o + k * 5 + 3, none⟩ = some (.int .i64 yc) ∧ w'.cell? ⟨w.heap.size, 0, none⟩ = some (.int .i64 va) ∧ w'.cell? ⟨w.heap.size, 1, none⟩ = some (.int .i64 vb) ∧ w'.cell? ⟨w.heap.size, 2, none⟩ = some (.int .i64 vc)) (go_keep) (fail)
                go_wp2
                go_meet
                exact ⟨by rw [HEQ.out, eq3_t Ppa.out Ppb.out Ppc.out], (Below.refl _ _).drew⟩
              · have bpc : (yc == vc) = false := by simp [pc]
                have Ppc := hid' pc
                clear pc
                go_region_held3 (fun w' => w'.cell? ⟨b, 0, none⟩ = some (.slice (some ⟨g, o, none⟩) zs.length sc) ∧ w'.cell? ⟨g, o + k * 5, none⟩ = some (.string (bs yn)) ∧ w'.cell? ⟨g, o + k * 5 + 1, none⟩ = some (.int .i64 ya) ∧ w'.cell? ⟨g, o + k * 5 + 2, none⟩ = some (.int .i64 yb) ∧ w'.cell? ⟨g, o + k * 5 + 3, none⟩ = some (.int .i64 yc) ∧ w'.cell? ⟨w.heap.size, 0, none⟩ = some (.int .i64 va) ∧ w'.cell? ⟨w.heap.size, 1, none⟩ = some (.int .i64 vb) ∧ w'.cell? ⟨w.heap.size, 2, none⟩ = some (.int .i64 vc)) (go_keep) (fail)
                go_wp2
                go_meet
                exact ⟨by rw [HEQ.out, eq3_f3 Ppc.out], (Below.refl _ _).drew⟩
            · have bpb : (yb == vb) = false := by simp [pb]
              have Ppb := hid' pb
              clear pb
              go_region_held3 (fun w' => w'.cell? ⟨b, 0, none⟩ = some (.slice (some ⟨g, o, none⟩) zs.length sc) ∧ w'.cell? ⟨g, o + k * 5, none⟩ = some (.string (bs yn)) ∧ w'.cell? ⟨g, o + k * 5 + 1, none⟩ = some (.int .i64 ya) ∧ w'.cell? ⟨g, o + k * 5 + 2, none⟩ = some (.int .i64 yb) ∧ w'.cell? ⟨g, o + k * 5 + 3, none⟩ = some (.int .i64 yc) ∧ w'.cell? ⟨w.heap.size, 0, none⟩ = some (.int .i64 va) ∧ w'.cell? ⟨w.heap.size, 1, none⟩ = some (.int .i64 vb) ∧ w'.cell? ⟨w.heap.size, 2, none⟩ = some (.int .i64 vc)) (go_keep) (fail)
              go_wp2
              go_meet
              exact ⟨by rw [HEQ.out, eq3_f2 Ppb.out], (Below.refl _ _).drew⟩
          · have bpa : (ya == va) = false := by simp [pa]
            have Ppa := hid' pa
            clear pa
            go_region_held3 (fun w' => w'.cell? ⟨b, 0, none⟩ = some (.slice (some ⟨g, o, none⟩) zs.length sc) ∧ w'.cell? ⟨g, o + k * 5, none⟩ = some (.string (bs yn)) ∧ w'.cell? ⟨g, o + k * 5 + 1, none⟩ = some (.int .i64 ya) ∧ w'.cell? ⟨g, o + k * 5 + 2, none⟩ = some (.int .i64 yb) ∧ w'.cell? ⟨g, o + k * 5 + 3, none⟩ = some (.int .i64 yc) ∧ w'.cell? ⟨w.heap.size, 0, none⟩ = some (.int .i64 va) ∧ w'.cell? ⟨w.heap.size, 1, none⟩ = some (.int .i64 vb) ∧ w'.cell? ⟨w.heap.size, 2, none⟩ = some (.int .i64 vc)) (go_keep) (fail)
            go_wp2
            go_meet
            exact ⟨by rw [HEQ.out, eq3_f1 Ppa.out], (Below.refl _ _).drew⟩
        · have hb : ((bs yn).toList == n.toList) = false := by rw [tx_toList, tx_toList, tx_bs]; simp [he]
          have HEQ : Hid ((decide (yn = tx n) && eq3 ⟨ya, yb, yc⟩ ⟨va, vb, vc⟩) = false) := by unfold Hid; simp [he]
          clear he
          go_region
          go_wp2
          go_meet
          exact ⟨by rw [HEQ.out], (Below.refl _ _).drew⟩
      case rest =>
        obtain ⟨rfl, hbc⟩ := hcut
        have HB3 := hid' (HBW.out.trans (hbc.mono (by omega)))
        have HB4 := hid' (hbel.trans (hbc.mono hz))
        clear hbc hbel
        generalize (decide (yn = tx n) && eq3 ⟨ya, yb, yc⟩ ⟨va, vb, vc⟩) = bb at *
        cases bb
        · have HF := hid' (HN.out rfl)
          go_wp2
          go_roundw
          case rel => exact ⟨k + 1, by omega, by go_num, HB4.out, HF⟩
          case measure => simp [intOf] <;> omega
        · have HF := hid' (HY.out rfl)
          go_wp2
          go_ret
          exact ⟨ret_int (by rw [HF.out, ix_some]), HB3.out⟩
    · have HF : Hid (res = none) := by unfold Hid; rw [hall.out, eof_end _ _ zs k hltk]
      obtain ⟨sa', sc', hf⟩ := RowX.form HE.out
      clear hall
      go_wp2
      go_ret
      exact ⟨ret_int (by rw [HF.out, ix_none]), HBW.out⟩

end Hst
end Go.Proofs.YtecocheolbkneaaGreatDoor
namespace Go.Proofs.YtecocheolbkneaaGreatDoor
open Go.RowKit
namespace Hst
set_option maxRecDepth 100000

theorem rd_ver {st : List EntryD} {l : List PackD} {d : List Tx} {k : Nat} (hk : k < d.length) {hd vr : Tx} {b : Bool} (hc : cutR 64 d[k] = (hd, vr, b)) (hv : (versionR vr).2 = false) : readGo st l (d.drop k) = readGo st l (d.drop (k + 1)) := by
  rw [List.drop_eq_getElem_cons hk, readGo, hc]; simp only; rw [if_neg (by rw [hv]; simp)]
theorem rd_none {st : List EntryD} {l : List PackD} {d : List Tx} {k : Nat} (hk : k < d.length) {hd vr : Tx} {b : Bool} (hc : cutR 64 d[k] = (hd, vr, b)) (he : entryOfR st (lastR hd).1 (versionR vr).1 = none) : readGo st l (d.drop k) = readGo st l (d.drop (k + 1)) := by
  rw [List.drop_eq_getElem_cons hk, readGo, hc]; simp only; rw [he]; simp
theorem rd_some {st : List EntryD} {l : List PackD} {d : List Tx} {k : Nat} (hk : k < d.length) {hd vr : Tx} {b : Bool} (hc : cutR 64 d[k] = (hd, vr, b)) (hv : (versionR vr).2 = true) {j : Nat} (he : entryOfR st (lastR hd).1 (versionR vr).1 = some j) : readGo st l (d.drop k) = readGo st (placedR l ⟨hd, j⟩) (d.drop (k + 1)) := by
  rw [List.drop_eq_getElem_cons hk, readGo, hc]; simp only; rw [if_pos hv, he]
theorem rd_end {st : List EntryD} {l : List PackD} {d : List Tx} {k : Nat} (hk : ¬ k < d.length) : readGo st l (d.drop k) = l := by
  rw [List.drop_of_length_le (by omega), readGo]
theorem placedR_length (l : List PackD) (p : PackD) : (placedR l p).length = l.length + 1 := by rw [placedR_ins]; exact insX_len _ _ _

set_option maxHeartbeats 8000000 in
theorem read_any (b : Nat) (s : SiteD) (p : ByteArray) (w : World) (hs : DAt w b s) (hst : s.stock.length ≤ 1000) (hp : p.size ≤ 5000) :
    Calls Tryz.prog 94 #[.pointer (some ⟨b, 0, none⟩), .string p] w fun e w' => ∃ v, e = .returned v ∧ PacksI w' v (readR s.stock (tx p)) ∧ Below w.heap.size w w' := by
  have HS := hid' hs
  have hlt := hs.lt
  have HPS : Hid (∀ j (hj : j < (splitL 59 (tx p)).length), (splitL 59 (tx p))[j].length ≤ 5000) := fun j hj => by have := piece_size 59 p j hj; rw [bs_size] at this; omega
  have HDL : Hid ((splitL 59 (tx p)).length ≤ 5001) := by unfold Hid; have := splitL_len 59 (tx p); rw [tx_length] at this; omega
  have HR : Hid (readR s.stock (tx p) = readGo s.stock [] ((splitL 59 (tx p)).drop 0)) := rfl
  have HEO := hid' (fun n va vb vc w h => entryOf_any b s n va vb vc w h hst)
  clear hs
  generalize readR s.stock (tx p) = res at *
  go_enter Tryz.func94, Tryz.ntmps94
  go_wp2_with fail
  refine (rsplit_any p 59 _ (by omega)).mono ?_
  rintro e w1 ⟨dv, rfl, hrow, hb1⟩
  have hrx := hrow.rowx
  obtain ⟨ta, tc, rfl⟩ := hrx.form
  have HRX := hid' hrx
  have HB1 := hid' hb1
  have hz1 := hb1.size
  have HS1 := hid' (HS.out.below hb1)
  clear hrow hrx hb1
  generalize splitL 59 (tx p) = d at *
  go_wp2
  go_loopw [5, 7] (fun v i wr => ∃ (k : Nat) (l : List PackD) (la : Option Addr) (lc : Nat), k ≤ d.length ∧ i = .int .i64 k ∧ v = .slice la l.length lc ∧ Below w1.heap.size w1 wr ∧ Hid (PacksI wr (.slice la l.length lc) l ∧ l.length ≤ k ∧ res = readGo s.stock l (d.drop k))) (fun _ i _ => d.length - (intOf i).toNat)
  case atStart => exact ⟨0, [], none, 0, Nat.zero_le _, rfl, rfl, Below.refl _ _, RowX.nil _ _ _ _, Nat.le_refl _, HR.out⟩
  case round =>
    obtain ⟨k, l, la, lc, hk, rfl, rfl, hbel, hall⟩ := hrel
    have hz := hbel.size
    have hdl := HDL.out
    have HPI := hid' hall.out.1
    have hlk : l.length ≤ k := hall.out.2.1
    have HGO := hid' hall.out.2.2
    clear hall
    by_cases hlt2 : k < d.length
    · obtain ⟨g, o, cap', hv, hg, hc⟩ := (HRX.out.below hbel).strs hlt2
      simp at hv
      obtain ⟨rfl, rfl⟩ := hv
      have c0 := hc k hlt2
      have hpl := HPS.out k hlt2
      have hcl := cut_len 64 d[k]
      have HCU := hid' (fun w => cut_any (bs d[k]) 64 w (by rw [bs_size]; omega))
      rw [tx_bs] at HCU
      rcases hcut : cutR 64 d[k] with ⟨hd, vr, cb⟩
      rw [hcut] at HCU hcl
      simp only at hcl
      have HLA := hid' (fun w => last_any (bs hd) w (by rw [bs_size]; omega))
      rw [tx_bs] at HLA
      have HVE := hid' (fun w => version_any (bs vr) w)
      rw [tx_bs] at HVE
      have R1 := hid' (rd_ver (st := s.stock) (l := l) hlt2 hcut)
      have R2 := hid' (rd_none (st := s.stock) (l := l) hlt2 hcut)
      have R3 := hid' (fun h j => rd_some (st := s.stock) (l := l) hlt2 hcut h (j := j))
      clear hc hcut hcl hpl
      rcases hla : lastR hd with ⟨nm, fo⟩
      rw [hla] at HLA R2 R3
      rcases hve : versionR vr with ⟨⟨va, vb, vc⟩, vok⟩
      rw [hve] at HVE R1 R2 R3
      simp only at R1 R2 R3
      have HEN := hid' (fun w h => HEO.out (bs nm) va vb vc w h)
      simp only [tx_bs] at HEN
      clear hla hve
      generalize bs d[k] = q at *
      generalize entryOfR s.stock nm ⟨va, vb, vc⟩ = er at *
      go_wp2_with fail
      refine (HCU.out _).mono ?_
      rintro e w2 ⟨rfl, hb2⟩
      go_wp2_with fail
      refine (HLA.out _).mono ?_
      rintro e w3 ⟨rfl, hb3⟩
      go_wp2_with fail
      refine (HVE.out _).mono ?_
      rintro e w4 ⟨rfl, hb4⟩
      have hb24 := (hb2.trans (hb3.mono hb2.size)).trans (hb4.mono (Nat.le_trans hb2.size hb3.size))
      have hba := hb24.alloc hb24.size (.cells #[.int .i64 va, .int .i64 vb, .int .i64 vc] 177)
      have HB4 := hid' (hbel.trans (hba.mono hz))
      have HS4 := hid' (HS1.out.below HB4.out)
      have HP4 := hid' (RowX.below HPI.out hba)
      have hz4 : wr.heap.size ≤ w4.heap.size := hb24.size
      clear hb2 hb3 hb4 hb24 hba
      go_wp2_with fail
      refine (HEN.out _ HS4.out).mono ?_
      rintro e w5 ⟨rfl, hb5⟩
      have HB5 := hid' (HB4.out.trans (hb5.mono (by simp; omega)))
      have HP5 := hid' (RowX.below HP4.out hb5)
      clear hb5
      rcases er with _ | j
      · have HF : Hid (res = readGo s.stock l (d.drop (k + 1))) := by unfold Hid; rw [HGO.out]; exact R2.out rfl
        simp only [ix_none]
        have hneg : ¬ (0 : Int) ≤ -1 := by omega
        have HREL : Hid (PacksI w5 (.slice la l.length lc) l ∧ l.length ≤ k + 1 ∧ res = readGo s.stock l (d.drop (k + 1))) := ⟨HP5.out, by omega, HF.out⟩
        clear R1 R2 R3 HGO
        cases vok
        · go_wp2
          go_roundw
          case rel => exact ⟨k + 1, l, la, lc, by omega, by go_num, rfl, HB5.out, HREL⟩
          case measure => simp [intOf] <;> omega
        · go_wp2
          go_roundw
          case rel => exact ⟨k + 1, l, la, lc, by omega, by go_num, rfl, HB5.out, HREL⟩
          case measure => simp [intOf] <;> omega
      · simp only [ix_some]
        cases vok
        · have HF : Hid (res = readGo s.stock l (d.drop (k + 1))) := by unfold Hid; rw [HGO.out]; exact R1.out rfl
          have HREL : Hid (PacksI w5 (.slice la l.length lc) l ∧ l.length ≤ k + 1 ∧ res = readGo s.stock l (d.drop (k + 1))) := ⟨HP5.out, by omega, HF.out⟩
          clear R1 R2 R3 HGO
          go_wp2
          go_roundw
          case rel => exact ⟨k + 1, l, la, lc, by omega, by go_num, rfl, HB5.out, HREL⟩
          case measure => simp [intOf] <;> omega
        · have HF : Hid (res = readGo s.stock (placedR l ⟨hd, j⟩) (d.drop (k + 1))) := by unfold Hid; rw [HGO.out]; exact R3.out (by first | rfl | trivial) j rfl
          have hj0 : (0 : Int) ≤ (j : Int) := by omega
          have HPL := hid' (placed_any (.slice la l.length lc) l ⟨hd, j⟩ w5 HP5.out (by omega))
          have hlen := placedR_length l ⟨hd, j⟩
          have HLEN := hid' hlen
          clear R1 R2 R3 HGO hlen
          go_wp2_with fail
          refine HPL.out.mono ?_
          rintro e w6 ⟨v6, rfl, hp6, hb6⟩
          obtain ⟨la6, lc6, hv6⟩ := RowX.form hp6
          subst hv6
          have HB6 := hid' (HB5.out.trans (hb6.mono (by have := HB5.out.size; omega)))
          have HREL : Hid (PacksI w6 (.slice la6 (placedR l ⟨hd, j⟩).length lc6) (placedR l ⟨hd, j⟩) ∧ (placedR l ⟨hd, j⟩).length ≤ k + 1 ∧ res = readGo s.stock (placedR l ⟨hd, j⟩) (d.drop (k + 1))) := ⟨hp6, by rw [HLEN.out]; omega, HF.out⟩
          clear hp6 hb6
          generalize placedR l ⟨hd, j⟩ = l6 at *
          go_wp2
          go_roundw
          case rel => exact ⟨k + 1, l6, la6, lc6, by omega, by go_num, rfl, HB6.out, HREL⟩
          case measure => simp [intOf] <;> omega
    · have HF : Hid (res = l) := by unfold Hid; rw [HGO.out]; exact rd_end hlt2
      have HB := hid' (HB1.out.trans (hbel.mono hz1))
      clear hbel
      go_wp2
      go_ret
      exact ⟨_, rfl, by rw [HF.out]; exact HPI.out, HB.out⟩

end Hst
end Go.Proofs.YtecocheolbkneaaGreatDoor
