/- Dhangs, Dload, Dloadx, Pload, Psound -/
import Derived.Test.YtecocheolbkneaaGreatDoorW32
import Derived.Test.YtecocheolbkneaaGreatDoorW23
import Derived.Test.YtecocheolbkneaaGreatDoorW16
import Derived.Test.YtecocheolbkneaaGreatDoorW15
import Derived.Test.YtecocheolbkneaaGreatDoorW12
import Derived.Test.YtecocheolbkneaaGreatDoorW20
namespace Go.Proofs.YtecocheolbkneaaGreatDoor
open Go.RowKit
namespace Hst
set_option maxRecDepth 100000

def hangB (l : List PackD) (p : Tx) (i : Nat) : Bool := !decide (atR l p = some i) || (decide (0 < (lastR p).2.length) && (atR l (lastR p).2).isNone)
theorem hg_no {l : List PackD} {k : Nat} (hk : k < l.length) (h : hangB l l[k].path k = true) : hangsGo l k (l.drop k) = false := by
  rw [List.drop_eq_getElem_cons hk, hangsGo]; unfold hangB at h; rw [if_pos h]
theorem hg_yes {l : List PackD} {k : Nat} (hk : k < l.length) (h : hangB l l[k].path k = false) : hangsGo l k (l.drop k) = hangsGo l (k + 1) (l.drop (k + 1)) := by
  rw [List.drop_eq_getElem_cons hk, hangsGo]; unfold hangB at h; rw [if_neg (by rw [h]; simp)]
theorem hg_end {l : List PackD} {k : Nat} (hk : ¬ k < l.length) : hangsGo l k (l.drop k) = true := by
  rw [List.drop_of_length_le (by omega), hangsGo]
theorem idx_eq (o : Option Nat) (i : Nat) : (idx o == (i : Int)) = decide (o = some i) := by
  rw [Bool.eq_iff_iff, beq_iff_eq, decide_eq_true_iff]
  rcases o with _ | k
  · rw [ix_none]; simp
    try omega
  · rw [ix_some]; simp
    try omega
theorem idx_neg (o : Option Nat) : decide (idx o < 0) = o.isNone := by
  rw [Bool.eq_iff_iff, decide_eq_true_iff]
  rcases o with _ | k
  · rw [ix_none]; simp
  · rw [ix_some]; simp
    try omega

set_option maxHeartbeats 8000000 in
theorem hangs_any (v : Value) (l : List PackD) (w : World) (hl : PacksI w v l) (hn : l.length ≤ 5001) (hp : ∀ p ∈ l, p.path.length ≤ 5000) :
    Calls Tryz.prog 96 #[v] w fun e w' => e = .returned (.bool (hangsR l)) ∧ Below w.heap.size w w' := by
  obtain ⟨a, cap, rfl⟩ := RowX.form hl
  have HL := hid' hl
  have HP := hid' hp
  have HR : Hid (hangsR l = hangsGo l 0 (l.drop 0)) := rfl
  have HAT := hid' (fun p w h => at_any a l.length cap l p w (PacksI.r h) (by omega))
  clear hl hp
  generalize hangsR l = res at *
  go_enter Tryz.func96, Tryz.ntmps96
  go_wp2
  go_loopw [3] (fun i wr => ∃ k : Nat, k ≤ l.length ∧ i = .int .i64 k ∧ Below w.heap.size w wr ∧ Hid (res = hangsGo l k (l.drop k))) (fun i _ => l.length - (intOf i).toNat)
  case atStart => exact ⟨0, Nat.zero_le _, rfl, Below.refl _ _, HR⟩
  case round =>
    obtain ⟨k, hk, rfl, hbel, hall⟩ := hrel
    have hz := hbel.size
    by_cases hlt : k < l.length
    · obtain ⟨g, o, cap', hv, hg, hc⟩ := (RowX.below HL.out hbel).packs hlt
      simp at hv
      obtain ⟨rfl, rfl⟩ := hv
      have c0 := (hc k hlt).1
      have HLA := hid' (last_any (bs l[k].path) wr (by rw [bs_size]; have := HP.out l[k] (List.getElem_mem hlt); omega))
      rw [tx_bs] at HLA
      have HY : Hid (hangB l l[k].path k = true → res = false) := fun h => by rw [hall.out, hg_no hlt h]
      have HN : Hid (hangB l l[k].path k = false → res = hangsGo l (k + 1) (l.drop (k + 1))) := fun h => by rw [hall.out, hg_yes hlt h]
      clear hc hall
      generalize l[k] = y at *
      obtain ⟨yp, yo⟩ := y
      simp only at c0 HLA HY HN
      rcases hla : lastR yp with ⟨nm, fo⟩
      rw [hla] at HLA
      have HB : Hid (hangB l yp k = (!decide (atR l yp = some k) || (decide (0 < fo.length) && (atR l fo).isNone))) := by unfold Hid hangB; rw [hla]
      clear hla
      have HA1 := hid' (fun w h => HAT.out (bs fo) w h)
      simp only [tx_bs] at HA1
      have HA2 := hid' (fun w h => HAT.out (bs yp) w h)
      simp only [tx_bs] at HA2
      have I1 := hid' (idx_eq (atR l yp) k)
      have I2 := hid' (idx_neg (atR l fo))
      have F0 : Hid ((bs fo).size = fo.length) := bs_size fo
      generalize hangB l yp k = hbv at *
      generalize idx (atR l yp) = iy at *
      generalize idx (atR l fo) = ifo at *
      generalize decide (atR l yp = some k) = by1 at *
      generalize (atR l fo).isNone = bf1 at *
      have k0 : (0 : Int) ≤ (k : Int) := by omega
      have k1 : (k : Int) < (l.length : Int) := by omega
      cases by1
      · have h1 : ¬ iy = (k : Int) := by simpa using I1.out
        have h1' : (iy != (k : Int)) = true := by simp [h1]
        have h1b : (iy == (k : Int)) = false := by simp [h1]
        clear I1
        go_wp2_with fail
        refine HLA.out.mono ?_
        rintro e w2 ⟨rfl, hb2⟩
        have hz2 := hb2.size
        have d0 := ((bcell hb2).1 g (o + k * 2) hg).trans c0
        have hg2 : g < w2.heap.size := by omega
        have HB2 := hid' (hbel.trans (hb2.mono hz))
        have HL2 := hid' (RowX.below HL.out HB2.out)
        clear hb2 c0 hbel
        go_wp2_with fail
        refine (HA1.out _ HL2.out).mono ?_
        rintro e w3 ⟨he, hw⟩
        subst he hw
        go_wp2_with fail
        refine (HA2.out _ HL2.out).mono ?_
        rintro e w4 ⟨he, hw⟩
        subst he hw
        go_upto_region 7 with fail
        go_cut [44] (fun t wc => t = .bool hbv ∧ wc = w4)
        case first =>
          go_wp2
          go_meet
          exact ⟨by rw [HB.out]; rfl, rfl⟩
        case rest =>
          obtain ⟨rfl, rfl⟩ := hcut
          clear HB I2 F0
          cases hbv
          · have HF := hid' (HN.out (by first | rfl | trivial))
            go_wp2
            go_roundw
            case rel => exact ⟨k + 1, by omega, by go_num, HB2.out, HF⟩
            case measure => simp [intOf] <;> omega
          · have HF := hid' (HY.out (by first | rfl | trivial))
            go_wp2
            go_ret
            exact ⟨ret_bool (by rw [HF.out]), HB2.out⟩
      · have h1 : iy = (k : Int) := by simpa using I1.out
        subst h1
        clear I1
        go_wp2_with fail
        refine HLA.out.mono ?_
        rintro e w2 ⟨rfl, hb2⟩
        have hz2 := hb2.size
        have d0 := ((bcell hb2).1 g (o + k * 2) hg).trans c0
        have hg2 : g < w2.heap.size := by omega
        have HB2 := hid' (hbel.trans (hb2.mono hz))
        have HL2 := hid' (RowX.below HL.out HB2.out)
        clear hb2 c0 hbel
        go_wp2_with fail
        refine (HA1.out _ HL2.out).mono ?_
        rintro e w3 ⟨he, hw⟩
        subst he hw
        go_wp2_with fail
        refine (HA2.out _ HL2.out).mono ?_
        rintro e w4 ⟨he, hw⟩
        subst he hw
        go_upto_region 7 with fail
        go_cut [44] (fun t wc => t = .bool hbv ∧ wc = w4)
        case first =>
          by_cases hf0 : 0 < fo.length
          · have h2 : (0 : Int) < ((bs fo).size : Int) := by rw [F0.out]; omega
            have HD : Hid (decide (0 < fo.length) = true) := by unfold Hid; simp [hf0]
            clear hf0
            cases bf1
            · have h3 : ¬ ifo < 0 := of_decide_eq_false I2.out
              clear I2
              go_wp2
              go_meet
              exact ⟨by rw [HB.out, HD.out]; simp, rfl⟩
            · have h3 : ifo < 0 := of_decide_eq_true I2.out
              clear I2
              go_wp2
              go_meet
              exact ⟨by rw [HB.out, HD.out]; simp, rfl⟩
          · have h2 : ¬ (0 : Int) < ((bs fo).size : Int) := by rw [F0.out]; omega
            have HD : Hid (decide (0 < fo.length) = false) := by unfold Hid; simp [hf0]
            clear hf0
            go_wp2
            go_meet
            exact ⟨by rw [HB.out, HD.out]; rfl, rfl⟩
        case rest =>
          obtain ⟨rfl, rfl⟩ := hcut
          clear HB I2 F0
          cases hbv
          · have HF := hid' (HN.out (by first | rfl | trivial))
            go_wp2
            go_roundw
            case rel => exact ⟨k + 1, by omega, by go_num, HB2.out, HF⟩
            case measure => simp [intOf] <;> omega
          · have HF := hid' (HY.out (by first | rfl | trivial))
            go_wp2
            go_ret
            exact ⟨ret_bool (by rw [HF.out]), HB2.out⟩
    · have HF : Hid (res = true) := by unfold Hid; rw [hall.out, hg_end hlt]
      go_wp2
      go_ret
      exact ⟨ret_bool (by rw [HF.out]), hbel⟩

end Hst
end Go.Proofs.YtecocheolbkneaaGreatDoor
namespace Go.Proofs.YtecocheolbkneaaGreatDoor
open Go.RowKit
namespace Hst
set_option maxRecDepth 100000

/-! ### bounds of what is read -/
theorem entryOfGo_lt {n : Tx} {v : V3} : ∀ (l : List EntryD) (i j : Nat), entryOfGo n v i l = some j → j < i + l.length
  | [], i, j, h => by simp [entryOfGo] at h
  | e :: r, i, j, h => by
    rw [entryOfGo] at h
    split at h
    · have h := Option.some.inj h
      subst h
      simp
    · have := entryOfGo_lt r (i + 1) j h
      simp; omega
theorem readGo_ok {st : List EntryD} {m : Nat} : ∀ (d : List Tx) (l : List PackD), (∀ x ∈ d, x.length ≤ m) → (∀ p ∈ l, p.of < st.length ∧ p.path.length ≤ m) → (readGo st l d).length ≤ l.length + d.length ∧ ∀ p ∈ readGo st l d, p.of < st.length ∧ p.path.length ≤ m
  | [], l, _, hl => ⟨by rw [readGo]; simp, by rw [readGo]; exact hl⟩
  | x :: r, l, hd, hl => by
    have hr : ∀ y ∈ r, y.length ≤ m := fun y hy => hd y (List.mem_cons_of_mem _ hy)
    rw [readGo]
    split
    · rcases e : entryOfR st (lastR (cutR 64 x).1).1 (versionR (cutR 64 x).2.1).1 with _ | j
      · obtain ⟨h1, h2⟩ := readGo_ok r l hr hl
        exact ⟨by simp; omega, h2⟩
      · have hj := entryOfGo_lt st 0 j e
        obtain ⟨h1, h2⟩ := readGo_ok r (placedR l ⟨(cutR 64 x).1, j⟩) hr fun p hp => by
          rw [placedR_ins] at hp
          rcases (insX_mem _ _ _ _).1 hp with rfl | hp
          · have h3 := (cut_len 64 x).1
            have h4 := hd x (by simp)
            exact ⟨by simpa using hj, by simp only; omega⟩
          · exact hl p hp
        rw [placedR_length] at h1
        exact ⟨by simp; omega, h2⟩
    · obtain ⟨h1, h2⟩ := readGo_ok r l hr hl
      exact ⟨by simp; omega, h2⟩
theorem readR_ok {st : List EntryD} {t : Tx} (h : t.length ≤ 4000) : (readR st t).length ≤ 4001 ∧ ∀ p ∈ readR st t, p.of < st.length ∧ p.path.length ≤ 4000 := by
  have hs := splitL_len 59 t
  obtain ⟨h1, h2⟩ := readGo_ok (st := st) (m := 4000) (splitL 59 t) [] (fun x hx => by
    obtain ⟨j, hj, e⟩ := List.mem_iff_getElem.1 hx
    have := piece_size 59 (bs t) j (by rw [tx_bs]; exact hj)
    simp only [tx_bs, bs_size] at this
    rw [← e]; omega) (by simp)
  exact ⟨by unfold readR; simp at h1; omega, h2⟩
/-- A site with another tree. -/
theorem DAt.setP {w : World} {b : Nat} {s : SiteD} (h : DAt w b s) {pv : Value} {l : List PackD} (hl : PacksI w pv l) : DAt (w.setCell ⟨b, 2, none⟩ pv) b ⟨s.stock, s.needs, l⟩ := by
  obtain ⟨v0, zs, e0, r0, z0⟩ := h.stock
  obtain ⟨v1, e1, r1⟩ := h.needs
  obtain ⟨v2, e2, r2⟩ := h.packs
  have hbut := But.set w b 2 pv
  have ne : ∀ u : TypeId, (129 : TypeId) ≠ u → tagOf w b ≠ some u := fun u hu => by rw [h.tag]; simpa using hu
  have g0 : (w.setCell ⟨b, 2, none⟩ pv).cell? ⟨b, 0, none⟩ = some v0 := by simp [go_sem, *]
  have g1 : (w.setCell ⟨b, 2, none⟩ pv).cell? ⟨b, 1, none⟩ = some v1 := by simp [go_sem, *]
  have g2 : (w.setCell ⟨b, 2, none⟩ pv).cell? ⟨b, 2, none⟩ = some pv := World.cell?_setCell_same' _ _ _ (by rw [e2]; rfl)
  exact ⟨by simpa using h.lt, by rw [tag_set]; exact h.tag, ⟨v0, zs, g0, ⟨RowX.off r0.1 hbut (ne _ (by decide)), fun z hz => RowX.off (r0.2 z hz) hbut (ne _ (by decide))⟩, z0⟩, ⟨v1, g1, RowX.off r1 hbut (ne _ (by decide))⟩, ⟨pv, g2, RowX.off hl hbut (ne _ (by decide))⟩, by rw [World.frozen?_setCell]; exact h.f1, by rw [World.frozen?_setCell]; exact h.f2⟩

end Hst
end Go.Proofs.YtecocheolbkneaaGreatDoor
namespace Go.Proofs.YtecocheolbkneaaGreatDoor
open Go.RowKit
namespace Hst
set_option maxRecDepth 100000

set_option maxHeartbeats 8000000 in
theorem loadD_any (b : Nat) (s : SiteD) (p : ByteArray) (w : World) (hs : DAt w b s) (hok : DOk s) (hv : ∀ k, k < s.stock.length → V3Ok (verOf s.stock k)) :
    Calls Tryz.prog 60 #[.pointer (some ⟨b, 0, none⟩), .string p] w fun e w' => e = .returned (.int .i64 (loadR s (tx p)).2) ∧ SMv b w w' ∧ DAt w' b (loadR s (tx p)).1 := by
  have hlt := hs.lt
  have HS := hid' hs
  by_cases h4 : 4000 < p.size
  · have HF := hid' (lr_long (s := s) (t := tx p) (by rw [tx_length]; exact h4))
    have hb : (4000 : Int) < (p.size : Int) := by omega
    generalize loadR s (tx p) = res at *
    clear hs hok hv
    go_enter Tryz.func60, Tryz.ntmps60
    go_wp2
    go_ret
    exact ⟨ret_int (by rw [HF.out]), SMv.of_below (Below.refl _ _), by rw [HF.out]; exact HS.out⟩
  · have h4' : ¬ 4000 < (tx p).length := by rw [tx_length]; exact h4
    have hb : ¬ (4000 : Int) < (p.size : Int) := by omega
    obtain ⟨hrl, hro⟩ := readR_ok (st := s.stock) (t := tx p) (by omega)
    have hst := hok.st
    have hst1 := hst.1
    have hnl := hok.nl
    have HRD := hid' (read_any b s p w hs (by omega) (by omega))
    have HTX := hid' (fun v w h hl => textD_any b s v (readR s.stock (tx p)) w h hl (by omega) (by omega) (fun q hq => ⟨(hro q hq).1, by have := (hro q hq).2; omega⟩) hv)
    have HHG := hid' (fun v w hl => hangs_any v (readR s.stock (tx p)) w hl (by omega) (fun q hq => by have := (hro q hq).2; omega))
    have HAL := hid' (fun (h40 : (readR s.stock (tx p)).length ≤ 40) a cap a' cap' w (h : DAt w b s) (hd : NeedsI w (.slice a s.needs.length cap) s.needs) (hl : PacksI w (.slice a' (readR s.stock (tx p)).length cap') (readR s.stock (tx p))) => all_any b s a s.needs.length cap s.needs a' (readR s.stock (tx p)).length cap' (readR s.stock (tx p)) w h.site (NeedsI.r hd) (by omega) (PacksI.r hl) (by omega) (fun q hq => (hro q hq).1) (fun e he => by have := (hst.2 e he).1; omega))
    have hwok := allR_ok (nd := s.needs) hst hok.no (l := readR s.stock (tx p)) (fun q hq => ⟨(hro q hq).1, by have := (hro q hq).2; omega⟩)
    have hwl := allR_len (nd := s.needs) hst (l := readR s.stock (tx p)) (fun q hq => (hro q hq).1)
    have HAM := hid' (fun (h40 : (readR s.stock (tx p)).length ≤ 40) a cap a' n' cap' w (h : DAt w b s) (hl : PacksI w (.slice a (readR s.stock (tx p)).length cap) (readR s.stock (tx p))) (hw : WhosR w a' n' cap' (allR s.stock s.needs (readR s.stock (tx p)))) => allMet_any b s a (readR s.stock (tx p)).length cap (readR s.stock (tx p)) a' n' cap' (allR s.stock s.needs (readR s.stock (tx p))) w h.site (PacksI.r hl) (by omega) hw (by have := hw.1; omega) hwok (fun q hq => (hro q hq).1))
    have HIU := hid' (fun (h40 : (readR s.stock (tx p)).length ≤ 40) nv v w (h : DAt w b s) (hd : NeedsI w nv s.needs) (hl : PacksI w v (readR s.stock (tx p))) => inUseD_any b s nv s.needs v (readR s.stock (tx p)) w h hd hl (by omega) (by omega) (fun q hq => (hro q hq).1) (fun e he => by have := (hst.2 e he).1; omega) hwok (by omega))
    have L1 := hid' (lr_text (s := s) h4')
    have L2 := hid' (lr_use (s := s) h4')
    have L3 := hid' (lr_good (s := s) h4')
    clear hs hok hv h4' hst hro hwok hwl
    generalize loadR s (tx p) = res at *
    generalize readR s.stock (tx p) = l at *
    generalize allR s.stock s.needs l = who at *
    generalize inUseR s.stock s.needs l = us at *
    generalize allMetR s.stock l who = am at *
    generalize hangsR l = hg at *
    generalize textR s.stock l = txt at *
    go_enter Tryz.func60, Tryz.ntmps60
    go_wp2_with fail
    refine HRD.out.mono ?_
    rintro e w1 ⟨lv, rfl, hpk1, hb1⟩
    obtain ⟨la, lc, rfl⟩ := RowX.form hpk1
    have hz1 := hb1.size
    have HS1 := hid' (HS.out.below hb1)
    have HT1 := hid' (HTX.out _ w1 HS1.out hpk1)
    have HP1 := hid' hpk1
    have HB1 := hid' hb1
    clear hpk1 hb1
    go_wp2_with fail
    refine HT1.out.mono ?_
    rintro e w2 ⟨rfl, hb2⟩
    have hz2 := hb2.size
    have HP2 := hid' (RowX.below HP1.out hb2)
    have HS2 := hid' (HS1.out.below hb2)
    have HG2 := hid' (HHG.out _ w2 HP2.out)
    have HB2 := hid' (HB1.out.trans (hb2.mono hz1))
    clear hb2
    go_wp2_with fail
    refine HG2.out.mono ?_
    rintro e w3 ⟨rfl, hb3⟩
    have hz3 := hb3.size
    have HP3 := hid' (RowX.below HP2.out hb3)
    have HS3 := hid' (HS2.out.below hb3)
    have HB3 := hid' (HB2.out.trans (hb3.mono (by omega)))
    clear hb3
    go_upto_region 6 with fail
    go_cut [33] (fun t wc => t = .bool (!decide (txt = tx p) || (!hg || decide (40 < l.length))) ∧ wc = w3)
    case first =>
      by_cases ht : txt = tx p
      · have h1 : ((bs txt).toList == p.toList) = true := by rw [ht, bs_tx]; simp
        have HE : Hid ((!decide (txt = tx p) || (!hg || decide (40 < l.length))) = (!hg || decide (40 < l.length))) := by unfold Hid; simp [ht]
        clear ht
        cases hg
        · go_wp2
          go_meet
          exact ⟨by rw [HE.out]; rfl, rfl⟩
        · by_cases h40 : 40 < l.length
          · have h2 : (40 : Int) < (l.length : Int) := by omega
            have HE2 : Hid (decide (40 < l.length) = true) := by unfold Hid; simp [h40]
            go_wp2
            go_meet
            exact ⟨by rw [HE.out, HE2.out]; rfl, rfl⟩
          · have h2 : ¬ (40 : Int) < (l.length : Int) := by omega
            have HE2 : Hid (decide (40 < l.length) = false) := by unfold Hid; simp [h40]
            go_wp2
            go_meet
            exact ⟨by rw [HE.out, HE2.out]; rfl, rfl⟩
      · have h1 : ((bs txt).toList == p.toList) = false := by rw [tx_toList, tx_toList, tx_bs]; exact beq_eq_false_iff_ne.2 ht
        have HE : Hid ((!decide (txt = tx p) || (!hg || decide (40 < l.length))) = true) := by unfold Hid; simp [ht]
        clear ht
        go_wp2
        go_meet
        exact ⟨by rw [HE.out], rfl⟩
    case rest =>
      obtain ⟨rfl, rfl⟩ := hcut
      have HBT := hid' HB3.out
      rcases hB : (!decide (txt = tx p) || (!hg || decide (40 < l.length))) with _ | _
      · have h40 : l.length ≤ 40 := by
          rw [Bool.or_eq_false_iff, Bool.or_eq_false_iff] at hB
          have := of_decide_eq_false hB.2.2
          omega
        have L2' := hid' (L2.out hB)
        have L3' := hid' (L3.out hB)
        clear L1 L2 L3 hB
        obtain ⟨v1, e1, r1⟩ := HS3.out.needs
        obtain ⟨na, nc, rfl⟩ := RowX.form r1
        have HA3 := hid' (HAL.out h40 na nc la lc _ HS3.out r1 HP3.out)
        have hb3 := HS3.out.lt
        clear r1 HAL
        go_wp2_with fail
        refine HA3.out.mono ?_
        rintro e w4 ⟨wv, rfl, hown4, hb4⟩
        obtain ⟨wa, wcap, rfl⟩ := own_slice hown4
        have HW4 : Hid (WhosR w4 wa who.length wcap who) := ⟨rfl, RowR.of_own hown4⟩
        have HS4 := hid' (HS3.out.below hb4)
        have HP4 := hid' (RowX.below HP3.out hb4)
        have HB4 := hid' (HB3.out.trans (hb4.mono (by omega)))
        have HM4 := hid' (HAM.out h40 la lc wa who.length wcap w4 HS4.out HP4.out HW4.out)
        have hz4 := hb4.size
        clear hown4 hb4 HA3 HAM e1
        go_wp2_with fail
        refine HM4.out.mono ?_
        rintro e w5 ⟨rfl, hb5⟩
        have HS5 := hid' (HS4.out.below hb5)
        have HP5 := hid' (RowX.below HP4.out hb5)
        have HB5 := hid' (HB4.out.trans (hb5.mono (by omega)))
        have hz5 := hb5.size
        obtain ⟨v1, e1, r1⟩ := HS5.out.needs
        obtain ⟨na2, nc2, rfl⟩ := RowX.form r1
        have HI5 := hid' (HIU.out h40 _ _ w5 HS5.out r1 HP5.out)
        have hb5s := HS5.out.lt
        clear hb5 r1 HIU HM4
        go_wp2_with fail
        refine HI5.out.mono ?_
        rintro e w6 ⟨uv, rfl, hu6, hb6⟩
        obtain ⟨ua, uc, rfl⟩ := RowX.form hu6
        have HS6 := hid' (HS5.out.below hb6)
        have HP6 := hid' (RowX.below HP5.out hb6)
        have HB6 := hid' (HB5.out.trans (hb6.mono (by omega)))
        have hb6s := HS6.out.lt
        clear hb6 hu6 HI5 e1
        go_upto_region 11 with fail
        go_cut [60] (fun t wc => t = .bool (!am || !decide (us.length = l.length)) ∧ wc = w6)
        case first =>
          cases am
          · go_wp2
            go_meet
            exact ⟨rfl, rfl⟩
          · have HE : Hid (((us.length : Int) != (l.length : Int)) = !decide (us.length = l.length)) := by
              unfold Hid
              rw [Bool.eq_iff_iff]
              simp
              omega
            go_wp2
            go_meet
            exact ⟨by rw [HE.out]; rfl, rfl⟩
        case rest =>
          obtain ⟨rfl, rfl⟩ := hcut
          rcases hU : (!am || !decide (us.length = l.length)) with _ | _
          · have HF := hid' (L3'.out hU)
            obtain ⟨v2, t2, rt⟩ := HS6.out.packs
            have f2 := HS6.out.f2
            have HSS := hid' (HS6.out.setP HP6.out)
            have HMM := hid' (SMv.of_below (b := b) HB6.out)
            clear rt hU
            go_wp2
            go_ret
            exact ⟨ret_int (by rw [HF.out]), HMM.out.trans (SMv.set _ b 2 _), by rw [HF.out]; exact HSS.out⟩
          · have HF := hid' (L2'.out hU)
            clear hU
            go_wp2
            go_ret
            exact ⟨ret_int (by rw [HF.out]), SMv.of_below HB6.out, by rw [HF.out]; exact HS6.out⟩
      · have HF := hid' (L1.out hB)
        clear hB
        go_wp2
        go_ret
        exact ⟨ret_int (by rw [HF.out]), SMv.of_below HB3.out, by rw [HF.out]; exact HS3.out⟩

end Hst
end Go.Proofs.YtecocheolbkneaaGreatDoor
namespace Go.Proofs.YtecocheolbkneaaGreatDoor
open Go.RowKit
namespace Hst
set_option maxRecDepth 100000

theorem nmg_sl (s : ByteArray) (i : Nat) (h : i < s.size) (hb : ((s[i]).toNat : Int) = 47) : nameGo (tx s) (i + 1) = (tx s).drop (i + 1) := by
  have hl := tx_length s
  have e : (tx s).getD i 0 = s[i] := by rw [List.getD_eq_getElem?_getD, List.getElem?_eq_getElem (by omega)]; rfl
  have e2 : s[i] = 47 := UInt8.toNat_inj.1 (by simp; omega)
  simp only [nameGo]
  rw [e, if_pos e2]
theorem nmg_sn (s : ByteArray) (i : Nat) (h : i < s.size) (hb : ¬ ((s[i]).toNat : Int) = 47) : nameGo (tx s) (i + 1) = nameGo (tx s) i := by
  have hl := tx_length s
  have e : (tx s).getD i 0 = s[i] := by rw [List.getD_eq_getElem?_getD, List.getElem?_eq_getElem (by omega)]; rfl
  have e2 : ¬ s[i] = 47 := fun hh => hb (by rw [hh]; rfl)
  simp only [nameGo]
  rw [e, if_neg e2]

set_option maxHeartbeats 1000000 in
theorem nameOf_any (s : ByteArray) (w : World) (hs : s.size ≤ 100000) :
    Calls Tryz.prog 147 #[.string s] w fun e w' => e = .returned (.string (bs (nameP (tx s)))) ∧ w' = w := by
  have HP : Hid (nameP (tx s) = nameGo (tx s) s.size) := by unfold Hid nameP; rw [tx_length]
  go_enter Tryz.func147, Tryz.ntmps147
  go_wp2
  go_loop [3] (fun i => ∃ k : Nat, k ≤ s.size ∧ i = .int .i64 ((k : Int) - 1) ∧ Hid (nameP (tx s) = nameGo (tx s) k)) (fun i => (intOf i + 1).toNat)
  case atStart => exact ⟨s.size, Nat.le_refl _, rfl, HP⟩
  case round =>
    obtain ⟨k, hk, rfl, hall⟩ := hrel
    clear HP
    cases k with
    | zero =>
      have HF : Hid (nameP (tx s) = tx s) := hall.out
      go_wp2
      go_ret
      exact ⟨ret_str (by rw [HF.out, bs_tx]), rfl⟩
    | succ i =>
      have hlt : i < s.size := by omega
      have e0 : (((i + 1 : Nat) : Int) - 1) = (i : Int) := by omega
      rw [e0]
      by_cases hb : ((s[i]'hlt).toNat : Int) = 47
      · have HF : Hid (nameP (tx s) = (tx s).drop (i + 1)) := by unfold Hid; rw [hall.out, nmg_sl s i hlt hb]
        have hbb : (((s[i]'hlt).toNat : Int) == 47) = true := by simp [hb]
        have HX1 := hid' (ext_from s (i + 1))
        clear hb hall
        go_wp2
        go_ret
        exact ⟨ret_str (by rw [HF.out, ← HX1.out]), rfl⟩
      · have HF : Hid (nameP (tx s) = nameGo (tx s) i) := by unfold Hid; rw [hall.out, nmg_sn s i hlt hb]
        have hbb : (((s[i]'hlt).toNat : Int) == 47) = false := beq_eq_false_iff_ne.2 hb
        clear hb hall
        go_wp2
        go_round
        case rel => exact ⟨i, by omega, by go_num, HF⟩
        case measure => simp [intOf] <;> omega

set_option maxHeartbeats 1000000 in
theorem isPath_any (s : ByteArray) (w : World) (hs : s.size ≤ 100000) :
    Calls Tryz.prog 146 #[.string s] w fun e w' => e = .returned (.bool (isPathP (tx s))) ∧ Below w.heap.size w w' := by
  have HPS : Hid (∀ j (hj : j < (splitL 47 (tx s)).length), (bs (splitL 47 (tx s))[j]).size ≤ 100000) := fun j hj => by have := piece_size 47 s j hj; omega
  have HE : Hid (isPathP (tx s) = ((splitL 47 (tx s)).drop 0).all isNameR) := rfl
  have HDL : Hid ((splitL 47 (tx s)).length ≤ 100001) := by unfold Hid; have := splitL_len 47 (tx s); rw [tx_length] at this; omega
  go_enter Tryz.func146, Tryz.ntmps146
  go_wp2_with fail
  refine (psplit_any s 47 _ hs).mono ?_
  rintro e w1 ⟨v, rfl, hrow, hb1⟩
  have hrx := hrow.rowx
  obtain ⟨ta, tc, rfl⟩ := hrx.form
  have HRX := hid' hrx
  have HB1 := hid' hb1
  have hz1 := hb1.size
  clear hrow hrx hb1
  generalize splitL 47 (tx s) = d at *
  go_wp2
  go_loopw [8] (fun i wr => ∃ k : Nat, k ≤ d.length ∧ i = .int .i64 k ∧ Below w1.heap.size w1 wr ∧ Hid (isPathP (tx s) = (d.drop k).all isNameR)) (fun i _ => d.length - (intOf i).toNat)
  case atStart => exact ⟨0, Nat.zero_le _, rfl, Below.refl _ _, HE⟩
  case round =>
    obtain ⟨k, hk, rfl, hbel, hall⟩ := hrel
    have hdl := HDL.out
    have HBW := hid' (HB1.out.trans (hbel.mono hz1))
    by_cases hlt : k < d.length
    · obtain ⟨g, o, cap', hv, hg, hc⟩ := (HRX.out.below hbel).strs hlt
      simp at hv
      obtain ⟨rfl, rfl⟩ := hv
      have c0 := hc k hlt
      have HP := hid' (fun w => isNameP_any (bs d[k]) w (by have := HPS.out k hlt; omega))
      rw [tx_bs] at HP
      clear hc
      rcases hok : isNameR d[k] with _ | _
      · have HF : Hid (isPathP (tx s) = false) := by unfold Hid; rw [hall.out, pl_no isNameR d k hlt hok]
        rw [hok] at HP
        clear hok hall
        generalize bs d[k] = q at *
        go_wp2_with fail
        refine (HP.out _).mono ?_
        rintro e w2 ⟨he, hw⟩
        subst he hw
        go_wp2
        go_ret
        exact ⟨ret_bool (by rw [HF.out]), HBW.out⟩
      · have HF : Hid (isPathP (tx s) = (d.drop (k + 1)).all isNameR) := by unfold Hid; rw [hall.out, pl_yes isNameR d k hlt hok]
        rw [hok] at HP
        clear hok hall
        generalize bs d[k] = q at *
        go_wp2_with fail
        refine (HP.out _).mono ?_
        rintro e w2 ⟨he, hw⟩
        subst he hw
        go_wp2
        go_roundw
        case rel => exact ⟨k + 1, by omega, by go_num, hbel, HF⟩
        case measure => simp [intOf] <;> omega
    · have HF : Hid (isPathP (tx s) = true) := by unfold Hid; rw [hall.out, pl_end isNameR d k hlt]
      go_wp2
      go_ret
      exact ⟨ret_bool (by rw [HF.out]), HBW.out⟩

set_option maxHeartbeats 1000000 in
theorem hasFolder_any (v : Value) (l : List PkX) (p : ByteArray) (w : World) (hl : PksIn w v l) (hn : l.length ≤ 100000) (hp : p.size ≤ 100000) :
    Calls Tryz.prog 112 #[.agg #[v], .string p] w fun e w' => e = .returned (.bool (hasFolderP l (tx p))) ∧ Below w.heap.size w w' := by
  obtain ⟨a, cap, rfl⟩ := hl.1.form
  have hba := (Below.refl w.heap.size w).alloc (Nat.le_refl _) (.cells #[.slice a l.length cap] 73)
  have HF := hid' (fun w => folder_any p w hp)
  have HA := hid' (hasAt_any (.slice a l.length cap) l (bs (folderP (tx p))) _ (hl.below hba) hn)
  rw [tx_bs] at HA
  have HBA := hid' hba
  have HE : Hid (hasFolderP l (tx p) = (decide (folderP (tx p) = []) || hasAtP l (folderP (tx p)))) := rfl
  clear hl hba
  generalize hasFolderP l (tx p) = res at *
  generalize folderP (tx p) = f at *
  go_enter Tryz.func112, Tryz.ntmps112
  go_wp2_with fail
  refine (HF.out _).mono ?_
  rintro e w1 ⟨he, hw⟩
  subst he hw
  by_cases h0 : f = []
  · have hb : ((bs f).toList == []) = true := by rw [tx_toList, tx_bs, h0]; rfl
    have HR : Hid (res = true) := by unfold Hid; rw [HE.out]; simp [h0]
    clear h0
    go_wp2
    go_ret
    exact ⟨ret_bool (by rw [HR.out]), HBA.out⟩
  · have hb : ((bs f).toList == []) = false := by rw [tx_toList, tx_bs]; exact beq_eq_false_iff_ne.2 h0
    have HR : Hid (res = hasAtP l f) := by unfold Hid; rw [HE.out]; simp [h0]
    clear h0
    go_wp2_with fail
    refine HA.out.mono ?_
    rintro e w2 ⟨rfl, hb2⟩
    have HB2 := hid' (HBA.out.trans (hb2.mono (by simp)))
    clear hb2
    go_wp2
    go_ret
    exact ⟨ret_bool (by rw [HR.out]), HB2.out⟩

end Hst
end Go.Proofs.YtecocheolbkneaaGreatDoor
namespace Go.Proofs.YtecocheolbkneaaGreatDoor
open Go.RowKit
namespace Hst
set_option maxRecDepth 100000

theorem gl_yes {α : Type} (f : α → Bool) (d : List α) (k : Nat) (hk : k < d.length) (h : f d[k] = true) : (d.drop k).all f = (d.drop (k + 1)).all f := by
  rw [List.drop_eq_getElem_cons hk, List.all_cons, h, Bool.true_and]
theorem gl_no {α : Type} (f : α → Bool) (d : List α) (k : Nat) (hk : k < d.length) (h : f d[k] = false) : (d.drop k).all f = false := by
  rw [List.drop_eq_getElem_cons hk, List.all_cons, h, Bool.false_and]
theorem gl_end {α : Type} (f : α → Bool) (d : List α) (k : Nat) (hk : ¬ k < d.length) : (d.drop k).all f = true := by
  rw [List.drop_of_length_le (by omega)]; rfl

set_option maxHeartbeats 2000000 in
theorem meetsAll_any (v : Value) (t : List PkX) (f : ByteArray) (nv : Value) (nd : List NeedX) (w : World) (hl : PksIn w v t) (ht : t.length ≤ 1000) (hp : PathsOk t) (hf : f.size ≤ 50000) (hn : NeedsIn w nv nd) (hnl : nd.length ≤ 1000) :
    Calls Tryz.prog 71 #[.agg #[v], .string f, nv] w fun e w' => e = .returned (.bool (nd.all fun n => meetsP t (tx f) n)) ∧ Below w.heap.size w w' := by
  obtain ⟨a, cap, rfl⟩ := hl.1.form
  obtain ⟨na, nc, rfl⟩ := hn.1.form
  have hbw := (Below.refl w.heap.size w).alloc (Nat.le_refl _) (.cells #[.slice a t.length cap] 73)
  have HL1 := hid' (hl.below hbw)
  have HN1 := hid' (hn.below hbw)
  have HW := hid' hbw
  have e0 : (w.alloc (.cells #[.slice a t.length cap] 73)).cell? ⟨w.heap.size, 0, none⟩ = some (.slice a t.length cap) := by simp
  have hsz : (w.alloc (.cells #[.slice a t.length cap] 73)).heap.size = w.heap.size + 1 := by simp
  have HM := hid' (fun x w h hx => meets_any (.slice a t.length cap) t f x w h (by omega) hp hf hx)
  have HR : Hid ((nd.all fun n => meetsP t (tx f) n) = (nd.drop 0).all fun n => meetsP t (tx f) n) := rfl
  clear hl hn hbw hp
  generalize (nd.all fun n => meetsP t (tx f) n) = res at *
  go_enter Tryz.func71, Tryz.ntmps71
  go_wp2
  generalize w.alloc (.cells #[.slice a t.length cap] 73) = W at *
  have HS := hid' hsz
  clear hsz
  go_loopw [11] (fun i wr => ∃ k : Nat, k ≤ nd.length ∧ i = .int .i64 k ∧ Below W.heap.size W wr ∧ Hid (res = (nd.drop k).all fun n => meetsP t (tx f) n)) (fun i _ => nd.length - (intOf i).toNat)
  case atStart => exact ⟨0, Nat.zero_le _, rfl, Below.refl _ _, HR⟩
  case round =>
    obtain ⟨k, hk, rfl, hbel, hall⟩ := hrel
    have hz := hbel.size
    have hwW : w.heap.size < W.heap.size := by have := HS.out; omega
    have d0 := ((bcell hbel).1 w.heap.size 0 hwW).trans e0
    have hwr : w.heap.size < wr.heap.size := by omega
    by_cases hlt : k < nd.length
    · obtain ⟨g, o, cap', hv, hg, hc⟩ := (HN1.out.below hbel).1.needs hlt
      simp at hv
      obtain ⟨rfl, rfl⟩ := hv
      obtain ⟨c0, c1, c2⟩ := hc k hlt
      have hin := (HN1.out.below hbel).2 nd[k] (List.getElem_mem hlt)
      obtain ⟨sa, sc, hsp⟩ := hin.form
      have hba := (Below.refl wr.heap.size wr).alloc (Nat.le_refl _) (.cells #[.string (bs nd[k].name), nd[k].sp, .string (bs nd[k].text)] 105)
      have HMK := hid' (HM.out nd[k] _ ((HL1.out.below hbel).below hba) (hin.below hba))
      have HB2 := hid' (hbel.trans (hba.mono hz))
      have HY := hid' (gl_yes (fun n => meetsP t (tx f) n) nd k hlt)
      have HNO := hid' (gl_no (fun n => meetsP t (tx f) n) nd k hlt)
      clear hc hin hba
      generalize nd[k] = x at *
      obtain ⟨xn, xsp, xs, xt⟩ := x
      simp only at c0 c1 c2 hsp HMK HB2 HY HNO
      subst hsp
      generalize meetsP t (tx f) ⟨xn, .slice sa xs.length sc, xs, xt⟩ = bb at *
      go_wp2_with fail
      refine HMK.out.mono ?_
      rintro e w2 ⟨rfl, hb2⟩
      have HB3 := hid' (HB2.out.trans (hb2.mono (by simp; omega)))
      clear hb2
      cases bb
      · have HF : Hid (res = false) := by unfold Hid; rw [hall.out]; exact HNO.out rfl
        have HB4 := hid' (HW.out.trans (HB3.out.mono (by omega)))
        clear hall
        go_wp2
        go_ret
        exact ⟨ret_bool (by rw [HF.out]), HB4.out⟩
      · have HF : Hid (res = (nd.drop (k + 1)).all fun n => meetsP t (tx f) n) := by unfold Hid; rw [hall.out]; exact HY.out rfl
        clear hall
        go_wp2
        go_roundw
        case rel => exact ⟨k + 1, by omega, by go_num, HB3.out, HF⟩
        case measure => simp [intOf] <;> omega
    · have HF : Hid (res = true) := by unfold Hid; rw [hall.out, gl_end _ nd k hlt]
      have HB4 := hid' (HW.out.trans (hbel.mono (by omega)))
      clear hall
      go_wp2
      go_ret
      exact ⟨ret_bool (by rw [HF.out]), HB4.out⟩

set_option maxHeartbeats 2000000 in
theorem isSound_any (v : Value) (t : List PkX) (nv : Value) (nd : List NeedX) (w : World) (hl : PksIn w v t) (ht : t.length ≤ 1000) (hp : PathsOk t) (hn : NeedsIn w nv nd) (hnl : nd.length ≤ 1000) :
    Calls Tryz.prog 37 #[.agg #[v], nv] w fun e w' => e = .returned (.bool (soundP t nd)) ∧ Below w.heap.size w w' := by
  obtain ⟨a, cap, rfl⟩ := hl.1.form
  obtain ⟨na, nc, rfl⟩ := hn.1.form
  have hbw := (Below.refl w.heap.size w).alloc (Nat.le_refl _) (.cells #[.slice a t.length cap] 73)
  have HL1 := hid' (hl.below hbw)
  have HW := hid' hbw
  have e0 : (w.alloc (.cells #[.slice a t.length cap] 73)).cell? ⟨w.heap.size, 0, none⟩ = some (.slice a t.length cap) := by simp
  have hsz : (w.alloc (.cells #[.slice a t.length cap] 73)).heap.size = w.heap.size + 1 := by simp
  have HS1 := hid' (meetsAll_any (.slice a t.length cap) t ByteArray.empty (.slice na nd.length nc) nd _ (hl.below hbw) ht hp (by simp) (hn.below hbw) hnl)
  have HM := hid' (fun f nv nd w h hf hn hnl => meetsAll_any (.slice a t.length cap) t f nv nd w h ht hp hf hn hnl)
  have HP := hid' hp
  have HT : Hid (tx ByteArray.empty = []) := rfl
  rw [HT.out] at HS1
  have HR : Hid (soundP t nd = ((nd.all fun n => meetsP t [] n) && (t.drop 0).all fun p => p.e.nd.all fun n => meetsP t p.path n)) := rfl
  clear hl hn hbw hp
  generalize soundP t nd = res at *
  generalize (nd.all fun n => meetsP t [] n) = b1 at *
  go_enter Tryz.func37, Tryz.ntmps37
  go_wp2_with fail
  refine HS1.out.mono ?_
  rintro e w1 ⟨rfl, hb1⟩
  have hwW : w.heap.size < w1.heap.size := by have := hb1.size; omega
  have d0 := ((bcell hb1).1 w.heap.size 0 (by omega)).trans e0
  have HB1 := hid' (HW.out.trans (hb1.mono (by omega)))
  have HL2 := hid' (HL1.out.below hb1)
  clear hb1 e0 hsz HL1
  cases b1
  · have HF : Hid (res = false) := by unfold Hid; rw [HR.out]; rfl
    go_wp2
    go_ret
    exact ⟨ret_bool (by rw [HF.out]), HB1.out⟩
  · have HR2 : Hid (res = (t.drop 0).all fun p => p.e.nd.all fun n => meetsP t p.path n) := by unfold Hid; rw [HR.out]; rfl
    go_wp2
    go_loopw [14] (fun i wr => ∃ k : Nat, k ≤ t.length ∧ i = .int .i64 k ∧ Below w1.heap.size w1 wr ∧ Hid (res = (t.drop k).all fun p => p.e.nd.all fun n => meetsP t p.path n)) (fun i _ => t.length - (intOf i).toNat)
    case atStart => exact ⟨0, Nat.zero_le _, rfl, Below.refl _ _, HR2⟩
    case round =>
      obtain ⟨k, hk, rfl, hbel, hall⟩ := hrel
      have hz := hbel.size
      have f0 := ((bcell hbel).1 w.heap.size 0 hwW).trans d0
      have hwr : w.heap.size < wr.heap.size := by omega
      by_cases hlt : k < t.length
      · obtain ⟨g, o, cap', hv, hg, hc⟩ := (HL2.out.below hbel).1.pks hlt
        simp at hv
        obtain ⟨rfl, rfl⟩ := hv
        obtain ⟨c0, c1, c2, c3⟩ := hc k hlt
        have hin := (HL2.out.below hbel).2 t[k] (List.getElem_mem hlt)
        obtain ⟨sa, sc, hsp⟩ := hin.form'
        have hpk := HP.out t[k] (List.getElem_mem hlt)
        have hba := (Below.refl wr.heap.size wr).alloc (Nat.le_refl _) (.cells #[.string (bs t[k].path), .string (bs t[k].e.name), .int .i64 t[k].e.ver, t[k].e.needs] 113)
        have HMK := hid' (HM.out (bs t[k].path) t[k].e.needs t[k].e.nd _ ((HL2.out.below hbel).below hba) (by rw [bs_size]; omega) (hin.1.below hba) (by have := hin.2.1; omega))
        rw [tx_bs] at HMK
        have HB2 := hid' (hbel.trans (hba.mono hz))
        have HY := hid' (gl_yes (fun p : PkX => p.e.nd.all fun n => meetsP t p.path n) t k hlt)
        have HNO := hid' (gl_no (fun p : PkX => p.e.nd.all fun n => meetsP t p.path n) t k hlt)
        clear hc hin hba hpk
        generalize t[k] = x at *
        obtain ⟨xp, xn, xv, xsp, xd⟩ := x
        simp only at c0 c1 c2 c3 hsp HMK HB2 HY HNO
        subst hsp
        generalize (xd.all fun n => meetsP t xp n) = bb at *
        go_wp2_with fail
        refine HMK.out.mono ?_
        rintro e w2 ⟨rfl, hb2⟩
        have HB3 := hid' (HB2.out.trans (hb2.mono (by simp; omega)))
        clear hb2
        cases bb
        · have HF : Hid (res = false) := by unfold Hid; rw [hall.out]; exact HNO.out rfl
          have HB4 := hid' (HB1.out.trans (HB3.out.mono (by omega)))
          clear hall
          go_wp2
          go_ret
          exact ⟨ret_bool (by rw [HF.out]), HB4.out⟩
        · have HF : Hid (res = (t.drop (k + 1)).all fun p => p.e.nd.all fun n => meetsP t p.path n) := by unfold Hid; rw [hall.out]; exact HY.out rfl
          clear hall
          go_wp2
          go_roundw
          case rel => exact ⟨k + 1, by omega, by go_num, HB3.out, HF⟩
          case measure => simp [intOf] <;> omega
      · have HF : Hid (res = true) := by unfold Hid; rw [hall.out, gl_end _ t k hlt]
        have HB4 := hid' (HB1.out.trans (hbel.mono (by omega)))
        clear hall
        go_wp2
        go_ret
        exact ⟨ret_bool (by rw [HF.out]), HB4.out⟩

set_option maxHeartbeats 2000000 in
theorem allInUse_any (v : Value) (t : List PkX) (nv : Value) (nd : List NeedX) (w : World) (hl : PksIn w v t) (ht : t.length ≤ 1000) (hp : PathsOk t) (hn : NeedsIn w nv nd) (hnl : nd.length ≤ 1000) :
    Calls Tryz.prog 38 #[.agg #[v], nv] w fun e w' => e = .returned (.bool (decide ((inUseP t nv nd).length = t.length))) ∧ Below w.heap.size w w' := by
  obtain ⟨a, cap, rfl⟩ := hl.1.form
  obtain ⟨na, nc, rfl⟩ := hn.1.form
  have hbw := (Below.refl w.heap.size w).alloc (Nat.le_refl _) (.cells #[.slice a t.length cap] 73)
  have HI := hid' (inUse_any' (.slice a t.length cap) t (.slice na nd.length nc) nd _ (hl.below hbw) (hn.below hbw) ht hp hnl)
  have HW := hid' hbw
  have e0 : (w.alloc (.cells #[.slice a t.length cap] 73)).cell? ⟨w.heap.size, 0, none⟩ = some (.slice a t.length cap) := by simp
  have hsz : (w.alloc (.cells #[.slice a t.length cap] 73)).heap.size = w.heap.size + 1 := by simp
  clear hl hn hbw hp
  generalize inUseP t (.slice na nd.length nc) nd = u at *
  go_enter Tryz.func38, Tryz.ntmps38
  go_wp2_with fail
  refine HI.out.mono ?_
  rintro e w1 ⟨v', rfl, hin, hb1⟩
  obtain ⟨ua, uc, rfl⟩ := hin.1.form
  have hwW : w.heap.size < w1.heap.size := by have := hb1.size; omega
  have d0 := ((bcell hb1).1 w.heap.size 0 (by omega)).trans e0
  have HB1 := hid' (HW.out.trans (hb1.mono (by omega)))
  have hz1 := HB1.out.size
  clear hb1 e0 hsz hin
  have HE : Hid (((u.length : Int) == (t.length : Int)) = decide (u.length = t.length)) := by
    unfold Hid
    rw [Bool.eq_iff_iff, beq_iff_eq, decide_eq_true_iff]
    omega
  go_wp2
  go_ret
  exact ⟨ret_bool (by rw [HE.out]), HB1.out.alloc (by omega) _⟩

end Hst
end Go.Proofs.YtecocheolbkneaaGreatDoor
