/- Dadd, Written, Dtext, Dtextb, Mtext, Twin -/
import Derived.Test.YtpokdndhemlomaaGreatDoorW25
import Derived.Test.YtpokdndhemlomaaGreatDoorW26
import Derived.Test.YtpokdndhemlomaaGreatDoorW01
import Derived.Laws.IdiomStrings
import Derived.Test.YtpokdndhemlomaaGreatDoorW08
import Derived.Test.YtpokdndhemlomaaGreatDoorW20
namespace Go.Proofs.YtpokdndhemlomaaGreatDoor
open Go.RowKit
namespace Hst
set_option maxRecDepth 100000

/-- The needs that Add builds for. -/
def addN (s : SiteD) (l : Tx) : List NeedD := sortedR (restR s.needs (needR l).1.name ++ [(needR l).1])
theorem ad_text {s : SiteD} {l : Tx} {n : NeedD} (h : needR l = (n, false)) : addR s l = (s, 5) := by unfold addR; rw [h]; rfl
theorem ad_many {s : SiteD} {l : Tx} {n : NeedD} (h : needR l = (n, true)) (h6 : 6 ≤ (restR s.needs n.name).length) : addR s l = (s, 7) := by unfold addR; rw [h, if_neg (by simp), if_pos h6]
theorem ad_good {s : SiteD} {l : Tx} {n : NeedD} (h : needR l = (n, true)) (h6 : ¬ 6 ≤ (restR s.needs n.name).length) : addR s l = settleR s (addN s l) s.packs := by unfold addR addN; rw [h, if_neg (by simp), if_neg h6]
theorem addN_ok {s : SiteD} (hok : DOk s) {l : Tx} {n : NeedD} (h : needR l = (n, true)) : ∀ x ∈ addN s l, NeedOk x := by
  intro x hx
  unfold addN at hx
  rw [(sortedR_perm _).mem_iff, h] at hx
  rcases List.mem_append.1 hx with hx | hx
  · exact hok.no x (List.mem_filter.1 hx).1
  · rw [List.mem_singleton.1 hx]
    have h2 : (needR l).2 = true := by rw [h]
    have h1 : (needR l).1 = n := by rw [h]
    unfold needR at h1 h2
    simp only [Bool.and_eq_true] at h1 h2
    rw [← h1]
    refine ⟨isName_3 h2.1, ?_⟩
    have := h2.2
    unfold isRangeR at this
    simp only [Bool.and_eq_true, decide_eq_true_eq] at this
    exact this.1
theorem addN_len {s : SiteD} {l : Tx} {n : NeedD} (h : needR l = (n, true)) (h6 : ¬ 6 ≤ (restR s.needs n.name).length) : (addN s l).length ≤ 6 := by
  unfold addN
  rw [(sortedR_perm _).length_eq, h]
  simp
  omega

set_option maxHeartbeats 4000000 in
theorem addD_any (b : Nat) (s : SiteD) (p : ByteArray) (w : World) (hs : DAt w b s) (hok : DOk s) (hp : p.size ≤ 9223372036854775807) (hlw : ¬ 6 ≤ (restR s.needs (needR (tx p)).1.name).length → (needR (tx p)).2 = true → LaysWell s.stock s.packs (addN s (tx p))) :
    Calls Tryz.prog 53 #[.pointer (some ⟨b, 0, none⟩), .string p] w fun e w' => e = .returned (.int .i64 (addR s (tx p)).2) ∧ SMv b w w' ∧ DAt w' b (addR s (tx p)).1 := by
  obtain ⟨i0, hi, iz0, iz1, iz2⟩ := info_parts info_need
  have hnl := hok.nl
  have hlt := hs.lt
  have HND := hid' (fun w => need_any p w hp)
  have HS := hid' hs
  have HOK := hid' hok
  rcases hnr : needR (tx p) with ⟨⟨nn, nr⟩, ok⟩
  rw [hnr] at HND hlw
  cases ok
  · have HF := hid' (ad_text (s := s) hnr)
    generalize addR s (tx p) = ar at *
    clear hnr hlw hs hok
    go_enter Tryz.func53, Tryz.ntmps53
    go_wp2_with fail
    refine (HND.out _).mono ?_
    rintro e w1 ⟨rfl, hb1⟩
    have hba := hb1.alloc hb1.size (.cells #[.string (bs nn), .string (bs nr)] 134)
    have HR := hid' (And.intro (SMv.of_below (b := b) hba) (HS.out.below hba))
    clear hb1 hba
    go_wp2
    go_ret
    exact ⟨ret_int (by rw [HF.out]), HR.out.1, by rw [HF.out]; exact HR.out.2⟩
  · have A1 := hid' (ad_many (s := s) hnr)
    have A2 := hid' (ad_good (s := s) hnr)
    have HLN := hid' (addN_len (s := s) hnr)
    have HSET := hid' (fun (h6 : ¬ 6 ≤ (restR s.needs nn).length) nv tv w h1 h2 h3 => settleD_any b s nv (addN s (tx p)) tv s.packs w h1 h2 h3 hok.st (addN_len hnr h6) (addN_ok hok hnr) hok.pl (hlw h6 rfl))
    have HAN : Hid (addN s (tx p) = sortedR (restR s.needs nn ++ [⟨nn, nr⟩])) := by unfold Hid addN; rw [hnr]
    have HRL := hid' (restR_len s.needs nn)
    generalize addR s (tx p) = ar at *
    generalize addN s (tx p) = an at *
    clear hnr hlw hs hok
    go_enter Tryz.func53, Tryz.ntmps53
    go_wp2_with fail
    refine (HND.out _).mono ?_
    rintro e w1 ⟨rfl, hb1⟩
    have hz1 := hb1.size
    have hba := hb1.alloc hb1.size (.cells #[.string (bs nn), .string (bs nr)] 134)
    have HS2 := hid' (HS.out.below hba)
    have HM2 := hid' (SMv.of_below (b := b) hba)
    obtain ⟨v1, e1, r1⟩ := HS2.out.needs
    obtain ⟨na, nc, rfl⟩ := RowX.form r1
    have HR1 := hid' r1
    have q0 : (w1.alloc (.cells #[.string (bs nn), .string (bs nr)] 134)).cell? ⟨w1.heap.size, 0, none⟩ = some (.string (bs nn)) := by simp
    have q1 : (w1.alloc (.cells #[.string (bs nn), .string (bs nr)] 134)).cell? ⟨w1.heap.size, 1, none⟩ = some (.string (bs nr)) := by simp
    have hsz : (w1.alloc (.cells #[.string (bs nn), .string (bs nr)] 134)).heap.size = w1.heap.size + 1 := by simp
    have hb2 := HS2.out.lt
    have HRS := hid' (fun w h => rest_any na s.needs.length nc s.needs (bs nn) w h (by omega))
    rw [tx_bs] at HRS
    clear hb1 hba r1
    go_wp2
    generalize w1.alloc (.cells #[.string (bs nn), .string (bs nr)] 134) = V at *
    have hV1 : w1.heap.size < V.heap.size := by omega
    clear hsz
    go_region_held3 (fun w' => w'.cell? ⟨b, 1, none⟩ = some (.slice na s.needs.length nc) ∧ w'.cell? ⟨w1.heap.size, 0, none⟩ = some (.string (bs nn))) (go_keep)
      (first | (go_at_call 82; refine (HRS.out _ (by first | exact NeedsI.r HR1.out | exact NeedsI.r (RowX.below HR1.out (Below.refl _ _).drew))).mono ?_; rintro e w2 ⟨v2, rfl, hown2, hb2'⟩; obtain ⟨oa, oc, rfl⟩ := own_slice hown2; have hz2 := (bcell hb2').1; simp at hz2))
    have hb3 := (Below.refl V.heap.size V).drew.trans (hb2'.mono (by simp))
    have HS3 := hid' (HS2.out.below hb3)
    have HM3 := hid' (HM2.out.trans (SMv.of_below (b := b) hb3))
    have hcc := (bcell hb3).1
    have p0 := (hcc w1.heap.size 0 hV1).trans q0
    have p1 := (hcc w1.heap.size 1 hV1).trans q1
    have h12 : w1.heap.size < w2.heap.size := by have := hb3.size; omega
    have hb2s := HS3.out.lt
    have hrl := HRL.out
    have hv2 := hb3.size
    have HB3 := hid' hb3
    have HB2 := hid' hb2'
    clear hb3 hcc hz2 q0 q1 e1 HR1
    generalize restR s.needs nn = rr at *
    by_cases h6 : 6 ≤ rr.length
    · have h6' : (6 : Int) ≤ (rr.length : Int) := by omega
      have HF := hid' (A1.out h6)
      clear hb2' hown2
      go_wp2
      go_ret
      exact ⟨ret_int (by rw [HF.out]), HM3.out, by rw [HF.out]; exact HS3.out⟩
    · have h6' : ¬ (6 : Int) ≤ (rr.length : Int) := by omega
      have HF := hid' (A2.out h6)
      have HL6 := hid' (HLN.out h6)
      have HSE := hid' (HSET.out h6)
      have hrr : rr.length ≤ 5 := by omega
      clear hb2' h6
      go_wp2_with (first
        | (at_builtin; refine wpList_append_lies _ rfl _ _ 125 rfl V.drew.heap.size 134 i0 (.agg #[.string ByteArray.empty, .string ByteArray.empty]) 2 32 Tryz.underlying125 hi iz0 iz1 iz2 rfl (by omega) _ _ _ rfl (hown2.alloc _) ⟨w2.heap.size, 0, none⟩ 1 1 [.string (bs nn), .string (bs nr)] rfl rfl (news_one _ _ _ _) (need_one ⟨nn, nr⟩) (by omega) (by unfold maxLen; omega) (by omega) (by simp; omega) (w2.heap.size + 1) (by simp) ?_; intro g1 cap1 w3 hown3 hgrow hat hlt1))
      have R := step_gen2 needC (x := ⟨nn, nr⟩) rfl hown2 HB2.out ((Below.refl _ _).alloc (Nat.le_refl _) _) hown3 hgrow
      have HB4 := hid' ((Below.refl V.heap.size V).drew.trans (R.2.mono (by simp)))
      have HNI := hid' (show NeedsI w3 (.slice (some ⟨g1, 0, none⟩) (rr.length + 1) cap1) (rr ++ [⟨nn, nr⟩]) from RowX.of_own R.1)
      have HSO := hid' (sorted_any (.slice (some ⟨g1, 0, none⟩) (rr.length + 1) cap1) (rr ++ [⟨nn, nr⟩]) w3 HNI.out (by simp; omega))
      rw [← HAN.out] at HSO
      have HS4 := hid' (HS2.out.below HB4.out)
      have HM4 := hid' (HM2.out.trans (SMv.of_below (b := b) HB4.out))
      clear R hown3 hgrow hown2 p0 p1
      go_wp2_with fail
      refine HSO.out.mono ?_
      rintro e w4 ⟨v4, rfl, hown4, hb4⟩
      have hrx4 := RowX.of_own hown4
      obtain ⟨va4, vc4, rfl⟩ := own_slice hown4
      have HN4 := hid' (show NeedsI w4 (.slice va4 an.length vc4) an from hrx4)
      have HS5 := hid' (HS4.out.below hb4)
      have HM5 := hid' (HM4.out.trans (SMv.of_below (b := b) hb4))
      have hlt5 := HS5.out.lt
      obtain ⟨v2, t2, r2⟩ := HS5.out.packs
      obtain ⟨pa, pc, rfl⟩ := RowX.form r2
      have HST := hid' (HSE.out _ _ w4 HS5.out HN4.out r2)
      clear hb4 hown4 hrx4 r2 HSE HSO
      go_wp2_with fail
      refine HST.out.mono ?_
      rintro e w5 ⟨rfl, hm, hs5⟩
      have HR := hid' (And.intro (HM5.out.trans hm) hs5)
      clear hm hs5
      go_wp2
      go_ret
      exact ⟨ret_int (by rw [HF.out]), HR.out.1, by rw [HF.out]; exact HR.out.2⟩

end Hst
end Go.Proofs.YtpokdndhemlomaaGreatDoor
namespace Go.Proofs.YtpokdndhemlomaaGreatDoor
open Go.RowKit
namespace Hst
set_option maxRecDepth 100000

theorem byte_of (n : Nat) (h : n < 256) : ((n.toUInt8.toNat : Nat) : Int) = n := by simp; omega

set_option maxHeartbeats 1000000 in
theorem digits_nat (n : Nat) (w : World) (h : n < 100) :
    Calls Tryz.prog 155 #[.int .i64 n] w fun e w' => e = .returned (.string (bs (numT n))) ∧ Below w.heap.size w w' := by
  by_cases h10 : n < 10
  · have e : numT n = [(48 + n).toUInt8] := by simp [numT, h10]
    have hcv : (convert 226 9 (.slice (some ⟨w.heap.size, 0, none⟩) 1 1)).run Tryz.prog (w.alloc (.cells #[.int .u8 (48 + (n : Int))] 5)) = .ok (.string (bs [(48 + n).toUInt8])) (w.alloc (.cells #[.int .u8 (48 + (n : Int))] 5)) := run_convert_bytes_back (P := Tryz.prog) (w.alloc (.cells #[.int .u8 (48 + (n : Int))] 5)) 226 9 5 ⟨w.heap.size, 0, none⟩ 1 [(48 + n).toUInt8] Tryz.underlying226 Tryz.underlying5 Tryz.underlying9 (fun j hj => by
      match j, hj with
      | 0, _ => simp only [List.getElem_cons_zero, byte_of (48 + n) (by omega)]; simp [Addr.add])
    rw [e]
    clear e
    generalize bs [(48 + n).toUInt8] = q at *
    go_enter Tryz.func155, Tryz.ntmps155
    go_wp2
    go_ret
    exact ⟨rfl, (Below.refl _ _).alloc (Nat.le_refl _) _⟩
  · have e : numT n = [(48 + n / 10).toUInt8, (48 + n % 10).toUInt8] := by simp [numT, h10]
    have hcv : (convert 226 9 (.slice (some ⟨w.heap.size, 0, none⟩) 2 2)).run Tryz.prog (w.alloc (.cells #[.int .u8 (48 + (n : Int) / 10), .int .u8 (48 + (n : Int) % 10)] 5)) = .ok (.string (bs [(48 + n / 10).toUInt8, (48 + n % 10).toUInt8])) (w.alloc (.cells #[.int .u8 (48 + (n : Int) / 10), .int .u8 (48 + (n : Int) % 10)] 5)) := run_convert_bytes_back (P := Tryz.prog) (w.alloc (.cells #[.int .u8 (48 + (n : Int) / 10), .int .u8 (48 + (n : Int) % 10)] 5)) 226 9 5 ⟨w.heap.size, 0, none⟩ 2 [(48 + n / 10).toUInt8, (48 + n % 10).toUInt8] Tryz.underlying226 Tryz.underlying5 Tryz.underlying9 (fun j hj => by
      match j, hj with
      | 0, _ => simp only [List.getElem_cons_zero, byte_of (48 + n / 10) (by omega)]; simp [Addr.add]
      | 1, _ => simp only [List.getElem_cons_zero, List.getElem_cons_succ, byte_of (48 + n % 10) (by omega)]; simp [Addr.add])
    rw [e]
    clear e
    generalize bs [(48 + n / 10).toUInt8, (48 + n % 10).toUInt8] = q at *
    go_enter Tryz.func155, Tryz.ntmps155
    go_wp2
    go_ret
    exact ⟨rfl, (Below.refl _ _).alloc (Nat.le_refl _) _⟩
theorem digits_any (n : Int) (w : World) (h0 : 0 ≤ n) (h : n ≤ 99) :
    Calls Tryz.prog 155 #[.int .i64 n] w fun e w' => e = .returned (.string (bs (numT n.toNat))) ∧ Below w.heap.size w w' := by
  obtain ⟨m, rfl⟩ := Int.eq_ofNat_of_zero_le h0
  exact digits_nat m w (by omega)

set_option maxHeartbeats 1000000 in
theorem written_any (a b c : Int) (w : World) (ha0 : 0 ≤ a) (ha1 : a ≤ 99) (hb0 : 0 ≤ b) (hb1 : b ≤ 99) (hc0 : 0 ≤ c) (hc1 : c ≤ 99) :
    Calls Tryz.prog 124 #[verV a b c] w fun e w' => e = .returned (.string (bs (verT a.toNat b.toNat c.toNat))) ∧ Below w.heap.size w w' := by
  have HI1 := hid' (fun w => digits_any a w ha0 ha1)
  have HI2 := hid' (fun w => digits_any b w hb0 hb1)
  have HI3 := hid' (fun w => digits_any c w hc0 hc1)
  have HE : Hid (bs (numT a.toNat) ++ bs [46] ++ bs (numT b.toNat) ++ bs [46] ++ bs (numT c.toNat) = bs (verT a.toNat b.toNat c.toNat)) := by
    unfold Hid; rw [bs_append, bs_append, bs_append, bs_append]; rfl
  have l1 : (bs (numT a.toNat)).size ≤ 2 := by rw [bs_size]; exact numT_len _
  have l2 : (bs (numT b.toNat)).size ≤ 2 := by rw [bs_size]; exact numT_len _
  have l3 : (bs (numT c.toNat)).size ≤ 2 := by rw [bs_size]; exact numT_len _
  generalize bs (verT a.toNat b.toNat c.toNat) = q at *
  generalize bs (numT a.toNat) = q1 at *
  generalize bs (numT b.toNat) = q2 at *
  generalize bs (numT c.toNat) = q3 at *
  go_enter Tryz.func124, Tryz.ntmps124
  go_wp2_with fail
  refine (HI1.out _).mono ?_
  rintro e w1 ⟨rfl, hw1⟩
  have hz1 := hw1.size
  simp at hz1
  have d1 := (bcell hw1).1 w.heap.size 1 (by simp)
  have d2 := (bcell hw1).1 w.heap.size 2 (by simp)
  simp at d1 d2
  have HB1 := hid' (((Below.refl _ _).alloc (Nat.le_refl _) _).trans (hw1.mono (by simp)) : Below w.heap.size w w1)
  clear hw1
  go_wp2_with fail
  refine (HI2.out _).mono ?_
  rintro e w2 ⟨rfl, hw2⟩
  have hz2 := hw2.size
  have e2 := ((bcell hw2).1 w.heap.size 2 (by omega)).trans d2
  have HB2 := hid' (HB1.out.trans (hw2.mono (by omega)))
  clear hw2 d1 d2
  go_wp2_with fail
  refine (HI3.out _).mono ?_
  rintro e w3 ⟨rfl, hw3⟩
  have HB3 := hid' (HB2.out.trans (hw3.mono (by omega)))
  clear hw3 e2
  go_wp2
  go_ret
  exact ⟨ret_str HE.out, HB3.out⟩

end Hst
end Go.Proofs.YtpokdndhemlomaaGreatDoor
namespace Go.Proofs.YtpokdndhemlomaaGreatDoor
open Go.RowKit
namespace Hst
set_option maxRecDepth 100000

theorem nd_first (l : List NeedD) (h : 0 < l.length) : neededGo true (l.drop 0) = l[0].name ++ l[0].rng ++ neededGo false (l.drop 1) := by
  rw [List.drop_eq_getElem_cons h]; simp [neededGo]
theorem nd_next (l : List NeedD) (k : Nat) (h : k < l.length) : neededGo false (l.drop k) = [44] ++ l[k].name ++ l[k].rng ++ neededGo false (l.drop (k + 1)) := by
  rw [List.drop_eq_getElem_cons h]; simp [neededGo]
theorem nd_end (l : List NeedD) (k : Nat) (h : ¬ k < l.length) (b : Bool) : neededGo b (l.drop k) = [] := by
  rw [List.drop_of_length_le (by omega)]; cases b <;> rfl
theorem dz0 (k : Nat) : decide (k + 1 = 0) = false := by simp

attribute [local go_sem ↓] Go.wp_at_zero Go.wp_at_succ

set_option maxHeartbeats 4000000 in
theorem needed_any (b : Nat) (s : SiteD) (w : World) (hs : DAt w b s) (hok : DOk s) :
    Calls Tryz.prog 61 #[.pointer (some ⟨b, 0, none⟩)] w fun e w' => e = .returned (.string (bs (neededR s))) ∧ Below w.heap.size w w' := by
  obtain ⟨v1, e1, r1⟩ := hs.needs
  obtain ⟨na, nc, rfl⟩ := RowX.form r1
  have hlt := hs.lt
  have HN := hid' r1
  have hnl := hok.nl
  have HNO := hid' hok.no
  have HR : Hid (neededR s = neededGo true (s.needs.drop 0)) := rfl
  generalize neededR s = res at *
  generalize s.needs = l at *
  clear hs hok r1
  go_enter Tryz.func61, Tryz.ntmps61
  go_wp2
  go_loopw [3, 4] (fun t i wr => ∃ (k : Nat) (acc : Tx), k ≤ l.length ∧ acc.length ≤ 64 * k ∧ t = .string (bs acc) ∧ i = .int .i64 k ∧ Below w.heap.size w wr ∧ Hid (res = acc ++ neededGo (decide (k = 0)) (l.drop k))) (fun _ i _ => l.length - (intOf i).toNat)
  case atStart => exact ⟨0, [], Nat.zero_le _, by simp, rfl, rfl, Below.refl _ _, HR.out⟩
  case round =>
    obtain ⟨k, acc, hk, hacc, rfl, rfl, hbel, hall⟩ := hrel
    have hz := hbel.size
    have eb := (hbel.cell (p := ⟨b, 1, none⟩) hlt).trans e1
    have hbr : b < wr.heap.size := by omega
    by_cases hlt2 : k < l.length
    · have hrn := RowX.below HN.out hbel
      obtain ⟨g, o, cap', hv, hg, hc⟩ := hrn.cells needC_len hlt2
      simp at hv
      obtain ⟨rfl, rfl⟩ := hv
      have c0 : wr.cell? ⟨g, o + k * 2, none⟩ = some (.string (bs l[k].name)) := hc k hlt2 0 (by omega)
      have c1 : wr.cell? ⟨g, o + k * 2 + 1, none⟩ = some (.string (bs l[k].rng)) := hc k hlt2 1 (by omega)
      have hxo := HNO.out l[k] (List.getElem_mem hlt2)
      have k0 : (0 : Int) ≤ (k : Int) := by omega
      have k1 : (k : Int) < (l.length : Int) := by omega
      have ha : (bs acc).size ≤ 64 * k := by rw [bs_size]; exact hacc
      have hq1 : (bs l[k].name).size ≤ 3 := by rw [bs_size]; exact hxo.1
      have hq2 : (bs l[k].rng).size ≤ 60 := by rw [bs_size]; exact hxo.2
      clear hc hrn
      by_cases h0 : k = 0
      · subst h0
        have HF : Hid (res = (acc ++ l[0].name ++ l[0].rng) ++ neededGo false (l.drop (0 + 1))) := by
          unfold Hid; rw [hall.out]; simp only [decide_true]; rw [nd_first l hlt2]; simp
        have HA : Hid (bs acc ++ bs l[0].name ++ bs l[0].rng = bs (acc ++ l[0].name ++ l[0].rng)) := by unfold Hid; rw [← bs_append, ← bs_append]
        have hal : (acc ++ l[0].name ++ l[0].rng).length ≤ 64 * (0 + 1) := by have h1 := hxo.1; have h2 := hxo.2; simp; omega
        simp only [Nat.zero_mul, Nat.add_zero] at c0 c1
        clear hall hxo
        generalize acc ++ l[0].name ++ l[0].rng = nx at *
        generalize bs l[0].name = q1 at *
        generalize bs l[0].rng = q2 at *
        generalize bs acc = qa at *
        go_wp2
        have n1 : ¬ (9223372036854775807 < qa.size + q1.size) := by omega
        have n2 : ¬ (9223372036854775807 < qa.size + q1.size + q2.size) := by omega
        go_region_held3 (fun w' => w'.cell? ⟨b, 1, none⟩ = some (.slice (some ⟨g, o, none⟩) l.length nc) ∧ w'.cell? ⟨g, o, none⟩ = some (.string q1) ∧ w'.cell? ⟨g, o + 1, none⟩ = some (.string q2)) (go_keep) (fail)
        go_wp2
        go_roundw
        case rel => exact ⟨0 + 1, nx, by omega, hal, by rw [HA.out], by go_num, hbel.drew, by rw [dz0]; exact HF⟩
        case measure => simp [intOf] <;> omega
      · have HF : Hid (res = (acc ++ [44] ++ l[k].name ++ l[k].rng) ++ neededGo false (l.drop (k + 1))) := by
          unfold Hid; rw [hall.out]; have e : decide (k = 0) = false := by simp [h0]
          rw [e, nd_next l k hlt2]; simp
        have HA : Hid (bs acc ++ ⟨#[44]⟩ ++ bs l[k].name ++ bs l[k].rng = bs (acc ++ [44] ++ l[k].name ++ l[k].rng)) := by unfold Hid; rw [← bs_append, ← bs_append, ← bs_append]; rfl
        have hal : (acc ++ [44] ++ l[k].name ++ l[k].rng).length ≤ 64 * (k + 1) := by have h1 := hxo.1; have h2 := hxo.2; simp; omega
        clear hall hxo
        generalize acc ++ [44] ++ l[k].name ++ l[k].rng = nx at *
        generalize bs l[k].name = q1 at *
        generalize bs l[k].rng = q2 at *
        generalize bs acc = qa at *
        have hb3 : 0 < k := by omega
        go_wp2
        have h44 : (qa ++ ⟨#[44]⟩ : ByteArray).size ≤ 64 * k + 1 := by rw [ByteArray.size_append]; exact Nat.add_le_add_right ha 1
        generalize (qa ++ ⟨#[44]⟩ : ByteArray) = qb at *
        have n1 : ¬ (9223372036854775807 < qb.size + q1.size) := by omega
        have n2 : ¬ (9223372036854775807 < qb.size + q1.size + q2.size) := by omega
        go_region_held3 (fun w' => w'.cell? ⟨b, 1, none⟩ = some (.slice (some ⟨g, o, none⟩) l.length nc) ∧ w'.cell? ⟨g, o + k * 2, none⟩ = some (.string q1) ∧ w'.cell? ⟨g, o + k * 2 + 1, none⟩ = some (.string q2)) (go_keep) (fail)
        go_wp2
        go_roundw
        case rel => exact ⟨k + 1, nx, by omega, hal, by rw [HA.out], by go_num, hbel.drew, by rw [dz0]; exact HF⟩
        case measure => simp [intOf] <;> omega
    · have HF : Hid (res = acc) := by unfold Hid; rw [hall.out, nd_end l k hlt2]; simp
      go_wp2
      go_ret
      exact ⟨ret_str (by rw [HF.out]), hbel⟩

end Hst
end Go.Proofs.YtpokdndhemlomaaGreatDoor
namespace Go.Proofs.YtpokdndhemlomaaGreatDoor
open Go.RowKit
namespace Hst
set_option maxRecDepth 100000

def vtx (v : V3) : Tx := verT v.a.toNat v.b.toNat v.c.toNat
def textGo (st : List EntryD) : Bool → List PackD → Tx
  | _, [] => []
  | first, p :: r => (if first = true then [] else [59]) ++ p.path ++ [64] ++ vtx (verOf st p.of) ++ textGo st false r
def textR (st : List EntryD) (l : List PackD) : Tx := textGo st true l
theorem txg_next (st : List EntryD) (l : List PackD) (k : Nat) (h : k < l.length) (b : Bool) : textGo st b (l.drop k) = (if b = true then [] else [59]) ++ l[k].path ++ [64] ++ vtx (verOf st l[k].of) ++ textGo st false (l.drop (k + 1)) := by
  rw [List.drop_eq_getElem_cons h]; rfl
theorem txg_end (st : List EntryD) (l : List PackD) (k : Nat) (h : ¬ k < l.length) (b : Bool) : textGo st b (l.drop k) = [] := by
  rw [List.drop_of_length_le (by omega)]; cases b <;> rfl
def V3Ok (v : V3) : Prop := (0 ≤ v.a ∧ v.a ≤ 99) ∧ (0 ≤ v.b ∧ v.b ≤ 99) ∧ (0 ≤ v.c ∧ v.c ≤ 99)

attribute [local go_sem ↓] Go.wp_at_zero Go.wp_at_succ

set_option maxHeartbeats 4000000 in
theorem textD_any (b : Nat) (s : SiteD) (lv : Value) (l : List PackD) (w : World) (hs : DAt w b s) (hl : PacksI w lv l) (hn : l.length ≤ 1000) (hst : s.stock.length ≤ 1000) (hp : ∀ p ∈ l, p.of < s.stock.length ∧ p.path.length ≤ 1000) (hv : ∀ k, k < s.stock.length → V3Ok (verOf s.stock k)) :
    Calls Tryz.prog 92 #[.pointer (some ⟨b, 0, none⟩), lv] w fun e w' => e = .returned (.string (bs (textR s.stock l))) ∧ Below w.heap.size w w' := by
  obtain ⟨la, lc, rfl⟩ := RowX.form hl
  have hlt := hs.lt
  obtain ⟨sv, zs, es, rs, zeq⟩ := hs.stock
  obtain ⟨sa, sc, rfl⟩ := rs.1.form
  have HZ := hid' zeq
  have hzl : zs.length = s.stock.length := by rw [← zeq]; simp
  have HZL := hid' hzl
  have HRS := hid' rs
  have HL := hid' hl
  have HP := hid' hp
  have HV := hid' hv
  have HR : Hid (textR s.stock l = textGo s.stock true (l.drop 0)) := rfl
  have hzm : zs.length ≤ 1000 := by omega
  generalize textR s.stock l = res at *
  generalize s.stock = st at *
  clear hs hl rs zeq hp hv hst hzl
  go_enter Tryz.func92, Tryz.ntmps92
  go_wp2
  go_loopw [5, 6] (fun t i wr => ∃ (k : Nat) (acc : Tx), k ≤ l.length ∧ acc.length ≤ 1010 * k ∧ t = .string (bs acc) ∧ i = .int .i64 k ∧ Below w.heap.size w wr ∧ Hid (res = acc ++ textGo st (decide (k = 0)) (l.drop k))) (fun _ i _ => l.length - (intOf i).toNat)
  case atStart => exact ⟨0, [], Nat.zero_le _, by simp, rfl, rfl, Below.refl _ _, HR.out⟩
  case round =>
    obtain ⟨k, acc, hk, hacc, rfl, rfl, hbel, hall⟩ := hrel
    have hz := hbel.size
    have eb := (hbel.cell (p := ⟨b, 0, none⟩) hlt).trans es
    have hbr : b < wr.heap.size := by omega
    by_cases hlt2 : k < l.length
    · obtain ⟨g, o, cap', hv, hg, hc⟩ := (RowX.below HL.out hbel).cells packC_len hlt2
      simp at hv
      obtain ⟨rfl, rfl⟩ := hv
      have c0 : wr.cell? ⟨g, o + k * 2, none⟩ = some (.string (bs l[k].path)) := hc k hlt2 0 (by omega)
      have c1 : wr.cell? ⟨g, o + k * 2 + 1, none⟩ = some (.int .i64 l[k].of) := hc k hlt2 1 (by omega)
      have hpo := HP.out l[k] (List.getElem_mem hlt2)
      have hms : l[k].of < zs.length := by have := HZL.out; omega
      obtain ⟨g2, o2, cap2, hv2, hg2, hc2⟩ := (HRS.out.below hbel).1.cells entC_len hms
      simp at hv2
      obtain ⟨rfl, rfl⟩ := hv2
      have hze : zs[l[k].of].1 = st[l[k].of]'hpo.1 := by have h := HZ.out; subst h; simp
      have ev : verOf st l[k].of = zs[l[k].of].1.v := by rw [hze]; unfold verOf; rw [List.getD_eq_getElem?_getD, List.getElem?_eq_getElem hpo.1]; rfl
      have d1 : wr.cell? ⟨g2, o2 + l[k].of * 5 + 1, none⟩ = some (.int .i64 (verOf st l[k].of).a) := by rw [ev]; exact hc2 _ hms 1 (by omega)
      have d2 : wr.cell? ⟨g2, o2 + l[k].of * 5 + 2, none⟩ = some (.int .i64 (verOf st l[k].of).b) := by rw [ev]; exact hc2 _ hms 2 (by omega)
      have d3 : wr.cell? ⟨g2, o2 + l[k].of * 5 + 3, none⟩ = some (.int .i64 (verOf st l[k].of).c) := by rw [ev]; exact hc2 _ hms 3 (by omega)
      have hvo := HV.out _ hpo.1
      have HW := hid' (fun w => written_any (verOf st l[k].of).a (verOf st l[k].of).b (verOf st l[k].of).c w hvo.1.1 hvo.1.2 hvo.2.1.1 hvo.2.1.2 hvo.2.2.1 hvo.2.2.2)
      have k0 : (0 : Int) ≤ (k : Int) := by omega
      have k1 : (k : Int) < (l.length : Int) := by omega
      have m0 : (0 : Int) ≤ (l[k].of : Int) := by omega
      have m1 : (l[k].of : Int) < (zs.length : Int) := by omega
      have ha : (bs acc).size ≤ 1010 * k := by rw [bs_size]; exact hacc
      have hq1 : (bs l[k].path).size ≤ 1000 := by rw [bs_size]; exact hpo.2
      have hq2 : (bs (vtx (verOf st l[k].of))).size ≤ 8 := by rw [bs_size]; exact verT_len _ _ _
      have hvl : (vtx (verOf st l[k].of)).length ≤ 8 := verT_len _ _ _
      have HN := hid' (txg_next st l k hlt2)
      have HA0 : Hid (bs acc ++ bs l[k].path ++ ⟨#[64]⟩ ++ bs (vtx (verOf st l[k].of)) = bs (acc ++ l[k].path ++ [64] ++ vtx (verOf st l[k].of))) := by unfold Hid; rw [← bs_append, ← bs_append, ← bs_append]; rfl
      have HA1 : Hid (bs acc ++ ⟨#[59]⟩ ++ bs l[k].path ++ ⟨#[64]⟩ ++ bs (vtx (verOf st l[k].of)) = bs (acc ++ [59] ++ l[k].path ++ [64] ++ vtx (verOf st l[k].of))) := by unfold Hid; rw [← bs_append, ← bs_append, ← bs_append, ← bs_append]; rfl
      have hl0 : (acc ++ l[k].path ++ [64] ++ vtx (verOf st l[k].of)).length ≤ 1010 * (k + 1) := by have h1 := hpo.2; simp; omega
      have hl1 : (acc ++ [59] ++ l[k].path ++ [64] ++ vtx (verOf st l[k].of)).length ≤ 1010 * (k + 1) := by have h1 := hpo.2; simp; omega
      have HF0 : Hid (k = 0 → res = (acc ++ l[k].path ++ [64] ++ vtx (verOf st l[k].of)) ++ textGo st false (l.drop (k + 1))) := by
        intro h0
        have e : decide (k = 0) = true := by simp [h0]
        rw [hall.out, e, HN.out]; simp
      have HF1 : Hid (¬ k = 0 → res = (acc ++ [59] ++ l[k].path ++ [64] ++ vtx (verOf st l[k].of)) ++ textGo st false (l.drop (k + 1))) := by
        intro h0
        have e : decide (k = 0) = false := by simp [h0]
        rw [hall.out, e, HN.out]; simp
      clear hc hc2 hall hpo hvo ev hze HN hvl
      generalize acc ++ l[k].path ++ [64] ++ vtx (verOf st l[k].of) = nx0 at *
      generalize acc ++ [59] ++ l[k].path ++ [64] ++ vtx (verOf st l[k].of) = nx1 at *
      change Hid (∀ w, Calls _ _ _ w fun e w' => e = .returned (.string (bs (vtx (verOf st l[k].of)))) ∧ Below w.heap.size w w') at HW
      generalize bs (vtx (verOf st l[k].of)) = q2 at *
      generalize verOf st l[k].of = v at *
      obtain ⟨va, vb, vc⟩ := v
      simp only at d1 d2 d3 HW
      generalize l[k].of = m at *
      generalize bs l[k].path = q1 at *
      generalize bs acc = qa at *
      go_wp2
      go_region_held3 (fun w' => w'.cell? ⟨b, 0, none⟩ = some (.slice (some ⟨g2, o2, none⟩) zs.length sc) ∧ w'.cell? ⟨g, o + k * 2, none⟩ = some (.string q1) ∧ w'.cell? ⟨g, o + k * 2 + 1, none⟩ = some (.int .i64 m) ∧ w'.cell? ⟨g2, o2 + m * 5 + 1, none⟩ = some (.int .i64 va) ∧ w'.cell? ⟨g2, o2 + m * 5 + 2, none⟩ = some (.int .i64 vb) ∧ w'.cell? ⟨g2, o2 + m * 5 + 3, none⟩ = some (.int .i64 vc)) (go_keep)
        (first | (go_at_call 124; refine (HW.out _).mono ?_; rintro e w1 ⟨rfl, hb1⟩; have hy1 := (bcell hb1).1; simp at hy1))
      have e0 := (hy1 g (o + k * 2) hg).trans c0
      have hb2 := hbel.drew.trans (hb1.mono (by simp; omega))
      clear hb1 hy1 c0 c1 d1 d2 d3 eb
      by_cases h0 : k = 0
      · have HF := hid' (HF0.out h0)
        clear HF0 HF1 HA1 hl1
        subst h0
        simp only [Nat.zero_mul, Nat.add_zero] at e0
        go_wp2
        go_roundw
        case rel => exact ⟨0 + 1, nx0, by omega, hl0, by rw [HA0.out], by go_num, hb2, by rw [dz0]; exact HF.out⟩
        case measure => simp [intOf] <;> omega
      · have HF := hid' (HF1.out h0)
        clear HF0 HF1 HA0 hl0
        have hd : (0 : Int) < (k : Int) := by omega
        go_wp2
        go_roundw
        case rel => exact ⟨k + 1, nx1, by omega, hl1, by rw [HA1.out], by go_num, hb2, by rw [dz0]; exact HF.out⟩
        case measure => simp [intOf] <;> omega
    · have HF : Hid (res = acc) := by unfold Hid; rw [hall.out, txg_end st l k hlt2]; simp
      go_wp2
      go_ret
      exact ⟨ret_str (by rw [HF.out]), hbel⟩

theorem treeD_any (b : Nat) (s : SiteD) (w : World) (hs : DAt w b s) (hn : s.packs.length ≤ 1000) (hst : s.stock.length ≤ 1000) (hp : ∀ p ∈ s.packs, p.of < s.stock.length ∧ p.path.length ≤ 1000) (hv : ∀ k, k < s.stock.length → V3Ok (verOf s.stock k)) :
    Calls Tryz.prog 60 #[.pointer (some ⟨b, 0, none⟩)] w fun e w' => e = .returned (.string (bs (textR s.stock s.packs))) ∧ Below w.heap.size w w' := by
  obtain ⟨v2, e2, r2⟩ := hs.packs
  obtain ⟨pa, pc, rfl⟩ := RowX.form r2
  have hlt := hs.lt
  have HT := hid' (textD_any b s _ s.packs w hs r2 hn hst hp hv)
  clear hs hp hv r2
  generalize textR s.stock s.packs = res at *
  go_enter Tryz.func60, Tryz.ntmps60
  go_wp2_with fail
  refine (HT.out).mono ?_
  rintro e w1 ⟨rfl, hb1⟩
  go_wp2
  go_ret
  exact ⟨rfl, hb1⟩

end Hst
end Go.Proofs.YtpokdndhemlomaaGreatDoor
namespace Go.Proofs.YtpokdndhemlomaaGreatDoor
open Go.RowKit
namespace Hst

theorem ver_same {v : V3} (h : Valid v) : verP (place v) = vtx v := by
  obtain ⟨h1, h2, h3, _⟩ := place_parts h
  unfold verP vtx
  rw [h1, h2, h3]
theorem text_go {stx : List EntX} {st : List EntryD} (hs : StockSame stx st) : ∀ (l : List PackD) (b : Bool), (∀ p ∈ l, p.of < stx.length) → joinGo [59] b ((l.map (toX stx)).map pkT) = textGo st b l
  | [], b, _ => rfl
  | p :: r, b, ho => by
    obtain ⟨h1, h2⟩ := hs.ver (ho p (by simp))
    rw [List.map_cons, List.map_cons, joinGo, textGo, text_go hs r false fun q hq => ho q (List.mem_cons_of_mem _ hq)]
    have e : pkT (toX stx p) = p.path ++ [64] ++ vtx (verOf st p.of) := by
      unfold pkT toX
      simp only
      rw [h1, ver_same h2]
    rw [e]
    rcases b <;> simp
theorem tree_same {sx : SiteX} {sd : SiteD} (h : SiteSame sx sd) : treeT sx.tree = textR sd.stock sd.packs := by
  unfold treeT textR joinT
  rw [h.eq]
  exact text_go h.st _ true h.tr.of
theorem need_ok {n : NeedX} {d : NeedD} (h : NeedSame n d) : NeedOk d := ⟨isName_3 h.isn, rangeP_60 h.rng⟩
theorem SiteSame.sok {sx : SiteX} {sd : SiteD} (h : SiteSame sx sd) : SOk sx := by
  refine ⟨⟨h.s40, fun e he => ?_⟩, by rw [h.nd.len]; exact h.n6, by have := h.tr.len; have := h.l40; omega⟩
  obtain ⟨j, hj, rfl⟩ := List.mem_iff_getElem.1 he
  have hj' : j < sd.stock.length := by rw [← h.st.all.len]; exact hj
  have hs := h.st.all.get j hj hj'
  refine ⟨by rw [hs.name]; exact isName_3 hs.isn, ?_⟩
  rw [hs.nd.len]
  have := h.h6 j hj
  unfold needsOf at this
  rw [List.getD_eq_getElem?_getD, List.getElem?_eq_getElem hj'] at this
  exact this
theorem SiteSame.dok {sx : SiteX} {sd : SiteD} (h : SiteSame sx sd) : DOk sd := by
  refine ⟨⟨by rw [← h.st.all.len]; exact h.s40, fun e he => ?_⟩, h.n6, fun n hn => ?_, by have := h.l40; omega⟩
  · obtain ⟨j, hj, rfl⟩ := List.mem_iff_getElem.1 he
    have hj' : j < sx.stock.length := by rw [h.st.all.len]; exact hj
    have hs := h.st.all.get j hj' hj
    refine ⟨?_, fun n hn => ?_⟩
    · have := h.h6 j hj'
      unfold needsOf at this
      rw [List.getD_eq_getElem?_getD, List.getElem?_eq_getElem hj] at this
      exact this
    · obtain ⟨_, _, hr⟩ := hs.nd.mem n hn
      exact need_ok hr
  · obtain ⟨_, _, hr⟩ := h.nd.mem n hn
    exact need_ok hr
theorem SiteSame.path {sx : SiteX} {sd : SiteD} (h : SiteSame sx sd) : ∀ p ∈ sd.packs, p.of < sd.stock.length ∧ p.path.length ≤ 160 := fun p hp => by
  have h1 := path_short h.tr h.fold p hp
  have h2 := h.l40
  have h3 := h.tr.of p hp
  rw [h.st.all.len] at h3
  exact ⟨h3, by omega⟩
theorem SiteSame.pathx {sx : SiteX} {sd : SiteD} (h : SiteSame sx sd) : ∀ p ∈ sx.tree, p.path.length ≤ 900 := fun q hq => by
  obtain ⟨p, hp, rfl⟩ := (h.tr.mem q).1 hq
  have h1 := (h.path p hp).2
  have e : (toX sx.stock p).path = p.path := rfl
  rw [e]; omega
theorem SiteSame.v3 {sx : SiteX} {sd : SiteD} (h : SiteSame sx sd) : ∀ k, k < sd.stock.length → V3Ok (verOf sd.stock k) := fun k hk => by
  have hv := h.st.val k hk
  exact ⟨⟨hv.a0, hv.a1⟩, ⟨hv.b0, hv.b1⟩, ⟨hv.c0, hv.c1⟩⟩
theorem SiteSame.lw_update {sx : SiteX} {sd : SiteD} (h : SiteSame sx sd) : LaysWell sd.stock [] sd.needs := lays_well h.st (siteNeeds_of h.nd h.rs) (TreeSame.nil _)
theorem SiteSame.lw_drop {sx : SiteX} {sd : SiteD} (h : SiteSame sx sd) (name : Tx) : LaysWell sd.stock sd.packs (restR sd.needs name) := lays_well h.st (siteNeeds_of (rest_same h.nd name) (rest_rises h.rs name)) h.tr
theorem needR_same {l : Tx} (h : (needR l).2 = true) : ∃ x, NeedOf l x := by
  rw [← needOk_same] at h
  have h' := h
  unfold needOkP at h'
  rw [Bool.and_eq_true] at h'
  unfold rok at h'
  obtain ⟨sp, hsp⟩ := Option.isSome_iff_exists.1 h'.2
  exact ⟨⟨l.take (lowLen l), .slice none 0 0, sp, l⟩, h, rfl, hsp, rfl⟩
theorem SiteSame.lw_add {sx : SiteX} {sd : SiteD} (h : SiteSame sx sd) {l : Tx} (hl : (needR l).2 = true) : LaysWell sd.stock sd.packs (addN sd l) := by
  obtain ⟨x, hx⟩ := needR_same hl
  have hs := needOf_same hx
  have hne : ∀ y ∈ restR sd.needs (needR l).1.name, y.name ≠ (needR l).1.name := fun y hy => by
    have := (List.mem_filter.1 hy).2
    simpa using this
  obtain ⟨w1, w2⟩ := with_same (rest_same h.nd (needR l).1.name) (rest_rises h.rs _) hs hne
  exact lays_well h.st (siteNeeds_of w1 w2) h.tr

end Hst
end Go.Proofs.YtpokdndhemlomaaGreatDoor
namespace Go.Proofs.YtpokdndhemlomaaGreatDoor
open Go.RowKit
namespace Hst
set_option maxRecDepth 100000

abbrev ptV (b : Nat) : Value := .pointer (some ⟨b, 0, none⟩)
abbrev twV (x d : Nat) : Value := .agg #[.pointer (some ⟨x, 0, none⟩), .pointer (some ⟨d, 0, none⟩)]
/-- The two sites show the same. -/
def TwinAt (w : World) (x d : Nat) : Prop := ∃ sx sd, SAt w x sx ∧ DAt w d sd ∧ SiteSame sx sd
theorem TwinAt.below {w w' : World} {x d : Nat} (h : TwinAt w x d) (hb : Below w.heap.size w w') : TwinAt w' x d := by
  obtain ⟨sx, sd, h1, h2, h3⟩ := h
  exact ⟨sx, sd, h1.below hb, h2.below hb, h3⟩
theorem TwinAt.lt {w : World} {x d : Nat} (h : TwinAt w x d) : x < w.heap.size ∧ d < w.heap.size ∧ x ≠ d := by
  obtain ⟨sx, sd, h1, h2, h3⟩ := h
  refine ⟨h1.lt, h2.lt, fun e => ?_⟩
  subst e
  have := h1.tag
  rw [h2.tag] at this
  exact absurd this (by decide)
theorem TwinAt.ms {w w' : World} {x d c : Nat} (h : TwinAt w x d) (hm : But c w w') (hx : x ≠ c) (hd : d ≠ c) (ht : tagOf w c = some 75 ∨ tagOf w c = some 128) : TwinAt w' x d := by
  obtain ⟨sx, sd, h1, h2, h3⟩ := h
  refine ⟨sx, sd, h1.other hm hx ht, ?_, h3⟩
  rcases ht with ht | ht
  · exact h2.keep hm hd ht (by decide) (by decide) (by decide)
  · exact h2.keep hm hd ht (by decide) (by decide) (by decide)
theorem TwinAt.mt {w w' : World} {x d c : Nat} (h : TwinAt w x d) (hm : But c w w') (hx : x ≠ c) (hd : d ≠ c) (ht : tagOf w c = some 54) : TwinAt w' x d := by
  obtain ⟨sx, sd, h1, h2, h3⟩ := h
  exact ⟨sx, sd, h1.keep hm hx ht (by decide) (by decide) (by decide) (by decide), h2.keep hm hd ht (by decide) (by decide) (by decide), h3⟩

set_option maxHeartbeats 1000000 in
theorem tneeds_any (x d : Nat) (w : World) (h : TwinAt w x d) :
    Calls Tryz.prog 29 #[twV x d] w fun e w' => e = .returned (.bool true) ∧ Below w.heap.size w w' := by
  obtain ⟨sx, sd, h1, h2, h3⟩ := h
  have hba := (Below.refl w.heap.size w).alloc (Nat.le_refl _) (.cells #[ptV x, ptV d] 54)
  have HX := hid' (needs_any' x sx _ (h1.below hba) h3.sok)
  have HD := hid' (fun w h => needed_any d sd w h h3.dok)
  have H2 := hid' (h2.below hba)
  have HE := hid' (needed_same h3)
  have HBA := hid' hba
  clear h1 h2 h3 hba
  go_enter Tryz.func29, Tryz.ntmps29
  go_wp2_with fail
  refine HX.out.mono ?_
  rintro e w1 ⟨rfl, hb1⟩
  have c1 := (bcell hb1).1 w.heap.size 1 (by simp)
  have hs1 : w.heap.size < w1.heap.size := by have := hb1.size; simp at this; omega
  simp at c1
  have HB1 := hid' (HBA.out.trans (hb1.mono (by simp)))
  have H3 := hid' (H2.out.below hb1)
  clear hb1
  rw [HE.out]
  go_wp2_with fail
  refine (HD.out _ H3.out).mono ?_
  rintro e w2 ⟨rfl, hb2⟩
  have HB2 := hid' (HB1.out.trans (hb2.mono (by omega)))
  clear hb2
  go_wp2
  go_ret
  exact ⟨by simp, HB2.out⟩

set_option maxHeartbeats 1000000 in
theorem ttree_any (x d : Nat) (w : World) (h : TwinAt w x d) :
    Calls Tryz.prog 28 #[twV x d] w fun e w' => e = .returned (.bool true) ∧ Below w.heap.size w w' := by
  obtain ⟨sx, sd, h1, h2, h3⟩ := h
  have hba := (Below.refl w.heap.size w).alloc (Nat.le_refl _) (.cells #[ptV x, ptV d] 54)
  have HX := hid' (tree_any' x sx _ (h1.below hba) h3.sok h3.pathx)
  have HD := hid' (fun w h => treeD_any d sd w h (by have := h3.l40; omega) (by have := h3.s40; rw [h3.st.all.len] at this; omega) (fun p hp => ⟨(h3.path p hp).1, by have := (h3.path p hp).2; omega⟩) h3.v3)
  have H2 := hid' (h2.below hba)
  have HE := hid' (tree_same h3)
  have HBA := hid' hba
  clear h1 h2 h3 hba
  go_enter Tryz.func28, Tryz.ntmps28
  go_wp2_with fail
  refine HX.out.mono ?_
  rintro e w1 ⟨rfl, hb1⟩
  have c1 := (bcell hb1).1 w.heap.size 1 (by simp)
  have hs1 : w.heap.size < w1.heap.size := by have := hb1.size; simp at this; omega
  simp at c1
  have HB1 := hid' (HBA.out.trans (hb1.mono (by simp)))
  have H3 := hid' (H2.out.below hb1)
  clear hb1
  rw [HE.out]
  go_wp2_with fail
  refine (HD.out _ H3.out).mono ?_
  rintro e w2 ⟨rfl, hb2⟩
  have HB2 := hid' (HB1.out.trans (hb2.mono (by omega)))
  clear hb2
  go_wp2
  go_ret
  exact ⟨by simp, HB2.out⟩

end Hst
end Go.Proofs.YtpokdndhemlomaaGreatDoor
