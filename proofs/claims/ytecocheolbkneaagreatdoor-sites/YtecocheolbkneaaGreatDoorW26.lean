/- Written, Dtext, Dtextb, Mtext, Twin, Plook, Mlook, Agree, Twinb -/
import Derived.Test.YtecocheolbkneaaGreatDoorW01
import Derived.Laws.IdiomStrings
import Derived.Test.YtecocheolbkneaaGreatDoorW24
import Derived.Test.YtecocheolbkneaaGreatDoorW19
import Derived.Test.YtecocheolbkneaaGreatDoorW25
import Derived.Test.YtecocheolbkneaaGreatDoorW18
namespace Go.Proofs.YtecocheolbkneaaGreatDoor
open Go.RowKit
namespace Hst
set_option maxRecDepth 100000

theorem byte_of (n : Nat) (h : n < 256) : ((n.toUInt8.toNat : Nat) : Int) = n := by simp; omega

set_option maxHeartbeats 1000000 in
theorem digits_nat (n : Nat) (w : World) (h : n < 100) :
    Calls Tryz.prog 160 #[.int .i64 n] w fun e w' => e = .returned (.string (bs (numT n))) ∧ Below w.heap.size w w' := by
  by_cases h10 : n < 10
  · have e : numT n = [(48 + n).toUInt8] := by simp [numT, h10]
    have hcv : (convert 228 9 (.slice (some ⟨w.heap.size, 0, none⟩) 1 1)).run Tryz.prog (w.alloc (.cells #[.int .u8 (48 + (n : Int))] 5)) = .ok (.string (bs [(48 + n).toUInt8])) (w.alloc (.cells #[.int .u8 (48 + (n : Int))] 5)) := run_convert_bytes_back (P := Tryz.prog) (w.alloc (.cells #[.int .u8 (48 + (n : Int))] 5)) 228 9 5 ⟨w.heap.size, 0, none⟩ 1 [(48 + n).toUInt8] Tryz.underlying228 Tryz.underlying5 Tryz.underlying9 (fun j hj => by
      match j, hj with
      | 0, _ => simp only [List.getElem_cons_zero, byte_of (48 + n) (by omega)]; simp [Addr.add])
    rw [e]
    clear e
    generalize bs [(48 + n).toUInt8] = q at *
    go_enter Tryz.func160, Tryz.ntmps160
    go_wp2
    go_ret
    exact ⟨rfl, (Below.refl _ _).alloc (Nat.le_refl _) _⟩
  · have e : numT n = [(48 + n / 10).toUInt8, (48 + n % 10).toUInt8] := by simp [numT, h10]
    have hcv : (convert 228 9 (.slice (some ⟨w.heap.size, 0, none⟩) 2 2)).run Tryz.prog (w.alloc (.cells #[.int .u8 (48 + (n : Int) / 10), .int .u8 (48 + (n : Int) % 10)] 5)) = .ok (.string (bs [(48 + n / 10).toUInt8, (48 + n % 10).toUInt8])) (w.alloc (.cells #[.int .u8 (48 + (n : Int) / 10), .int .u8 (48 + (n : Int) % 10)] 5)) := run_convert_bytes_back (P := Tryz.prog) (w.alloc (.cells #[.int .u8 (48 + (n : Int) / 10), .int .u8 (48 + (n : Int) % 10)] 5)) 228 9 5 ⟨w.heap.size, 0, none⟩ 2 [(48 + n / 10).toUInt8, (48 + n % 10).toUInt8] Tryz.underlying228 Tryz.underlying5 Tryz.underlying9 (fun j hj => by
      match j, hj with
      | 0, _ => simp only [List.getElem_cons_zero, byte_of (48 + n / 10) (by omega)]; simp [Addr.add]
      | 1, _ => simp only [List.getElem_cons_zero, List.getElem_cons_succ, byte_of (48 + n % 10) (by omega)]; simp [Addr.add])
    rw [e]
    clear e
    generalize bs [(48 + n / 10).toUInt8, (48 + n % 10).toUInt8] = q at *
    go_enter Tryz.func160, Tryz.ntmps160
    go_wp2
    go_ret
    exact ⟨rfl, (Below.refl _ _).alloc (Nat.le_refl _) _⟩
theorem digits_any (n : Int) (w : World) (h0 : 0 ≤ n) (h : n ≤ 99) :
    Calls Tryz.prog 160 #[.int .i64 n] w fun e w' => e = .returned (.string (bs (numT n.toNat))) ∧ Below w.heap.size w w' := by
  obtain ⟨m, rfl⟩ := Int.eq_ofNat_of_zero_le h0
  exact digits_nat m w (by omega)

set_option maxHeartbeats 1000000 in
theorem written_any (a b c : Int) (w : World) (ha0 : 0 ≤ a) (ha1 : a ≤ 99) (hb0 : 0 ≤ b) (hb1 : b ≤ 99) (hc0 : 0 ≤ c) (hc1 : c ≤ 99) :
    Calls Tryz.prog 128 #[verV a b c] w fun e w' => e = .returned (.string (bs (verT a.toNat b.toNat c.toNat))) ∧ Below w.heap.size w w' := by
  have HI1 := hid' (fun w => digits_any a w ha0 ha1)
  have HI2 := hid' (fun w => digits_any b w hb0 hb1)
  have HI3 := hid' (fun w => digits_any c w hc0 hc1)
  have HE : Hid (bs (numT a.toNat) ++ bs [46] ++ bs (numT b.toNat) ++ bs [46] ++ bs (numT c.toNat) = bs (verT a.toNat b.toNat c.toNat)) := by
    unfold Hid; rw [bs_append, bs_append, bs_append, bs_append]; rfl
  have l1 : (bs (numT a.toNat)).size ≤ 2 := by rw [bs_size]; exact numT_len _
  have l2 : (bs (numT b.toNat)).size ≤ 2 := by rw [bs_size]; exact numT_len _
  have l3 : (bs (numT c.toNat)).size ≤ 2 := by rw [bs_size]; exact numT_len _
  generalize bs (verT a.toNat b.toNat c.toNat) = q at *
  generalize bs (numT a.toNat) = q1 at *
  generalize bs (numT b.toNat) = q2 at *
  generalize bs (numT c.toNat) = q3 at *
  go_enter Tryz.func128, Tryz.ntmps128
  go_wp2_with fail
  refine (HI1.out _).mono ?_
  rintro e w1 ⟨rfl, hw1⟩
  have hz1 := hw1.size
  simp at hz1
  have d1 := (bcell hw1).1 w.heap.size 1 (by simp)
  have d2 := (bcell hw1).1 w.heap.size 2 (by simp)
  simp at d1 d2
  have HB1 := hid' (((Below.refl _ _).alloc (Nat.le_refl _) _).trans (hw1.mono (by simp)) : Below w.heap.size w w1)
  clear hw1
  go_wp2_with fail
  refine (HI2.out _).mono ?_
  rintro e w2 ⟨rfl, hw2⟩
  have hz2 := hw2.size
  have e2 := ((bcell hw2).1 w.heap.size 2 (by omega)).trans d2
  have HB2 := hid' (HB1.out.trans (hw2.mono (by omega)))
  clear hw2 d1 d2
  go_wp2_with fail
  refine (HI3.out _).mono ?_
  rintro e w3 ⟨rfl, hw3⟩
  have HB3 := hid' (HB2.out.trans (hw3.mono (by omega)))
  clear hw3 e2
  go_wp2
  go_ret
  exact ⟨ret_str HE.out, HB3.out⟩

end Hst
end Go.Proofs.YtecocheolbkneaaGreatDoor
namespace Go.Proofs.YtecocheolbkneaaGreatDoor
open Go.RowKit
namespace Hst
set_option maxRecDepth 100000

theorem nd_first (l : List NeedD) (h : 0 < l.length) : neededGo true (l.drop 0) = l[0].name ++ l[0].rng ++ neededGo false (l.drop 1) := by
  rw [List.drop_eq_getElem_cons h]; simp [neededGo]
theorem nd_next (l : List NeedD) (k : Nat) (h : k < l.length) : neededGo false (l.drop k) = [44] ++ l[k].name ++ l[k].rng ++ neededGo false (l.drop (k + 1)) := by
  rw [List.drop_eq_getElem_cons h]; simp [neededGo]
theorem nd_end (l : List NeedD) (k : Nat) (h : ¬ k < l.length) (b : Bool) : neededGo b (l.drop k) = [] := by
  rw [List.drop_of_length_le (by omega)]; cases b <;> rfl
theorem dz0 (k : Nat) : decide (k + 1 = 0) = false := by simp

attribute [local go_sem ↓] Go.wp_at_zero Go.wp_at_succ

set_option maxHeartbeats 4000000 in
theorem needed_any (b : Nat) (s : SiteD) (w : World) (hs : DAt w b s) (hok : DOk s) :
    Calls Tryz.prog 63 #[.pointer (some ⟨b, 0, none⟩)] w fun e w' => e = .returned (.string (bs (neededR s))) ∧ Below w.heap.size w w' := by
  obtain ⟨v1, e1, r1⟩ := hs.needs
  obtain ⟨na, nc, rfl⟩ := RowX.form r1
  have hlt := hs.lt
  have HN := hid' r1
  have hnl := hok.nl
  have HNO := hid' hok.no
  have HR : Hid (neededR s = neededGo true (s.needs.drop 0)) := rfl
  generalize neededR s = res at *
  generalize s.needs = l at *
  clear hs hok r1
  go_enter Tryz.func63, Tryz.ntmps63
  go_wp2
  go_loopw [3, 4] (fun t i wr => ∃ (k : Nat) (acc : Tx), k ≤ l.length ∧ acc.length ≤ 64 * k ∧ t = .string (bs acc) ∧ i = .int .i64 k ∧ Below w.heap.size w wr ∧ Hid (res = acc ++ neededGo (decide (k = 0)) (l.drop k))) (fun _ i _ => l.length - (intOf i).toNat)
  case atStart => exact ⟨0, [], Nat.zero_le _, by simp, rfl, rfl, Below.refl _ _, HR.out⟩
  case round =>
    obtain ⟨k, acc, hk, hacc, rfl, rfl, hbel, hall⟩ := hrel
    have hz := hbel.size
    have eb := (hbel.cell (p := ⟨b, 1, none⟩) hlt).trans e1
    have hbr : b < wr.heap.size := by omega
    by_cases hlt2 : k < l.length
    · have hrn := RowX.below HN.out hbel
      obtain ⟨g, o, cap', hv, hg, hc⟩ := hrn.cells needC_len hlt2
      simp at hv
      obtain ⟨rfl, rfl⟩ := hv
      have c0 : wr.cell? ⟨g, o + k * 2, none⟩ = some (.string (bs l[k].name)) := hc k hlt2 0 (by omega)
      have c1 : wr.cell? ⟨g, o + k * 2 + 1, none⟩ = some (.string (bs l[k].rng)) := hc k hlt2 1 (by omega)
      have hxo := HNO.out l[k] (List.getElem_mem hlt2)
      have k0 : (0 : Int) ≤ (k : Int) := by omega
      have k1 : (k : Int) < (l.length : Int) := by omega
      have ha : (bs acc).size ≤ 64 * k := by rw [bs_size]; exact hacc
      have hq1 : (bs l[k].name).size ≤ 3 := by rw [bs_size]; exact hxo.1
      have hq2 : (bs l[k].rng).size ≤ 60 := by rw [bs_size]; exact hxo.2
      clear hc hrn
      by_cases h0 : k = 0
      · subst h0
        have HF : Hid (res = (acc ++ l[0].name ++ l[0].rng) ++ neededGo false (l.drop (0 + 1))) := by
          unfold Hid; rw [hall.out]; simp only [decide_true]; rw [nd_first l hlt2]; simp
        have HA : Hid (bs acc ++ bs l[0].name ++ bs l[0].rng = bs (acc ++ l[0].name ++ l[0].rng)) := by unfold Hid; rw [← bs_append, ← bs_append]
        have hal : (acc ++ l[0].name ++ l[0].rng).length ≤ 64 * (0 + 1) := by have h1 := hxo.1; have h2 := hxo.2; simp; omega
        simp only [Nat.zero_mul, Nat.add_zero] at c0 c1
        clear hall hxo
        generalize acc ++ l[0].name ++ l[0].rng = nx at *
        generalize bs l[0].name = q1 at *
        generalize bs l[0].rng = q2 at *
        generalize bs acc = qa at *
        go_wp2
        have n1 : ¬ (9223372036854775807 < qa.size + q1.size) := by omega
        have n2 : ¬ (9223372036854775807 < qa.size + q1.size + q2.size) := by omega
        go_region_held3 (fun w' => w'.cell? ⟨b, 1, none⟩ = some (.slice (some ⟨g, o, none⟩) l.length nc) ∧ w'.cell? ⟨g, o, none⟩ = some (.string q1) ∧ w'.cell? ⟨g, o + 1, none⟩ = some (.string q2)) (go_keep) (fail)
        go_wp2
        go_roundw
        case rel => exact ⟨0 + 1, nx, by omega, hal, by rw [HA.out], by go_num, hbel.drew, by rw [dz0]; exact HF⟩
        case measure => simp [intOf] <;> omega
      · have HF : Hid (res = (acc ++ [44] ++ l[k].name ++ l[k].rng) ++ neededGo false (l.drop (k + 1))) := by
          unfold Hid; rw [hall.out]; have e : decide (k = 0) = false := by simp [h0]
          rw [e, nd_next l k hlt2]; simp
        have HA : Hid (bs acc ++ ⟨#[44]⟩ ++ bs l[k].name ++ bs l[k].rng = bs (acc ++ [44] ++ l[k].name ++ l[k].rng)) := by unfold Hid; rw [← bs_append, ← bs_append, ← bs_append]; rfl
        have hal : (acc ++ [44] ++ l[k].name ++ l[k].rng).length ≤ 64 * (k + 1) := by have h1 := hxo.1; have h2 := hxo.2; simp; omega
        clear hall hxo
        generalize acc ++ [44] ++ l[k].name ++ l[k].rng = nx at *
        generalize bs l[k].name = q1 at *
        generalize bs l[k].rng = q2 at *
        generalize bs acc = qa at *
        have hb3 : 0 < k := by omega
        go_wp2
        have h44 : (qa ++ ⟨#[44]⟩ : ByteArray).size ≤ 64 * k + 1 := by rw [ByteArray.size_append]; exact Nat.add_le_add_right ha 1
        generalize (qa ++ ⟨#[44]⟩ : ByteArray) = qb at *
        have n1 : ¬ (9223372036854775807 < qb.size + q1.size) := by omega
        have n2 : ¬ (9223372036854775807 < qb.size + q1.size + q2.size) := by omega
        go_region_held3 (fun w' => w'.cell? ⟨b, 1, none⟩ = some (.slice (some ⟨g, o, none⟩) l.length nc) ∧ w'.cell? ⟨g, o + k * 2, none⟩ = some (.string q1) ∧ w'.cell? ⟨g, o + k * 2 + 1, none⟩ = some (.string q2)) (go_keep) (fail)
        go_wp2
        go_roundw
        case rel => exact ⟨k + 1, nx, by omega, hal, by rw [HA.out], by go_num, hbel.drew, by rw [dz0]; exact HF⟩
        case measure => simp [intOf] <;> omega
    · have HF : Hid (res = acc) := by unfold Hid; rw [hall.out, nd_end l k hlt2]; simp
      go_wp2
      go_ret
      exact ⟨ret_str (by rw [HF.out]), hbel⟩

end Hst
end Go.Proofs.YtecocheolbkneaaGreatDoor
namespace Go.Proofs.YtecocheolbkneaaGreatDoor
open Go.RowKit
namespace Hst
set_option maxRecDepth 100000

attribute [local go_sem ↓] Go.wp_at_zero Go.wp_at_succ

set_option maxHeartbeats 4000000 in
theorem textD_any (b : Nat) (s : SiteD) (lv : Value) (l : List PackD) (w : World) (hs : DAt w b s) (hl : PacksI w lv l) (hn : l.length ≤ 5001) (hst : s.stock.length ≤ 1000) (hp : ∀ p ∈ l, p.of < s.stock.length ∧ p.path.length ≤ 5000) (hv : ∀ k, k < s.stock.length → V3Ok (verOf s.stock k)) :
    Calls Tryz.prog 95 #[.pointer (some ⟨b, 0, none⟩), lv] w fun e w' => e = .returned (.string (bs (textR s.stock l))) ∧ Below w.heap.size w w' := by
  obtain ⟨la, lc, rfl⟩ := RowX.form hl
  have hlt := hs.lt
  obtain ⟨sv, zs, es, rs, zeq⟩ := hs.stock
  obtain ⟨sa, sc, rfl⟩ := rs.1.form
  have HZ := hid' zeq
  have hzl : zs.length = s.stock.length := by rw [← zeq]; simp
  have HZL := hid' hzl
  have HRS := hid' rs
  have HL := hid' hl
  have HP := hid' hp
  have HV := hid' hv
  have HR : Hid (textR s.stock l = textGo s.stock true (l.drop 0)) := rfl
  have hzm : zs.length ≤ 1000 := by omega
  generalize textR s.stock l = res at *
  generalize s.stock = st at *
  clear hs hl rs zeq hp hv hst hzl
  go_enter Tryz.func95, Tryz.ntmps95
  go_wp2
  go_loopw [5, 6] (fun t i wr => ∃ (k : Nat) (acc : Tx), k ≤ l.length ∧ acc.length ≤ 5010 * k ∧ t = .string (bs acc) ∧ i = .int .i64 k ∧ Below w.heap.size w wr ∧ Hid (res = acc ++ textGo st (decide (k = 0)) (l.drop k))) (fun _ i _ => l.length - (intOf i).toNat)
  case atStart => exact ⟨0, [], Nat.zero_le _, by simp, rfl, rfl, Below.refl _ _, HR.out⟩
  case round =>
    obtain ⟨k, acc, hk, hacc, rfl, rfl, hbel, hall⟩ := hrel
    have hz := hbel.size
    have eb := (hbel.cell (p := ⟨b, 0, none⟩) hlt).trans es
    have hbr : b < wr.heap.size := by omega
    by_cases hlt2 : k < l.length
    · obtain ⟨g, o, cap', hv, hg, hc⟩ := (RowX.below HL.out hbel).cells packC_len hlt2
      simp at hv
      obtain ⟨rfl, rfl⟩ := hv
      have c0 : wr.cell? ⟨g, o + k * 2, none⟩ = some (.string (bs l[k].path)) := hc k hlt2 0 (by omega)
      have c1 : wr.cell? ⟨g, o + k * 2 + 1, none⟩ = some (.int .i64 l[k].of) := hc k hlt2 1 (by omega)
      have hpo := HP.out l[k] (List.getElem_mem hlt2)
      have hms : l[k].of < zs.length := by have := HZL.out; omega
      obtain ⟨g2, o2, cap2, hv2, hg2, hc2⟩ := (HRS.out.below hbel).1.cells entC_len hms
      simp at hv2
      obtain ⟨rfl, rfl⟩ := hv2
      have hze : zs[l[k].of].1 = st[l[k].of]'hpo.1 := by have h := HZ.out; subst h; simp
      have ev : verOf st l[k].of = zs[l[k].of].1.v := by rw [hze]; unfold verOf; rw [List.getD_eq_getElem?_getD, List.getElem?_eq_getElem hpo.1]; rfl
      have d1 : wr.cell? ⟨g2, o2 + l[k].of * 5 + 1, none⟩ = some (.int .i64 (verOf st l[k].of).a) := by rw [ev]; exact hc2 _ hms 1 (by omega)
      have d2 : wr.cell? ⟨g2, o2 + l[k].of * 5 + 2, none⟩ = some (.int .i64 (verOf st l[k].of).b) := by rw [ev]; exact hc2 _ hms 2 (by omega)
      have d3 : wr.cell? ⟨g2, o2 + l[k].of * 5 + 3, none⟩ = some (.int .i64 (verOf st l[k].of).c) := by rw [ev]; exact hc2 _ hms 3 (by omega)
      have hvo := HV.out _ hpo.1
      have HW := hid' (fun w => written_any (verOf st l[k].of).a (verOf st l[k].of).b (verOf st l[k].of).c w hvo.1.1 hvo.1.2 hvo.2.1.1 hvo.2.1.2 hvo.2.2.1 hvo.2.2.2)
      have k0 : (0 : Int) ≤ (k : Int) := by omega
      have k1 : (k : Int) < (l.length : Int) := by omega
      have m0 : (0 : Int) ≤ (l[k].of : Int) := by omega
      have m1 : (l[k].of : Int) < (zs.length : Int) := by omega
      have ha : (bs acc).size ≤ 5010 * k := by rw [bs_size]; exact hacc
      have hq1 : (bs l[k].path).size ≤ 5000 := by rw [bs_size]; exact hpo.2
      have hq2 : (bs (vtx (verOf st l[k].of))).size ≤ 8 := by rw [bs_size]; exact verT_len _ _ _
      have hvl : (vtx (verOf st l[k].of)).length ≤ 8 := verT_len _ _ _
      have HN := hid' (txg_next st l k hlt2)
      have HA0 : Hid (bs acc ++ bs l[k].path ++ ⟨#[64]⟩ ++ bs (vtx (verOf st l[k].of)) = bs (acc ++ l[k].path ++ [64] ++ vtx (verOf st l[k].of))) := by unfold Hid; rw [← bs_append, ← bs_append, ← bs_append]; rfl
      have HA1 : Hid (bs acc ++ ⟨#[59]⟩ ++ bs l[k].path ++ ⟨#[64]⟩ ++ bs (vtx (verOf st l[k].of)) = bs (acc ++ [59] ++ l[k].path ++ [64] ++ vtx (verOf st l[k].of))) := by unfold Hid; rw [← bs_append, ← bs_append, ← bs_append, ← bs_append]; rfl
      have hl0 : (acc ++ l[k].path ++ [64] ++ vtx (verOf st l[k].of)).length ≤ 5010 * (k + 1) := by have h1 := hpo.2; simp; omega
      have hl1 : (acc ++ [59] ++ l[k].path ++ [64] ++ vtx (verOf st l[k].of)).length ≤ 5010 * (k + 1) := by have h1 := hpo.2; simp; omega
      have HF0 : Hid (k = 0 → res = (acc ++ l[k].path ++ [64] ++ vtx (verOf st l[k].of)) ++ textGo st false (l.drop (k + 1))) := by
        intro h0
        have e : decide (k = 0) = true := by simp [h0]
        rw [hall.out, e, HN.out]; simp
      have HF1 : Hid (¬ k = 0 → res = (acc ++ [59] ++ l[k].path ++ [64] ++ vtx (verOf st l[k].of)) ++ textGo st false (l.drop (k + 1))) := by
        intro h0
        have e : decide (k = 0) = false := by simp [h0]
        rw [hall.out, e, HN.out]; simp
      clear hc hc2 hall hpo hvo ev hze HN hvl
      generalize acc ++ l[k].path ++ [64] ++ vtx (verOf st l[k].of) = nx0 at *
      generalize acc ++ [59] ++ l[k].path ++ [64] ++ vtx (verOf st l[k].of) = nx1 at *
      change Hid (∀ w, Calls _ _ _ w fun e w' => e = .returned (.string (bs (vtx (verOf st l[k].of)))) ∧ Below w.heap.size w w') at HW
      generalize bs (vtx (verOf st l[k].of)) = q2 at *
      generalize verOf st l[k].of = v at *
      obtain ⟨va, vb, vc⟩ := v
      simp only at d1 d2 d3 HW
      generalize l[k].of = m at *
      generalize bs l[k].path = q1 at *
      generalize bs acc = qa at *
      go_wp2
      go_region_held3 (fun w' => w'.cell? ⟨b, 0, none⟩ = some (.slice (some ⟨g2, o2, none⟩) zs.length sc) ∧ w'.cell? ⟨g, o + k * 2, none⟩ = some (.string q1) ∧ w'.cell? ⟨g, o + k * 2 + 1, none⟩ = some (.int .i64 m) ∧ w'.cell? ⟨g2, o2 + m * 5 + 1, none⟩ = some (.int .i64 va) ∧ w'.cell? ⟨g2, o2 + m * 5 + 2, none⟩ = some (.int .i64 vb) ∧ w'.cell? ⟨g2, o2 + m * 5 + 3, none⟩ = some (.int .i64 vc)) (go_keep)
        (first | (go_at_call 128; refine (HW.out _).mono ?_; rintro e w1 ⟨rfl, hb1⟩; have hy1 := (bcell hb1).1; simp at hy1))
      have e0 := (hy1 g (o + k * 2) hg).trans c0
      have hb2 := hbel.drew.trans (hb1.mono (by simp; omega))
      clear hb1 hy1 c0 c1 d1 d2 d3 eb
      by_cases h0 : k = 0
      · have HF := hid' (HF0.out h0)
        clear HF0 HF1 HA1 hl1
        subst h0
        simp only [Nat.zero_mul, Nat.add_zero] at e0
        go_wp2
        go_roundw
        case rel => exact ⟨0 + 1, nx0, by omega, hl0, by rw [HA0.out], by go_num, hb2, by rw [dz0]; exact HF.out⟩
        case measure => simp [intOf] <;> omega
      · have HF := hid' (HF1.out h0)
        clear HF0 HF1 HA0 hl0
        have hd : (0 : Int) < (k : Int) := by omega
        go_wp2
        go_roundw
        case rel => exact ⟨k + 1, nx1, by omega, hl1, by rw [HA1.out], by go_num, hb2, by rw [dz0]; exact HF.out⟩
        case measure => simp [intOf] <;> omega
    · have HF : Hid (res = acc) := by unfold Hid; rw [hall.out, txg_end st l k hlt2]; simp
      go_wp2
      go_ret
      exact ⟨ret_str (by rw [HF.out]), hbel⟩

theorem treeD_any (b : Nat) (s : SiteD) (w : World) (hs : DAt w b s) (hn : s.packs.length ≤ 1000) (hst : s.stock.length ≤ 1000) (hp : ∀ p ∈ s.packs, p.of < s.stock.length ∧ p.path.length ≤ 1000) (hv : ∀ k, k < s.stock.length → V3Ok (verOf s.stock k)) :
    Calls Tryz.prog 62 #[.pointer (some ⟨b, 0, none⟩)] w fun e w' => e = .returned (.string (bs (textR s.stock s.packs))) ∧ Below w.heap.size w w' := by
  obtain ⟨v2, e2, r2⟩ := hs.packs
  obtain ⟨pa, pc, rfl⟩ := RowX.form r2
  have hlt := hs.lt
  have HT := hid' (textD_any b s _ s.packs w hs r2 (by omega) hst (fun p h => ⟨(hp p h).1, by have := (hp p h).2; omega⟩) hv)
  clear hs hp hv r2
  generalize textR s.stock s.packs = res at *
  go_enter Tryz.func62, Tryz.ntmps62
  go_wp2_with fail
  refine (HT.out).mono ?_
  rintro e w1 ⟨rfl, hb1⟩
  go_wp2
  go_ret
  exact ⟨rfl, hb1⟩

end Hst
end Go.Proofs.YtecocheolbkneaaGreatDoor
namespace Go.Proofs.YtecocheolbkneaaGreatDoor
open Go.RowKit
namespace Hst

theorem need_ok {n : NeedX} {d : NeedD} (h : NeedSame n d) : NeedOk d := ⟨isName_3 h.isn, rangeP_60 h.rng⟩
theorem SiteSame.dok {sx : SiteX} {sd : SiteD} (h : SiteSame sx sd) : DOk sd := by
  refine ⟨⟨by rw [← h.st.all.len]; exact h.s40, fun e he => ?_⟩, h.n6, fun n hn => ?_, by have := h.l40; omega⟩
  · obtain ⟨j, hj, rfl⟩ := List.mem_iff_getElem.1 he
    have hj' : j < sx.stock.length := by rw [h.st.all.len]; exact hj
    have hs := h.st.all.get j hj' hj
    refine ⟨?_, fun n hn => ?_⟩
    · have := h.h6 j hj'
      unfold needsOf at this
      rw [List.getD_eq_getElem?_getD, List.getElem?_eq_getElem hj] at this
      exact this
    · obtain ⟨_, _, hr⟩ := hs.nd.mem n hn
      exact need_ok hr
  · obtain ⟨_, _, hr⟩ := h.nd.mem n hn
    exact need_ok hr
theorem SiteSame.lw_update {sx : SiteX} {sd : SiteD} (h : SiteSame sx sd) : LaysWell sd.stock [] sd.needs := lays_well h.st (siteNeeds_of h.nd h.rs) (TreeSame.nil _)
theorem SiteSame.lw_drop {sx : SiteX} {sd : SiteD} (h : SiteSame sx sd) (name : Tx) : LaysWell sd.stock sd.packs (restR sd.needs name) := lays_well h.st (siteNeeds_of (rest_same h.nd name) (rest_rises h.rs name)) h.tr
theorem needR_same {l : Tx} (h : (needR l).2 = true) : ∃ x, NeedOf l x := by
  rw [← needOk_same] at h
  have h' := h
  unfold needOkP at h'
  rw [Bool.and_eq_true] at h'
  unfold rok at h'
  obtain ⟨sp, hsp⟩ := Option.isSome_iff_exists.1 h'.2
  exact ⟨⟨l.take (lowLen l), .slice none 0 0, sp, l⟩, h, rfl, hsp, rfl⟩
theorem SiteSame.lw_add {sx : SiteX} {sd : SiteD} (h : SiteSame sx sd) {l : Tx} (hl : (needR l).2 = true) : LaysWell sd.stock sd.packs (addN sd l) := by
  obtain ⟨x, hx⟩ := needR_same hl
  have hs := needOf_same hx
  have hne : ∀ y ∈ restR sd.needs (needR l).1.name, y.name ≠ (needR l).1.name := fun y hy => by
    have := (List.mem_filter.1 hy).2
    simpa using this
  obtain ⟨w1, w2⟩ := with_same (rest_same h.nd (needR l).1.name) (rest_rises h.rs _) hs hne
  exact lays_well h.st (siteNeeds_of w1 w2) h.tr

end Hst
end Go.Proofs.YtecocheolbkneaaGreatDoor
namespace Go.Proofs.YtecocheolbkneaaGreatDoor
open Go.RowKit
namespace Hst
set_option maxRecDepth 100000

abbrev ptV (b : Nat) : Value := .pointer (some ⟨b, 0, none⟩)
abbrev twV (x d : Nat) : Value := .agg #[.pointer (some ⟨x, 0, none⟩), .pointer (some ⟨d, 0, none⟩)]
/-- The two sites show the same. -/
def TwinAt (w : World) (x d : Nat) : Prop := ∃ sx sd, SAt w x sx ∧ DAt w d sd ∧ SiteSame sx sd
theorem TwinAt.below {w w' : World} {x d : Nat} (h : TwinAt w x d) (hb : Below w.heap.size w w') : TwinAt w' x d := by
  obtain ⟨sx, sd, h1, h2, h3⟩ := h
  exact ⟨sx, sd, h1.below hb, h2.below hb, h3⟩
theorem TwinAt.lt {w : World} {x d : Nat} (h : TwinAt w x d) : x < w.heap.size ∧ d < w.heap.size ∧ x ≠ d := by
  obtain ⟨sx, sd, h1, h2, h3⟩ := h
  refine ⟨h1.lt, h2.lt, fun e => ?_⟩
  subst e
  have := h1.tag
  rw [h2.tag] at this
  exact absurd this (by decide)
theorem TwinAt.ms {w w' : World} {x d c : Nat} (h : TwinAt w x d) (hm : But c w w') (hx : x ≠ c) (hd : d ≠ c) (ht : tagOf w c = some 75 ∨ tagOf w c = some 129) : TwinAt w' x d := by
  obtain ⟨sx, sd, h1, h2, h3⟩ := h
  refine ⟨sx, sd, h1.other hm hx ht, ?_, h3⟩
  rcases ht with ht | ht
  · exact h2.keep hm hd ht (by decide) (by decide) (by decide)
  · exact h2.keep hm hd ht (by decide) (by decide) (by decide)
theorem TwinAt.mt {w w' : World} {x d c : Nat} (h : TwinAt w x d) (hm : But c w w') (hx : x ≠ c) (hd : d ≠ c) (ht : tagOf w c = some 54) : TwinAt w' x d := by
  obtain ⟨sx, sd, h1, h2, h3⟩ := h
  exact ⟨sx, sd, h1.keep hm hx ht (by decide) (by decide) (by decide) (by decide), h2.keep hm hd ht (by decide) (by decide) (by decide), h3⟩

set_option maxHeartbeats 1000000 in
theorem tneeds_any (x d : Nat) (w : World) (h : TwinAt w x d) :
    Calls Tryz.prog 29 #[twV x d] w fun e w' => e = .returned (.bool true) ∧ Below w.heap.size w w' := by
  obtain ⟨sx, sd, h1, h2, h3⟩ := h
  have hba := (Below.refl w.heap.size w).alloc (Nat.le_refl _) (.cells #[ptV x, ptV d] 54)
  have HX := hid' (needs_any' x sx _ (h1.below hba) h3.sok)
  have HD := hid' (fun w h => needed_any d sd w h h3.dok)
  have H2 := hid' (h2.below hba)
  have HE := hid' (needed_same h3)
  have HBA := hid' hba
  clear h1 h2 h3 hba
  go_enter Tryz.func29, Tryz.ntmps29
  go_wp2_with fail
  refine HX.out.mono ?_
  rintro e w1 ⟨rfl, hb1⟩
  have c1 := (bcell hb1).1 w.heap.size 1 (by simp)
  have hs1 : w.heap.size < w1.heap.size := by have := hb1.size; simp at this; omega
  simp at c1
  have HB1 := hid' (HBA.out.trans (hb1.mono (by simp)))
  have H3 := hid' (H2.out.below hb1)
  clear hb1
  rw [HE.out]
  go_wp2_with fail
  refine (HD.out _ H3.out).mono ?_
  rintro e w2 ⟨rfl, hb2⟩
  have HB2 := hid' (HB1.out.trans (hb2.mono (by omega)))
  clear hb2
  go_wp2
  go_ret
  exact ⟨by simp, HB2.out⟩

set_option maxHeartbeats 1000000 in
theorem ttree_any (x d : Nat) (w : World) (h : TwinAt w x d) :
    Calls Tryz.prog 28 #[twV x d] w fun e w' => e = .returned (.bool true) ∧ Below w.heap.size w w' := by
  obtain ⟨sx, sd, h1, h2, h3⟩ := h
  have hba := (Below.refl w.heap.size w).alloc (Nat.le_refl _) (.cells #[ptV x, ptV d] 54)
  have HX := hid' (tree_any' x sx _ (h1.below hba) h3.sok h3.pathx)
  have HD := hid' (fun w h => treeD_any d sd w h (by have := h3.l40; omega) (by have := h3.s40; rw [h3.st.all.len] at this; omega) (fun p hp => ⟨(h3.path p hp).1, by have := (h3.path p hp).2; omega⟩) h3.v3)
  have H2 := hid' (h2.below hba)
  have HE := hid' (tree_same h3)
  have HBA := hid' hba
  clear h1 h2 h3 hba
  go_enter Tryz.func28, Tryz.ntmps28
  go_wp2_with fail
  refine HX.out.mono ?_
  rintro e w1 ⟨rfl, hb1⟩
  have c1 := (bcell hb1).1 w.heap.size 1 (by simp)
  have hs1 : w.heap.size < w1.heap.size := by have := hb1.size; simp at this; omega
  simp at c1
  have HB1 := hid' (HBA.out.trans (hb1.mono (by simp)))
  have H3 := hid' (H2.out.below hb1)
  clear hb1
  rw [HE.out]
  go_wp2_with fail
  refine (HD.out _ H3.out).mono ?_
  rintro e w2 ⟨rfl, hb2⟩
  have HB2 := hid' (HB1.out.trans (hb2.mono (by omega)))
  clear hb2
  go_wp2
  go_ret
  exact ⟨by simp, HB2.out⟩

end Hst
end Go.Proofs.YtecocheolbkneaaGreatDoor
namespace Go.Proofs.YtecocheolbkneaaGreatDoor
open Go.RowKit
namespace Hst
set_option maxRecDepth 100000

/-- What Look answers. -/
def lookP (t : List PkX) (path name : Tx) : Tx × Int :=
  if (!decide (path = []) && !hasAtP t path) = true then ([], 10) else if isNameR name = false then ([], 11) else match findP t name path with
  | none => ([], 3)
  | some p => (p.path, 0)
theorem lk_path {t : List PkX} {path name : Tx} (h : (!decide (path = []) && !hasAtP t path) = true) : lookP t path name = ([], 10) := by unfold lookP; rw [if_pos h]
theorem lk_name {t : List PkX} {path name : Tx} (h : (!decide (path = []) && !hasAtP t path) = false) (h' : isNameR name = false) : lookP t path name = ([], 11) := by unfold lookP; rw [if_neg (by rw [h]; simp), if_pos h']
theorem lk_find {t : List PkX} {path name : Tx} (h : (!decide (path = []) && !hasAtP t path) = false) (h' : isNameR name = true) : lookP t path name = match findP t name path with
    | none => ([], 3)
    | some p => (p.path, 0) := by unfold lookP; rw [if_neg (by rw [h]; simp), if_neg (by rw [h']; simp)]
theorem lk_short {t : List PkX} {path : Tx} (hp : ∀ q ∈ t, q.path.length ≤ 900) (h : (!decide (path = []) && !hasAtP t path) = false) : path.length ≤ 900 := by
  rw [Bool.and_eq_false_iff] at h
  rcases h with h | h
  · have : path = [] := by simpa using h
    rw [this]; simp
  · have : hasAtP t path = true := by simpa using h
    unfold hasAtP at this
    obtain ⟨q, hq, e⟩ := List.any_eq_true.1 this
    rw [← of_decide_eq_true e]
    exact hp q hq

set_option maxHeartbeats 4000000 in
theorem look_any' (b : Nat) (s : SiteX) (p n : ByteArray) (w : World) (hs : SAt w b s) (hok : SOk s) (hp : ∀ q ∈ s.tree, q.path.length ≤ 900) (hn : n.size ≤ 9223372036854775807) :
    Calls Tryz.prog 58 #[.pointer (some ⟨b, 0, none⟩), .string p, .string n] w fun e w' => e = .returned (.tuple #[.string (bs (lookP s.tree (tx p) (tx n)).1), .int .i64 (lookP s.tree (tx p) (tx n)).2]) ∧ Below w.heap.size w w' := by
  obtain ⟨v, e2, r2⟩ := hs.tree
  obtain ⟨ta, tc, rfl⟩ := r2.1.form
  have hlt := hs.lt
  have htl := hok.tr
  have HHA := hid' (hasAt_any (.slice ta s.tree.length tc) s.tree p w r2 (by omega))
  have HNM := hid' (fun w => isNameP_any n w hn)
  have HR := hid' r2
  have HFD := hid' (fun w h hs => findP_any (.slice ta s.tree.length tc) s.tree p n w h (by omega) (fun q hq => by have := hp q hq; omega) hs)
  have HL1 := hid' (lk_path (t := s.tree) (path := tx p) (name := tx n))
  have HL2 := hid' (lk_name (t := s.tree) (path := tx p) (name := tx n))
  have HL3 := hid' (lk_find (t := s.tree) (path := tx p) (name := tx n))
  have HSH := hid' (lk_short (path := tx p) hp)
  clear hs hok hp r2
  generalize lookP s.tree (tx p) (tx n) = res at *
  go_enter Tryz.func58, Tryz.ntmps58
  go_upto_region 1 with fail
  go_cut [20] (fun t wc => t = .bool (!decide (tx p = []) && !hasAtP s.tree (tx p)) ∧ Below w.heap.size w wc)
  case first =>
    by_cases h0 : tx p = []
    · have hb : (p.toList == []) = true := by rw [tx_toList, h0]; rfl
      have HE : Hid ((!decide (tx p = []) && !hasAtP s.tree (tx p)) = false) := by unfold Hid; simp [h0]
      clear h0
      go_wp2
      go_meet
      exact ⟨by rw [HE.out], Below.refl _ _⟩
    · have hb : (p.toList == []) = false := by rw [tx_toList]; exact beq_eq_false_iff_ne.2 h0
      have HE : Hid ((!decide (tx p = []) && !hasAtP s.tree (tx p)) = !hasAtP s.tree (tx p)) := by unfold Hid; simp [h0]
      clear h0
      go_wp2_with fail
      refine HHA.out.mono ?_
      rintro e w1 ⟨rfl, hb1⟩
      have HB1 := hid' hb1
      clear hb1
      go_wp2
      go_meet
      exact ⟨by rw [HE.out], HB1.out⟩
  case rest =>
    obtain ⟨rfl, hbc⟩ := hcut
    have HBC := hid' hbc
    have d2 := ((bcell hbc).1 b 2 hlt).trans e2
    have hlt2 : b < wc.heap.size := by have := hbc.size; omega
    clear hbc
    rcases hbb : (!decide (tx p = []) && !hasAtP s.tree (tx p)) with _ | _
    · have HSZ := hid' (HSH.out hbb)
      rcases hnm : isNameR (tx n) with _ | _
      · have HF := hid' (HL2.out hbb hnm)
        rw [hnm] at HNM
        clear hbb hnm HL1 HL2 HL3 HFD HHA
        go_wp2_with fail
        refine (HNM.out _).mono ?_
        rintro e w1 ⟨he, hw⟩
        subst he hw
        go_wp2
        go_ret2
        exact ⟨by rw [HF.out]; rfl, HBC.out⟩
      · have HF := hid' (HL3.out hbb hnm)
        rw [hnm] at HNM
        clear hbb hnm HL1 HL2 HL3 HHA
        have HFW := hid' (HFD.out wc (HR.out.below HBC.out) (by rw [← tx_length]; have := HSZ.out; omega))
        clear HFD
        generalize findP s.tree (tx n) (tx p) = fr at *
        go_wp2_with fail
        refine (HNM.out _).mono ?_
        rintro e w1 ⟨he, hw⟩
        subst he hw
        go_wp2_with fail
        refine HFW.out.mono ?_
        rintro e w2 ⟨x, rfl, hb2, ⟨na, nn, nc, hx⟩, hhit⟩
        obtain ⟨xp, xn, xv, xs, xd⟩ := x
        simp only at hx
        subst hx
        have HB2 := hid' (HBC.out.trans (hb2.mono (by have := HBC.out.size; omega)))
        have hz2 := HB2.out.size
        clear hb2
        rcases fr with _ | q
        · clear hhit
          go_wp2
          go_ret2
          exact ⟨by rw [HF.out]; rfl, HB2.out.alloc (by omega) _⟩
        · have hq := hhit q rfl
          subst hq
          clear hhit
          go_wp2
          go_ret2
          exact ⟨by rw [HF.out]; rfl, HB2.out.alloc (by omega) _⟩
    · have HF := hid' (HL1.out hbb)
      clear hbb HL1 HL2 HL3
      go_wp2
      go_ret2
      exact ⟨by rw [HF.out]; rfl, HBC.out⟩

end Hst
end Go.Proofs.YtecocheolbkneaaGreatDoor
namespace Go.Proofs.YtecocheolbkneaaGreatDoor
open Go.RowKit
namespace Hst

theorem look_same {sx : SiteX} {sd : SiteD} (h : SiteSame sx sd) (path name : Tx) : lookP sx.tree path name = lookR sd.packs path name := by
  have hc : (!decide (path = []) && !hasAtP sx.tree path) = (decide (0 < path.length) && (atR sd.packs path).isNone) := by
    rw [hasAt_same h.tr]
    have h1 : (!decide (path = [])) = decide (0 < path.length) := by
      rw [Bool.eq_iff_iff]
      simp [List.length_pos_iff]
    rw [h1]
    rcases atR sd.packs path <;> simp
  unfold lookP lookR
  rw [hc]
  by_cases h1 : (decide (0 < path.length) && (atR sd.packs path).isNone) = true
  · rw [if_pos h1, if_pos h1]
  · rw [if_neg h1, if_neg h1]
    rcases h2 : isNameR name with _ | _
    · rfl
    · rw [if_neg (by simp), if_neg (by simp), find_same h.tr (name_nosl h2) path.length path (Nat.le_refl _)]
      rcases findR sd.packs path name with _ | k
      · rfl
      · rfl

end Hst
end Go.Proofs.YtecocheolbkneaaGreatDoor
namespace Go.Proofs.YtecocheolbkneaaGreatDoor
open Go.RowKit
namespace Hst
set_option maxRecDepth 100000

theorem add_agree {sx : SiteX} {sd : SiteD} (h : SiteSame sx sd) {l : Tx} {k : Int} {x : Nat} {w : World} (ha : AddAns sx l k x w) : ∃ sx', SAt w x sx' ∧ SiteSame sx' (addR sd l).1 ∧ k = (addR sd l).2 := by
  rcases ha with ⟨h1, rfl, h2⟩ | ⟨n, hn, ⟨h1, rfl, h2⟩ | ⟨h1, nv, rfl, h2⟩⟩
  · rw [add_text h1]; exact ⟨sx, h2, h, rfl⟩
  · rw [add_many h hn h1]; exact ⟨sx, h2, h, rfl⟩
  · obtain ⟨e1, e2⟩ := add_same h hn h1 nv
    exact ⟨_, h2, e2, e1.symm⟩
theorem drop_agree {sx : SiteX} {sd : SiteD} (h : SiteSame sx sd) {l : Tx} {k : Int} {x : Nat} {w : World} (ha : DropAns sx l k x w) : ∃ sx', SAt w x sx' ∧ SiteSame sx' (dropR sd l).1 ∧ k = (dropR sd l).2 := by
  rcases ha with ⟨h1, rfl, h2⟩ | ⟨h1, nv, rfl, h2⟩
  · rw [drop_none h h1]; exact ⟨sx, h2, h, rfl⟩
  · obtain ⟨e1, e2⟩ := drop_same h h1 nv
    exact ⟨_, h2, e2, e1.symm⟩
/-- The site at a block shows this plain site. -/
def KAt (w : World) (b : Nat) (sd : SiteD) : Prop := ∃ sx, SAt w b sx ∧ SiteSame sx sd
theorem KAt.below {w w' : World} {b : Nat} {sd : SiteD} (h : KAt w b sd) (hb : Below w.heap.size w w') : KAt w' b sd := by
  obtain ⟨sx, h1, h2⟩ := h
  exact ⟨sx, h1.below hb, h2⟩
theorem KAt.lt {w : World} {b : Nat} {sd : SiteD} (h : KAt w b sd) : b < w.heap.size := by
  obtain ⟨sx, h1, h2⟩ := h
  exact h1.lt
/-- What New answers. -/
def NewK (r : Option (List EntryD)) (p : Option Addr) (base : Nat) (w' : World) : Prop := match r with
  | none => p = none
  | some ds => ∃ b, p = some ⟨b, 0, none⟩ ∧ base ≤ b ∧ KAt w' b ⟨ds, [], []⟩
theorem knew_agree {l : Tx} {k : Int} {p : Option Addr} {b1 : Nat} {w1 : World} (h1 : NewAns l k p b1 w1) : k = (newR l).2 ∧ NewK (newR l).1 p b1 w1 := by
  rcases h1 with ⟨h, rfl, rfl⟩ | ⟨h, h', rfl, rfl⟩ | ⟨h, h', es, he, h40, ⟨ht, rfl, rfl⟩ | ⟨ht, rfl, x, rfl, hx, hs, _⟩⟩
  · rw [new_long h]; exact ⟨rfl, rfl⟩
  · rw [new_text h h']; exact ⟨rfl, rfl⟩
  · rw [(new_stock h h' he).1 ht]; exact ⟨rfl, rfl⟩
  · obtain ⟨ds, e, hss, h6⟩ := (new_stock h h' he).2 ht
    rw [e]
    exact ⟨rfl, x, rfl, hx, _, hs, new_site hss h6 h40 _⟩
theorem knew_any (s : ByteArray) (w : World) :
    Calls Tryz.prog 31 #[.string s] w fun e w' => ∃ p, e = .returned (.tuple #[.pointer p, .int .i64 (newR (tx s)).2]) ∧ Below w.heap.size w w' ∧ NewK (newR (tx s)).1 p w.heap.size w' :=
  (new_any' s w).mono fun e w' ⟨p, k, he, hb, ha⟩ => by
    obtain ⟨h1, h2⟩ := knew_agree ha
    subst h1
    exact ⟨p, he, hb, h2⟩
theorem kadd_any (b : Nat) (sd : SiteD) (p : ByteArray) (w : World) (h : KAt w b sd) (hp : p.size ≤ 9223372036854775807) :
    Calls Tryz.prog 32 #[.pointer (some ⟨b, 0, none⟩), .string p] w fun e w' => e = .returned (.int .i64 (addR sd (tx p)).2) ∧ SMv b w w' ∧ KAt w' b (addR sd (tx p)).1 := by
  obtain ⟨sx, h1, h2⟩ := h
  refine (add_any' b sx p w h1 h2.sok hp).mono fun e w' ⟨k, he, hm, ha⟩ => ?_
  obtain ⟨sx', g1, g2, rfl⟩ := add_agree h2 ha
  exact ⟨he, hm, sx', g1, g2⟩
theorem kdrop_any (b : Nat) (sd : SiteD) (p : ByteArray) (w : World) (h : KAt w b sd) :
    Calls Tryz.prog 16 #[.pointer (some ⟨b, 0, none⟩), .string p] w fun e w' => e = .returned (.int .i64 (dropR sd (tx p)).2) ∧ SMv b w w' ∧ KAt w' b (dropR sd (tx p)).1 := by
  obtain ⟨sx, h1, h2⟩ := h
  refine (drop_any' b sx p w h1 h2.sok).mono fun e w' ⟨k, he, hm, ha⟩ => ?_
  obtain ⟨sx', g1, g2, rfl⟩ := drop_agree h2 ha
  exact ⟨he, hm, sx', g1, g2⟩
theorem kupdate_any (b : Nat) (sd : SiteD) (w : World) (h : KAt w b sd) :
    Calls Tryz.prog 15 #[.pointer (some ⟨b, 0, none⟩)] w fun e w' => e = .returned (.int .i64 (updateR sd).2) ∧ SMv b w w' ∧ KAt w' b (updateR sd).1 := by
  obtain ⟨sx, h1, h2⟩ := h
  obtain ⟨g1, g2⟩ := update_same h2 sx.nv
  refine (update_any' b sx w h1 h2.sok).mono fun e w' ⟨he, hm, ha⟩ => ?_
  exact ⟨by rw [he, g1], hm, _, ha, g2⟩
theorem kneeds_any (b : Nat) (sd : SiteD) (w : World) (h : KAt w b sd) :
    Calls Tryz.prog 18 #[.pointer (some ⟨b, 0, none⟩)] w fun e w' => e = .returned (.string (bs (neededR sd))) ∧ Below w.heap.size w w' := by
  obtain ⟨sx, h1, h2⟩ := h
  have := needs_any' b sx w h1 h2.sok
  rw [needed_same h2] at this
  exact this
theorem ktree_any (b : Nat) (sd : SiteD) (w : World) (h : KAt w b sd) :
    Calls Tryz.prog 13 #[.pointer (some ⟨b, 0, none⟩)] w fun e w' => e = .returned (.string (bs (textR sd.stock sd.packs))) ∧ Below w.heap.size w w' := by
  obtain ⟨sx, h1, h2⟩ := h
  have := tree_any' b sx w h1 h2.sok h2.pathx
  rw [tree_same h2] at this
  exact this
theorem klook_any (b : Nat) (sd : SiteD) (p n : ByteArray) (w : World) (h : KAt w b sd) (hn : n.size ≤ 9223372036854775807) :
    Calls Tryz.prog 58 #[.pointer (some ⟨b, 0, none⟩), .string p, .string n] w fun e w' => e = .returned (.tuple #[.string (bs (lookR sd.packs (tx p) (tx n)).1), .int .i64 (lookR sd.packs (tx p) (tx n)).2]) ∧ Below w.heap.size w w' := by
  obtain ⟨sx, h1, h2⟩ := h
  have := look_any' b sx p n w h1 h2.sok h2.pathx hn
  rw [look_same h2] at this
  exact this
theorem own_bt {w w' : World} {base e size n c : Nat} {v : Value} {xs : List Value} (h : w.ownsRow base e size v n xs) (hb : But c w w') (ht : tagOf w c ≠ some e) : w'.ownsRow base e size v n xs := by
  obtain ⟨h1, h2⟩ := h
  refine ⟨h1, ?_⟩
  rcases h2 with h2 | ⟨g, cap, cur, hv, hg, hh, r⟩
  · exact .inl h2
  · refine .inr ⟨g, cap, cur, hv, hg, ?_, r⟩
    rw [hb.block g (lt_of_block hh) fun e => ?_]
    · exact hh
    · subst e
      exact ht (by unfold tagOf; rw [hh])
theorem blk_grown {w w' : World} {base T sz n b : Nat} {u : Value} {xs : List Value} {t : TypeId} (hg : w.grownBy w' u.ownBlock) (ho : w.ownsRow base T sz u n xs) (hb : b < w.heap.size) (ht : tagOf w b = some t) (hne : T ≠ t) : w'.heap[b]? = w.heap[b]? := by
  refine hg.block b hb fun hh => hne ?_
  have h1 := tag_of_own ho hh.symm
  rw [ht] at h1
  simpa using h1.symm

end Hst
end Go.Proofs.YtecocheolbkneaaGreatDoor
namespace Go.Proofs.YtecocheolbkneaaGreatDoor
open Go.RowKit
namespace Hst
set_option maxRecDepth 100000

theorem new_agree {l : Tx} {k : Int} {p q : Option Addr} {b1 b2 : Nat} {w1 w2 : World} (h1 : NewAns l k p b1 w1) (h2 : NewD (newR l).1 q b2 w2) (hb : Below w1.heap.size w1 w2) : k = (newR l).2 ∧ ((p = none ∧ q = none) ∨ ∃ x d, p = some ⟨x, 0, none⟩ ∧ q = some ⟨d, 0, none⟩ ∧ b1 ≤ x ∧ b2 ≤ d ∧ TwinAt w2 x d) := by
  rcases h1 with ⟨h, rfl, rfl⟩ | ⟨h, h', rfl, rfl⟩ | ⟨h, h', es, he, h40, ⟨ht, rfl, rfl⟩ | ⟨ht, rfl, x, rfl, hx, hs, _⟩⟩
  · rw [new_long h] at h2 ⊢
    exact ⟨rfl, .inl ⟨rfl, h2⟩⟩
  · rw [new_text h h'] at h2 ⊢
    exact ⟨rfl, .inl ⟨rfl, h2⟩⟩
  · rw [(new_stock h h' he).1 ht] at h2 ⊢
    exact ⟨rfl, .inl ⟨rfl, h2⟩⟩
  · obtain ⟨ds, e, hss, h6⟩ := (new_stock h h' he).2 ht
    rw [e] at h2 ⊢
    obtain ⟨d, rfl, hd, hda⟩ := h2
    exact ⟨rfl, .inr ⟨x, d, rfl, rfl, hx, hd, _, _, hs.below hb, hda, new_site hss h6 h40 _⟩⟩

set_option maxHeartbeats 2000000 in
theorem made_any (s : ByteArray) (w : World) :
    Calls Tryz.prog 24 #[.string s] w fun e w' => ∃ p q, e = .returned (.tuple #[.agg #[.pointer p, .pointer q], .bool true]) ∧ Below w.heap.size w w' ∧ ((p = none ∧ q = none) ∨ ∃ x d, p = some ⟨x, 0, none⟩ ∧ q = some ⟨d, 0, none⟩ ∧ w.heap.size < x ∧ w.heap.size < d ∧ TwinAt w' x d) := by
  have HN := hid' (fun w => new_any' s w)
  have HD := hid' (fun w => newD_any s w)
  have HA := hid' (fun k p q b1 b2 w1 w2 => new_agree (l := tx s) (k := k) (p := p) (q := q) (b1 := b1) (b2 := b2) (w1 := w1) (w2 := w2))
  have hba := (Below.refl w.heap.size w).alloc (Nat.le_refl _) (.cells #[.pointer none, .pointer none] 54)
  have HBA := hid' hba
  clear hba
  generalize newR (tx s) = res at *
  obtain ⟨rn, rk⟩ := res
  simp only at HD HA
  go_enter Tryz.func24, Tryz.ntmps24
  go_wp2_with fail
  refine (HN.out _).mono ?_
  rintro e w1 ⟨p, k, rfl, hb1, hans⟩
  go_wp2_with fail
  refine (HD.out _).mono ?_
  rintro e w2 ⟨q, rfl, hb2, hans2⟩
  obtain ⟨hk, hpq⟩ := HA.out k p q _ _ w1 w2 hans hans2 hb2
  subst hk
  have hs1 : w.heap.size < w1.heap.size := by have := hb1.size; simp at this; omega
  have hs2 : w.heap.size < w2.heap.size := by have := hb2.size; omega
  have c0 := ((bcell hb2).1 w.heap.size 0 hs1).trans ((bcell hb1).1 w.heap.size 0 (by simp))
  have c1 := ((bcell hb2).1 w.heap.size 1 hs1).trans ((bcell hb1).1 w.heap.size 1 (by simp))
  have f0 := ((bcell hb2).2 w.heap.size 0 hs1).trans ((bcell hb1).2 w.heap.size 0 (by simp))
  have f1 := ((bcell hb2).2 w.heap.size 1 hs1).trans ((bcell hb1).2 w.heap.size 1 (by simp))
  simp at c0 c1 f0 f1
  have HT2 : Hid (tagOf w2 w.heap.size = some 54) := by
    unfold Hid
    rw [tagOf_below hb2 hs1, tagOf_below hb1 (by simp)]
    exact tag_new _ _ _
  have HB2 := hid' ((HBA.out.trans (hb1.mono (by simp))).trans (hb2.mono (by omega)))
  have HS := hid' (And.intro hb1.size hb2.size)
  clear hb1 hb2 hans hans2
  rcases hpq with ⟨rfl, rfl⟩ | ⟨x, d, rfl, rfl, hx, hd, htw⟩
  · go_wp2_with fail
    refine (num_any _ _).mono ?_
    rintro e w3 ⟨rfl, rfl⟩
    go_wp2
    refine bodyPost_ret (v := .tuple #[.agg #[.pointer none, .pointer none], .bool true]) (by simp [results, Tryz.results24, go_sem, *]) rfl ⟨none, none, rfl, ?_, .inl ⟨rfl, rfl⟩⟩
    exact (HB2.out.setCell (Nat.le_refl _) _).setCell (Nat.le_refl _) _
  · have HTW := hid' htw
    have hxn : w.heap.size < x ∧ w.heap.size < d := by have := HS.out.1; simp at this hx; omega
    clear htw
    go_wp2_with fail
    refine (num_any _ _).mono ?_
    rintro e w3 ⟨rfl, rfl⟩
    go_wp2
    refine bodyPost_ret (v := .tuple #[.agg #[.pointer (some ⟨x, 0, none⟩), .pointer (some ⟨d, 0, none⟩)], .bool true]) (by simp [results, Tryz.results24, go_sem, *]) rfl ⟨_, _, rfl, ?_, .inr ⟨x, d, rfl, rfl, hxn.1, hxn.2, ?_⟩⟩
    · exact (HB2.out.setCell (Nat.le_refl _) _).setCell (Nat.le_refl _) _
    · exact (HTW.out.mt (But.set _ _ _ _) (by omega) (by omega) HT2.out).mt (But.set _ _ _ _) (by omega) (by omega) (by rw [tag_set]; exact HT2.out)

end Hst
end Go.Proofs.YtecocheolbkneaaGreatDoor
