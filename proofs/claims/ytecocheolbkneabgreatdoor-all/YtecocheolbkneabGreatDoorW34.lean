/- Played, Script, Twinf, Rfitf, Fittingw, Defsm, Meet, After -/
import Derived.Test.YtecocheolbkneabGreatDoorW27
import Derived.ProofKit
import Derived.OpenShut
import Derived.ShutString
import Derived.SizedLaws
import Derived.Carry
import Derived.Deep.Slices
import Derived.Test.YtecocheolbkneabGreatDoorW32
import Derived.Test.YtecocheolbkneabGreatDoorW33
import Derived.Test.YtecocheolbkneabGreatDoorW19
import Derived.Test.YtecocheolbkneabGreatDoorW03
import Derived.Test.YtecocheolbkneabGreatDoorW04
import Derived.Test.YtecocheolbkneabGreatDoorW01
namespace Go.Proofs.YtecocheolbkneabGreatDoor
open Go.RowKit
namespace Hst
set_option maxRecDepth 100000

theorem info_twin : (Tryz.prog.info? 31).map (fun i => (i.zero, i.size, i.bytes)) = some (some (.agg #[.pointer none, .pointer none]), 2, 16) := by kernel_rfl
/-- What a call's step of a script keeps to. -/
def OpOk (o : OpX) : Prop := (-9223372036854775808 ≤ o.k ∧ o.k ≤ 9223372036854775807) ∧ (-9223372036854775808 ≤ o.on ∧ o.on ≤ 9223372036854775807) ∧ o.S.size ≤ 9223372036854775807 ∧ o.T.size ≤ 9223372036854775807

set_option maxHeartbeats 8000000 in
theorem played_any (first : Bool) (most : Int) (hdn : ∀ (x d : Nat) (k on : Int) (S T : ByteArray) (w : World), TwinAt w x d → OpOk ⟨k, on, S, T⟩ → 5 ≤ k → k ≤ most → Calls Tryz.prog 8 #[twV x d, opV k on S T] w fun e w' => e = .returned (.bool true) ∧ TMv x d w w' ∧ TwinAt w' x d)
    (hrg : first = true → ∀ (k on : Int) (S T : ByteArray) (w : World), OpOk ⟨k, on, S, T⟩ → k < 4 → Calls Tryz.prog 6 #[opV k on S T] w fun e w' => e = .returned (.bool true) ∧ Below w.heap.size w w')
    (a : Option Addr) (cap : Nat) (ops : List OpX) (w : World) (hr : RowR w a ops.length cap 4 (ops.flatMap opC)) (hn : ops.length ≤ 4000000000000) (ho : ∀ o ∈ ops, OpOk o) :
    Calls Tryz.prog 4 #[.slice a ops.length cap, .bool first, .int .i64 most] w fun e w' => e = .returned (.bool true) ∧ Below w.heap.size w w' := by
  obtain ⟨i0, hi, iz0, iz1, iz2⟩ := info_parts info_twin
  have HR := hid' hr
  have HO := hid' ho
  have HDO := hid' hdn
  have HRG := hid' hrg
  clear hr ho hdn hrg
  go_enter Tryz.func4, Tryz.ntmps4
  go_wp2
  go_loopw [7, 8] (fun v i wr => ∃ (k : Nat) (ts : List (Nat × Nat)), k ≤ ops.length ∧ i = .int .i64 k ∧ wr.ownsRow w.heap.size 31 2 v ts.length (ts.flatMap twC) ∧ Below w.heap.size w wr ∧ Hid (ts.length ≤ k ∧ TwinsAt w.heap.size wr ts)) (fun _ i _ => ops.length - (intOf i).toNat)
  case atStart => exact ⟨0, [], Nat.zero_le _, rfl, World.ownsRow_nil _ _ _ _, Below.refl _ _, Nat.le_refl _, TwinsAt.nil _ _⟩
  case round =>
    obtain ⟨k, ts, hk, rfl, hown, hbel, hall⟩ := hrel
    have hz := hbel.size
    obtain ⟨va, vc, rfl⟩ := own_slice hown
    have htl : ts.length ≤ k := hall.out.1
    have HT := hid' hall.out.2
    clear hall
    by_cases hlt : k < ops.length
    · obtain ⟨g, o, rfl, hg, c0, c1, c2, c3⟩ := (HR.out.below hbel).ops rfl hlt
      have hok := HO.out ops[k] (List.getElem_mem hlt)
      generalize ops[k] = op at *
      obtain ⟨kd, on, S, T⟩ := op
      simp only at c0 c1 c2 c3
      have hok1 := hok.1
      have hok2 := hok.2.1
      have HS := hid' hok
      simp only at hok1 hok2
      clear hok
      have k0 : (0 : Int) ≤ (k : Int) := by omega
      have k1 : (k : Int) < (ops.length : Int) := by omega
      have hba := (Below.refl wr.heap.size wr).alloc (Nat.le_refl _) (.cells #[.int .i64 kd, .int .i64 on, .string S, .string T] 27)
      have HBA := hid' hba
      have HTA := hid' (HT.out.below hba)
      have HOA := hid' (own_below hown hba)
      have HBW := hid' (hbel.trans (hba.mono hz))
      clear hba
      by_cases h4 : kd = 4
      · subst h4
        have HMK := hid' (fun w => made_any S w)
        go_wp2_with fail
        refine (HMK.out _).mono ?_
        rintro e w2 ⟨p, q, rfl, hb2, hpq⟩
        have HT2 := hid' (HTA.out.below hb2)
        have HO2 := hid' (own_below HOA.out hb2)
        have hs2 : wr.heap.size < w2.heap.size := by have := hb2.size; simp at this; omega
        have HB2 := hid' (HBW.out.trans (hb2.mono (by simp; omega)))
        have hlts : Hid (∀ t ∈ ts, t.1 < wr.heap.size + 1 ∧ t.2 < wr.heap.size + 1) := fun t ht => by
          have := (HTA.out.each t ht).1.lt
          simp at this
          exact ⟨this.1, this.2.1⟩
        rcases hpq with ⟨rfl, rfl⟩ | ⟨x, d, rfl, rfl, hx, hd, htw⟩
        · have hba := (Below.refl w2.heap.size w2).alloc (Nat.le_refl _) (.cells #[.pointer none, .pointer none] 31)
          have HRL : Hid (ts.length ≤ k + 1 ∧ TwinsAt w.heap.size (w2.alloc (.cells #[.pointer none, .pointer none] 31)) ts) := ⟨by omega, HT2.out.below hba⟩
          have HRO := hid' (own_below HO2.out hba)
          have HRB := hid' (HB2.out.trans (hba.mono (by omega)))
          clear hba hb2 hown hbel
          go_wp2
          go_roundw
          case rel => exact ⟨k + 1, ts, by omega, by go_num, HRO.out, HRB.out, HRL⟩
          case measure => simp [intOf] <;> omega
        · have HTW := hid' htw
          simp at hx hd
          clear hb2 htw
          have hown2 := HO2.out
          go_wp2_with (first
            | (at_builtin; refine wpList_append_lies _ rfl _ _ 25 rfl w.heap.size 31 i0 (.agg #[.pointer none, .pointer none]) 2 16 Tryz.underlying25 hi iz0 iz1 iz2 rfl (by omega) _ _ _ rfl ((hown2.alloc _).alloc _) ⟨w2.heap.size + 1, 0, none⟩ 1 1 [.pointer (some ⟨x, 0, none⟩), .pointer (some ⟨d, 0, none⟩)] rfl rfl (news_span _ _ _ _ _) (tw_one (x, d)) (by omega) (by unfold maxLen; omega) (by omega) (by simp; omega) (w2.heap.size + 2) (by simp) ?_; intro g1 cap1 w3 hown3 hgrow hat hlt1))
          have hba2 := ((Below.refl w2.heap.size w2).alloc (Nat.le_refl _) (.cells #[.pointer (some ⟨x, 0, none⟩), .pointer (some ⟨d, 0, none⟩)] 31)).alloc (by simp) (.cells #[.pointer (some ⟨x, 0, none⟩), .pointer (some ⟨d, 0, none⟩)] 31)
          have R := step_gen2 twC (x := (x, d)) rfl HO2.out HB2.out hba2 hown3 hgrow
          have HRL : Hid ((ts ++ [(x, d)]).length ≤ k + 1 ∧ TwinsAt w.heap.size w3 (ts ++ [(x, d)])) := ⟨by simp; omega, ((HT2.out.below hba2).grown hgrow ((hown2.alloc _).alloc _)).push ((HTW.out.below hba2).grown hgrow ((hown2.alloc _).alloc _)) (N := wr.heap.size + 1) (by omega) (by omega) (by omega) hlts.out⟩
          clear hown3 hgrow hown hown2 hba2 hbel
          go_wp2
          go_roundw
          case rel => exact ⟨k + 1, ts ++ [(x, d)], by omega, by go_num, R.1, R.2, HRL⟩
          case measure => simp [intOf] <;> omega
      · by_cases h3 : kd < 4
        · have hb4 : (kd == 4) = false := by simp; omega
          cases first
          · have HRL : Hid (ts.length ≤ k + 1 ∧ TwinsAt w.heap.size (wr.alloc (.cells #[.int .i64 kd, .int .i64 on, .string S, .string T] 27)) ts) := ⟨by omega, HTA.out⟩
            clear hown hbel
            go_wp2
            go_roundw
            case rel => exact ⟨k + 1, ts, by omega, by go_num, HOA.out, HBW.out, HRL⟩
            case measure => simp [intOf] <;> omega
          · have HRC := hid' (fun w => HRG.out rfl kd on S T w HS.out h3)
            clear hown hbel
            go_wp2_with fail
            refine (HRC.out _).mono ?_
            rintro e w2 ⟨rfl, hb2⟩
            have HRL : Hid (ts.length ≤ k + 1 ∧ TwinsAt w.heap.size w2 ts) := ⟨by omega, HTA.out.below hb2⟩
            have HRO := hid' (own_below HOA.out hb2)
            have HRB := hid' (HBW.out.trans (hb2.mono (by simp; omega)))
            clear hb2
            go_wp2
            go_roundw
            case rel => exact ⟨k + 1, ts, by omega, by go_num, HRO.out, HRB.out, HRL⟩
            case measure => simp [intOf] <;> omega
        · have hb4 : (kd == 4) = false := by simp; omega
          by_cases h0 : 0 < ts.length
          · have hb0 : (0 : Int) < (ts.length : Int) := by omega
            by_cases h9 : kd ≤ most
            · obtain ⟨gt, ct, hv, hgt, hgt2⟩ := form_any HOA.out h0
              simp at hv
              obtain ⟨rfl, rfl⟩ := hv
              have HPK := hid' (fun w => pick_any on ts.length w hok2.1 hok2.2 h0 (by omega))
              go_wp2_with fail
              refine (HPK.out _).mono ?_
              rintro e w2 ⟨j, rfl, hj, hw2⟩
              subst hw2
              obtain ⟨gt', ot, ct', hv, hgt3, e0, e1⟩ := own_twins HOA.out rfl hj
              simp at hv
              obtain ⟨⟨rfl, rfl⟩, rfl⟩ := hv
              have hmem : ts[j] ∈ ts := List.getElem_mem hj
              generalize ts[j] = t at *
              obtain ⟨x, d⟩ := t
              simp only [Nat.zero_add] at e0 e1
              have j0 : (0 : Int) ≤ (j : Int) := by omega
              have j1 : (j : Int) < (ts.length : Int) := by omega
              have hba2 := (Below.refl _ (wr.alloc (.cells #[.int .i64 kd, .int .i64 on, .string S, .string T] 27))).alloc (Nat.le_refl _) (.cells #[ptV x, ptV d] 31)
              have HT2 := hid' (HTA.out.below hba2)
              have HO2 := hid' (own_below HOA.out hba2)
              have HB2 := hid' (HBW.out.trans (hba2.mono (by simp; omega)))
              have HDN := hid' (HDO.out x d kd on S T _ (HT2.out.each (x, d) hmem).1 HS.out (by omega) h9)
              have HMEM := hid' hmem
              clear hba2 hmem hown hbel
              go_wp2_with fail
              refine HDN.out.mono ?_
              rintro e w3 ⟨rfl, hm3, htw3⟩
              have hx := (HT2.out.each (x, d) HMEM.out).2
              have HRL : Hid (ts.length ≤ k + 1 ∧ TwinsAt w.heap.size w3 ts) := ⟨by omega, HT2.out.tmv HMEM.out hm3 htw3⟩
              have HRO := hid' (own_tmv HO2.out (HT2.out.each (x, d) HMEM.out).1 hm3)
              have HRB := hid' (HB2.out.trans (hm3.to_below hx.1 hx.2 (by simp; omega)))
              clear hm3 htw3
              go_wp2
              go_roundw
              case rel => exact ⟨k + 1, ts, by omega, by go_num, HRO.out, HRB.out, HRL⟩
              case measure => simp [intOf] <;> omega
            · have HRL : Hid (ts.length ≤ k + 1 ∧ TwinsAt w.heap.size (wr.alloc (.cells #[.int .i64 kd, .int .i64 on, .string S, .string T] 27)) ts) := ⟨by omega, HTA.out⟩
              clear hown hbel
              go_wp2
              go_roundw
              case rel => exact ⟨k + 1, ts, by omega, by go_num, HOA.out, HBW.out, HRL⟩
              case measure => simp [intOf] <;> omega
          · have hb0 : ¬ (0 : Int) < (ts.length : Int) := by omega
            have HRL : Hid (ts.length ≤ k + 1 ∧ TwinsAt w.heap.size (wr.alloc (.cells #[.int .i64 kd, .int .i64 on, .string S, .string T] 27)) ts) := ⟨by omega, HTA.out⟩
            clear hown hbel
            go_wp2
            go_roundw
            case rel => exact ⟨k + 1, ts, by omega, by go_num, HOA.out, HBW.out, HRL⟩
            case measure => simp [intOf] <;> omega
    · have hts : ts.length ≤ 4000000000000 := by omega
      have HOW := hid' hown
      obtain ⟨wo, rfl⟩ : ∃ wo, wo = wr := ⟨_, rfl⟩
      have HBW := hid' hbel
      clear hown hbel htl
      go_wp2
      go_loopw [14] (fun i wr => ∃ (m : Nat), m ≤ ts.length ∧ i = .int .i64 m ∧ Below wo.heap.size wo wr) (fun i _ => ts.length - (intOf i).toNat)
      case atStart => exact ⟨0, Nat.zero_le _, rfl, Below.refl _ _⟩
      case round =>
        obtain ⟨m, hm, rfl, hbel2⟩ := hrel
        have hz2 := hbel2.size
        by_cases hml : m < ts.length
        · have hown2 := own_below HOW.out hbel2
          obtain ⟨gt, ot, ct, hv, hgt, e0, e1⟩ := own_twins hown2 rfl hml
          simp at hv
          obtain ⟨rfl, rfl⟩ := hv
          have HT2 := hid' ((HT.out.each ts[m] (List.getElem_mem hml)).1.below hbel2)
          generalize ts[m] = t at *
          obtain ⟨x, d⟩ := t
          simp only at e0 e1 HT2
          have m0 : (0 : Int) ≤ (m : Int) := by omega
          have m1 : (m : Int) < (ts.length : Int) := by omega
          have hba := (Below.refl wr.heap.size wr).alloc (Nat.le_refl _) (.cells #[ptV x, ptV d] 31)
          have HTR := hid' (ttree_any x d _ (HT2.out.below hba))
          have HT3 := hid' (HT2.out.below hba)
          have HB3 := hid' (hbel2.trans (hba.mono hz2))
          clear hba hown2 hbel2
          go_wp2_with fail
          refine HTR.out.mono ?_
          rintro e w2 ⟨rfl, hb2⟩
          have q0 := (bcell hb2).1 wr.heap.size 0 (by simp)
          have q1 := (bcell hb2).1 wr.heap.size 1 (by simp)
          simp at q0 q1
          have hs2 : wr.heap.size < w2.heap.size := by have := hb2.size; simp at this; omega
          have HND := hid' (tneeds_any x d _ (HT3.out.below hb2))
          have HB4 := hid' (HB3.out.trans (hb2.mono (by simp; omega)))
          clear hb2
          go_wp2_with fail
          refine HND.out.mono ?_
          rintro e w3 ⟨rfl, hb3⟩
          have HB5 := hid' (HB4.out.trans (hb3.mono (by omega)))
          clear hb3
          go_wp2
          go_roundw
          case rel => exact ⟨m + 1, by omega, by go_num, HB5.out⟩
          case measure => simp [intOf] <;> omega
        · have HB := hid' (HBW.out.trans (hbel2.mono hz))
          clear hbel2
          go_wp2
          go_ret
          exact ⟨rfl, HB.out⟩

end Hst
end Go.Proofs.YtecocheolbkneabGreatDoor
namespace Go.Proofs.YtecocheolbkneabGreatDoor
open Go.ChangeShapes Go.WideShapes Go.ChangeAt Go.RowKit Go.Deep
namespace Hst
set_option maxRecDepth 100000

theorem cells_op : Tryz.prog.cellsOf 27 = 4 := by kernel_rfl
theorem cells_int : Tryz.prog.cellsOf 3 = 1 := by kernel_rfl
theorem cells_str : Tryz.prog.cellsOf 9 = 1 := by kernel_rfl
theorem bytes_op : Tryz.prog.bytesOf 27 = 48 := by kernel_rfl
theorem laidOut : laidOutB Tryz.prog = true := by kernel_rfl

section
variable {H : Type} {enc : TypeId × Value → H}
/-- One step, off its four cells. -/
theorem open_op {W : World} {sp : Nat → Bool} {n : Nat} {cs : List Value} {y : DataW H × List MemPlace} (h : DataW.trod enc Tryz.prog W 0 sp true n 27 cs = some y) : ∃ o : OpX, cs = opC o ∧ OpOk o := by
  obtain ⟨xs, k, hk, hxy, hcl, hxl, hf⟩ := DataW.trod_struct Tryz.underlying27 h
  rw [cells_op] at hcl
  match xs, hxl, cs, hcl with
  | [y0, y1, y2, y3], _, [v0, v1, v2, v3], _ =>
    have g0 := hf 0 _ rfl
    have g1 := hf 1 _ rfl
    have g2 := hf 2 _ rfl
    have g3 := hf 3 _ rfl
    simp [cells_int, cells_str] at g0 g1 g2 g3
    obtain ⟨a, ha, _, wa⟩ := DataW.trod_int Tryz.underlying3 g0
    obtain ⟨b, hb, _, wb⟩ := DataW.trod_int Tryz.underlying3 g1
    obtain ⟨c, hc, _, wc⟩ := DataW.trod_string Tryz.underlying9 g2
    obtain ⟨d, hd, _, wd⟩ := DataW.trod_string Tryz.underlying9 g3
    simp only [List.cons.injEq, and_true] at ha hb hc hd
    subst ha hb hc hd
    have ka := bounds_i64 wa
    have kb := bounds_i64 wb
    refine ⟨⟨a, b, c, d⟩, rfl, ⟨ka.1, ka.2⟩, ⟨kb.1, kb.2⟩, ?_⟩
    unfold maxLen at wc wd
    simp only
    omega
/-- The script. -/
theorem open_ops {W : World} {fuel : Nat} {cs : List Value} {x : DataW H × List MemPlace} (h : DataW.trod enc Tryz.prog W 0 (fun _ => true) true fuel 22 cs = some x) :
    ∃ (a : Option Addr) (cap : Nat) (ops : List OpX), cs = [.slice a ops.length cap] ∧ RowR W a ops.length cap 4 (ops.flatMap opC) ∧ (∀ o ∈ ops, OpOk o) ∧
      ((ops = [] ∧ x.1 = .nil) ∨ ∃ elems spare, x.1 = .slice elems spare ∧ elems.length = ops.length) := by
  rcases open_slice Tryz.underlying22 h with ⟨rfl, rfl⟩ | ⟨a, len, cap, m, n, D, Pl, rfl, _, hl, hm, hmm, rfl, hx⟩
  · exact ⟨none, 0, [], rfl, ⟨by simp, by simp, fun h => absurd h (by simp)⟩, by simp, .inl ⟨rfl, rfl⟩⟩
  · simp only [if_true] at hmm
    have each : ∀ i, i < len → ∃ o : OpX, OpOk o ∧ ∀ j, j < 4 → W.cell? (a.add (i * 4 + j)) = (opC o)[j]? := fun i hi => by
      obtain ⟨cs', h1, h2⟩ := hx i (by omega)
      rw [cells_op] at h1
      obtain ⟨_, _, hcell⟩ := World.cells?_some h1
      obtain ⟨o, rfl, hok⟩ := open_op h2
      exact ⟨o, hok, fun j hj => by have := hcell j hj; rw [add_add] at this; exact this⟩
    have hin : Inhabited OpX := ⟨⟨0, 0, ByteArray.empty, ByteArray.empty⟩⟩
    obtain ⟨q, hq⟩ := choose_lt each
    have hlen : ((List.range len).map q).length = len := by simp
    refine ⟨some a, cap, (List.range len).map q, by rw [hlen], ?_, fun o ho => ?_, .inr ⟨_, _, rfl, by simp⟩⟩
    · rw [hlen]
      refine ⟨by rw [flat_len opC 4 opC_len, hlen], hl, fun h0 => ?_⟩
      have hc0 := (hq 0 h0).2 0 (by omega)
      simp only [Nat.zero_mul, Nat.add_zero] at hc0
      have hc0' : W.cell? (a.add 0) = some (.int .i64 (q 0).k) := hc0
      have hsp := World.cell?_spot hc0'
      have hbl := World.block_lt_of_cell? W _ hc0'
      obtain ⟨g, o, spot⟩ := a
      have hspot : spot = none := by simpa [Addr.add] using hsp
      subst hspot
      refine ⟨g, o, rfl, by simpa [Addr.add] using hbl, fun i hi => ?_⟩
      have hd : i / 4 < len := by omega
      have e1 : i = i / 4 * 4 + i % 4 := by omega
      have hc := (hq (i / 4) hd).2 (i % 4) (by omega)
      have hfl := flat_at opC 4 opC_len ((List.range len).map q) (i / 4) (i % 4) (by rw [hlen]; exact hd) (by omega)
      rw [← e1] at hc hfl
      rw [hfl]
      have e2 : ((List.range len).map q)[i / 4]'(by rw [hlen]; exact hd) = q (i / 4) := by simp
      rw [e2, ← hc, add_plain]
    · obtain ⟨i, hi, rfl⟩ := List.mem_map.1 ho
      exact (hq i (List.mem_range.1 hi)).1
end

end Hst
end Go.Proofs.YtecocheolbkneabGreatDoor
namespace Go.Proofs.YtecocheolbkneabGreatDoor
open Go.RowKit
namespace Hst
set_option maxRecDepth 100000

theorem SiteSame.slok {sx : SiteX} {sd : SiteD} (h : SiteSame sx sd) : SlOk sd :=
  ⟨h.dok, h.l40, fun p hp => by rw [← h.st.all.len]; exact h.tr.of p hp, fun p hp => by have := (h.path p hp).2; omega⟩

set_option maxHeartbeats 4000000 in
theorem done12 (x d : Nat) (on : Int) (S T : ByteArray) (w : World) (h : TwinAt w x d) :
    Calls Tryz.prog 8 #[twV x d, opV 12 on S T] w fun e w' => e = .returned (.bool true) ∧ TMv x d w w' ∧ TwinAt w' x d := by
  obtain ⟨hx, hd, hxd⟩ := h.lt
  obtain ⟨sx, sd, h1, h2, h3⟩ := h
  have hba := opW_below w x d 12 on S T
  have HA := hid' (slim_any' x sx _ (h1.below hba) h3.sok h3.pathx)
  have HD := hid' (fun w h => slimD_any d sd w h h3.slok)
  have HG := hid' (slim_same h3)
  have H2 := hid' (h2.below hba)
  have HT := hid' (h1.below hba).tag
  have HTD := hid' (h2.below hba).tag
  have HM := hid' (SMv.of_below (b := x) hba)
  have HC := hid' (opW_1 w x d 12 on S T)
  generalize slimR sd = ar at *
  clear h1 h2 h3 hba
  go_enter Tryz.func8, Tryz.ntmps8
  go_wp2_with fail
  refine HA.out.mono ?_
  rintro e w1 ⟨rfl, hm1, hs1⟩
  have hss := HG.out.2
  rw [← HG.out.1]
  obtain ⟨q1, q2, q3⟩ := HC.out
  have c1 := (hm1.but.cell (g := w.heap.size) (o := 1) (by omega) (by omega)).trans q1
  have hsz : w.heap.size + 2 ≤ w1.heap.size := by have := hm1.but.size; omega
  have hsa : w.heap.size < w1.heap.size := by omega
  have hsb : w.heap.size + 1 < w1.heap.size := by omega
  have HDA := hid' (H2.out.keep hm1.but (by omega) HT.out (by decide) (by decide) (by decide))
  have HM1 := hid' (HM.out.trans hm1)
  have HS1 := hid' hs1
  have HSS := hid' hss
  have HTD1 : Hid (tagOf w1 d = some 72) := HDA.out.tag
  clear hm1 hs1 hss q1 q2 q3
  go_wp2_with fail
  refine (HD.out _ HDA.out).mono ?_
  rintro e w2 ⟨rfl, hm2, hd2⟩
  have HR : Hid (TMv x d w w2 ∧ TwinAt w2 x d) := ⟨⟨w1, HM1.out, hm2⟩, _, ar.1, HS1.out.other hm2.but hxd (.inr HTD1.out), hd2, HSS.out⟩
  clear hm2 hd2
  go_wp2
  go_ret
  exact ⟨by simp, HR.out⟩
theorem done_all (x d : Nat) (k on : Int) (S T : ByteArray) (w : World) (h : TwinAt w x d) (ho : OpOk ⟨k, on, S, T⟩) (h5 : 5 ≤ k) (h12 : k ≤ 12) :
    Calls Tryz.prog 8 #[twV x d, opV k on S T] w fun e w' => e = .returned (.bool true) ∧ TMv x d w w' ∧ TwinAt w' x d := by
  by_cases h9 : k ≤ 9
  · exact done_any x d k on S T w h ho.2.2.1 h5 h9
  · have hk : k = 10 ∨ k = 11 ∨ k = 12 := by omega
    rcases hk with rfl | rfl | rfl
    · exact done10 x d on S T w h ho.2.2.2
    · exact done11 x d on S T w h
    · exact done12 x d on S T w h

end Hst
end Go.Proofs.YtecocheolbkneabGreatDoor
namespace Go.Proofs.YtecocheolbkneabGreatDoor
open Go.RowKit
namespace Hst
set_option maxRecDepth 100000

/-- Fits of the document: its answer and its error. -/
def fitsRef (r v : Tx) : Bool × Int := if isRangeR r = false then (false, 1) else if (versionR v).2 = false then (false, 2) else (fitR r (versionR v).1, 0)
theorem fitsRef1 {r v : Tx} (h : isRangeR r = false) : fitsRef r v = (false, 1) := by simp [fitsRef, h]
theorem fitsRef2 {r v : Tx} (h : isRangeR r = true) (h' : (versionR v).2 = false) : fitsRef r v = (false, 2) := by simp [fitsRef, h, h']
theorem fitsRef3 {r v : Tx} (h : isRangeR r = true) (h' : (versionR v).2 = true) : fitsRef r v = (fitR r (versionR v).1, 0) := by simp [fitsRef, h, h']

set_option maxHeartbeats 1000000 in
theorem rfitsf_any (r v : ByteArray) (w : World) :
    Calls Tryz.prog 37 #[.string r, .string v] w fun e w' => e = .returned (.tuple #[.bool (fitsRef (tx r) (tx v)).1, .int .i64 (fitsRef (tx r) (tx v)).2]) ∧ Below w.heap.size w w' := by
  have HR := hid (fun w => isRange_any r w)
  have HV := hid (fun w => version_any v w)
  rcases hr : isRangeR (tx r) with _ | _
  · rw [fitsRef1 hr]
    rw [hr] at HR
    clear hr
    go_enter Tryz.func37, Tryz.ntmps37
    go_wp2_with fail
    refine (HR.out _).mono ?_
    rintro e w1 ⟨rfl, hb1⟩
    go_wp2
    go_ret2
    exact ⟨rfl, hb1⟩
  · have h60 : r.size ≤ 60 := by
      by_cases h : r.size ≤ 60
      · exact h
      · rw [isRangeR_long r h] at hr; simp at hr
    rw [hr] at HR
    rcases hv : versionR (tx v) with ⟨⟨x, y, z⟩, ok⟩
    rw [hv] at HV
    cases ok
    · rw [fitsRef2 hr (by rw [hv])]
      clear hr hv
      go_enter Tryz.func37, Tryz.ntmps37
      go_wp2_with fail
      refine (HR.out _).mono ?_
      rintro e w1 ⟨rfl, hb1⟩
      go_wp2_with fail
      refine (HV.out _).mono ?_
      rintro e w2 ⟨rfl, hb2⟩
      have HB := hid (hb1.trans (hb2.mono hb1.size))
      have hz := HB.out.size
      clear hb1 hb2
      go_wp2
      go_ret2
      exact ⟨rfl, HB.out.alloc hz _⟩
    · rw [fitsRef3 hr (by rw [hv]), hv]
      clear hr hv
      go_enter Tryz.func37, Tryz.ntmps37
      go_wp2_with fail
      refine (HR.out _).mono ?_
      rintro e w1 ⟨rfl, hb1⟩
      go_wp2_with fail
      refine (HV.out _).mono ?_
      rintro e w2 ⟨rfl, hb2⟩
      have HB := hid (hb1.trans (hb2.mono hb1.size))
      have hz := HB.out.size
      clear hb1 hb2
      go_wp2_with fail
      refine (fit_any r x y z _ h60).mono ?_
      rintro e w3 ⟨rfl, hb3⟩
      have HB3 := hid ((HB.out.alloc hz _).trans (hb3.mono (by simp; omega)))
      clear hb3
      go_wp2
      go_ret2
      exact ⟨rfl, HB3.out⟩

end Hst
end Go.Proofs.YtecocheolbkneabGreatDoor
namespace Go.Proofs.YtecocheolbkneabGreatDoor
open Go.RowKit
namespace Hst
set_option maxRecDepth 100000

theorem fits_law (r v : Tx) : fitsRef r v = fitsProg r v := by
  rcases rangeP_law r with ⟨h1, h2⟩ | ⟨sp, h1, h2, h3⟩
  · rw [fitsRef1 h2, fitsProg1 h1]
  · rcases hv : (versionR v).2 with _ | _
    · rw [fitsRef2 h2 hv, fitsProg2 h1 (versionP_no hv)]
    · rw [fitsRef3 h2 hv, fitsProg3 h1 (versionP_of hv), h3 _ (versionR_valid v hv)]

set_option maxHeartbeats 1000000 in
theorem fitting_any (r v : ByteArray) (w : World) :
    Calls Tryz.prog 14 #[.string r, .string v] w fun e w' => e = .returned (.bool true) ∧ Below w.heap.size w w' := by
  have HP := hid (fun w => pfits_any r v w)
  have HR := hid (fun w => rfitsf_any r v w)
  rw [fits_law] at HR
  generalize (fitsProg (tx r) (tx v)).1 = a at *
  generalize (fitsProg (tx r) (tx v)).2 = n at *
  go_enter Tryz.func14, Tryz.ntmps14
  go_wp2_with fail
  refine (HP.out _).mono ?_
  rintro e w1 ⟨rfl, hb1⟩
  go_wp2_with fail
  refine (HR.out _).mono ?_
  rintro e w2 ⟨rfl, hb2⟩
  have HB := hid (hb1.trans (hb2.mono hb1.size))
  clear hb1 hb2
  go_wp2_with (go_at_call 13; refine (num_any _ _).mono ?_; rintro e w' ⟨rfl, rfl⟩)
  go_ret
  exact ⟨rfl, HB.out⟩

end Hst
end Go.Proofs.YtecocheolbkneabGreatDoor
namespace Go.Proofs.YtecocheolbkneabGreatDoor
namespace Hst

def afterR (v : V3) : V3 × Bool := if v.c < 99 then (⟨v.a, v.b, v.c + 1⟩, true) else if v.b < 99 then (⟨v.a, v.b + 1, 0⟩, true) else if v.a < 99 then (⟨v.a + 1, 0, 0⟩, true) else (v, false)
def ptsC (c : Tx) : List V3 := if (versionR (signedR c).2).2 = true then
    (versionR (signedR c).2).1 :: (if (afterR (versionR (signedR c).2).1).2 = true then [(afterR (versionR (signedR c).2).1).1] else [])
  else []
def ptsA (a : Tx) : List V3 := (splitL 38 a).flatMap ptsC
def pointsR (l : Tx) : List V3 := [⟨0, 0, 0⟩] ++ (splitL 124 l).flatMap ptsA
def meetP (sp sq : List (Int × Int)) : Bool := sp.any fun s => sq.any fun t => !decide (mn s.2 t.2 < mx s.1 t.1)
def meetR (one other : Tx) : Bool := (pointsR one ++ pointsR other).any fun p => fitR one p && fitR other p

end Hst
end Go.Proofs.YtecocheolbkneabGreatDoor
namespace Go.Proofs.YtecocheolbkneabGreatDoor
open Go.RowKit
namespace Hst
set_option maxRecDepth 100000

theorem anyS_yes {f : Int × Int → Bool} (d : List (Int × Int)) (k : Nat) (hk : k < d.length) (h : f d[k] = true) : (d.drop k).any f = true := by
  rw [List.drop_eq_getElem_cons hk, List.any_cons, h, Bool.true_or]
theorem anyS_no {f : Int × Int → Bool} (d : List (Int × Int)) (k : Nat) (hk : k < d.length) (h : f d[k] = false) : (d.drop k).any f = (d.drop (k + 1)).any f := by
  rw [List.drop_eq_getElem_cons hk, List.any_cons, h, Bool.false_or]
theorem anyS_end {f : Int × Int → Bool} (d : List (Int × Int)) (k : Nat) (hk : ¬ k < d.length) : (d.drop k).any f = false := by
  rw [List.drop_of_length_le (by omega)]; rfl
/-- Whether one span meets some of the others. -/
def meetS (sq : List (Int × Int)) (s : Int × Int) : Bool := sq.any fun t => !decide (mn s.2 t.2 < mx s.1 t.1)

set_option maxHeartbeats 2000000 in
theorem rmeet_any (v u : Value) (sp sq : List (Int × Int)) (base base' : Nat) (w : World) (hrow : SpanRow w base v sp) (hne : sp ≠ []) (hl : sp.length ≤ 1000) (hrow' : SpanRow w base' u sq) (hne' : sq ≠ []) (hl' : sq.length ≤ 1000) :
    Calls Tryz.prog 82 #[.agg #[v], .agg #[u]] w fun e w' => e = .returned (.bool (meetP sp sq)) ∧ Below w.heap.size w w' := by
  obtain ⟨g, cap, rfl, hg1, hg2, hcell⟩ := hrow.form hne
  obtain ⟨h, cap', rfl, hh1, hh2, hcell'⟩ := hrow'.form hne'
  have HC := hid hcell
  have HC' := hid hcell'
  clear hcell hrow hcell' hrow'
  have HP : Hid (meetP sp sq = sp.any (meetS sq)) := rfl
  go_enter Tryz.func82, Tryz.ntmps82
  go_wp2
  go_loopw [13] (fun i wr => ∃ (k : Nat), k ≤ sp.length ∧ i = .int .i64 k ∧ Below w.heap.size w wr ∧ w.heap.size + 2 ≤ wr.heap.size ∧ wr.cell? ⟨w.heap.size + 1, 0, none⟩ = some (.slice (some ⟨h, 0, none⟩) sq.length cap') ∧ Hid (meetP sp sq = (sp.drop k).any (meetS sq))) (fun i _ => sp.length - (intOf i).toNat)
  case atStart => exact ⟨0, by omega, rfl, ((Below.refl _ _).alloc (Nat.le_refl _) _).alloc (by simp) _, by simp, by simp, HP⟩
  case round =>
    obtain ⟨k, hk, rfl, hbel, hwz, hbox, hall⟩ := hrel
    clear HP
    have hz := hbel.size
    by_cases hlt : k < sp.length
    · obtain ⟨c0, c1⟩ := HC.out k hlt
      have hc0 := (hbel.cell (p := ⟨g, k * 2, none⟩) hg2).trans c0
      have hc1 := (hbel.cell (p := ⟨g, k * 2 + 1, none⟩) hg2).trans c1
      clear c0 c1
      have HY := hid (anyS_yes (f := meetS sq) sp k hlt)
      have HN := hid (anyS_no (f := meetS sq) sp k hlt)
      have HM : Hid (meetS sq sp[k] = sq.any fun t => !decide (mn sp[k].2 t.2 < mx sp[k].1 t.1)) := rfl
      generalize meetS sq sp[k] = ms at *
      generalize sp[k].1 = x at *
      generalize sp[k].2 = y at *
      have hwr : w.heap.size + 1 < wr.heap.size := by omega
      obtain ⟨wo, rfl⟩ : ∃ wo, wo = wr := ⟨_, rfl⟩
      go_wp2
      go_loopw [20] (fun i wq => ∃ (j : Nat), j ≤ sq.length ∧ i = .int .i64 j ∧ Below (wo.heap.size + 1) (wo.alloc (.cells #[.int .i64 x, .int .i64 y] 175)) wq ∧ Hid (ms = (sq.drop j).any fun t => !decide (mn y t.2 < mx x t.1))) (fun i _ => sq.length - (intOf i).toNat)
      case atStart => exact ⟨0, by omega, rfl, Below.refl _ _, HM⟩
      case round =>
        obtain ⟨j, hj, rfl, hbel2, hall2⟩ := hrel
        have hz2 := hbel2.size
        simp at hz2
        have HB := hid ((hbel.alloc hz _).trans (hbel2.mono (by omega)))
        have hbw := HB.out
        have hbox2 := (hbel2.cell (p := ⟨w.heap.size + 1, 0, none⟩) (by show w.heap.size + 1 < _; omega)).trans ((World.cell?_alloc_past _ _ _ hwr).trans hbox)
        have hx := hbel2.cell (p := ⟨wo.heap.size, 0, none⟩) (by show wo.heap.size < _; omega)
        have hy := hbel2.cell (p := ⟨wo.heap.size, 1, none⟩) (by show wo.heap.size < _; omega)
        simp at hx hy
        by_cases hjl : j < sq.length
        · obtain ⟨c0, c1⟩ := HC'.out j hjl
          have hd0 := (hbw.cell (p := ⟨h, j * 2, none⟩) hh2).trans c0
          have hd1 := (hbw.cell (p := ⟨h, j * 2 + 1, none⟩) hh2).trans c1
          have HY2 := hid (anyS_yes (f := fun t => !decide (mn y t.2 < mx x t.1)) sq j hjl)
          have HN2 := hid (anyS_no (f := fun t => !decide (mn y t.2 < mx x t.1)) sq j hjl)
          generalize sq[j].1 = p at *
          generalize sq[j].2 = q at *
          have hox : wo.heap.size < wr.heap.size := by omega
          clear c0 c1 hbox
          go_wp2_with fail
          refine (overlap_any _ _ _ _ _).mono ?_
          rintro e w3 ⟨rfl, hb3⟩
          have hz3 := hb3.size
          simp at hz3
          have HBi := hid ((hbel2.alloc (by omega) _).trans (hb3.mono (by simp; omega)))
          have HBx := hid ((hbw.alloc (by omega) _).trans (hb3.mono (by simp; omega)))
          clear hb3
          generalize hmx : mx x p = lo at *
          generalize hmn : mn y q = hi at *
          clear hmx hmn
          go_wp2_with fail
          refine (isEmpty_any _ _ _).mono ?_
          rintro e w4 ⟨rfl, hb4⟩
          have HBi4 := hid ((HBi.out.alloc (by omega) _).trans (hb4.mono (by simp; omega)))
          have HBx4 := hid ((HBx.out.alloc (by omega) _).trans (hb4.mono (by simp; omega)))
          clear hb4
          by_cases hem : hi < lo
          · have HF : Hid (ms = (sq.drop (j + 1)).any fun t => !decide (mn y t.2 < mx x t.1)) := by unfold Hid; rw [hall2.out, HN2.out (by simp [hem])]
            have hd : decide (hi < lo) = true := by simp [hem]
            go_wp2
            go_roundw
            case rel => exact ⟨j + 1, by omega, by go_num, HBi4.out, HF⟩
            case measure => simp [intOf]; omega
          · have HF : Hid (meetP sp sq = true) := by unfold Hid; rw [hall.out, HY.out (by rw [hall2.out, HY2.out (by simp [hem])])]
            have hd : decide (hi < lo) = false := by simp [hem]
            go_wp2
            go_ret
            exact ⟨ret_bool (by rw [HF.out]), HBx4.out⟩
        · have HF : Hid (meetP sp sq = (sp.drop (k + 1)).any (meetS sq)) := by unfold Hid; rw [hall.out, HN.out (by rw [hall2.out, anyS_end sq j hjl])]
          have hwz2 : w.heap.size + 2 ≤ wr.heap.size := by omega
          clear hx hy hbox hall
          go_wp2
          go_roundw
          case rel => exact ⟨k + 1, by omega, by go_num, HB.out, hwz2, hbox2, HF⟩
          case measure => simp [intOf]; omega
    · have HF : Hid (meetP sp sq = false) := by unfold Hid; rw [hall.out, anyS_end sp k hlt]
      go_wp2
      go_ret
      exact ⟨ret_bool (by rw [HF.out]), hbel⟩

/-- Meet of the program: its answer and its error. -/
def meetProg (r s : Tx) : Bool × Int := match rangeP r with
  | none => (false, 1)
  | some sp => match rangeP s with
    | none => (false, 1)
    | some sq => (meetP sp sq, 0)
theorem meetProg1 {r s : Tx} (h : rangeP r = none) : meetProg r s = (false, 1) := by simp [meetProg, h]
theorem meetProg2 {r s : Tx} {sp : List (Int × Int)} (h : rangeP r = some sp) (h' : rangeP s = none) : meetProg r s = (false, 1) := by simp [meetProg, h, h']
theorem meetProg3 {r s : Tx} {sp sq : List (Int × Int)} (h : rangeP r = some sp) (h' : rangeP s = some sq) : meetProg r s = (meetP sp sq, 0) := by simp [meetProg, h, h']

set_option maxHeartbeats 1000000 in
theorem pmeet_any (r s : ByteArray) (w : World) :
    Calls Tryz.prog 38 #[.string r, .string s] w fun e w' => e = .returned (.tuple #[.bool (meetProg (tx r) (tx s)).1, .int .i64 (meetProg (tx r) (tx s)).2]) ∧ Below w.heap.size w w' := by
  have HR := hid (fun w => rparse_any r w)
  have HV := hid (fun w => rparse_any s w)
  rcases hr : rangeP (tx r) with _ | sp
  · rw [meetProg1 hr]
    rw [hr] at HR
    clear hr
    go_enter Tryz.func38, Tryz.ntmps38
    go_wp2_with fail
    refine (HR.out _).mono ?_
    rintro e w1 ⟨xa, xn, xc, rfl, hb1, hsp⟩
    simp only [rok, Option.isSome_none]
    have hz1 := hb1.size
    clear hsp
    go_wp2
    go_ret2
    exact ⟨rfl, hb1.alloc hz1 _⟩
  · have hlen := rangeP_len hr
    have hne : sp ≠ [] := List.length_pos_iff.1 hlen.1
    rw [hr] at HR
    rcases hv : rangeP (tx s) with _ | sq
    · rw [meetProg2 hr hv]
      rw [hv] at HV
      clear hr hv
      go_enter Tryz.func38, Tryz.ntmps38
      go_wp2_with fail
      refine (HR.out _).mono ?_
      rintro e w1 ⟨xa, xn, xc, rfl, hb1, hsp⟩
      simp only [rok, Option.isSome_some]
      have hz1 := hb1.size
      clear hsp
      go_wp2_with fail
      refine (HV.out _).mono ?_
      rintro e w2 ⟨ya, yn, yc, rfl, hb2, hsq⟩
      simp only [rok, Option.isSome_none]
      have hz2 := hb2.size
      simp at hz2
      clear hsq
      have HB := hid ((hb1.alloc hz1 _).trans (hb2.mono (by simp; omega)))
      clear hb1 hb2
      go_wp2
      go_ret2
      exact ⟨rfl, HB.out.alloc (by omega) _⟩
    · have hlen' := rangeP_len hv
      have hne' : sq ≠ [] := List.length_pos_iff.1 hlen'.1
      rw [meetProg3 hr hv]
      rw [hv] at HV
      clear hr hv
      go_enter Tryz.func38, Tryz.ntmps38
      go_wp2_with fail
      refine (HR.out _).mono ?_
      rintro e w1 ⟨xa, xn, xc, rfl, hb1, hsp⟩
      simp only [rok, Option.isSome_some]
      have hz1 := hb1.size
      have HSP := hid (hsp sp rfl)
      clear hsp
      go_wp2_with fail
      refine (HV.out _).mono ?_
      rintro e w2 ⟨ya, yn, yc, rfl, hb2, hsq⟩
      simp only [rok, Option.isSome_some]
      have HSQ := hid (hsq sq rfl)
      clear hsq
      have HSP2 := hid (SpanRow.below (SpanRow.below HSP.out ((Below.refl _ _).alloc (Nat.le_refl _) _)) hb2)
      have HB := hid ((hb1.alloc hz1 _).trans (hb2.mono (by simp; omega)) : Below w.heap.size w w2)
      obtain ⟨hcc, hff⟩ := bcell hb2
      have hz2 := hb2.size
      simp at hcc hz2
      have hb0 := hcc w1.heap.size 0 (by omega)
      simp at hb0
      have h12 : w1.heap.size < w2.heap.size := by omega
      clear hb2 hff hcc
      go_wp2_with fail
      refine (rmeet_any _ _ sp sq _ _ _ (SpanRow.below HSP2.out ((Below.refl _ _).alloc (Nat.le_refl _) _)) hne (by omega) (SpanRow.below HSQ.out ((Below.refl _ _).alloc (Nat.le_refl _) _)) hne' (by omega)).mono ?_
      rintro e w3 ⟨rfl, hb3⟩
      have HB3 := hid ((HB.out.alloc (by omega) _).trans (hb3.mono (by simp; omega)))
      clear hb3
      go_wp2
      go_ret2
      exact ⟨rfl, HB3.out⟩

end Hst
end Go.Proofs.YtecocheolbkneabGreatDoor
namespace Go.Proofs.YtecocheolbkneabGreatDoor
open Go.RowKit
namespace Hst
set_option maxRecDepth 100000

set_option maxHeartbeats 1000000 in
theorem after_any (a b c : Int) (w : World) (ha0 : 0 ≤ a) (ha1 : a ≤ 99) (hb0 : 0 ≤ b) (hb1 : b ≤ 99) (hc0 : 0 ≤ c) (hc1 : c ≤ 99) :
    Calls Tryz.prog 119 #[verV a b c] w fun e w' => e = .returned (.tuple #[verV (afterR ⟨a, b, c⟩).1.a (afterR ⟨a, b, c⟩).1.b (afterR ⟨a, b, c⟩).1.c, .bool (afterR ⟨a, b, c⟩).2]) ∧ Below w.heap.size w w' := by
  by_cases h1 : c < 99
  · have e : afterR ⟨a, b, c⟩ = (⟨a, b, c + 1⟩, true) := by simp [afterR, h1]
    rw [e]
    go_enter Tryz.func119, Tryz.ntmps119
    go_wp2
    exact bodyPost_ret (v := .tuple #[verV a b (c + 1), .bool true]) (by simp [results, Tryz.results119, go_sem]) rfl ⟨rfl, ((Below.refl _ _).alloc (Nat.le_refl _) _).alloc (by simp) _⟩
  · by_cases h2 : b < 99
    · have e : afterR ⟨a, b, c⟩ = (⟨a, b + 1, 0⟩, true) := by simp [afterR, h1, h2]
      rw [e]
      go_enter Tryz.func119, Tryz.ntmps119
      go_wp2
      exact bodyPost_ret (v := .tuple #[verV a (b + 1) 0, .bool true]) (by simp [results, Tryz.results119, go_sem]) rfl ⟨rfl, ((Below.refl _ _).alloc (Nat.le_refl _) _).alloc (by simp) _⟩
    · by_cases h3 : a < 99
      · have e : afterR ⟨a, b, c⟩ = (⟨a + 1, 0, 0⟩, true) := by simp [afterR, h1, h2, h3]
        rw [e]
        go_enter Tryz.func119, Tryz.ntmps119
        go_wp2
        exact bodyPost_ret (v := .tuple #[verV (a + 1) 0 0, .bool true]) (by simp [results, Tryz.results119, go_sem]) rfl ⟨rfl, ((Below.refl _ _).alloc (Nat.le_refl _) _).alloc (by simp) _⟩
      · have e : afterR ⟨a, b, c⟩ = (⟨a, b, c⟩, false) := by simp [afterR, h1, h2, h3]
        rw [e]
        go_enter Tryz.func119, Tryz.ntmps119
        go_wp2
        exact bodyPost_ret (v := .tuple #[verV a b c, .bool false]) (by simp [results, Tryz.results119, go_sem]) rfl ⟨rfl, ((Below.refl _ _).alloc (Nat.le_refl _) _).alloc (by simp) _⟩

end Hst
end Go.Proofs.YtecocheolbkneabGreatDoor
