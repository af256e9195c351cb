/- Signs, Signsrow -/
import Derived.Test.YtecocheolbkneaaDoorW01
import Derived.Test.YtecocheolbkneaaDoorW04
import Derived.Deep.DeepCutAuto
import Derived.Test.YtecocheolbkneaaDoorTie
import Derived.Test.YtecocheolbkneaaDoorCards
import Derived.ProofKit
import Derived.LaidMore
import Derived.OpenShut
import Derived.ShutString
import Derived.Stop.Joined
import Derived.SevenTiedAt
namespace Go.Proofs.YtecocheolbkneaaDoor
open Go.RowKit
namespace Hst
set_option maxRecDepth 100000

def tildeB (p q : Int) : Bool := decide (p ≤ q) && (q / 100 == p / 100)
def caretB (p q : Int) : Bool := if 10000 ≤ p then decide (p ≤ q) && (q / 100 / 100 == p / 100 / 100) else if 100 ≤ p then tildeB p q else q == p

/-- The signs, and what each should say. -/
def sgK (k : Nat) : Tx := ([[61], [62], [62, 61], [60], [60, 61], [126], [94]] : List Tx).getD k []
def wtK (p q : Int) (k : Nat) : Bool := [q == p, decide (p < q), decide (p ≤ q), decide (q < p), decide (q ≤ p), tildeB p q, caretB p q].getD k false
theorem sgK_len : ∀ k, k < 7 → (sgK k).length ≤ 2 := by decide

theorem sign_law {a b c : Nat} (ha : a < 100) (hb : b < 100) (hc : c < 100) {p q : Int} (hp : p = ((a : Int) * 100 + b) * 100 + c) (hp0 : 0 ≤ p) (hp1 : p ≤ 999999) (hq0 : 0 ≤ q) (hq1 : q ≤ 999999) {v : Tx} (hv : versionP v = some q) (k : Nat) (hk : k < 7) :
    fitsProg (sgK k ++ verT a b c) v = (wtK p q k, 0) := by
  have key : ∀ (sg : Tx) (s : Int × Int) (r : Bool), IsSign sg → spanOfP sg p = some s → 0 ≤ s.1 → s.2 ≤ 999999 → inSpan s q = r → fitsProg (sg ++ verT a b c) v = (r, 0) := by
    intro sg s r h1 h2 h3 h4 h5
    rw [fits_signed h1 ha hb hc (by rw [← hp]; exact h2) h3 h4 hv, h5]
  match k, hk with
  | 0, _ => exact key [61] (p, p) _ (by simp [IsSign]) (by simp [spanOfP]) hp0 hp1 (by simp only [inSpan]; rw [Bool.eq_iff_iff]; simp [wtK]; omega)
  | 1, _ => exact key [62] (p + 1, 999999) _ (by simp [IsSign]) (by simp [spanOfP]) (by simp; omega) (by simp) (by simp only [inSpan]; rw [Bool.eq_iff_iff]; simp [wtK]; omega)
  | 2, _ => exact key [62, 61] (p, 999999) _ (by simp [IsSign]) (by simp [spanOfP]) hp0 (by simp) (by simp only [inSpan]; rw [Bool.eq_iff_iff]; simp [wtK]; omega)
  | 3, _ => exact key [60] (0, p - 1) _ (by simp [IsSign]) (by simp [spanOfP]) (by simp) (by simp; omega) (by simp only [inSpan]; rw [Bool.eq_iff_iff]; simp [wtK]; omega)
  | 4, _ => exact key [60, 61] (0, p) _ (by simp [IsSign]) (by simp [spanOfP]) (by simp) hp1 (by simp only [inSpan]; rw [Bool.eq_iff_iff]; simp [wtK]; omega)
  | 5, _ => exact key [126] (p, p - p % 100 + 100 - 1) _ (by simp [IsSign]) (by simp [spanOfP]) hp0 (by simp; omega) (by simp only [inSpan]; rw [Bool.eq_iff_iff]; simp [wtK, tildeB]; omega)
  | 6, _ =>
    refine key [94] (p, caretHi p) _ (by simp [IsSign]) (by simp [spanOfP]) hp0 (by simp only [caretHi]; split; · omega
                                                                                    split <;> omega) ?_
    by_cases g1 : 10000 ≤ p
    · have e : caretHi p = p - p % 10000 + 10000 - 1 := by unfold caretHi; rw [if_pos (by omega)]
      simp only [inSpan, e]
      rw [Bool.eq_iff_iff]
      simp [wtK, caretB, g1]; omega
    · by_cases g2 : 100 ≤ p
      · have e : caretHi p = p - p % 100 + 100 - 1 := by unfold caretHi; rw [if_neg (by omega), if_pos (by omega)]
        simp only [inSpan, e]
        rw [Bool.eq_iff_iff]
        simp [wtK, caretB, tildeB, g1, g2]; omega
      · have e : caretHi p = p := by unfold caretHi; rw [if_neg (by omega), if_neg (by omega)]
        simp only [inSpan, e]
        rw [Bool.eq_iff_iff]
        simp [wtK, caretB, g1, g2]; omega

theorem sign_cells (W : World) (t : TypeId) (o : Obj) (k : Nat) (hk : k < 7) : ((W.alloc (.cells #[.string ⟨#[61]⟩, .string ⟨#[62]⟩, .string ⟨#[62, 61]⟩, .string ⟨#[60]⟩, .string ⟨#[60, 61]⟩, .string ⟨#[126]⟩, .string ⟨#[94]⟩] t)).alloc o).cell? ⟨W.heap.size, k, none⟩ = some (.string (bs (sgK k))) := by
  rw [World.cell?_alloc_past _ _ _ (by simp)]
  match k, hk with
  | 0, _ => simp; rfl
  | 1, _ => simp; rfl
  | 2, _ => simp; rfl
  | 3, _ => simp; rfl
  | 4, _ => simp; rfl
  | 5, _ => simp; rfl
  | 6, _ => simp; rfl
theorem want_cells (W : World) (t : TypeId) (p q : Int) (o : Obj) (k : Nat) (hk : k < 7) : ((W.alloc o).alloc (.cells #[.bool (q == p), .bool (decide (p < q)), .bool (decide (p ≤ q)), .bool (decide (q < p)), .bool (decide (q ≤ p)), .bool (tildeB p q), .bool (caretB p q)] t)).cell? ⟨W.heap.size + 1, k, none⟩ = some (.bool (wtK p q k)) := by
  rw [World.cell?_alloc_at _ _ _ _ (by simp)]
  match k, hk with
  | 0, _ => rfl
  | 1, _ => rfl
  | 2, _ => rfl
  | 3, _ => rfl
  | 4, _ => rfl
  | 5, _ => rfl
  | 6, _ => rfl

set_option maxRecDepth 100000 in
set_option maxHeartbeats 4000000 in
theorem signs_any (a b c x y z : Int) (w : World) (ia : I64 a) (ib : I64 b) (ic : I64 c) (ix : I64 x) (iy : I64 y) (iz : I64 z) :
    Calls Tryd.prog 5 #[.int .i64 a, .int .i64 b, .int .i64 c, .int .i64 x, .int .i64 y, .int .i64 z] w fun e w' => e = .returned (.bool true) ∧ Below w.heap.size w w' := by
  have HV1 := hid' (fun w => kversion_any a b c w ia ib ic)
  have HV2 := hid' (fun w => kversion_any x y z w ix iy iz)
  have HP1 := hid' (fun w => kplace_any a b c w ia ib ic)
  have HP2 := hid' (fun w => kplace_any x y z w ix iy iz)
  have hp0 : 0 ≤ placeN a b c ∧ placeN a b c ≤ 999999 := by
    have h1 := pickN_lt a; have h2 := pickN_lt b; have h3 := pickN_lt c
    unfold placeN; omega
  have hq0 : 0 ≤ placeN x y z ∧ placeN x y z ≤ 999999 := by
    have h1 := pickN_lt x; have h2 := pickN_lt y; have h3 := pickN_lt z
    unfold placeN; omega
  obtain ⟨hp0, hp1⟩ := hp0
  obtain ⟨hq0, hq1⟩ := hq0
  have hv2 : versionP (verT (pickN x) (pickN y) (pickN z)) = some (placeN x y z) := versionP_verT (pickN_lt x) (pickN_lt y) (pickN_lt z)
  have hlaw := fun k hk => sign_law (pickN_lt a) (pickN_lt b) (pickN_lt c) (p := placeN a b c) rfl hp0 hp1 hq0 hq1 hv2 k hk
  have HF : Hid (∀ (k : Nat) (hk : k < 7) (w : World), Calls Tryd.prog 14 #[.string (bs (sgK k) ++ bs (verT (pickN a) (pickN b) (pickN c))), .string (bs (verT (pickN x) (pickN y) (pickN z)))] w fun e w' => e = .returned (.tuple #[.bool (wtK (placeN a b c) (placeN x y z) k), .int .i64 0]) ∧ Below w.heap.size w w') := by
    intro k hk w
    have h := pfits_any (bs (sgK k) ++ bs (verT (pickN a) (pickN b) (pickN c))) (bs (verT (pickN x) (pickN y) (pickN z))) w
    rw [bs_append, tx_bs, tx_bs, hlaw k hk, ← bs_append] at h
    exact h
  have HFS : Hid (∀ (w : World), Calls Tryd.prog 14 #[.string ⟨#[42]⟩, .string (bs (verT (pickN x) (pickN y) (pickN z)))] w fun e w' => e = .returned (.tuple #[.bool true, .int .i64 0]) ∧ Below w.heap.size w w') := by
    intro w
    have h := pfits_any (bs [42]) (bs (verT (pickN x) (pickN y) (pickN z))) w
    rw [tx_bs, tx_bs, fits_star hv2] at h
    exact h
  have hl1 : (bs (verT (pickN a) (pickN b) (pickN c))).size ≤ 8 := by rw [bs_size]; exact verT_len _ _ _
  clear hlaw hv2
  generalize placeN a b c = p at *
  generalize placeN x y z = q at *
  generalize bs (verT (pickN a) (pickN b) (pickN c)) = v1 at *
  generalize bs (verT (pickN x) (pickN y) (pickN z)) = v2 at *
  go_enter Tryd.func5, Tryd.ntmps5
  go_wp2_with fail
  refine (HV1.out _).mono ?_
  rintro e w' ⟨rfl, rfl⟩
  go_wp2_with fail
  refine (HV2.out _).mono ?_
  rintro e w' ⟨rfl, rfl⟩
  go_wp2_with fail
  refine (HP1.out _).mono ?_
  rintro e w' ⟨rfl, rfl⟩
  go_wp2_with fail
  refine (HP2.out _).mono ?_
  rintro e w' ⟨rfl, rfl⟩
  go_upto_region 6 with fail
  go_cut [18] (fun t wc => t = .bool (tildeB p q) ∧ Below w'.heap.size w' wc)
  case first =>
    by_cases h1 : p ≤ q
    · by_cases h2 : q / 100 = p / 100
      · have b2 : (q / 100 == p / 100) = true := by simp [h2]
        have HT : Hid (tildeB p q = true) := by unfold Hid tildeB; simp [h1, h2]
        clear h2
        go_region
        all_goals (go_wp2_with fail; go_meet; exact ⟨by rw [HT.out], (Below.refl _ _).drew⟩)
      · have b2 : (q / 100 == p / 100) = false := by simp [h2]
        have HT : Hid (tildeB p q = false) := by unfold Hid tildeB; simp [h2]
        clear h2
        go_region
        all_goals (go_wp2_with fail; go_meet; exact ⟨by rw [HT.out], (Below.refl _ _).drew⟩)
    · have HT : Hid (tildeB p q = false) := by unfold Hid tildeB; simp [h1]
      go_region
      all_goals (go_wp2_with fail; go_meet; exact ⟨by rw [HT.out], (Below.refl _ _).drew⟩)
  case rest =>
    obtain ⟨rfl, hb6⟩ := hcut
    go_upto_if 62 with fail
    go_cut [19] (fun t wc => t = .bool (caretB p q) ∧ Below w'.heap.size w' wc)
    case first =>
      by_cases g1 : 10000 ≤ p
      · by_cases h1 : p ≤ q
        · by_cases h2 : q / 100 / 100 = p / 100 / 100
          · have b2 : (q / 100 / 100 == p / 100 / 100) = true := by simp [h2]
            have HT : Hid (caretB p q = true) := by unfold Hid caretB; simp [g1, h1, h2]
            clear h2
            go_wp2
            go_region
            all_goals (go_wp2_with fail; go_meet; exact ⟨by rw [HT.out], hb6.drew⟩)
          · have b2 : (q / 100 / 100 == p / 100 / 100) = false := by simp [h2]
            have HT : Hid (caretB p q = false) := by unfold Hid caretB; simp [g1, h2]
            clear h2
            go_wp2
            go_region
            all_goals (go_wp2_with fail; go_meet; exact ⟨by rw [HT.out], hb6.drew⟩)
        · have HT : Hid (caretB p q = false) := by unfold Hid caretB; simp [g1, h1]
          have hd : decide (p ≤ q) = false := by simp [h1]
          go_wp2
          go_region
          all_goals (go_wp2_with fail; go_meet; exact ⟨by rw [HT.out], hb6.drew⟩)
      · by_cases g2 : 100 ≤ p
        · have HT : Hid (caretB p q = tildeB p q) := by unfold Hid caretB; simp [g1, g2]
          go_wp2
          go_meet
          exact ⟨by rw [HT.out], hb6⟩
        · have HT : Hid (caretB p q = (q == p)) := by unfold Hid caretB; simp [g1, g2]
          go_wp2
          go_meet
          exact ⟨by rw [HT.out], hb6⟩
    case rest =>
      obtain ⟨rfl, hb9⟩ := hcut
      have HSC := hid' (sign_cells wc 9)
      have HWC := hid' (want_cells wc 4 p q)
      have hz9 := hb9.size
      go_wp2
      go_loopw [22] (fun i wr => ∃ (k : Nat), k ≤ 7 ∧ i = .int .i64 k ∧ Below (wc.heap.size + 2) ((wc.alloc (.cells #[.string ⟨#[61]⟩, .string ⟨#[62]⟩, .string ⟨#[62, 61]⟩, .string ⟨#[60]⟩, .string ⟨#[60, 61]⟩, .string ⟨#[126]⟩, .string ⟨#[94]⟩] 9)).alloc (.cells #[.bool (q == p), .bool (decide (p < q)), .bool (decide (p ≤ q)), .bool (decide (q < p)), .bool (decide (q ≤ p)), .bool (tildeB p q), .bool (caretB p q)] 4)) wr) (fun i _ => 7 - (intOf i).toNat)
      case atStart => exact ⟨0, by omega, rfl, Below.refl _ _⟩
      case round =>
        obtain ⟨k, hk, rfl, hbel⟩ := hrel
        have hz := hbel.size
        simp at hz
        have HB := hid' (((hb9.alloc hz9 _).alloc (by simp; omega) _).trans (hbel.mono (by omega)))
        by_cases hlt : k < 7
        · have hc := (hbel.cell (p := ⟨wc.heap.size, k, none⟩) (by show wc.heap.size < _; omega)).trans (HSC.out _ k hlt)
          have hd := (hbel.cell (p := ⟨wc.heap.size + 1, k, none⟩) (by show wc.heap.size + 1 < _; omega)).trans (HWC.out _ k hlt)
          have HFK := hid' (HF.out k hlt)
          have hsz : (bs (sgK k)).size ≤ 2 := by rw [bs_size]; exact sgK_len k hlt
          generalize bs (sgK k) = s1 at *
          generalize wtK p q k = r1 at *
          have hw1 : wc.heap.size < wr.heap.size := by omega
          have hw2 : wc.heap.size + 1 < wr.heap.size := by omega
          clear HSC HWC HF
          go_wp2_with fail
          refine (HFK.out _).mono ?_
          rintro e w3 ⟨rfl, hb3⟩
          have hd3 := ((bcell hb3).1 (wc.heap.size + 1) k hw2).trans hd
          have HB3 := hid' (hbel.trans (hb3.mono (by omega)))
          clear hb3 hc hd
          go_wp2
          go_roundw
          case rel => exact ⟨k + 1, by omega, by go_num, HB3.out⟩
          case measure => simp [intOf]; omega
        · clear HSC HWC HF
          go_wp2_with fail
          refine (HFS.out _).mono ?_
          rintro e w3 ⟨rfl, hb3⟩
          have HB3 := hid' (HB.out.trans (hb3.mono HB.out.size))
          clear hb3
          go_wp2
          go_ret
          exact ⟨rfl, HB3.out⟩

end Hst
end Go.Proofs.YtecocheolbkneaaDoor
namespace Go.Proofs.YtecocheolbkneaaDoor
open Go.RowKit
namespace SignsRow
open Go.ChangeShapes Go.WideShapes Go.ChangeAt Go.RowKit
open Go.ChangeMaps (open_string shut_string)
set_option linter.unusedVariables false

theorem i64 {x : Int} (h : (Lit.int .i64 x).wf = true) : Hst.I64 x := by
  have := bounds_i64 h
  exact ⟨by omega, by omega⟩
theorem own : ownKnob Tryd.prog.godebug = none := by kernel_rfl
theorem door_met (os : Os) (args : Array Value) : laidMetH Tryd.prog Rows.signsRow.laid ((World.doorLaid Tryd.prog 4000 os).forCall (fun _ _ => 0) ⟨#[], args, []⟩).memory :=
  laidMetH_of_parts3 (fuel := 8) (laidMet_of_run' 8 (by kernel_rfl) (by kernel_rfl)) (by kernel_rfl) (by kernel_rfl)

set_option maxRecDepth 100000 in
theorem lifted (os : Os) (started : os.Started) (H : Type) (enc : TypeId × Value → H) :
    ReturnsInHanded {} Tryd.checked os 5 .any (fun w args => (Rows.signsSpec.pre enc Tryd.prog Tryd.f5 [] false w args ∧ laidMetH Tryd.prog Rows.signsRow.laid w) ∧ sizedMet enc Tryd.prog Tryd.f5 (OpenSpec.ofChange Rows.signsSpec) false w args)
      (Rows.signsSpec.post enc Tryd.prog Tryd.f5 false true false false) := by
  refine returnsInHanded_of_change_and (C := Tryd.checked) (X := fun w _ => laidMetH Tryd.prog Rows.signsRow.laid w) (fun _ _ _ hh h => h.of_heap hh) own started (by kernel_rfl) Tryd.func5
    (ChangeSpec.witness_shaped (enc := enc) (C := Tryd.checked) (os := os) (X := fun w _ => laidMetH Tryd.prog Rows.signsRow.laid w) false (World.doorLaid Tryd.prog 4000 os) #[.int .i64 0, .int .i64 0, .int .i64 0, .int .i64 0, .int .i64 0, .int .i64 0] 8 rfl (World.shaped_of_RefB (by kernel_rfl) (by kernel_rfl)) (by kernel_rfl) (by kernel_rfl) (by kernel_rfl) (door_met os _)) ?_
  intro W base args ds gs before hval0 hW _ _ hL _
  have hval : ∀ (j : Nat) t v, Tryd.f5.params[j]? = some t → args[j]? = some v → Value.okWide Tryd.prog W .any base t v := hval0
  have hW' := hW
  obtain ⟨p, q, hA0, hV, rfl, hfz, hnd⟩ := hW
  have hA : DataW.TrodAll enc Tryd.prog W 0 (fun _ => true) true Tryd.f5.params.toList args.toList ds p := hA0
  rw [Tryd.params5] at hA hval
  obtain ⟨v0, vs0, d0, ds0, p0, q0, hargs, rfl, rfl, h0, r0⟩ := trodAll_cons hA
  obtain ⟨v1, vs1, d1, ds1, p1, q1, rfl, rfl, rfl, h1, r1⟩ := trodAll_cons r0
  obtain ⟨v2, vs2, d2, ds2, p2, q2, rfl, rfl, rfl, h2, r2⟩ := trodAll_cons r1
  obtain ⟨v3, vs3, d3, ds3, p3, q3, rfl, rfl, rfl, h3, r3⟩ := trodAll_cons r2
  obtain ⟨v4, vs4, d4, ds4, p4, q4, rfl, rfl, rfl, h4, r4⟩ := trodAll_cons r3
  obtain ⟨v5, vs5, d5, ds5, p5, q5, rfl, rfl, rfl, h5, r5⟩ := trodAll_cons r4
  obtain ⟨rfl, rfl, rfl⟩ := trodAll_nil r5
  obtain rfl : args = #[v0, v1, v2, v3, v4, v5] := by cases args; simp_all
  obtain ⟨rfl, rfl⟩ := trodVars_none hV
  obtain ⟨a0, rfl, rfl, rfl, w0⟩ := open_int Tryd.underlying3 (hval 0 3 v0 rfl rfl) h0
  obtain ⟨a1, rfl, rfl, rfl, w1⟩ := open_int Tryd.underlying3 (hval 1 3 v1 rfl rfl) h1
  obtain ⟨a2, rfl, rfl, rfl, w2⟩ := open_int Tryd.underlying3 (hval 2 3 v2 rfl rfl) h2
  obtain ⟨a3, rfl, rfl, rfl, w3⟩ := open_int Tryd.underlying3 (hval 3 3 v3 rfl rfl) h3
  obtain ⟨a4, rfl, rfl, rfl, w4⟩ := open_int Tryd.underlying3 (hval 4 3 v4 rfl rfl) h4
  obtain ⟨a5, rfl, rfl, rfl, w5⟩ := open_int Tryd.underlying3 (hval 5 3 v5 rfl rfl) h5
  clear hA0 hval0
  refine (Hst.signs_any a0 a1 a2 a3 a4 a5 W (i64 w0) (i64 w1) (i64 w2) (i64 w3) (i64 w4) (i64 w5)).mono fun e W' ⟨he, bel⟩ => ?_
  subst he
  exact ⟨_, rfl, _, _, _, [], [], [], hW', trodAll_mk1 (shut_bool Tryd.underlying4 _), (trodAll_cons_mk (shut_int Tryd.underlying3 w0) (trodAll_cons_mk (shut_int Tryd.underlying3 w1) (trodAll_cons_mk (shut_int Tryd.underlying3 w2) (trodAll_cons_mk (shut_int Tryd.underlying3 w3) (trodAll_cons_mk (shut_int Tryd.underlying3 w4) (trodAll_cons_mk (shut_int Tryd.underlying3 w5) trodAll_mk0)))))), rfl, bel.frame _, fun h => by cases h⟩

theorem over : Rows.SignsSaid :=
  OpenClaim.holds_of_wide 5 Tryd.f5 rfl rfl rfl rfl rfl rfl rfl ⟨rfl, rfl, rfl, rfl, rfl⟩ rfl rfl rfl rfl rfl (by kernel_rfl) Tryd.func5 (by kernel_rfl)
    (of_decide_eq_true (by kernel_rfl)) (by unfold Func.isWrapper; first | (rw [if_pos (by decide +kernel)]; kernel_rfl) | (rw [if_neg (by decide +kernel)]; exact ⟨rfl, rfl⟩))
    (fun os started H enc _ => lifted os started H enc)
end SignsRow

theorem signs_card : Rows.SignsCardSaid :=
  Claim7.holds_tied_plain_at .later [] [.data, .data, .data] true (true, "bfc2785ac1dcaff8ecf88a087b1627aacc14db3af6142912dd4f3c852ffe190c") false
    SignsRow.over (fun _ h => by cases h) (by kernel_rfl) (fun _ h => by cases h) signs_row_tie rfl ⟨rfl, rfl⟩ (by kernel_rfl) rfl
    (fun f fn hf hfn => by
      obtain rfl : f = 5 := Option.some.inj ((show Tryd.prog.funcNamed "hoist/hoistkeep.Signs" = some 5 by kernel_rfl).symm.trans hf) |>.symm
      obtain rfl : fn = Tryd.f5 := (Option.some.inj (Tryd.func5.symm.trans hfn)).symm
      exact ⟨by kernel_rfl, fun j t ht => by
        rw [Tryd.params5] at ht
        have hm : t ∈ [3, 3, 3, 3, 3, 3] := by simpa using Array.mem_of_getElem? ht
        have hall : ([3].all fun u => !Tryd.prog.wantsStandIn u) = true := by kernel_rfl
        exact (show Tryd.prog.wantsStandIn t = false by simpa using List.all_eq_true.1 hall t (by simpa using hm))⟩)
    (by kernel_rfl)
#print axioms signs_card
end Go.Proofs.YtecocheolbkneaaDoor
