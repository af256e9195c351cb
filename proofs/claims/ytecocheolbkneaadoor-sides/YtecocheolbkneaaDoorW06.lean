/- Sidesrow -/
import Derived.Test.YtecocheolbkneaaDoorW05
import Derived.Test.YtecocheolbkneaaDoorTie
import Derived.Test.YtecocheolbkneaaDoorCards
import Derived.ProofKit
import Derived.LaidMore
import Derived.OpenShut
import Derived.ShutString
import Derived.Stop.Joined
import Derived.SevenTiedAt
namespace Go.Proofs.YtecocheolbkneaaDoor
open Go.RowKit
namespace Hst

theorem sides_any (r s : ByteArray) (x y z : Int) (w : World) (ix : I64 x) (iy : I64 y) (iz : I64 z) :
    Calls Tryd.prog 4 #[.string r, .string s, .int .i64 x, .int .i64 y, .int .i64 z] w fun e w' => e = .returned (.bool true) ∧ Below w.heap.size w w' := by
  have hver : VerAns x y z (bs (verT (pickN x) (pickN y) (pickN z))) := fun w => kversion_any x y z w ix iy iz
  have hv : versionP (tx (bs (verT (pickN x) (pickN y) (pickN z)))) = some (placeN x y z) := by
    rw [tx_bs]; exact versionP_verT (pickN_lt x) (pickN_lt y) (pickN_lt z)
  have hn : placeN x y z ≤ 999999 := by
    have h1 := pickN_lt x; have h2 := pickN_lt y; have h3 := pickN_lt z
    unfold placeN; omega
  generalize bs (verT (pickN x) (pickN y) (pickN z)) = v at *
  generalize placeN x y z = n at *
  rcases hr : rangeP (tx r) with _ | sp
  · rcases hs : rangeP (tx s) with _ | sq
    · exact sides_no r s v x y z w hver _ _ _ _ (fitsAns (fitsProg1 hr)) (fitsAns (fitsProg1 hs)) (.inl ⟨rfl, rfl, rfl, rfl⟩)
    · exact sides_no r s v x y z w hver _ _ _ _ (fitsAns (fitsProg1 hr)) (fitsAns (fitsProg3 hs hv)) (.inr (.inl ⟨rfl, rfl, rfl⟩))
  · rcases hs : rangeP (tx s) with _ | sq
    · exact sides_no r s v x y z w hver _ _ _ _ (fitsAns (fitsProg3 hr hv)) (fitsAns (fitsProg1 hs)) (.inr (.inr ⟨rfl, rfl, rfl⟩))
    · have l1 := rangeP_short hr
      have l2 := rangeP_short hs
      rw [tx_length] at l1 l2
      have hbar : tx (r ++ ⟨#[124]⟩ ++ s) = tx r ++ [124] ++ tx s := by
        have e : (r ++ ⟨#[124]⟩ ++ s) = bs (tx r ++ [124] ++ tx s) := by
          rw [← bs_append, ← bs_append, bs_tx, bs_tx]; rfl
        rw [e, tx_bs]
      have h3 : ∃ c g, FitsAns (r ++ ⟨#[124]⟩ ++ s) v c g ∧ ((r.size + s.size + 1 ≤ 60 ∧ g = 0 ∧ c = (fitsP sp n || fitsP sq n)) ∨ (60 < r.size + s.size + 1 ∧ g = 1 ∧ c = false)) := by
        by_cases hl : r.size + s.size + 1 ≤ 60
        · refine ⟨_, _, fitsAns ?_, .inl ⟨hl, rfl, rfl⟩⟩
          rw [hbar, fitsProg3 (rangeP_bar hr hs (by rw [tx_length, tx_length]; exact hl)) hv, fitsP_append]
        · refine ⟨_, _, fitsAns ?_, .inr ⟨by omega, rfl, rfl⟩⟩
          rw [hbar, fitsProg1 (rangeP_long (by have e1 := tx_length r; have e2 := tx_length s; simp; omega))]
      obtain ⟨c, g, h3, hlen⟩ := h3
      have hm1 := meetAns (meetProg3 hr hs)
      have hm2 := meetAns (meetProg3 hs hr)
      rw [meet_comm sq sp] at hm2
      rcases low_facts sp with ⟨hf, hnone⟩ | ⟨hf, hfit, hmin⟩
      · exact sides_none r s v x y z w hver _ _ c _ g (fitsAns (fitsProg3 hr hv)) (fitsAns (fitsProg3 hs hv)) h3 hm1 hm2 l1 l2 hlen (hnone n) _ (by rw [tx_toList, tx_bs]; rfl) (lowAns (lowProg2 hr hf))
      · have hb := low_bd hr hf
        have hq : versionP (tx (bs (placeT (lowGo 0 false sp).1))) = some (lowGo 0 false sp).1 := by rw [tx_bs]; exact versionP_placeT hb.1 hb.2
        refine sides_some r s v x y z w hver _ _ c _ g (fitsAns (fitsProg3 hr hv)) (fitsAns (fitsProg3 hs hv)) h3 hm1 hm2 l1 l2 hlen (fun ha hb => meet_of_fits ha hb) _ (lowAns (lowProg3 hr hf)) (by rw [bs_size]; exact placeT_len _)
          (fitsAns (by rw [fitsProg3 hr hq, hfit])) (decide ((lowGo 0 false sp).1 ≤ n)) (fitsAns ?_) (fun ha => by simp; exact hmin n ha)
        have e : ((⟨#[62, 61]⟩ : ByteArray) ++ bs (placeT (lowGo 0 false sp).1)) = bs ([62, 61] ++ placeT (lowGo 0 false sp).1) := by
          rw [← bs_append]; rfl
        rw [e, tx_bs, fits_ge hb.1 hb.2 hn hv]

end Hst
namespace SidesRow
open Go.ChangeShapes Go.WideShapes Go.ChangeAt Go.RowKit
open Go.ChangeMaps (open_string shut_string)
set_option linter.unusedVariables false

theorem i64 {x : Int} (h : (Lit.int .i64 x).wf = true) : Hst.I64 x := by
  have := bounds_i64 h
  exact ⟨by omega, by omega⟩
theorem own : ownKnob Tryd.prog.godebug = none := by kernel_rfl
theorem door_met (os : Os) (args : Array Value) : laidMetH Tryd.prog Rows.sidesRow.laid ((World.doorLaid Tryd.prog 4000 os).forCall (fun _ _ => 0) ⟨#[], args, []⟩).memory :=
  laidMetH_of_parts3 (fuel := 8) (laidMet_of_run' 8 (by kernel_rfl) (by kernel_rfl)) (by kernel_rfl) (by kernel_rfl)

set_option maxRecDepth 100000 in
theorem lifted (os : Os) (started : os.Started) (H : Type) (enc : TypeId × Value → H) :
    ReturnsInHanded {} Tryd.checked os 4 .any (fun w args => (Rows.sidesSpec.pre enc Tryd.prog Tryd.f4 [] false w args ∧ laidMetH Tryd.prog Rows.sidesRow.laid w) ∧ sizedMet enc Tryd.prog Tryd.f4 (OpenSpec.ofChange Rows.sidesSpec) false w args)
      (Rows.sidesSpec.post enc Tryd.prog Tryd.f4 false true false false) := by
  refine returnsInHanded_of_change_and (C := Tryd.checked) (X := fun w _ => laidMetH Tryd.prog Rows.sidesRow.laid w) (fun _ _ _ hh h => h.of_heap hh) own started (by kernel_rfl) Tryd.func4
    (ChangeSpec.witness_shaped (enc := enc) (C := Tryd.checked) (os := os) (X := fun w _ => laidMetH Tryd.prog Rows.sidesRow.laid w) false (World.doorLaid Tryd.prog 4000 os) #[.string ByteArray.empty, .string ByteArray.empty, .int .i64 0, .int .i64 0, .int .i64 0] 8 rfl (World.shaped_of_RefB (by kernel_rfl) (by kernel_rfl)) (by kernel_rfl) (by kernel_rfl) (by kernel_rfl) (door_met os _)) ?_
  intro W base args ds gs before hval0 hW _ _ hL _
  have hval : ∀ (j : Nat) t v, Tryd.f4.params[j]? = some t → args[j]? = some v → Value.okWide Tryd.prog W .any base t v := hval0
  have hW' := hW
  obtain ⟨p, q, hA0, hV, rfl, hfz, hnd⟩ := hW
  have hA : DataW.TrodAll enc Tryd.prog W 0 (fun _ => true) true Tryd.f4.params.toList args.toList ds p := hA0
  rw [Tryd.params4] at hA hval
  obtain ⟨v0, vs0, d0, ds0, p0, q0, hargs, rfl, rfl, h0, r0⟩ := trodAll_cons hA
  obtain ⟨v1, vs1, d1, ds1, p1, q1, rfl, rfl, rfl, h1, r1⟩ := trodAll_cons r0
  obtain ⟨v2, vs2, d2, ds2, p2, q2, rfl, rfl, rfl, h2, r2⟩ := trodAll_cons r1
  obtain ⟨v3, vs3, d3, ds3, p3, q3, rfl, rfl, rfl, h3, r3⟩ := trodAll_cons r2
  obtain ⟨v4, vs4, d4, ds4, p4, q4, rfl, rfl, rfl, h4, r4⟩ := trodAll_cons r3
  obtain ⟨rfl, rfl, rfl⟩ := trodAll_nil r4
  obtain rfl : args = #[v0, v1, v2, v3, v4] := by cases args; simp_all
  obtain ⟨rfl, rfl⟩ := trodVars_none hV
  obtain ⟨a0, rfl, rfl, rfl, w0⟩ := open_string Tryd.underlying9 (hval 0 9 v0 rfl rfl) h0
  obtain ⟨a1, rfl, rfl, rfl, w1⟩ := open_string Tryd.underlying9 (hval 1 9 v1 rfl rfl) h1
  obtain ⟨a2, rfl, rfl, rfl, w2⟩ := open_int Tryd.underlying3 (hval 2 3 v2 rfl rfl) h2
  obtain ⟨a3, rfl, rfl, rfl, w3⟩ := open_int Tryd.underlying3 (hval 3 3 v3 rfl rfl) h3
  obtain ⟨a4, rfl, rfl, rfl, w4⟩ := open_int Tryd.underlying3 (hval 4 3 v4 rfl rfl) h4
  clear hA0 hval0
  refine (Hst.sides_any a0 a1 a2 a3 a4 W (i64 w2) (i64 w3) (i64 w4)).mono fun e W' ⟨he, bel⟩ => ?_
  subst he
  exact ⟨_, rfl, _, _, _, [], [], [], hW', trodAll_mk1 (shut_bool Tryd.underlying4 _), (trodAll_cons_mk (shut_string Tryd.underlying9 w0) (trodAll_cons_mk (shut_string Tryd.underlying9 w1) (trodAll_cons_mk (shut_int Tryd.underlying3 w2) (trodAll_cons_mk (shut_int Tryd.underlying3 w3) (trodAll_cons_mk (shut_int Tryd.underlying3 w4) trodAll_mk0))))), rfl, bel.frame _, fun h => by cases h⟩

theorem over : Rows.SidesSaid :=
  OpenClaim.holds_of_wide 4 Tryd.f4 rfl rfl rfl rfl rfl rfl rfl ⟨rfl, rfl, rfl, rfl, rfl⟩ rfl rfl rfl rfl rfl (by kernel_rfl) Tryd.func4 (by kernel_rfl)
    (of_decide_eq_true (by kernel_rfl)) (by unfold Func.isWrapper; first | (rw [if_pos (by decide +kernel)]; kernel_rfl) | (rw [if_neg (by decide +kernel)]; exact ⟨rfl, rfl⟩))
    (fun os started H enc _ => lifted os started H enc)
end SidesRow

theorem sides_card : Rows.SidesCardSaid :=
  Claim7.holds_tied_plain_at .later [] [.data, .data, .data] true (true, "bfc2785ac1dcaff8ecf88a087b1627aacc14db3af6142912dd4f3c852ffe190c") false
    SidesRow.over (fun _ h => by cases h) (by kernel_rfl) (fun _ h => by cases h) sides_row_tie rfl ⟨rfl, rfl⟩ (by kernel_rfl) rfl
    (fun f fn hf hfn => by
      obtain rfl : f = 4 := Option.some.inj ((show Tryd.prog.funcNamed "hoist/hoistkeep.Sides" = some 4 by kernel_rfl).symm.trans hf) |>.symm
      obtain rfl : fn = Tryd.f4 := (Option.some.inj (Tryd.func4.symm.trans hfn)).symm
      exact ⟨by kernel_rfl, fun j t ht => by
        rw [Tryd.params4] at ht
        have hm : t ∈ [9, 9, 3, 3, 3] := by simpa using Array.mem_of_getElem? ht
        have hall : ([9, 3].all fun u => !Tryd.prog.wantsStandIn u) = true := by kernel_rfl
        exact (show Tryd.prog.wantsStandIn t = false by simpa using List.all_eq_true.1 hall t (by simpa using hm))⟩)
    (by kernel_rfl)
#print axioms sides_card
end Go.Proofs.YtecocheolbkneaaDoor
