/- Kopen, Found -/
import Derived.Test.YtecocheolbkneaaDoorW10
import Derived.ProofKit
import Derived.OpenShut
import Derived.ShutString
import Derived.SizedLaws
import Derived.Carry
import Derived.Deep.Slices
import Derived.Test.YtecocheolbkneaaDoorW23
import Derived.Test.YtecocheolbkneaaDoorTie
import Derived.Test.YtecocheolbkneaaDoorCards
import Derived.LaidMore
import Derived.Stop.Joined
import Derived.SevenTiedAt
namespace Go.Proofs.YtecocheolbkneaaDoor
open Go.ChangeShapes Go.WideShapes Go.ChangeAt Go.RowKit Go.Deep
namespace Hst
set_option maxRecDepth 100000

theorem kcells_want : Tryd.prog.cellsOf 52 = 4 := by kernel_rfl
theorem kcells_item : Tryd.prog.cellsOf 58 = 4 := by kernel_rfl
theorem kcells_int : Tryd.prog.cellsOf 3 = 1 := by kernel_rfl
theorem kcells_wants : Tryd.prog.cellsOf 39 = 1 := by kernel_rfl
theorem klaidOut : laidOutB Tryd.prog = true := by kernel_rfl

section
variable {H : Type} {enc : TypeId × Value → H}
/-- One want, off its four cells. -/
theorem open_want {W : World} {sp : Nat → Bool} {n : Nat} {cs : List Value} {y : DataW H × List MemPlace} (h : DataW.trod enc Tryd.prog W 0 sp true n 52 cs = some y) : ∃ o : WantX, cs = wantC o ∧ WantOk o := by
  obtain ⟨xs, k, hk, hxy, hcl, hxl, hf⟩ := DataW.trod_struct Tryd.underlying52 h
  rw [kcells_want] at hcl
  match xs, hxl, cs, hcl with
  | [y0, y1, y2, y3], _, [v0, v1, v2, v3], _ =>
    have g0 := hf 0 _ rfl
    have g1 := hf 1 _ rfl
    have g2 := hf 2 _ rfl
    have g3 := hf 3 _ rfl
    simp [kcells_int] at g0 g1 g2 g3
    obtain ⟨a, ha, _, wa⟩ := DataW.trod_int Tryd.underlying3 g0
    obtain ⟨b, hb, _, wb⟩ := DataW.trod_int Tryd.underlying3 g1
    obtain ⟨c, hc, _, wc⟩ := DataW.trod_int Tryd.underlying3 g2
    obtain ⟨d, hd, _, wd⟩ := DataW.trod_int Tryd.underlying3 g3
    simp only [List.cons.injEq, and_true] at ha hb hc hd
    subst ha hb hc hd
    exact ⟨⟨a, b, c, d⟩, rfl, bounds_i64 wa, bounds_i64 wb, bounds_i64 wc, bounds_i64 wd⟩
/-- Rows of elements of four cells. -/
theorem row_of4 {α : Type} {W : World} {a : Addr} {len cap : Nat} (f : α → List Value) (hf : ∀ x, (f x).length = 4) (q : Nat → α) (hl : len ≤ cap) (hq : ∀ i, i < len → ∀ j, j < 4 → W.cell? (a.add (i * 4 + j)) = (f (q i))[j]?) : RowR W (some a) len cap 4 (((List.range len).map q).flatMap f) := by
  have hlen : ((List.range len).map q).length = len := by simp
  refine ⟨by rw [flat_len f 4 hf, hlen], hl, fun h0 => ?_⟩
  have hc0 := hq 0 h0 0 (by omega)
  simp only [Nat.zero_mul, Nat.add_zero] at hc0
  have hc0' : W.cell? (a.add 0) = some ((f (q 0))[0]'(by rw [hf]; omega)) := by rw [hc0, List.getElem?_eq_getElem]
  have hsp := World.cell?_spot hc0'
  have hbl := World.block_lt_of_cell? W _ hc0'
  obtain ⟨g, o, spot⟩ := a
  have hspot : spot = none := by simpa [Addr.add] using hsp
  subst hspot
  refine ⟨g, o, rfl, by simpa [Addr.add] using hbl, fun i hi => ?_⟩
  have hd : i / 4 < len := by omega
  have e1 : i = i / 4 * 4 + i % 4 := by omega
  have hc := hq (i / 4) hd (i % 4) (by omega)
  have hfl := flat_at f 4 hf ((List.range len).map q) (i / 4) (i % 4) (by rw [hlen]; exact hd) (by omega)
  rw [← e1] at hc hfl
  rw [hfl]
  have e2 : ((List.range len).map q)[i / 4]'(by rw [hlen]; exact hd) = q (i / 4) := by simp
  rw [e2, ← hc, add_plain]
/-- The wants. -/
theorem open_wants {W : World} {fuel : Nat} {cs : List Value} {x : DataW H × List MemPlace} (h : DataW.trod enc Tryd.prog W 0 (fun _ => true) true fuel 39 cs = some x) :
    ∃ (a : Option Addr) (cap : Nat) (l : List WantX), cs = [.slice a l.length cap] ∧ RowR W a l.length cap 4 (l.flatMap wantC) ∧ (∀ o ∈ l, WantOk o) ∧ l.length ≤ 9223372036854775807 := by
  rcases open_slice Tryd.underlying39 h with ⟨rfl, rfl⟩ | ⟨a, len, cap, m, n, D, Pl, rfl, _, hl, hm, hmm, rfl, hx⟩
  · exact ⟨none, 0, [], rfl, ⟨by simp, by simp, fun h => absurd h (by simp)⟩, by simp, by simp⟩
  · simp only [if_true] at hmm
    have each : ∀ i, i < len → ∃ o : WantX, WantOk o ∧ ∀ j, j < 4 → W.cell? (a.add (i * 4 + j)) = (wantC o)[j]? := fun i hi => by
      obtain ⟨cs', h1, h2⟩ := hx i (by omega)
      rw [kcells_want] at h1
      obtain ⟨_, _, hcell⟩ := World.cells?_some h1
      obtain ⟨o, rfl, hok⟩ := open_want h2
      exact ⟨o, hok, fun j hj => by have := hcell j hj; rw [add_add] at this; exact this⟩
    have hin : Inhabited WantX := ⟨⟨0, 0, 0, 0⟩⟩
    obtain ⟨q, hq⟩ := choose_lt each
    have hlen : ((List.range len).map q).length = len := by simp
    refine ⟨some a, cap, (List.range len).map q, by rw [hlen], ?_, fun o ho => ?_, ?_⟩
    · rw [hlen]
      exact row_of4 wantC wantC_len q hl fun i hi => (hq i hi).2
    · obtain ⟨i, hi, rfl⟩ := List.mem_map.1 ho
      exact (hq i (List.mem_range.1 hi)).1
    · rw [hlen]
      unfold maxLen at hm
      omega
/-- One item, off its four cells. -/
theorem open_item {W : World} {n : Nat} {cs : List Value} {y : DataW H × List MemPlace} (h : DataW.trod enc Tryd.prog W 0 (fun _ => true) true n 58 cs = some y) : ∃ o : ItemX, cs = itemC o ∧ ItemOk o ∧ ItemIn W o ∧ o.wants.length ≤ 9223372036854775807 := by
  obtain ⟨xs, k, hk, hxy, hcl, hxl, hf⟩ := DataW.trod_struct Tryd.underlying58 h
  rw [kcells_item] at hcl
  match xs, hxl, cs, hcl with
  | [y0, y1, y2, y3], _, [v0, v1, v2, v3], _ =>
    have g0 := hf 0 _ rfl
    have g1 := hf 1 _ rfl
    have g2 := hf 2 _ rfl
    have g3 := hf 3 _ rfl
    simp [kcells_int, kcells_wants] at g0 g1 g2 g3
    obtain ⟨a, ha, _, wa⟩ := DataW.trod_int Tryd.underlying3 g0
    obtain ⟨b, hb, _, wb⟩ := DataW.trod_int Tryd.underlying3 g1
    obtain ⟨c, hc, _, wc⟩ := DataW.trod_int Tryd.underlying3 g2
    obtain ⟨va, vc, l, hd, hrow, hok, hle⟩ := open_wants g3
    simp only [List.cons.injEq, and_true] at ha hb hc hd
    subst ha hb hc hd
    exact ⟨⟨a, b, c, .slice va l.length vc, l⟩, rfl, ⟨bounds_i64 wa, bounds_i64 wb, bounds_i64 wc, hok⟩, ⟨va, vc, rfl, hrow⟩, hle⟩
/-- The items. -/
theorem open_items {W : World} {fuel : Nat} {cs : List Value} {x : DataW H × List MemPlace} (h : DataW.trod enc Tryd.prog W 0 (fun _ => true) true fuel 38 cs = some x) :
    ∃ (a : Option Addr) (cap : Nat) (l : List ItemX), cs = [.slice a l.length cap] ∧ ItemsR W a cap l ∧ (∀ o ∈ l, ItemOk o) ∧ l.length ≤ 9223372036854775807 ∧ ∀ o ∈ l, o.wants.length ≤ 9223372036854775807 := by
  rcases open_slice Tryd.underlying38 h with ⟨rfl, rfl⟩ | ⟨a, len, cap, m, n, D, Pl, rfl, _, hl, hm, hmm, rfl, hx⟩
  · exact ⟨none, 0, [], rfl, ⟨⟨by simp, by simp, fun h => absurd h (by simp)⟩, by simp⟩, by simp, by simp, by simp⟩
  · simp only [if_true] at hmm
    have each : ∀ i, i < len → ∃ o : ItemX, (ItemOk o ∧ ItemIn W o ∧ o.wants.length ≤ 9223372036854775807) ∧ ∀ j, j < 4 → W.cell? (a.add (i * 4 + j)) = (itemC o)[j]? := fun i hi => by
      obtain ⟨cs', h1, h2⟩ := hx i (by omega)
      rw [kcells_item] at h1
      obtain ⟨_, _, hcell⟩ := World.cells?_some h1
      obtain ⟨o, rfl, hok⟩ := open_item h2
      exact ⟨o, hok, fun j hj => by have := hcell j hj; rw [add_add] at this; exact this⟩
    have hin : Inhabited ItemX := ⟨⟨0, 0, 0, .slice none 0 0, []⟩⟩
    obtain ⟨q, hq⟩ := choose_lt each
    have hlen : ((List.range len).map q).length = len := by simp
    have hmem : ∀ o ∈ (List.range len).map q, ItemOk o ∧ ItemIn W o ∧ o.wants.length ≤ 9223372036854775807 := fun o ho => by
      obtain ⟨i, hi, rfl⟩ := List.mem_map.1 ho
      exact (hq i (List.mem_range.1 hi)).1
    refine ⟨some a, cap, (List.range len).map q, by rw [hlen], ⟨?_, fun o ho => (hmem o ho).2.1⟩, fun o ho => (hmem o ho).1, ?_, fun o ho => (hmem o ho).2.2⟩
    · rw [hlen]
      exact row_of4 itemC itemC_len q hl fun i hi => (hq i hi).2
    · rw [hlen]
      unfold maxLen at hm
      omega
end

end Hst
end Go.Proofs.YtecocheolbkneaaDoor
namespace Go.Proofs.YtecocheolbkneaaDoor
namespace FoundRow
open Go.ChangeShapes Go.WideShapes Go.ChangeAt Go.RowKit
set_option linter.unusedVariables false

theorem own : ownKnob Tryd.prog.godebug = none := by kernel_rfl
theorem door_met (os : Os) (args : Array Value) : laidMetH Tryd.prog Rows.foundRow.laid ((World.doorLaid Tryd.prog 4000 os).forCall (fun _ _ => 0) ⟨#[], args, []⟩).memory :=
  laidMetH_of_parts3 (fuel := 8) (laidMet_of_run' 8 (by kernel_rfl) (by kernel_rfl)) (by kernel_rfl) (by kernel_rfl)

set_option maxRecDepth 100000 in
theorem lifted (os : Os) (started : os.Started) (H : Type) (enc : TypeId × Value → H) :
    ReturnsInHanded {} Tryd.checked os 6 .any (fun w args => (Rows.foundSpec.pre enc Tryd.prog Tryd.f6 [] false w args ∧ laidMetH Tryd.prog Rows.foundRow.laid w) ∧ sizedMet enc Tryd.prog Tryd.f6 (OpenSpec.ofChange Rows.foundSpec) false w args)
      (Rows.foundSpec.post enc Tryd.prog Tryd.f6 false true false false) := by
  refine returnsInHanded_of_change_and (C := Tryd.checked) (X := fun w _ => laidMetH Tryd.prog Rows.foundRow.laid w) (fun _ _ _ hh h => h.of_heap hh) own started (by kernel_rfl) Tryd.func6
    (ChangeSpec.witness_shaped (enc := enc) (C := Tryd.checked) (os := os) (X := fun w _ => laidMetH Tryd.prog Rows.foundRow.laid w) false (World.doorLaid Tryd.prog 4000 os) #[.slice none 0 0, .slice none 0 0] 8 rfl (World.shaped_of_RefB (by kernel_rfl) (by kernel_rfl)) (by kernel_rfl) (by kernel_rfl) (by kernel_rfl) (door_met os _)) ?_
  intro W base args ds gs before hval0 hW _ hsz0 hL _
  have hval : ∀ (j : Nat) t v, Tryd.f6.params[j]? = some t → args[j]? = some v → Value.okWide Tryd.prog W .any base t v := hval0
  have hW' := hW
  obtain ⟨p, q, hA0, hV, rfl, hfz, hnd⟩ := hW
  have hA : DataW.TrodAll enc Tryd.prog W 0 (fun _ => true) true Tryd.f6.params.toList args.toList ds p := hA0
  rw [Tryd.params6] at hA hval
  obtain ⟨v0, v1, d0, d1, p0, p1, rfl, rfl, rfl, h0, h1⟩ := trodAll_two hA
  obtain ⟨rfl, rfl⟩ := trodVars_none hV
  have h0k := h0
  have h1k := h1
  obtain ⟨fuel, hf⟩ := h0
  obtain ⟨fuel1, hf1⟩ := h1
  clear hA0 hval0 hsz0
  simp only [List.append_nil] at hW'
  have hlt0 : ∀ x ∈ p0, x.block < W.heap.size := fun x hx => by simpa using hW'.lt x (by simp [hx])
  have hlt1 : ∀ x ∈ p1, x.block < W.heap.size := fun x hx => by simpa using hW'.lt x (by simp [hx])
  obtain ⟨a0, len, cap, rfl⟩ := okWide_slice Tryd.underlying38 (hval 0 38 v0 rfl rfl)
  obtain ⟨a1, len1, cap1, rfl⟩ := okWide_slice Tryd.underlying39 (hval 1 39 v1 rfl rfl)
  obtain ⟨a, cap', items, hcs, hrow, hok, hn, hwn⟩ := Hst.open_items hf
  obtain ⟨a', cap1', l, hcs1, hrow1, hok1, hn1⟩ := Hst.open_wants hf1
  have hcs' : Value.slice a0 len cap = .slice a items.length cap' := by simpa [Value.cells] using hcs
  have hcs1' : Value.slice a1 len1 cap1 = .slice a' l.length cap1' := by simpa [Value.cells] using hcs1
  rw [hcs'] at h0k ⊢
  rw [hcs1'] at h1k ⊢
  refine (Hst.found_any a cap' items a' cap1' l W hrow hn hwn hok hrow1 hn1 hok1).mono fun e W' ⟨he, bel⟩ => ?_
  subst he
  rw [hcs', hcs1'] at hW'
  exact ⟨_, rfl, _, _, _, [], _, [], hW', trodAll_mk1 (shut_bool Tryd.underlying4 _), trodAll_mk2 (Below.trod Hst.klaidOut (by kernel_rfl) (of_decide_eq_true (by kernel_rfl)) h0k bel hlt0) (Below.trod Hst.klaidOut (by kernel_rfl) (of_decide_eq_true (by kernel_rfl)) h1k bel hlt1), rfl, bel.frame _, fun h => by cases h⟩

theorem over : Rows.FoundSaid :=
  OpenClaim.holds_of_wide 6 Tryd.f6 rfl rfl rfl rfl rfl rfl rfl ⟨rfl, rfl, rfl, rfl, rfl⟩ rfl rfl rfl rfl rfl (by kernel_rfl) Tryd.func6 (by kernel_rfl)
    (of_decide_eq_true (by kernel_rfl)) (by unfold Func.isWrapper; first | (rw [if_pos (by decide +kernel)]; kernel_rfl) | (rw [if_neg (by decide +kernel)]; exact ⟨rfl, rfl⟩))
    (fun os started H enc _ => lifted os started H enc)
end FoundRow

theorem found_card : Rows.FoundCardSaid :=
  Claim7.holds_tied_plain_at .later [] [.data, .data, .data] true (true, "bfc2785ac1dcaff8ecf88a087b1627aacc14db3af6142912dd4f3c852ffe190c") false
    FoundRow.over (fun _ h => by cases h) (by kernel_rfl) (fun _ h => by cases h) found_row_tie rfl ⟨rfl, rfl⟩ (by kernel_rfl) rfl
    (fun f fn hf hfn => by
      obtain rfl : f = 6 := Option.some.inj ((show Tryd.prog.funcNamed "hoist/hoistkeep.Found" = some 6 by kernel_rfl).symm.trans hf) |>.symm
      obtain rfl : fn = Tryd.f6 := (Option.some.inj (Tryd.func6.symm.trans hfn)).symm
      exact ⟨by kernel_rfl, fun j t ht => by
        rw [Tryd.params6] at ht
        have hm : t ∈ [38, 39] := by simpa using Array.mem_of_getElem? ht
        have hall : ([38, 39].all fun u => !Tryd.prog.wantsStandIn u) = true := by kernel_rfl
        exact (show Tryd.prog.wantsStandIn t = false by simpa using List.all_eq_true.1 hall t hm)⟩)
    (by kernel_rfl)
#print axioms found_card
end Go.Proofs.YtecocheolbkneaaDoor
