/- (ranges.Range).Fits. -/
import Derived.Test.YtkcgbikgblkpjaaDoorRparse
namespace Go.Proofs.YtkcgbikgblkpjaaDoor
open Go.RowKit
namespace Hst

theorem SpanRow.form {w : World} {base : Nat} {v : Value} {sp : List (Int × Int)} (h : SpanRow w base v sp) (hd : sp ≠ []) : ∃ g cap, v = .slice (some ⟨g, 0, none⟩) sp.length cap ∧ base ≤ g ∧ g < w.heap.size ∧ ∀ (j : Nat) (hj : j < sp.length), w.cell? ⟨g, j * 2, none⟩ = some (.int .i64 sp[j].1) ∧ w.cell? ⟨g, j * 2 + 1, none⟩ = some (.int .i64 sp[j].2) := by
  have hn : 0 < sp.length := List.length_pos_iff.2 hd
  obtain ⟨g, cap, rfl, h1, h2⟩ := form_any h hn
  refine ⟨g, cap, rfl, h1, h2, fun j hj => ?_⟩
  have e := spans_at sp j hj
  rw [World.ownsRow.cellAt h (j * 2) (by omega), World.ownsRow.cellAt h (j * 2 + 1) (by omega), Nat.mul_comm j 2]
  exact e
theorem SpanRow.below {w w' : World} {base : Nat} {v : Value} {sp : List (Int × Int)} (h : SpanRow w base v sp) (hb : Below w.heap.size w w') : SpanRow w' base v sp := own_below h hb

theorem fp_yes (sp : List (Int × Int)) (k : Nat) (n : Int) (hk : k < sp.length) (h1 : sp[k].1 ≤ n) (h2 : n ≤ sp[k].2) : fitsP (sp.drop k) n = true := by
  rw [List.drop_eq_getElem_cons hk]; unfold fitsP; rw [List.any_cons]; simp only [h1, h2, decide_true, Bool.and_self, Bool.true_or]
theorem fp_no (sp : List (Int × Int)) (k : Nat) (n : Int) (hk : k < sp.length) (h : ¬ (sp[k].1 ≤ n ∧ n ≤ sp[k].2)) : fitsP (sp.drop k) n = fitsP (sp.drop (k + 1)) n := by
  rw [List.drop_eq_getElem_cons hk]
  unfold fitsP
  rw [List.any_cons]
  have : (decide (sp[k].1 ≤ n) && decide (n ≤ sp[k].2)) = false := by simp; intro h1; omega
  rw [this, Bool.false_or]
theorem fp_end (sp : List (Int × Int)) (k : Nat) (n : Int) (hk : ¬ k < sp.length) : fitsP (sp.drop k) n = false := by
  rw [List.drop_of_length_le (by omega)]; rfl

set_option maxHeartbeats 1000000 in
theorem rfits_any (v : Value) (n : Int) (sp : List (Int × Int)) (base : Nat) (w : World) (hrow : SpanRow w base v sp) (hne : sp ≠ []) (hl : sp.length ≤ 1000) :
    Calls Tryd.prog 25 #[.agg #[v], .int .i64 n] w fun e w' => e = .returned (.bool (fitsP sp n)) ∧ Below w.heap.size w w' := by
  obtain ⟨g, cap, rfl, hg1, hg2, hcell⟩ := hrow.form hne
  have HC := hid hcell
  clear hcell hrow
  go_enter Tryd.func25, Tryd.ntmps25
  go_wp2
  go_loopw [10] (fun i wr => ∃ (k : Nat), k ≤ sp.length ∧ i = .int .i64 k ∧ Below w.heap.size w wr ∧ Hid (fitsP sp n = fitsP (sp.drop k) n)) (fun i _ => sp.length - (intOf i).toNat)
  case atStart => exact ⟨0, by omega, rfl, (Below.refl _ _).alloc (Nat.le_refl _) _, rfl⟩
  case round =>
    obtain ⟨k, hk, rfl, hbel, hall⟩ := hrel
    have hz := hbel.size
    by_cases hlt : k < sp.length
    · obtain ⟨c0, c1⟩ := HC.out k hlt
      have hc0 := (hbel.cell (p := ⟨g, k * 2, none⟩) hg2).trans c0
      have hc1 := (hbel.cell (p := ⟨g, k * 2 + 1, none⟩) hg2).trans c1
      clear c0 c1
      by_cases h1 : sp[k].1 ≤ n
      · by_cases h2 : n ≤ sp[k].2
        · have HF : Hid (fitsP sp n = true) := by unfold Hid; rw [hall.out, fp_yes sp k n hlt h1 h2]
          generalize sp[k].1 = x at *
          generalize sp[k].2 = y at *
          go_wp2
          go_ret
          exact ⟨ret_bool (by rw [HF.out]), hbel.alloc hz _⟩
        · have HF : Hid (fitsP sp n = fitsP (sp.drop (k + 1)) n) := by unfold Hid; rw [hall.out, fp_no sp k n hlt (by omega)]
          generalize sp[k].1 = x at *
          generalize sp[k].2 = y at *
          go_wp2
          go_roundw
          case rel => exact ⟨k + 1, by omega, by go_num, hbel.alloc hz _, HF⟩
          case measure => simp [intOf]; omega
      · have HF : Hid (fitsP sp n = fitsP (sp.drop (k + 1)) n) := by unfold Hid; rw [hall.out, fp_no sp k n hlt (by omega)]
        generalize sp[k].1 = x at *
        generalize sp[k].2 = y at *
        go_wp2
        go_roundw
        case rel => exact ⟨k + 1, by omega, by go_num, hbel.alloc hz _, HF⟩
        case measure => simp [intOf]; omega
    · have HF : Hid (fitsP sp n = false) := by unfold Hid; rw [hall.out, fp_end sp k n hlt]
      go_wp2
      go_ret
      exact ⟨ret_bool (by rw [HF.out]), hbel⟩

/-- Fits of the program: its answer and its error. -/
def fitsProg (r v : Tx) : Bool × Int := match rangeP r with
  | none => (false, 1)
  | some sp => match versionP v with
    | none => (false, 2)
    | some n => (fitsP sp n, 0)
theorem fitsProg1 {r v : Tx} (h : rangeP r = none) : fitsProg r v = (false, 1) := by simp [fitsProg, h]
theorem fitsProg2 {r v : Tx} {sp : List (Int × Int)} (h : rangeP r = some sp) (h' : versionP v = none) : fitsProg r v = (false, 2) := by simp [fitsProg, h, h']
theorem fitsProg3 {r v : Tx} {sp : List (Int × Int)} {n : Int} (h : rangeP r = some sp) (h' : versionP v = some n) : fitsProg r v = (fitsP sp n, 0) := by simp [fitsProg, h, h']

theorem rangeGo_len : ∀ (d : List Tx) (acc sp : List (Int × Int)), rangeGo acc d = some sp → sp.length = acc.length + d.length
  | [], acc, sp, h => by simp [rangeGo] at h; subst h; simp
  | a :: r, acc, sp, h => by
    simp only [rangeGo] at h
    rcases hp : altP a with _ | s
    · rw [hp] at h; simp at h
    · rw [hp] at h
      have := rangeGo_len r _ sp h
      simp at this ⊢; omega
theorem rangeP_len {l : Tx} {sp : List (Int × Int)} (h : rangeP l = some sp) : 0 < sp.length ∧ sp.length ≤ 61 := by
  unfold rangeP at h
  split at h
  · simp at h
  · have h1 := rangeGo_len _ _ _ h
    have h2 := splitL_len 124 l
    have h3 := List.length_pos_iff.2 (splitL_ne 124 l)
    simp at h1
    omega

set_option maxHeartbeats 1000000 in
theorem pfits_any (r v : ByteArray) (w : World) :
    Calls Tryd.prog 11 #[.string r, .string v] w fun e w' => e = .returned (.tuple #[.bool (fitsProg (tx r) (tx v)).1, .int .i64 (fitsProg (tx r) (tx v)).2]) ∧ Below w.heap.size w w' := by
  have HR := hid (fun w => rparse_any r w)
  have HV := hid (fun w => vparse_any v w)
  rcases hr : rangeP (tx r) with _ | sp
  · rw [fitsProg1 hr]
    rw [hr] at HR
    clear hr
    go_enter Tryd.func11, Tryd.ntmps11
    go_wp2_with fail
    refine (HR.out _).mono ?_
    rintro e w1 ⟨xa, xn, xc, rfl, hb1, hsp⟩
    simp only [rok, Option.isSome_none]
    have hz1 := hb1.size
    clear hsp
    go_wp2
    go_ret2
    exact ⟨rfl, hb1.alloc hz1 _⟩
  · have hlen := rangeP_len hr
    have hne : sp ≠ [] := List.length_pos_iff.1 hlen.1
    rw [hr] at HR
    rcases hv : versionP (tx v) with _ | n
    · rw [fitsProg2 hr hv]
      rw [hv] at HV
      clear hr hv
      go_enter Tryd.func11, Tryd.ntmps11
      go_wp2_with fail
      refine (HR.out _).mono ?_
      rintro e w1 ⟨xa, xn, xc, rfl, hb1, hsp⟩
      simp only [rok, Option.isSome_some]
      have hz1 := hb1.size
      clear hsp
      go_wp2_with fail
      refine (HV.out _).mono ?_
      rintro e w2 ⟨rfl, hb2⟩
      simp only [oks, ov, Option.isSome_none]
      go_wp2
      go_ret2
      exact ⟨rfl, (hb1.alloc hz1 _).trans (hb2.mono (by simp; omega))⟩
    · rw [fitsProg3 hr hv]
      rw [hv] at HV
      clear hr hv
      go_enter Tryd.func11, Tryd.ntmps11
      go_wp2_with fail
      refine (HR.out _).mono ?_
      rintro e w1 ⟨xa, xn, xc, rfl, hb1, hsp⟩
      simp only [rok, Option.isSome_some]
      have hz1 := hb1.size
      have HSP := hid (hsp sp rfl)
      clear hsp
      go_wp2_with fail
      refine (HV.out _).mono ?_
      rintro e w2 ⟨rfl, hb2⟩
      simp only [oks, ov, Option.isSome_some, Option.getD_some]
      have HSP2 := hid (SpanRow.below (SpanRow.below HSP.out ((Below.refl _ _).alloc (Nat.le_refl _) _)) hb2)
      have HB := hid ((hb1.alloc hz1 _).trans (hb2.mono (by simp; omega)) : Below w.heap.size w w2)
      obtain ⟨hcc, hff⟩ := bcell hb2
      have hz2 := hb2.size
      simp at hcc hz2
      clear hb2 hff
      go_wp2_with fail
      refine (rfits_any _ _ sp _ _ HSP2.out hne (by omega)).mono ?_
      rintro e w3 ⟨rfl, hb3⟩
      go_wp2
      go_ret2
      exact ⟨rfl, HB.out.trans (hb3.mono (by omega))⟩

end Hst
end Go.Proofs.YtkcgbikgblkpjaaDoor
