/- Math, Fittingw, Fitting -/
import Derived.Test.YtecocheolbkneaaW01
import Derived.Test.YtecocheolbkneaaW03
import Derived.Test.YtecocheolbkneaaW04
import Derived.ProofKit
import Derived.OpenShut
import Derived.ShutString
import Derived.ChangeOld
namespace Go.Proofs.Ytecocheolbkneaa
namespace Hst

/-! ### numbers -/
theorem partP_eq : ∀ l : Tx, partP l = if 0 ≤ partR l then some (partR l) else none
  | [] => by simp [partP, partR]
  | [a] => by
    by_cases h : dig a = true
    · have h' := h
      simp [dig] at h'
      have e : partR [a] = (a.toNat : Int) - 48 := by simp [partR, partGoR, h]
      have e2 : partP [a] = some ((a.toNat : Int) - 48) := by
        simp only [partP, partGo, h, if_true]
        rw [if_neg (by simp), if_neg (by simp), if_neg (by omega)]; simp
      rw [e, e2, if_pos (by omega)]
    · have h : dig a = false := by simpa using h
      have e : partR [a] = -1 := by simp [partR, partGoR, h]
      have e2 : partP [a] = none := by simp [partP, partGo, h]
      rw [e, e2]; rfl
  | [a, b] => by
    by_cases h0 : a = 48
    · simp [partP, partR, h0]
    · have hne : ¬ ((a.toNat : Int) = 48) := fun h => h0 (UInt8.toNat_inj.1 (by simp; omega))
      have e0 : partR [a, b] = partGoR 0 [a, b] := by simp [partR, h0]
      have e1 : partP [a, b] = partGo 0 [a, b] := by simp [partP, h0]
      by_cases ha : dig a = true
      · have ha' := ha
        simp [dig] at ha'
        by_cases hb : dig b = true
        · have hb' := hb
          simp [dig] at hb'
          have f0 : partR [a, b] = 10 * ((a.toNat : Int) - 48) + ((b.toNat : Int) - 48) := by rw [e0]; simp only [partGoR, if_pos ha, if_pos hb]; omega
          have f1 : partP [a, b] = some (10 * ((a.toNat : Int) - 48) + ((b.toNat : Int) - 48)) := by
            rw [e1]; simp only [partGo, if_pos ha, if_pos hb]
            rw [if_neg (by omega), if_neg (by omega)]
            congr 1; omega
          rw [f0, f1, if_pos (by omega)]
        · have f0 : partR [a, b] = -1 := by rw [e0]; simp only [partGoR, if_pos ha, if_neg hb]
          have f1 : partP [a, b] = none := by
            rw [e1]; simp only [partGo, if_pos ha, if_neg hb]
            rw [if_neg (by omega)]
          rw [f0, f1]; rfl
      · have f0 : partR [a, b] = -1 := by rw [e0]; simp only [partGoR, if_neg ha]
        have f1 : partP [a, b] = none := by rw [e1]; simp only [partGo, if_neg ha]
        rw [f0, f1]; rfl
  | a :: b :: c :: r => by
    have e0 : partR (a :: b :: c :: r) = -1 := by simp [partR]
    rw [e0]
    show partP (a :: b :: c :: r) = none
    by_cases h0 : a = 48
    · simp [partP, h0]
    · have hne : ¬ ((a.toNat : Int) = 48) := fun h => h0 (UInt8.toNat_inj.1 (by simp; omega))
      have e1 : partP (a :: b :: c :: r) = partGo 0 (a :: b :: c :: r) := by simp [partP, h0]
      rw [e1]
      simp only [partGo]
      by_cases ha : dig a = true
      · have ha' := ha
        simp [dig] at ha'
        rw [if_pos ha, if_neg (by omega)]
        by_cases hb : dig b = true
        · have hb' := hb
          simp [dig] at hb'
          rw [if_pos hb, if_neg (by omega)]
          by_cases hc : dig c = true
          · have hc' := hc
            simp [dig] at hc'
            rw [if_pos hc, if_pos (by omega)]
          · rw [if_neg hc]
        · rw [if_neg hb]
      · rw [if_neg ha]
theorem partR_hi (l : Tx) : partR l ≤ 99 := by
  unfold partR
  split
  · omega
  · rename_i h
    match l, h with
    | [], h => simp at h
    | [a], _ =>
      simp only [partGoR]
      split
      · rename_i hd; simp [dig] at hd; omega
      · omega
    | [a, b], _ =>
      simp only [partGoR]
      split
      · rename_i hd
        simp [dig] at hd
        split
        · rename_i hd'; simp [dig] at hd'; omega
        · omega
      · omega
    | _ :: _ :: _ :: _, h => simp at h

/-! ### versions -/
def place (v : V3) : Int := (v.a * 100 + v.b) * 100 + v.c
structure Valid (v : V3) : Prop where
  a0 : 0 ≤ v.a
  a1 : v.a ≤ 99
  b0 : 0 ≤ v.b
  b1 : v.b ≤ 99
  c0 : 0 ≤ v.c
  c1 : v.c ≤ 99
theorem place_bd {v : V3} (h : Valid v) : 0 ≤ place v ∧ place v ≤ 999999 := by
  obtain ⟨h1, h2, h3, h4, h5, h6⟩ := h
  unfold place; omega

theorem versionP_eq (l : Tx) : versionP l = if (versionR l).2 = true then some (place (versionR l).1) else none := by
  unfold versionP versionR
  by_cases h8 : 8 < l.length
  · rw [if_pos h8, if_pos h8]; rfl
  · rw [if_neg h8, if_neg h8]
    by_cases h3 : (splitL 46 l).length ≠ 3
    · rw [if_pos h3, if_pos h3]; rfl
    · rw [if_neg h3, if_neg h3]
      match hd : splitL 46 l, h3 with
      | [x, y, z], _ =>
        simp only [verGo, partP_eq, List.getD_cons_zero, List.getD_cons_succ]
        by_cases hx : 0 ≤ partR x
        · by_cases hy : 0 ≤ partR y
          · by_cases hz : 0 ≤ partR z
            · simp [hx, hy, hz, place]
            · simp [hx, hy, hz]
          · simp [hx, hy]
        · simp [hx]
      | [], h3 => simp at h3
      | [_], h3 => simp at h3
      | [_, _], h3 => simp at h3
      | _ :: _ :: _ :: _ :: _, h3 => simp at h3
theorem versionR_valid (l : Tx) (h : (versionR l).2 = true) : Valid (versionR l).1 := by
  unfold versionR at h ⊢
  split at h
  · simp at h
  · split at h
    · simp at h
    · rename_i h8 h3
      rw [if_neg h8, if_neg h3]
      simp at h
      exact ⟨h.1.1, partR_hi _, h.1.2, partR_hi _, h.2, partR_hi _⟩
theorem versionP_some {l : Tx} {n : Int} (h : versionP l = some n) : (versionR l).2 = true ∧ n = place (versionR l).1 := by
  rw [versionP_eq] at h
  split at h
  · rename_i h'; simp at h; exact ⟨h', h.symm⟩
  · simp at h
theorem versionP_of {l : Tx} (h : (versionR l).2 = true) : versionP l = some (place (versionR l).1) := by rw [versionP_eq, if_pos h]
theorem versionP_no {l : Tx} (h : (versionR l).2 = false) : versionP l = none := by rw [versionP_eq, h]; rfl

/-- A version begins with a digit. -/
theorem version_head {l : Tx} {n : Int} (h : versionP l = some n) : ∃ b r, l = b :: r ∧ dig b = true := by
  unfold versionP at h
  split at h
  · simp at h
  · split at h
    · simp at h
    · match l with
      | [] => simp [splitL, verGo, partP] at h
      | b :: r =>
        refine ⟨b, r, rfl, ?_⟩
        by_cases hb : (b.toNat : Int) = 46
        · simp [splitL, hb, verGo, partP] at h
        · simp only [splitL, if_neg hb] at h
          rcases hs : splitL 46 r with _ | ⟨q, qs⟩
          · exact absurd hs (splitL_ne 46 r)
          · rw [hs] at h
            simp only [verGo] at h
            rcases hp : partP (b :: q) with _ | m
            · rw [hp] at h; simp at h
            · by_cases hd : dig b = true
              · exact hd
              · exfalso
                simp only [partP, partGo, if_neg hd] at hp
                simp at hp

/-! ### conditions -/
def IsSign (sg : Tx) : Prop := sg = [61] ∨ sg = [62] ∨ sg = [62, 61] ∨ sg = [60] ∨ sg = [60, 61] ∨ sg = [94] ∨ sg = [126]
theorem spanOfP_no {sg : Tx} (h : ¬ IsSign sg) (v : Int) : spanOfP sg v = none := by
  simp only [IsSign, not_or] at h
  simp [spanOfP, h]
theorem dig_ne {b : UInt8} (h : dig b = true) : b ≠ 61 ∧ b ≠ 62 ∧ b ≠ 60 ∧ b ≠ 94 ∧ b ≠ 126 ∧ b ≠ 42 := by
  simp [dig] at h
  refine ⟨?_, ?_, ?_, ?_, ?_, ?_⟩ <;> (intro e; subst e; simp at h)
theorem sign_len {sg : Tx} (h : IsSign sg) (b : UInt8) (r : Tx) (hb : dig b = true) : signLen (sg ++ b :: r) = sg.length := by
  simp [dig] at hb
  rcases h with h | h | h | h | h | h | h <;> subst h <;> simp [signLen, hb, dig]
theorem signedR_of {sg : Tx} (h : IsSign sg) (b : UInt8) (r : Tx) (hb : dig b = true) : signedR (sg ++ b :: r) = (sg, b :: r) := by
  have hn := dig_ne hb
  rcases h with h | h | h | h | h | h | h <;> subst h <;> simp [signedR, hn]
theorem signedR_sign {l sg rest : Tx} (h : signedR l = (sg, rest)) (hne : sg ≠ []) : IsSign sg ∧ l = sg ++ rest := by
  unfold signedR at h
  split at h
  · rename_i h2
    simp at h
    obtain ⟨rfl, rfl⟩ := h
    refine ⟨?_, (List.take_append_drop 2 l).symm⟩
    rcases h2 with h2 | h2 <;> rw [h2] <;> simp [IsSign]
  · split at h
    · simp at h; exact absurd h.1.symm (by simpa using hne)
    · split at h
      · rename_i h3
        simp at h
        obtain ⟨rfl, rfl⟩ := h
        refine ⟨?_, by simp⟩
        rcases h3 with h3 | h3 | h3 | h3 | h3 <;> subst h3 <;> simp [IsSign]
      · simp at h; exact absurd h.1.symm (by simpa using hne)

/-- A condition with a sign. -/
structure CondIs (l sg rest : Tx) (n : Int) : Prop where
  cat : l = sg ++ rest
  sign : IsSign sg
  ver : versionP rest = some n
theorem CondIs.condP {l sg rest : Tx} {n : Int} (h : CondIs l sg rest n) : condP l = spanOfP sg n := by
  obtain ⟨b, r, rfl, hb⟩ := version_head h.ver
  have e := sign_len h.sign b r hb
  have hl := h.cat
  have h42 : l ≠ [42] := by
    rw [hl]
    have hn := dig_ne hb
    rcases h.sign with s | s | s | s | s | s | s <;> subst s <;> simp
  unfold Hst.condP
  rw [if_neg h42, hl, e, List.drop_left, List.take_left, h.ver]
theorem CondIs.signed {l sg rest : Tx} {n : Int} (h : CondIs l sg rest n) : signedR l = (sg, rest) := by
  obtain ⟨b, r, rfl, hb⟩ := version_head h.ver
  rw [h.cat, signedR_of h.sign b r hb]
theorem CondIs.isCond {l sg rest : Tx} {n : Int} (h : CondIs l sg rest n) : isCondR l = true := by
  unfold isCondR
  rw [h.signed]
  have hv := (versionP_some h.ver).1
  have : sg.isEmpty = false := by rcases h.sign with s | s | s | s | s | s | s <;> subst s <;> rfl
  simp [this, hv]
theorem condIs_of_cond {l : Tx} (h42 : l ≠ [42]) (h : isCondR l = true) : ∃ sg rest n, CondIs l sg rest n := by
  unfold isCondR at h
  simp [h42] at h
  obtain ⟨hs, hv⟩ := h
  rcases hd : signedR l with ⟨sg, rest⟩
  rw [hd] at hs hv
  simp at hs hv
  obtain ⟨h1, h2⟩ := signedR_sign hd hs
  exact ⟨sg, rest, _, h2, h1, versionP_of hv⟩
theorem condIs_of_span {l : Tx} {s : Int × Int} (h42 : l ≠ [42]) (h : condP l = some s) : ∃ sg rest n, CondIs l sg rest n := by
  unfold condP at h
  rw [if_neg h42] at h
  rcases hv : versionP (l.drop (signLen l)) with _ | n
  · rw [hv] at h; simp at h
  · rw [hv] at h
    simp only at h
    by_cases hs : IsSign (l.take (signLen l))
    · exact ⟨_, _, n, (List.take_append_drop _ l).symm, hs, hv⟩
    · rw [spanOfP_no hs] at h; simp at h

theorem below_place {v w : V3} (hv : Valid v) (hw : Valid w) : belowB v.a v.b v.c w.a w.b w.c = decide (place v < place w) := by
  obtain ⟨h1, h2, h3, h4, h5, h6⟩ := hv
  obtain ⟨k1, k2, k3, k4, k5, k6⟩ := hw
  unfold belowB place
  split
  · rw [Bool.eq_iff_iff]; simp; omega
  · split
    · rw [Bool.eq_iff_iff]; simp; omega
    · rw [Bool.eq_iff_iff]; simp; omega
theorem eq3_place {v w : V3} (hv : Valid v) (hw : Valid w) : eq3 v w = decide (place v = place w) := by
  obtain ⟨h1, h2, h3, h4, h5, h6⟩ := hv
  obtain ⟨k1, k2, k3, k4, k5, k6⟩ := hw
  unfold eq3 place
  rw [Bool.eq_iff_iff]; simp; omega
/-- A span holds a version. -/
def inSpan (s : Int × Int) (p : Int) : Bool := decide (s.1 ≤ p) && decide (p ≤ s.2)

theorem place_parts {w : V3} (hw : Valid w) : place w / 10000 = w.a ∧ place w / 100 % 100 = w.b ∧ place w % 100 = w.c ∧ place w % 10000 = w.b * 100 + w.c := by
  obtain ⟨k1, k2, k3, k4, k5, k6⟩ := hw
  unfold place
  omega

theorem span_holds {sg : Tx} (h : IsSign sg) {v w : V3} (hv : Valid v) (hw : Valid w) : ∃ s, spanOfP sg (place w) = some s ∧ holdsS sg w v = inSpan s (place v) := by
  have bv := place_bd hv
  have bw := place_bd hw
  have hb := below_place hv hw
  have he := eq3_place hv hw
  have hp := place_parts hw
  have hq := place_parts hv
  rcases h with h | h | h | h | h | h | h <;> subst h
  · refine ⟨(place w, place w), by simp [spanOfP], ?_⟩
    simp only [holdsS, he, inSpan]
    rw [Bool.eq_iff_iff]; simp; omega
  · refine ⟨(place w + 1, 999999), by simp [spanOfP], ?_⟩
    simp only [holdsS, hb, he, inSpan]
    rw [Bool.eq_iff_iff]; simp; omega
  · refine ⟨(place w, 999999), by simp [spanOfP], ?_⟩
    simp only [holdsS, hb, inSpan]
    rw [Bool.eq_iff_iff]; simp; omega
  · refine ⟨(0, place w - 1), by simp [spanOfP], ?_⟩
    simp only [holdsS, hb, inSpan]
    rw [Bool.eq_iff_iff]; simp; omega
  · refine ⟨(0, place w), by simp [spanOfP], ?_⟩
    simp only [holdsS, hb, he, inSpan]
    rw [Bool.eq_iff_iff]; simp; omega
  · refine ⟨(place w, caretHi (place w)), by simp [spanOfP], ?_⟩
    simp only [holdsS, hb, he, inSpan, caretHi, hp]
    obtain ⟨h1, h2, h3, h4, h5, h6⟩ := hv
    obtain ⟨k1, k2, k3, k4, k5, k6⟩ := hw
    by_cases c1 : w.a = 0
    · by_cases c2 : w.b = 0
      · rw [Bool.eq_iff_iff]; simp [c1, c2]; omega
      · rw [Bool.eq_iff_iff]; simp [c1, c2]; unfold place at *; omega
    · rw [Bool.eq_iff_iff]; simp [c1]; unfold place at *; omega
  · refine ⟨(place w, place w - place w % 100 + 100 - 1), by simp [spanOfP], ?_⟩
    simp only [holdsS, hb, inSpan, hp]
    obtain ⟨h1, h2, h3, h4, h5, h6⟩ := hv
    obtain ⟨k1, k2, k3, k4, k5, k6⟩ := hw
    rw [Bool.eq_iff_iff]; simp; unfold place at *; omega

/-- The law of one condition. -/
theorem cond_law (l : Tx) : (condP l = none ∧ isCondR l = false) ∨ (∃ s, condP l = some s ∧ isCondR l = true ∧ ∀ v, Valid v → holdsR l v = inSpan s (place v)) := by
  by_cases h42 : l = [42]
  · refine .inr ⟨(0, 999999), by simp [condP, h42], by simp [isCondR, h42], fun v hv => ?_⟩
    have := place_bd hv
    subst h42
    simp [holdsR, signedR, holdsS, inSpan]; omega
  · by_cases hc : isCondR l = true
    · obtain ⟨sg, rest, n, h⟩ := condIs_of_cond h42 hc
      obtain ⟨hv, rfl⟩ := versionP_some h.ver
      have hw := versionR_valid rest hv
      obtain ⟨s, h1, _⟩ := span_holds h.sign hw hw
      refine .inr ⟨s, by rw [h.condP, h1], hc, fun v hv => ?_⟩
      obtain ⟨s', h1', h2'⟩ := span_holds h.sign hv hw
      rw [h1] at h1'
      simp at h1'
      subst h1'
      unfold holdsR
      rw [h.signed]
      exact h2'
    · refine .inl ⟨?_, by simpa using hc⟩
      rcases hp : condP l with _ | s
      · rfl
      · obtain ⟨sg, rest, n, h⟩ := condIs_of_span h42 hp
        exact absurd h.isCond hc

/-! ### alternatives -/
theorem mx_le (a b p : Int) : mx a b ≤ p ↔ a ≤ p ∧ b ≤ p := by unfold mx; split <;> omega
theorem le_mn (a b p : Int) : p ≤ mn a b ↔ p ≤ a ∧ p ≤ b := by unfold mn; split <;> omega
theorem alt_law : ∀ (d : List Tx) (lo hi : Int), (altGo lo hi d = none ∧ d.all isCondR = false) ∨ (∃ s, altGo lo hi d = some s ∧ d.all isCondR = true ∧ ∀ v, Valid v → (inSpan (lo, hi) (place v) && d.all (fun c => holdsR c v)) = inSpan s (place v))
  | [], lo, hi => .inr ⟨(lo, hi), rfl, rfl, fun v _ => by simp⟩
  | c :: r, lo, hi => by
    rcases cond_law c with ⟨h1, h2⟩ | ⟨s, h1, h2, h3⟩
    · exact .inl ⟨by simp [altGo, h1], by simp [h2]⟩
    · rcases alt_law r (mx lo s.1) (mn hi s.2) with ⟨k1, k2⟩ | ⟨s', k1, k2, k3⟩
      · exact .inl ⟨by simp only [altGo, h1]; exact k1, by simp only [List.all_cons, k2, Bool.and_false]⟩
      · refine .inr ⟨s', by simp only [altGo, h1]; exact k1, by simp only [List.all_cons, k2, h2, Bool.and_self], fun v hv => ?_⟩
        rw [← k3 v hv, List.all_cons, h3 v hv]
        have e : inSpan (mx lo s.1, mn hi s.2) (place v) = (inSpan (lo, hi) (place v) && inSpan s (place v)) := by
          unfold inSpan
          rw [Bool.eq_iff_iff]
          simp [mx_le, le_mn]
          omega
        rw [e, Bool.and_assoc]
theorem altP_law (l : Tx) : (altP l = none ∧ isAltR l = false) ∨ (∃ s, altP l = some s ∧ isAltR l = true ∧ ∀ v, Valid v → altFitR l v = inSpan s (place v)) := by
  rcases alt_law (splitL 38 l) 0 999999 with h | ⟨s, h1, h2, h3⟩
  · exact .inl h
  · refine .inr ⟨s, h1, h2, fun v hv => ?_⟩
    rw [← h3 v hv]
    have := place_bd hv
    have e : inSpan (0, 999999) (place v) = true := by simp [inSpan]; omega
    rw [e, Bool.true_and]; rfl

/-! ### ranges -/
theorem range_law : ∀ (d : List Tx) (acc : List (Int × Int)), (rangeGo acc d = none ∧ d.all isAltR = false) ∨ (∃ sp, rangeGo acc d = some sp ∧ d.all isAltR = true ∧ ∀ v, Valid v → (fitsP acc (place v) || d.any (fun a => altFitR a v)) = fitsP sp (place v))
  | [], acc => .inr ⟨acc, rfl, rfl, fun v _ => by simp⟩
  | a :: r, acc => by
    rcases altP_law a with ⟨h1, h2⟩ | ⟨s, h1, h2, h3⟩
    · exact .inl ⟨by simp [rangeGo, h1], by simp [h2]⟩
    · rcases range_law r (acc ++ [s]) with ⟨k1, k2⟩ | ⟨sp, k1, k2, k3⟩
      · exact .inl ⟨by simp only [rangeGo, h1]; exact k1, by simp only [List.all_cons, k2, Bool.and_false]⟩
      · refine .inr ⟨sp, by simp only [rangeGo, h1]; exact k1, by simp only [List.all_cons, k2, h2, Bool.and_self], fun v hv => ?_⟩
        rw [← k3 v hv, List.any_cons, h3 v hv]
        have e : fitsP (acc ++ [s]) (place v) = (fitsP acc (place v) || inSpan s (place v)) := by
          unfold fitsP inSpan
          rw [List.any_append]
          simp only [List.any_cons, List.any_nil, Bool.or_false]
        rw [e, Bool.or_assoc]
theorem rangeP_law (l : Tx) : (rangeP l = none ∧ isRangeR l = false) ∨ (∃ sp, rangeP l = some sp ∧ isRangeR l = true ∧ ∀ v, Valid v → fitR l v = fitsP sp (place v)) := by
  unfold rangeP isRangeR
  by_cases h60 : 60 < l.length
  · exact .inl ⟨by rw [if_pos h60], by simp; omega⟩
  · rw [if_neg h60]
    have e : decide (l.length ≤ 60) = true := by simp; omega
    rw [e, Bool.true_and]
    rcases range_law (splitL 124 l) [] with h | ⟨sp, h1, h2, h3⟩
    · exact .inl h
    · refine .inr ⟨sp, h1, h2, fun v hv => ?_⟩
      rw [← h3 v hv]
      rfl

end Hst
end Go.Proofs.Ytecocheolbkneaa
namespace Go.Proofs.Ytecocheolbkneaa
open Go.RowKit
namespace Hst
set_option maxRecDepth 100000

theorem fits_law (r v : Tx) : fitsRef r v = fitsProg r v := by
  rcases rangeP_law r with ⟨h1, h2⟩ | ⟨sp, h1, h2, h3⟩
  · rw [fitsRef1 h2, fitsProg1 h1]
  · rcases hv : (versionR v).2 with _ | _
    · rw [fitsRef2 h2 hv, fitsProg2 h1 (versionP_no hv)]
    · rw [fitsRef3 h2 hv, fitsProg3 h1 (versionP_of hv), h3 _ (versionR_valid v hv)]

set_option maxHeartbeats 1000000 in
theorem fitting_any (r v : ByteArray) (w : World) :
    Calls Try.prog 3 #[.string r, .string v] w fun e w' => e = .returned (.bool true) ∧ Below w.heap.size w w' := by
  have HP := hid (fun w => pfits_any r v w)
  have HR := hid (fun w => rfitsf_any r v w)
  rw [fits_law] at HR
  generalize (fitsProg (tx r) (tx v)).1 = a at *
  generalize (fitsProg (tx r) (tx v)).2 = n at *
  go_enter Try.func3, Try.ntmps3
  go_wp2_with fail
  refine (HP.out _).mono ?_
  rintro e w1 ⟨rfl, hb1⟩
  go_wp2_with fail
  refine (HR.out _).mono ?_
  rintro e w2 ⟨rfl, hb2⟩
  have HB := hid (hb1.trans (hb2.mono hb1.size))
  clear hb1 hb2
  go_wp2_with (go_at_call 7; refine (num_any _ _).mono ?_; rintro e w' ⟨rfl, rfl⟩)
  go_ret
  exact ⟨rfl, HB.out⟩

end Hst
end Go.Proofs.Ytecocheolbkneaa
namespace Go.Proofs.Ytecocheolbkneaa
namespace FittingRow
open Go.ChangeShapes Go.WideShapes Go.ChangeAt Go.RowKit
open Go.ChangeMaps (open_string shut_string)
set_option linter.unusedVariables false

theorem own : ownKnob Try.prog.godebug = none := by kernel_rfl

set_option maxRecDepth 100000 in
theorem lifted (os : Os) (started : os.Started) (H : Type) (enc : TypeId × Value → H) :
    ReturnsInHanded {} Try.checked os 3 .any (Rows.fittingSpec.pre6 enc Try.prog Try.f3 Rows.fittingRow.domain false) (Rows.fittingSpec.post enc Try.prog Try.f3 false true false false) := by
  refine returnsInHanded_of_change (C := Try.checked) own started (by kernel_rfl) Try.func3
    (ChangeSpec.witness6 (enc := enc) (C := Try.checked) false ⟨#[], #[.string ByteArray.empty, .string ByteArray.empty], []⟩ 8 (by kernel_rfl) (by kernel_rfl) (by kernel_rfl) (by kernel_rfl)) ?_
  intro W base args ds gs before hval0 hW hcnd _
  have hval : ∀ (j : Nat) t v, Try.f3.params[j]? = some t → args[j]? = some v → Value.okWide Try.prog W .any base t v := hval0
  have hW' := hW
  obtain ⟨p, q, hA0, hV, rfl, hfz, hnd⟩ := hW
  have hA : DataW.TrodAll enc Try.prog W 0 (fun _ => true) true Try.f3.params.toList args.toList ds p := hA0
  rw [Try.params3] at hA hval
  obtain ⟨v0, vs0, d0, ds0, p0, q0, hargs, rfl, rfl, h0, r0⟩ := trodAll_cons hA
  obtain ⟨v1, vs1, d1, ds1, p1, q1, rfl, rfl, rfl, h1, r1⟩ := trodAll_cons r0
  obtain ⟨rfl, rfl, rfl⟩ := trodAll_nil r1
  obtain rfl : args = #[v0, v1] := by cases args; simp_all
  obtain ⟨rfl, rfl⟩ := trodVars_none hV
  obtain ⟨a0, rfl, rfl, rfl, w0⟩ := open_string Try.underlying9 (hval 0 9 v0 rfl rfl) h0
  obtain ⟨a1, rfl, rfl, rfl, w1⟩ := open_string Try.underlying9 (hval 1 9 v1 rfl rfl) h1
  clear hA0 hval0
  refine (Hst.fitting_any a0 a1 W).mono fun e W' ⟨he, bel⟩ => ?_
  subst he
  exact ⟨_, rfl, _, _, _, [], [], [], hW', trodAll_mk1 (shut_bool Try.underlying4 _), (trodAll_cons_mk (shut_string Try.underlying9 w0) (trodAll_cons_mk (shut_string Try.underlying9 w1) trodAll_mk0)), rfl, bel.frame _, fun h => by cases h⟩

theorem over : Rows.fittingRow.holds Try.pinned (OpenSpec.ofChange Rows.fittingSpec) :=
  OpenClaim.holds_of_wide 3 Try.f3 rfl rfl rfl rfl rfl rfl rfl ⟨rfl, rfl, rfl, rfl, rfl⟩ rfl rfl rfl rfl rfl (by kernel_rfl) Try.func3 (by kernel_rfl)
    (of_decide_eq_true (by kernel_rfl)) (by unfold Func.isWrapper; first | (rw [if_pos (by decide +kernel)]; kernel_rfl) | (rw [if_neg (by decide +kernel)]; exact ⟨rfl, rfl⟩))
    (fun os started H enc _ => lifted os started H enc)
end FittingRow

theorem fitting_holds : Rows.FittingSaid := FittingRow.over
#print axioms fitting_holds
end Go.Proofs.Ytecocheolbkneaa
