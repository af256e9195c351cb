/- Math, Defsm, Mathm, Defsl, Numt, Itoa -/
import Derived.Test.YtecocheolbkneaaDoorW01
import Derived.ShutString
namespace Go.Proofs.YtecocheolbkneaaDoor
namespace Hst

/-! ### numbers -/
theorem partP_eq : ∀ l : Tx, partP l = if 0 ≤ partR l then some (partR l) else none
  | [] => by simp [partP, partR]
  | [a] => by
    by_cases h : dig a = true
    · have h' := h
      simp [dig] at h'
      have e : partR [a] = (a.toNat : Int) - 48 := by simp [partR, partGoR, h]
      have e2 : partP [a] = some ((a.toNat : Int) - 48) := by
        simp only [partP, partGo, h, if_true]
        rw [if_neg (by simp), if_neg (by simp), if_neg (by omega)]; simp
      rw [e, e2, if_pos (by omega)]
    · have h : dig a = false := by simpa using h
      have e : partR [a] = -1 := by simp [partR, partGoR, h]
      have e2 : partP [a] = none := by simp [partP, partGo, h]
      rw [e, e2]; rfl
  | [a, b] => by
    by_cases h0 : a = 48
    · simp [partP, partR, h0]
    · have hne : ¬ ((a.toNat : Int) = 48) := fun h => h0 (UInt8.toNat_inj.1 (by simp; omega))
      have e0 : partR [a, b] = partGoR 0 [a, b] := by simp [partR, h0]
      have e1 : partP [a, b] = partGo 0 [a, b] := by simp [partP, h0]
      by_cases ha : dig a = true
      · have ha' := ha
        simp [dig] at ha'
        by_cases hb : dig b = true
        · have hb' := hb
          simp [dig] at hb'
          have f0 : partR [a, b] = 10 * ((a.toNat : Int) - 48) + ((b.toNat : Int) - 48) := by rw [e0]; simp only [partGoR, if_pos ha, if_pos hb]; omega
          have f1 : partP [a, b] = some (10 * ((a.toNat : Int) - 48) + ((b.toNat : Int) - 48)) := by
            rw [e1]; simp only [partGo, if_pos ha, if_pos hb]
            rw [if_neg (by omega), if_neg (by omega)]
            congr 1; omega
          rw [f0, f1, if_pos (by omega)]
        · have f0 : partR [a, b] = -1 := by rw [e0]; simp only [partGoR, if_pos ha, if_neg hb]
          have f1 : partP [a, b] = none := by
            rw [e1]; simp only [partGo, if_pos ha, if_neg hb]
            rw [if_neg (by omega)]
          rw [f0, f1]; rfl
      · have f0 : partR [a, b] = -1 := by rw [e0]; simp only [partGoR, if_neg ha]
        have f1 : partP [a, b] = none := by rw [e1]; simp only [partGo, if_neg ha]
        rw [f0, f1]; rfl
  | a :: b :: c :: r => by
    have e0 : partR (a :: b :: c :: r) = -1 := by simp [partR]
    rw [e0]
    show partP (a :: b :: c :: r) = none
    by_cases h0 : a = 48
    · simp [partP, h0]
    · have hne : ¬ ((a.toNat : Int) = 48) := fun h => h0 (UInt8.toNat_inj.1 (by simp; omega))
      have e1 : partP (a :: b :: c :: r) = partGo 0 (a :: b :: c :: r) := by simp [partP, h0]
      rw [e1]
      simp only [partGo]
      by_cases ha : dig a = true
      · have ha' := ha
        simp [dig] at ha'
        rw [if_pos ha, if_neg (by omega)]
        by_cases hb : dig b = true
        · have hb' := hb
          simp [dig] at hb'
          rw [if_pos hb, if_neg (by omega)]
          by_cases hc : dig c = true
          · have hc' := hc
            simp [dig] at hc'
            rw [if_pos hc, if_pos (by omega)]
          · rw [if_neg hc]
        · rw [if_neg hb]
      · rw [if_neg ha]
theorem partR_hi (l : Tx) : partR l ≤ 99 := by
  unfold partR
  split
  · omega
  · rename_i h
    match l, h with
    | [], h => simp at h
    | [a], _ =>
      simp only [partGoR]
      split
      · rename_i hd; simp [dig] at hd; omega
      · omega
    | [a, b], _ =>
      simp only [partGoR]
      split
      · rename_i hd
        simp [dig] at hd
        split
        · rename_i hd'; simp [dig] at hd'; omega
        · omega
      · omega
    | _ :: _ :: _ :: _, h => simp at h

/-! ### versions -/
def place (v : V3) : Int := (v.a * 100 + v.b) * 100 + v.c
structure Valid (v : V3) : Prop where
  a0 : 0 ≤ v.a
  a1 : v.a ≤ 99
  b0 : 0 ≤ v.b
  b1 : v.b ≤ 99
  c0 : 0 ≤ v.c
  c1 : v.c ≤ 99
theorem place_bd {v : V3} (h : Valid v) : 0 ≤ place v ∧ place v ≤ 999999 := by
  obtain ⟨h1, h2, h3, h4, h5, h6⟩ := h
  unfold place; omega

theorem versionP_eq (l : Tx) : versionP l = if (versionR l).2 = true then some (place (versionR l).1) else none := by
  unfold versionP versionR
  by_cases h8 : 8 < l.length
  · rw [if_pos h8, if_pos h8]; rfl
  · rw [if_neg h8, if_neg h8]
    by_cases h3 : (splitL 46 l).length ≠ 3
    · rw [if_pos h3, if_pos h3]; rfl
    · rw [if_neg h3, if_neg h3]
      match hd : splitL 46 l, h3 with
      | [x, y, z], _ =>
        simp only [verGo, partP_eq, List.getD_cons_zero, List.getD_cons_succ]
        by_cases hx : 0 ≤ partR x
        · by_cases hy : 0 ≤ partR y
          · by_cases hz : 0 ≤ partR z
            · simp [hx, hy, hz, place]
            · simp [hx, hy, hz]
          · simp [hx, hy]
        · simp [hx]
      | [], h3 => simp at h3
      | [_], h3 => simp at h3
      | [_, _], h3 => simp at h3
      | _ :: _ :: _ :: _ :: _, h3 => simp at h3
theorem versionR_valid (l : Tx) (h : (versionR l).2 = true) : Valid (versionR l).1 := by
  unfold versionR at h ⊢
  split at h
  · simp at h
  · split at h
    · simp at h
    · rename_i h8 h3
      rw [if_neg h8, if_neg h3]
      simp at h
      exact ⟨h.1.1, partR_hi _, h.1.2, partR_hi _, h.2, partR_hi _⟩
theorem versionP_some {l : Tx} {n : Int} (h : versionP l = some n) : (versionR l).2 = true ∧ n = place (versionR l).1 := by
  rw [versionP_eq] at h
  split at h
  · rename_i h'; simp at h; exact ⟨h', h.symm⟩
  · simp at h
theorem versionP_of {l : Tx} (h : (versionR l).2 = true) : versionP l = some (place (versionR l).1) := by rw [versionP_eq, if_pos h]
theorem versionP_no {l : Tx} (h : (versionR l).2 = false) : versionP l = none := by rw [versionP_eq, h]; rfl

/-- A version begins with a digit. -/
theorem version_head {l : Tx} {n : Int} (h : versionP l = some n) : ∃ b r, l = b :: r ∧ dig b = true := by
  unfold versionP at h
  split at h
  · simp at h
  · split at h
    · simp at h
    · match l with
      | [] => simp [splitL, verGo, partP] at h
      | b :: r =>
        refine ⟨b, r, rfl, ?_⟩
        by_cases hb : (b.toNat : Int) = 46
        · simp [splitL, hb, verGo, partP] at h
        · simp only [splitL, if_neg hb] at h
          rcases hs : splitL 46 r with _ | ⟨q, qs⟩
          · exact absurd hs (splitL_ne 46 r)
          · rw [hs] at h
            simp only [verGo] at h
            rcases hp : partP (b :: q) with _ | m
            · rw [hp] at h; simp at h
            · by_cases hd : dig b = true
              · exact hd
              · exfalso
                simp only [partP, partGo, if_neg hd] at hp
                simp at hp

/-! ### conditions -/
def IsSign (sg : Tx) : Prop := sg = [61] ∨ sg = [62] ∨ sg = [62, 61] ∨ sg = [60] ∨ sg = [60, 61] ∨ sg = [94] ∨ sg = [126]
theorem spanOfP_no {sg : Tx} (h : ¬ IsSign sg) (v : Int) : spanOfP sg v = none := by
  simp only [IsSign, not_or] at h
  simp [spanOfP, h]
theorem dig_ne {b : UInt8} (h : dig b = true) : b ≠ 61 ∧ b ≠ 62 ∧ b ≠ 60 ∧ b ≠ 94 ∧ b ≠ 126 ∧ b ≠ 42 := by
  simp [dig] at h
  refine ⟨?_, ?_, ?_, ?_, ?_, ?_⟩ <;> (intro e; subst e; simp at h)
theorem sign_len {sg : Tx} (h : IsSign sg) (b : UInt8) (r : Tx) (hb : dig b = true) : signLen (sg ++ b :: r) = sg.length := by
  simp [dig] at hb
  rcases h with h | h | h | h | h | h | h <;> subst h <;> simp [signLen, hb, dig]
theorem signedR_of {sg : Tx} (h : IsSign sg) (b : UInt8) (r : Tx) (hb : dig b = true) : signedR (sg ++ b :: r) = (sg, b :: r) := by
  have hn := dig_ne hb
  rcases h with h | h | h | h | h | h | h <;> subst h <;> simp [signedR, hn]
theorem signedR_sign {l sg rest : Tx} (h : signedR l = (sg, rest)) (hne : sg ≠ []) : IsSign sg ∧ l = sg ++ rest := by
  unfold signedR at h
  split at h
  · rename_i h2
    simp at h
    obtain ⟨rfl, rfl⟩ := h
    refine ⟨?_, (List.take_append_drop 2 l).symm⟩
    rcases h2 with h2 | h2 <;> rw [h2] <;> simp [IsSign]
  · split at h
    · simp at h; exact absurd h.1.symm (by simpa using hne)
    · split at h
      · rename_i h3
        simp at h
        obtain ⟨rfl, rfl⟩ := h
        refine ⟨?_, by simp⟩
        rcases h3 with h3 | h3 | h3 | h3 | h3 <;> subst h3 <;> simp [IsSign]
      · simp at h; exact absurd h.1.symm (by simpa using hne)

/-- A condition with a sign. -/
structure CondIs (l sg rest : Tx) (n : Int) : Prop where
  cat : l = sg ++ rest
  sign : IsSign sg
  ver : versionP rest = some n
theorem CondIs.condP {l sg rest : Tx} {n : Int} (h : CondIs l sg rest n) : condP l = spanOfP sg n := by
  obtain ⟨b, r, rfl, hb⟩ := version_head h.ver
  have e := sign_len h.sign b r hb
  have hl := h.cat
  have h42 : l ≠ [42] := by
    rw [hl]
    have hn := dig_ne hb
    rcases h.sign with s | s | s | s | s | s | s <;> subst s <;> simp
  unfold Hst.condP
  rw [if_neg h42, hl, e, List.drop_left, List.take_left, h.ver]
theorem CondIs.signed {l sg rest : Tx} {n : Int} (h : CondIs l sg rest n) : signedR l = (sg, rest) := by
  obtain ⟨b, r, rfl, hb⟩ := version_head h.ver
  rw [h.cat, signedR_of h.sign b r hb]
theorem CondIs.isCond {l sg rest : Tx} {n : Int} (h : CondIs l sg rest n) : isCondR l = true := by
  unfold isCondR
  rw [h.signed]
  have hv := (versionP_some h.ver).1
  have : sg.isEmpty = false := by rcases h.sign with s | s | s | s | s | s | s <;> subst s <;> rfl
  simp [this, hv]
theorem condIs_of_cond {l : Tx} (h42 : l ≠ [42]) (h : isCondR l = true) : ∃ sg rest n, CondIs l sg rest n := by
  unfold isCondR at h
  simp [h42] at h
  obtain ⟨hs, hv⟩ := h
  rcases hd : signedR l with ⟨sg, rest⟩
  rw [hd] at hs hv
  simp at hs hv
  obtain ⟨h1, h2⟩ := signedR_sign hd hs
  exact ⟨sg, rest, _, h2, h1, versionP_of hv⟩
theorem condIs_of_span {l : Tx} {s : Int × Int} (h42 : l ≠ [42]) (h : condP l = some s) : ∃ sg rest n, CondIs l sg rest n := by
  unfold condP at h
  rw [if_neg h42] at h
  rcases hv : versionP (l.drop (signLen l)) with _ | n
  · rw [hv] at h; simp at h
  · rw [hv] at h
    simp only at h
    by_cases hs : IsSign (l.take (signLen l))
    · exact ⟨_, _, n, (List.take_append_drop _ l).symm, hs, hv⟩
    · rw [spanOfP_no hs] at h; simp at h

theorem below_place {v w : V3} (hv : Valid v) (hw : Valid w) : belowB v.a v.b v.c w.a w.b w.c = decide (place v < place w) := by
  obtain ⟨h1, h2, h3, h4, h5, h6⟩ := hv
  obtain ⟨k1, k2, k3, k4, k5, k6⟩ := hw
  unfold belowB place
  split
  · rw [Bool.eq_iff_iff]; simp; omega
  · split
    · rw [Bool.eq_iff_iff]; simp; omega
    · rw [Bool.eq_iff_iff]; simp; omega
theorem eq3_place {v w : V3} (hv : Valid v) (hw : Valid w) : eq3 v w = decide (place v = place w) := by
  obtain ⟨h1, h2, h3, h4, h5, h6⟩ := hv
  obtain ⟨k1, k2, k3, k4, k5, k6⟩ := hw
  unfold eq3 place
  rw [Bool.eq_iff_iff]; simp; omega
/-- A span holds a version. -/
def inSpan (s : Int × Int) (p : Int) : Bool := decide (s.1 ≤ p) && decide (p ≤ s.2)

theorem place_parts {w : V3} (hw : Valid w) : place w / 10000 = w.a ∧ place w / 100 % 100 = w.b ∧ place w % 100 = w.c ∧ place w % 10000 = w.b * 100 + w.c := by
  obtain ⟨k1, k2, k3, k4, k5, k6⟩ := hw
  unfold place
  omega

theorem span_holds {sg : Tx} (h : IsSign sg) {v w : V3} (hv : Valid v) (hw : Valid w) : ∃ s, spanOfP sg (place w) = some s ∧ holdsS sg w v = inSpan s (place v) := by
  have bv := place_bd hv
  have bw := place_bd hw
  have hb := below_place hv hw
  have he := eq3_place hv hw
  have hp := place_parts hw
  have hq := place_parts hv
  rcases h with h | h | h | h | h | h | h <;> subst h
  · refine ⟨(place w, place w), by simp [spanOfP], ?_⟩
    simp only [holdsS, he, inSpan]
    rw [Bool.eq_iff_iff]; simp; omega
  · refine ⟨(place w + 1, 999999), by simp [spanOfP], ?_⟩
    simp only [holdsS, hb, he, inSpan]
    rw [Bool.eq_iff_iff]; simp; omega
  · refine ⟨(place w, 999999), by simp [spanOfP], ?_⟩
    simp only [holdsS, hb, inSpan]
    rw [Bool.eq_iff_iff]; simp; omega
  · refine ⟨(0, place w - 1), by simp [spanOfP], ?_⟩
    simp only [holdsS, hb, inSpan]
    rw [Bool.eq_iff_iff]; simp; omega
  · refine ⟨(0, place w), by simp [spanOfP], ?_⟩
    simp only [holdsS, hb, he, inSpan]
    rw [Bool.eq_iff_iff]; simp; omega
  · refine ⟨(place w, caretHi (place w)), by simp [spanOfP], ?_⟩
    simp only [holdsS, hb, he, inSpan, caretHi, hp]
    obtain ⟨h1, h2, h3, h4, h5, h6⟩ := hv
    obtain ⟨k1, k2, k3, k4, k5, k6⟩ := hw
    by_cases c1 : w.a = 0
    · by_cases c2 : w.b = 0
      · rw [Bool.eq_iff_iff]; simp [c1, c2]; omega
      · rw [Bool.eq_iff_iff]; simp [c1, c2]; unfold place at *; omega
    · rw [Bool.eq_iff_iff]; simp [c1]; unfold place at *; omega
  · refine ⟨(place w, place w - place w % 100 + 100 - 1), by simp [spanOfP], ?_⟩
    simp only [holdsS, hb, inSpan, hp]
    obtain ⟨h1, h2, h3, h4, h5, h6⟩ := hv
    obtain ⟨k1, k2, k3, k4, k5, k6⟩ := hw
    rw [Bool.eq_iff_iff]; simp; unfold place at *; omega

/-- The law of one condition. -/
theorem cond_law (l : Tx) : (condP l = none ∧ isCondR l = false) ∨ (∃ s, condP l = some s ∧ isCondR l = true ∧ ∀ v, Valid v → holdsR l v = inSpan s (place v)) := by
  by_cases h42 : l = [42]
  · refine .inr ⟨(0, 999999), by simp [condP, h42], by simp [isCondR, h42], fun v hv => ?_⟩
    have := place_bd hv
    subst h42
    simp [holdsR, signedR, holdsS, inSpan]; omega
  · by_cases hc : isCondR l = true
    · obtain ⟨sg, rest, n, h⟩ := condIs_of_cond h42 hc
      obtain ⟨hv, rfl⟩ := versionP_some h.ver
      have hw := versionR_valid rest hv
      obtain ⟨s, h1, _⟩ := span_holds h.sign hw hw
      refine .inr ⟨s, by rw [h.condP, h1], hc, fun v hv => ?_⟩
      obtain ⟨s', h1', h2'⟩ := span_holds h.sign hv hw
      rw [h1] at h1'
      simp at h1'
      subst h1'
      unfold holdsR
      rw [h.signed]
      exact h2'
    · refine .inl ⟨?_, by simpa using hc⟩
      rcases hp : condP l with _ | s
      · rfl
      · obtain ⟨sg, rest, n, h⟩ := condIs_of_span h42 hp
        exact absurd h.isCond hc

/-! ### alternatives -/
theorem mx_le (a b p : Int) : mx a b ≤ p ↔ a ≤ p ∧ b ≤ p := by unfold mx; split <;> omega
theorem le_mn (a b p : Int) : p ≤ mn a b ↔ p ≤ a ∧ p ≤ b := by unfold mn; split <;> omega
theorem alt_law : ∀ (d : List Tx) (lo hi : Int), (altGo lo hi d = none ∧ d.all isCondR = false) ∨ (∃ s, altGo lo hi d = some s ∧ d.all isCondR = true ∧ ∀ v, Valid v → (inSpan (lo, hi) (place v) && d.all (fun c => holdsR c v)) = inSpan s (place v))
  | [], lo, hi => .inr ⟨(lo, hi), rfl, rfl, fun v _ => by simp⟩
  | c :: r, lo, hi => by
    rcases cond_law c with ⟨h1, h2⟩ | ⟨s, h1, h2, h3⟩
    · exact .inl ⟨by simp [altGo, h1], by simp [h2]⟩
    · rcases alt_law r (mx lo s.1) (mn hi s.2) with ⟨k1, k2⟩ | ⟨s', k1, k2, k3⟩
      · exact .inl ⟨by simp only [altGo, h1]; exact k1, by simp only [List.all_cons, k2, Bool.and_false]⟩
      · refine .inr ⟨s', by simp only [altGo, h1]; exact k1, by simp only [List.all_cons, k2, h2, Bool.and_self], fun v hv => ?_⟩
        rw [← k3 v hv, List.all_cons, h3 v hv]
        have e : inSpan (mx lo s.1, mn hi s.2) (place v) = (inSpan (lo, hi) (place v) && inSpan s (place v)) := by
          unfold inSpan
          rw [Bool.eq_iff_iff]
          simp [mx_le, le_mn]
          omega
        rw [e, Bool.and_assoc]
theorem altP_law (l : Tx) : (altP l = none ∧ isAltR l = false) ∨ (∃ s, altP l = some s ∧ isAltR l = true ∧ ∀ v, Valid v → altFitR l v = inSpan s (place v)) := by
  rcases alt_law (splitL 38 l) 0 999999 with h | ⟨s, h1, h2, h3⟩
  · exact .inl h
  · refine .inr ⟨s, h1, h2, fun v hv => ?_⟩
    rw [← h3 v hv]
    have := place_bd hv
    have e : inSpan (0, 999999) (place v) = true := by simp [inSpan]; omega
    rw [e, Bool.true_and]; rfl

/-! ### ranges -/
theorem range_law : ∀ (d : List Tx) (acc : List (Int × Int)), (rangeGo acc d = none ∧ d.all isAltR = false) ∨ (∃ sp, rangeGo acc d = some sp ∧ d.all isAltR = true ∧ ∀ v, Valid v → (fitsP acc (place v) || d.any (fun a => altFitR a v)) = fitsP sp (place v))
  | [], acc => .inr ⟨acc, rfl, rfl, fun v _ => by simp⟩
  | a :: r, acc => by
    rcases altP_law a with ⟨h1, h2⟩ | ⟨s, h1, h2, h3⟩
    · exact .inl ⟨by simp [rangeGo, h1], by simp [h2]⟩
    · rcases range_law r (acc ++ [s]) with ⟨k1, k2⟩ | ⟨sp, k1, k2, k3⟩
      · exact .inl ⟨by simp only [rangeGo, h1]; exact k1, by simp only [List.all_cons, k2, Bool.and_false]⟩
      · refine .inr ⟨sp, by simp only [rangeGo, h1]; exact k1, by simp only [List.all_cons, k2, h2, Bool.and_self], fun v hv => ?_⟩
        rw [← k3 v hv, List.any_cons, h3 v hv]
        have e : fitsP (acc ++ [s]) (place v) = (fitsP acc (place v) || inSpan s (place v)) := by
          unfold fitsP inSpan
          rw [List.any_append]
          simp only [List.any_cons, List.any_nil, Bool.or_false]
        rw [e, Bool.or_assoc]
theorem rangeP_law (l : Tx) : (rangeP l = none ∧ isRangeR l = false) ∨ (∃ sp, rangeP l = some sp ∧ isRangeR l = true ∧ ∀ v, Valid v → fitR l v = fitsP sp (place v)) := by
  unfold rangeP isRangeR
  by_cases h60 : 60 < l.length
  · exact .inl ⟨by rw [if_pos h60], by simp; omega⟩
  · rw [if_neg h60]
    have e : decide (l.length ≤ 60) = true := by simp; omega
    rw [e, Bool.true_and]
    rcases range_law (splitL 124 l) [] with h | ⟨sp, h1, h2, h3⟩
    · exact .inl h
    · refine .inr ⟨sp, h1, h2, fun v hv => ?_⟩
      rw [← h3 v hv]
      rfl

end Hst
end Go.Proofs.YtecocheolbkneaaDoor
namespace Go.Proofs.YtecocheolbkneaaDoor
namespace Hst

def afterR (v : V3) : V3 × Bool := if v.c < 99 then (⟨v.a, v.b, v.c + 1⟩, true) else if v.b < 99 then (⟨v.a, v.b + 1, 0⟩, true) else if v.a < 99 then (⟨v.a + 1, 0, 0⟩, true) else (v, false)
def ptsC (c : Tx) : List V3 := if (versionR (signedR c).2).2 = true then
    (versionR (signedR c).2).1 :: (if (afterR (versionR (signedR c).2).1).2 = true then [(afterR (versionR (signedR c).2).1).1] else [])
  else []
def ptsA (a : Tx) : List V3 := (splitL 38 a).flatMap ptsC
def pointsR (l : Tx) : List V3 := [⟨0, 0, 0⟩] ++ (splitL 124 l).flatMap ptsA
def meetP (sp sq : List (Int × Int)) : Bool := sp.any fun s => sq.any fun t => !decide (mn s.2 t.2 < mx s.1 t.1)
def meetR (one other : Tx) : Bool := (pointsR one ++ pointsR other).any fun p => fitR one p && fitR other p

end Hst
end Go.Proofs.YtecocheolbkneaaDoor
namespace Go.Proofs.YtecocheolbkneaaDoor
namespace Hst

theorem after_yes {v : V3} (h : Valid v) (hm : (afterR v).2 = true) : Valid (afterR v).1 ∧ place (afterR v).1 = place v + 1 := by
  obtain ⟨h1, h2, h3, h4, h5, h6⟩ := h
  unfold afterR at hm ⊢
  by_cases c1 : v.c < 99
  · rw [if_pos c1]
    exact ⟨⟨h1, h2, h3, h4, by simp; omega, by simp; omega⟩, by simp only [place]; omega⟩
  · by_cases c2 : v.b < 99
    · rw [if_neg c1, if_pos c2]
      exact ⟨⟨h1, h2, by simp; omega, by simp; omega, by simp, by simp⟩, by simp only [place]; omega⟩
    · by_cases c3 : v.a < 99
      · rw [if_neg c1, if_neg c2, if_pos c3]
        exact ⟨⟨by simp; omega, by simp; omega, by simp, by simp, by simp, by simp⟩, by simp only [place]; omega⟩
      · rw [if_neg c1, if_neg c2, if_neg c3] at hm
        simp at hm
theorem after_no {v : V3} (h : Valid v) (hm : (afterR v).2 = false) : place v = 999999 := by
  obtain ⟨h1, h2, h3, h4, h5, h6⟩ := h
  unfold afterR at hm
  by_cases c1 : v.c < 99
  · rw [if_pos c1] at hm; simp at hm
  · by_cases c2 : v.b < 99
    · rw [if_neg c1, if_pos c2] at hm; simp at hm
    · by_cases c3 : v.a < 99
      · rw [if_neg c1, if_neg c2, if_pos c3] at hm; simp at hm
      · unfold place; omega
theorem ptsC_valid {c : Tx} {p : V3} (h : p ∈ ptsC c) : Valid p := by
  unfold ptsC at h
  split at h
  · rename_i hv
    have hw := versionR_valid _ hv
    simp only [List.mem_cons] at h
    rcases h with rfl | h
    · exact hw
    · split at h
      · rename_i hm
        simp at h
        subst h
        exact (after_yes hw hm).1
      · simp at h
  · simp at h
theorem zero_valid : Valid ⟨0, 0, 0⟩ := ⟨by simp, by simp, by simp, by simp, by simp, by simp⟩
theorem pointsR_valid {l : Tx} {p : V3} (h : p ∈ pointsR l) : Valid p := by
  unfold pointsR at h
  simp only [List.mem_append, List.mem_singleton, List.mem_flatMap] at h
  rcases h with rfl | ⟨a, _, h⟩
  · exact zero_valid
  · unfold ptsA at h
    simp only [List.mem_flatMap] at h
    obtain ⟨c, _, h⟩ := h
    exact ptsC_valid h

theorem pts_self {c sg rest : Tx} (hd : signedR c = (sg, rest)) (hv : (versionR rest).2 = true) : (versionR rest).1 ∈ ptsC c := by
  unfold ptsC
  rw [hd, if_pos hv]
  simp
theorem pts_next {c sg rest : Tx} (hd : signedR c = (sg, rest)) (hv : (versionR rest).2 = true) (hm : (afterR (versionR rest).1).2 = true) : (afterR (versionR rest).1).1 ∈ ptsC c := by
  unfold ptsC
  rw [hd, if_pos hv, if_pos hm]
  simp

theorem cond_low {c : Tx} {s : Int × Int} (h : condP c = some s) (hs : s.1 ≤ 999999) : s.1 = 0 ∨ ∃ p ∈ ptsC c, place p = s.1 := by
  by_cases h42 : c = [42]
  · subst h42
    simp [condP] at h
    subst h
    exact .inl rfl
  · obtain ⟨sg, rest, n, hc⟩ := condIs_of_span h42 h
    obtain ⟨hv, rfl⟩ := versionP_some hc.ver
    have hw := versionR_valid rest hv
    have hd := hc.signed
    rw [hc.condP] at h
    have same : s.1 = place (versionR rest).1 → s.1 = 0 ∨ ∃ p ∈ ptsC c, place p = s.1 := fun e => .inr ⟨_, pts_self hd hv, e.symm⟩
    rcases hc.sign with e | e | e | e | e | e | e <;> subst e <;> simp [spanOfP] at h <;> subst h
    · exact same rfl
    · simp only at hs ⊢
      rcases hm : (afterR (versionR rest).1).2 with _ | _
      · have := after_no hw hm; omega
      · exact .inr ⟨_, pts_next hd hv hm, (after_yes hw hm).2⟩
    · exact same rfl
    · exact .inl rfl
    · exact .inl rfl
    · exact same rfl
    · exact same rfl

theorem alt_low : ∀ (d : List Tx) (lo hi : Int) (s : Int × Int), altGo lo hi d = some s → (s.1 = lo ∨ ∃ c ∈ d, ∃ x, condP c = some x ∧ x.1 = s.1) ∧ s.2 ≤ hi
  | [], lo, hi, s, h => by simp [altGo] at h; subst h; exact ⟨.inl rfl, Int.le_refl _⟩
  | c :: r, lo, hi, s, h => by
    simp only [altGo] at h
    rcases hc : condP c with _ | x
    · rw [hc] at h; simp at h
    · rw [hc] at h
      have ih := alt_low r _ _ s h
      refine ⟨?_, ?_⟩
      · rcases ih.1 with e | ⟨c', h1, x', h2, h3⟩
        · unfold mx at e
          split at e
          · exact .inr ⟨c, by simp, x, hc, e.symm⟩
          · exact .inl e
        · exact .inr ⟨c', by simp [h1], x', h2, h3⟩
      · exact ((le_mn hi x.2 s.2).1 ih.2).1
theorem altP_low {l : Tx} {s : Int × Int} (h : altP l = some s) : s.2 ≤ 999999 ∧ (s.1 ≤ 999999 → s.1 = 0 ∨ ∃ p ∈ ptsA l, place p = s.1) := by
  have hl := alt_low _ _ _ _ h
  refine ⟨hl.2, fun hs => ?_⟩
  rcases hl.1 with e | ⟨c, h1, x, h2, h3⟩
  · exact .inl e
  · rcases cond_low h2 (by omega) with e | ⟨p, hp, e⟩
    · exact .inl (by omega)
    · refine .inr ⟨p, ?_, by omega⟩
      unfold ptsA
      exact List.mem_flatMap.2 ⟨c, h1, hp⟩
theorem range_low : ∀ (d : List Tx) (acc sp : List (Int × Int)), rangeGo acc d = some sp → ∀ s ∈ sp, s ∈ acc ∨ ∃ a ∈ d, altP a = some s
  | [], acc, sp, h, s, hs => by simp [rangeGo] at h; subst h; exact .inl hs
  | a :: r, acc, sp, h, s, hs => by
    simp only [rangeGo] at h
    rcases ha : altP a with _ | x
    · rw [ha] at h; simp at h
    · rw [ha] at h
      rcases range_low r _ sp h s hs with e | ⟨b, h1, h2⟩
      · simp at e
        rcases e with e | rfl
        · exact .inl e
        · exact .inr ⟨a, by simp, ha⟩
      · exact .inr ⟨b, by simp [h1], h2⟩
/-- Where a span of a range begins there is a point. -/
theorem rangeP_low {l : Tx} {sp : List (Int × Int)} (h : rangeP l = some sp) {s : Int × Int} (hs : s ∈ sp) : s.2 ≤ 999999 ∧ (s.1 ≤ 999999 → ∃ p ∈ pointsR l, place p = s.1) := by
  unfold rangeP at h
  split at h
  · simp at h
  · rcases range_low _ _ _ h s hs with e | ⟨a, h1, h2⟩
    · simp at e
    · have hl := altP_low h2
      refine ⟨hl.1, fun hs => ?_⟩
      rcases hl.2 hs with e | ⟨p, hp, e⟩
      · exact ⟨⟨0, 0, 0⟩, by simp [pointsR], by rw [e]; rfl⟩
      · refine ⟨p, ?_, e⟩
        unfold pointsR
        simp only [List.mem_append, List.mem_flatMap]
        exact .inr ⟨a, h1, hp⟩

theorem fitsP_of {sp : List (Int × Int)} {s : Int × Int} {p : Int} (hs : s ∈ sp) (h1 : s.1 ≤ p) (h2 : p ≤ s.2) : fitsP sp p = true := by
  unfold fitsP
  rw [List.any_eq_true]
  exact ⟨s, hs, by simp [h1, h2]⟩
theorem of_fitsP {sp : List (Int × Int)} {p : Int} (h : fitsP sp p = true) : ∃ s ∈ sp, s.1 ≤ p ∧ p ≤ s.2 := by
  unfold fitsP at h
  rw [List.any_eq_true] at h
  obtain ⟨s, hs, h⟩ := h
  simp at h
  exact ⟨s, hs, h⟩

theorem meet_law {r s : Tx} {sp sq : List (Int × Int)} (h1 : rangeP r = some sp) (h2 : rangeP s = some sq) (f1 : ∀ v, Valid v → fitR r v = fitsP sp (place v)) (f2 : ∀ v, Valid v → fitR s v = fitsP sq (place v)) : meetR r s = meetP sp sq := by
  rw [Bool.eq_iff_iff]
  constructor
  · intro h
    unfold meetR at h
    rw [List.any_eq_true] at h
    obtain ⟨p, hp, h⟩ := h
    have hv : Valid p := by
      simp only [List.mem_append] at hp
      rcases hp with hp | hp <;> exact pointsR_valid hp
    rw [Bool.and_eq_true, f1 p hv, f2 p hv] at h
    obtain ⟨x, hx, a1, a2⟩ := of_fitsP h.1
    obtain ⟨y, hy, b1, b2⟩ := of_fitsP h.2
    unfold meetP
    rw [List.any_eq_true]
    refine ⟨x, hx, ?_⟩
    rw [List.any_eq_true]
    refine ⟨y, hy, ?_⟩
    have e1 := (mx_le x.1 y.1 (place p)).2 ⟨a1, b1⟩
    have e2 := (le_mn x.2 y.2 (place p)).2 ⟨a2, b2⟩
    simp
    omega
  · intro h
    unfold meetP at h
    rw [List.any_eq_true] at h
    obtain ⟨x, hx, h⟩ := h
    rw [List.any_eq_true] at h
    obtain ⟨y, hy, h⟩ := h
    simp at h
    have e1 := (mx_le x.1 y.1 (mx x.1 y.1)).1 (Int.le_refl _)
    have e2 := (le_mn x.2 y.2 (mn x.2 y.2)).1 (Int.le_refl _)
    have l1 := rangeP_low h1 hx
    have l2 := rangeP_low h2 hy
    have key : ∃ p, p ∈ pointsR r ++ pointsR s ∧ Valid p ∧ place p = mx x.1 y.1 := by
      have hm : mx x.1 y.1 = x.1 ∨ mx x.1 y.1 = y.1 := by unfold mx; split <;> simp
      rcases hm with hm | hm
      · obtain ⟨p, hp, e⟩ := l1.2 (by omega)
        exact ⟨p, List.mem_append.2 (.inl hp), pointsR_valid hp, by omega⟩
      · obtain ⟨p, hp, e⟩ := l2.2 (by omega)
        exact ⟨p, List.mem_append.2 (.inr hp), pointsR_valid hp, by omega⟩
    obtain ⟨p, hp, hv, e⟩ := key
    unfold meetR
    rw [List.any_eq_true]
    refine ⟨p, hp, ?_⟩
    rw [Bool.and_eq_true, f1 p hv, f2 p hv]
    exact ⟨fitsP_of hx (by omega) (by omega), fitsP_of hy (by omega) (by omega)⟩

end Hst
end Go.Proofs.YtecocheolbkneaaDoor
namespace Go.Proofs.YtecocheolbkneaaDoor
namespace Hst

def lowGo (lo : Int) (found : Bool) : List (Int × Int) → Int × Bool
  | [] => (lo, found)
  | s :: r => if s.2 < s.1 then lowGo lo found r else if found = false ∨ s.1 < lo then lowGo s.1 true r else lowGo lo true r
def lowB (v : V3) : Option V3 → Bool
  | none => true
  | some u => belowB v.a v.b v.c u.a u.b u.c
def lowV (f : V3 → Bool) (o : Option V3) : List V3 → Option V3
  | [] => o
  | v :: r => lowV f (if f v = true ∧ lowB v o = true then some v else o) r

theorem lowGo_spec : ∀ (sp : List (Int × Int)) (lo : Int) (found : Bool),
    ((lowGo lo found sp).2 = true → ((lowGo lo found sp).1 = lo ∧ found = true) ∨ ∃ s ∈ sp, s.1 ≤ s.2 ∧ (lowGo lo found sp).1 = s.1) ∧
    ((lowGo lo found sp).2 = false → found = false ∧ ∀ s ∈ sp, s.2 < s.1) ∧ (found = true → (lowGo lo found sp).1 ≤ lo) ∧ (∀ s ∈ sp, s.1 ≤ s.2 → (lowGo lo found sp).1 ≤ s.1)
  | [], lo, found => by simp [lowGo]
  | s :: r, lo, found => by
    simp only [lowGo]
    by_cases h1 : s.2 < s.1
    · rw [if_pos h1]
      obtain ⟨i1, i2, i3, i4⟩ := lowGo_spec r lo found
      refine ⟨fun h => ?_, fun h => ?_, i3, fun t ht hle => ?_⟩
      · rcases i1 h with e | ⟨t, ht, e⟩
        · exact .inl e
        · exact .inr ⟨t, by simp [ht], e⟩
      · refine ⟨(i2 h).1, fun t ht => ?_⟩
        simp at ht
        rcases ht with rfl | ht
        · exact h1
        · exact (i2 h).2 t ht
      · simp at ht
        rcases ht with rfl | ht
        · omega
        · exact i4 t ht hle
    · rw [if_neg h1]
      by_cases h2 : found = false ∨ s.1 < lo
      · rw [if_pos h2]
        obtain ⟨i1, i2, i3, i4⟩ := lowGo_spec r s.1 true
        have i3' := i3 rfl
        refine ⟨fun h => ?_, fun h => ?_, fun h => ?_, fun t ht hle => ?_⟩
        · rcases i1 h with e | ⟨t, ht, e⟩
          · exact .inr ⟨s, by simp, by omega, e.1⟩
          · exact .inr ⟨t, by simp [ht], e⟩
        · have := (i2 h).1; simp at this
        · rcases h2 with h2 | h2
          · rw [h2] at h; simp at h
          · omega
        · simp at ht
          rcases ht with rfl | ht
          · exact i3'
          · exact i4 t ht hle
      · rw [if_neg h2]
        simp only [not_or] at h2
        have hf : found = true := by simpa using h2.1
        obtain ⟨i1, i2, i3, i4⟩ := lowGo_spec r lo true
        have i3' := i3 rfl
        refine ⟨fun h => ?_, fun h => ?_, fun _ => i3', fun t ht hle => ?_⟩
        · rcases i1 h with e | ⟨t, ht, e⟩
          · exact .inl ⟨e.1, hf⟩
          · exact .inr ⟨t, by simp [ht], e⟩
        · have := (i2 h).1; simp at this
        · simp at ht
          rcases ht with rfl | ht
          · omega
          · exact i4 t ht hle

theorem lowV_none (f : V3 → Bool) : ∀ (l : List V3) (o : Option V3), lowV f o l = none → o = none ∧ ∀ v ∈ l, f v = false
  | [], o, h => by simp [lowV] at h; exact ⟨h, by simp⟩
  | v :: r, o, h => by
    simp only [lowV] at h
    by_cases hc : f v = true ∧ lowB v o = true
    · rw [if_pos hc] at h
      have := (lowV_none f r _ h).1
      simp at this
    · rw [if_neg hc] at h
      obtain ⟨rfl, ih⟩ := lowV_none f r _ h
      refine ⟨rfl, fun u hu => ?_⟩
      simp at hu
      rcases hu with rfl | hu
      · simpa [lowB] using hc
      · exact ih u hu
theorem lowV_some (f : V3 → Bool) : ∀ (l : List V3) (o : Option V3) (w : V3), (∀ v ∈ l, Valid v) → (∀ u, o = some u → Valid u) → lowV f o l = some w →
    (o = some w ∨ (w ∈ l ∧ f w = true)) ∧ (∀ u, o = some u → place w ≤ place u) ∧ (∀ v ∈ l, f v = true → place w ≤ place v)
  | [], o, w, _, _, h => by
    simp [lowV] at h
    subst h
    exact ⟨.inl rfl, fun u hu => by simp at hu; subst hu; exact Int.le_refl _, by simp⟩
  | v :: r, o, w, hl, ho, h => by
    simp only [lowV] at h
    have hv := hl v (by simp)
    by_cases hc : f v = true ∧ lowB v o = true
    · rw [if_pos hc] at h
      obtain ⟨i1, i2, i3⟩ := lowV_some f r (some v) w (fun u hu => hl u (by simp [hu])) (fun u hu => by simp at hu; subst hu; exact hv) h
      have i2' := i2 v rfl
      refine ⟨?_, fun u hu => ?_, fun u hu hfu => ?_⟩
      · rcases i1 with e | ⟨e1, e2⟩
        · simp at e; subst e; exact .inr ⟨by simp, hc.1⟩
        · exact .inr ⟨by simp [e1], e2⟩
      · subst hu
        have hb := hc.2
        simp only [lowB, below_place hv (ho u rfl), decide_eq_true_eq] at hb
        omega
      · simp at hu
        rcases hu with rfl | hu
        · exact i2'
        · exact i3 u hu hfu
    · rw [if_neg hc] at h
      obtain ⟨i1, i2, i3⟩ := lowV_some f r o w (fun u hu => hl u (by simp [hu])) ho h
      refine ⟨?_, i2, fun u hu hfu => ?_⟩
      · rcases i1 with e | ⟨e1, e2⟩
        · exact .inl e
        · exact .inr ⟨by simp [e1], e2⟩
      · simp at hu
        rcases hu with rfl | hu
        · match o, ho, i2, hc with
          | none, _, _, hc => exact absurd ⟨hfu, rfl⟩ hc
          | some x, ho, i2, hc =>
            have hx := ho x rfl
            have := i2 x rfl
            simp only [lowB, below_place hv hx, hfu, true_and, decide_eq_true_eq] at hc
            omega
        · exact i3 u hu hfu

/-- The law of the lowest version. -/
theorem low_law {r : Tx} {sp : List (Int × Int)} (h1 : rangeP r = some sp) (f1 : ∀ v, Valid v → fitR r v = fitsP sp (place v)) :
    ((lowGo 0 false sp).2 = false ∧ lowV (fitR r) none (pointsR r) = none) ∨
    ((lowGo 0 false sp).2 = true ∧ ∃ v, lowV (fitR r) none (pointsR r) = some v ∧ Valid v ∧ place v = (lowGo 0 false sp).1 ∧ fitsP sp (lowGo 0 false sp).1 = true ∧ ∀ p, fitsP sp p = true → (lowGo 0 false sp).1 ≤ p) := by
  obtain ⟨i1, i2, _, i4⟩ := lowGo_spec sp 0 false
  rcases hf : (lowGo 0 false sp).2 with _ | _
  · refine .inl ⟨rfl, ?_⟩
    rcases hl : lowV (fitR r) none (pointsR r) with _ | v
    · rfl
    · exfalso
      obtain ⟨j1, _, _⟩ := lowV_some _ _ _ v (fun u hu => pointsR_valid hu) (by simp) hl
      rcases j1 with e | ⟨e1, e2⟩
      · simp at e
      · rw [f1 v (pointsR_valid e1)] at e2
        obtain ⟨s, hs, a, b⟩ := of_fitsP e2
        have := (i2 hf).2 s hs
        omega
  · refine .inr ⟨rfl, ?_⟩
    rcases i1 hf with e | ⟨s, hs, hle, e⟩
    · simp at e
    · have hlow := rangeP_low h1 hs
      obtain ⟨p, hp, hpe⟩ := hlow.2 (by omega)
      have hpv := pointsR_valid hp
      have hpf : fitR r p = true := by rw [f1 p hpv]; exact fitsP_of hs (by omega) (by omega)
      have hmin : ∀ q, fitsP sp q = true → (lowGo 0 false sp).1 ≤ q := by
        intro q hq
        obtain ⟨t, ht, a, b⟩ := of_fitsP hq
        have := i4 t ht (by omega)
        omega
      rcases hl : lowV (fitR r) none (pointsR r) with _ | v
      · have := (lowV_none _ _ _ hl).2 p hp
        rw [hpf] at this
        simp at this
      · obtain ⟨j1, _, j3⟩ := lowV_some _ _ _ v (fun u hu => pointsR_valid hu) (by simp) hl
        rcases j1 with e' | ⟨e1, e2⟩
        · simp at e'
        · have hv := pointsR_valid e1
          have k1 := j3 p hp hpf
          rw [f1 v hv] at e2
          have k2 := hmin _ e2
          exact ⟨v, rfl, hv, by omega, by rw [e]; exact fitsP_of hs (Int.le_refl _) hle, hmin⟩

end Hst
end Go.Proofs.YtecocheolbkneaaDoor
namespace Go.Proofs.YtecocheolbkneaaDoor
open Go.RowKit
namespace Hst

/-- A number from 0 to 99, written. -/
def numT (n : Nat) : Tx := if n < 10 then [(48 + n).toUInt8] else [(48 + n / 10).toUInt8, (48 + n % 10).toUInt8]
theorem numT_len (n : Nat) : (numT n).length ≤ 2 := by unfold numT; split <;> simp
theorem hid' {p : Prop} (h : p) : Hid p := h
theorem ret_str {a b : ByteArray} (h : a = b) : Ending.returned (.string a) = .returned (.string b) := by rw [h]

/-- A version's three numbers, written. -/
def verT (a b c : Nat) : Tx := numT a ++ [46] ++ numT b ++ [46] ++ numT c
theorem verT_len (a b c : Nat) : (verT a b c).length ≤ 8 := by
  have h1 := numT_len a; have h2 := numT_len b; have h3 := numT_len c
  simp [verT]; omega
theorem bs_append (l m : Tx) : bs l ++ bs m = bs (l ++ m) := by
  apply ByteArray.ext
  simp [bs]

end Hst
end Go.Proofs.YtecocheolbkneaaDoor
namespace Go.Proofs.YtecocheolbkneaaDoor
open Go.RowKit
namespace Hst
set_option maxRecDepth 100000

theorem all_one (C : ByteArray) (hC : ∀ m, m < 10 → C.extract m (m + 1) = bs (numT m)) (n : Nat) (h : n < 10) : C.extract n (n + 1) = bs (numT n) := hC n h
theorem all_two (C : ByteArray) (hC : ∀ m, m < 100 → ¬ m < 10 → C.extract (m * 2) (m * 2 + 2) = bs (numT m)) (n : Nat) (h : n < 100) (h10 : ¬ n < 10) : C.extract (n * 2) (n * 2 + 2) = bs (numT n) := hC n h h10

set_option maxRecDepth 100000 in
set_option maxHeartbeats 1000000 in
theorem small_any (n : Nat) (w : World) (h : n < 100) :
    Calls Tryd.prog 94 #[.int .i64 n] w fun e w' => e = .returned (.string (bs (numT n))) ∧ w' = w := by
  by_cases h10 : n < 10
  · go_enter Tryd.func94, Tryd.ntmps94
    go_wp2
    go_ret
    refine ⟨ret_str (all_one _ ?_ n h10), rfl⟩
    decide +kernel
  · go_enter Tryd.func94, Tryd.ntmps94
    go_wp2
    go_ret
    refine ⟨ret_str (all_two _ ?_ n h h10), rfl⟩
    decide +kernel

set_option maxHeartbeats 1000000 in
theorem formatInt_any (n : Nat) (w : World) (h : n < 100) :
    Calls Tryd.prog 85 #[.int .i64 n, .int .i64 10] w fun e w' => e = .returned (.string (bs (numT n))) ∧ w' = w := by
  go_enter Tryd.func85, Tryd.ntmps85
  go_wp2_with (go_at_call 94; refine (small_any n _ h).mono ?_; rintro e w' ⟨rfl, rfl⟩)
  go_ret
  exact ⟨rfl, rfl⟩
set_option maxHeartbeats 1000000 in
theorem iitoa_any (n : Nat) (w : World) (h : n < 100) :
    Calls Tryd.prog 69 #[.int .i64 n] w fun e w' => e = .returned (.string (bs (numT n))) ∧ w' = w := by
  go_enter Tryd.func69, Tryd.ntmps69
  go_wp2_with (go_at_call 85; refine (formatInt_any n _ h).mono ?_; rintro e w' ⟨rfl, rfl⟩)
  go_ret
  exact ⟨rfl, rfl⟩
set_option maxHeartbeats 1000000 in
theorem itoa_nat (n : Nat) (w : World) (h : n < 100) :
    Calls Tryd.prog 39 #[.int .i64 n] w fun e w' => e = .returned (.string (bs (numT n))) ∧ w' = w := by
  go_enter Tryd.func39, Tryd.ntmps39
  go_wp2_with (go_at_call 69; refine (iitoa_any n _ h).mono ?_; rintro e w' ⟨rfl, rfl⟩)
  go_ret
  exact ⟨rfl, rfl⟩
theorem itoa_any (n : Int) (w : World) (h0 : 0 ≤ n) (h : n < 100) :
    Calls Tryd.prog 39 #[.int .i64 n] w fun e w' => e = .returned (.string (bs (numT n.toNat))) ∧ w' = w := by
  obtain ⟨m, rfl⟩ := Int.eq_ofNat_of_zero_le h0
  exact itoa_nat m w (by omega)

set_option maxHeartbeats 1000000 in
theorem third_any (n : Int) (w : World) (h0 : 0 ≤ n) (h1 : n ≤ 999999) :
    Calls Tryd.prog 61 #[.int .i64 n] w fun e w' => e = .returned (.int .i64 (n % 100)) ∧ w' = w := by
  go_enter Tryd.func61, Tryd.ntmps61
  go_wp2
  go_ret
  exact ⟨rfl, rfl⟩

set_option maxHeartbeats 1000000 in
theorem text_any (n : Int) (w : World) (h0 : 0 ≤ n) (h1 : n ≤ 999999) :
    Calls Tryd.prog 33 #[.int .i64 n] w fun e w' => e = .returned (.string (bs (verT (n / 10000).toNat (n / 100 % 100).toNat (n % 100).toNat))) ∧ w' = w := by
  have HI1 := hid' (fun w => itoa_any (n / 10000) w (by omega) (by omega))
  have HI2 := hid' (fun w => itoa_any (n / 100 % 100) w (by omega) (by omega))
  have HI3 := hid' (fun w => itoa_any (n % 100) w (by omega) (by omega))
  have HE : Hid (bs (numT (n / 10000).toNat) ++ bs [46] ++ bs (numT (n / 100 % 100).toNat) ++ bs [46] ++ bs (numT (n % 100).toNat) = bs (verT (n / 10000).toNat (n / 100 % 100).toNat (n % 100).toNat)) := by
    unfold Hid; rw [bs_append, bs_append, bs_append, bs_append]; rfl
  have l1 : (bs (numT (n / 10000).toNat)).size ≤ 2 := by rw [bs_size]; exact numT_len _
  have l2 : (bs (numT (n / 100 % 100).toNat)).size ≤ 2 := by rw [bs_size]; exact numT_len _
  have l3 : (bs (numT (n % 100).toNat)).size ≤ 2 := by rw [bs_size]; exact numT_len _
  generalize bs (verT (n / 10000).toNat (n / 100 % 100).toNat (n % 100).toNat) = q at *
  generalize bs (numT (n / 10000).toNat) = q1 at *
  generalize bs (numT (n / 100 % 100).toNat) = q2 at *
  generalize bs (numT (n % 100).toNat) = q3 at *
  go_enter Tryd.func33, Tryd.ntmps33
  go_wp2_with fail
  refine (first_any _ _ h0 h1).mono ?_
  rintro e w' ⟨rfl, rfl⟩
  go_wp2_with fail
  refine (HI1.out _).mono ?_
  rintro e w' ⟨rfl, rfl⟩
  go_wp2_with fail
  refine (second_any _ _ h0 h1).mono ?_
  rintro e w' ⟨rfl, rfl⟩
  go_wp2_with fail
  refine (HI2.out _).mono ?_
  rintro e w' ⟨rfl, rfl⟩
  go_wp2_with fail
  refine (third_any _ _ h0 h1).mono ?_
  rintro e w' ⟨rfl, rfl⟩
  go_wp2_with fail
  refine (HI3.out _).mono ?_
  rintro e w' ⟨rfl, rfl⟩
  go_wp2
  go_ret
  exact ⟨ret_str HE.out, rfl⟩

end Hst
end Go.Proofs.YtecocheolbkneaaDoor
