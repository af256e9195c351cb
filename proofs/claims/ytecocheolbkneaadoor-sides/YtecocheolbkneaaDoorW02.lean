/- Math, Split, Part -/
import Derived.Test.YtecocheolbkneaaDoorW01
import Derived.Deep.AppendLies
namespace Go.Proofs.YtecocheolbkneaaDoor
namespace Hst

/-! ### numbers -/
theorem partP_eq : ∀ l : Tx, partP l = if 0 ≤ partR l then some (partR l) else none
  | [] => by simp [partP, partR]
  | [a] => by
    by_cases h : dig a = true
    · have h' := h
      simp [dig] at h'
      have e : partR [a] = (a.toNat : Int) - 48 := by simp [partR, partGoR, h]
      have e2 : partP [a] = some ((a.toNat : Int) - 48) := by
        simp only [partP, partGo, h, if_true]
        rw [if_neg (by simp), if_neg (by simp), if_neg (by omega)]; simp
      rw [e, e2, if_pos (by omega)]
    · have h : dig a = false := by simpa using h
      have e : partR [a] = -1 := by simp [partR, partGoR, h]
      have e2 : partP [a] = none := by simp [partP, partGo, h]
      rw [e, e2]; rfl
  | [a, b] => by
    by_cases h0 : a = 48
    · simp [partP, partR, h0]
    · have hne : ¬ ((a.toNat : Int) = 48) := fun h => h0 (UInt8.toNat_inj.1 (by simp; omega))
      have e0 : partR [a, b] = partGoR 0 [a, b] := by simp [partR, h0]
      have e1 : partP [a, b] = partGo 0 [a, b] := by simp [partP, h0]
      by_cases ha : dig a = true
      · have ha' := ha
        simp [dig] at ha'
        by_cases hb : dig b = true
        · have hb' := hb
          simp [dig] at hb'
          have f0 : partR [a, b] = 10 * ((a.toNat : Int) - 48) + ((b.toNat : Int) - 48) := by rw [e0]; simp only [partGoR, if_pos ha, if_pos hb]; omega
          have f1 : partP [a, b] = some (10 * ((a.toNat : Int) - 48) + ((b.toNat : Int) - 48)) := by
            rw [e1]; simp only [partGo, if_pos ha, if_pos hb]
            rw [if_neg (by omega), if_neg (by omega)]
            congr 1; omega
          rw [f0, f1, if_pos (by omega)]
        · have f0 : partR [a, b] = -1 := by rw [e0]; simp only [partGoR, if_pos ha, if_neg hb]
          have f1 : partP [a, b] = none := by
            rw [e1]; simp only [partGo, if_pos ha, if_neg hb]
            rw [if_neg (by omega)]
          rw [f0, f1]; rfl
      · have f0 : partR [a, b] = -1 := by rw [e0]; simp only [partGoR, if_neg ha]
        have f1 : partP [a, b] = none := by rw [e1]; simp only [partGo, if_neg ha]
        rw [f0, f1]; rfl
  | a :: b :: c :: r => by
    have e0 : partR (a :: b :: c :: r) = -1 := by simp [partR]
    rw [e0]
    show partP (a :: b :: c :: r) = none
    by_cases h0 : a = 48
    · simp [partP, h0]
    · have hne : ¬ ((a.toNat : Int) = 48) := fun h => h0 (UInt8.toNat_inj.1 (by simp; omega))
      have e1 : partP (a :: b :: c :: r) = partGo 0 (a :: b :: c :: r) := by simp [partP, h0]
      rw [e1]
      simp only [partGo]
      by_cases ha : dig a = true
      · have ha' := ha
        simp [dig] at ha'
        rw [if_pos ha, if_neg (by omega)]
        by_cases hb : dig b = true
        · have hb' := hb
          simp [dig] at hb'
          rw [if_pos hb, if_neg (by omega)]
          by_cases hc : dig c = true
          · have hc' := hc
            simp [dig] at hc'
            rw [if_pos hc, if_pos (by omega)]
          · rw [if_neg hc]
        · rw [if_neg hb]
      · rw [if_neg ha]
theorem partR_hi (l : Tx) : partR l ≤ 99 := by
  unfold partR
  split
  · omega
  · rename_i h
    match l, h with
    | [], h => simp at h
    | [a], _ =>
      simp only [partGoR]
      split
      · rename_i hd; simp [dig] at hd; omega
      · omega
    | [a, b], _ =>
      simp only [partGoR]
      split
      · rename_i hd
        simp [dig] at hd
        split
        · rename_i hd'; simp [dig] at hd'; omega
        · omega
      · omega
    | _ :: _ :: _ :: _, h => simp at h

/-! ### versions -/
def place (v : V3) : Int := (v.a * 100 + v.b) * 100 + v.c
structure Valid (v : V3) : Prop where
  a0 : 0 ≤ v.a
  a1 : v.a ≤ 99
  b0 : 0 ≤ v.b
  b1 : v.b ≤ 99
  c0 : 0 ≤ v.c
  c1 : v.c ≤ 99
theorem place_bd {v : V3} (h : Valid v) : 0 ≤ place v ∧ place v ≤ 999999 := by
  obtain ⟨h1, h2, h3, h4, h5, h6⟩ := h
  unfold place; omega

theorem versionP_eq (l : Tx) : versionP l = if (versionR l).2 = true then some (place (versionR l).1) else none := by
  unfold versionP versionR
  by_cases h8 : 8 < l.length
  · rw [if_pos h8, if_pos h8]; rfl
  · rw [if_neg h8, if_neg h8]
    by_cases h3 : (splitL 46 l).length ≠ 3
    · rw [if_pos h3, if_pos h3]; rfl
    · rw [if_neg h3, if_neg h3]
      match hd : splitL 46 l, h3 with
      | [x, y, z], _ =>
        simp only [verGo, partP_eq, List.getD_cons_zero, List.getD_cons_succ]
        by_cases hx : 0 ≤ partR x
        · by_cases hy : 0 ≤ partR y
          · by_cases hz : 0 ≤ partR z
            · simp [hx, hy, hz, place]
            · simp [hx, hy, hz]
          · simp [hx, hy]
        · simp [hx]
      | [], h3 => simp at h3
      | [_], h3 => simp at h3
      | [_, _], h3 => simp at h3
      | _ :: _ :: _ :: _ :: _, h3 => simp at h3
theorem versionR_valid (l : Tx) (h : (versionR l).2 = true) : Valid (versionR l).1 := by
  unfold versionR at h ⊢
  split at h
  · simp at h
  · split at h
    · simp at h
    · rename_i h8 h3
      rw [if_neg h8, if_neg h3]
      simp at h
      exact ⟨h.1.1, partR_hi _, h.1.2, partR_hi _, h.2, partR_hi _⟩
theorem versionP_some {l : Tx} {n : Int} (h : versionP l = some n) : (versionR l).2 = true ∧ n = place (versionR l).1 := by
  rw [versionP_eq] at h
  split at h
  · rename_i h'; simp at h; exact ⟨h', h.symm⟩
  · simp at h
theorem versionP_of {l : Tx} (h : (versionR l).2 = true) : versionP l = some (place (versionR l).1) := by rw [versionP_eq, if_pos h]
theorem versionP_no {l : Tx} (h : (versionR l).2 = false) : versionP l = none := by rw [versionP_eq, h]; rfl

/-- A version begins with a digit. -/
theorem version_head {l : Tx} {n : Int} (h : versionP l = some n) : ∃ b r, l = b :: r ∧ dig b = true := by
  unfold versionP at h
  split at h
  · simp at h
  · split at h
    · simp at h
    · match l with
      | [] => simp [splitL, verGo, partP] at h
      | b :: r =>
        refine ⟨b, r, rfl, ?_⟩
        by_cases hb : (b.toNat : Int) = 46
        · simp [splitL, hb, verGo, partP] at h
        · simp only [splitL, if_neg hb] at h
          rcases hs : splitL 46 r with _ | ⟨q, qs⟩
          · exact absurd hs (splitL_ne 46 r)
          · rw [hs] at h
            simp only [verGo] at h
            rcases hp : partP (b :: q) with _ | m
            · rw [hp] at h; simp at h
            · by_cases hd : dig b = true
              · exact hd
              · exfalso
                simp only [partP, partGo, if_neg hd] at hp
                simp at hp

/-! ### conditions -/
def IsSign (sg : Tx) : Prop := sg = [61] ∨ sg = [62] ∨ sg = [62, 61] ∨ sg = [60] ∨ sg = [60, 61] ∨ sg = [94] ∨ sg = [126]
theorem spanOfP_no {sg : Tx} (h : ¬ IsSign sg) (v : Int) : spanOfP sg v = none := by
  simp only [IsSign, not_or] at h
  simp [spanOfP, h]
theorem dig_ne {b : UInt8} (h : dig b = true) : b ≠ 61 ∧ b ≠ 62 ∧ b ≠ 60 ∧ b ≠ 94 ∧ b ≠ 126 ∧ b ≠ 42 := by
  simp [dig] at h
  refine ⟨?_, ?_, ?_, ?_, ?_, ?_⟩ <;> (intro e; subst e; simp at h)
theorem sign_len {sg : Tx} (h : IsSign sg) (b : UInt8) (r : Tx) (hb : dig b = true) : signLen (sg ++ b :: r) = sg.length := by
  simp [dig] at hb
  rcases h with h | h | h | h | h | h | h <;> subst h <;> simp [signLen, hb, dig]
theorem signedR_of {sg : Tx} (h : IsSign sg) (b : UInt8) (r : Tx) (hb : dig b = true) : signedR (sg ++ b :: r) = (sg, b :: r) := by
  have hn := dig_ne hb
  rcases h with h | h | h | h | h | h | h <;> subst h <;> simp [signedR, hn]
theorem signedR_sign {l sg rest : Tx} (h : signedR l = (sg, rest)) (hne : sg ≠ []) : IsSign sg ∧ l = sg ++ rest := by
  unfold signedR at h
  split at h
  · rename_i h2
    simp at h
    obtain ⟨rfl, rfl⟩ := h
    refine ⟨?_, (List.take_append_drop 2 l).symm⟩
    rcases h2 with h2 | h2 <;> rw [h2] <;> simp [IsSign]
  · split at h
    · simp at h; exact absurd h.1.symm (by simpa using hne)
    · split at h
      · rename_i h3
        simp at h
        obtain ⟨rfl, rfl⟩ := h
        refine ⟨?_, by simp⟩
        rcases h3 with h3 | h3 | h3 | h3 | h3 <;> subst h3 <;> simp [IsSign]
      · simp at h; exact absurd h.1.symm (by simpa using hne)

/-- A condition with a sign. -/
structure CondIs (l sg rest : Tx) (n : Int) : Prop where
  cat : l = sg ++ rest
  sign : IsSign sg
  ver : versionP rest = some n
theorem CondIs.condP {l sg rest : Tx} {n : Int} (h : CondIs l sg rest n) : condP l = spanOfP sg n := by
  obtain ⟨b, r, rfl, hb⟩ := version_head h.ver
  have e := sign_len h.sign b r hb
  have hl := h.cat
  have h42 : l ≠ [42] := by
    rw [hl]
    have hn := dig_ne hb
    rcases h.sign with s | s | s | s | s | s | s <;> subst s <;> simp
  unfold Hst.condP
  rw [if_neg h42, hl, e, List.drop_left, List.take_left, h.ver]
theorem CondIs.signed {l sg rest : Tx} {n : Int} (h : CondIs l sg rest n) : signedR l = (sg, rest) := by
  obtain ⟨b, r, rfl, hb⟩ := version_head h.ver
  rw [h.cat, signedR_of h.sign b r hb]
theorem CondIs.isCond {l sg rest : Tx} {n : Int} (h : CondIs l sg rest n) : isCondR l = true := by
  unfold isCondR
  rw [h.signed]
  have hv := (versionP_some h.ver).1
  have : sg.isEmpty = false := by rcases h.sign with s | s | s | s | s | s | s <;> subst s <;> rfl
  simp [this, hv]
theorem condIs_of_cond {l : Tx} (h42 : l ≠ [42]) (h : isCondR l = true) : ∃ sg rest n, CondIs l sg rest n := by
  unfold isCondR at h
  simp [h42] at h
  obtain ⟨hs, hv⟩ := h
  rcases hd : signedR l with ⟨sg, rest⟩
  rw [hd] at hs hv
  simp at hs hv
  obtain ⟨h1, h2⟩ := signedR_sign hd hs
  exact ⟨sg, rest, _, h2, h1, versionP_of hv⟩
theorem condIs_of_span {l : Tx} {s : Int × Int} (h42 : l ≠ [42]) (h : condP l = some s) : ∃ sg rest n, CondIs l sg rest n := by
  unfold condP at h
  rw [if_neg h42] at h
  rcases hv : versionP (l.drop (signLen l)) with _ | n
  · rw [hv] at h; simp at h
  · rw [hv] at h
    simp only at h
    by_cases hs : IsSign (l.take (signLen l))
    · exact ⟨_, _, n, (List.take_append_drop _ l).symm, hs, hv⟩
    · rw [spanOfP_no hs] at h; simp at h

theorem below_place {v w : V3} (hv : Valid v) (hw : Valid w) : belowB v.a v.b v.c w.a w.b w.c = decide (place v < place w) := by
  obtain ⟨h1, h2, h3, h4, h5, h6⟩ := hv
  obtain ⟨k1, k2, k3, k4, k5, k6⟩ := hw
  unfold belowB place
  split
  · rw [Bool.eq_iff_iff]; simp; omega
  · split
    · rw [Bool.eq_iff_iff]; simp; omega
    · rw [Bool.eq_iff_iff]; simp; omega
theorem eq3_place {v w : V3} (hv : Valid v) (hw : Valid w) : eq3 v w = decide (place v = place w) := by
  obtain ⟨h1, h2, h3, h4, h5, h6⟩ := hv
  obtain ⟨k1, k2, k3, k4, k5, k6⟩ := hw
  unfold eq3 place
  rw [Bool.eq_iff_iff]; simp; omega
/-- A span holds a version. -/
def inSpan (s : Int × Int) (p : Int) : Bool := decide (s.1 ≤ p) && decide (p ≤ s.2)

theorem place_parts {w : V3} (hw : Valid w) : place w / 10000 = w.a ∧ place w / 100 % 100 = w.b ∧ place w % 100 = w.c ∧ place w % 10000 = w.b * 100 + w.c := by
  obtain ⟨k1, k2, k3, k4, k5, k6⟩ := hw
  unfold place
  omega

theorem span_holds {sg : Tx} (h : IsSign sg) {v w : V3} (hv : Valid v) (hw : Valid w) : ∃ s, spanOfP sg (place w) = some s ∧ holdsS sg w v = inSpan s (place v) := by
  have bv := place_bd hv
  have bw := place_bd hw
  have hb := below_place hv hw
  have he := eq3_place hv hw
  have hp := place_parts hw
  have hq := place_parts hv
  rcases h with h | h | h | h | h | h | h <;> subst h
  · refine ⟨(place w, place w), by simp [spanOfP], ?_⟩
    simp only [holdsS, he, inSpan]
    rw [Bool.eq_iff_iff]; simp; omega
  · refine ⟨(place w + 1, 999999), by simp [spanOfP], ?_⟩
    simp only [holdsS, hb, he, inSpan]
    rw [Bool.eq_iff_iff]; simp; omega
  · refine ⟨(place w, 999999), by simp [spanOfP], ?_⟩
    simp only [holdsS, hb, inSpan]
    rw [Bool.eq_iff_iff]; simp; omega
  · refine ⟨(0, place w - 1), by simp [spanOfP], ?_⟩
    simp only [holdsS, hb, inSpan]
    rw [Bool.eq_iff_iff]; simp; omega
  · refine ⟨(0, place w), by simp [spanOfP], ?_⟩
    simp only [holdsS, hb, he, inSpan]
    rw [Bool.eq_iff_iff]; simp; omega
  · refine ⟨(place w, caretHi (place w)), by simp [spanOfP], ?_⟩
    simp only [holdsS, hb, he, inSpan, caretHi, hp]
    obtain ⟨h1, h2, h3, h4, h5, h6⟩ := hv
    obtain ⟨k1, k2, k3, k4, k5, k6⟩ := hw
    by_cases c1 : w.a = 0
    · by_cases c2 : w.b = 0
      · rw [Bool.eq_iff_iff]; simp [c1, c2]; omega
      · rw [Bool.eq_iff_iff]; simp [c1, c2]; unfold place at *; omega
    · rw [Bool.eq_iff_iff]; simp [c1]; unfold place at *; omega
  · refine ⟨(place w, place w - place w % 100 + 100 - 1), by simp [spanOfP], ?_⟩
    simp only [holdsS, hb, inSpan, hp]
    obtain ⟨h1, h2, h3, h4, h5, h6⟩ := hv
    obtain ⟨k1, k2, k3, k4, k5, k6⟩ := hw
    rw [Bool.eq_iff_iff]; simp; unfold place at *; omega

/-- The law of one condition. -/
theorem cond_law (l : Tx) : (condP l = none ∧ isCondR l = false) ∨ (∃ s, condP l = some s ∧ isCondR l = true ∧ ∀ v, Valid v → holdsR l v = inSpan s (place v)) := by
  by_cases h42 : l = [42]
  · refine .inr ⟨(0, 999999), by simp [condP, h42], by simp [isCondR, h42], fun v hv => ?_⟩
    have := place_bd hv
    subst h42
    simp [holdsR, signedR, holdsS, inSpan]; omega
  · by_cases hc : isCondR l = true
    · obtain ⟨sg, rest, n, h⟩ := condIs_of_cond h42 hc
      obtain ⟨hv, rfl⟩ := versionP_some h.ver
      have hw := versionR_valid rest hv
      obtain ⟨s, h1, _⟩ := span_holds h.sign hw hw
      refine .inr ⟨s, by rw [h.condP, h1], hc, fun v hv => ?_⟩
      obtain ⟨s', h1', h2'⟩ := span_holds h.sign hv hw
      rw [h1] at h1'
      simp at h1'
      subst h1'
      unfold holdsR
      rw [h.signed]
      exact h2'
    · refine .inl ⟨?_, by simpa using hc⟩
      rcases hp : condP l with _ | s
      · rfl
      · obtain ⟨sg, rest, n, h⟩ := condIs_of_span h42 hp
        exact absurd h.isCond hc

/-! ### alternatives -/
theorem mx_le (a b p : Int) : mx a b ≤ p ↔ a ≤ p ∧ b ≤ p := by unfold mx; split <;> omega
theorem le_mn (a b p : Int) : p ≤ mn a b ↔ p ≤ a ∧ p ≤ b := by unfold mn; split <;> omega
theorem alt_law : ∀ (d : List Tx) (lo hi : Int), (altGo lo hi d = none ∧ d.all isCondR = false) ∨ (∃ s, altGo lo hi d = some s ∧ d.all isCondR = true ∧ ∀ v, Valid v → (inSpan (lo, hi) (place v) && d.all (fun c => holdsR c v)) = inSpan s (place v))
  | [], lo, hi => .inr ⟨(lo, hi), rfl, rfl, fun v _ => by simp⟩
  | c :: r, lo, hi => by
    rcases cond_law c with ⟨h1, h2⟩ | ⟨s, h1, h2, h3⟩
    · exact .inl ⟨by simp [altGo, h1], by simp [h2]⟩
    · rcases alt_law r (mx lo s.1) (mn hi s.2) with ⟨k1, k2⟩ | ⟨s', k1, k2, k3⟩
      · exact .inl ⟨by simp only [altGo, h1]; exact k1, by simp only [List.all_cons, k2, Bool.and_false]⟩
      · refine .inr ⟨s', by simp only [altGo, h1]; exact k1, by simp only [List.all_cons, k2, h2, Bool.and_self], fun v hv => ?_⟩
        rw [← k3 v hv, List.all_cons, h3 v hv]
        have e : inSpan (mx lo s.1, mn hi s.2) (place v) = (inSpan (lo, hi) (place v) && inSpan s (place v)) := by
          unfold inSpan
          rw [Bool.eq_iff_iff]
          simp [mx_le, le_mn]
          omega
        rw [e, Bool.and_assoc]
theorem altP_law (l : Tx) : (altP l = none ∧ isAltR l = false) ∨ (∃ s, altP l = some s ∧ isAltR l = true ∧ ∀ v, Valid v → altFitR l v = inSpan s (place v)) := by
  rcases alt_law (splitL 38 l) 0 999999 with h | ⟨s, h1, h2, h3⟩
  · exact .inl h
  · refine .inr ⟨s, h1, h2, fun v hv => ?_⟩
    rw [← h3 v hv]
    have := place_bd hv
    have e : inSpan (0, 999999) (place v) = true := by simp [inSpan]; omega
    rw [e, Bool.true_and]; rfl

/-! ### ranges -/
theorem range_law : ∀ (d : List Tx) (acc : List (Int × Int)), (rangeGo acc d = none ∧ d.all isAltR = false) ∨ (∃ sp, rangeGo acc d = some sp ∧ d.all isAltR = true ∧ ∀ v, Valid v → (fitsP acc (place v) || d.any (fun a => altFitR a v)) = fitsP sp (place v))
  | [], acc => .inr ⟨acc, rfl, rfl, fun v _ => by simp⟩
  | a :: r, acc => by
    rcases altP_law a with ⟨h1, h2⟩ | ⟨s, h1, h2, h3⟩
    · exact .inl ⟨by simp [rangeGo, h1], by simp [h2]⟩
    · rcases range_law r (acc ++ [s]) with ⟨k1, k2⟩ | ⟨sp, k1, k2, k3⟩
      · exact .inl ⟨by simp only [rangeGo, h1]; exact k1, by simp only [List.all_cons, k2, Bool.and_false]⟩
      · refine .inr ⟨sp, by simp only [rangeGo, h1]; exact k1, by simp only [List.all_cons, k2, h2, Bool.and_self], fun v hv => ?_⟩
        rw [← k3 v hv, List.any_cons, h3 v hv]
        have e : fitsP (acc ++ [s]) (place v) = (fitsP acc (place v) || inSpan s (place v)) := by
          unfold fitsP inSpan
          rw [List.any_append]
          simp only [List.any_cons, List.any_nil, Bool.or_false]
        rw [e, Bool.or_assoc]
theorem rangeP_law (l : Tx) : (rangeP l = none ∧ isRangeR l = false) ∨ (∃ sp, rangeP l = some sp ∧ isRangeR l = true ∧ ∀ v, Valid v → fitR l v = fitsP sp (place v)) := by
  unfold rangeP isRangeR
  by_cases h60 : 60 < l.length
  · exact .inl ⟨by rw [if_pos h60], by simp; omega⟩
  · rw [if_neg h60]
    have e : decide (l.length ≤ 60) = true := by simp; omega
    rw [e, Bool.true_and]
    rcases range_law (splitL 124 l) [] with h | ⟨sp, h1, h2, h3⟩
    · exact .inl h
    · refine .inr ⟨sp, h1, h2, fun v hv => ?_⟩
      rw [← h3 v hv]
      rfl

end Hst
end Go.Proofs.YtecocheolbkneaaDoor
namespace Go.Proofs.YtecocheolbkneaaDoor
open Go.RowKit
namespace Hst
set_option maxRecDepth 100000

theorem info_str : (Tryd.prog.info? 9).map (fun i => (i.zero, i.size, i.bytes)) = some (some (.string ByteArray.empty), 1, 16) := by kernel_rfl

/-- The cells of a list of texts. -/
def strs (d : List Tx) : List Value := d.map fun p => Value.string (bs p)
theorem strs_snoc (d : List Tx) (p : Tx) : strs d ++ [Value.string (bs p)] = strs (d ++ [p]) := by simp [strs]
theorem strs_len (d : List Tx) : (strs d).length = d.length := by simp [strs]

/-- One piece more. -/
theorem step_own {w w1 wr : World} {v : Value} {d : List Tx} {p : Tx} {q : ByteArray} {g cap : Nat} {o : Obj} (hq : q = bs p) (hown : wr.ownsRow w.heap.size 9 1 v d.length (strs d)) (hbel : Below w.heap.size w wr)
    (hown1 : w1.ownsRow w.heap.size 9 1 (.slice (some ⟨g, 0, none⟩) (d.length + 1) cap) (d.length + 1) (strs d ++ [Value.string q])) (hgrow : (wr.alloc o).grownBy w1 v.ownBlock) :
    w1.ownsRow w.heap.size 9 1 (.slice (some ⟨g, 0, none⟩) (d.length + 1) cap) (d ++ [p]).length (strs (d ++ [p])) ∧ Below w.heap.size w w1 := by
  subst hq
  refine ⟨?_, ?_⟩
  · rw [strs_snoc] at hown1
    simpa using hown1
  · have hz := hbel.size
    exact (hbel.alloc hz _).grown hgrow (by simp; omega) (fun k hk => (hown.lt k hk).1)
theorem one_str (q : ByteArray) : ∀ u ∈ [Value.string q], u.oneCell' = true := by intro u hu; simp at hu; subst hu; rfl
theorem form_ne {w : World} {base n : Nat} {v : Value} {xs : List Value} {e : Nat} (h : w.ownsRow base e 1 v n xs) (hn : 0 < n) : ∃ g cap, v = .slice (some ⟨g, 0, none⟩) n cap ∧ base ≤ g ∧ g < w.heap.size := by
  obtain ⟨h1, h2⟩ := h
  rcases h2 with ⟨rfl, h2⟩ | ⟨g, cap, cur, hv, hg, hh, r⟩
  · omega
  · exact ⟨g, cap, hv, hg, lt_of_block hh⟩

/-- The row of texts that a call has made. -/
def Row (w : World) (base : Nat) (v : Value) (d : List Tx) : Prop := w.ownsRow base 9 1 v d.length (strs d)

theorem hid {p : Prop} (h : p) : Hid p := h
theorem row_of {w wr : World} {v : Value} {d e : List Tx} (hown : wr.ownsRow w.heap.size 9 1 v d.length (strs d)) (h : e = d) (hbel : Below w.heap.size w wr) : Row wr w.heap.size v e ∧ Below w.heap.size w wr := by
  subst h
  exact ⟨hown, hbel⟩

set_option maxHeartbeats 1000000 in
theorem rsplit_any (s : ByteArray) (n : Int) (w : World) (hs : s.size ≤ 100000) :
    Calls Tryd.prog 62 #[.string s, .int .u8 n] w fun e w' => ∃ v, e = .returned v ∧ Row w' w.heap.size v (splitL n (tx s)) ∧ Below w.heap.size w w' := by
  obtain ⟨i0, hi, hz0, hz1, hz2⟩ := info_parts info_str
  go_enter Tryd.func62, Tryd.ntmps62
  go_wp2
  go_loopw [5, 6, 7] (fun v st i wr => ∃ (k fr : Nat) (d : List Tx), k ≤ s.size + 1 ∧ fr ≤ k ∧ d.length ≤ k ∧ st = .int .i64 fr ∧ i = .int .i64 k ∧ wr.ownsRow w.heap.size 9 1 v d.length (strs d) ∧ Below w.heap.size w wr ∧ Hid ((k ≤ s.size ∧ SplitAt n (tx s) k fr d) ∨ (k = s.size + 1 ∧ splitL n (tx s) = d))) (fun _ _ i _ => s.size + 1 - (intOf i).toNat)
  case atStart => exact ⟨0, 0, [], by omega, by omega, by simp, rfl, rfl, World.ownsRow_nil _ _ _ _, Below.refl _ _, .inl ⟨by omega, splitAt_start _ _⟩⟩
  case round =>
    obtain ⟨k, fr, d, hk, hfr, hd, rfl, rfl, hown, hbel, hall⟩ := hrel
    have hsz := hbel.size
    by_cases hlt : k < s.size
    · have hSA : Hid (SplitAt n (tx s) k fr d) := by rcases hall.out with h | h; · exact h.2
                                                     · omega
      have hne : ((k : Int) == (s.size : Int)) = false := by simp; omega
      by_cases hb : ((s[k]'hlt).toNat : Int) = n
      · have hbb : (((s[k]'hlt).toNat : Int) == n) = true := by simp [hb]
        have HN : Hid (SplitAt n (tx s) (k + 1) (k + 1) (d ++ [((tx s).drop fr).take (k - fr)])) := splitAt_yes hSA.out (by rw [tx_length]; exact hlt) hb
        have hl2 : d.length ≤ k := hd
        clear hb hall hSA
        go_wp2_with (first
          | (at_builtin; refine wpList_append_lies _ rfl _ _ 35 rfl w.heap.size 9 i0 (.string ByteArray.empty) 1 16 Tryd.underlying35 hi hz0 hz1 hz2 rfl (by omega) _ _ _ rfl (hown.alloc _) ⟨wr.heap.size, 0, none⟩ 1 1 [.string (s.extract fr k)] rfl rfl (cell_one_new _ _ _) (one_str _) (by omega) (by unfold maxLen; omega) (by omega) (by simp; omega) (wr.heap.size + 1) (by simp) ?_; intro g cap w1 hown1 hgrow hat hlt1))
        have R := step_own (extract_bs s fr k) hown hbel hown1 hgrow
        clear hown1 hgrow hown
        go_wp2
        go_roundw
        case rel => exact ⟨k + 1, k + 1, _, by omega, by omega, by simp; omega, by go_num, by go_num, R.1, R.2, .inl ⟨by omega, HN.out⟩⟩
        case measure => simp [intOf]; omega
      · have hbb : (((s[k]'hlt).toNat : Int) == n) = false := by simp [hb]
        have HN : Hid (SplitAt n (tx s) (k + 1) fr d) := splitAt_no hSA.out (by rw [tx_length]; exact hlt) hb
        clear hb hall hSA
        go_wp2
        go_roundw
        case rel => exact ⟨k + 1, fr, d, by omega, by omega, by omega, rfl, by go_num, hown, hbel, .inl ⟨by omega, HN.out⟩⟩
        case measure => simp [intOf]; omega
    · by_cases hend : k = s.size
      · subst hend
        have hSA : SplitAt n (tx s) s.size fr d := by
          rcases hall.out with h | h
          · exact h.2
          · omega
        have HN : Hid (splitL n (tx s) = d ++ [((tx s).drop fr).take (s.size - fr)]) := by
          have hx := tx_length s
          rw [← hx] at hSA ⊢
          exact splitAt_end hSA
        clear hall hSA
        go_wp2_with (first
          | (at_builtin; refine wpList_append_lies _ rfl _ _ 35 rfl w.heap.size 9 i0 (.string ByteArray.empty) 1 16 Tryd.underlying35 hi hz0 hz1 hz2 rfl (by omega) _ _ _ rfl (hown.alloc _) ⟨wr.heap.size, 0, none⟩ 1 1 [.string (s.extract fr s.size)] rfl rfl (cell_one_new _ _ _) (one_str _) (by omega) (by unfold maxLen; omega) (by omega) (by simp; omega) (wr.heap.size + 1) (by simp) ?_; intro g cap w1 hown1 hgrow hat hlt1))
        have R := step_own (extract_bs s fr s.size) hown hbel hown1 hgrow
        clear hown1 hgrow hown
        go_wp2
        go_roundw
        case rel => exact ⟨s.size + 1, s.size + 1, _, by omega, by omega, by simp <;> omega, by go_num, by go_num, R.1, R.2, .inr ⟨rfl, HN.out⟩⟩
        case measure => simp [intOf] <;> omega
      · have HN : Hid (splitL n (tx s) = d) := by
          rcases hall.out with h | h
          · omega
          · exact h.2
        have HR := hid (row_of hown HN.out hbel)
        clear hown hbel hall HN
        go_wp2
        go_ret
        exact ⟨_, rfl, HR.out.1, HR.out.2⟩

set_option maxHeartbeats 1000000 in
theorem psplit_any (s : ByteArray) (n : Int) (w : World) (hs : s.size ≤ 100000) :
    Calls Tryd.prog 56 #[.string s, .int .u8 n] w fun e w' => ∃ v, e = .returned v ∧ Row w' w.heap.size v (splitL n (tx s)) ∧ Below w.heap.size w w' := by
  obtain ⟨i0, hi, hz0, hz1, hz2⟩ := info_parts info_str
  go_enter Tryd.func56, Tryd.ntmps56
  go_wp2
  go_loopw [5, 6, 7] (fun v st i wr => ∃ (k fr : Nat) (d : List Tx), k ≤ s.size ∧ fr ≤ k ∧ d.length ≤ k ∧ st = .int .i64 fr ∧ i = .int .i64 k ∧ wr.ownsRow w.heap.size 9 1 v d.length (strs d) ∧ Below w.heap.size w wr ∧ Hid (SplitAt n (tx s) k fr d)) (fun _ _ i _ => s.size - (intOf i).toNat)
  case atStart => exact ⟨0, 0, [], by omega, by omega, by simp, rfl, rfl, World.ownsRow_nil _ _ _ _, Below.refl _ _, splitAt_start _ _⟩
  case round =>
    obtain ⟨k, fr, d, hk, hfr, hd, rfl, rfl, hown, hbel, hSA⟩ := hrel
    have hsz := hbel.size
    by_cases hlt : k < s.size
    · by_cases hb : ((s[k]'hlt).toNat : Int) = n
      · have hbb : (((s[k]'hlt).toNat : Int) == n) = true := by simp [hb]
        have HN : Hid (SplitAt n (tx s) (k + 1) (k + 1) (d ++ [((tx s).drop fr).take (k - fr)])) := splitAt_yes hSA.out (by rw [tx_length]; exact hlt) hb
        clear hb hSA
        go_wp2_with (first
          | (at_builtin; refine wpList_append_lies _ rfl _ _ 35 rfl w.heap.size 9 i0 (.string ByteArray.empty) 1 16 Tryd.underlying35 hi hz0 hz1 hz2 rfl (by omega) _ _ _ rfl (hown.alloc _) ⟨wr.heap.size, 0, none⟩ 1 1 [.string (s.extract fr k)] rfl rfl (cell_one_new _ _ _) (one_str _) (by omega) (by unfold maxLen; omega) (by omega) (by simp; omega) (wr.heap.size + 1) (by simp) ?_; intro g cap w1 hown1 hgrow hat hlt1))
        have R := step_own (extract_bs s fr k) hown hbel hown1 hgrow
        clear hown1 hgrow hown
        go_wp2
        go_roundw
        case rel => exact ⟨k + 1, k + 1, _, by omega, by omega, by simp; omega, by go_num, by go_num, R.1, R.2, HN.out⟩
        case measure => simp [intOf]; omega
      · have hbb : (((s[k]'hlt).toNat : Int) == n) = false := by simp [hb]
        have HN : Hid (SplitAt n (tx s) (k + 1) fr d) := splitAt_no hSA.out (by rw [tx_length]; exact hlt) hb
        clear hb hSA
        go_wp2
        go_roundw
        case rel => exact ⟨k + 1, fr, d, by omega, by omega, by omega, rfl, by go_num, hown, hbel, HN.out⟩
        case measure => simp [intOf]; omega
    · have hend : k = s.size := by omega
      subst hend
      have HN : Hid (splitL n (tx s) = d ++ [((tx s).drop fr).take (s.size - fr)]) := by
        have hx := tx_length s
        have h2 := hSA.out
        rw [← hx] at h2 ⊢
        exact splitAt_end h2
      clear hSA
      go_wp2_with (first
        | (at_builtin; refine wpList_append_lies _ rfl _ _ 35 rfl w.heap.size 9 i0 (.string ByteArray.empty) 1 16 Tryd.underlying35 hi hz0 hz1 hz2 rfl (by omega) _ _ _ rfl (hown.alloc _) ⟨wr.heap.size, 0, none⟩ 1 1 [.string (s.extract fr s.size)] rfl rfl (cell_one_new _ _ _) (one_str _) (by omega) (by unfold maxLen; omega) (by omega) (by simp; omega) (wr.heap.size + 1) (by simp) ?_; intro g cap w1 hown1 hgrow hat hlt1))
      have R := step_own (extract_bs s fr s.size) hown hbel hown1 hgrow
      have HR : Hid (Row w1 w.heap.size (.slice (some ⟨g, 0, none⟩) (d.length + 1) cap) (splitL n (tx s)) ∧ Below w.heap.size w w1) := by
        unfold Hid Row
        rw [HN.out]
        exact R
      clear hown1 hgrow hown R
      go_wp2
      go_ret
      exact ⟨_, rfl, HR.out.1, HR.out.2⟩

/-- What the walk wants of such a row: its form, its cells. -/
theorem Row.form {w : World} {base : Nat} {v : Value} {d : List Tx} (h : Row w base v d) (hd : d ≠ []) : ∃ g cap, v = .slice (some ⟨g, 0, none⟩) d.length cap ∧ base ≤ g ∧ g < w.heap.size ∧ ∀ (j : Nat) (hj : j < d.length), w.cell? ⟨g, j, none⟩ = some (.string (bs d[j])) := by
  have hn : 0 < d.length := List.length_pos_iff.2 hd
  obtain ⟨g, cap, rfl, h1, h2⟩ := form_ne h hn
  refine ⟨g, cap, rfl, h1, h2, fun j hj => ?_⟩
  rw [World.ownsRow.cellAt h j (by omega)]
  simp [strs, hj]

end Hst
end Go.Proofs.YtecocheolbkneaaDoor
namespace Go.Proofs.YtecocheolbkneaaDoor
open Go.RowKit
namespace Hst
set_option maxRecDepth 100000

theorem pg_yes (s : ByteArray) (k : Nat) (acc : Int) (h : k < s.size) (hd : dig s[k] = true) (hn : acc * 10 + ((s[k].toNat : Int) - 48) ≤ 99) :
    partGo acc ((tx s).drop k) = partGo (acc * 10 + ((s[k].toNat : Int) - 48)) ((tx s).drop (k + 1)) := by
  rw [tx_drop s k h]; simp only [partGo, hd, if_true]; rw [if_neg (by omega)]
theorem pg_big (s : ByteArray) (k : Nat) (acc : Int) (h : k < s.size) (hd : dig s[k] = true) (hn : 99 < acc * 10 + ((s[k].toNat : Int) - 48)) :
    partGo acc ((tx s).drop k) = none := by
  rw [tx_drop s k h]; simp only [partGo, hd, if_true]; rw [if_pos (by omega)]
theorem pg_no (s : ByteArray) (k : Nat) (acc : Int) (h : k < s.size) (hd : dig s[k] = false) : partGo acc ((tx s).drop k) = none := by
  rw [tx_drop s k h]; simp [partGo, hd]
theorem pg_end (s : ByteArray) (k : Nat) (acc : Int) (h : ¬ k < s.size) : partGo acc ((tx s).drop k) = some acc := by
  rw [List.drop_of_length_le (by rw [tx_length]; omega)]; rfl
theorem partP_empty (s : ByteArray) (h : s.size = 0) : partP (tx s) = none := by
  have : tx s = [] := List.length_eq_zero_iff.1 (by rw [tx_length]; exact h)
  simp [partP, this]
theorem tx_head (s : ByteArray) (h : 0 < s.size) : (tx s).head? = some s[0] := by
  have := tx_drop s 0 h
  simp at this; rw [this]; rfl
theorem byte_eq {b : UInt8} {n : Nat} (hn : n < 256) (h : (b.toNat : Int) = n) : b = n.toUInt8 := by
  apply UInt8.toNat_inj.1
  simp; omega
theorem partP_zero (s : ByteArray) (h : 0 < s.size) (h1 : (s[0].toNat : Int) = 48) (h2 : 1 < s.size) : partP (tx s) = none := by
  have e : s[0] = (48 : UInt8) := byte_eq (n := 48) (by omega) h1
  have hl := tx_length s
  unfold partP
  rw [if_neg (by intro hh; rw [hh] at hl; simp at hl; omega), if_pos ⟨by rw [tx_head s h, e], by omega⟩]
theorem partP_go (s : ByteArray) (h : 0 < s.size) (h1 : ¬ ((s[0].toNat : Int) = 48 ∧ 1 < s.size)) : partP (tx s) = partGo 0 (tx s) := by
  have hl := tx_length s
  unfold partP
  rw [if_neg (by intro hh; rw [hh] at hl; simp at hl; omega), if_neg]
  rintro ⟨a, b⟩
  rw [tx_head s h] at a
  simp at a
  exact h1 ⟨by rw [a]; rfl, by omega⟩
theorem empty_eq (s : ByteArray) (h : 0 < s.size) : s.toList.isEmpty = false := by
  rw [tx_toList, List.isEmpty_eq_false_iff]
  intro hh
  have := tx_length s
  rw [hh] at this; simp at this; omega

set_option maxHeartbeats 1000000 in
theorem parsePart_go (s : ByteArray) (w : World) (hs : s.size ≤ 100) (hp : 0 < s.size) (hz : (((s[0]'hp).toNat : Int) == 48) = false ∨ ((((s[0]'hp).toNat : Int) == 48) = true ∧ (s.size : Int) ≤ 1)) (hg : partP (tx s) = partGo 0 (tx s)) :
    Calls Tryd.prog 70 #[.string s] w fun e w' => e = .returned (.tuple #[.int .i64 (ov (partP (tx s))), .bool (oks (partP (tx s)))]) ∧ w' = w := by
  have he := empty_eq s hp
  have HG : Hid (partP (tx s) = partGo 0 (tx s)) := hg
  clear hg
  rcases hz with hz | ⟨hz, hz1⟩
  all_goals
    go_enter Tryd.func70, Tryd.ntmps70
    go_wp2
    go_loop [4, 5] (fun p i => ∃ (k : Nat) (acc : Int), k ≤ s.size ∧ 0 ≤ acc ∧ acc ≤ 99 ∧ p = .int .i64 acc ∧ i = .int .i64 k ∧ Hid (partP (tx s) = partGo acc ((tx s).drop k))) (fun _ i => s.size - (intOf i).toNat)
    case atStart => exact ⟨0, 0, Nat.zero_le _, by omega, by omega, rfl, rfl, by unfold Hid; rw [HG.out]; rfl⟩
    case round =>
      obtain ⟨k, acc, hk, ha0, ha1, rfl, rfl, hall⟩ := hrel
      by_cases hlt : k < s.size
      · have hb : ((s[k]'hlt).toNat : Int) < 256 := by have := (s[k]'hlt).toNat_lt; omega
        by_cases h1 : ((s[k]'hlt).toNat : Int) < 48
        · have HF : Hid (partP (tx s) = none) := by unfold Hid; rw [hall.out, pg_no s k acc hlt (dig_no1 h1)]
          go_wp2
          go_ret2
          exact ⟨ret_int_bool (by rw [HF.out]; rfl) (by rw [HF.out]; rfl), rfl⟩
        · by_cases h2 : 57 < ((s[k]'hlt).toNat : Int)
          · have HF : Hid (partP (tx s) = none) := by unfold Hid; rw [hall.out, pg_no s k acc hlt (dig_no2 h2)]
            go_wp2
            go_ret2
            exact ⟨ret_int_bool (by rw [HF.out]; rfl) (by rw [HF.out]; rfl), rfl⟩
          · by_cases h3 : 99 < acc * 10 + (((s[k]'hlt).toNat : Int) - 48)
            · have HF : Hid (partP (tx s) = none) := by unfold Hid; rw [hall.out, pg_big s k acc hlt (dig_yes (by omega) (by omega)) h3]
              go_wp2
              go_ret2
              exact ⟨ret_int_bool (by rw [HF.out]; rfl) (by rw [HF.out]; rfl), rfl⟩
            · have HF : Hid (partP (tx s) = partGo (acc * 10 + (((s[k]'hlt).toNat : Int) - 48)) ((tx s).drop (k + 1))) := by unfold Hid; rw [hall.out, pg_yes s k acc hlt (dig_yes (by omega) (by omega)) (by omega)]
              go_wp2
              go_round
              case rel => exact ⟨k + 1, _, by omega, by omega, by omega, rfl, by go_num, HF⟩
              case measure => simp [intOf]; omega
      · have HF : Hid (partP (tx s) = some acc) := by unfold Hid; rw [hall.out, pg_end s k acc hlt]
        go_wp2
        go_ret2
        exact ⟨ret_int_bool (by rw [HF.out]; rfl) (by rw [HF.out]; rfl), rfl⟩

set_option maxHeartbeats 1000000 in
theorem parsePart_any (s : ByteArray) (w : World) (hs : s.size ≤ 100) :
    Calls Tryd.prog 70 #[.string s] w fun e w' => e = .returned (.tuple #[.int .i64 (ov (partP (tx s))), .bool (oks (partP (tx s)))]) ∧ w' = w := by
  by_cases hp : 0 < s.size
  · by_cases h1 : ((s[0]'hp).toNat : Int) = 48
    · by_cases h2 : 1 < s.size
      · have HF : Hid (partP (tx s) = none) := partP_zero s hp h1 h2
        have he := empty_eq s hp
        have hz : (((s[0]'hp).toNat : Int) == 48) = true := by simp [h1]
        clear h1
        go_enter Tryd.func70, Tryd.ntmps70
        go_wp2
        go_ret2
        exact ⟨ret_int_bool (by rw [HF.out]; rfl) (by rw [HF.out]; rfl), rfl⟩
      · exact parsePart_go s w hs hp (.inr ⟨by simp [h1], by omega⟩) (partP_go s hp (by omega))
    · exact parsePart_go s w hs hp (.inl (by simp [h1])) (partP_go s hp (by omega))
  · have HF : Hid (partP (tx s) = none) := partP_empty s (by omega)
    have he : s.toList.isEmpty = true := by
      rw [tx_toList, List.isEmpty_iff]
      exact List.length_eq_zero_iff.1 (by rw [tx_length]; omega)
    go_enter Tryd.func70, Tryd.ntmps70
    go_wp2
    go_ret2
    exact ⟨ret_int_bool (by rw [HF.out]; rfl) (by rw [HF.out]; rfl), rfl⟩

/-- What parsePart gives lies between 0 and 99. -/
theorem partGo_bd : ∀ (l : Tx) (acc : Int), 0 ≤ acc → acc ≤ 99 → ∀ n, partGo acc l = some n → 0 ≤ n ∧ n ≤ 99
  | [], acc, h0, h1, n, h => by simp [partGo] at h; omega
  | b :: r, acc, h0, h1, n, h => by
    simp only [partGo] at h
    split at h
    · rename_i hd
      split at h
      · simp at h
      · simp [dig] at hd
        exact partGo_bd r _ (by omega) (by omega) n h
    · simp at h
theorem partP_bd (l : Tx) (n : Int) (h : partP l = some n) : 0 ≤ n ∧ n ≤ 99 := by
  unfold partP at h
  split at h
  · simp at h
  · split at h
    · simp at h
    · exact partGo_bd l 0 (by omega) (by omega) n h
theorem ov_partP_bd (l : Tx) : 0 ≤ ov (partP l) ∧ ov (partP l) ≤ 99 := by
  rcases h : partP l with _ | n
  · simp [ov]
  · have := partP_bd l n h
    simp [ov]; omega

end Hst
end Go.Proofs.YtecocheolbkneaaDoor
