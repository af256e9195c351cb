/- Math, Mpath -/
import Derived.Test.YtecocheolbkneaaDoorW01
import Derived.Test.YtecocheolbkneaaDoorW04
namespace Go.Proofs.YtecocheolbkneaaDoor
namespace Hst

/-! ### numbers -/
theorem partP_eq : ∀ l : Tx, partP l = if 0 ≤ partR l then some (partR l) else none
  | [] => by simp [partP, partR]
  | [a] => by
    by_cases h : dig a = true
    · have h' := h
      simp [dig] at h'
      have e : partR [a] = (a.toNat : Int) - 48 := by simp [partR, partGoR, h]
      have e2 : partP [a] = some ((a.toNat : Int) - 48) := by
        simp only [partP, partGo, h, if_true]
        rw [if_neg (by simp), if_neg (by simp), if_neg (by omega)]; simp
      rw [e, e2, if_pos (by omega)]
    · have h : dig a = false := by simpa using h
      have e : partR [a] = -1 := by simp [partR, partGoR, h]
      have e2 : partP [a] = none := by simp [partP, partGo, h]
      rw [e, e2]; rfl
  | [a, b] => by
    by_cases h0 : a = 48
    · simp [partP, partR, h0]
    · have hne : ¬ ((a.toNat : Int) = 48) := fun h => h0 (UInt8.toNat_inj.1 (by simp; omega))
      have e0 : partR [a, b] = partGoR 0 [a, b] := by simp [partR, h0]
      have e1 : partP [a, b] = partGo 0 [a, b] := by simp [partP, h0]
      by_cases ha : dig a = true
      · have ha' := ha
        simp [dig] at ha'
        by_cases hb : dig b = true
        · have hb' := hb
          simp [dig] at hb'
          have f0 : partR [a, b] = 10 * ((a.toNat : Int) - 48) + ((b.toNat : Int) - 48) := by rw [e0]; simp only [partGoR, if_pos ha, if_pos hb]; omega
          have f1 : partP [a, b] = some (10 * ((a.toNat : Int) - 48) + ((b.toNat : Int) - 48)) := by
            rw [e1]; simp only [partGo, if_pos ha, if_pos hb]
            rw [if_neg (by omega), if_neg (by omega)]
            congr 1; omega
          rw [f0, f1, if_pos (by omega)]
        · have f0 : partR [a, b] = -1 := by rw [e0]; simp only [partGoR, if_pos ha, if_neg hb]
          have f1 : partP [a, b] = none := by
            rw [e1]; simp only [partGo, if_pos ha, if_neg hb]
            rw [if_neg (by omega)]
          rw [f0, f1]; rfl
      · have f0 : partR [a, b] = -1 := by rw [e0]; simp only [partGoR, if_neg ha]
        have f1 : partP [a, b] = none := by rw [e1]; simp only [partGo, if_neg ha]
        rw [f0, f1]; rfl
  | a :: b :: c :: r => by
    have e0 : partR (a :: b :: c :: r) = -1 := by simp [partR]
    rw [e0]
    show partP (a :: b :: c :: r) = none
    by_cases h0 : a = 48
    · simp [partP, h0]
    · have hne : ¬ ((a.toNat : Int) = 48) := fun h => h0 (UInt8.toNat_inj.1 (by simp; omega))
      have e1 : partP (a :: b :: c :: r) = partGo 0 (a :: b :: c :: r) := by simp [partP, h0]
      rw [e1]
      simp only [partGo]
      by_cases ha : dig a = true
      · have ha' := ha
        simp [dig] at ha'
        rw [if_pos ha, if_neg (by omega)]
        by_cases hb : dig b = true
        · have hb' := hb
          simp [dig] at hb'
          rw [if_pos hb, if_neg (by omega)]
          by_cases hc : dig c = true
          · have hc' := hc
            simp [dig] at hc'
            rw [if_pos hc, if_pos (by omega)]
          · rw [if_neg hc]
        · rw [if_neg hb]
      · rw [if_neg ha]
theorem partR_hi (l : Tx) : partR l ≤ 99 := by
  unfold partR
  split
  · omega
  · rename_i h
    match l, h with
    | [], h => simp at h
    | [a], _ =>
      simp only [partGoR]
      split
      · rename_i hd; simp [dig] at hd; omega
      · omega
    | [a, b], _ =>
      simp only [partGoR]
      split
      · rename_i hd
        simp [dig] at hd
        split
        · rename_i hd'; simp [dig] at hd'; omega
        · omega
      · omega
    | _ :: _ :: _ :: _, h => simp at h

/-! ### versions -/
def place (v : V3) : Int := (v.a * 100 + v.b) * 100 + v.c
structure Valid (v : V3) : Prop where
  a0 : 0 ≤ v.a
  a1 : v.a ≤ 99
  b0 : 0 ≤ v.b
  b1 : v.b ≤ 99
  c0 : 0 ≤ v.c
  c1 : v.c ≤ 99
theorem place_bd {v : V3} (h : Valid v) : 0 ≤ place v ∧ place v ≤ 999999 := by
  obtain ⟨h1, h2, h3, h4, h5, h6⟩ := h
  unfold place; omega

theorem versionP_eq (l : Tx) : versionP l = if (versionR l).2 = true then some (place (versionR l).1) else none := by
  unfold versionP versionR
  by_cases h8 : 8 < l.length
  · rw [if_pos h8, if_pos h8]; rfl
  · rw [if_neg h8, if_neg h8]
    by_cases h3 : (splitL 46 l).length ≠ 3
    · rw [if_pos h3, if_pos h3]; rfl
    · rw [if_neg h3, if_neg h3]
      match hd : splitL 46 l, h3 with
      | [x, y, z], _ =>
        simp only [verGo, partP_eq, List.getD_cons_zero, List.getD_cons_succ]
        by_cases hx : 0 ≤ partR x
        · by_cases hy : 0 ≤ partR y
          · by_cases hz : 0 ≤ partR z
            · simp [hx, hy, hz, place]
            · simp [hx, hy, hz]
          · simp [hx, hy]
        · simp [hx]
      | [], h3 => simp at h3
      | [_], h3 => simp at h3
      | [_, _], h3 => simp at h3
      | _ :: _ :: _ :: _ :: _, h3 => simp at h3
theorem versionR_valid (l : Tx) (h : (versionR l).2 = true) : Valid (versionR l).1 := by
  unfold versionR at h ⊢
  split at h
  · simp at h
  · split at h
    · simp at h
    · rename_i h8 h3
      rw [if_neg h8, if_neg h3]
      simp at h
      exact ⟨h.1.1, partR_hi _, h.1.2, partR_hi _, h.2, partR_hi _⟩
theorem versionP_some {l : Tx} {n : Int} (h : versionP l = some n) : (versionR l).2 = true ∧ n = place (versionR l).1 := by
  rw [versionP_eq] at h
  split at h
  · rename_i h'; simp at h; exact ⟨h', h.symm⟩
  · simp at h
theorem versionP_of {l : Tx} (h : (versionR l).2 = true) : versionP l = some (place (versionR l).1) := by rw [versionP_eq, if_pos h]
theorem versionP_no {l : Tx} (h : (versionR l).2 = false) : versionP l = none := by rw [versionP_eq, h]; rfl

/-- A version begins with a digit. -/
theorem version_head {l : Tx} {n : Int} (h : versionP l = some n) : ∃ b r, l = b :: r ∧ dig b = true := by
  unfold versionP at h
  split at h
  · simp at h
  · split at h
    · simp at h
    · match l with
      | [] => simp [splitL, verGo, partP] at h
      | b :: r =>
        refine ⟨b, r, rfl, ?_⟩
        by_cases hb : (b.toNat : Int) = 46
        · simp [splitL, hb, verGo, partP] at h
        · simp only [splitL, if_neg hb] at h
          rcases hs : splitL 46 r with _ | ⟨q, qs⟩
          · exact absurd hs (splitL_ne 46 r)
          · rw [hs] at h
            simp only [verGo] at h
            rcases hp : partP (b :: q) with _ | m
            · rw [hp] at h; simp at h
            · by_cases hd : dig b = true
              · exact hd
              · exfalso
                simp only [partP, partGo, if_neg hd] at hp
                simp at hp

/-! ### conditions -/
def IsSign (sg : Tx) : Prop := sg = [61] ∨ sg = [62] ∨ sg = [62, 61] ∨ sg = [60] ∨ sg = [60, 61] ∨ sg = [94] ∨ sg = [126]
theorem spanOfP_no {sg : Tx} (h : ¬ IsSign sg) (v : Int) : spanOfP sg v = none := by
  simp only [IsSign, not_or] at h
  simp [spanOfP, h]
theorem dig_ne {b : UInt8} (h : dig b = true) : b ≠ 61 ∧ b ≠ 62 ∧ b ≠ 60 ∧ b ≠ 94 ∧ b ≠ 126 ∧ b ≠ 42 := by
  simp [dig] at h
  refine ⟨?_, ?_, ?_, ?_, ?_, ?_⟩ <;> (intro e; subst e; simp at h)
theorem sign_len {sg : Tx} (h : IsSign sg) (b : UInt8) (r : Tx) (hb : dig b = true) : signLen (sg ++ b :: r) = sg.length := by
  simp [dig] at hb
  rcases h with h | h | h | h | h | h | h <;> subst h <;> simp [signLen, hb, dig]
theorem signedR_of {sg : Tx} (h : IsSign sg) (b : UInt8) (r : Tx) (hb : dig b = true) : signedR (sg ++ b :: r) = (sg, b :: r) := by
  have hn := dig_ne hb
  rcases h with h | h | h | h | h | h | h <;> subst h <;> simp [signedR, hn]
theorem signedR_sign {l sg rest : Tx} (h : signedR l = (sg, rest)) (hne : sg ≠ []) : IsSign sg ∧ l = sg ++ rest := by
  unfold signedR at h
  split at h
  · rename_i h2
    simp at h
    obtain ⟨rfl, rfl⟩ := h
    refine ⟨?_, (List.take_append_drop 2 l).symm⟩
    rcases h2 with h2 | h2 <;> rw [h2] <;> simp [IsSign]
  · split at h
    · simp at h; exact absurd h.1.symm (by simpa using hne)
    · split at h
      · rename_i h3
        simp at h
        obtain ⟨rfl, rfl⟩ := h
        refine ⟨?_, by simp⟩
        rcases h3 with h3 | h3 | h3 | h3 | h3 <;> subst h3 <;> simp [IsSign]
      · simp at h; exact absurd h.1.symm (by simpa using hne)

/-- A condition with a sign. -/
structure CondIs (l sg rest : Tx) (n : Int) : Prop where
  cat : l = sg ++ rest
  sign : IsSign sg
  ver : versionP rest = some n
theorem CondIs.condP {l sg rest : Tx} {n : Int} (h : CondIs l sg rest n) : condP l = spanOfP sg n := by
  obtain ⟨b, r, rfl, hb⟩ := version_head h.ver
  have e := sign_len h.sign b r hb
  have hl := h.cat
  have h42 : l ≠ [42] := by
    rw [hl]
    have hn := dig_ne hb
    rcases h.sign with s | s | s | s | s | s | s <;> subst s <;> simp
  unfold Hst.condP
  rw [if_neg h42, hl, e, List.drop_left, List.take_left, h.ver]
theorem CondIs.signed {l sg rest : Tx} {n : Int} (h : CondIs l sg rest n) : signedR l = (sg, rest) := by
  obtain ⟨b, r, rfl, hb⟩ := version_head h.ver
  rw [h.cat, signedR_of h.sign b r hb]
theorem CondIs.isCond {l sg rest : Tx} {n : Int} (h : CondIs l sg rest n) : isCondR l = true := by
  unfold isCondR
  rw [h.signed]
  have hv := (versionP_some h.ver).1
  have : sg.isEmpty = false := by rcases h.sign with s | s | s | s | s | s | s <;> subst s <;> rfl
  simp [this, hv]
theorem condIs_of_cond {l : Tx} (h42 : l ≠ [42]) (h : isCondR l = true) : ∃ sg rest n, CondIs l sg rest n := by
  unfold isCondR at h
  simp [h42] at h
  obtain ⟨hs, hv⟩ := h
  rcases hd : signedR l with ⟨sg, rest⟩
  rw [hd] at hs hv
  simp at hs hv
  obtain ⟨h1, h2⟩ := signedR_sign hd hs
  exact ⟨sg, rest, _, h2, h1, versionP_of hv⟩
theorem condIs_of_span {l : Tx} {s : Int × Int} (h42 : l ≠ [42]) (h : condP l = some s) : ∃ sg rest n, CondIs l sg rest n := by
  unfold condP at h
  rw [if_neg h42] at h
  rcases hv : versionP (l.drop (signLen l)) with _ | n
  · rw [hv] at h; simp at h
  · rw [hv] at h
    simp only at h
    by_cases hs : IsSign (l.take (signLen l))
    · exact ⟨_, _, n, (List.take_append_drop _ l).symm, hs, hv⟩
    · rw [spanOfP_no hs] at h; simp at h

theorem below_place {v w : V3} (hv : Valid v) (hw : Valid w) : belowB v.a v.b v.c w.a w.b w.c = decide (place v < place w) := by
  obtain ⟨h1, h2, h3, h4, h5, h6⟩ := hv
  obtain ⟨k1, k2, k3, k4, k5, k6⟩ := hw
  unfold belowB place
  split
  · rw [Bool.eq_iff_iff]; simp; omega
  · split
    · rw [Bool.eq_iff_iff]; simp; omega
    · rw [Bool.eq_iff_iff]; simp; omega
theorem eq3_place {v w : V3} (hv : Valid v) (hw : Valid w) : eq3 v w = decide (place v = place w) := by
  obtain ⟨h1, h2, h3, h4, h5, h6⟩ := hv
  obtain ⟨k1, k2, k3, k4, k5, k6⟩ := hw
  unfold eq3 place
  rw [Bool.eq_iff_iff]; simp; omega
/-- A span holds a version. -/
def inSpan (s : Int × Int) (p : Int) : Bool := decide (s.1 ≤ p) && decide (p ≤ s.2)

theorem place_parts {w : V3} (hw : Valid w) : place w / 10000 = w.a ∧ place w / 100 % 100 = w.b ∧ place w % 100 = w.c ∧ place w % 10000 = w.b * 100 + w.c := by
  obtain ⟨k1, k2, k3, k4, k5, k6⟩ := hw
  unfold place
  omega

theorem span_holds {sg : Tx} (h : IsSign sg) {v w : V3} (hv : Valid v) (hw : Valid w) : ∃ s, spanOfP sg (place w) = some s ∧ holdsS sg w v = inSpan s (place v) := by
  have bv := place_bd hv
  have bw := place_bd hw
  have hb := below_place hv hw
  have he := eq3_place hv hw
  have hp := place_parts hw
  have hq := place_parts hv
  rcases h with h | h | h | h | h | h | h <;> subst h
  · refine ⟨(place w, place w), by simp [spanOfP], ?_⟩
    simp only [holdsS, he, inSpan]
    rw [Bool.eq_iff_iff]; simp; omega
  · refine ⟨(place w + 1, 999999), by simp [spanOfP], ?_⟩
    simp only [holdsS, hb, he, inSpan]
    rw [Bool.eq_iff_iff]; simp; omega
  · refine ⟨(place w, 999999), by simp [spanOfP], ?_⟩
    simp only [holdsS, hb, inSpan]
    rw [Bool.eq_iff_iff]; simp; omega
  · refine ⟨(0, place w - 1), by simp [spanOfP], ?_⟩
    simp only [holdsS, hb, inSpan]
    rw [Bool.eq_iff_iff]; simp; omega
  · refine ⟨(0, place w), by simp [spanOfP], ?_⟩
    simp only [holdsS, hb, he, inSpan]
    rw [Bool.eq_iff_iff]; simp; omega
  · refine ⟨(place w, caretHi (place w)), by simp [spanOfP], ?_⟩
    simp only [holdsS, hb, he, inSpan, caretHi, hp]
    obtain ⟨h1, h2, h3, h4, h5, h6⟩ := hv
    obtain ⟨k1, k2, k3, k4, k5, k6⟩ := hw
    by_cases c1 : w.a = 0
    · by_cases c2 : w.b = 0
      · rw [Bool.eq_iff_iff]; simp [c1, c2]; omega
      · rw [Bool.eq_iff_iff]; simp [c1, c2]; unfold place at *; omega
    · rw [Bool.eq_iff_iff]; simp [c1]; unfold place at *; omega
  · refine ⟨(place w, place w - place w % 100 + 100 - 1), by simp [spanOfP], ?_⟩
    simp only [holdsS, hb, inSpan, hp]
    obtain ⟨h1, h2, h3, h4, h5, h6⟩ := hv
    obtain ⟨k1, k2, k3, k4, k5, k6⟩ := hw
    rw [Bool.eq_iff_iff]; simp; unfold place at *; omega

/-- The law of one condition. -/
theorem cond_law (l : Tx) : (condP l = none ∧ isCondR l = false) ∨ (∃ s, condP l = some s ∧ isCondR l = true ∧ ∀ v, Valid v → holdsR l v = inSpan s (place v)) := by
  by_cases h42 : l = [42]
  · refine .inr ⟨(0, 999999), by simp [condP, h42], by simp [isCondR, h42], fun v hv => ?_⟩
    have := place_bd hv
    subst h42
    simp [holdsR, signedR, holdsS, inSpan]; omega
  · by_cases hc : isCondR l = true
    · obtain ⟨sg, rest, n, h⟩ := condIs_of_cond h42 hc
      obtain ⟨hv, rfl⟩ := versionP_some h.ver
      have hw := versionR_valid rest hv
      obtain ⟨s, h1, _⟩ := span_holds h.sign hw hw
      refine .inr ⟨s, by rw [h.condP, h1], hc, fun v hv => ?_⟩
      obtain ⟨s', h1', h2'⟩ := span_holds h.sign hv hw
      rw [h1] at h1'
      simp at h1'
      subst h1'
      unfold holdsR
      rw [h.signed]
      exact h2'
    · refine .inl ⟨?_, by simpa using hc⟩
      rcases hp : condP l with _ | s
      · rfl
      · obtain ⟨sg, rest, n, h⟩ := condIs_of_span h42 hp
        exact absurd h.isCond hc

/-! ### alternatives -/
theorem mx_le (a b p : Int) : mx a b ≤ p ↔ a ≤ p ∧ b ≤ p := by unfold mx; split <;> omega
theorem le_mn (a b p : Int) : p ≤ mn a b ↔ p ≤ a ∧ p ≤ b := by unfold mn; split <;> omega
theorem alt_law : ∀ (d : List Tx) (lo hi : Int), (altGo lo hi d = none ∧ d.all isCondR = false) ∨ (∃ s, altGo lo hi d = some s ∧ d.all isCondR = true ∧ ∀ v, Valid v → (inSpan (lo, hi) (place v) && d.all (fun c => holdsR c v)) = inSpan s (place v))
  | [], lo, hi => .inr ⟨(lo, hi), rfl, rfl, fun v _ => by simp⟩
  | c :: r, lo, hi => by
    rcases cond_law c with ⟨h1, h2⟩ | ⟨s, h1, h2, h3⟩
    · exact .inl ⟨by simp [altGo, h1], by simp [h2]⟩
    · rcases alt_law r (mx lo s.1) (mn hi s.2) with ⟨k1, k2⟩ | ⟨s', k1, k2, k3⟩
      · exact .inl ⟨by simp only [altGo, h1]; exact k1, by simp only [List.all_cons, k2, Bool.and_false]⟩
      · refine .inr ⟨s', by simp only [altGo, h1]; exact k1, by simp only [List.all_cons, k2, h2, Bool.and_self], fun v hv => ?_⟩
        rw [← k3 v hv, List.all_cons, h3 v hv]
        have e : inSpan (mx lo s.1, mn hi s.2) (place v) = (inSpan (lo, hi) (place v) && inSpan s (place v)) := by
          unfold inSpan
          rw [Bool.eq_iff_iff]
          simp [mx_le, le_mn]
          omega
        rw [e, Bool.and_assoc]
theorem altP_law (l : Tx) : (altP l = none ∧ isAltR l = false) ∨ (∃ s, altP l = some s ∧ isAltR l = true ∧ ∀ v, Valid v → altFitR l v = inSpan s (place v)) := by
  rcases alt_law (splitL 38 l) 0 999999 with h | ⟨s, h1, h2, h3⟩
  · exact .inl h
  · refine .inr ⟨s, h1, h2, fun v hv => ?_⟩
    rw [← h3 v hv]
    have := place_bd hv
    have e : inSpan (0, 999999) (place v) = true := by simp [inSpan]; omega
    rw [e, Bool.true_and]; rfl

/-! ### ranges -/
theorem range_law : ∀ (d : List Tx) (acc : List (Int × Int)), (rangeGo acc d = none ∧ d.all isAltR = false) ∨ (∃ sp, rangeGo acc d = some sp ∧ d.all isAltR = true ∧ ∀ v, Valid v → (fitsP acc (place v) || d.any (fun a => altFitR a v)) = fitsP sp (place v))
  | [], acc => .inr ⟨acc, rfl, rfl, fun v _ => by simp⟩
  | a :: r, acc => by
    rcases altP_law a with ⟨h1, h2⟩ | ⟨s, h1, h2, h3⟩
    · exact .inl ⟨by simp [rangeGo, h1], by simp [h2]⟩
    · rcases range_law r (acc ++ [s]) with ⟨k1, k2⟩ | ⟨sp, k1, k2, k3⟩
      · exact .inl ⟨by simp only [rangeGo, h1]; exact k1, by simp only [List.all_cons, k2, Bool.and_false]⟩
      · refine .inr ⟨sp, by simp only [rangeGo, h1]; exact k1, by simp only [List.all_cons, k2, h2, Bool.and_self], fun v hv => ?_⟩
        rw [← k3 v hv, List.any_cons, h3 v hv]
        have e : fitsP (acc ++ [s]) (place v) = (fitsP acc (place v) || inSpan s (place v)) := by
          unfold fitsP inSpan
          rw [List.any_append]
          simp only [List.any_cons, List.any_nil, Bool.or_false]
        rw [e, Bool.or_assoc]
theorem rangeP_law (l : Tx) : (rangeP l = none ∧ isRangeR l = false) ∨ (∃ sp, rangeP l = some sp ∧ isRangeR l = true ∧ ∀ v, Valid v → fitR l v = fitsP sp (place v)) := by
  unfold rangeP isRangeR
  by_cases h60 : 60 < l.length
  · exact .inl ⟨by rw [if_pos h60], by simp; omega⟩
  · rw [if_neg h60]
    have e : decide (l.length ≤ 60) = true := by simp; omega
    rw [e, Bool.true_and]
    rcases range_law (splitL 124 l) [] with h | ⟨sp, h1, h2, h3⟩
    · exact .inl h
    · refine .inr ⟨sp, h1, h2, fun v hv => ?_⟩
      rw [← h3 v hv]
      rfl

end Hst
end Go.Proofs.YtecocheolbkneaaDoor
namespace Go.Proofs.YtecocheolbkneaaDoor
namespace Hst

/-! ### folders -/
theorem foldersGo_take (p : Tx) (m : Nat) (hm : m ≤ p.length) : ∀ j, j < m → foldersGo (p.take m) j = foldersGo p j
  | 0, _ => by simp [foldersGo, isEnd]
  | j + 1, h => by
    have e : isEnd (p.take m) (j + 1) = isEnd p (j + 1) := by
      have h1 : (p.take m).length = m := by simp; omega
      have h2 : (p.take m).getD (j + 1) 0 = p.getD (j + 1) 0 := by
        simp [List.getD, h]
      have h3 : ¬ j + 1 = m := by omega
      have h4 : ¬ j + 1 = p.length := by omega
      unfold isEnd
      rw [h1, h2]
      simp [h3, h4]
    rw [foldersGo, foldersGo, e, foldersGo_take p m hm j (by omega), List.take_take, Nat.min_eq_left (by omega)]
theorem foldersR_nil : foldersR [] = [[]] := by simp [foldersR, foldersGo, isEnd]
theorem foldersR_self (p : Tx) (n : Nat) (h : p.length = n + 1) : foldersR p = p :: foldersGo p n := by
  have e : isEnd p (n + 1) = true := by simp [isEnd, h]
  unfold foldersR
  rw [h, foldersGo, if_pos e, List.take_of_length_le (by omega)]
theorem foldersGo_folder (p : Tx) : ∀ i, i < p.length → foldersGo p i = foldersR (folderGo p (i + 1))
  | 0, h => by
    rw [folderGo]
    have e : (if p.getD 0 0 = 47 then p.take 0 else folderGo p 0) = [] := by split <;> simp [folderGo]
    rw [e, foldersR_nil]
    simp [foldersGo, isEnd]
  | i + 1, h => by
    have h4 : ¬ i + 1 = p.length := by omega
    have e : isEnd p (i + 1) = decide (p.getD (i + 1) 0 = 47) := by
      unfold isEnd
      simp [h4]
    rw [folderGo, foldersGo, e]
    by_cases h47 : p.getD (i + 1) 0 = 47
    · rw [if_pos (by simp only [h47, decide_true]), if_pos h47, foldersR_self (p.take (i + 1)) i (by simp; omega), foldersGo_take p (i + 1) (by omega) i (by omega)]
    · rw [if_neg (by simp only [h47, decide_false]; simp), if_neg h47]
      exact foldersGo_folder p i (by omega)
theorem foldersR_cons (p : Tx) (h : p ≠ []) : foldersR p = p :: foldersR (folderP p) := by
  rcases hl : p.length with _ | n
  · exact absurd (List.length_eq_zero_iff.1 hl) h
  · rw [foldersR_self p n hl, foldersGo_folder p n (by omega)]
    unfold folderP
    rw [hl]
theorem folders_self (p : Tx) : p ∈ foldersR p := by
  by_cases h : p = []
  · subst h; rw [foldersR_nil]; simp
  · rw [foldersR_cons p h]; simp
theorem folders_trans : ∀ (n : Nat) (p f g : Tx), p.length ≤ n → f ∈ foldersR p → g ∈ foldersR f → g ∈ foldersR p
  | n, p, f, g, hn, hf, hg => by
    by_cases h : p = []
    · subst h
      rw [foldersR_nil] at hf
      rw [List.mem_singleton.1 hf] at hg
      exact hg
    · rw [foldersR_cons p h] at hf ⊢
      have hl := folderP_lt h
      rcases List.mem_cons.1 hf with rfl | hf
      · rw [foldersR_cons f h] at hg; exact hg
      · match n with
        | 0 => omega
        | n + 1 => exact List.mem_cons_of_mem _ (folders_trans n (folderP p) f g (by omega) hf hg)
theorem folders_nil : ∀ (n : Nat) (p : Tx), p.length ≤ n → [] ∈ foldersR p
  | n, p, hn => by
    by_cases h : p = []
    · subst h; rw [foldersR_nil]; simp
    · rw [foldersR_cons p h]
      have hl := folderP_lt h
      match n with
      | 0 => omega
      | n + 1 => exact List.mem_cons_of_mem _ (folders_nil n (folderP p) (by omega))

/-- No '/' in it. -/
def NoSl (n : Tx) : Prop := ∀ b ∈ n, b ≠ 47
theorem name_nosl {n : Tx} (h : isNameR n = true) : NoSl n := by
  unfold isNameR at h
  simp only [Bool.and_eq_true, List.all_eq_true] at h
  intro b hb e
  subst e
  have := h.2 47 hb
  simp [low] at this
theorem name_ne {n : Tx} (h : isNameR n = true) : n ≠ [] := by
  rintro rfl
  simp [isNameR] at h
theorem folderGo_nosl {n : Tx} (h : NoSl n) : ∀ i, i ≤ n.length → folderGo n i = []
  | 0, _ => rfl
  | i + 1, hi => by
    rw [folderGo, if_neg, folderGo_nosl h i (by omega)]
    rw [List.getD_eq_getElem?_getD, List.getElem?_eq_getElem (by omega)]
    exact h _ (List.getElem_mem _)
theorem folderGo_join {f n : Tx} (h : NoSl n) : ∀ i, f.length < i → i ≤ (f ++ [47] ++ n).length → folderGo (f ++ [47] ++ n) i = f
  | 0, h0, _ => by omega
  | i + 1, h0, hi => by
    rw [folderGo]
    by_cases e : i = f.length
    · subst e
      rw [if_pos (by simp [List.getD]), List.append_assoc, List.take_left']
      rfl
    · rw [if_neg, folderGo_join h i (by omega) (by omega)]
      simp only [List.append_assoc, List.length_append, List.length_cons, List.length_nil] at hi
      have e1 : (f ++ [47] ++ n).getD i 0 = n.getD (i - f.length - 1) 0 := by
        rw [List.getD_eq_getElem?_getD, List.getD_eq_getElem?_getD, List.getElem?_append_right (by simp; omega)]
        congr 2
        simp; omega
      rw [e1, List.getD_eq_getElem?_getD, List.getElem?_eq_getElem (by omega)]
      exact h _ (List.getElem_mem _)
theorem folder_join {f n : Tx} (h : NoSl n) : folderP (joinR f n) = f := by
  unfold joinR folderP
  by_cases e : f = []
  · rw [if_pos e, folderGo_nosl h _ (Nat.le_refl _), e]
  · rw [if_neg e, folderGo_join h _ (by simp) (Nat.le_refl _)]
theorem join_inj {f f' n n' : Tx} (h : NoSl n) (h' : NoSl n') (e : joinR f n = joinR f' n') : f = f' ∧ n = n' := by
  have e1 : f = f' := by rw [← folder_join (f := f) h, e, folder_join h']
  subst e1
  refine ⟨rfl, ?_⟩
  unfold joinR at e
  split at e
  · exact e
  · exact List.append_cancel_left e
theorem join_ne {f n : Tx} (h : n ≠ []) : joinR f n ≠ [] := by
  unfold joinR
  split
  · exact h
  · simp
theorem folders_join {f n : Tx} (h : NoSl n) (h0 : n ≠ []) : foldersR (joinR f n) = joinR f n :: foldersR f := by
  rw [foldersR_cons _ (join_ne h0), folder_join h]

/-! ### what stands at a path -/
theorem atGo_spec (path : Tx) : ∀ (l : List PackD) (i : Nat), (∃ k, atGo path i l = some (i + k) ∧ ∃ h : k < l.length, l[k].path = path) ∨ (atGo path i l = none ∧ ∀ p ∈ l, p.path ≠ path)
  | [], i => .inr ⟨rfl, by simp⟩
  | p :: r, i => by
    rw [atGo]
    by_cases h : p.path = path
    · exact .inl ⟨0, by rw [if_pos h]; rfl, by simp, by simpa using h⟩
    · rw [if_neg h]
      rcases atGo_spec path r (i + 1) with ⟨k, e, hk, hp⟩ | ⟨e, hn⟩
      · exact .inl ⟨k + 1, by rw [e]; congr 1; omega, by simpa using hk, by simpa using hp⟩
      · refine .inr ⟨e, fun q hq => ?_⟩
        rcases List.mem_cons.1 hq with rfl | hq
        · exact h
        · exact hn q hq
theorem atR_some {l : List PackD} {path : Tx} {k : Nat} (h : atR l path = some k) : k < l.length ∧ packAt l k ∈ l ∧ (packAt l k).path = path := by
  rcases atGo_spec path l 0 with ⟨j, e, hj, hp⟩ | ⟨e, _⟩
  · unfold atR at h
    rw [h] at e
    have e' : k = j := by simpa using e
    subst e'
    have e2 : packAt l k = l[k] := by unfold packAt; rw [List.getD_eq_getElem?_getD, List.getElem?_eq_getElem hj]; rfl
    rw [e2]
    exact ⟨hj, List.getElem_mem _, hp⟩
  · unfold atR at h
    rw [h] at e
    exact absurd e (by simp)
theorem atR_none {l : List PackD} {path : Tx} : atR l path = none ↔ ∀ p ∈ l, p.path ≠ path := by
  rcases atGo_spec path l 0 with ⟨j, e, hj, hp⟩ | ⟨e, hn⟩
  · unfold atR
    rw [e]
    constructor
    · intro h; exact absurd h (by simp)
    · intro h; exact absurd hp (h _ (List.getElem_mem _))
  · unfold atR
    rw [e]
    exact ⟨fun _ => hn, fun _ => rfl⟩
theorem atGo_app (path : Tx) (q : PackD) : ∀ (l : List PackD) (i : Nat), atGo path i (l ++ [q]) = match atGo path i l with
    | some k => some k
    | none => if q.path = path then some (i + l.length) else none
  | [], i => by simp [atGo]
  | p :: r, i => by
    rw [List.cons_append, atGo, atGo]
    by_cases h : p.path = path
    · rw [if_pos h, if_pos h]
    · rw [if_neg h, if_neg h, atGo_app path q r (i + 1)]
      rcases atGo path (i + 1) r with _ | k
      · simp only [List.length_cons]
        rw [show i + 1 + r.length = i + (r.length + 1) by omega]
      · rfl
theorem atR_app (l : List PackD) (q : PackD) (path : Tx) : atR (l ++ [q]) path = match atR l path with
    | some k => some k
    | none => if q.path = path then some l.length else none := by
  have := atGo_app path q l 0
  rw [Nat.zero_add] at this
  exact this
theorem packAt_app_lt {l : List PackD} {q : PackD} {k : Nat} (h : k < l.length) : packAt (l ++ [q]) k = packAt l k := by
  unfold packAt
  rw [List.getD_eq_getElem?_getD, List.getD_eq_getElem?_getD, List.getElem?_append_left h]
theorem packAt_app_eq (l : List PackD) (q : PackD) : packAt (l ++ [q]) l.length = q := by
  unfold packAt
  simp [List.getD_eq_getElem?_getD]

/-! ### what is found -/
theorem findR_eq (l : List PackD) (path name : Tx) : findR l path name = match atR l (joinR path name) with
    | some k => some k
    | none => if path = [] then none else findR l (folderP path) name := by
  unfold findR
  by_cases h : path = []
  · subst h
    rw [foldersR_nil, findGo]
    rcases atR l (joinR [] name) with _ | k
    · simp [findGo]
    · rfl
  · rw [foldersR_cons path h, findGo]
    rcases atR l (joinR path name) with _ | k
    · simp [h]
    · rfl
/-- What is found lies in a folder on the way. -/
theorem findGo_some {l : List PackD} {name : Tx} : ∀ {fs : List Tx} {k : Nat}, findGo l name fs = some k → k < l.length ∧ packAt l k ∈ l ∧ ∃ f ∈ fs, (packAt l k).path = joinR f name
  | [], k, h => by simp [findGo] at h
  | f :: r, k, h => by
    rw [findGo] at h
    rcases e : atR l (joinR f name) with _ | j
    · rw [e] at h
      obtain ⟨h1, h2, g, hg, h3⟩ := findGo_some h
      exact ⟨h1, h2, g, List.mem_cons_of_mem _ hg, h3⟩
    · rw [e] at h
      have e' : j = k := by simpa using h
      subst e'
      obtain ⟨h1, h2, h3⟩ := atR_some e
      exact ⟨h1, h2, f, by simp, h3⟩
theorem findR_some {l : List PackD} {path name : Tx} {k : Nat} (h : findR l path name = some k) : k < l.length ∧ packAt l k ∈ l ∧ ∃ f ∈ foldersR path, (packAt l k).path = joinR f name := findGo_some h
/-- One more package: it is found, or what was found before. -/
theorem findGo_app (l : List PackD) (q : PackD) (name : Tx) : ∀ fs : List Tx, (∀ f ∈ fs, joinR f name ≠ q.path) → findGo (l ++ [q]) name fs = findGo l name fs
  | [], _ => rfl
  | f :: r, h => by
    rw [findGo, findGo, atR_app]
    rcases e : atR l (joinR f name) with _ | k
    · simp only
      rw [if_neg (fun h' => h f (by simp) h'.symm)]
      exact findGo_app l q name r fun g hg => h g (List.mem_cons_of_mem _ hg)
    · rfl
theorem findR_app {l : List PackD} {q : PackD} {path name : Tx} (h : ∀ f ∈ foldersR path, joinR f name ≠ q.path) : findR (l ++ [q]) path name = findR l path name := findGo_app l q name _ h

/-! ### the program's tree and the document's -/
def toX (stx : List EntX) (p : PackD) : PkX := ⟨p.path, stx.getD p.of zeroE⟩
structure TreeSame (stx : List EntX) (l : List PackD) (t : List PkX) : Prop where
  mem : ∀ q, q ∈ t ↔ ∃ p ∈ l, toX stx p = q
  nd : l.Pairwise fun p q => p.path ≠ q.path
  rises : Rises (fun p => p.path) t
  len : t.length = l.length
  of : ∀ p ∈ l, p.of < stx.length
  nm : ∀ p ∈ l, isNameR (stx.getD p.of zeroE).name = true
  wf : ∀ p ∈ l, p.path = joinR (folderP p.path) (stx.getD p.of zeroE).name
theorem path_inj : ∀ {l : List PackD}, (l.Pairwise fun p q => p.path ≠ q.path) → ∀ p ∈ l, ∀ q ∈ l, p.path = q.path → p = q
  | [], _, _, h, _, _, _ => by simp at h
  | z :: r, hl, x, hx, y, hy, e => by
    have hl' := List.pairwise_cons.1 hl
    rcases List.mem_cons.1 hx with h1 | h1
    · rcases List.mem_cons.1 hy with h2 | h2
      · rw [h1, h2]
      · exact absurd (h1 ▸ e) (hl'.1 y h2)
    · rcases List.mem_cons.1 hy with h2 | h2
      · exact absurd (h2 ▸ e).symm (hl'.1 x h1)
      · exact path_inj hl'.2 x h1 y h2 e
theorem TreeSame.nil (stx : List EntX) : TreeSame stx [] [] := ⟨by simp, .nil, Rises.nil _, rfl, by simp, by simp, by simp⟩
theorem TreeSame.app {stx : List EntX} {l : List PackD} {t : List PkX} (h : TreeSame stx l t) {f : Tx} {k : Nat} (hk : k < stx.length) (hn : isNameR (stx.getD k zeroE).name = true) (h0 : atR l (joinR f (stx.getD k zeroE).name) = none) :
    TreeSame stx (l ++ [⟨joinR f (stx.getD k zeroE).name, k⟩]) (withP t ⟨joinR f (stx.getD k zeroE).name, stx.getD k zeroE⟩) := by
  have h0' := atR_none.1 h0
  refine ⟨fun q => ?_, ?_, ?_, ?_, ?_, ?_, ?_⟩
  · rw [withP, insX_mem, h.mem]
    constructor
    · rintro (rfl | ⟨p, hp, e⟩)
      · exact ⟨⟨joinR f (stx.getD k zeroE).name, k⟩, List.mem_append_right _ (List.mem_singleton.2 rfl), rfl⟩
      · exact ⟨p, List.mem_append_left _ hp, e⟩
    · rintro ⟨p, hp, e⟩
      rcases List.mem_append.1 hp with hp | hp
      · exact .inr ⟨p, hp, e⟩
      · rw [List.mem_singleton.1 hp] at e
        exact .inl e.symm
  · refine List.pairwise_append.2 ⟨h.nd, by simp, fun p hp q hq => ?_⟩
    rw [List.mem_singleton.1 hq]
    exact h0' p hp
  · refine insG_rises _ _ _ h.rises fun y hy => ?_
    obtain ⟨p, hp, rfl⟩ := (h.mem y).1 hy
    exact h0' p hp
  · rw [withP, insX_len, h.len]; simp
  · intro p hp
    rcases List.mem_append.1 hp with hp | hp
    · exact h.of p hp
    · rw [List.mem_singleton.1 hp]; exact hk
  · intro p hp
    rcases List.mem_append.1 hp with hp | hp
    · exact h.nm p hp
    · rw [List.mem_singleton.1 hp]; exact hn
  · intro p hp
    rcases List.mem_append.1 hp with hp | hp
    · exact h.wf p hp
    · rw [List.mem_singleton.1 hp]
      simp only
      rw [folder_join (name_nosl hn)]
theorem in_same {stx : List EntX} {l : List PackD} {t : List PkX} (h : TreeSame stx l t) {f name : Tx} (hn : NoSl name) : inP t f name = (atR l (joinR f name)).map fun k => toX stx (packAt l k) := by
  have key : ∀ q ∈ t, (decide (q.e.name = name) && decide (folderP q.path = f)) = true ↔ q.path = joinR f name := by
    intro q hq
    obtain ⟨p, hp, rfl⟩ := (h.mem q).1 hq
    have hw := h.wf p hp
    have hm := name_nosl (h.nm p hp)
    rw [Bool.and_eq_true]
    constructor
    · rintro ⟨e1, e2⟩
      have e1 := of_decide_eq_true e1
      have e2 := of_decide_eq_true e2
      rw [← e1, ← e2]; exact hw
    · intro e
      have e : p.path = joinR f name := e
      rw [hw] at e
      obtain ⟨e1, e2⟩ := join_inj hm hn e
      exact ⟨decide_eq_true e2, decide_eq_true e1⟩
  unfold inP
  rcases e : atR l (joinR f name) with _ | k
  · have h0 := atR_none.1 e
    rw [Option.map_none, List.find?_eq_none]
    intro q hq hc
    have := (key q hq).1 hc
    obtain ⟨p, hp, rfl⟩ := (h.mem q).1 hq
    exact h0 p hp this
  · obtain ⟨h1, h2, h3⟩ := atR_some e
    have hin : toX stx (packAt l k) ∈ t := (h.mem _).2 ⟨_, h2, rfl⟩
    rcases e2 : t.find? (fun p => decide (p.e.name = name) && decide (folderP p.path = f)) with _ | q
    · have := List.find?_eq_none.1 e2 _ hin
      exact absurd ((key _ hin).2 h3) this
    · have hq := List.mem_of_find?_eq_some e2
      have hc := List.find?_some e2
      have := (key q hq).1 hc
      obtain ⟨p, hp, rfl⟩ := (h.mem q).1 hq
      have e3 : p = packAt l k := path_inj h.nd p hp _ h2 (by rw [h3]; exact this)
      rw [e2, e3]; rfl
theorem find_same {stx : List EntX} {l : List PackD} {t : List PkX} (h : TreeSame stx l t) {name : Tx} (hn : NoSl name) : ∀ (n : Nat) (path : Tx), path.length ≤ n → findP t name path = (findR l path name).map fun k => toX stx (packAt l k)
  | n, path, hl => by
    rw [findP_eq, findR_eq]
    by_cases hp : path = []
    · subst hp
      rw [dif_pos rfl, in_same h hn]
      rcases atR l (joinR [] name) with _ | k
      · simp
      · rfl
    · rw [dif_neg hp, in_same h hn]
      rcases atR l (joinR path name) with _ | k
      · have := folderP_lt hp
        simp only [Option.map_none, if_neg hp]
        match n with
        | 0 => omega
        | n + 1 => exact find_same h hn n (folderP path) (by omega)
      · rfl
theorem hasAt_same {stx : List EntX} {l : List PackD} {t : List PkX} (h : TreeSame stx l t) (path : Tx) : hasAtP t path = (atR l path).isSome := by
  unfold hasAtP
  rcases e : atR l path with _ | k
  · have h0 := atR_none.1 e
    rw [Option.isSome_none, List.any_eq_false]
    intro q hq hc
    obtain ⟨p, hp, rfl⟩ := (h.mem q).1 hq
    exact h0 p hp (by simpa [toX] using hc)
  · obtain ⟨_, h2, h3⟩ := atR_some e
    rw [Option.isSome_some, List.any_eq_true]
    exact ⟨toX stx (packAt l k), (h.mem _).2 ⟨_, h2, rfl⟩, by simpa [toX] using h3⟩

end Hst
end Go.Proofs.YtecocheolbkneaaDoor
