/- The plain law of meeting and of the lowest version. No program in sight. -/
import Derived.Test.YtkcgbikgblkpjaaDoorMath
import Derived.Test.YtkcgbikgblkpjaaDoorDefsm
namespace Go.Proofs.YtkcgbikgblkpjaaDoor
namespace Hst

theorem after_yes {v : V3} (h : Valid v) (hm : (afterR v).2 = true) : Valid (afterR v).1 ∧ place (afterR v).1 = place v + 1 := by
  obtain ⟨h1, h2, h3, h4, h5, h6⟩ := h
  unfold afterR at hm ⊢
  by_cases c1 : v.c < 99
  · rw [if_pos c1]
    exact ⟨⟨h1, h2, h3, h4, by simp; omega, by simp; omega⟩, by simp only [place]; omega⟩
  · by_cases c2 : v.b < 99
    · rw [if_neg c1, if_pos c2]
      exact ⟨⟨h1, h2, by simp; omega, by simp; omega, by simp, by simp⟩, by simp only [place]; omega⟩
    · by_cases c3 : v.a < 99
      · rw [if_neg c1, if_neg c2, if_pos c3]
        exact ⟨⟨by simp; omega, by simp; omega, by simp, by simp, by simp, by simp⟩, by simp only [place]; omega⟩
      · rw [if_neg c1, if_neg c2, if_neg c3] at hm
        simp at hm
theorem after_no {v : V3} (h : Valid v) (hm : (afterR v).2 = false) : place v = 999999 := by
  obtain ⟨h1, h2, h3, h4, h5, h6⟩ := h
  unfold afterR at hm
  by_cases c1 : v.c < 99
  · rw [if_pos c1] at hm; simp at hm
  · by_cases c2 : v.b < 99
    · rw [if_neg c1, if_pos c2] at hm; simp at hm
    · by_cases c3 : v.a < 99
      · rw [if_neg c1, if_neg c2, if_pos c3] at hm; simp at hm
      · unfold place; omega
theorem ptsC_valid {c : Tx} {p : V3} (h : p ∈ ptsC c) : Valid p := by
  unfold ptsC at h
  split at h
  · rename_i hv
    have hw := versionR_valid _ hv
    simp only [List.mem_cons] at h
    rcases h with rfl | h
    · exact hw
    · split at h
      · rename_i hm
        simp at h
        subst h
        exact (after_yes hw hm).1
      · simp at h
  · simp at h
theorem zero_valid : Valid ⟨0, 0, 0⟩ := ⟨by simp, by simp, by simp, by simp, by simp, by simp⟩
theorem pointsR_valid {l : Tx} {p : V3} (h : p ∈ pointsR l) : Valid p := by
  unfold pointsR at h
  simp only [List.mem_append, List.mem_singleton, List.mem_flatMap] at h
  rcases h with rfl | ⟨a, _, h⟩
  · exact zero_valid
  · unfold ptsA at h
    simp only [List.mem_flatMap] at h
    obtain ⟨c, _, h⟩ := h
    exact ptsC_valid h

theorem pts_self {c sg rest : Tx} (hd : signedR c = (sg, rest)) (hv : (versionR rest).2 = true) : (versionR rest).1 ∈ ptsC c := by
  unfold ptsC
  rw [hd, if_pos hv]
  simp
theorem pts_next {c sg rest : Tx} (hd : signedR c = (sg, rest)) (hv : (versionR rest).2 = true) (hm : (afterR (versionR rest).1).2 = true) : (afterR (versionR rest).1).1 ∈ ptsC c := by
  unfold ptsC
  rw [hd, if_pos hv, if_pos hm]
  simp

theorem cond_low {c : Tx} {s : Int × Int} (h : condP c = some s) (hs : s.1 ≤ 999999) : s.1 = 0 ∨ ∃ p ∈ ptsC c, place p = s.1 := by
  by_cases h42 : c = [42]
  · subst h42
    simp [condP] at h
    subst h
    exact .inl rfl
  · obtain ⟨sg, rest, n, hc⟩ := condIs_of_span h42 h
    obtain ⟨hv, rfl⟩ := versionP_some hc.ver
    have hw := versionR_valid rest hv
    have hd := hc.signed
    rw [hc.condP] at h
    have same : s.1 = place (versionR rest).1 → s.1 = 0 ∨ ∃ p ∈ ptsC c, place p = s.1 := fun e => .inr ⟨_, pts_self hd hv, e.symm⟩
    rcases hc.sign with e | e | e | e | e | e | e <;> subst e <;> simp [spanOfP] at h <;> subst h
    · exact same rfl
    · simp only at hs ⊢
      rcases hm : (afterR (versionR rest).1).2 with _ | _
      · have := after_no hw hm; omega
      · exact .inr ⟨_, pts_next hd hv hm, (after_yes hw hm).2⟩
    · exact same rfl
    · exact .inl rfl
    · exact .inl rfl
    · exact same rfl
    · exact same rfl

theorem alt_low : ∀ (d : List Tx) (lo hi : Int) (s : Int × Int), altGo lo hi d = some s → (s.1 = lo ∨ ∃ c ∈ d, ∃ x, condP c = some x ∧ x.1 = s.1) ∧ s.2 ≤ hi
  | [], lo, hi, s, h => by simp [altGo] at h; subst h; exact ⟨.inl rfl, Int.le_refl _⟩
  | c :: r, lo, hi, s, h => by
    simp only [altGo] at h
    rcases hc : condP c with _ | x
    · rw [hc] at h; simp at h
    · rw [hc] at h
      have ih := alt_low r _ _ s h
      refine ⟨?_, ?_⟩
      · rcases ih.1 with e | ⟨c', h1, x', h2, h3⟩
        · unfold mx at e
          split at e
          · exact .inr ⟨c, by simp, x, hc, e.symm⟩
          · exact .inl e
        · exact .inr ⟨c', by simp [h1], x', h2, h3⟩
      · exact ((le_mn hi x.2 s.2).1 ih.2).1
theorem altP_low {l : Tx} {s : Int × Int} (h : altP l = some s) : s.2 ≤ 999999 ∧ (s.1 ≤ 999999 → s.1 = 0 ∨ ∃ p ∈ ptsA l, place p = s.1) := by
  have hl := alt_low _ _ _ _ h
  refine ⟨hl.2, fun hs => ?_⟩
  rcases hl.1 with e | ⟨c, h1, x, h2, h3⟩
  · exact .inl e
  · rcases cond_low h2 (by omega) with e | ⟨p, hp, e⟩
    · exact .inl (by omega)
    · refine .inr ⟨p, ?_, by omega⟩
      unfold ptsA
      exact List.mem_flatMap.2 ⟨c, h1, hp⟩
theorem range_low : ∀ (d : List Tx) (acc sp : List (Int × Int)), rangeGo acc d = some sp → ∀ s ∈ sp, s ∈ acc ∨ ∃ a ∈ d, altP a = some s
  | [], acc, sp, h, s, hs => by simp [rangeGo] at h; subst h; exact .inl hs
  | a :: r, acc, sp, h, s, hs => by
    simp only [rangeGo] at h
    rcases ha : altP a with _ | x
    · rw [ha] at h; simp at h
    · rw [ha] at h
      rcases range_low r _ sp h s hs with e | ⟨b, h1, h2⟩
      · simp at e
        rcases e with e | rfl
        · exact .inl e
        · exact .inr ⟨a, by simp, ha⟩
      · exact .inr ⟨b, by simp [h1], h2⟩
/-- Where a span of a range begins there is a point. -/
theorem rangeP_low {l : Tx} {sp : List (Int × Int)} (h : rangeP l = some sp) {s : Int × Int} (hs : s ∈ sp) : s.2 ≤ 999999 ∧ (s.1 ≤ 999999 → ∃ p ∈ pointsR l, place p = s.1) := by
  unfold rangeP at h
  split at h
  · simp at h
  · rcases range_low _ _ _ h s hs with e | ⟨a, h1, h2⟩
    · simp at e
    · have hl := altP_low h2
      refine ⟨hl.1, fun hs => ?_⟩
      rcases hl.2 hs with e | ⟨p, hp, e⟩
      · exact ⟨⟨0, 0, 0⟩, by simp [pointsR], by rw [e]; rfl⟩
      · refine ⟨p, ?_, e⟩
        unfold pointsR
        simp only [List.mem_append, List.mem_flatMap]
        exact .inr ⟨a, h1, hp⟩

theorem fitsP_of {sp : List (Int × Int)} {s : Int × Int} {p : Int} (hs : s ∈ sp) (h1 : s.1 ≤ p) (h2 : p ≤ s.2) : fitsP sp p = true := by
  unfold fitsP
  rw [List.any_eq_true]
  exact ⟨s, hs, by simp [h1, h2]⟩
theorem of_fitsP {sp : List (Int × Int)} {p : Int} (h : fitsP sp p = true) : ∃ s ∈ sp, s.1 ≤ p ∧ p ≤ s.2 := by
  unfold fitsP at h
  rw [List.any_eq_true] at h
  obtain ⟨s, hs, h⟩ := h
  simp at h
  exact ⟨s, hs, h⟩

theorem meet_law {r s : Tx} {sp sq : List (Int × Int)} (h1 : rangeP r = some sp) (h2 : rangeP s = some sq) (f1 : ∀ v, Valid v → fitR r v = fitsP sp (place v)) (f2 : ∀ v, Valid v → fitR s v = fitsP sq (place v)) : meetR r s = meetP sp sq := by
  rw [Bool.eq_iff_iff]
  constructor
  · intro h
    unfold meetR at h
    rw [List.any_eq_true] at h
    obtain ⟨p, hp, h⟩ := h
    have hv : Valid p := by
      simp only [List.mem_append] at hp
      rcases hp with hp | hp <;> exact pointsR_valid hp
    rw [Bool.and_eq_true, f1 p hv, f2 p hv] at h
    obtain ⟨x, hx, a1, a2⟩ := of_fitsP h.1
    obtain ⟨y, hy, b1, b2⟩ := of_fitsP h.2
    unfold meetP
    rw [List.any_eq_true]
    refine ⟨x, hx, ?_⟩
    rw [List.any_eq_true]
    refine ⟨y, hy, ?_⟩
    have e1 := (mx_le x.1 y.1 (place p)).2 ⟨a1, b1⟩
    have e2 := (le_mn x.2 y.2 (place p)).2 ⟨a2, b2⟩
    simp
    omega
  · intro h
    unfold meetP at h
    rw [List.any_eq_true] at h
    obtain ⟨x, hx, h⟩ := h
    rw [List.any_eq_true] at h
    obtain ⟨y, hy, h⟩ := h
    simp at h
    have e1 := (mx_le x.1 y.1 (mx x.1 y.1)).1 (Int.le_refl _)
    have e2 := (le_mn x.2 y.2 (mn x.2 y.2)).1 (Int.le_refl _)
    have l1 := rangeP_low h1 hx
    have l2 := rangeP_low h2 hy
    have key : ∃ p, p ∈ pointsR r ++ pointsR s ∧ Valid p ∧ place p = mx x.1 y.1 := by
      have hm : mx x.1 y.1 = x.1 ∨ mx x.1 y.1 = y.1 := by unfold mx; split <;> simp
      rcases hm with hm | hm
      · obtain ⟨p, hp, e⟩ := l1.2 (by omega)
        exact ⟨p, List.mem_append.2 (.inl hp), pointsR_valid hp, by omega⟩
      · obtain ⟨p, hp, e⟩ := l2.2 (by omega)
        exact ⟨p, List.mem_append.2 (.inr hp), pointsR_valid hp, by omega⟩
    obtain ⟨p, hp, hv, e⟩ := key
    unfold meetR
    rw [List.any_eq_true]
    refine ⟨p, hp, ?_⟩
    rw [Bool.and_eq_true, f1 p hv, f2 p hv]
    exact ⟨fitsP_of hx (by omega) (by omega), fitsP_of hy (by omega) (by omega)⟩

end Hst
end Go.Proofs.YtkcgbikgblkpjaaDoor
