/- The plain functions and laws of the lowest version. No program in sight. -/
import Derived.Test.YtkcgbikgblkpjaaDoorMathm
namespace Go.Proofs.YtkcgbikgblkpjaaDoor
namespace Hst

def lowGo (lo : Int) (found : Bool) : List (Int × Int) → Int × Bool
  | [] => (lo, found)
  | s :: r => if s.2 < s.1 then lowGo lo found r else if found = false ∨ s.1 < lo then lowGo s.1 true r else lowGo lo true r
def lowB (v : V3) : Option V3 → Bool
  | none => true
  | some u => belowB v.a v.b v.c u.a u.b u.c
def lowV (f : V3 → Bool) (o : Option V3) : List V3 → Option V3
  | [] => o
  | v :: r => lowV f (if f v = true ∧ lowB v o = true then some v else o) r

theorem lowGo_spec : ∀ (sp : List (Int × Int)) (lo : Int) (found : Bool),
    ((lowGo lo found sp).2 = true → ((lowGo lo found sp).1 = lo ∧ found = true) ∨ ∃ s ∈ sp, s.1 ≤ s.2 ∧ (lowGo lo found sp).1 = s.1) ∧
    ((lowGo lo found sp).2 = false → found = false ∧ ∀ s ∈ sp, s.2 < s.1) ∧ (found = true → (lowGo lo found sp).1 ≤ lo) ∧ (∀ s ∈ sp, s.1 ≤ s.2 → (lowGo lo found sp).1 ≤ s.1)
  | [], lo, found => by simp [lowGo]
  | s :: r, lo, found => by
    simp only [lowGo]
    by_cases h1 : s.2 < s.1
    · rw [if_pos h1]
      obtain ⟨i1, i2, i3, i4⟩ := lowGo_spec r lo found
      refine ⟨fun h => ?_, fun h => ?_, i3, fun t ht hle => ?_⟩
      · rcases i1 h with e | ⟨t, ht, e⟩
        · exact .inl e
        · exact .inr ⟨t, by simp [ht], e⟩
      · refine ⟨(i2 h).1, fun t ht => ?_⟩
        simp at ht
        rcases ht with rfl | ht
        · exact h1
        · exact (i2 h).2 t ht
      · simp at ht
        rcases ht with rfl | ht
        · omega
        · exact i4 t ht hle
    · rw [if_neg h1]
      by_cases h2 : found = false ∨ s.1 < lo
      · rw [if_pos h2]
        obtain ⟨i1, i2, i3, i4⟩ := lowGo_spec r s.1 true
        have i3' := i3 rfl
        refine ⟨fun h => ?_, fun h => ?_, fun h => ?_, fun t ht hle => ?_⟩
        · rcases i1 h with e | ⟨t, ht, e⟩
          · exact .inr ⟨s, by simp, by omega, e.1⟩
          · exact .inr ⟨t, by simp [ht], e⟩
        · have := (i2 h).1; simp at this
        · rcases h2 with h2 | h2
          · rw [h2] at h; simp at h
          · omega
        · simp at ht
          rcases ht with rfl | ht
          · exact i3'
          · exact i4 t ht hle
      · rw [if_neg h2]
        simp only [not_or] at h2
        have hf : found = true := by simpa using h2.1
        obtain ⟨i1, i2, i3, i4⟩ := lowGo_spec r lo true
        have i3' := i3 rfl
        refine ⟨fun h => ?_, fun h => ?_, fun _ => i3', fun t ht hle => ?_⟩
        · rcases i1 h with e | ⟨t, ht, e⟩
          · exact .inl ⟨e.1, hf⟩
          · exact .inr ⟨t, by simp [ht], e⟩
        · have := (i2 h).1; simp at this
        · simp at ht
          rcases ht with rfl | ht
          · omega
          · exact i4 t ht hle

theorem lowV_none (f : V3 → Bool) : ∀ (l : List V3) (o : Option V3), lowV f o l = none → o = none ∧ ∀ v ∈ l, f v = false
  | [], o, h => by simp [lowV] at h; exact ⟨h, by simp⟩
  | v :: r, o, h => by
    simp only [lowV] at h
    by_cases hc : f v = true ∧ lowB v o = true
    · rw [if_pos hc] at h
      have := (lowV_none f r _ h).1
      simp at this
    · rw [if_neg hc] at h
      obtain ⟨rfl, ih⟩ := lowV_none f r _ h
      refine ⟨rfl, fun u hu => ?_⟩
      simp at hu
      rcases hu with rfl | hu
      · simpa [lowB] using hc
      · exact ih u hu
theorem lowV_some (f : V3 → Bool) : ∀ (l : List V3) (o : Option V3) (w : V3), (∀ v ∈ l, Valid v) → (∀ u, o = some u → Valid u) → lowV f o l = some w →
    (o = some w ∨ (w ∈ l ∧ f w = true)) ∧ (∀ u, o = some u → place w ≤ place u) ∧ (∀ v ∈ l, f v = true → place w ≤ place v)
  | [], o, w, _, _, h => by
    simp [lowV] at h
    subst h
    exact ⟨.inl rfl, fun u hu => by simp at hu; subst hu; exact Int.le_refl _, by simp⟩
  | v :: r, o, w, hl, ho, h => by
    simp only [lowV] at h
    have hv := hl v (by simp)
    by_cases hc : f v = true ∧ lowB v o = true
    · rw [if_pos hc] at h
      obtain ⟨i1, i2, i3⟩ := lowV_some f r (some v) w (fun u hu => hl u (by simp [hu])) (fun u hu => by simp at hu; subst hu; exact hv) h
      have i2' := i2 v rfl
      refine ⟨?_, fun u hu => ?_, fun u hu hfu => ?_⟩
      · rcases i1 with e | ⟨e1, e2⟩
        · simp at e; subst e; exact .inr ⟨by simp, hc.1⟩
        · exact .inr ⟨by simp [e1], e2⟩
      · subst hu
        have hb := hc.2
        simp only [lowB, below_place hv (ho u rfl), decide_eq_true_eq] at hb
        omega
      · simp at hu
        rcases hu with rfl | hu
        · exact i2'
        · exact i3 u hu hfu
    · rw [if_neg hc] at h
      obtain ⟨i1, i2, i3⟩ := lowV_some f r o w (fun u hu => hl u (by simp [hu])) ho h
      refine ⟨?_, i2, fun u hu hfu => ?_⟩
      · rcases i1 with e | ⟨e1, e2⟩
        · exact .inl e
        · exact .inr ⟨by simp [e1], e2⟩
      · simp at hu
        rcases hu with rfl | hu
        · match o, ho, i2, hc with
          | none, _, _, hc => exact absurd ⟨hfu, rfl⟩ hc
          | some x, ho, i2, hc =>
            have hx := ho x rfl
            have := i2 x rfl
            simp only [lowB, below_place hv hx, hfu, true_and, decide_eq_true_eq] at hc
            omega
        · exact i3 u hu hfu

/-- The law of the lowest version. -/
theorem low_law {r : Tx} {sp : List (Int × Int)} (h1 : rangeP r = some sp) (f1 : ∀ v, Valid v → fitR r v = fitsP sp (place v)) :
    ((lowGo 0 false sp).2 = false ∧ lowV (fitR r) none (pointsR r) = none) ∨
    ((lowGo 0 false sp).2 = true ∧ ∃ v, lowV (fitR r) none (pointsR r) = some v ∧ Valid v ∧ place v = (lowGo 0 false sp).1 ∧ fitsP sp (lowGo 0 false sp).1 = true ∧ ∀ p, fitsP sp p = true → (lowGo 0 false sp).1 ≤ p) := by
  obtain ⟨i1, i2, _, i4⟩ := lowGo_spec sp 0 false
  rcases hf : (lowGo 0 false sp).2 with _ | _
  · refine .inl ⟨rfl, ?_⟩
    rcases hl : lowV (fitR r) none (pointsR r) with _ | v
    · rfl
    · exfalso
      obtain ⟨j1, _, _⟩ := lowV_some _ _ _ v (fun u hu => pointsR_valid hu) (by simp) hl
      rcases j1 with e | ⟨e1, e2⟩
      · simp at e
      · rw [f1 v (pointsR_valid e1)] at e2
        obtain ⟨s, hs, a, b⟩ := of_fitsP e2
        have := (i2 hf).2 s hs
        omega
  · refine .inr ⟨rfl, ?_⟩
    rcases i1 hf with e | ⟨s, hs, hle, e⟩
    · simp at e
    · have hlow := rangeP_low h1 hs
      obtain ⟨p, hp, hpe⟩ := hlow.2 (by omega)
      have hpv := pointsR_valid hp
      have hpf : fitR r p = true := by rw [f1 p hpv]; exact fitsP_of hs (by omega) (by omega)
      have hmin : ∀ q, fitsP sp q = true → (lowGo 0 false sp).1 ≤ q := by
        intro q hq
        obtain ⟨t, ht, a, b⟩ := of_fitsP hq
        have := i4 t ht (by omega)
        omega
      rcases hl : lowV (fitR r) none (pointsR r) with _ | v
      · have := (lowV_none _ _ _ hl).2 p hp
        rw [hpf] at this
        simp at this
      · obtain ⟨j1, _, j3⟩ := lowV_some _ _ _ v (fun u hu => pointsR_valid hu) (by simp) hl
        rcases j1 with e' | ⟨e1, e2⟩
        · simp at e'
        · have hv := pointsR_valid e1
          have k1 := j3 p hp hpf
          rw [f1 v hv] at e2
          have k2 := hmin _ e2
          exact ⟨v, rfl, hv, by omega, by rw [e]; exact fitsP_of hs (Int.le_refl _) hle, hmin⟩

end Hst
end Go.Proofs.YtkcgbikgblkpjaaDoor
