/- Plain laws of two ranges side by side. No program in sight. -/
import Derived.Test.YtkcgbikgblkpjaaDoorSignmath
import Derived.Test.YtkcgbikgblkpjaaDoorLowest
import Derived.Test.YtkcgbikgblkpjaaDoorMeet
namespace Go.Proofs.YtkcgbikgblkpjaaDoor
namespace Hst

theorem splitL_append (n : Int) (m : UInt8) (hm : (m.toNat : Int) = n) (r : Tx) : ∀ l : Tx, splitL n (l ++ m :: r) = splitL n l ++ splitL n r
  | [] => by simp [splitL, hm]
  | b :: l => by
    have ih := splitL_append n m hm r l
    simp only [List.cons_append, splitL, ih]
    by_cases hb : (b.toNat : Int) = n
    · simp [hb]
    · simp only [if_neg hb]
      rcases hs : splitL n l with _ | ⟨q, qs⟩
      · exact absurd hs (splitL_ne n l)
      · simp
theorem rangeGo_acc : ∀ (d : List Tx) (acc : List (Int × Int)), rangeGo acc d = (rangeGo [] d).map (acc ++ ·)
  | [], acc => by simp [rangeGo]
  | a :: r, acc => by
    simp only [rangeGo]
    rcases altP a with _ | s
    · rfl
    · simp only
      rw [rangeGo_acc r (acc ++ [s]), rangeGo_acc r ([] ++ [s])]
      rcases rangeGo [] r with _ | x
      · rfl
      · simp
theorem rangeGo_append : ∀ (d e : List Tx) (acc sp : List (Int × Int)), rangeGo acc d = some sp → rangeGo acc (d ++ e) = rangeGo sp e
  | [], e, acc, sp, h => by simp [rangeGo] at h; subst h; simp
  | a :: r, e, acc, sp, h => by
    simp only [rangeGo, List.cons_append] at h ⊢
    rcases ha : altP a with _ | s
    · rw [ha] at h; simp at h
    · rw [ha] at h
      exact rangeGo_append r e _ sp h
theorem rangeP_bar {r s : Tx} {sp sq : List (Int × Int)} (hr : rangeP r = some sp) (hs : rangeP s = some sq) (hl : r.length + s.length + 1 ≤ 60) : rangeP (r ++ [124] ++ s) = some (sp ++ sq) := by
  unfold rangeP at hr hs ⊢
  split at hr
  · simp at hr
  · split at hs
    · simp at hs
    · rw [if_neg (by simp; omega)]
      have e : r ++ [124] ++ s = r ++ 124 :: s := by simp
      rw [e, splitL_append 124 124 (by rfl), rangeGo_append _ _ _ _ hr, rangeGo_acc, hs]
      rfl
theorem rangeP_long {l : Tx} (h : 60 < l.length) : rangeP l = none := by unfold rangeP; rw [if_pos h]
theorem rangeP_short {l : Tx} {sp : List (Int × Int)} (h : rangeP l = some sp) : l.length ≤ 60 := by
  unfold rangeP at h
  split at h
  · simp at h
  · omega
theorem fitsP_append (sp sq : List (Int × Int)) (n : Int) : fitsP (sp ++ sq) n = (fitsP sp n || fitsP sq n) := by
  unfold fitsP; rw [List.any_append]
theorem meet_comm (sp sq : List (Int × Int)) : meetP sp sq = meetP sq sp := by
  rw [Bool.eq_iff_iff]
  have key : ∀ a b : List (Int × Int), meetP a b = true → meetP b a = true := by
    intro a b h
    unfold meetP at h ⊢
    rw [List.any_eq_true] at h ⊢
    obtain ⟨x, hx, h⟩ := h
    rw [List.any_eq_true] at h
    obtain ⟨y, hy, h⟩ := h
    refine ⟨y, hy, ?_⟩
    rw [List.any_eq_true]
    refine ⟨x, hx, ?_⟩
    simp at h ⊢
    have e1 : mx y.1 x.1 = mx x.1 y.1 := by unfold mx; split <;> split <;> omega
    have e2 : mn y.2 x.2 = mn x.2 y.2 := by unfold mn; split <;> split <;> omega
    rw [e1, e2]; exact h
  exact ⟨key sp sq, key sq sp⟩
theorem meet_of_fits {sp sq : List (Int × Int)} {n : Int} (h1 : fitsP sp n = true) (h2 : fitsP sq n = true) : meetP sp sq = true := by
  obtain ⟨x, hx, a1, a2⟩ := of_fitsP h1
  obtain ⟨y, hy, b1, b2⟩ := of_fitsP h2
  unfold meetP
  rw [List.any_eq_true]
  refine ⟨x, hx, ?_⟩
  rw [List.any_eq_true]
  refine ⟨y, hy, ?_⟩
  have e1 := (mx_le x.1 y.1 n).2 ⟨a1, b1⟩
  have e2 := (le_mn x.2 y.2 n).2 ⟨a2, b2⟩
  simp
  omega
theorem versionP_placeT {n : Int} (h0 : 0 ≤ n) (h1 : n ≤ 999999) : versionP (placeT n) = some n := by
  unfold placeT
  rw [versionP_verT (by omega) (by omega) (by omega)]
  congr 1
  omega
theorem placeT_len (n : Int) : (placeT n).length ≤ 8 := verT_len _ _ _
theorem fits_ge {n m : Int} {v : Tx} (h0 : 0 ≤ n) (h1 : n ≤ 999999) (hm1 : m ≤ 999999) (hv : versionP v = some m) : fitsProg ([62, 61] ++ placeT n) v = (decide (n ≤ m), 0) := by
  unfold placeT
  have e : (((n / 10000).toNat : Int) * 100 + (n / 100 % 100).toNat) * 100 + (n % 100).toNat = n := by omega
  rw [fits_signed (s := (n, 999999)) (by simp [IsSign]) (by omega) (by omega) (by omega) (by rw [e]; simp [spanOfP]) h0 (by simp) hv]
  simp [inSpan]
  omega
/-- What the laws of low_law give to one range. -/
theorem low_facts (sp : List (Int × Int)) :
    ((lowGo 0 false sp).2 = false ∧ ∀ p, fitsP sp p = false) ∨ ((lowGo 0 false sp).2 = true ∧ fitsP sp (lowGo 0 false sp).1 = true ∧ ∀ p, fitsP sp p = true → (lowGo 0 false sp).1 ≤ p) := by
  obtain ⟨i1, i2, _, i4⟩ := lowGo_spec sp 0 false
  rcases hf : (lowGo 0 false sp).2 with _ | _
  · refine .inl ⟨rfl, fun p => ?_⟩
    rcases hp : fitsP sp p with _ | _
    · rfl
    · obtain ⟨s, hs, a, b⟩ := of_fitsP hp
      have := (i2 hf).2 s hs
      omega
  · refine .inr ⟨rfl, ?_, fun p hp => ?_⟩
    · rcases i1 hf with e | ⟨s, hs, hle, e⟩
      · simp at e
      · rw [e]; exact fitsP_of hs (Int.le_refl _) hle
    · obtain ⟨t, ht, a, b⟩ := of_fitsP hp
      have := i4 t ht (by omega)
      omega
theorem known1 : fitsProg [94, 49, 46, 50, 46, 48] [49, 46, 57, 46, 57] = (true, 0) := by decide +kernel
theorem known2 : fitsProg [94, 49, 46, 50, 46, 48] [50, 46, 48, 46, 48] = (false, 0) := by decide +kernel

end Hst
end Go.Proofs.YtkcgbikgblkpjaaDoor
