/- Plain laws on written versions: what Fits makes of a sign and a written version. No program in sight. -/
import Derived.Test.YtkcgbikgblkpjaaDoorMath
import Derived.Test.YtkcgbikgblkpjaaDoorItoa
import Derived.Test.YtkcgbikgblkpjaaDoorRfits
namespace Go.Proofs.YtkcgbikgblkpjaaDoor
namespace Hst

theorem splitL_none : ∀ (n : Int) (l : Tx), (∀ b ∈ l, (b.toNat : Int) ≠ n) → splitL n l = [l]
  | n, [], _ => rfl
  | n, b :: r, h => by
    have ih := splitL_none n r (fun c hc => h c (by simp [hc]))
    simp only [splitL, if_neg (h b (by simp)), ih]
theorem splitL_cut : ∀ (n : Int) (l r : Tx) (m : UInt8), (∀ b ∈ l, (b.toNat : Int) ≠ n) → (m.toNat : Int) = n → splitL n (l ++ m :: r) = l :: splitL n r
  | n, [], r, m, _, hm => by simp [splitL, hm]
  | n, b :: l, r, m, h, hm => by
    have ih := splitL_cut n l r m (fun c hc => h c (by simp [hc])) hm
    simp only [List.cons_append, splitL, if_neg (h b (by simp)), ih]
theorem numT_bytes {k : Nat} (h : k < 100) : ∀ b ∈ numT k, 48 ≤ b.toNat ∧ b.toNat ≤ 57 := by
  intro b hb
  unfold numT at hb
  split at hb
  · simp only [List.mem_singleton] at hb
    subst hb
    have : (48 + k).toUInt8.toNat = 48 + k := by simp; omega
    omega
  · simp only [List.mem_cons, List.not_mem_nil, or_false] at hb
    rcases hb with rfl | rfl
    · have : (48 + k / 10).toUInt8.toNat = 48 + k / 10 := by simp; omega
      omega
    · have : (48 + k % 10).toUInt8.toNat = 48 + k % 10 := by simp; omega
      omega
theorem numT_ne {k : Nat} (h : k < 100) {n : Int} (hn : n < 48 ∨ 57 < n) : ∀ b ∈ numT k, (b.toNat : Int) ≠ n := by
  intro b hb
  have := numT_bytes h b hb
  omega
theorem partP_numT : ∀ k, k < 100 → partP (numT k) = some (k : Int) := by decide +kernel
theorem splitL_verT {a b c : Nat} (ha : a < 100) (hb : b < 100) (hc : c < 100) : splitL 46 (verT a b c) = [numT a, numT b, numT c] := by
  have e : verT a b c = numT a ++ 46 :: (numT b ++ 46 :: numT c) := by simp [verT]
  rw [e, splitL_cut 46 _ _ 46 (numT_ne ha (by omega)) (by rfl), splitL_cut 46 _ _ 46 (numT_ne hb (by omega)) (by rfl), splitL_none 46 _ (numT_ne hc (by omega))]
theorem versionP_verT {a b c : Nat} (ha : a < 100) (hb : b < 100) (hc : c < 100) : versionP (verT a b c) = some (((a : Int) * 100 + b) * 100 + c) := by
  unfold versionP
  have hl := verT_len a b c
  rw [if_neg (by omega), splitL_verT ha hb hc, if_neg (by simp)]
  simp [verGo, partP_numT a ha, partP_numT b hb, partP_numT c hc]
theorem verT_bytes {a b c : Nat} (ha : a < 100) (hb : b < 100) (hc : c < 100) : ∀ x ∈ verT a b c, 46 ≤ x.toNat ∧ x.toNat ≤ 57 := by
  intro x hx
  simp only [verT, List.mem_append, List.mem_singleton] at hx
  rcases hx with (((hx | rfl) | hx) | rfl) | hx
  · have := numT_bytes ha x hx; omega
  · decide
  · have := numT_bytes hb x hx; omega
  · decide
  · have := numT_bytes hc x hx; omega

/-- A range of one condition. -/
theorem rangeP_one {l : Tx} {s : Int × Int} (h60 : l.length ≤ 60) (h1 : ∀ b ∈ l, (b.toNat : Int) ≠ 124) (h2 : ∀ b ∈ l, (b.toNat : Int) ≠ 38) (hc : condP l = some s) (h0 : 0 ≤ s.1) (h9 : s.2 ≤ 999999) : rangeP l = some [s] := by
  unfold rangeP
  rw [if_neg (by omega), splitL_none 124 l h1]
  have ha : altP l = some s := by
    unfold altP
    rw [splitL_none 38 l h2]
    simp only [altGo, hc]
    congr 1
    have e1 : mx 0 s.1 = s.1 := by unfold mx; split <;> omega
    have e2 : mn 999999 s.2 = s.2 := by unfold mn; split <;> omega
    rw [e1, e2]
  simp [rangeGo, ha]
theorem fits_one {l v : Tx} {s : Int × Int} {n : Int} (h60 : l.length ≤ 60) (h1 : ∀ b ∈ l, (b.toNat : Int) ≠ 124) (h2 : ∀ b ∈ l, (b.toNat : Int) ≠ 38) (hc : condP l = some s) (h0 : 0 ≤ s.1) (h9 : s.2 ≤ 999999) (hv : versionP v = some n) : fitsProg l v = (inSpan s n, 0) := by
  rw [fitsProg3 (rangeP_one h60 h1 h2 hc h0 h9) hv]
  simp [fitsP, inSpan]
/-- A sign and a written version are a condition. -/
theorem cond_signed {sg : Tx} (hs : IsSign sg) {a b c : Nat} (ha : a < 100) (hb : b < 100) (hc : c < 100) : condP (sg ++ verT a b c) = spanOfP sg (((a : Int) * 100 + b) * 100 + c) :=
  CondIs.condP ⟨rfl, hs, versionP_verT ha hb hc⟩
theorem sign_bytes {sg : Tx} (hs : IsSign sg) : sg.length ≤ 2 ∧ ∀ b ∈ sg, (b.toNat : Int) ≠ 124 ∧ (b.toNat : Int) ≠ 38 := by
  rcases hs with h | h | h | h | h | h | h <;> subst h <;> exact ⟨by simp, by decide⟩
theorem fits_signed {sg : Tx} (hs : IsSign sg) {a b c : Nat} (ha : a < 100) (hb : b < 100) (hc : c < 100) {s : Int × Int} (he : spanOfP sg (((a : Int) * 100 + b) * 100 + c) = some s) (h0 : 0 ≤ s.1) (h9 : s.2 ≤ 999999) {v : Tx} {n : Int} (hv : versionP v = some n) :
    fitsProg (sg ++ verT a b c) v = (inSpan s n, 0) := by
  have hb' := verT_bytes ha hb hc
  have hsb := sign_bytes hs
  have hl := verT_len a b c
  refine fits_one (by simp; omega) ?_ ?_ ((cond_signed hs ha hb hc).trans he) h0 h9 hv
  · intro x hx
    simp only [List.mem_append] at hx
    rcases hx with hx | hx
    · exact (hsb.2 x hx).1
    · have := hb' x hx; omega
  · intro x hx
    simp only [List.mem_append] at hx
    rcases hx with hx | hx
    · exact (hsb.2 x hx).2
    · have := hb' x hx; omega
theorem fits_star {v : Tx} {n : Int} (hv : versionP v = some n) : fitsProg [42] v = (true, 0) := by
  have hn : (versionR v).2 = true ∧ n = place (versionR v).1 := versionP_some hv
  have := place_bd (versionR_valid v hn.1)
  rw [fits_one (s := (0, 999999)) (by simp) (by decide) (by decide) (by simp [condP]) (by simp) (by simp) hv]
  simp [inSpan]
  omega

end Hst
end Go.Proofs.YtkcgbikgblkpjaaDoor
