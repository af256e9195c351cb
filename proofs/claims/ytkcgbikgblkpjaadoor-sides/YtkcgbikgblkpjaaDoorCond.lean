/- ranges.parseCondition. -/
import Derived.Test.YtkcgbikgblkpjaaDoorVers
import Derived.Test.YtkcgbikgblkpjaaDoorLeafb
import Derived.Test.YtkcgbikgblkpjaaDoorLeafc
namespace Go.Proofs.YtkcgbikgblkpjaaDoor
open Go.RowKit
namespace Hst

theorem verGo_bd : ∀ (d : List Tx) (acc n : Int), 0 ≤ acc → verGo acc d = some n → 0 ≤ n ∧ n + 1 ≤ (acc + 1) * 100 ^ d.length
  | [], acc, n, h0, h => by simp [verGo] at h; subst h; simp; exact h0
  | p :: r, acc, n, h0, h => by
    simp only [verGo] at h
    rcases hp : partP p with _ | m
    · rw [hp] at h; simp at h
    · rw [hp] at h
      simp only at h
      have hb := partP_bd p m hp
      have ih := verGo_bd r (acc * 100 + m) n (by omega) h
      refine ⟨ih.1, Int.le_trans ih.2 ?_⟩
      have e : (acc + 1) * 100 ^ (p :: r).length = ((acc + 1) * 100) * 100 ^ r.length := by
        rw [List.length_cons, Int.pow_succ, Int.mul_assoc, Int.mul_comm (100 ^ r.length) 100]
      rw [e]
      apply Int.mul_le_mul_of_nonneg_right
      · omega
      · exact Int.pow_nonneg (by omega)
theorem versionP_bd (l : Tx) (n : Int) (h : versionP l = some n) : 0 ≤ n ∧ n ≤ 999999 := by
  unfold versionP at h
  split at h
  · simp at h
  · split at h
    · simp at h
    · rename_i h3
      have := verGo_bd _ 0 n (by omega) h
      rw [show (splitL 46 l).length = 3 from by omega] at this
      have e3 : (0 + 1 : Int) * 100 ^ 3 = 1000000 := by decide
      rw [e3] at this
      omega
theorem signLen_le : ∀ l : Tx, signLen l ≤ l.length
  | [] => by simp [signLen]
  | b :: r => by
    simp only [signLen]
    split
    · simp
    · have := signLen_le r; simp; omega

theorem condP_star (s : ByteArray) (h : tx s = [42]) : condP (tx s) = some (0, 999999) := by simp [condP, h]
theorem condP_none (s : ByteArray) (h : tx s ≠ [42]) (hv : versionP ((tx s).drop (signLen (tx s))) = none) : condP (tx s) = none := by
  simp [condP, h, hv]
theorem condP_some (s : ByteArray) (v : Int) (h : tx s ≠ [42]) (hv : versionP ((tx s).drop (signLen (tx s))) = some v) : condP (tx s) = spanOfP ((tx s).take (signLen (tx s))) v := by
  simp [condP, h, hv]

set_option maxHeartbeats 1000000 in
theorem pcond_any (s : ByteArray) (w : World) (hs : s.size ≤ 100) :
    Calls Tryd.prog 44 #[.string s] w fun e w' => e = .returned (.tuple #[spanV (slo (condP (tx s))) (shi (condP (tx s))), .bool (sok (condP (tx s)))]) ∧ Below w.heap.size w w' := by
  by_cases h42 : tx s = [42]
  · rw [condP_star s h42]
    have hb := str_eq s _ h42
    clear h42
    go_enter Tryd.func44, Tryd.ntmps44
    go_wp2_with fail
    refine (every_any _).mono ?_
    rintro e w1 ⟨rfl, hb1⟩
    obtain ⟨hcc, hff⟩ := bcell hb1
    have HB := hid (((Below.refl _ _).alloc (Nat.le_refl _) _).trans (hb1.mono (by simp)) : Below w.heap.size w w1)
    clear hb1
    go_wp2
    refine bodyPost_ret (v := .tuple #[spanV 0 999999, .bool true]) (by simp [results, Tryd.results44, go_sem, hcc]) rfl ⟨rfl, ?_⟩
    exact (HB.out.setCell (Nat.le_refl _) _).setCell (Nat.le_refl _) _
  · have hb := str_ne s _ h42
    have hk := signLen_le (tx s)
    rw [tx_length] at hk
    have HL := hid (fun w => signLength_any s w hs)
    have HV := hid (fun w => vparse_any (s.extract (signLen (tx s)) s.size) w)
    rw [ext_from, tx_bs, ← ext_from] at HV
    rcases hv : versionP ((tx s).drop (signLen (tx s))) with _ | v
    · rw [condP_none s h42 hv]
      rw [hv] at HV
      clear h42 hv
      generalize signLen (tx s) = k at *
      go_enter Tryd.func44, Tryd.ntmps44
      go_wp2_with fail
      refine (HL.out _).mono ?_
      rintro e w' ⟨rfl, rfl⟩
      go_wp2_with fail
      refine (HV.out _).mono ?_
      rintro e w1 ⟨rfl, hb1⟩
      obtain ⟨hcc, hff⟩ := bcell hb1
      have HB := hid (((Below.refl _ _).alloc (Nat.le_refl _) _).trans (hb1.mono (by simp)) : Below w.heap.size w w1)
      clear hb1
      simp only [oks, ov, Option.isSome_none, Option.getD_none]
      go_wp2
      refine bodyPost_ret (v := .tuple #[spanV 0 0, .bool false]) (by simp [results, Tryd.results44, go_sem, hcc]) rfl ⟨rfl, ?_⟩
      exact (HB.out.setCell (Nat.le_refl _) _).setCell (Nat.le_refl _) _
    · have hbd := versionP_bd _ _ hv
      rw [condP_some s v h42 hv]
      rw [hv] at HV
      have HO := hid (fun w => spanOf_any (s.extract 0 (signLen (tx s))) v w hbd.1 hbd.2)
      rw [ext_to, tx_bs, ← ext_to] at HO
      clear h42 hv
      generalize spanOfP ((tx s).take (signLen (tx s))) v = o at *
      generalize signLen (tx s) = k at *
      go_enter Tryd.func44, Tryd.ntmps44
      go_wp2_with fail
      refine (HL.out _).mono ?_
      rintro e w' ⟨rfl, rfl⟩
      go_wp2_with fail
      refine (HV.out _).mono ?_
      rintro e w1 ⟨rfl, hb1⟩
      obtain ⟨hcc, hff⟩ := bcell hb1
      have HB := hid (((Below.refl _ _).alloc (Nat.le_refl _) _).trans (hb1.mono (by simp)) : Below w.heap.size w w1)
      have hz1 : w.heap.size < w1.heap.size := by have := hb1.size; simp at this; omega
      clear hb1
      simp only [oks, ov, Option.isSome_some, Option.getD_some]
      go_wp2_with fail
      refine (HO.out _).mono ?_
      rintro e w2 ⟨rfl, hb2⟩
      obtain ⟨hcc2, hff2⟩ := bcell hb2
      have HB2 := hid (HB.out.trans (hb2.mono (by omega)) : Below w.heap.size w w2)
      clear hb2
      go_wp2
      refine bodyPost_ret (v := .tuple #[spanV (slo o) (shi o), .bool (sok o)]) (by simp [results, Tryd.results44, go_sem, hcc, hcc2, hz1]) rfl ⟨rfl, ?_⟩
      exact (HB2.out.setCell (Nat.le_refl _) _).setCell (Nat.le_refl _) _

end Hst
end Go.Proofs.YtkcgbikgblkpjaaDoor
