/- ranges.parseAlternative. -/
import Derived.Test.YtkcgbikgblkpjaaDoorCond
namespace Go.Proofs.YtkcgbikgblkpjaaDoor
open Go.RowKit
namespace Hst

/-- The memory of parseAlternative in a round: R: the result's block; A: the block of 'all'; g: the pieces' row. -/
structure AltInv (w wr : World) (A g : Nat) (lo hi : Int) (d : List Tx) : Prop where
  bel : Below w.heap.size w wr
  rA : w.heap.size < A
  Ag : A < g
  gz : g < wr.heap.size
  c0 : wr.cell? ⟨A, 0, none⟩ = some (.int .i64 lo)
  c1 : wr.cell? ⟨A, 1, none⟩ = some (.int .i64 hi)
  f0 : wr.frozen? ⟨A, 0, none⟩ = false
  f1 : wr.frozen? ⟨A, 1, none⟩ = false
  r0 : wr.cell? ⟨w.heap.size, 0, none⟩ = some (.int .i64 0)
  r1 : wr.cell? ⟨w.heap.size, 1, none⟩ = some (.int .i64 0)
  s0 : wr.frozen? ⟨w.heap.size, 0, none⟩ = false
  s1 : wr.frozen? ⟨w.heap.size, 1, none⟩ = false
  row : ∀ (j : Nat) (hj : j < d.length), wr.cell? ⟨g, j, none⟩ = some (.string (bs d[j]))

theorem AltInv.step {w wr w2 : World} {A g : Nat} {lo hi : Int} {d : List Tx} (h : AltInv w wr A g lo hi d) (hb : Below wr.heap.size wr w2) : AltInv w w2 A g lo hi d := by
  have h1 := h.rA; have h2 := h.Ag; have h3 := h.gz
  obtain ⟨hc, hf⟩ := bcell hb
  refine ⟨h.bel.trans (hb.mono (by omega)), h1, h2, Nat.lt_of_lt_of_le h3 hb.size, ?_, ?_, ?_, ?_, ?_, ?_, ?_, ?_, ?_⟩
  · rw [hc _ _ (by omega)]; exact h.c0
  · rw [hc _ _ (by omega)]; exact h.c1
  · rw [hf _ _ (by omega)]; exact h.f0
  · rw [hf _ _ (by omega)]; exact h.f1
  · rw [hc _ _ (by omega)]; exact h.r0
  · rw [hc _ _ (by omega)]; exact h.r1
  · rw [hf _ _ (by omega)]; exact h.s0
  · rw [hf _ _ (by omega)]; exact h.s1
  · intro j hj; rw [hc _ _ (by omega)]; exact h.row j hj

theorem AltInv.store {w wr : World} {A g : Nat} {lo hi lo' hi' : Int} {d : List Tx} (h : AltInv w wr A g lo hi d) : AltInv w ((wr.setCell ⟨A, 0, none⟩ (.int .i64 lo')).setCell ⟨A, 1, none⟩ (.int .i64 hi')) A g lo' hi' d := by
  have h1 := h.rA; have h2 := h.Ag; have h3 := h.gz
  refine ⟨(h.bel.setCell (Nat.le_of_lt h1) _).setCell (Nat.le_of_lt h1) _, h1, h2, by simpa using h3, ?_, ?_, ?_, ?_, ?_, ?_, ?_, ?_, ?_⟩
  · simp [go_sem, h.c0]
  · simp [go_sem, h.c1]
  · simp [go_sem, h.f0]
  · simp [go_sem, h.f1]
  · simp [go_sem, h.r0]
  · simp [go_sem, h.r1]
  · simp [go_sem, h.s0]
  · simp [go_sem, h.s1]
  · intro j hj
    simp [go_sem, h.row j hj]

theorem ag_yes (d : List Tx) (k : Nat) (lo hi : Int) (hk : k < d.length) (h : sok (condP d[k]) = true) : altGo lo hi (d.drop k) = altGo (mx lo (slo (condP d[k]))) (mn hi (shi (condP d[k]))) (d.drop (k + 1)) := by
  rw [List.drop_eq_getElem_cons hk]
  rcases hp : condP d[k] with _ | n
  · rw [hp] at h; simp [sok] at h
  · simp [altGo, hp, slo, shi]
theorem ag_no (d : List Tx) (k : Nat) (lo hi : Int) (hk : k < d.length) (h : sok (condP d[k]) = false) : altGo lo hi (d.drop k) = none := by
  rw [List.drop_eq_getElem_cons hk]
  rcases hp : condP d[k] with _ | n
  · simp [altGo, hp]
  · rw [hp] at h; simp [sok] at h
theorem ag_end (d : List Tx) (k : Nat) (lo hi : Int) (hk : ¬ k < d.length) : altGo lo hi (d.drop k) = some (lo, hi) := by
  rw [List.drop_of_length_le (by omega)]; rfl

theorem alt_start {w w1 w2 : World} {g : Nat} {d : List Tx} (hb1 : Below (w.alloc (.cells #[.int .i64 0, .int .i64 0] 61)).heap.size (w.alloc (.cells #[.int .i64 0, .int .i64 0] 61)) w1)
    (hb2 : Below (w1.alloc (.cells #[.int .i64 0, .int .i64 999999] 61)).heap.size (w1.alloc (.cells #[.int .i64 0, .int .i64 999999] 61)) w2) (hg1 : w1.heap.size + 1 ≤ g) (hg2 : g < w2.heap.size)
    (hcell : ∀ (j : Nat) (hj : j < d.length), w2.cell? ⟨g, j, none⟩ = some (.string (bs d[j]))) : AltInv w w2 w1.heap.size g 0 999999 d := by
  have hz1 := hb1.size
  have hz2 := hb2.size
  obtain ⟨hc1, hf1⟩ := bcell hb1
  obtain ⟨hc2, hf2⟩ := bcell hb2
  simp at hz1 hz2 hc1 hf1 hc2 hf2
  have hB1 : Below w.heap.size w w1 := ((Below.refl _ _).alloc (Nat.le_refl _) _).trans (hb1.mono (by simp))
  refine ⟨hB1.trans (((Below.refl _ _).alloc (by omega) _).trans (hb2.mono (by simp; omega))), by omega, by omega, hg2, ?_, ?_, ?_, ?_, ?_, ?_, ?_, ?_, hcell⟩
  · rw [hc2 _ _ (by omega)]; simp
  · rw [hc2 _ _ (by omega)]; simp
  · rw [hf2 _ _ (by omega)]; simp
  · rw [hf2 _ _ (by omega)]; simp
  · rw [hc2 _ _ (by omega), World.cell?_alloc_past _ _ _ (by omega), hc1 _ _ (by omega)]; simp
  · rw [hc2 _ _ (by omega), World.cell?_alloc_past _ _ _ (by omega), hc1 _ _ (by omega)]; simp
  · rw [hf2 _ _ (by omega), World.frozen?_alloc_past _ _ _ (by omega), hf1 _ _ (by omega)]; simp
  · rw [hf2 _ _ (by omega), World.frozen?_alloc_past _ _ _ (by omega), hf1 _ _ (by omega)]; simp

set_option maxHeartbeats 1000000 in
theorem palt_any (s : ByteArray) (w : World) (hs : s.size ≤ 100) :
    Calls Tryd.prog 28 #[.string s] w fun e w' => e = .returned (.tuple #[spanV (slo (altP (tx s))) (shi (altP (tx s))), .bool (sok (altP (tx s)))]) ∧ Below w.heap.size w w' := by
  go_enter Tryd.func28, Tryd.ntmps28
  go_wp2_with fail
  refine (every_any _).mono ?_
  rintro e w1 ⟨rfl, hb1⟩
  go_wp2_with fail
  refine (psplit_any s 38 _ hs).mono ?_
  rintro e w2 ⟨v, rfl, hrow, hb2⟩
  obtain ⟨g, cap, rfl, hg1, hg2, hcell⟩ := hrow.form (splitL_ne _ _)
  have hps : ∀ j (hj : j < (splitL 38 (tx s)).length), (bs (splitL 38 (tx s))[j]).size ≤ 100 := fun j hj => by have := piece_size 38 s j hj; omega
  have hlen := splitL_len 38 (tx s)
  have HP : Hid (altP (tx s) = altGo 0 999999 (splitL 38 (tx s))) := rfl
  rw [tx_length] at hlen
  generalize splitL 38 (tx s) = d at *
  have hz1 := hb1.size
  simp at hz1 hg1
  have INV := hid (alt_start hb1 hb2 hg1 hg2 hcell)
  have HC := hid hps
  clear hcell hps hrow hb1 hb2
  go_wp2
  go_loopw [13] (fun i wr => ∃ (k : Nat) (lo hi : Int), k ≤ d.length ∧ i = .int .i64 k ∧ AltInv w wr w1.heap.size g lo hi d ∧ Hid (altP (tx s) = altGo lo hi (d.drop k))) (fun i _ => d.length - (intOf i).toNat)
  case atStart => exact ⟨0, 0, 999999, by omega, rfl, INV.out, by unfold Hid; rw [HP.out]; rfl⟩
  case round =>
    obtain ⟨k, lo, hi, hk, rfl, hinv, hall⟩ := hrel
    clear INV HP
    obtain ⟨ebel, erA, eAg, egz, ec0, ec1, ef0, ef1, er0, er1, es0, es1, erow⟩ := id hinv
    have HI := hid hinv
    have HB := hid ebel
    have hAr : w1.heap.size < wr.heap.size := by omega
    have hRr : w.heap.size < wr.heap.size := by omega
    by_cases hlt : k < d.length
    · have hc := erow k hlt
      have hh := fun w => pcond_any (bs d[k]) w (HC.out k hlt)
      rw [tx_bs] at hh
      clear erow ebel hinv
      by_cases hok : sok (condP d[k]) = true
      · have HF : Hid (altP (tx s) = altGo (mx lo (slo (condP d[k]))) (mn hi (shi (condP d[k]))) (d.drop (k + 1))) := by unfold Hid; rw [hall.out, ag_yes d k lo hi hlt hok]
        rw [hok] at hh
        clear hall hok
        have HH := hid hh
        clear hh
        generalize condP d[k] = o at *
        generalize bs d[k] = q at *
        go_wp2_with fail
        refine (HH.out _).mono ?_
        rintro e w4 ⟨rfl, hb4⟩
        have HI4 := hid (HI.out.step hb4)
        obtain ⟨hcc4, hff4⟩ := bcell hb4
        have hz4 := hb4.size
        have hA4 : w1.heap.size < w4.heap.size := by omega
        have hR4 : w.heap.size < w4.heap.size := by omega
        clear hb4
        go_wp2_with fail
        refine (overlap_any _ _ _ _ _).mono ?_
        rintro e w5 ⟨rfl, hb5⟩
        have HI5 := hid ((HI4.out.step ((Below.refl _ _).alloc (Nat.le_refl _) _)).step hb5)
        obtain ⟨hcc5, hff5⟩ := bcell hb5
        have hz5 := hb5.size
        simp at hcc5 hff5 hz5
        have hA5 : w1.heap.size < w4.heap.size + 1 := by omega
        have hR5 : w.heap.size < w4.heap.size + 1 := by omega
        clear hb5
        go_wp2
        go_roundw
        case rel => exact ⟨k + 1, _, _, by omega, by go_num, HI5.out.store, HF⟩
        case measure => simp [intOf]; omega
      · have hok : sok (condP d[k]) = false := by simpa using hok
        have HF : Hid (altP (tx s) = none) := by unfold Hid; rw [hall.out, ag_no d k lo hi hlt hok]
        rw [hok] at hh
        clear hall hok
        have HH := hid hh
        clear hh
        generalize condP d[k] = o at *
        generalize bs d[k] = q at *
        go_wp2_with fail
        refine (HH.out _).mono ?_
        rintro e w4 ⟨rfl, hb4⟩
        have HI4 := hid (HI.out.step hb4)
        obtain ⟨hcc4, hff4⟩ := bcell hb4
        have hz4 := hb4.size
        have hA4 : w1.heap.size < w4.heap.size := by omega
        have hR4 : w.heap.size < w4.heap.size := by omega
        clear hb4
        go_wp2
        refine bodyPost_ret (v := .tuple #[spanV 0 0, .bool false]) (by simp [results, Tryd.results28, go_sem, *]) rfl ⟨by rw [HF.out]; rfl, ?_⟩
        exact Below.alloc ((HI4.out.bel.setCell (Nat.le_refl _) _).setCell (Nat.le_refl _) _) (by simp; omega) _
    · have HF : Hid (altP (tx s) = some (lo, hi)) := by unfold Hid; rw [hall.out, ag_end d k lo hi hlt]
      clear erow ebel hinv hall
      go_wp2
      refine bodyPost_ret (v := .tuple #[spanV lo hi, .bool true]) (by simp [results, Tryd.results28, go_sem, *]) rfl ⟨by rw [HF.out]; rfl, ?_⟩
      exact (HB.out.setCell (Nat.le_refl _) _).setCell (Nat.le_refl _) _

end Hst
end Go.Proofs.YtkcgbikgblkpjaaDoor
