/- Alt, Rparse, Rfits, Defsm, Meet, After, Rcond -/
import Derived.Test.YtecocheolbkneaaW02
import Derived.Test.YtecocheolbkneaaW01
namespace Go.Proofs.Ytecocheolbkneaa
open Go.RowKit
namespace Hst
set_option maxRecDepth 100000

/-- The memory of parseAlternative in a round: R: the result's block; A: the block of 'all'; g: the pieces' row. -/
structure AltInv (w wr : World) (A g : Nat) (lo hi : Int) (d : List Tx) : Prop where
  bel : Below w.heap.size w wr
  rA : w.heap.size < A
  Ag : A < g
  gz : g < wr.heap.size
  c0 : wr.cell? ⟨A, 0, none⟩ = some (.int .i64 lo)
  c1 : wr.cell? ⟨A, 1, none⟩ = some (.int .i64 hi)
  f0 : wr.frozen? ⟨A, 0, none⟩ = false
  f1 : wr.frozen? ⟨A, 1, none⟩ = false
  r0 : wr.cell? ⟨w.heap.size, 0, none⟩ = some (.int .i64 0)
  r1 : wr.cell? ⟨w.heap.size, 1, none⟩ = some (.int .i64 0)
  s0 : wr.frozen? ⟨w.heap.size, 0, none⟩ = false
  s1 : wr.frozen? ⟨w.heap.size, 1, none⟩ = false
  row : ∀ (j : Nat) (hj : j < d.length), wr.cell? ⟨g, j, none⟩ = some (.string (bs d[j]))

theorem AltInv.step {w wr w2 : World} {A g : Nat} {lo hi : Int} {d : List Tx} (h : AltInv w wr A g lo hi d) (hb : Below wr.heap.size wr w2) : AltInv w w2 A g lo hi d := by
  have h1 := h.rA; have h2 := h.Ag; have h3 := h.gz
  obtain ⟨hc, hf⟩ := bcell hb
  refine ⟨h.bel.trans (hb.mono (by omega)), h1, h2, Nat.lt_of_lt_of_le h3 hb.size, ?_, ?_, ?_, ?_, ?_, ?_, ?_, ?_, ?_⟩
  · rw [hc _ _ (by omega)]; exact h.c0
  · rw [hc _ _ (by omega)]; exact h.c1
  · rw [hf _ _ (by omega)]; exact h.f0
  · rw [hf _ _ (by omega)]; exact h.f1
  · rw [hc _ _ (by omega)]; exact h.r0
  · rw [hc _ _ (by omega)]; exact h.r1
  · rw [hf _ _ (by omega)]; exact h.s0
  · rw [hf _ _ (by omega)]; exact h.s1
  · intro j hj; rw [hc _ _ (by omega)]; exact h.row j hj

theorem AltInv.store {w wr : World} {A g : Nat} {lo hi lo' hi' : Int} {d : List Tx} (h : AltInv w wr A g lo hi d) : AltInv w ((wr.setCell ⟨A, 0, none⟩ (.int .i64 lo')).setCell ⟨A, 1, none⟩ (.int .i64 hi')) A g lo' hi' d := by
  have h1 := h.rA; have h2 := h.Ag; have h3 := h.gz
  refine ⟨(h.bel.setCell (Nat.le_of_lt h1) _).setCell (Nat.le_of_lt h1) _, h1, h2, by simpa using h3, ?_, ?_, ?_, ?_, ?_, ?_, ?_, ?_, ?_⟩
  · simp [go_sem, h.c0]
  · simp [go_sem, h.c1]
  · simp [go_sem, h.f0]
  · simp [go_sem, h.f1]
  · simp [go_sem, h.r0]
  · simp [go_sem, h.r1]
  · simp [go_sem, h.s0]
  · simp [go_sem, h.s1]
  · intro j hj
    simp [go_sem, h.row j hj]

theorem ag_yes (d : List Tx) (k : Nat) (lo hi : Int) (hk : k < d.length) (h : sok (condP d[k]) = true) : altGo lo hi (d.drop k) = altGo (mx lo (slo (condP d[k]))) (mn hi (shi (condP d[k]))) (d.drop (k + 1)) := by
  rw [List.drop_eq_getElem_cons hk]
  rcases hp : condP d[k] with _ | n
  · rw [hp] at h; simp [sok] at h
  · simp [altGo, hp, slo, shi]
theorem ag_no (d : List Tx) (k : Nat) (lo hi : Int) (hk : k < d.length) (h : sok (condP d[k]) = false) : altGo lo hi (d.drop k) = none := by
  rw [List.drop_eq_getElem_cons hk]
  rcases hp : condP d[k] with _ | n
  · simp [altGo, hp]
  · rw [hp] at h; simp [sok] at h
theorem ag_end (d : List Tx) (k : Nat) (lo hi : Int) (hk : ¬ k < d.length) : altGo lo hi (d.drop k) = some (lo, hi) := by
  rw [List.drop_of_length_le (by omega)]; rfl

theorem alt_start {w w1 w2 : World} {g : Nat} {d : List Tx} (hb1 : Below (w.alloc (.cells #[.int .i64 0, .int .i64 0] 50)).heap.size (w.alloc (.cells #[.int .i64 0, .int .i64 0] 50)) w1)
    (hb2 : Below (w1.alloc (.cells #[.int .i64 0, .int .i64 999999] 50)).heap.size (w1.alloc (.cells #[.int .i64 0, .int .i64 999999] 50)) w2) (hg1 : w1.heap.size + 1 ≤ g) (hg2 : g < w2.heap.size)
    (hcell : ∀ (j : Nat) (hj : j < d.length), w2.cell? ⟨g, j, none⟩ = some (.string (bs d[j]))) : AltInv w w2 w1.heap.size g 0 999999 d := by
  have hz1 := hb1.size
  have hz2 := hb2.size
  obtain ⟨hc1, hf1⟩ := bcell hb1
  obtain ⟨hc2, hf2⟩ := bcell hb2
  simp at hz1 hz2 hc1 hf1 hc2 hf2
  have hB1 : Below w.heap.size w w1 := ((Below.refl _ _).alloc (Nat.le_refl _) _).trans (hb1.mono (by simp))
  refine ⟨hB1.trans (((Below.refl _ _).alloc (by omega) _).trans (hb2.mono (by simp; omega))), by omega, by omega, hg2, ?_, ?_, ?_, ?_, ?_, ?_, ?_, ?_, hcell⟩
  · rw [hc2 _ _ (by omega)]; simp
  · rw [hc2 _ _ (by omega)]; simp
  · rw [hf2 _ _ (by omega)]; simp
  · rw [hf2 _ _ (by omega)]; simp
  · rw [hc2 _ _ (by omega), World.cell?_alloc_past _ _ _ (by omega), hc1 _ _ (by omega)]; simp
  · rw [hc2 _ _ (by omega), World.cell?_alloc_past _ _ _ (by omega), hc1 _ _ (by omega)]; simp
  · rw [hf2 _ _ (by omega), World.frozen?_alloc_past _ _ _ (by omega), hf1 _ _ (by omega)]; simp
  · rw [hf2 _ _ (by omega), World.frozen?_alloc_past _ _ _ (by omega), hf1 _ _ (by omega)]; simp

set_option maxHeartbeats 1000000 in
theorem palt_any (s : ByteArray) (w : World) (hs : s.size ≤ 100) :
    Calls Try.prog 19 #[.string s] w fun e w' => e = .returned (.tuple #[spanV (slo (altP (tx s))) (shi (altP (tx s))), .bool (sok (altP (tx s)))]) ∧ Below w.heap.size w w' := by
  go_enter Try.func19, Try.ntmps19
  go_wp2_with fail
  refine (every_any _).mono ?_
  rintro e w1 ⟨rfl, hb1⟩
  go_wp2_with fail
  refine (psplit_any s 38 _ (by omega)).mono ?_
  rintro e w2 ⟨v, rfl, hrow, hb2⟩
  obtain ⟨g, cap, rfl, hg1, hg2, hcell⟩ := hrow.form (splitL_ne _ _)
  have hps : ∀ j (hj : j < (splitL 38 (tx s)).length), (bs (splitL 38 (tx s))[j]).size ≤ 100 := fun j hj => by have := piece_size 38 s j hj; omega
  have hlen := splitL_len 38 (tx s)
  have HP : Hid (altP (tx s) = altGo 0 999999 (splitL 38 (tx s))) := rfl
  rw [tx_length] at hlen
  generalize splitL 38 (tx s) = d at *
  have hz1 := hb1.size
  simp at hz1 hg1
  have INV := hid (alt_start hb1 hb2 hg1 hg2 hcell)
  have HC := hid hps
  clear hcell hps hrow hb1 hb2
  go_wp2
  go_loopw [13] (fun i wr => ∃ (k : Nat) (lo hi : Int), k ≤ d.length ∧ i = .int .i64 k ∧ AltInv w wr w1.heap.size g lo hi d ∧ Hid (altP (tx s) = altGo lo hi (d.drop k))) (fun i _ => d.length - (intOf i).toNat)
  case atStart => exact ⟨0, 0, 999999, by omega, rfl, INV.out, by unfold Hid; rw [HP.out]; rfl⟩
  case round =>
    obtain ⟨k, lo, hi, hk, rfl, hinv, hall⟩ := hrel
    clear INV HP
    obtain ⟨ebel, erA, eAg, egz, ec0, ec1, ef0, ef1, er0, er1, es0, es1, erow⟩ := id hinv
    have HI := hid hinv
    have HB := hid ebel
    have hAr : w1.heap.size < wr.heap.size := by omega
    have hRr : w.heap.size < wr.heap.size := by omega
    by_cases hlt : k < d.length
    · have hc := erow k hlt
      have hh := fun w => pcond_any (bs d[k]) w (HC.out k hlt)
      rw [tx_bs] at hh
      clear erow ebel hinv
      by_cases hok : sok (condP d[k]) = true
      · have HF : Hid (altP (tx s) = altGo (mx lo (slo (condP d[k]))) (mn hi (shi (condP d[k]))) (d.drop (k + 1))) := by unfold Hid; rw [hall.out, ag_yes d k lo hi hlt hok]
        rw [hok] at hh
        clear hall hok
        have HH := hid hh
        clear hh
        generalize condP d[k] = o at *
        generalize bs d[k] = q at *
        go_wp2_with fail
        refine (HH.out _).mono ?_
        rintro e w4 ⟨rfl, hb4⟩
        have HI4 := hid (HI.out.step hb4)
        obtain ⟨hcc4, hff4⟩ := bcell hb4
        have hz4 := hb4.size
        have hA4 : w1.heap.size < w4.heap.size := by omega
        have hR4 : w.heap.size < w4.heap.size := by omega
        clear hb4
        go_wp2_with fail
        refine (overlap_any _ _ _ _ _).mono ?_
        rintro e w5 ⟨rfl, hb5⟩
        have HI5 := hid ((HI4.out.step ((Below.refl _ _).alloc (Nat.le_refl _) _)).step hb5)
        obtain ⟨hcc5, hff5⟩ := bcell hb5
        have hz5 := hb5.size
        simp at hcc5 hff5 hz5
        have hA5 : w1.heap.size < w4.heap.size + 1 := by omega
        have hR5 : w.heap.size < w4.heap.size + 1 := by omega
        clear hb5
        go_wp2
        go_roundw
        case rel => exact ⟨k + 1, _, _, by omega, by go_num, HI5.out.store, HF⟩
        case measure => simp [intOf]; omega
      · have hok : sok (condP d[k]) = false := by simpa using hok
        have HF : Hid (altP (tx s) = none) := by unfold Hid; rw [hall.out, ag_no d k lo hi hlt hok]
        rw [hok] at hh
        clear hall hok
        have HH := hid hh
        clear hh
        generalize condP d[k] = o at *
        generalize bs d[k] = q at *
        go_wp2_with fail
        refine (HH.out _).mono ?_
        rintro e w4 ⟨rfl, hb4⟩
        have HI4 := hid (HI.out.step hb4)
        obtain ⟨hcc4, hff4⟩ := bcell hb4
        have hz4 := hb4.size
        have hA4 : w1.heap.size < w4.heap.size := by omega
        have hR4 : w.heap.size < w4.heap.size := by omega
        clear hb4
        go_wp2
        refine bodyPost_ret (v := .tuple #[spanV 0 0, .bool false]) (by simp [results, Try.results19, go_sem, *]) rfl ⟨by rw [HF.out]; rfl, ?_⟩
        exact Below.alloc ((HI4.out.bel.setCell (Nat.le_refl _) _).setCell (Nat.le_refl _) _) (by simp; omega) _
    · have HF : Hid (altP (tx s) = some (lo, hi)) := by unfold Hid; rw [hall.out, ag_end d k lo hi hlt]
      clear erow ebel hinv hall
      go_wp2
      refine bodyPost_ret (v := .tuple #[spanV lo hi, .bool true]) (by simp [results, Try.results19, go_sem, *]) rfl ⟨by rw [HF.out]; rfl, ?_⟩
      exact (HB.out.setCell (Nat.le_refl _) _).setCell (Nat.le_refl _) _

end Hst
end Go.Proofs.Ytecocheolbkneaa
namespace Go.Proofs.Ytecocheolbkneaa
open Go.RowKit
namespace Hst
set_option maxRecDepth 100000

theorem info_span : (Try.prog.info? 50).map (fun i => (i.zero, i.size, i.bytes)) = some (some (.agg #[.int .i64 0, .int .i64 0]), 2, 16) := by kernel_rfl

/-- The cells of some spans. -/
def spans (sp : List (Int × Int)) : List Value := sp.flatMap fun s => [Value.int .i64 s.1, Value.int .i64 s.2]
theorem spans_snoc (sp : List (Int × Int)) (s : Int × Int) : spans sp ++ [Value.int .i64 s.1, Value.int .i64 s.2] = spans (sp ++ [s]) := by simp [spans]
theorem spans_at : ∀ (sp : List (Int × Int)) (j : Nat) (hj : j < sp.length), (spans sp)[2 * j]? = some (Value.int .i64 sp[j].1) ∧ (spans sp)[2 * j + 1]? = some (Value.int .i64 sp[j].2)
  | [], j, hj => by simp at hj
  | s :: r, 0, _ => by simp [spans]
  | s :: r, j + 1, hj => by
    have ih := spans_at r j (by simpa using hj)
    have e1 : 2 * (j + 1) = 2 * j + 1 + 1 := by omega
    simp only [spans, List.flatMap_cons, List.cons_append, List.nil_append, e1, List.getElem?_cons_succ, List.getElem_cons_succ] at ih ⊢
    exact ih
/-- The row of spans that a call has made. -/
def SpanRow (w : World) (base : Nat) (v : Value) (sp : List (Int × Int)) : Prop := w.ownsRow base 50 2 v sp.length (spans sp)

theorem own_below {w w' : World} {base e size n : Nat} {v : Value} {xs : List Value} (h : w.ownsRow base e size v n xs) (hb : Below w.heap.size w w') : w'.ownsRow base e size v n xs := by
  obtain ⟨h1, h2⟩ := h
  refine ⟨h1, ?_⟩
  rcases h2 with h2 | ⟨g, cap, cur, hv, hg, hh, r⟩
  · exact .inl h2
  · exact .inr ⟨g, cap, cur, hv, hg, by rw [hb.block g (lt_of_block hh)]; exact hh, r⟩
theorem form_any {w : World} {base n size : Nat} {v : Value} {xs : List Value} {e : Nat} (h : w.ownsRow base e size v n xs) (hn : 0 < n) : ∃ g cap, v = .slice (some ⟨g, 0, none⟩) n cap ∧ base ≤ g ∧ g < w.heap.size := by
  obtain ⟨h1, h2⟩ := h
  rcases h2 with ⟨rfl, h2⟩ | ⟨g, cap, cur, hv, hg, hh, r⟩
  · omega
  · exact ⟨g, cap, hv, hg, lt_of_block hh⟩
theorem own_mono {w : World} {base base' e size n : Nat} {v : Value} {xs : List Value} (h : w.ownsRow base e size v n xs) (hb : base' ≤ base) : w.ownsRow base' e size v n xs := by
  obtain ⟨h1, h2⟩ := h
  refine ⟨h1, ?_⟩
  rcases h2 with h2 | ⟨g, cap, cur, hv, hg, r⟩
  · exact .inl h2
  · exact .inr ⟨g, cap, cur, hv, by omega, r⟩

theorem rg_yes (d : List Tx) (k : Nat) (acc : List (Int × Int)) (hk : k < d.length) (h : sok (altP d[k]) = true) : rangeGo acc (d.drop k) = rangeGo (acc ++ [(slo (altP d[k]), shi (altP d[k]))]) (d.drop (k + 1)) := by
  rw [List.drop_eq_getElem_cons hk]
  rcases hp : altP d[k] with _ | n
  · rw [hp] at h; simp [sok] at h
  · simp [rangeGo, hp, slo, shi]
theorem rg_no (d : List Tx) (k : Nat) (acc : List (Int × Int)) (hk : k < d.length) (h : sok (altP d[k]) = false) : rangeGo acc (d.drop k) = none := by
  rw [List.drop_eq_getElem_cons hk]
  rcases hp : altP d[k] with _ | n
  · simp [rangeGo, hp]
  · rw [hp] at h; simp [sok] at h
theorem rg_end (d : List Tx) (k : Nat) (acc : List (Int × Int)) (hk : ¬ k < d.length) : rangeGo acc (d.drop k) = some acc := by
  rw [List.drop_of_length_le (by omega)]; rfl
def rok (o : Option (List (Int × Int))) : Bool := o.isSome
theorem two_ints (a b : Int) : ∀ u ∈ [Value.int .i64 a, Value.int .i64 b], u.oneCell' = true := by intro u hu; simp at hu; rcases hu with rfl | rfl <;> rfl

theorem news_span (w : World) (o1 : Obj) (a b : Value) (t : TypeId) : ∀ j u, [a, b][j]? = some u → ((w.alloc o1).alloc (.cells #[a, b] t)).cell? ((⟨w.heap.size + 1, 0, none⟩ : Addr).add j) = some u := by
  intro j u hu
  have h := World.news_of_block (heap_alloc_new (w.alloc o1) (.cells #[a, b] t)) j u (by simpa using hu)
  simpa using h

/-- One span more. -/
theorem step_span {W w w1 wr : World} {v : Value} {acc : List (Int × Int)} {s : Int × Int} {g cap : Nat} (hown : wr.ownsRow w.heap.size 50 2 v acc.length (spans acc)) (hbel : Below w.heap.size w wr) (hb4 : Below wr.heap.size wr W)
    (hown1 : w1.ownsRow w.heap.size 50 2 (.slice (some ⟨g, 0, none⟩) (acc.length + 1) cap) (acc.length + 1) (spans acc ++ [Value.int .i64 s.1, Value.int .i64 s.2])) (hgrow : W.grownBy w1 v.ownBlock) :
    w1.ownsRow w.heap.size 50 2 (.slice (some ⟨g, 0, none⟩) (acc.length + 1) cap) (acc ++ [s]).length (spans (acc ++ [s])) ∧ Below w.heap.size w w1 := by
  have hz := hbel.size
  refine ⟨?_, ?_⟩
  · rw [spans_snoc] at hown1
    simpa using hown1
  · exact (hbel.trans (hb4.mono hz)).grown hgrow (Nat.le_trans hz hb4.size) (fun k hk => (hown.lt k hk).1)

set_option maxHeartbeats 1000000 in
theorem rparse_any (s : ByteArray) (w : World) :
    Calls Try.prog 10 #[.string s] w fun e w' => ∃ a n c, e = .returned (.tuple #[.agg #[.slice a n c], .bool (rok (rangeP (tx s)))]) ∧ Below w.heap.size w w' ∧ ∀ sp, rangeP (tx s) = some sp → SpanRow w' w.heap.size (.slice a n c) sp := by
  by_cases h60 : s.size ≤ 60
  · obtain ⟨i0, hi, hz0, hz1, hz2⟩ := info_parts info_span
    have HP : Hid (rangeP (tx s) = rangeGo [] (splitL 124 (tx s))) := by
      unfold Hid rangeP; rw [if_neg (by rw [tx_length]; omega)]
    go_enter Try.func10, Try.ntmps10
    go_wp2_with fail
    refine (psplit_any s 124 _ (by omega)).mono ?_
    rintro e w2 ⟨v, rfl, hrow, hb2⟩
    obtain ⟨g, cap, rfl, hg1, hg2, hcell⟩ := hrow.form (splitL_ne _ _)
    have hne := splitL_ne 124 (tx s)
    have hps : ∀ j (hj : j < (splitL 124 (tx s)).length), (bs (splitL 124 (tx s))[j]).size ≤ 100 := fun j hj => by have := piece_size 124 s j hj; omega
    have hlen := splitL_len 124 (tx s)
    rw [tx_length] at hlen
    generalize splitL 124 (tx s) = d at *
    have hz2' := hb2.size
    obtain ⟨hcc2, hff2⟩ := bcell hb2
    simp at hz2' hcc2 hff2 hg1
    have hR := hcc2 w.heap.size 0 (by omega)
    have hRf := hff2 w.heap.size 0 (by omega)
    simp at hR hRf
    have HB2 := hid (((Below.refl _ _).alloc (Nat.le_refl _) _).trans (hb2.mono (by simp)) : Below w.heap.size w w2)
    have HC := hid hcell; have HS := hid hps; have HN := hid hne
    have hRz : w.heap.size < w2.heap.size := by omega
    clear hcell hps hrow hb2 hcc2 hff2 hne
    go_wp2
    go_loopw [4, 16] (fun v i wr => ∃ (k : Nat) (acc : List (Int × Int)), k ≤ d.length ∧ acc.length ≤ k ∧ i = .int .i64 k ∧ wr.ownsRow w2.heap.size 50 2 v acc.length (spans acc) ∧ Below w2.heap.size w2 wr ∧ Hid (acc.length = k ∧ rangeP (tx s) = rangeGo acc (d.drop k))) (fun _ i _ => d.length - (intOf i).toNat)
    case atStart => exact ⟨0, [], by omega, by simp, rfl, World.ownsRow_nil _ _ _ _, Below.refl _ _, ⟨rfl, by rw [HP.out]; rfl⟩⟩
    case round =>
      obtain ⟨k, acc, hk, hacc, rfl, hown, hbel, hall⟩ := hrel
      obtain ⟨hccr, hffr⟩ := bcell hbel
      have hzr := hbel.size
      have hRr : w.heap.size < wr.heap.size := by omega
      have hgr : g < wr.heap.size := by omega
      have hR' := (hccr w.heap.size 0 hRz).trans hR
      have hRf' := (hffr w.heap.size 0 hRz).trans hRf
      clear HP
      by_cases hlt : k < d.length
      · have hc : wr.cell? ⟨g, k, none⟩ = some (.string (bs d[k])) := by rw [hccr _ _ hg2]; exact HC.out k hlt
        have hh := fun w => palt_any (bs d[k]) w (HS.out k hlt)
        rw [tx_bs] at hh
        clear hccr hffr hR hRf
        by_cases hok : sok (altP d[k]) = true
        · have HF : Hid ((acc ++ [(slo (altP d[k]), shi (altP d[k]))]).length = k + 1 ∧ rangeP (tx s) = rangeGo (acc ++ [(slo (altP d[k]), shi (altP d[k]))]) (d.drop (k + 1))) := ⟨by simp [hall.out.1], by rw [hall.out.2, rg_yes d k acc hlt hok]⟩
          rw [hok] at hh
          have HH := hid hh
          clear hall hok hh
          generalize altP d[k] = o at *
          generalize bs d[k] = q at *
          go_wp2_with fail
          refine (HH.out _).mono ?_
          rintro e w4 ⟨rfl, hb4⟩
          have hz4 := hb4.size
          have hown4 := own_below hown hb4
          have HB4 := hid hb4
          clear hb4
          go_wp2_with (first
            | (at_builtin; refine wpList_append_lies _ rfl _ _ 29 rfl w2.heap.size 50 i0 (.agg #[.int .i64 0, .int .i64 0]) 2 16 Try.underlying29 hi hz0 hz1 hz2 rfl (by omega) _ _ _ rfl ((hown4.alloc _).alloc _) ⟨w4.heap.size + 1, 0, none⟩ 1 1 [.int .i64 (slo o), .int .i64 (shi o)] rfl rfl ?cN (two_ints _ _) (by omega) (by unfold maxLen; omega) (by omega) (by simp; omega) (w4.heap.size + 2) (by simp) ?_; rotate_right; intro g' cap' w5 hown5 hgrow hat hlt5))
          · have R := step_span (s := (slo o, shi o)) hown hbel (((HB4.out).alloc hz4 _).alloc (by simp; omega) _) hown5 hgrow
            clear hown5 hgrow hown hown4
            go_wp2
            go_roundw
            case rel => exact ⟨k + 1, _, by omega, by simp; omega, by go_num, R.1, R.2, HF⟩
            case measure => simp [intOf]; omega
          · exact news_span _ _ _ _ _
        · have hok : sok (altP d[k]) = false := by simpa using hok
          have HF : Hid (rangeP (tx s) = none) := by unfold Hid; rw [hall.out.2, rg_no d k acc hlt hok]
          rw [hok] at hh
          have HH := hid hh
          clear hall hok hh
          generalize altP d[k] = o at *
          generalize bs d[k] = q at *
          go_wp2_with fail
          refine (HH.out _).mono ?_
          rintro e w4 ⟨rfl, hb4⟩
          obtain ⟨hcc4, hff4⟩ := bcell hb4
          have hz4 := hb4.size
          have hR4 : w.heap.size < w4.heap.size := by omega
          have HB := hid (HB2.out.trans ((hbel.trans (hb4.mono hzr)).mono (by omega)) : Below w.heap.size w w4)
          clear hb4 hbel hown
          go_wp2
          refine bodyPost_ret (v := .tuple #[.agg #[.slice none 0 0], .bool false]) (by simp [results, Try.results10, go_sem, *]) rfl ⟨none, 0, 0, by rw [HF.out]; rfl, ?_, fun sp h => by rw [HF.out] at h; simp at h⟩
          exact Below.alloc (HB.out.setCell (Nat.le_refl _) _) (by simp; omega) _
      · have hkd : k = d.length := by omega
        have HF : Hid (rangeP (tx s) = some acc) := by unfold Hid; rw [hall.out.2, rg_end d k acc hlt]
        have hap : 0 < acc.length := by
          have := hall.out.1
          have := List.length_pos_iff.2 HN.out
          omega
        obtain ⟨gs, cs, rfl, hgs1, hgs2⟩ := form_any hown hap
        have HO := hid hown
        have HB := hid (HB2.out.trans (hbel.mono (by omega)) : Below w.heap.size w wr)
        clear hccr hffr hown hbel hall
        go_wp2
        refine bodyPost_ret (v := .tuple #[.agg #[.slice (some ⟨gs, 0, none⟩) acc.length cs], .bool true]) (by simp [results, Try.results10, go_sem, *]) rfl ⟨_, _, _, by rw [HF.out]; rfl, ?_, fun sp h => ?_⟩
        · exact HB.out.setCell (Nat.le_refl _) _
        · rw [HF.out] at h
          simp at h
          subst h
          exact own_mono (ownsRow_setCell_below HO.out hRz _) (by omega)
  · have HF : Hid (rangeP (tx s) = none) := by
      unfold Hid rangeP; rw [if_pos (by rw [tx_length]; omega)]
    go_enter Try.func10, Try.ntmps10
    go_wp2
    refine bodyPost_ret (v := .tuple #[.agg #[.slice none 0 0], .bool false]) (by simp [results, Try.results10, go_sem]) rfl ⟨none, 0, 0, by rw [HF.out]; rfl, ?_, fun sp h => by rw [HF.out] at h; simp at h⟩
    exact (Below.refl _ _).alloc (Nat.le_refl _) _

end Hst
end Go.Proofs.Ytecocheolbkneaa
namespace Go.Proofs.Ytecocheolbkneaa
open Go.RowKit
namespace Hst
set_option maxRecDepth 100000

theorem SpanRow.form {w : World} {base : Nat} {v : Value} {sp : List (Int × Int)} (h : SpanRow w base v sp) (hd : sp ≠ []) : ∃ g cap, v = .slice (some ⟨g, 0, none⟩) sp.length cap ∧ base ≤ g ∧ g < w.heap.size ∧ ∀ (j : Nat) (hj : j < sp.length), w.cell? ⟨g, j * 2, none⟩ = some (.int .i64 sp[j].1) ∧ w.cell? ⟨g, j * 2 + 1, none⟩ = some (.int .i64 sp[j].2) := by
  have hn : 0 < sp.length := List.length_pos_iff.2 hd
  obtain ⟨g, cap, rfl, h1, h2⟩ := form_any h hn
  refine ⟨g, cap, rfl, h1, h2, fun j hj => ?_⟩
  have e := spans_at sp j hj
  rw [World.ownsRow.cellAt h (j * 2) (by omega), World.ownsRow.cellAt h (j * 2 + 1) (by omega), Nat.mul_comm j 2]
  exact e
theorem SpanRow.below {w w' : World} {base : Nat} {v : Value} {sp : List (Int × Int)} (h : SpanRow w base v sp) (hb : Below w.heap.size w w') : SpanRow w' base v sp := own_below h hb

theorem fp_yes (sp : List (Int × Int)) (k : Nat) (n : Int) (hk : k < sp.length) (h1 : sp[k].1 ≤ n) (h2 : n ≤ sp[k].2) : fitsP (sp.drop k) n = true := by
  rw [List.drop_eq_getElem_cons hk]; unfold fitsP; rw [List.any_cons]; simp only [h1, h2, decide_true, Bool.and_self, Bool.true_or]
theorem fp_no (sp : List (Int × Int)) (k : Nat) (n : Int) (hk : k < sp.length) (h : ¬ (sp[k].1 ≤ n ∧ n ≤ sp[k].2)) : fitsP (sp.drop k) n = fitsP (sp.drop (k + 1)) n := by
  rw [List.drop_eq_getElem_cons hk]
  unfold fitsP
  rw [List.any_cons]
  have : (decide (sp[k].1 ≤ n) && decide (n ≤ sp[k].2)) = false := by simp; intro h1; omega
  rw [this, Bool.false_or]
theorem fp_end (sp : List (Int × Int)) (k : Nat) (n : Int) (hk : ¬ k < sp.length) : fitsP (sp.drop k) n = false := by
  rw [List.drop_of_length_le (by omega)]; rfl

set_option maxHeartbeats 1000000 in
theorem rfits_any (v : Value) (n : Int) (sp : List (Int × Int)) (base : Nat) (w : World) (hrow : SpanRow w base v sp) (hne : sp ≠ []) (hl : sp.length ≤ 1000) :
    Calls Try.prog 12 #[.agg #[v], .int .i64 n] w fun e w' => e = .returned (.bool (fitsP sp n)) ∧ Below w.heap.size w w' := by
  obtain ⟨g, cap, rfl, hg1, hg2, hcell⟩ := hrow.form hne
  have HC := hid hcell
  clear hcell hrow
  go_enter Try.func12, Try.ntmps12
  go_wp2
  go_loopw [10] (fun i wr => ∃ (k : Nat), k ≤ sp.length ∧ i = .int .i64 k ∧ Below w.heap.size w wr ∧ Hid (fitsP sp n = fitsP (sp.drop k) n)) (fun i _ => sp.length - (intOf i).toNat)
  case atStart => exact ⟨0, by omega, rfl, (Below.refl _ _).alloc (Nat.le_refl _) _, rfl⟩
  case round =>
    obtain ⟨k, hk, rfl, hbel, hall⟩ := hrel
    have hz := hbel.size
    by_cases hlt : k < sp.length
    · obtain ⟨c0, c1⟩ := HC.out k hlt
      have hc0 := (hbel.cell (p := ⟨g, k * 2, none⟩) hg2).trans c0
      have hc1 := (hbel.cell (p := ⟨g, k * 2 + 1, none⟩) hg2).trans c1
      clear c0 c1
      by_cases h1 : sp[k].1 ≤ n
      · by_cases h2 : n ≤ sp[k].2
        · have HF : Hid (fitsP sp n = true) := by unfold Hid; rw [hall.out, fp_yes sp k n hlt h1 h2]
          generalize sp[k].1 = x at *
          generalize sp[k].2 = y at *
          go_wp2
          go_ret
          exact ⟨ret_bool (by rw [HF.out]), hbel.alloc hz _⟩
        · have HF : Hid (fitsP sp n = fitsP (sp.drop (k + 1)) n) := by unfold Hid; rw [hall.out, fp_no sp k n hlt (by omega)]
          generalize sp[k].1 = x at *
          generalize sp[k].2 = y at *
          go_wp2
          go_roundw
          case rel => exact ⟨k + 1, by omega, by go_num, hbel.alloc hz _, HF⟩
          case measure => simp [intOf]; omega
      · have HF : Hid (fitsP sp n = fitsP (sp.drop (k + 1)) n) := by unfold Hid; rw [hall.out, fp_no sp k n hlt (by omega)]
        generalize sp[k].1 = x at *
        generalize sp[k].2 = y at *
        go_wp2
        go_roundw
        case rel => exact ⟨k + 1, by omega, by go_num, hbel.alloc hz _, HF⟩
        case measure => simp [intOf]; omega
    · have HF : Hid (fitsP sp n = false) := by unfold Hid; rw [hall.out, fp_end sp k n hlt]
      go_wp2
      go_ret
      exact ⟨ret_bool (by rw [HF.out]), hbel⟩


theorem rangeGo_len : ∀ (d : List Tx) (acc sp : List (Int × Int)), rangeGo acc d = some sp → sp.length = acc.length + d.length
  | [], acc, sp, h => by simp [rangeGo] at h; subst h; simp
  | a :: r, acc, sp, h => by
    simp only [rangeGo] at h
    rcases hp : altP a with _ | s
    · rw [hp] at h; simp at h
    · rw [hp] at h
      have := rangeGo_len r _ sp h
      simp at this ⊢; omega
theorem rangeP_len {l : Tx} {sp : List (Int × Int)} (h : rangeP l = some sp) : 0 < sp.length ∧ sp.length ≤ 61 := by
  unfold rangeP at h
  split at h
  · simp at h
  · have h1 := rangeGo_len _ _ _ h
    have h2 := splitL_len 124 l
    have h3 := List.length_pos_iff.2 (splitL_ne 124 l)
    simp at h1
    omega

set_option maxHeartbeats 1000000 in
theorem pfits_any (r v : ByteArray) (w : World) :
    Calls Try.prog 5 #[.string r, .string v] w fun e w' => e = .returned (.tuple #[.bool (fitsProg (tx r) (tx v)).1, .int .i64 (fitsProg (tx r) (tx v)).2]) ∧ Below w.heap.size w w' := by
  have HR := hid (fun w => rparse_any r w)
  have HV := hid (fun w => vparse_any v w)
  rcases hr : rangeP (tx r) with _ | sp
  · rw [fitsProg1 hr]
    rw [hr] at HR
    clear hr
    go_enter Try.func5, Try.ntmps5
    go_wp2_with fail
    refine (HR.out _).mono ?_
    rintro e w1 ⟨xa, xn, xc, rfl, hb1, hsp⟩
    simp only [rok, Option.isSome_none]
    have hz1 := hb1.size
    clear hsp
    go_wp2
    go_ret2
    exact ⟨rfl, hb1.alloc hz1 _⟩
  · have hlen := rangeP_len hr
    have hne : sp ≠ [] := List.length_pos_iff.1 hlen.1
    rw [hr] at HR
    rcases hv : versionP (tx v) with _ | n
    · rw [fitsProg2 hr hv]
      rw [hv] at HV
      clear hr hv
      go_enter Try.func5, Try.ntmps5
      go_wp2_with fail
      refine (HR.out _).mono ?_
      rintro e w1 ⟨xa, xn, xc, rfl, hb1, hsp⟩
      simp only [rok, Option.isSome_some]
      have hz1 := hb1.size
      clear hsp
      go_wp2_with fail
      refine (HV.out _).mono ?_
      rintro e w2 ⟨rfl, hb2⟩
      simp only [oks, ov, Option.isSome_none]
      go_wp2
      go_ret2
      exact ⟨rfl, (hb1.alloc hz1 _).trans (hb2.mono (by simp; omega))⟩
    · rw [fitsProg3 hr hv]
      rw [hv] at HV
      clear hr hv
      go_enter Try.func5, Try.ntmps5
      go_wp2_with fail
      refine (HR.out _).mono ?_
      rintro e w1 ⟨xa, xn, xc, rfl, hb1, hsp⟩
      simp only [rok, Option.isSome_some]
      have hz1 := hb1.size
      have HSP := hid (hsp sp rfl)
      clear hsp
      go_wp2_with fail
      refine (HV.out _).mono ?_
      rintro e w2 ⟨rfl, hb2⟩
      simp only [oks, ov, Option.isSome_some, Option.getD_some]
      have HSP2 := hid (SpanRow.below (SpanRow.below HSP.out ((Below.refl _ _).alloc (Nat.le_refl _) _)) hb2)
      have HB := hid ((hb1.alloc hz1 _).trans (hb2.mono (by simp; omega)) : Below w.heap.size w w2)
      obtain ⟨hcc, hff⟩ := bcell hb2
      have hz2 := hb2.size
      simp at hcc hz2
      clear hb2 hff
      go_wp2_with fail
      refine (rfits_any _ _ sp _ _ HSP2.out hne (by omega)).mono ?_
      rintro e w3 ⟨rfl, hb3⟩
      go_wp2
      go_ret2
      exact ⟨rfl, HB.out.trans (hb3.mono (by omega))⟩

end Hst
end Go.Proofs.Ytecocheolbkneaa
namespace Go.Proofs.Ytecocheolbkneaa
namespace Hst

def afterR (v : V3) : V3 × Bool := if v.c < 99 then (⟨v.a, v.b, v.c + 1⟩, true) else if v.b < 99 then (⟨v.a, v.b + 1, 0⟩, true) else if v.a < 99 then (⟨v.a + 1, 0, 0⟩, true) else (v, false)
def ptsC (c : Tx) : List V3 := if (versionR (signedR c).2).2 = true then
    (versionR (signedR c).2).1 :: (if (afterR (versionR (signedR c).2).1).2 = true then [(afterR (versionR (signedR c).2).1).1] else [])
  else []
def ptsA (a : Tx) : List V3 := (splitL 38 a).flatMap ptsC
def pointsR (l : Tx) : List V3 := [⟨0, 0, 0⟩] ++ (splitL 124 l).flatMap ptsA
def meetP (sp sq : List (Int × Int)) : Bool := sp.any fun s => sq.any fun t => !decide (mn s.2 t.2 < mx s.1 t.1)
def meetR (one other : Tx) : Bool := (pointsR one ++ pointsR other).any fun p => fitR one p && fitR other p

end Hst
end Go.Proofs.Ytecocheolbkneaa
namespace Go.Proofs.Ytecocheolbkneaa
open Go.RowKit
namespace Hst
set_option maxRecDepth 100000

theorem anyS_yes {f : Int × Int → Bool} (d : List (Int × Int)) (k : Nat) (hk : k < d.length) (h : f d[k] = true) : (d.drop k).any f = true := by
  rw [List.drop_eq_getElem_cons hk, List.any_cons, h, Bool.true_or]
theorem anyS_no {f : Int × Int → Bool} (d : List (Int × Int)) (k : Nat) (hk : k < d.length) (h : f d[k] = false) : (d.drop k).any f = (d.drop (k + 1)).any f := by
  rw [List.drop_eq_getElem_cons hk, List.any_cons, h, Bool.false_or]
theorem anyS_end {f : Int × Int → Bool} (d : List (Int × Int)) (k : Nat) (hk : ¬ k < d.length) : (d.drop k).any f = false := by
  rw [List.drop_of_length_le (by omega)]; rfl
/-- Whether one span meets some of the others. -/
def meetS (sq : List (Int × Int)) (s : Int × Int) : Bool := sq.any fun t => !decide (mn s.2 t.2 < mx s.1 t.1)

set_option maxHeartbeats 2000000 in
theorem rmeet_any (v u : Value) (sp sq : List (Int × Int)) (base base' : Nat) (w : World) (hrow : SpanRow w base v sp) (hne : sp ≠ []) (hl : sp.length ≤ 1000) (hrow' : SpanRow w base' u sq) (hne' : sq ≠ []) (hl' : sq.length ≤ 1000) :
    Calls Try.prog 16 #[.agg #[v], .agg #[u]] w fun e w' => e = .returned (.bool (meetP sp sq)) ∧ Below w.heap.size w w' := by
  obtain ⟨g, cap, rfl, hg1, hg2, hcell⟩ := hrow.form hne
  obtain ⟨h, cap', rfl, hh1, hh2, hcell'⟩ := hrow'.form hne'
  have HC := hid hcell
  have HC' := hid hcell'
  clear hcell hrow hcell' hrow'
  have HP : Hid (meetP sp sq = sp.any (meetS sq)) := rfl
  go_enter Try.func16, Try.ntmps16
  go_wp2
  go_loopw [13] (fun i wr => ∃ (k : Nat), k ≤ sp.length ∧ i = .int .i64 k ∧ Below w.heap.size w wr ∧ w.heap.size + 2 ≤ wr.heap.size ∧ wr.cell? ⟨w.heap.size + 1, 0, none⟩ = some (.slice (some ⟨h, 0, none⟩) sq.length cap') ∧ Hid (meetP sp sq = (sp.drop k).any (meetS sq))) (fun i _ => sp.length - (intOf i).toNat)
  case atStart => exact ⟨0, by omega, rfl, ((Below.refl _ _).alloc (Nat.le_refl _) _).alloc (by simp) _, by simp, by simp, HP⟩
  case round =>
    obtain ⟨k, hk, rfl, hbel, hwz, hbox, hall⟩ := hrel
    clear HP
    have hz := hbel.size
    by_cases hlt : k < sp.length
    · obtain ⟨c0, c1⟩ := HC.out k hlt
      have hc0 := (hbel.cell (p := ⟨g, k * 2, none⟩) hg2).trans c0
      have hc1 := (hbel.cell (p := ⟨g, k * 2 + 1, none⟩) hg2).trans c1
      clear c0 c1
      have HY := hid (anyS_yes (f := meetS sq) sp k hlt)
      have HN := hid (anyS_no (f := meetS sq) sp k hlt)
      have HM : Hid (meetS sq sp[k] = sq.any fun t => !decide (mn sp[k].2 t.2 < mx sp[k].1 t.1)) := rfl
      generalize meetS sq sp[k] = ms at *
      generalize sp[k].1 = x at *
      generalize sp[k].2 = y at *
      have hwr : w.heap.size + 1 < wr.heap.size := by omega
      obtain ⟨wo, rfl⟩ : ∃ wo, wo = wr := ⟨_, rfl⟩
      go_wp2
      go_loopw [20] (fun i wq => ∃ (j : Nat), j ≤ sq.length ∧ i = .int .i64 j ∧ Below (wo.heap.size + 1) (wo.alloc (.cells #[.int .i64 x, .int .i64 y] 50)) wq ∧ Hid (ms = (sq.drop j).any fun t => !decide (mn y t.2 < mx x t.1))) (fun i _ => sq.length - (intOf i).toNat)
      case atStart => exact ⟨0, by omega, rfl, Below.refl _ _, HM⟩
      case round =>
        obtain ⟨j, hj, rfl, hbel2, hall2⟩ := hrel
        have hz2 := hbel2.size
        simp at hz2
        have HB := hid ((hbel.alloc hz _).trans (hbel2.mono (by omega)))
        have hbw := HB.out
        have hbox2 := (hbel2.cell (p := ⟨w.heap.size + 1, 0, none⟩) (by show w.heap.size + 1 < _; omega)).trans ((World.cell?_alloc_past _ _ _ hwr).trans hbox)
        have hx := hbel2.cell (p := ⟨wo.heap.size, 0, none⟩) (by show wo.heap.size < _; omega)
        have hy := hbel2.cell (p := ⟨wo.heap.size, 1, none⟩) (by show wo.heap.size < _; omega)
        simp at hx hy
        by_cases hjl : j < sq.length
        · obtain ⟨c0, c1⟩ := HC'.out j hjl
          have hd0 := (hbw.cell (p := ⟨h, j * 2, none⟩) hh2).trans c0
          have hd1 := (hbw.cell (p := ⟨h, j * 2 + 1, none⟩) hh2).trans c1
          have HY2 := hid (anyS_yes (f := fun t => !decide (mn y t.2 < mx x t.1)) sq j hjl)
          have HN2 := hid (anyS_no (f := fun t => !decide (mn y t.2 < mx x t.1)) sq j hjl)
          generalize sq[j].1 = p at *
          generalize sq[j].2 = q at *
          have hox : wo.heap.size < wr.heap.size := by omega
          clear c0 c1 hbox
          go_wp2_with fail
          refine (overlap_any _ _ _ _ _).mono ?_
          rintro e w3 ⟨rfl, hb3⟩
          have hz3 := hb3.size
          simp at hz3
          have HBi := hid ((hbel2.alloc (by omega) _).trans (hb3.mono (by simp; omega)))
          have HBx := hid ((hbw.alloc (by omega) _).trans (hb3.mono (by simp; omega)))
          clear hb3
          generalize hmx : mx x p = lo at *
          generalize hmn : mn y q = hi at *
          clear hmx hmn
          go_wp2_with fail
          refine (isEmpty_any _ _ _).mono ?_
          rintro e w4 ⟨rfl, hb4⟩
          have HBi4 := hid ((HBi.out.alloc (by omega) _).trans (hb4.mono (by simp; omega)))
          have HBx4 := hid ((HBx.out.alloc (by omega) _).trans (hb4.mono (by simp; omega)))
          clear hb4
          by_cases hem : hi < lo
          · have HF : Hid (ms = (sq.drop (j + 1)).any fun t => !decide (mn y t.2 < mx x t.1)) := by unfold Hid; rw [hall2.out, HN2.out (by simp [hem])]
            have hd : decide (hi < lo) = true := by simp [hem]
            go_wp2
            go_roundw
            case rel => exact ⟨j + 1, by omega, by go_num, HBi4.out, HF⟩
            case measure => simp [intOf]; omega
          · have HF : Hid (meetP sp sq = true) := by unfold Hid; rw [hall.out, HY.out (by rw [hall2.out, HY2.out (by simp [hem])])]
            have hd : decide (hi < lo) = false := by simp [hem]
            go_wp2
            go_ret
            exact ⟨ret_bool (by rw [HF.out]), HBx4.out⟩
        · have HF : Hid (meetP sp sq = (sp.drop (k + 1)).any (meetS sq)) := by unfold Hid; rw [hall.out, HN.out (by rw [hall2.out, anyS_end sq j hjl])]
          have hwz2 : w.heap.size + 2 ≤ wr.heap.size := by omega
          clear hx hy hbox hall
          go_wp2
          go_roundw
          case rel => exact ⟨k + 1, by omega, by go_num, HB.out, hwz2, hbox2, HF⟩
          case measure => simp [intOf]; omega
    · have HF : Hid (meetP sp sq = false) := by unfold Hid; rw [hall.out, anyS_end sp k hlt]
      go_wp2
      go_ret
      exact ⟨ret_bool (by rw [HF.out]), hbel⟩

/-- Meet of the program: its answer and its error. -/
def meetProg (r s : Tx) : Bool × Int := match rangeP r with
  | none => (false, 1)
  | some sp => match rangeP s with
    | none => (false, 1)
    | some sq => (meetP sp sq, 0)
theorem meetProg1 {r s : Tx} (h : rangeP r = none) : meetProg r s = (false, 1) := by simp [meetProg, h]
theorem meetProg2 {r s : Tx} {sp : List (Int × Int)} (h : rangeP r = some sp) (h' : rangeP s = none) : meetProg r s = (false, 1) := by simp [meetProg, h, h']
theorem meetProg3 {r s : Tx} {sp sq : List (Int × Int)} (h : rangeP r = some sp) (h' : rangeP s = some sq) : meetProg r s = (meetP sp sq, 0) := by simp [meetProg, h, h']

set_option maxHeartbeats 1000000 in
theorem pmeet_any (r s : ByteArray) (w : World) :
    Calls Try.prog 8 #[.string r, .string s] w fun e w' => e = .returned (.tuple #[.bool (meetProg (tx r) (tx s)).1, .int .i64 (meetProg (tx r) (tx s)).2]) ∧ Below w.heap.size w w' := by
  have HR := hid (fun w => rparse_any r w)
  have HV := hid (fun w => rparse_any s w)
  rcases hr : rangeP (tx r) with _ | sp
  · rw [meetProg1 hr]
    rw [hr] at HR
    clear hr
    go_enter Try.func8, Try.ntmps8
    go_wp2_with fail
    refine (HR.out _).mono ?_
    rintro e w1 ⟨xa, xn, xc, rfl, hb1, hsp⟩
    simp only [rok, Option.isSome_none]
    have hz1 := hb1.size
    clear hsp
    go_wp2
    go_ret2
    exact ⟨rfl, hb1.alloc hz1 _⟩
  · have hlen := rangeP_len hr
    have hne : sp ≠ [] := List.length_pos_iff.1 hlen.1
    rw [hr] at HR
    rcases hv : rangeP (tx s) with _ | sq
    · rw [meetProg2 hr hv]
      rw [hv] at HV
      clear hr hv
      go_enter Try.func8, Try.ntmps8
      go_wp2_with fail
      refine (HR.out _).mono ?_
      rintro e w1 ⟨xa, xn, xc, rfl, hb1, hsp⟩
      simp only [rok, Option.isSome_some]
      have hz1 := hb1.size
      clear hsp
      go_wp2_with fail
      refine (HV.out _).mono ?_
      rintro e w2 ⟨ya, yn, yc, rfl, hb2, hsq⟩
      simp only [rok, Option.isSome_none]
      have hz2 := hb2.size
      simp at hz2
      clear hsq
      have HB := hid ((hb1.alloc hz1 _).trans (hb2.mono (by simp; omega)))
      clear hb1 hb2
      go_wp2
      go_ret2
      exact ⟨rfl, HB.out.alloc (by omega) _⟩
    · have hlen' := rangeP_len hv
      have hne' : sq ≠ [] := List.length_pos_iff.1 hlen'.1
      rw [meetProg3 hr hv]
      rw [hv] at HV
      clear hr hv
      go_enter Try.func8, Try.ntmps8
      go_wp2_with fail
      refine (HR.out _).mono ?_
      rintro e w1 ⟨xa, xn, xc, rfl, hb1, hsp⟩
      simp only [rok, Option.isSome_some]
      have hz1 := hb1.size
      have HSP := hid (hsp sp rfl)
      clear hsp
      go_wp2_with fail
      refine (HV.out _).mono ?_
      rintro e w2 ⟨ya, yn, yc, rfl, hb2, hsq⟩
      simp only [rok, Option.isSome_some]
      have HSQ := hid (hsq sq rfl)
      clear hsq
      have HSP2 := hid (SpanRow.below (SpanRow.below HSP.out ((Below.refl _ _).alloc (Nat.le_refl _) _)) hb2)
      have HB := hid ((hb1.alloc hz1 _).trans (hb2.mono (by simp; omega)) : Below w.heap.size w w2)
      obtain ⟨hcc, hff⟩ := bcell hb2
      have hz2 := hb2.size
      simp at hcc hz2
      have hb0 := hcc w1.heap.size 0 (by omega)
      simp at hb0
      have h12 : w1.heap.size < w2.heap.size := by omega
      clear hb2 hff hcc
      go_wp2_with fail
      refine (rmeet_any _ _ sp sq _ _ _ (SpanRow.below HSP2.out ((Below.refl _ _).alloc (Nat.le_refl _) _)) hne (by omega) (SpanRow.below HSQ.out ((Below.refl _ _).alloc (Nat.le_refl _) _)) hne' (by omega)).mono ?_
      rintro e w3 ⟨rfl, hb3⟩
      have HB3 := hid ((HB.out.alloc (by omega) _).trans (hb3.mono (by simp; omega)))
      clear hb3
      go_wp2
      go_ret2
      exact ⟨rfl, HB3.out⟩

end Hst
end Go.Proofs.Ytecocheolbkneaa
namespace Go.Proofs.Ytecocheolbkneaa
open Go.RowKit
namespace Hst
set_option maxRecDepth 100000

set_option maxHeartbeats 1000000 in
theorem after_any (a b c : Int) (w : World) (ha0 : 0 ≤ a) (ha1 : a ≤ 99) (hb0 : 0 ≤ b) (hb1 : b ≤ 99) (hc0 : 0 ≤ c) (hc1 : c ≤ 99) :
    Calls Try.prog 28 #[verV a b c] w fun e w' => e = .returned (.tuple #[verV (afterR ⟨a, b, c⟩).1.a (afterR ⟨a, b, c⟩).1.b (afterR ⟨a, b, c⟩).1.c, .bool (afterR ⟨a, b, c⟩).2]) ∧ Below w.heap.size w w' := by
  by_cases h1 : c < 99
  · have e : afterR ⟨a, b, c⟩ = (⟨a, b, c + 1⟩, true) := by simp [afterR, h1]
    rw [e]
    go_enter Try.func28, Try.ntmps28
    go_wp2
    exact bodyPost_ret (v := .tuple #[verV a b (c + 1), .bool true]) (by simp [results, Try.results28, go_sem]) rfl ⟨rfl, ((Below.refl _ _).alloc (Nat.le_refl _) _).alloc (by simp) _⟩
  · by_cases h2 : b < 99
    · have e : afterR ⟨a, b, c⟩ = (⟨a, b + 1, 0⟩, true) := by simp [afterR, h1, h2]
      rw [e]
      go_enter Try.func28, Try.ntmps28
      go_wp2
      exact bodyPost_ret (v := .tuple #[verV a (b + 1) 0, .bool true]) (by simp [results, Try.results28, go_sem]) rfl ⟨rfl, ((Below.refl _ _).alloc (Nat.le_refl _) _).alloc (by simp) _⟩
    · by_cases h3 : a < 99
      · have e : afterR ⟨a, b, c⟩ = (⟨a + 1, 0, 0⟩, true) := by simp [afterR, h1, h2, h3]
        rw [e]
        go_enter Try.func28, Try.ntmps28
        go_wp2
        exact bodyPost_ret (v := .tuple #[verV (a + 1) 0 0, .bool true]) (by simp [results, Try.results28, go_sem]) rfl ⟨rfl, ((Below.refl _ _).alloc (Nat.le_refl _) _).alloc (by simp) _⟩
      · have e : afterR ⟨a, b, c⟩ = (⟨a, b, c⟩, false) := by simp [afterR, h1, h2, h3]
        rw [e]
        go_enter Try.func28, Try.ntmps28
        go_wp2
        exact bodyPost_ret (v := .tuple #[verV a b c, .bool false]) (by simp [results, Try.results28, go_sem]) rfl ⟨rfl, ((Below.refl _ _).alloc (Nat.le_refl _) _).alloc (by simp) _⟩

end Hst
end Go.Proofs.Ytecocheolbkneaa
namespace Go.Proofs.Ytecocheolbkneaa
open Go.RowKit
namespace Hst
set_option maxRecDepth 100000

theorem empty_yes (l : Tx) (h : l = []) : (bs l).toList.isEmpty = true := by rw [tx_toList, tx_bs, h]; rfl
theorem empty_no (l : Tx) (h : l ≠ []) : (bs l).toList.isEmpty = false := by rw [tx_toList, tx_bs]; simp [h]

set_option maxHeartbeats 1000000 in
theorem isCond_any (s : ByteArray) (w : World) :
    Calls Try.prog 22 #[.string s] w fun e w' => e = .returned (.bool (isCondR (tx s))) ∧ Below w.heap.size w w' := by
  have HS := hid (fun w => signed_any s w)
  have HV := hid (fun w => version_any (bs (signedR (tx s)).2) w)
  rw [tx_bs] at HV
  have HF : Hid (isCondR (tx s) = (decide (tx s = [42]) || (!(signedR (tx s)).1.isEmpty && (versionR (signedR (tx s)).2).2))) := rfl
  generalize hsg : (signedR (tx s)).1 = sg at *
  generalize hrs : (signedR (tx s)).2 = rs at *
  clear hsg hrs
  generalize hvr : versionR rs = vr at *
  clear hvr
  obtain ⟨⟨a, b, c⟩, ok⟩ := vr
  by_cases h42 : tx s = [42]
  · have HF : Hid (isCondR (tx s) = true) := by unfold Hid; rw [HF.out]; simp [h42]
    have hb := str_eq s _ h42
    clear h42
    go_enter Try.func22, Try.ntmps22
    go_wp2_with fail
    refine (HS.out _).mono ?_
    rintro e w1 ⟨rfl, hb1⟩
    go_wp2_with fail
    refine (HV.out _).mono ?_
    rintro e w2 ⟨rfl, hb2⟩
    have HB := hid (hb1.trans (hb2.mono hb1.size))
    have hz := HB.out.size
    clear hb1 hb2
    go_wp2
    go_ret
    exact ⟨ret_bool (by rw [HF.out]), HB.out.alloc hz _⟩
  · have hb := str_ne s _ h42
    by_cases hsg : sg = []
    · have HF : Hid (isCondR (tx s) = false) := by unfold Hid; rw [HF.out]; simp [h42, hsg]
      have he := empty_yes sg hsg
      clear h42 hsg
      generalize bs sg = q at *
      go_enter Try.func22, Try.ntmps22
      go_wp2_with fail
      refine (HS.out _).mono ?_
      rintro e w1 ⟨rfl, hb1⟩
      go_wp2_with fail
      refine (HV.out _).mono ?_
      rintro e w2 ⟨rfl, hb2⟩
      have HB := hid (hb1.trans (hb2.mono hb1.size))
      have hz := HB.out.size
      clear hb1 hb2
      go_wp2
      go_ret
      exact ⟨ret_bool (by rw [HF.out]), HB.out.alloc hz _⟩
    · have HF : Hid (isCondR (tx s) = ok) := by unfold Hid; rw [HF.out]; simp [h42, hsg]
      have he := empty_no sg hsg
      clear h42 hsg
      generalize bs sg = q at *
      go_enter Try.func22, Try.ntmps22
      go_wp2_with fail
      refine (HS.out _).mono ?_
      rintro e w1 ⟨rfl, hb1⟩
      go_wp2_with fail
      refine (HV.out _).mono ?_
      rintro e w2 ⟨rfl, hb2⟩
      have HB := hid (hb1.trans (hb2.mono hb1.size))
      have hz := HB.out.size
      clear hb1 hb2
      go_wp2
      go_ret
      exact ⟨ret_bool (by rw [HF.out]), HB.out.alloc hz _⟩

end Hst
end Go.Proofs.Ytecocheolbkneaa
