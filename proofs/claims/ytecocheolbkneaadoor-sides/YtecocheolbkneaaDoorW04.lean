/- Alt, Rparse, Rfits, Signmath, Defsm, Mathm -/
import Derived.Test.YtecocheolbkneaaDoorW03
import Derived.Test.YtecocheolbkneaaDoorW02
import Derived.Test.YtecocheolbkneaaDoorW01
namespace Go.Proofs.YtecocheolbkneaaDoor
open Go.RowKit
namespace Hst
set_option maxRecDepth 100000

/-- The memory of parseAlternative in a round: R: the result's block; A: the block of 'all'; g: the pieces' row. -/
structure AltInv (w wr : World) (A g : Nat) (lo hi : Int) (d : List Tx) : Prop where
  bel : Below w.heap.size w wr
  rA : w.heap.size < A
  Ag : A < g
  gz : g < wr.heap.size
  c0 : wr.cell? ⟨A, 0, none⟩ = some (.int .i64 lo)
  c1 : wr.cell? ⟨A, 1, none⟩ = some (.int .i64 hi)
  f0 : wr.frozen? ⟨A, 0, none⟩ = false
  f1 : wr.frozen? ⟨A, 1, none⟩ = false
  r0 : wr.cell? ⟨w.heap.size, 0, none⟩ = some (.int .i64 0)
  r1 : wr.cell? ⟨w.heap.size, 1, none⟩ = some (.int .i64 0)
  s0 : wr.frozen? ⟨w.heap.size, 0, none⟩ = false
  s1 : wr.frozen? ⟨w.heap.size, 1, none⟩ = false
  row : ∀ (j : Nat) (hj : j < d.length), wr.cell? ⟨g, j, none⟩ = some (.string (bs d[j]))

theorem AltInv.step {w wr w2 : World} {A g : Nat} {lo hi : Int} {d : List Tx} (h : AltInv w wr A g lo hi d) (hb : Below wr.heap.size wr w2) : AltInv w w2 A g lo hi d := by
  have h1 := h.rA; have h2 := h.Ag; have h3 := h.gz
  obtain ⟨hc, hf⟩ := bcell hb
  refine ⟨h.bel.trans (hb.mono (by omega)), h1, h2, Nat.lt_of_lt_of_le h3 hb.size, ?_, ?_, ?_, ?_, ?_, ?_, ?_, ?_, ?_⟩
  · rw [hc _ _ (by omega)]; exact h.c0
  · rw [hc _ _ (by omega)]; exact h.c1
  · rw [hf _ _ (by omega)]; exact h.f0
  · rw [hf _ _ (by omega)]; exact h.f1
  · rw [hc _ _ (by omega)]; exact h.r0
  · rw [hc _ _ (by omega)]; exact h.r1
  · rw [hf _ _ (by omega)]; exact h.s0
  · rw [hf _ _ (by omega)]; exact h.s1
  · intro j hj; rw [hc _ _ (by omega)]; exact h.row j hj

theorem AltInv.store {w wr : World} {A g : Nat} {lo hi lo' hi' : Int} {d : List Tx} (h : AltInv w wr A g lo hi d) : AltInv w ((wr.setCell ⟨A, 0, none⟩ (.int .i64 lo')).setCell ⟨A, 1, none⟩ (.int .i64 hi')) A g lo' hi' d := by
  have h1 := h.rA; have h2 := h.Ag; have h3 := h.gz
  refine ⟨(h.bel.setCell (Nat.le_of_lt h1) _).setCell (Nat.le_of_lt h1) _, h1, h2, by simpa using h3, ?_, ?_, ?_, ?_, ?_, ?_, ?_, ?_, ?_⟩
  · simp [go_sem, h.c0]
  · simp [go_sem, h.c1]
  · simp [go_sem, h.f0]
  · simp [go_sem, h.f1]
  · simp [go_sem, h.r0]
  · simp [go_sem, h.r1]
  · simp [go_sem, h.s0]
  · simp [go_sem, h.s1]
  · intro j hj
    simp [go_sem, h.row j hj]

theorem ag_yes (d : List Tx) (k : Nat) (lo hi : Int) (hk : k < d.length) (h : sok (condP d[k]) = true) : altGo lo hi (d.drop k) = altGo (mx lo (slo (condP d[k]))) (mn hi (shi (condP d[k]))) (d.drop (k + 1)) := by
  rw [List.drop_eq_getElem_cons hk]
  rcases hp : condP d[k] with _ | n
  · rw [hp] at h; simp [sok] at h
  · simp [altGo, hp, slo, shi]
theorem ag_no (d : List Tx) (k : Nat) (lo hi : Int) (hk : k < d.length) (h : sok (condP d[k]) = false) : altGo lo hi (d.drop k) = none := by
  rw [List.drop_eq_getElem_cons hk]
  rcases hp : condP d[k] with _ | n
  · simp [altGo, hp]
  · rw [hp] at h; simp [sok] at h
theorem ag_end (d : List Tx) (k : Nat) (lo hi : Int) (hk : ¬ k < d.length) : altGo lo hi (d.drop k) = some (lo, hi) := by
  rw [List.drop_of_length_le (by omega)]; rfl

theorem alt_start {w w1 w2 : World} {g : Nat} {d : List Tx} (hb1 : Below (w.alloc (.cells #[.int .i64 0, .int .i64 0] 106)).heap.size (w.alloc (.cells #[.int .i64 0, .int .i64 0] 106)) w1)
    (hb2 : Below (w1.alloc (.cells #[.int .i64 0, .int .i64 999999] 106)).heap.size (w1.alloc (.cells #[.int .i64 0, .int .i64 999999] 106)) w2) (hg1 : w1.heap.size + 1 ≤ g) (hg2 : g < w2.heap.size)
    (hcell : ∀ (j : Nat) (hj : j < d.length), w2.cell? ⟨g, j, none⟩ = some (.string (bs d[j]))) : AltInv w w2 w1.heap.size g 0 999999 d := by
  have hz1 := hb1.size
  have hz2 := hb2.size
  obtain ⟨hc1, hf1⟩ := bcell hb1
  obtain ⟨hc2, hf2⟩ := bcell hb2
  simp at hz1 hz2 hc1 hf1 hc2 hf2
  have hB1 : Below w.heap.size w w1 := ((Below.refl _ _).alloc (Nat.le_refl _) _).trans (hb1.mono (by simp))
  refine ⟨hB1.trans (((Below.refl _ _).alloc (by omega) _).trans (hb2.mono (by simp; omega))), by omega, by omega, hg2, ?_, ?_, ?_, ?_, ?_, ?_, ?_, ?_, hcell⟩
  · rw [hc2 _ _ (by omega)]; simp
  · rw [hc2 _ _ (by omega)]; simp
  · rw [hf2 _ _ (by omega)]; simp
  · rw [hf2 _ _ (by omega)]; simp
  · rw [hc2 _ _ (by omega), World.cell?_alloc_past _ _ _ (by omega), hc1 _ _ (by omega)]; simp
  · rw [hc2 _ _ (by omega), World.cell?_alloc_past _ _ _ (by omega), hc1 _ _ (by omega)]; simp
  · rw [hf2 _ _ (by omega), World.frozen?_alloc_past _ _ _ (by omega), hf1 _ _ (by omega)]; simp
  · rw [hf2 _ _ (by omega), World.frozen?_alloc_past _ _ _ (by omega), hf1 _ _ (by omega)]; simp

set_option maxHeartbeats 1000000 in
theorem palt_any (s : ByteArray) (w : World) (hs : s.size ≤ 100) :
    Calls Tryd.prog 57 #[.string s] w fun e w' => e = .returned (.tuple #[spanV (slo (altP (tx s))) (shi (altP (tx s))), .bool (sok (altP (tx s)))]) ∧ Below w.heap.size w w' := by
  go_enter Tryd.func57, Tryd.ntmps57
  go_wp2_with fail
  refine (every_any _).mono ?_
  rintro e w1 ⟨rfl, hb1⟩
  go_wp2_with fail
  refine (psplit_any s 38 _ (by omega)).mono ?_
  rintro e w2 ⟨v, rfl, hrow, hb2⟩
  obtain ⟨g, cap, rfl, hg1, hg2, hcell⟩ := hrow.form (splitL_ne _ _)
  have hps : ∀ j (hj : j < (splitL 38 (tx s)).length), (bs (splitL 38 (tx s))[j]).size ≤ 100 := fun j hj => by have := piece_size 38 s j hj; omega
  have hlen := splitL_len 38 (tx s)
  have HP : Hid (altP (tx s) = altGo 0 999999 (splitL 38 (tx s))) := rfl
  rw [tx_length] at hlen
  generalize splitL 38 (tx s) = d at *
  have hz1 := hb1.size
  simp at hz1 hg1
  have INV := hid (alt_start hb1 hb2 hg1 hg2 hcell)
  have HC := hid hps
  clear hcell hps hrow hb1 hb2
  go_wp2
  go_loopw [13] (fun i wr => ∃ (k : Nat) (lo hi : Int), k ≤ d.length ∧ i = .int .i64 k ∧ AltInv w wr w1.heap.size g lo hi d ∧ Hid (altP (tx s) = altGo lo hi (d.drop k))) (fun i _ => d.length - (intOf i).toNat)
  case atStart => exact ⟨0, 0, 999999, by omega, rfl, INV.out, by unfold Hid; rw [HP.out]; rfl⟩
  case round =>
    obtain ⟨k, lo, hi, hk, rfl, hinv, hall⟩ := hrel
    clear INV HP
    obtain ⟨ebel, erA, eAg, egz, ec0, ec1, ef0, ef1, er0, er1, es0, es1, erow⟩ := id hinv
    have HI := hid hinv
    have HB := hid ebel
    have hAr : w1.heap.size < wr.heap.size := by omega
    have hRr : w.heap.size < wr.heap.size := by omega
    by_cases hlt : k < d.length
    · have hc := erow k hlt
      have hh := fun w => pcond_any (bs d[k]) w (HC.out k hlt)
      rw [tx_bs] at hh
      clear erow ebel hinv
      by_cases hok : sok (condP d[k]) = true
      · have HF : Hid (altP (tx s) = altGo (mx lo (slo (condP d[k]))) (mn hi (shi (condP d[k]))) (d.drop (k + 1))) := by unfold Hid; rw [hall.out, ag_yes d k lo hi hlt hok]
        rw [hok] at hh
        clear hall hok
        have HH := hid hh
        clear hh
        generalize condP d[k] = o at *
        generalize bs d[k] = q at *
        go_wp2_with fail
        refine (HH.out _).mono ?_
        rintro e w4 ⟨rfl, hb4⟩
        have HI4 := hid (HI.out.step hb4)
        obtain ⟨hcc4, hff4⟩ := bcell hb4
        have hz4 := hb4.size
        have hA4 : w1.heap.size < w4.heap.size := by omega
        have hR4 : w.heap.size < w4.heap.size := by omega
        clear hb4
        go_wp2_with fail
        refine (overlap_any _ _ _ _ _).mono ?_
        rintro e w5 ⟨rfl, hb5⟩
        have HI5 := hid ((HI4.out.step ((Below.refl _ _).alloc (Nat.le_refl _) _)).step hb5)
        obtain ⟨hcc5, hff5⟩ := bcell hb5
        have hz5 := hb5.size
        simp at hcc5 hff5 hz5
        have hA5 : w1.heap.size < w4.heap.size + 1 := by omega
        have hR5 : w.heap.size < w4.heap.size + 1 := by omega
        clear hb5
        go_wp2
        go_roundw
        case rel => exact ⟨k + 1, _, _, by omega, by go_num, HI5.out.store, HF⟩
        case measure => simp [intOf]; omega
      · have hok : sok (condP d[k]) = false := by simpa using hok
        have HF : Hid (altP (tx s) = none) := by unfold Hid; rw [hall.out, ag_no d k lo hi hlt hok]
        rw [hok] at hh
        clear hall hok
        have HH := hid hh
        clear hh
        generalize condP d[k] = o at *
        generalize bs d[k] = q at *
        go_wp2_with fail
        refine (HH.out _).mono ?_
        rintro e w4 ⟨rfl, hb4⟩
        have HI4 := hid (HI.out.step hb4)
        obtain ⟨hcc4, hff4⟩ := bcell hb4
        have hz4 := hb4.size
        have hA4 : w1.heap.size < w4.heap.size := by omega
        have hR4 : w.heap.size < w4.heap.size := by omega
        clear hb4
        go_wp2
        refine bodyPost_ret (v := .tuple #[spanV 0 0, .bool false]) (by simp [results, Tryd.results57, go_sem, *]) rfl ⟨by rw [HF.out]; rfl, ?_⟩
        exact Below.alloc ((HI4.out.bel.setCell (Nat.le_refl _) _).setCell (Nat.le_refl _) _) (by simp; omega) _
    · have HF : Hid (altP (tx s) = some (lo, hi)) := by unfold Hid; rw [hall.out, ag_end d k lo hi hlt]
      clear erow ebel hinv hall
      go_wp2
      refine bodyPost_ret (v := .tuple #[spanV lo hi, .bool true]) (by simp [results, Tryd.results57, go_sem, *]) rfl ⟨by rw [HF.out]; rfl, ?_⟩
      exact (HB.out.setCell (Nat.le_refl _) _).setCell (Nat.le_refl _) _

end Hst
end Go.Proofs.YtecocheolbkneaaDoor
namespace Go.Proofs.YtecocheolbkneaaDoor
open Go.RowKit
namespace Hst
set_option maxRecDepth 100000

theorem info_span : (Tryd.prog.info? 106).map (fun i => (i.zero, i.size, i.bytes)) = some (some (.agg #[.int .i64 0, .int .i64 0]), 2, 16) := by kernel_rfl

/-- The cells of some spans. -/
def spans (sp : List (Int × Int)) : List Value := sp.flatMap fun s => [Value.int .i64 s.1, Value.int .i64 s.2]
theorem spans_snoc (sp : List (Int × Int)) (s : Int × Int) : spans sp ++ [Value.int .i64 s.1, Value.int .i64 s.2] = spans (sp ++ [s]) := by simp [spans]
theorem spans_at : ∀ (sp : List (Int × Int)) (j : Nat) (hj : j < sp.length), (spans sp)[2 * j]? = some (Value.int .i64 sp[j].1) ∧ (spans sp)[2 * j + 1]? = some (Value.int .i64 sp[j].2)
  | [], j, hj => by simp at hj
  | s :: r, 0, _ => by simp [spans]
  | s :: r, j + 1, hj => by
    have ih := spans_at r j (by simpa using hj)
    have e1 : 2 * (j + 1) = 2 * j + 1 + 1 := by omega
    simp only [spans, List.flatMap_cons, List.cons_append, List.nil_append, e1, List.getElem?_cons_succ, List.getElem_cons_succ] at ih ⊢
    exact ih
/-- The row of spans that a call has made. -/
def SpanRow (w : World) (base : Nat) (v : Value) (sp : List (Int × Int)) : Prop := w.ownsRow base 106 2 v sp.length (spans sp)

theorem own_below {w w' : World} {base e size n : Nat} {v : Value} {xs : List Value} (h : w.ownsRow base e size v n xs) (hb : Below w.heap.size w w') : w'.ownsRow base e size v n xs := by
  obtain ⟨h1, h2⟩ := h
  refine ⟨h1, ?_⟩
  rcases h2 with h2 | ⟨g, cap, cur, hv, hg, hh, r⟩
  · exact .inl h2
  · exact .inr ⟨g, cap, cur, hv, hg, by rw [hb.block g (lt_of_block hh)]; exact hh, r⟩
theorem form_any {w : World} {base n size : Nat} {v : Value} {xs : List Value} {e : Nat} (h : w.ownsRow base e size v n xs) (hn : 0 < n) : ∃ g cap, v = .slice (some ⟨g, 0, none⟩) n cap ∧ base ≤ g ∧ g < w.heap.size := by
  obtain ⟨h1, h2⟩ := h
  rcases h2 with ⟨rfl, h2⟩ | ⟨g, cap, cur, hv, hg, hh, r⟩
  · omega
  · exact ⟨g, cap, hv, hg, lt_of_block hh⟩
theorem own_mono {w : World} {base base' e size n : Nat} {v : Value} {xs : List Value} (h : w.ownsRow base e size v n xs) (hb : base' ≤ base) : w.ownsRow base' e size v n xs := by
  obtain ⟨h1, h2⟩ := h
  refine ⟨h1, ?_⟩
  rcases h2 with h2 | ⟨g, cap, cur, hv, hg, r⟩
  · exact .inl h2
  · exact .inr ⟨g, cap, cur, hv, by omega, r⟩

theorem rg_yes (d : List Tx) (k : Nat) (acc : List (Int × Int)) (hk : k < d.length) (h : sok (altP d[k]) = true) : rangeGo acc (d.drop k) = rangeGo (acc ++ [(slo (altP d[k]), shi (altP d[k]))]) (d.drop (k + 1)) := by
  rw [List.drop_eq_getElem_cons hk]
  rcases hp : altP d[k] with _ | n
  · rw [hp] at h; simp [sok] at h
  · simp [rangeGo, hp, slo, shi]
theorem rg_no (d : List Tx) (k : Nat) (acc : List (Int × Int)) (hk : k < d.length) (h : sok (altP d[k]) = false) : rangeGo acc (d.drop k) = none := by
  rw [List.drop_eq_getElem_cons hk]
  rcases hp : altP d[k] with _ | n
  · simp [rangeGo, hp]
  · rw [hp] at h; simp [sok] at h
theorem rg_end (d : List Tx) (k : Nat) (acc : List (Int × Int)) (hk : ¬ k < d.length) : rangeGo acc (d.drop k) = some acc := by
  rw [List.drop_of_length_le (by omega)]; rfl
def rok (o : Option (List (Int × Int))) : Bool := o.isSome
theorem two_ints (a b : Int) : ∀ u ∈ [Value.int .i64 a, Value.int .i64 b], u.oneCell' = true := by intro u hu; simp at hu; rcases hu with rfl | rfl <;> rfl

theorem news_span (w : World) (o1 : Obj) (a b : Value) (t : TypeId) : ∀ j u, [a, b][j]? = some u → ((w.alloc o1).alloc (.cells #[a, b] t)).cell? ((⟨w.heap.size + 1, 0, none⟩ : Addr).add j) = some u := by
  intro j u hu
  have h := World.news_of_block (heap_alloc_new (w.alloc o1) (.cells #[a, b] t)) j u (by simpa using hu)
  simpa using h

/-- One span more. -/
theorem step_span {W w w1 wr : World} {v : Value} {acc : List (Int × Int)} {s : Int × Int} {g cap : Nat} (hown : wr.ownsRow w.heap.size 106 2 v acc.length (spans acc)) (hbel : Below w.heap.size w wr) (hb4 : Below wr.heap.size wr W)
    (hown1 : w1.ownsRow w.heap.size 106 2 (.slice (some ⟨g, 0, none⟩) (acc.length + 1) cap) (acc.length + 1) (spans acc ++ [Value.int .i64 s.1, Value.int .i64 s.2])) (hgrow : W.grownBy w1 v.ownBlock) :
    w1.ownsRow w.heap.size 106 2 (.slice (some ⟨g, 0, none⟩) (acc.length + 1) cap) (acc ++ [s]).length (spans (acc ++ [s])) ∧ Below w.heap.size w w1 := by
  have hz := hbel.size
  refine ⟨?_, ?_⟩
  · rw [spans_snoc] at hown1
    simpa using hown1
  · exact (hbel.trans (hb4.mono hz)).grown hgrow (Nat.le_trans hz hb4.size) (fun k hk => (hown.lt k hk).1)

set_option maxHeartbeats 1000000 in
theorem rparse_any (s : ByteArray) (w : World) :
    Calls Tryd.prog 31 #[.string s] w fun e w' => ∃ a n c, e = .returned (.tuple #[.agg #[.slice a n c], .bool (rok (rangeP (tx s)))]) ∧ Below w.heap.size w w' ∧ ∀ sp, rangeP (tx s) = some sp → SpanRow w' w.heap.size (.slice a n c) sp := by
  by_cases h60 : s.size ≤ 60
  · obtain ⟨i0, hi, hz0, hz1, hz2⟩ := info_parts info_span
    have HP : Hid (rangeP (tx s) = rangeGo [] (splitL 124 (tx s))) := by
      unfold Hid rangeP; rw [if_neg (by rw [tx_length]; omega)]
    go_enter Tryd.func31, Tryd.ntmps31
    go_wp2_with fail
    refine (psplit_any s 124 _ (by omega)).mono ?_
    rintro e w2 ⟨v, rfl, hrow, hb2⟩
    obtain ⟨g, cap, rfl, hg1, hg2, hcell⟩ := hrow.form (splitL_ne _ _)
    have hne := splitL_ne 124 (tx s)
    have hps : ∀ j (hj : j < (splitL 124 (tx s)).length), (bs (splitL 124 (tx s))[j]).size ≤ 100 := fun j hj => by have := piece_size 124 s j hj; omega
    have hlen := splitL_len 124 (tx s)
    rw [tx_length] at hlen
    generalize splitL 124 (tx s) = d at *
    have hz2' := hb2.size
    obtain ⟨hcc2, hff2⟩ := bcell hb2
    simp at hz2' hcc2 hff2 hg1
    have hR := hcc2 w.heap.size 0 (by omega)
    have hRf := hff2 w.heap.size 0 (by omega)
    simp at hR hRf
    have HB2 := hid (((Below.refl _ _).alloc (Nat.le_refl _) _).trans (hb2.mono (by simp)) : Below w.heap.size w w2)
    have HC := hid hcell; have HS := hid hps; have HN := hid hne
    have hRz : w.heap.size < w2.heap.size := by omega
    clear hcell hps hrow hb2 hcc2 hff2 hne
    go_wp2
    go_loopw [4, 16] (fun v i wr => ∃ (k : Nat) (acc : List (Int × Int)), k ≤ d.length ∧ acc.length ≤ k ∧ i = .int .i64 k ∧ wr.ownsRow w2.heap.size 106 2 v acc.length (spans acc) ∧ Below w2.heap.size w2 wr ∧ Hid (acc.length = k ∧ rangeP (tx s) = rangeGo acc (d.drop k))) (fun _ i _ => d.length - (intOf i).toNat)
    case atStart => exact ⟨0, [], by omega, by simp, rfl, World.ownsRow_nil _ _ _ _, Below.refl _ _, ⟨rfl, by rw [HP.out]; rfl⟩⟩
    case round =>
      obtain ⟨k, acc, hk, hacc, rfl, hown, hbel, hall⟩ := hrel
      obtain ⟨hccr, hffr⟩ := bcell hbel
      have hzr := hbel.size
      have hRr : w.heap.size < wr.heap.size := by omega
      have hgr : g < wr.heap.size := by omega
      have hR' := (hccr w.heap.size 0 hRz).trans hR
      have hRf' := (hffr w.heap.size 0 hRz).trans hRf
      clear HP
      by_cases hlt : k < d.length
      · have hc : wr.cell? ⟨g, k, none⟩ = some (.string (bs d[k])) := by rw [hccr _ _ hg2]; exact HC.out k hlt
        have hh := fun w => palt_any (bs d[k]) w (HS.out k hlt)
        rw [tx_bs] at hh
        clear hccr hffr hR hRf
        by_cases hok : sok (altP d[k]) = true
        · have HF : Hid ((acc ++ [(slo (altP d[k]), shi (altP d[k]))]).length = k + 1 ∧ rangeP (tx s) = rangeGo (acc ++ [(slo (altP d[k]), shi (altP d[k]))]) (d.drop (k + 1))) := ⟨by simp [hall.out.1], by rw [hall.out.2, rg_yes d k acc hlt hok]⟩
          rw [hok] at hh
          have HH := hid hh
          clear hall hok hh
          generalize altP d[k] = o at *
          generalize bs d[k] = q at *
          go_wp2_with fail
          refine (HH.out _).mono ?_
          rintro e w4 ⟨rfl, hb4⟩
          have hz4 := hb4.size
          have hown4 := own_below hown hb4
          have HB4 := hid hb4
          clear hb4
          go_wp2_with (first
            | (at_builtin; refine wpList_append_lies _ rfl _ _ 62 rfl w2.heap.size 106 i0 (.agg #[.int .i64 0, .int .i64 0]) 2 16 Tryd.underlying62 hi hz0 hz1 hz2 rfl (by omega) _ _ _ rfl ((hown4.alloc _).alloc _) ⟨w4.heap.size + 1, 0, none⟩ 1 1 [.int .i64 (slo o), .int .i64 (shi o)] rfl rfl ?cN (two_ints _ _) (by omega) (by unfold maxLen; omega) (by omega) (by simp; omega) (w4.heap.size + 2) (by simp) ?_; rotate_right; intro g' cap' w5 hown5 hgrow hat hlt5))
          · have R := step_span (s := (slo o, shi o)) hown hbel (((HB4.out).alloc hz4 _).alloc (by simp; omega) _) hown5 hgrow
            clear hown5 hgrow hown hown4
            go_wp2
            go_roundw
            case rel => exact ⟨k + 1, _, by omega, by simp; omega, by go_num, R.1, R.2, HF⟩
            case measure => simp [intOf]; omega
          · exact news_span _ _ _ _ _
        · have hok : sok (altP d[k]) = false := by simpa using hok
          have HF : Hid (rangeP (tx s) = none) := by unfold Hid; rw [hall.out.2, rg_no d k acc hlt hok]
          rw [hok] at hh
          have HH := hid hh
          clear hall hok hh
          generalize altP d[k] = o at *
          generalize bs d[k] = q at *
          go_wp2_with fail
          refine (HH.out _).mono ?_
          rintro e w4 ⟨rfl, hb4⟩
          obtain ⟨hcc4, hff4⟩ := bcell hb4
          have hz4 := hb4.size
          have hR4 : w.heap.size < w4.heap.size := by omega
          have HB := hid (HB2.out.trans ((hbel.trans (hb4.mono hzr)).mono (by omega)) : Below w.heap.size w w4)
          clear hb4 hbel hown
          go_wp2
          refine bodyPost_ret (v := .tuple #[.agg #[.slice none 0 0], .bool false]) (by simp [results, Tryd.results31, go_sem, *]) rfl ⟨none, 0, 0, by rw [HF.out]; rfl, ?_, fun sp h => by rw [HF.out] at h; simp at h⟩
          exact Below.alloc (HB.out.setCell (Nat.le_refl _) _) (by simp; omega) _
      · have hkd : k = d.length := by omega
        have HF : Hid (rangeP (tx s) = some acc) := by unfold Hid; rw [hall.out.2, rg_end d k acc hlt]
        have hap : 0 < acc.length := by
          have := hall.out.1
          have := List.length_pos_iff.2 HN.out
          omega
        obtain ⟨gs, cs, rfl, hgs1, hgs2⟩ := form_any hown hap
        have HO := hid hown
        have HB := hid (HB2.out.trans (hbel.mono (by omega)) : Below w.heap.size w wr)
        clear hccr hffr hown hbel hall
        go_wp2
        refine bodyPost_ret (v := .tuple #[.agg #[.slice (some ⟨gs, 0, none⟩) acc.length cs], .bool true]) (by simp [results, Tryd.results31, go_sem, *]) rfl ⟨_, _, _, by rw [HF.out]; rfl, ?_, fun sp h => ?_⟩
        · exact HB.out.setCell (Nat.le_refl _) _
        · rw [HF.out] at h
          simp at h
          subst h
          exact own_mono (ownsRow_setCell_below HO.out hRz _) (by omega)
  · have HF : Hid (rangeP (tx s) = none) := by
      unfold Hid rangeP; rw [if_pos (by rw [tx_length]; omega)]
    go_enter Tryd.func31, Tryd.ntmps31
    go_wp2
    refine bodyPost_ret (v := .tuple #[.agg #[.slice none 0 0], .bool false]) (by simp [results, Tryd.results31, go_sem]) rfl ⟨none, 0, 0, by rw [HF.out]; rfl, ?_, fun sp h => by rw [HF.out] at h; simp at h⟩
    exact (Below.refl _ _).alloc (Nat.le_refl _) _

end Hst
end Go.Proofs.YtecocheolbkneaaDoor
namespace Go.Proofs.YtecocheolbkneaaDoor
open Go.RowKit
namespace Hst
set_option maxRecDepth 100000

theorem SpanRow.form {w : World} {base : Nat} {v : Value} {sp : List (Int × Int)} (h : SpanRow w base v sp) (hd : sp ≠ []) : ∃ g cap, v = .slice (some ⟨g, 0, none⟩) sp.length cap ∧ base ≤ g ∧ g < w.heap.size ∧ ∀ (j : Nat) (hj : j < sp.length), w.cell? ⟨g, j * 2, none⟩ = some (.int .i64 sp[j].1) ∧ w.cell? ⟨g, j * 2 + 1, none⟩ = some (.int .i64 sp[j].2) := by
  have hn : 0 < sp.length := List.length_pos_iff.2 hd
  obtain ⟨g, cap, rfl, h1, h2⟩ := form_any h hn
  refine ⟨g, cap, rfl, h1, h2, fun j hj => ?_⟩
  have e := spans_at sp j hj
  rw [World.ownsRow.cellAt h (j * 2) (by omega), World.ownsRow.cellAt h (j * 2 + 1) (by omega), Nat.mul_comm j 2]
  exact e
theorem SpanRow.below {w w' : World} {base : Nat} {v : Value} {sp : List (Int × Int)} (h : SpanRow w base v sp) (hb : Below w.heap.size w w') : SpanRow w' base v sp := own_below h hb

theorem fp_yes (sp : List (Int × Int)) (k : Nat) (n : Int) (hk : k < sp.length) (h1 : sp[k].1 ≤ n) (h2 : n ≤ sp[k].2) : fitsP (sp.drop k) n = true := by
  rw [List.drop_eq_getElem_cons hk]; unfold fitsP; rw [List.any_cons]; simp only [h1, h2, decide_true, Bool.and_self, Bool.true_or]
theorem fp_no (sp : List (Int × Int)) (k : Nat) (n : Int) (hk : k < sp.length) (h : ¬ (sp[k].1 ≤ n ∧ n ≤ sp[k].2)) : fitsP (sp.drop k) n = fitsP (sp.drop (k + 1)) n := by
  rw [List.drop_eq_getElem_cons hk]
  unfold fitsP
  rw [List.any_cons]
  have : (decide (sp[k].1 ≤ n) && decide (n ≤ sp[k].2)) = false := by simp; intro h1; omega
  rw [this, Bool.false_or]
theorem fp_end (sp : List (Int × Int)) (k : Nat) (n : Int) (hk : ¬ k < sp.length) : fitsP (sp.drop k) n = false := by
  rw [List.drop_of_length_le (by omega)]; rfl

set_option maxHeartbeats 1000000 in
theorem rfits_any (v : Value) (n : Int) (sp : List (Int × Int)) (base : Nat) (w : World) (hrow : SpanRow w base v sp) (hne : sp ≠ []) (hl : sp.length ≤ 1000) :
    Calls Tryd.prog 41 #[.agg #[v], .int .i64 n] w fun e w' => e = .returned (.bool (fitsP sp n)) ∧ Below w.heap.size w w' := by
  obtain ⟨g, cap, rfl, hg1, hg2, hcell⟩ := hrow.form hne
  have HC := hid hcell
  clear hcell hrow
  go_enter Tryd.func41, Tryd.ntmps41
  go_wp2
  go_loopw [10] (fun i wr => ∃ (k : Nat), k ≤ sp.length ∧ i = .int .i64 k ∧ Below w.heap.size w wr ∧ Hid (fitsP sp n = fitsP (sp.drop k) n)) (fun i _ => sp.length - (intOf i).toNat)
  case atStart => exact ⟨0, by omega, rfl, (Below.refl _ _).alloc (Nat.le_refl _) _, rfl⟩
  case round =>
    obtain ⟨k, hk, rfl, hbel, hall⟩ := hrel
    have hz := hbel.size
    by_cases hlt : k < sp.length
    · obtain ⟨c0, c1⟩ := HC.out k hlt
      have hc0 := (hbel.cell (p := ⟨g, k * 2, none⟩) hg2).trans c0
      have hc1 := (hbel.cell (p := ⟨g, k * 2 + 1, none⟩) hg2).trans c1
      clear c0 c1
      by_cases h1 : sp[k].1 ≤ n
      · by_cases h2 : n ≤ sp[k].2
        · have HF : Hid (fitsP sp n = true) := by unfold Hid; rw [hall.out, fp_yes sp k n hlt h1 h2]
          generalize sp[k].1 = x at *
          generalize sp[k].2 = y at *
          go_wp2
          go_ret
          exact ⟨ret_bool (by rw [HF.out]), hbel.alloc hz _⟩
        · have HF : Hid (fitsP sp n = fitsP (sp.drop (k + 1)) n) := by unfold Hid; rw [hall.out, fp_no sp k n hlt (by omega)]
          generalize sp[k].1 = x at *
          generalize sp[k].2 = y at *
          go_wp2
          go_roundw
          case rel => exact ⟨k + 1, by omega, by go_num, hbel.alloc hz _, HF⟩
          case measure => simp [intOf]; omega
      · have HF : Hid (fitsP sp n = fitsP (sp.drop (k + 1)) n) := by unfold Hid; rw [hall.out, fp_no sp k n hlt (by omega)]
        generalize sp[k].1 = x at *
        generalize sp[k].2 = y at *
        go_wp2
        go_roundw
        case rel => exact ⟨k + 1, by omega, by go_num, hbel.alloc hz _, HF⟩
        case measure => simp [intOf]; omega
    · have HF : Hid (fitsP sp n = false) := by unfold Hid; rw [hall.out, fp_end sp k n hlt]
      go_wp2
      go_ret
      exact ⟨ret_bool (by rw [HF.out]), hbel⟩


theorem rangeGo_len : ∀ (d : List Tx) (acc sp : List (Int × Int)), rangeGo acc d = some sp → sp.length = acc.length + d.length
  | [], acc, sp, h => by simp [rangeGo] at h; subst h; simp
  | a :: r, acc, sp, h => by
    simp only [rangeGo] at h
    rcases hp : altP a with _ | s
    · rw [hp] at h; simp at h
    · rw [hp] at h
      have := rangeGo_len r _ sp h
      simp at this ⊢; omega
theorem rangeP_len {l : Tx} {sp : List (Int × Int)} (h : rangeP l = some sp) : 0 < sp.length ∧ sp.length ≤ 61 := by
  unfold rangeP at h
  split at h
  · simp at h
  · have h1 := rangeGo_len _ _ _ h
    have h2 := splitL_len 124 l
    have h3 := List.length_pos_iff.2 (splitL_ne 124 l)
    simp at h1
    omega

set_option maxHeartbeats 1000000 in
theorem pfits_any (r v : ByteArray) (w : World) :
    Calls Tryd.prog 14 #[.string r, .string v] w fun e w' => e = .returned (.tuple #[.bool (fitsProg (tx r) (tx v)).1, .int .i64 (fitsProg (tx r) (tx v)).2]) ∧ Below w.heap.size w w' := by
  have HR := hid (fun w => rparse_any r w)
  have HV := hid (fun w => vparse_any v w)
  rcases hr : rangeP (tx r) with _ | sp
  · rw [fitsProg1 hr]
    rw [hr] at HR
    clear hr
    go_enter Tryd.func14, Tryd.ntmps14
    go_wp2_with fail
    refine (HR.out _).mono ?_
    rintro e w1 ⟨xa, xn, xc, rfl, hb1, hsp⟩
    simp only [rok, Option.isSome_none]
    have hz1 := hb1.size
    clear hsp
    go_wp2
    go_ret2
    exact ⟨rfl, hb1.alloc hz1 _⟩
  · have hlen := rangeP_len hr
    have hne : sp ≠ [] := List.length_pos_iff.1 hlen.1
    rw [hr] at HR
    rcases hv : versionP (tx v) with _ | n
    · rw [fitsProg2 hr hv]
      rw [hv] at HV
      clear hr hv
      go_enter Tryd.func14, Tryd.ntmps14
      go_wp2_with fail
      refine (HR.out _).mono ?_
      rintro e w1 ⟨xa, xn, xc, rfl, hb1, hsp⟩
      simp only [rok, Option.isSome_some]
      have hz1 := hb1.size
      clear hsp
      go_wp2_with fail
      refine (HV.out _).mono ?_
      rintro e w2 ⟨rfl, hb2⟩
      simp only [oks, ov, Option.isSome_none]
      go_wp2
      go_ret2
      exact ⟨rfl, (hb1.alloc hz1 _).trans (hb2.mono (by simp; omega))⟩
    · rw [fitsProg3 hr hv]
      rw [hv] at HV
      clear hr hv
      go_enter Tryd.func14, Tryd.ntmps14
      go_wp2_with fail
      refine (HR.out _).mono ?_
      rintro e w1 ⟨xa, xn, xc, rfl, hb1, hsp⟩
      simp only [rok, Option.isSome_some]
      have hz1 := hb1.size
      have HSP := hid (hsp sp rfl)
      clear hsp
      go_wp2_with fail
      refine (HV.out _).mono ?_
      rintro e w2 ⟨rfl, hb2⟩
      simp only [oks, ov, Option.isSome_some, Option.getD_some]
      have HSP2 := hid (SpanRow.below (SpanRow.below HSP.out ((Below.refl _ _).alloc (Nat.le_refl _) _)) hb2)
      have HB := hid ((hb1.alloc hz1 _).trans (hb2.mono (by simp; omega)) : Below w.heap.size w w2)
      obtain ⟨hcc, hff⟩ := bcell hb2
      have hz2 := hb2.size
      simp at hcc hz2
      clear hb2 hff
      go_wp2_with fail
      refine (rfits_any _ _ sp _ _ HSP2.out hne (by omega)).mono ?_
      rintro e w3 ⟨rfl, hb3⟩
      go_wp2
      go_ret2
      exact ⟨rfl, HB.out.trans (hb3.mono (by omega))⟩

end Hst
end Go.Proofs.YtecocheolbkneaaDoor
namespace Go.Proofs.YtecocheolbkneaaDoor
namespace Hst

theorem splitL_none : ∀ (n : Int) (l : Tx), (∀ b ∈ l, (b.toNat : Int) ≠ n) → splitL n l = [l]
  | n, [], _ => rfl
  | n, b :: r, h => by
    have ih := splitL_none n r (fun c hc => h c (by simp [hc]))
    simp only [splitL, if_neg (h b (by simp)), ih]
theorem splitL_cut : ∀ (n : Int) (l r : Tx) (m : UInt8), (∀ b ∈ l, (b.toNat : Int) ≠ n) → (m.toNat : Int) = n → splitL n (l ++ m :: r) = l :: splitL n r
  | n, [], r, m, _, hm => by simp [splitL, hm]
  | n, b :: l, r, m, h, hm => by
    have ih := splitL_cut n l r m (fun c hc => h c (by simp [hc])) hm
    simp only [List.cons_append, splitL, if_neg (h b (by simp)), ih]
theorem numT_bytes {k : Nat} (h : k < 100) : ∀ b ∈ numT k, 48 ≤ b.toNat ∧ b.toNat ≤ 57 := by
  intro b hb
  unfold numT at hb
  split at hb
  · simp only [List.mem_singleton] at hb
    subst hb
    have : (48 + k).toUInt8.toNat = 48 + k := by simp; omega
    omega
  · simp only [List.mem_cons, List.not_mem_nil, or_false] at hb
    rcases hb with rfl | rfl
    · have : (48 + k / 10).toUInt8.toNat = 48 + k / 10 := by simp; omega
      omega
    · have : (48 + k % 10).toUInt8.toNat = 48 + k % 10 := by simp; omega
      omega
theorem numT_ne {k : Nat} (h : k < 100) {n : Int} (hn : n < 48 ∨ 57 < n) : ∀ b ∈ numT k, (b.toNat : Int) ≠ n := by
  intro b hb
  have := numT_bytes h b hb
  omega
theorem partP_numT : ∀ k, k < 100 → partP (numT k) = some (k : Int) := by decide +kernel
theorem splitL_verT {a b c : Nat} (ha : a < 100) (hb : b < 100) (hc : c < 100) : splitL 46 (verT a b c) = [numT a, numT b, numT c] := by
  have e : verT a b c = numT a ++ 46 :: (numT b ++ 46 :: numT c) := by simp [verT]
  rw [e, splitL_cut 46 _ _ 46 (numT_ne ha (by omega)) (by rfl), splitL_cut 46 _ _ 46 (numT_ne hb (by omega)) (by rfl), splitL_none 46 _ (numT_ne hc (by omega))]
theorem versionP_verT {a b c : Nat} (ha : a < 100) (hb : b < 100) (hc : c < 100) : versionP (verT a b c) = some (((a : Int) * 100 + b) * 100 + c) := by
  unfold versionP
  have hl := verT_len a b c
  rw [if_neg (by omega), splitL_verT ha hb hc, if_neg (by simp)]
  simp [verGo, partP_numT a ha, partP_numT b hb, partP_numT c hc]
theorem verT_bytes {a b c : Nat} (ha : a < 100) (hb : b < 100) (hc : c < 100) : ∀ x ∈ verT a b c, 46 ≤ x.toNat ∧ x.toNat ≤ 57 := by
  intro x hx
  simp only [verT, List.mem_append, List.mem_singleton] at hx
  rcases hx with (((hx | rfl) | hx) | rfl) | hx
  · have := numT_bytes ha x hx; omega
  · decide
  · have := numT_bytes hb x hx; omega
  · decide
  · have := numT_bytes hc x hx; omega

/-- A range of one condition. -/
theorem rangeP_one {l : Tx} {s : Int × Int} (h60 : l.length ≤ 60) (h1 : ∀ b ∈ l, (b.toNat : Int) ≠ 124) (h2 : ∀ b ∈ l, (b.toNat : Int) ≠ 38) (hc : condP l = some s) (h0 : 0 ≤ s.1) (h9 : s.2 ≤ 999999) : rangeP l = some [s] := by
  unfold rangeP
  rw [if_neg (by omega), splitL_none 124 l h1]
  have ha : altP l = some s := by
    unfold altP
    rw [splitL_none 38 l h2]
    simp only [altGo, hc]
    congr 1
    have e1 : mx 0 s.1 = s.1 := by unfold mx; split <;> omega
    have e2 : mn 999999 s.2 = s.2 := by unfold mn; split <;> omega
    rw [e1, e2]
  simp [rangeGo, ha]
theorem fits_one {l v : Tx} {s : Int × Int} {n : Int} (h60 : l.length ≤ 60) (h1 : ∀ b ∈ l, (b.toNat : Int) ≠ 124) (h2 : ∀ b ∈ l, (b.toNat : Int) ≠ 38) (hc : condP l = some s) (h0 : 0 ≤ s.1) (h9 : s.2 ≤ 999999) (hv : versionP v = some n) : fitsProg l v = (inSpan s n, 0) := by
  rw [fitsProg3 (rangeP_one h60 h1 h2 hc h0 h9) hv]
  simp [fitsP, inSpan]
/-- A sign and a written version are a condition. -/
theorem cond_signed {sg : Tx} (hs : IsSign sg) {a b c : Nat} (ha : a < 100) (hb : b < 100) (hc : c < 100) : condP (sg ++ verT a b c) = spanOfP sg (((a : Int) * 100 + b) * 100 + c) :=
  CondIs.condP ⟨rfl, hs, versionP_verT ha hb hc⟩
theorem sign_bytes {sg : Tx} (hs : IsSign sg) : sg.length ≤ 2 ∧ ∀ b ∈ sg, (b.toNat : Int) ≠ 124 ∧ (b.toNat : Int) ≠ 38 := by
  rcases hs with h | h | h | h | h | h | h <;> subst h <;> exact ⟨by simp, by decide⟩
theorem fits_signed {sg : Tx} (hs : IsSign sg) {a b c : Nat} (ha : a < 100) (hb : b < 100) (hc : c < 100) {s : Int × Int} (he : spanOfP sg (((a : Int) * 100 + b) * 100 + c) = some s) (h0 : 0 ≤ s.1) (h9 : s.2 ≤ 999999) {v : Tx} {n : Int} (hv : versionP v = some n) :
    fitsProg (sg ++ verT a b c) v = (inSpan s n, 0) := by
  have hb' := verT_bytes ha hb hc
  have hsb := sign_bytes hs
  have hl := verT_len a b c
  refine fits_one (by simp; omega) ?_ ?_ ((cond_signed hs ha hb hc).trans he) h0 h9 hv
  · intro x hx
    simp only [List.mem_append] at hx
    rcases hx with hx | hx
    · exact (hsb.2 x hx).1
    · have := hb' x hx; omega
  · intro x hx
    simp only [List.mem_append] at hx
    rcases hx with hx | hx
    · exact (hsb.2 x hx).2
    · have := hb' x hx; omega
theorem fits_star {v : Tx} {n : Int} (hv : versionP v = some n) : fitsProg [42] v = (true, 0) := by
  have hn : (versionR v).2 = true ∧ n = place (versionR v).1 := versionP_some hv
  have := place_bd (versionR_valid v hn.1)
  rw [fits_one (s := (0, 999999)) (by simp) (by decide) (by decide) (by simp [condP]) (by simp) (by simp) hv]
  simp [inSpan]
  omega

end Hst
end Go.Proofs.YtecocheolbkneaaDoor
namespace Go.Proofs.YtecocheolbkneaaDoor
namespace Hst

def afterR (v : V3) : V3 × Bool := if v.c < 99 then (⟨v.a, v.b, v.c + 1⟩, true) else if v.b < 99 then (⟨v.a, v.b + 1, 0⟩, true) else if v.a < 99 then (⟨v.a + 1, 0, 0⟩, true) else (v, false)
def ptsC (c : Tx) : List V3 := if (versionR (signedR c).2).2 = true then
    (versionR (signedR c).2).1 :: (if (afterR (versionR (signedR c).2).1).2 = true then [(afterR (versionR (signedR c).2).1).1] else [])
  else []
def ptsA (a : Tx) : List V3 := (splitL 38 a).flatMap ptsC
def pointsR (l : Tx) : List V3 := [⟨0, 0, 0⟩] ++ (splitL 124 l).flatMap ptsA
def meetP (sp sq : List (Int × Int)) : Bool := sp.any fun s => sq.any fun t => !decide (mn s.2 t.2 < mx s.1 t.1)
def meetR (one other : Tx) : Bool := (pointsR one ++ pointsR other).any fun p => fitR one p && fitR other p

end Hst
end Go.Proofs.YtecocheolbkneaaDoor
namespace Go.Proofs.YtecocheolbkneaaDoor
namespace Hst

theorem after_yes {v : V3} (h : Valid v) (hm : (afterR v).2 = true) : Valid (afterR v).1 ∧ place (afterR v).1 = place v + 1 := by
  obtain ⟨h1, h2, h3, h4, h5, h6⟩ := h
  unfold afterR at hm ⊢
  by_cases c1 : v.c < 99
  · rw [if_pos c1]
    exact ⟨⟨h1, h2, h3, h4, by simp; omega, by simp; omega⟩, by simp only [place]; omega⟩
  · by_cases c2 : v.b < 99
    · rw [if_neg c1, if_pos c2]
      exact ⟨⟨h1, h2, by simp; omega, by simp; omega, by simp, by simp⟩, by simp only [place]; omega⟩
    · by_cases c3 : v.a < 99
      · rw [if_neg c1, if_neg c2, if_pos c3]
        exact ⟨⟨by simp; omega, by simp; omega, by simp, by simp, by simp, by simp⟩, by simp only [place]; omega⟩
      · rw [if_neg c1, if_neg c2, if_neg c3] at hm
        simp at hm
theorem after_no {v : V3} (h : Valid v) (hm : (afterR v).2 = false) : place v = 999999 := by
  obtain ⟨h1, h2, h3, h4, h5, h6⟩ := h
  unfold afterR at hm
  by_cases c1 : v.c < 99
  · rw [if_pos c1] at hm; simp at hm
  · by_cases c2 : v.b < 99
    · rw [if_neg c1, if_pos c2] at hm; simp at hm
    · by_cases c3 : v.a < 99
      · rw [if_neg c1, if_neg c2, if_pos c3] at hm; simp at hm
      · unfold place; omega
theorem ptsC_valid {c : Tx} {p : V3} (h : p ∈ ptsC c) : Valid p := by
  unfold ptsC at h
  split at h
  · rename_i hv
    have hw := versionR_valid _ hv
    simp only [List.mem_cons] at h
    rcases h with rfl | h
    · exact hw
    · split at h
      · rename_i hm
        simp at h
        subst h
        exact (after_yes hw hm).1
      · simp at h
  · simp at h
theorem zero_valid : Valid ⟨0, 0, 0⟩ := ⟨by simp, by simp, by simp, by simp, by simp, by simp⟩
theorem pointsR_valid {l : Tx} {p : V3} (h : p ∈ pointsR l) : Valid p := by
  unfold pointsR at h
  simp only [List.mem_append, List.mem_singleton, List.mem_flatMap] at h
  rcases h with rfl | ⟨a, _, h⟩
  · exact zero_valid
  · unfold ptsA at h
    simp only [List.mem_flatMap] at h
    obtain ⟨c, _, h⟩ := h
    exact ptsC_valid h

theorem pts_self {c sg rest : Tx} (hd : signedR c = (sg, rest)) (hv : (versionR rest).2 = true) : (versionR rest).1 ∈ ptsC c := by
  unfold ptsC
  rw [hd, if_pos hv]
  simp
theorem pts_next {c sg rest : Tx} (hd : signedR c = (sg, rest)) (hv : (versionR rest).2 = true) (hm : (afterR (versionR rest).1).2 = true) : (afterR (versionR rest).1).1 ∈ ptsC c := by
  unfold ptsC
  rw [hd, if_pos hv, if_pos hm]
  simp

theorem cond_low {c : Tx} {s : Int × Int} (h : condP c = some s) (hs : s.1 ≤ 999999) : s.1 = 0 ∨ ∃ p ∈ ptsC c, place p = s.1 := by
  by_cases h42 : c = [42]
  · subst h42
    simp [condP] at h
    subst h
    exact .inl rfl
  · obtain ⟨sg, rest, n, hc⟩ := condIs_of_span h42 h
    obtain ⟨hv, rfl⟩ := versionP_some hc.ver
    have hw := versionR_valid rest hv
    have hd := hc.signed
    rw [hc.condP] at h
    have same : s.1 = place (versionR rest).1 → s.1 = 0 ∨ ∃ p ∈ ptsC c, place p = s.1 := fun e => .inr ⟨_, pts_self hd hv, e.symm⟩
    rcases hc.sign with e | e | e | e | e | e | e <;> subst e <;> simp [spanOfP] at h <;> subst h
    · exact same rfl
    · simp only at hs ⊢
      rcases hm : (afterR (versionR rest).1).2 with _ | _
      · have := after_no hw hm; omega
      · exact .inr ⟨_, pts_next hd hv hm, (after_yes hw hm).2⟩
    · exact same rfl
    · exact .inl rfl
    · exact .inl rfl
    · exact same rfl
    · exact same rfl

theorem alt_low : ∀ (d : List Tx) (lo hi : Int) (s : Int × Int), altGo lo hi d = some s → (s.1 = lo ∨ ∃ c ∈ d, ∃ x, condP c = some x ∧ x.1 = s.1) ∧ s.2 ≤ hi
  | [], lo, hi, s, h => by simp [altGo] at h; subst h; exact ⟨.inl rfl, Int.le_refl _⟩
  | c :: r, lo, hi, s, h => by
    simp only [altGo] at h
    rcases hc : condP c with _ | x
    · rw [hc] at h; simp at h
    · rw [hc] at h
      have ih := alt_low r _ _ s h
      refine ⟨?_, ?_⟩
      · rcases ih.1 with e | ⟨c', h1, x', h2, h3⟩
        · unfold mx at e
          split at e
          · exact .inr ⟨c, by simp, x, hc, e.symm⟩
          · exact .inl e
        · exact .inr ⟨c', by simp [h1], x', h2, h3⟩
      · exact ((le_mn hi x.2 s.2).1 ih.2).1
theorem altP_low {l : Tx} {s : Int × Int} (h : altP l = some s) : s.2 ≤ 999999 ∧ (s.1 ≤ 999999 → s.1 = 0 ∨ ∃ p ∈ ptsA l, place p = s.1) := by
  have hl := alt_low _ _ _ _ h
  refine ⟨hl.2, fun hs => ?_⟩
  rcases hl.1 with e | ⟨c, h1, x, h2, h3⟩
  · exact .inl e
  · rcases cond_low h2 (by omega) with e | ⟨p, hp, e⟩
    · exact .inl (by omega)
    · refine .inr ⟨p, ?_, by omega⟩
      unfold ptsA
      exact List.mem_flatMap.2 ⟨c, h1, hp⟩
theorem range_low : ∀ (d : List Tx) (acc sp : List (Int × Int)), rangeGo acc d = some sp → ∀ s ∈ sp, s ∈ acc ∨ ∃ a ∈ d, altP a = some s
  | [], acc, sp, h, s, hs => by simp [rangeGo] at h; subst h; exact .inl hs
  | a :: r, acc, sp, h, s, hs => by
    simp only [rangeGo] at h
    rcases ha : altP a with _ | x
    · rw [ha] at h; simp at h
    · rw [ha] at h
      rcases range_low r _ sp h s hs with e | ⟨b, h1, h2⟩
      · simp at e
        rcases e with e | rfl
        · exact .inl e
        · exact .inr ⟨a, by simp, ha⟩
      · exact .inr ⟨b, by simp [h1], h2⟩
/-- Where a span of a range begins there is a point. -/
theorem rangeP_low {l : Tx} {sp : List (Int × Int)} (h : rangeP l = some sp) {s : Int × Int} (hs : s ∈ sp) : s.2 ≤ 999999 ∧ (s.1 ≤ 999999 → ∃ p ∈ pointsR l, place p = s.1) := by
  unfold rangeP at h
  split at h
  · simp at h
  · rcases range_low _ _ _ h s hs with e | ⟨a, h1, h2⟩
    · simp at e
    · have hl := altP_low h2
      refine ⟨hl.1, fun hs => ?_⟩
      rcases hl.2 hs with e | ⟨p, hp, e⟩
      · exact ⟨⟨0, 0, 0⟩, by simp [pointsR], by rw [e]; rfl⟩
      · refine ⟨p, ?_, e⟩
        unfold pointsR
        simp only [List.mem_append, List.mem_flatMap]
        exact .inr ⟨a, h1, hp⟩

theorem fitsP_of {sp : List (Int × Int)} {s : Int × Int} {p : Int} (hs : s ∈ sp) (h1 : s.1 ≤ p) (h2 : p ≤ s.2) : fitsP sp p = true := by
  unfold fitsP
  rw [List.any_eq_true]
  exact ⟨s, hs, by simp [h1, h2]⟩
theorem of_fitsP {sp : List (Int × Int)} {p : Int} (h : fitsP sp p = true) : ∃ s ∈ sp, s.1 ≤ p ∧ p ≤ s.2 := by
  unfold fitsP at h
  rw [List.any_eq_true] at h
  obtain ⟨s, hs, h⟩ := h
  simp at h
  exact ⟨s, hs, h⟩

theorem meet_law {r s : Tx} {sp sq : List (Int × Int)} (h1 : rangeP r = some sp) (h2 : rangeP s = some sq) (f1 : ∀ v, Valid v → fitR r v = fitsP sp (place v)) (f2 : ∀ v, Valid v → fitR s v = fitsP sq (place v)) : meetR r s = meetP sp sq := by
  rw [Bool.eq_iff_iff]
  constructor
  · intro h
    unfold meetR at h
    rw [List.any_eq_true] at h
    obtain ⟨p, hp, h⟩ := h
    have hv : Valid p := by
      simp only [List.mem_append] at hp
      rcases hp with hp | hp <;> exact pointsR_valid hp
    rw [Bool.and_eq_true, f1 p hv, f2 p hv] at h
    obtain ⟨x, hx, a1, a2⟩ := of_fitsP h.1
    obtain ⟨y, hy, b1, b2⟩ := of_fitsP h.2
    unfold meetP
    rw [List.any_eq_true]
    refine ⟨x, hx, ?_⟩
    rw [List.any_eq_true]
    refine ⟨y, hy, ?_⟩
    have e1 := (mx_le x.1 y.1 (place p)).2 ⟨a1, b1⟩
    have e2 := (le_mn x.2 y.2 (place p)).2 ⟨a2, b2⟩
    simp
    omega
  · intro h
    unfold meetP at h
    rw [List.any_eq_true] at h
    obtain ⟨x, hx, h⟩ := h
    rw [List.any_eq_true] at h
    obtain ⟨y, hy, h⟩ := h
    simp at h
    have e1 := (mx_le x.1 y.1 (mx x.1 y.1)).1 (Int.le_refl _)
    have e2 := (le_mn x.2 y.2 (mn x.2 y.2)).1 (Int.le_refl _)
    have l1 := rangeP_low h1 hx
    have l2 := rangeP_low h2 hy
    have key : ∃ p, p ∈ pointsR r ++ pointsR s ∧ Valid p ∧ place p = mx x.1 y.1 := by
      have hm : mx x.1 y.1 = x.1 ∨ mx x.1 y.1 = y.1 := by unfold mx; split <;> simp
      rcases hm with hm | hm
      · obtain ⟨p, hp, e⟩ := l1.2 (by omega)
        exact ⟨p, List.mem_append.2 (.inl hp), pointsR_valid hp, by omega⟩
      · obtain ⟨p, hp, e⟩ := l2.2 (by omega)
        exact ⟨p, List.mem_append.2 (.inr hp), pointsR_valid hp, by omega⟩
    obtain ⟨p, hp, hv, e⟩ := key
    unfold meetR
    rw [List.any_eq_true]
    refine ⟨p, hp, ?_⟩
    rw [Bool.and_eq_true, f1 p hv, f2 p hv]
    exact ⟨fitsP_of hx (by omega) (by omega), fitsP_of hy (by omega) (by omega)⟩

end Hst
end Go.Proofs.YtecocheolbkneaaDoor
