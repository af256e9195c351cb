/- ranges.Parse. -/
import Derived.Test.YtkcgbikgblkpjaaDoorAlt
namespace Go.Proofs.YtkcgbikgblkpjaaDoor
open Go.RowKit
namespace Hst

theorem info_span : (Tryd.prog.info? 61).map (fun i => (i.zero, i.size, i.bytes)) = some (some (.agg #[.int .i64 0, .int .i64 0]), 2, 16) := by kernel_rfl

/-- The cells of some spans. -/
def spans (sp : List (Int × Int)) : List Value := sp.flatMap fun s => [Value.int .i64 s.1, Value.int .i64 s.2]
theorem spans_snoc (sp : List (Int × Int)) (s : Int × Int) : spans sp ++ [Value.int .i64 s.1, Value.int .i64 s.2] = spans (sp ++ [s]) := by simp [spans]
theorem spans_at : ∀ (sp : List (Int × Int)) (j : Nat) (hj : j < sp.length), (spans sp)[2 * j]? = some (Value.int .i64 sp[j].1) ∧ (spans sp)[2 * j + 1]? = some (Value.int .i64 sp[j].2)
  | [], j, hj => by simp at hj
  | s :: r, 0, _ => by simp [spans]
  | s :: r, j + 1, hj => by
    have ih := spans_at r j (by simpa using hj)
    have e1 : 2 * (j + 1) = 2 * j + 1 + 1 := by omega
    simp only [spans, List.flatMap_cons, List.cons_append, List.nil_append, e1, List.getElem?_cons_succ, List.getElem_cons_succ] at ih ⊢
    exact ih
/-- The row of spans that a call has made. -/
def SpanRow (w : World) (base : Nat) (v : Value) (sp : List (Int × Int)) : Prop := w.ownsRow base 61 2 v sp.length (spans sp)

theorem own_below {w w' : World} {base e size n : Nat} {v : Value} {xs : List Value} (h : w.ownsRow base e size v n xs) (hb : Below w.heap.size w w') : w'.ownsRow base e size v n xs := by
  obtain ⟨h1, h2⟩ := h
  refine ⟨h1, ?_⟩
  rcases h2 with h2 | ⟨g, cap, cur, hv, hg, hh, r⟩
  · exact .inl h2
  · exact .inr ⟨g, cap, cur, hv, hg, by rw [hb.block g (lt_of_block hh)]; exact hh, r⟩
theorem form_any {w : World} {base n size : Nat} {v : Value} {xs : List Value} {e : Nat} (h : w.ownsRow base e size v n xs) (hn : 0 < n) : ∃ g cap, v = .slice (some ⟨g, 0, none⟩) n cap ∧ base ≤ g ∧ g < w.heap.size := by
  obtain ⟨h1, h2⟩ := h
  rcases h2 with ⟨rfl, h2⟩ | ⟨g, cap, cur, hv, hg, hh, r⟩
  · omega
  · exact ⟨g, cap, hv, hg, lt_of_block hh⟩
theorem own_mono {w : World} {base base' e size n : Nat} {v : Value} {xs : List Value} (h : w.ownsRow base e size v n xs) (hb : base' ≤ base) : w.ownsRow base' e size v n xs := by
  obtain ⟨h1, h2⟩ := h
  refine ⟨h1, ?_⟩
  rcases h2 with h2 | ⟨g, cap, cur, hv, hg, r⟩
  · exact .inl h2
  · exact .inr ⟨g, cap, cur, hv, by omega, r⟩

theorem rg_yes (d : List Tx) (k : Nat) (acc : List (Int × Int)) (hk : k < d.length) (h : sok (altP d[k]) = true) : rangeGo acc (d.drop k) = rangeGo (acc ++ [(slo (altP d[k]), shi (altP d[k]))]) (d.drop (k + 1)) := by
  rw [List.drop_eq_getElem_cons hk]
  rcases hp : altP d[k] with _ | n
  · rw [hp] at h; simp [sok] at h
  · simp [rangeGo, hp, slo, shi]
theorem rg_no (d : List Tx) (k : Nat) (acc : List (Int × Int)) (hk : k < d.length) (h : sok (altP d[k]) = false) : rangeGo acc (d.drop k) = none := by
  rw [List.drop_eq_getElem_cons hk]
  rcases hp : altP d[k] with _ | n
  · simp [rangeGo, hp]
  · rw [hp] at h; simp [sok] at h
theorem rg_end (d : List Tx) (k : Nat) (acc : List (Int × Int)) (hk : ¬ k < d.length) : rangeGo acc (d.drop k) = some acc := by
  rw [List.drop_of_length_le (by omega)]; rfl
def rok (o : Option (List (Int × Int))) : Bool := o.isSome
theorem two_ints (a b : Int) : ∀ u ∈ [Value.int .i64 a, Value.int .i64 b], u.oneCell' = true := by intro u hu; simp at hu; rcases hu with rfl | rfl <;> rfl

theorem news_span (w : World) (o1 : Obj) (a b : Value) (t : TypeId) : ∀ j u, [a, b][j]? = some u → ((w.alloc o1).alloc (.cells #[a, b] t)).cell? ((⟨w.heap.size + 1, 0, none⟩ : Addr).add j) = some u := by
  intro j u hu
  have h := World.news_of_block (heap_alloc_new (w.alloc o1) (.cells #[a, b] t)) j u (by simpa using hu)
  simpa using h

/-- One span more. -/
theorem step_span {W w w1 wr : World} {v : Value} {acc : List (Int × Int)} {s : Int × Int} {g cap : Nat} (hown : wr.ownsRow w.heap.size 61 2 v acc.length (spans acc)) (hbel : Below w.heap.size w wr) (hb4 : Below wr.heap.size wr W)
    (hown1 : w1.ownsRow w.heap.size 61 2 (.slice (some ⟨g, 0, none⟩) (acc.length + 1) cap) (acc.length + 1) (spans acc ++ [Value.int .i64 s.1, Value.int .i64 s.2])) (hgrow : W.grownBy w1 v.ownBlock) :
    w1.ownsRow w.heap.size 61 2 (.slice (some ⟨g, 0, none⟩) (acc.length + 1) cap) (acc ++ [s]).length (spans (acc ++ [s])) ∧ Below w.heap.size w w1 := by
  have hz := hbel.size
  refine ⟨?_, ?_⟩
  · rw [spans_snoc] at hown1
    simpa using hown1
  · exact (hbel.trans (hb4.mono hz)).grown hgrow (Nat.le_trans hz hb4.size) (fun k hk => (hown.lt k hk).1)

set_option maxHeartbeats 1000000 in
theorem rparse_any (s : ByteArray) (w : World) :
    Calls Tryd.prog 14 #[.string s] w fun e w' => ∃ a n c, e = .returned (.tuple #[.agg #[.slice a n c], .bool (rok (rangeP (tx s)))]) ∧ Below w.heap.size w w' ∧ ∀ sp, rangeP (tx s) = some sp → SpanRow w' w.heap.size (.slice a n c) sp := by
  by_cases h60 : s.size ≤ 60
  · obtain ⟨i0, hi, hz0, hz1, hz2⟩ := info_parts info_span
    have HP : Hid (rangeP (tx s) = rangeGo [] (splitL 124 (tx s))) := by
      unfold Hid rangeP; rw [if_neg (by rw [tx_length]; omega)]
    go_enter Tryd.func14, Tryd.ntmps14
    go_wp2_with fail
    refine (psplit_any s 124 _ (by omega)).mono ?_
    rintro e w2 ⟨v, rfl, hrow, hb2⟩
    obtain ⟨g, cap, rfl, hg1, hg2, hcell⟩ := hrow.form (splitL_ne _ _)
    have hne := splitL_ne 124 (tx s)
    have hps : ∀ j (hj : j < (splitL 124 (tx s)).length), (bs (splitL 124 (tx s))[j]).size ≤ 100 := fun j hj => by have := piece_size 124 s j hj; omega
    have hlen := splitL_len 124 (tx s)
    rw [tx_length] at hlen
    generalize splitL 124 (tx s) = d at *
    have hz2' := hb2.size
    obtain ⟨hcc2, hff2⟩ := bcell hb2
    simp at hz2' hcc2 hff2 hg1
    have hR := hcc2 w.heap.size 0 (by omega)
    have hRf := hff2 w.heap.size 0 (by omega)
    simp at hR hRf
    have HB2 := hid (((Below.refl _ _).alloc (Nat.le_refl _) _).trans (hb2.mono (by simp)) : Below w.heap.size w w2)
    have HC := hid hcell; have HS := hid hps; have HN := hid hne
    have hRz : w.heap.size < w2.heap.size := by omega
    clear hcell hps hrow hb2 hcc2 hff2 hne
    go_wp2
    go_loopw [4, 16] (fun v i wr => ∃ (k : Nat) (acc : List (Int × Int)), k ≤ d.length ∧ acc.length ≤ k ∧ i = .int .i64 k ∧ wr.ownsRow w2.heap.size 61 2 v acc.length (spans acc) ∧ Below w2.heap.size w2 wr ∧ Hid (acc.length = k ∧ rangeP (tx s) = rangeGo acc (d.drop k))) (fun _ i _ => d.length - (intOf i).toNat)
    case atStart => exact ⟨0, [], by omega, by simp, rfl, World.ownsRow_nil _ _ _ _, Below.refl _ _, ⟨rfl, by rw [HP.out]; rfl⟩⟩
    case round =>
      obtain ⟨k, acc, hk, hacc, rfl, hown, hbel, hall⟩ := hrel
      obtain ⟨hccr, hffr⟩ := bcell hbel
      have hzr := hbel.size
      have hRr : w.heap.size < wr.heap.size := by omega
      have hgr : g < wr.heap.size := by omega
      have hR' := (hccr w.heap.size 0 hRz).trans hR
      have hRf' := (hffr w.heap.size 0 hRz).trans hRf
      clear HP
      by_cases hlt : k < d.length
      · have hc : wr.cell? ⟨g, k, none⟩ = some (.string (bs d[k])) := by rw [hccr _ _ hg2]; exact HC.out k hlt
        have hh := fun w => palt_any (bs d[k]) w (HS.out k hlt)
        rw [tx_bs] at hh
        clear hccr hffr hR hRf
        by_cases hok : sok (altP d[k]) = true
        · have HF : Hid ((acc ++ [(slo (altP d[k]), shi (altP d[k]))]).length = k + 1 ∧ rangeP (tx s) = rangeGo (acc ++ [(slo (altP d[k]), shi (altP d[k]))]) (d.drop (k + 1))) := ⟨by simp [hall.out.1], by rw [hall.out.2, rg_yes d k acc hlt hok]⟩
          rw [hok] at hh
          have HH := hid hh
          clear hall hok hh
          generalize altP d[k] = o at *
          generalize bs d[k] = q at *
          go_wp2_with fail
          refine (HH.out _).mono ?_
          rintro e w4 ⟨rfl, hb4⟩
          have hz4 := hb4.size
          have hown4 := own_below hown hb4
          have HB4 := hid hb4
          clear hb4
          go_wp2_with (first
            | (at_builtin; refine wpList_append_lies _ rfl _ _ 38 rfl w2.heap.size 61 i0 (.agg #[.int .i64 0, .int .i64 0]) 2 16 Tryd.underlying38 hi hz0 hz1 hz2 rfl (by omega) _ _ _ rfl ((hown4.alloc _).alloc _) ⟨w4.heap.size + 1, 0, none⟩ 1 1 [.int .i64 (slo o), .int .i64 (shi o)] rfl rfl ?cN (two_ints _ _) (by omega) (by unfold maxLen; omega) (by omega) (by simp; omega) (w4.heap.size + 2) (by simp) ?_; rotate_right; intro g' cap' w5 hown5 hgrow hat hlt5))
          · have R := step_span (s := (slo o, shi o)) hown hbel (((HB4.out).alloc hz4 _).alloc (by simp; omega) _) hown5 hgrow
            clear hown5 hgrow hown hown4
            go_wp2
            go_roundw
            case rel => exact ⟨k + 1, _, by omega, by simp; omega, by go_num, R.1, R.2, HF⟩
            case measure => simp [intOf]; omega
          · exact news_span _ _ _ _ _
        · have hok : sok (altP d[k]) = false := by simpa using hok
          have HF : Hid (rangeP (tx s) = none) := by unfold Hid; rw [hall.out.2, rg_no d k acc hlt hok]
          rw [hok] at hh
          have HH := hid hh
          clear hall hok hh
          generalize altP d[k] = o at *
          generalize bs d[k] = q at *
          go_wp2_with fail
          refine (HH.out _).mono ?_
          rintro e w4 ⟨rfl, hb4⟩
          obtain ⟨hcc4, hff4⟩ := bcell hb4
          have hz4 := hb4.size
          have hR4 : w.heap.size < w4.heap.size := by omega
          have HB := hid (HB2.out.trans ((hbel.trans (hb4.mono hzr)).mono (by omega)) : Below w.heap.size w w4)
          clear hb4 hbel hown
          go_wp2
          refine bodyPost_ret (v := .tuple #[.agg #[.slice none 0 0], .bool false]) (by simp [results, Tryd.results14, go_sem, *]) rfl ⟨none, 0, 0, by rw [HF.out]; rfl, ?_, fun sp h => by rw [HF.out] at h; simp at h⟩
          exact Below.alloc (HB.out.setCell (Nat.le_refl _) _) (by simp; omega) _
      · have hkd : k = d.length := by omega
        have HF : Hid (rangeP (tx s) = some acc) := by unfold Hid; rw [hall.out.2, rg_end d k acc hlt]
        have hap : 0 < acc.length := by
          have := hall.out.1
          have := List.length_pos_iff.2 HN.out
          omega
        obtain ⟨gs, cs, rfl, hgs1, hgs2⟩ := form_any hown hap
        have HO := hid hown
        have HB := hid (HB2.out.trans (hbel.mono (by omega)) : Below w.heap.size w wr)
        clear hccr hffr hown hbel hall
        go_wp2
        refine bodyPost_ret (v := .tuple #[.agg #[.slice (some ⟨gs, 0, none⟩) acc.length cs], .bool true]) (by simp [results, Tryd.results14, go_sem, *]) rfl ⟨_, _, _, by rw [HF.out]; rfl, ?_, fun sp h => ?_⟩
        · exact HB.out.setCell (Nat.le_refl _) _
        · rw [HF.out] at h
          simp at h
          subst h
          exact own_mono (ownsRow_setCell_below HO.out hRz _) (by omega)
  · have HF : Hid (rangeP (tx s) = none) := by
      unfold Hid rangeP; rw [if_pos (by rw [tx_length]; omega)]
    go_enter Tryd.func14, Tryd.ntmps14
    go_wp2
    refine bodyPost_ret (v := .tuple #[.agg #[.slice none 0 0], .bool false]) (by simp [results, Tryd.results14, go_sem]) rfl ⟨none, 0, 0, by rw [HF.out]; rfl, ?_, fun sp h => by rw [HF.out] at h; simp at h⟩
    exact (Below.refl _ _).alloc (Nat.le_refl _) _

end Hst
end Go.Proofs.YtkcgbikgblkpjaaDoor
