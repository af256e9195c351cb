/- Rparse, Rfits, Pdefs, Mord -/
import Derived.Test.YtecocheolbkneaaDoorW03
import Derived.Test.YtecocheolbkneaaDoorW02
namespace Go.Proofs.YtecocheolbkneaaDoor
open Go.RowKit
namespace Hst
set_option maxRecDepth 100000

theorem info_span : (Tryd.prog.info? 106).map (fun i => (i.zero, i.size, i.bytes)) = some (some (.agg #[.int .i64 0, .int .i64 0]), 2, 16) := by kernel_rfl

/-- The cells of some spans. -/
def spans (sp : List (Int × Int)) : List Value := sp.flatMap fun s => [Value.int .i64 s.1, Value.int .i64 s.2]
theorem spans_snoc (sp : List (Int × Int)) (s : Int × Int) : spans sp ++ [Value.int .i64 s.1, Value.int .i64 s.2] = spans (sp ++ [s]) := by simp [spans]
theorem spans_at : ∀ (sp : List (Int × Int)) (j : Nat) (hj : j < sp.length), (spans sp)[2 * j]? = some (Value.int .i64 sp[j].1) ∧ (spans sp)[2 * j + 1]? = some (Value.int .i64 sp[j].2)
  | [], j, hj => by simp at hj
  | s :: r, 0, _ => by simp [spans]
  | s :: r, j + 1, hj => by
    have ih := spans_at r j (by simpa using hj)
    have e1 : 2 * (j + 1) = 2 * j + 1 + 1 := by omega
    simp only [spans, List.flatMap_cons, List.cons_append, List.nil_append, e1, List.getElem?_cons_succ, List.getElem_cons_succ] at ih ⊢
    exact ih
/-- The row of spans that a call has made. -/
def SpanRow (w : World) (base : Nat) (v : Value) (sp : List (Int × Int)) : Prop := w.ownsRow base 106 2 v sp.length (spans sp)

theorem own_below {w w' : World} {base e size n : Nat} {v : Value} {xs : List Value} (h : w.ownsRow base e size v n xs) (hb : Below w.heap.size w w') : w'.ownsRow base e size v n xs := by
  obtain ⟨h1, h2⟩ := h
  refine ⟨h1, ?_⟩
  rcases h2 with h2 | ⟨g, cap, cur, hv, hg, hh, r⟩
  · exact .inl h2
  · exact .inr ⟨g, cap, cur, hv, hg, by rw [hb.block g (lt_of_block hh)]; exact hh, r⟩
theorem form_any {w : World} {base n size : Nat} {v : Value} {xs : List Value} {e : Nat} (h : w.ownsRow base e size v n xs) (hn : 0 < n) : ∃ g cap, v = .slice (some ⟨g, 0, none⟩) n cap ∧ base ≤ g ∧ g < w.heap.size := by
  obtain ⟨h1, h2⟩ := h
  rcases h2 with ⟨rfl, h2⟩ | ⟨g, cap, cur, hv, hg, hh, r⟩
  · omega
  · exact ⟨g, cap, hv, hg, lt_of_block hh⟩
theorem own_mono {w : World} {base base' e size n : Nat} {v : Value} {xs : List Value} (h : w.ownsRow base e size v n xs) (hb : base' ≤ base) : w.ownsRow base' e size v n xs := by
  obtain ⟨h1, h2⟩ := h
  refine ⟨h1, ?_⟩
  rcases h2 with h2 | ⟨g, cap, cur, hv, hg, r⟩
  · exact .inl h2
  · exact .inr ⟨g, cap, cur, hv, by omega, r⟩

theorem rg_yes (d : List Tx) (k : Nat) (acc : List (Int × Int)) (hk : k < d.length) (h : sok (altP d[k]) = true) : rangeGo acc (d.drop k) = rangeGo (acc ++ [(slo (altP d[k]), shi (altP d[k]))]) (d.drop (k + 1)) := by
  rw [List.drop_eq_getElem_cons hk]
  rcases hp : altP d[k] with _ | n
  · rw [hp] at h; simp [sok] at h
  · simp [rangeGo, hp, slo, shi]
theorem rg_no (d : List Tx) (k : Nat) (acc : List (Int × Int)) (hk : k < d.length) (h : sok (altP d[k]) = false) : rangeGo acc (d.drop k) = none := by
  rw [List.drop_eq_getElem_cons hk]
  rcases hp : altP d[k] with _ | n
  · simp [rangeGo, hp]
  · rw [hp] at h; simp [sok] at h
theorem rg_end (d : List Tx) (k : Nat) (acc : List (Int × Int)) (hk : ¬ k < d.length) : rangeGo acc (d.drop k) = some acc := by
  rw [List.drop_of_length_le (by omega)]; rfl
def rok (o : Option (List (Int × Int))) : Bool := o.isSome
theorem two_ints (a b : Int) : ∀ u ∈ [Value.int .i64 a, Value.int .i64 b], u.oneCell' = true := by intro u hu; simp at hu; rcases hu with rfl | rfl <;> rfl

theorem news_span (w : World) (o1 : Obj) (a b : Value) (t : TypeId) : ∀ j u, [a, b][j]? = some u → ((w.alloc o1).alloc (.cells #[a, b] t)).cell? ((⟨w.heap.size + 1, 0, none⟩ : Addr).add j) = some u := by
  intro j u hu
  have h := World.news_of_block (heap_alloc_new (w.alloc o1) (.cells #[a, b] t)) j u (by simpa using hu)
  simpa using h

/-- One span more. -/
theorem step_span {W w w1 wr : World} {v : Value} {acc : List (Int × Int)} {s : Int × Int} {g cap : Nat} (hown : wr.ownsRow w.heap.size 106 2 v acc.length (spans acc)) (hbel : Below w.heap.size w wr) (hb4 : Below wr.heap.size wr W)
    (hown1 : w1.ownsRow w.heap.size 106 2 (.slice (some ⟨g, 0, none⟩) (acc.length + 1) cap) (acc.length + 1) (spans acc ++ [Value.int .i64 s.1, Value.int .i64 s.2])) (hgrow : W.grownBy w1 v.ownBlock) :
    w1.ownsRow w.heap.size 106 2 (.slice (some ⟨g, 0, none⟩) (acc.length + 1) cap) (acc ++ [s]).length (spans (acc ++ [s])) ∧ Below w.heap.size w w1 := by
  have hz := hbel.size
  refine ⟨?_, ?_⟩
  · rw [spans_snoc] at hown1
    simpa using hown1
  · exact (hbel.trans (hb4.mono hz)).grown hgrow (Nat.le_trans hz hb4.size) (fun k hk => (hown.lt k hk).1)

set_option maxHeartbeats 1000000 in
theorem rparse_any (s : ByteArray) (w : World) :
    Calls Tryd.prog 31 #[.string s] w fun e w' => ∃ a n c, e = .returned (.tuple #[.agg #[.slice a n c], .bool (rok (rangeP (tx s)))]) ∧ Below w.heap.size w w' ∧ ∀ sp, rangeP (tx s) = some sp → SpanRow w' w.heap.size (.slice a n c) sp := by
  by_cases h60 : s.size ≤ 60
  · obtain ⟨i0, hi, hz0, hz1, hz2⟩ := info_parts info_span
    have HP : Hid (rangeP (tx s) = rangeGo [] (splitL 124 (tx s))) := by
      unfold Hid rangeP; rw [if_neg (by rw [tx_length]; omega)]
    go_enter Tryd.func31, Tryd.ntmps31
    go_wp2_with fail
    refine (psplit_any s 124 _ (by omega)).mono ?_
    rintro e w2 ⟨v, rfl, hrow, hb2⟩
    obtain ⟨g, cap, rfl, hg1, hg2, hcell⟩ := hrow.form (splitL_ne _ _)
    have hne := splitL_ne 124 (tx s)
    have hps : ∀ j (hj : j < (splitL 124 (tx s)).length), (bs (splitL 124 (tx s))[j]).size ≤ 100 := fun j hj => by have := piece_size 124 s j hj; omega
    have hlen := splitL_len 124 (tx s)
    rw [tx_length] at hlen
    generalize splitL 124 (tx s) = d at *
    have hz2' := hb2.size
    obtain ⟨hcc2, hff2⟩ := bcell hb2
    simp at hz2' hcc2 hff2 hg1
    have hR := hcc2 w.heap.size 0 (by omega)
    have hRf := hff2 w.heap.size 0 (by omega)
    simp at hR hRf
    have HB2 := hid (((Below.refl _ _).alloc (Nat.le_refl _) _).trans (hb2.mono (by simp)) : Below w.heap.size w w2)
    have HC := hid hcell; have HS := hid hps; have HN := hid hne
    have hRz : w.heap.size < w2.heap.size := by omega
    clear hcell hps hrow hb2 hcc2 hff2 hne
    go_wp2
    go_loopw [4, 16] (fun v i wr => ∃ (k : Nat) (acc : List (Int × Int)), k ≤ d.length ∧ acc.length ≤ k ∧ i = .int .i64 k ∧ wr.ownsRow w2.heap.size 106 2 v acc.length (spans acc) ∧ Below w2.heap.size w2 wr ∧ Hid (acc.length = k ∧ rangeP (tx s) = rangeGo acc (d.drop k))) (fun _ i _ => d.length - (intOf i).toNat)
    case atStart => exact ⟨0, [], by omega, by simp, rfl, World.ownsRow_nil _ _ _ _, Below.refl _ _, ⟨rfl, by rw [HP.out]; rfl⟩⟩
    case round =>
      obtain ⟨k, acc, hk, hacc, rfl, hown, hbel, hall⟩ := hrel
      obtain ⟨hccr, hffr⟩ := bcell hbel
      have hzr := hbel.size
      have hRr : w.heap.size < wr.heap.size := by omega
      have hgr : g < wr.heap.size := by omega
      have hR' := (hccr w.heap.size 0 hRz).trans hR
      have hRf' := (hffr w.heap.size 0 hRz).trans hRf
      clear HP
      by_cases hlt : k < d.length
      · have hc : wr.cell? ⟨g, k, none⟩ = some (.string (bs d[k])) := by rw [hccr _ _ hg2]; exact HC.out k hlt
        have hh := fun w => palt_any (bs d[k]) w (HS.out k hlt)
        rw [tx_bs] at hh
        clear hccr hffr hR hRf
        by_cases hok : sok (altP d[k]) = true
        · have HF : Hid ((acc ++ [(slo (altP d[k]), shi (altP d[k]))]).length = k + 1 ∧ rangeP (tx s) = rangeGo (acc ++ [(slo (altP d[k]), shi (altP d[k]))]) (d.drop (k + 1))) := ⟨by simp [hall.out.1], by rw [hall.out.2, rg_yes d k acc hlt hok]⟩
          rw [hok] at hh
          have HH := hid hh
          clear hall hok hh
          generalize altP d[k] = o at *
          generalize bs d[k] = q at *
          go_wp2_with fail
          refine (HH.out _).mono ?_
          rintro e w4 ⟨rfl, hb4⟩
          have hz4 := hb4.size
          have hown4 := own_below hown hb4
          have HB4 := hid hb4
          clear hb4
          go_wp2_with (first
            | (at_builtin; refine wpList_append_lies _ rfl _ _ 62 rfl w2.heap.size 106 i0 (.agg #[.int .i64 0, .int .i64 0]) 2 16 Tryd.underlying62 hi hz0 hz1 hz2 rfl (by omega) _ _ _ rfl ((hown4.alloc _).alloc _) ⟨w4.heap.size + 1, 0, none⟩ 1 1 [.int .i64 (slo o), .int .i64 (shi o)] rfl rfl ?cN (two_ints _ _) (by omega) (by unfold maxLen; omega) (by omega) (by simp; omega) (w4.heap.size + 2) (by simp) ?_; rotate_right; intro g' cap' w5 hown5 hgrow hat hlt5))
          · have R := step_span (s := (slo o, shi o)) hown hbel (((HB4.out).alloc hz4 _).alloc (by simp; omega) _) hown5 hgrow
            clear hown5 hgrow hown hown4
            go_wp2
            go_roundw
            case rel => exact ⟨k + 1, _, by omega, by simp; omega, by go_num, R.1, R.2, HF⟩
            case measure => simp [intOf]; omega
          · exact news_span _ _ _ _ _
        · have hok : sok (altP d[k]) = false := by simpa using hok
          have HF : Hid (rangeP (tx s) = none) := by unfold Hid; rw [hall.out.2, rg_no d k acc hlt hok]
          rw [hok] at hh
          have HH := hid hh
          clear hall hok hh
          generalize altP d[k] = o at *
          generalize bs d[k] = q at *
          go_wp2_with fail
          refine (HH.out _).mono ?_
          rintro e w4 ⟨rfl, hb4⟩
          obtain ⟨hcc4, hff4⟩ := bcell hb4
          have hz4 := hb4.size
          have hR4 : w.heap.size < w4.heap.size := by omega
          have HB := hid (HB2.out.trans ((hbel.trans (hb4.mono hzr)).mono (by omega)) : Below w.heap.size w w4)
          clear hb4 hbel hown
          go_wp2
          refine bodyPost_ret (v := .tuple #[.agg #[.slice none 0 0], .bool false]) (by simp [results, Tryd.results31, go_sem, *]) rfl ⟨none, 0, 0, by rw [HF.out]; rfl, ?_, fun sp h => by rw [HF.out] at h; simp at h⟩
          exact Below.alloc (HB.out.setCell (Nat.le_refl _) _) (by simp; omega) _
      · have hkd : k = d.length := by omega
        have HF : Hid (rangeP (tx s) = some acc) := by unfold Hid; rw [hall.out.2, rg_end d k acc hlt]
        have hap : 0 < acc.length := by
          have := hall.out.1
          have := List.length_pos_iff.2 HN.out
          omega
        obtain ⟨gs, cs, rfl, hgs1, hgs2⟩ := form_any hown hap
        have HO := hid hown
        have HB := hid (HB2.out.trans (hbel.mono (by omega)) : Below w.heap.size w wr)
        clear hccr hffr hown hbel hall
        go_wp2
        refine bodyPost_ret (v := .tuple #[.agg #[.slice (some ⟨gs, 0, none⟩) acc.length cs], .bool true]) (by simp [results, Tryd.results31, go_sem, *]) rfl ⟨_, _, _, by rw [HF.out]; rfl, ?_, fun sp h => ?_⟩
        · exact HB.out.setCell (Nat.le_refl _) _
        · rw [HF.out] at h
          simp at h
          subst h
          exact own_mono (ownsRow_setCell_below HO.out hRz _) (by omega)
  · have HF : Hid (rangeP (tx s) = none) := by
      unfold Hid rangeP; rw [if_pos (by rw [tx_length]; omega)]
    go_enter Tryd.func31, Tryd.ntmps31
    go_wp2
    refine bodyPost_ret (v := .tuple #[.agg #[.slice none 0 0], .bool false]) (by simp [results, Tryd.results31, go_sem]) rfl ⟨none, 0, 0, by rw [HF.out]; rfl, ?_, fun sp h => by rw [HF.out] at h; simp at h⟩
    exact (Below.refl _ _).alloc (Nat.le_refl _) _

end Hst
end Go.Proofs.YtecocheolbkneaaDoor
namespace Go.Proofs.YtecocheolbkneaaDoor
open Go.RowKit
namespace Hst
set_option maxRecDepth 100000

theorem SpanRow.form {w : World} {base : Nat} {v : Value} {sp : List (Int × Int)} (h : SpanRow w base v sp) (hd : sp ≠ []) : ∃ g cap, v = .slice (some ⟨g, 0, none⟩) sp.length cap ∧ base ≤ g ∧ g < w.heap.size ∧ ∀ (j : Nat) (hj : j < sp.length), w.cell? ⟨g, j * 2, none⟩ = some (.int .i64 sp[j].1) ∧ w.cell? ⟨g, j * 2 + 1, none⟩ = some (.int .i64 sp[j].2) := by
  have hn : 0 < sp.length := List.length_pos_iff.2 hd
  obtain ⟨g, cap, rfl, h1, h2⟩ := form_any h hn
  refine ⟨g, cap, rfl, h1, h2, fun j hj => ?_⟩
  have e := spans_at sp j hj
  rw [World.ownsRow.cellAt h (j * 2) (by omega), World.ownsRow.cellAt h (j * 2 + 1) (by omega), Nat.mul_comm j 2]
  exact e
theorem SpanRow.below {w w' : World} {base : Nat} {v : Value} {sp : List (Int × Int)} (h : SpanRow w base v sp) (hb : Below w.heap.size w w') : SpanRow w' base v sp := own_below h hb

theorem fp_yes (sp : List (Int × Int)) (k : Nat) (n : Int) (hk : k < sp.length) (h1 : sp[k].1 ≤ n) (h2 : n ≤ sp[k].2) : fitsP (sp.drop k) n = true := by
  rw [List.drop_eq_getElem_cons hk]; unfold fitsP; rw [List.any_cons]; simp only [h1, h2, decide_true, Bool.and_self, Bool.true_or]
theorem fp_no (sp : List (Int × Int)) (k : Nat) (n : Int) (hk : k < sp.length) (h : ¬ (sp[k].1 ≤ n ∧ n ≤ sp[k].2)) : fitsP (sp.drop k) n = fitsP (sp.drop (k + 1)) n := by
  rw [List.drop_eq_getElem_cons hk]
  unfold fitsP
  rw [List.any_cons]
  have : (decide (sp[k].1 ≤ n) && decide (n ≤ sp[k].2)) = false := by simp; intro h1; omega
  rw [this, Bool.false_or]
theorem fp_end (sp : List (Int × Int)) (k : Nat) (n : Int) (hk : ¬ k < sp.length) : fitsP (sp.drop k) n = false := by
  rw [List.drop_of_length_le (by omega)]; rfl

set_option maxHeartbeats 1000000 in
theorem rfits_any (v : Value) (n : Int) (sp : List (Int × Int)) (base : Nat) (w : World) (hrow : SpanRow w base v sp) (hne : sp ≠ []) (hl : sp.length ≤ 1000) :
    Calls Tryd.prog 41 #[.agg #[v], .int .i64 n] w fun e w' => e = .returned (.bool (fitsP sp n)) ∧ Below w.heap.size w w' := by
  obtain ⟨g, cap, rfl, hg1, hg2, hcell⟩ := hrow.form hne
  have HC := hid hcell
  clear hcell hrow
  go_enter Tryd.func41, Tryd.ntmps41
  go_wp2
  go_loopw [10] (fun i wr => ∃ (k : Nat), k ≤ sp.length ∧ i = .int .i64 k ∧ Below w.heap.size w wr ∧ Hid (fitsP sp n = fitsP (sp.drop k) n)) (fun i _ => sp.length - (intOf i).toNat)
  case atStart => exact ⟨0, by omega, rfl, (Below.refl _ _).alloc (Nat.le_refl _) _, rfl⟩
  case round =>
    obtain ⟨k, hk, rfl, hbel, hall⟩ := hrel
    have hz := hbel.size
    by_cases hlt : k < sp.length
    · obtain ⟨c0, c1⟩ := HC.out k hlt
      have hc0 := (hbel.cell (p := ⟨g, k * 2, none⟩) hg2).trans c0
      have hc1 := (hbel.cell (p := ⟨g, k * 2 + 1, none⟩) hg2).trans c1
      clear c0 c1
      by_cases h1 : sp[k].1 ≤ n
      · by_cases h2 : n ≤ sp[k].2
        · have HF : Hid (fitsP sp n = true) := by unfold Hid; rw [hall.out, fp_yes sp k n hlt h1 h2]
          generalize sp[k].1 = x at *
          generalize sp[k].2 = y at *
          go_wp2
          go_ret
          exact ⟨ret_bool (by rw [HF.out]), hbel.alloc hz _⟩
        · have HF : Hid (fitsP sp n = fitsP (sp.drop (k + 1)) n) := by unfold Hid; rw [hall.out, fp_no sp k n hlt (by omega)]
          generalize sp[k].1 = x at *
          generalize sp[k].2 = y at *
          go_wp2
          go_roundw
          case rel => exact ⟨k + 1, by omega, by go_num, hbel.alloc hz _, HF⟩
          case measure => simp [intOf]; omega
      · have HF : Hid (fitsP sp n = fitsP (sp.drop (k + 1)) n) := by unfold Hid; rw [hall.out, fp_no sp k n hlt (by omega)]
        generalize sp[k].1 = x at *
        generalize sp[k].2 = y at *
        go_wp2
        go_roundw
        case rel => exact ⟨k + 1, by omega, by go_num, hbel.alloc hz _, HF⟩
        case measure => simp [intOf]; omega
    · have HF : Hid (fitsP sp n = false) := by unfold Hid; rw [hall.out, fp_end sp k n hlt]
      go_wp2
      go_ret
      exact ⟨ret_bool (by rw [HF.out]), hbel⟩


theorem rangeGo_len : ∀ (d : List Tx) (acc sp : List (Int × Int)), rangeGo acc d = some sp → sp.length = acc.length + d.length
  | [], acc, sp, h => by simp [rangeGo] at h; subst h; simp
  | a :: r, acc, sp, h => by
    simp only [rangeGo] at h
    rcases hp : altP a with _ | s
    · rw [hp] at h; simp at h
    · rw [hp] at h
      have := rangeGo_len r _ sp h
      simp at this ⊢; omega
theorem rangeP_len {l : Tx} {sp : List (Int × Int)} (h : rangeP l = some sp) : 0 < sp.length ∧ sp.length ≤ 61 := by
  unfold rangeP at h
  split at h
  · simp at h
  · have h1 := rangeGo_len _ _ _ h
    have h2 := splitL_len 124 l
    have h3 := List.length_pos_iff.2 (splitL_ne 124 l)
    simp at h1
    omega

set_option maxHeartbeats 1000000 in
theorem pfits_any (r v : ByteArray) (w : World) :
    Calls Tryd.prog 14 #[.string r, .string v] w fun e w' => e = .returned (.tuple #[.bool (fitsProg (tx r) (tx v)).1, .int .i64 (fitsProg (tx r) (tx v)).2]) ∧ Below w.heap.size w w' := by
  have HR := hid (fun w => rparse_any r w)
  have HV := hid (fun w => vparse_any v w)
  rcases hr : rangeP (tx r) with _ | sp
  · rw [fitsProg1 hr]
    rw [hr] at HR
    clear hr
    go_enter Tryd.func14, Tryd.ntmps14
    go_wp2_with fail
    refine (HR.out _).mono ?_
    rintro e w1 ⟨xa, xn, xc, rfl, hb1, hsp⟩
    simp only [rok, Option.isSome_none]
    have hz1 := hb1.size
    clear hsp
    go_wp2
    go_ret2
    exact ⟨rfl, hb1.alloc hz1 _⟩
  · have hlen := rangeP_len hr
    have hne : sp ≠ [] := List.length_pos_iff.1 hlen.1
    rw [hr] at HR
    rcases hv : versionP (tx v) with _ | n
    · rw [fitsProg2 hr hv]
      rw [hv] at HV
      clear hr hv
      go_enter Tryd.func14, Tryd.ntmps14
      go_wp2_with fail
      refine (HR.out _).mono ?_
      rintro e w1 ⟨xa, xn, xc, rfl, hb1, hsp⟩
      simp only [rok, Option.isSome_some]
      have hz1 := hb1.size
      clear hsp
      go_wp2_with fail
      refine (HV.out _).mono ?_
      rintro e w2 ⟨rfl, hb2⟩
      simp only [oks, ov, Option.isSome_none]
      go_wp2
      go_ret2
      exact ⟨rfl, (hb1.alloc hz1 _).trans (hb2.mono (by simp; omega))⟩
    · rw [fitsProg3 hr hv]
      rw [hv] at HV
      clear hr hv
      go_enter Tryd.func14, Tryd.ntmps14
      go_wp2_with fail
      refine (HR.out _).mono ?_
      rintro e w1 ⟨xa, xn, xc, rfl, hb1, hsp⟩
      simp only [rok, Option.isSome_some]
      have hz1 := hb1.size
      have HSP := hid (hsp sp rfl)
      clear hsp
      go_wp2_with fail
      refine (HV.out _).mono ?_
      rintro e w2 ⟨rfl, hb2⟩
      simp only [oks, ov, Option.isSome_some, Option.getD_some]
      have HSP2 := hid (SpanRow.below (SpanRow.below HSP.out ((Below.refl _ _).alloc (Nat.le_refl _) _)) hb2)
      have HB := hid ((hb1.alloc hz1 _).trans (hb2.mono (by simp; omega)) : Below w.heap.size w w2)
      obtain ⟨hcc, hff⟩ := bcell hb2
      have hz2 := hb2.size
      simp at hcc hz2
      clear hb2 hff
      go_wp2_with fail
      refine (rfits_any _ _ sp _ _ HSP2.out hne (by omega)).mono ?_
      rintro e w3 ⟨rfl, hb3⟩
      go_wp2
      go_ret2
      exact ⟨rfl, HB.out.trans (hb3.mono (by omega))⟩

end Hst
end Go.Proofs.YtecocheolbkneaaDoor
namespace Go.Proofs.YtecocheolbkneaaDoor
open Go.RowKit
namespace Hst

/-- A need of the program: its slice of spans (the value), and what that shows. -/
structure NeedX where
  name : Tx
  sp : Value
  spans : List (Int × Int)
  text : Tx
/-- An entry: its slice of needs, and what that shows. -/
structure EntX where
  name : Tx
  ver : Int
  needs : Value
  nd : List NeedX
structure PkX where
  path : Tx
  e : EntX
structure WhX where
  path : Tx
  needs : Value
  nd : List NeedX
structure AsX where
  path : Tx
  n : NeedX

def needXC (n : NeedX) : List Value := [.string (bs n.name), n.sp, .string (bs n.text)]
def entXC (e : EntX) : List Value := [.string (bs e.name), .int .i64 e.ver, e.needs]
def pkXC (p : PkX) : List Value := [.string (bs p.path), .string (bs p.e.name), .int .i64 p.e.ver, p.e.needs]
def whXC (x : WhX) : List Value := [.string (bs x.path), x.needs]
def asXC (x : AsX) : List Value := [.string (bs x.path), .string (bs x.n.name), x.n.sp, .string (bs x.n.text)]
abbrev needXV (n : NeedX) : Value := .agg #[.string (bs n.name), n.sp, .string (bs n.text)]
abbrev entXV (e : EntX) : Value := .agg #[.string (bs e.name), .int .i64 e.ver, e.needs]
abbrev pkXV (p : PkX) : Value := .agg #[.string (bs p.path), .string (bs p.e.name), .int .i64 p.e.ver, p.e.needs]
abbrev whXV (x : WhX) : Value := .agg #[.string (bs x.path), x.needs]
theorem needXC_len (p : NeedX) : (needXC p).length = 3 := rfl
theorem entXC_len (p : EntX) : (entXC p).length = 3 := rfl
theorem pkXC_len (p : PkX) : (pkXC p).length = 4 := rfl
theorem whXC_len (p : WhX) : (whXC p).length = 2 := rfl
theorem asXC_len (p : AsX) : (asXC p).length = 4 := rfl

/-! ### what lies in memory -/
def spanC (s : Int × Int) : List Value := [.int .i64 s.1, .int .i64 s.2]
/-- Of what type a block's cells are. -/
def tagOf (w : World) (b : Nat) : Option TypeId := match w.heap[b]? with
  | some (.cells _ e _) => some e
  | _ => none
theorem tagOf_below {w w' : World} (hb : Below w.heap.size w w') {b : Nat} (h : b < w.heap.size) : tagOf w' b = tagOf w b := by unfold tagOf; rw [hb.block b h]
/-- A slice value that shows these elements, in a block of type t. -/
def RowX {α : Type} (f : α → List Value) (size : Nat) (t : TypeId) (w : World) (v : Value) (l : List α) : Prop := ∃ a cap, v = .slice a l.length cap ∧ RowR w a l.length cap size (l.flatMap f) ∧ ∀ g o, 0 < l.length → a = some ⟨g, o, none⟩ → tagOf w g = some t
theorem RowX.below {α : Type} {f : α → List Value} {size : Nat} {t : TypeId} {w w' : World} {v : Value} {l : List α} (h : RowX f size t w v l) (hb : Below w.heap.size w w') : RowX f size t w' v l := by
  obtain ⟨a, cap, e, hr, ht⟩ := h
  refine ⟨a, cap, e, hr.below hb, fun g o h0 ha => ?_⟩
  obtain ⟨g', o', ha', hg, _⟩ := hr.at' h0
  rw [ha] at ha'
  simp at ha'
  rw [tagOf_below hb (by omega)]
  exact ht g o h0 ha
theorem tag_of_own {size e base n : Nat} {w : World} {v : Value} {xs : List Value} (h : w.ownsRow base e size v n xs) {b : Nat} (hb : v.ownBlock = some b) : tagOf w b = some e := by
  obtain ⟨_, h2⟩ := h
  rcases h2 with ⟨rfl, _⟩ | ⟨g, cap', cur, rfl, _, hh, _⟩
  · simp [Value.ownBlock] at hb
  · simp [Value.ownBlock] at hb
    subst hb
    unfold tagOf; rw [hh]
theorem RowX.of_own {α : Type} {f : α → List Value} {size e base : Nat} {w : World} {v : Value} {l : List α} (h : w.ownsRow base e size v l.length (l.flatMap f)) : RowX f size e w v l := by
  obtain ⟨a, cap, rfl⟩ := own_slice h
  exact ⟨a, cap, rfl, RowR.of_own h, fun g o _ ha => tag_of_own h (by rw [ha]; rfl)⟩
theorem RowX.nil {α : Type} (f : α → List Value) (size : Nat) (t : TypeId) (w : World) : RowX f size t w (.slice none 0 0) ([] : List α) :=
  ⟨none, 0, rfl, ⟨by simp, Nat.le_refl _, fun h => absurd h (Nat.lt_irrefl _)⟩, fun _ _ h => absurd h (Nat.lt_irrefl _)⟩
/-- The cells of a slice with an element. -/
theorem RowX.cells {α : Type} {f : α → List Value} {size : Nat} {t : TypeId} (hf : ∀ x, (f x).length = size) {w : World} {v : Value} {l : List α} (h : RowX f size t w v l) {k : Nat} (hk : k < l.length) :
    ∃ g o cap, v = .slice (some ⟨g, o, none⟩) l.length cap ∧ g < w.heap.size ∧ ∀ (j : Nat) (hj : j < l.length) (i : Nat), i < size → w.cell? ⟨g, o + (j * size + i), none⟩ = (f l[j])[i]? := by
  obtain ⟨a, cap, rfl, hr, _⟩ := h
  obtain ⟨g, o, rfl, hg, hc⟩ := hr.at' (by omega)
  refine ⟨g, o, cap, rfl, hg, fun j hj i hi => ?_⟩
  have hlt : j * size + i < l.length * size := by
    have : (j + 1) * size ≤ l.length * size := Nat.mul_le_mul_right _ hj
    rw [Nat.add_mul, Nat.one_mul] at this
    omega
  rw [hc (j * size + i) hlt, flat_at f size hf l j i hj hi]
/-- The slice value itself. -/
theorem RowX.form {α : Type} {f : α → List Value} {size : Nat} {t : TypeId} {w : World} {v : Value} {l : List α} (h : RowX f size t w v l) : ∃ a cap, v = .slice a l.length cap := by
  obtain ⟨a, cap, e, _⟩ := h
  exact ⟨a, cap, e⟩

def SpansIn (w : World) (v : Value) (sp : List (Int × Int)) : Prop := RowX spanC 2 106 w v sp
structure NeedIn (w : World) (n : NeedX) : Prop where
  sp : SpansIn w n.sp n.spans
  ne : n.spans ≠ []
  le : n.spans.length ≤ 61
  nm : n.name.length ≤ 3
  tx : n.text.length ≤ 63
def NeedsIn (w : World) (v : Value) (l : List NeedX) : Prop := RowX needXC 3 86 w v l ∧ ∀ n ∈ l, NeedIn w n
def EntIn (w : World) (e : EntX) : Prop := NeedsIn w e.needs e.nd ∧ e.nd.length ≤ 6 ∧ e.name.length ≤ 3 ∧ 0 ≤ e.ver ∧ e.ver ≤ 999999
def EntsIn (w : World) (v : Value) (l : List EntX) : Prop := RowX entXC 3 128 w v l ∧ ∀ e ∈ l, EntIn w e
def PksIn (w : World) (v : Value) (l : List PkX) : Prop := RowX pkXC 4 130 w v l ∧ ∀ p ∈ l, EntIn w p.e
theorem NeedIn.below {w w' : World} {n : NeedX} (h : NeedIn w n) (hb : Below w.heap.size w w') : NeedIn w' n := ⟨RowX.below h.sp hb, h.ne, h.le, h.nm, h.tx⟩
theorem NeedsIn.below {w w' : World} {v : Value} {l : List NeedX} (h : NeedsIn w v l) (hb : Below w.heap.size w w') : NeedsIn w' v l := ⟨h.1.below hb, fun n hn => (h.2 n hn).below hb⟩
theorem EntIn.below {w w' : World} {e : EntX} (h : EntIn w e) (hb : Below w.heap.size w w') : EntIn w' e := ⟨h.1.below hb, h.2⟩
theorem EntsIn.below {w w' : World} {v : Value} {l : List EntX} (h : EntsIn w v l) (hb : Below w.heap.size w w') : EntsIn w' v l := ⟨h.1.below hb, fun n hn => (h.2 n hn).below hb⟩
theorem PksIn.below {w w' : World} {v : Value} {l : List PkX} (h : PksIn w v l) (hb : Below w.heap.size w w') : PksIn w' v l := ⟨h.1.below hb, fun n hn => (h.2 n hn).below hb⟩

/-! ### plain functions -/
/-- An element in its place by rising keys, behind those of its own key. -/
def insG {α : Type} (key : α → Tx) (x : α) : Bool → List α → List α
  | done, [] => if done = true then [] else [x]
  | done, y :: r => if done = false ∧ less (key x) (key y) = true then x :: y :: insG key x true r else y :: insG key x done r
def withN (l : List NeedX) (x : NeedX) : List NeedX := insG (fun n => n.name) x false l
def withP (l : List PkX) (p : PkX) : List PkX := insG (fun p => p.path) p false l
def needOkP (l : Tx) : Bool := isNameR (l.take (lowLen l)) && rok (rangeP (l.drop (lowLen l)))
/-- The need that a text is. -/
def NeedOf (l : Tx) (x : NeedX) : Prop := needOkP l = true ∧ x.name = l.take (lowLen l) ∧ rangeP (l.drop (lowLen l)) = some x.spans ∧ x.text = l
def withoutN (l : List NeedX) (name : Tx) : List NeedX := l.filter fun n => !decide (n.name = name)
def hasN (l : List NeedX) (name : Tx) : Bool := l.any fun n => decide (n.name = name)
def twiceX : List NeedX → Bool
  | [] => false
  | [_] => false
  | x :: y :: r => decide (x.name = y.name) || twiceX (y :: r)
/-- Pieces with a text between each two. -/
def joinGo (sep : Tx) : Bool → List Tx → Tx
  | _, [] => []
  | first, p :: r => (if first = true then p else sep ++ p) ++ joinGo sep false r
def joinT (sep : Tx) (l : List Tx) : Tx := joinGo sep true l
def needsT (l : List NeedX) : Tx := joinT [44] (l.map fun n => n.text)
/-- The folder of a path: what stands ahead of the last '/' of its first i bytes. -/
def folderGo (p : Tx) : Nat → Tx
  | 0 => []
  | i + 1 => if p.getD i 0 = 47 then p.take i else folderGo p i
def folderP (p : Tx) : Tx := folderGo p p.length
theorem folderGo_len (p : Tx) : ∀ i, i ≤ p.length → (folderGo p i).length ≤ i - 1
  | 0, _ => by simp [folderGo]
  | i + 1, h => by
    have := folderGo_len p i (by omega)
    simp only [folderGo]
    split
    · simp; omega
    · omega
theorem folderP_lt {p : Tx} (h : p ≠ []) : (folderP p).length < p.length := by
  have h1 := folderGo_len p p.length (Nat.le_refl _)
  have h2 := List.length_pos_iff.2 h
  unfold folderP
  omega
/-- The package of a name in a folder. -/
def inP (l : List PkX) (folder name : Tx) : Option PkX := l.find? fun p => decide (p.e.name = name) && decide (folderP p.path = folder)
/-- What is found from a path outwards (with fuel: the path's length serves). -/
def findF (l : List PkX) (name : Tx) : Nat → Tx → Option PkX
  | 0, _ => inP l [] name
  | n + 1, path => if path = [] then inP l [] name else match inP l path name with
    | some p => some p
    | none => findF l name n (folderP path)
def findP (l : List PkX) (name : Tx) (path : Tx) : Option PkX := findF l name path.length path
theorem findF_two (l : List PkX) (name : Tx) : ∀ (n m : Nat) (path : Tx), path.length ≤ n → path.length ≤ m → findF l name n path = findF l name m path
  | 0, m, path, h, _ => by
    have e : path = [] := List.length_eq_zero_iff.1 (by omega)
    subst e
    cases m with
    | zero => rfl
    | succ m => rw [findF, findF, if_pos rfl]
  | n + 1, 0, path, _, h => by
    have e : path = [] := List.length_eq_zero_iff.1 (by omega)
    subst e
    rw [findF, findF, if_pos rfl]
  | n + 1, m + 1, path, h1, h2 => by
    rw [findF, findF]
    by_cases h : path = []
    · rw [if_pos h, if_pos h]
    · have := folderP_lt h
      rw [if_neg h, if_neg h, findF_two l name n m (folderP path) (by omega) (by omega)]
theorem findP_eq (l : List PkX) (name : Tx) (path : Tx) : findP l name path = if _h : path = [] then inP l [] name else match inP l path name with
    | some p => some p
    | none => findP l name (folderP path) := by
  unfold findP
  by_cases h : path = []
  · subst h; rfl
  · have hl := folderP_lt h
    rw [dif_neg h]
    rcases e : path.length with _ | n
    · omega
    · rw [findF, if_neg h, findF_two l name n (folderP path).length (folderP path) (by omega) (Nat.le_refl _)]
def meetsP (l : List PkX) (path : Tx) (n : NeedX) : Bool := match findP l n.name path with
  | none => false
  | some p => fitsP n.spans p.e.ver
def hasP (l : List PkX) (name : Tx) (v : Int) : Bool := l.any fun p => decide (p.e.name = name) && decide (p.e.ver = v)
def hasAtP (l : List PkX) (path : Tx) : Bool := l.any fun p => decide (p.path = path)
/-- One who needs: what he finds is in use, and goes to the list's end. -/
def usedGo (t : List PkX) (path : Tx) (used : List PkX) (list : List WhX) : List NeedX → List PkX × List WhX
  | [] => (used, list)
  | n :: r => match findP t n.name path with
    | none => usedGo t path used list r
    | some p => if hasAtP used p.path = true then usedGo t path used list r else usedGo t path (withP used p) (list ++ [⟨p.path, p.e.needs, p.e.nd⟩]) r
/-- The list from its place k on (with fuel). -/
def inUseGo (t : List PkX) : Nat → Nat → List PkX → List WhX → List PkX
  | 0, _, used, _ => used
  | f + 1, k, used, list => match list[k]? with
    | none => used
    | some x => inUseGo t f (k + 1) (usedGo t x.path used list x.nd).1 (usedGo t x.path used list x.nd).2
def inUseP (t : List PkX) (v : Value) (site : List NeedX) : List PkX := inUseGo t (t.length + 2) 0 [] [⟨[], v, site⟩]
def fittingP (st : List EntX) (n : NeedX) : List EntX := st.filter fun e => decide (e.name = n.name) && fitsP n.spans e.ver
/-- choose: over the entries that fit. -/
def chooseGo (fav : List PkX) (best : EntX) (bf found : Bool) : List EntX → EntX × Bool
  | [] => (best, found)
  | e :: r =>
    if (!found || (if hasP fav e.name e.ver = bf then decide (best.ver < e.ver) else hasP fav e.name e.ver)) = true
    then chooseGo fav e (hasP fav e.name e.ver) true r else chooseGo fav best bf true r
def zeroE : EntX := ⟨[], 0, .slice none 0 0, []⟩
def chooseP (st : List EntX) (fav : List PkX) (n : NeedX) : EntX × Bool := chooseGo fav zeroE false false (fittingP st n)
def willDoP (l : List PkX) (gone : List AsX) (path : Tx) (laid : PkX) : Bool :=
  !hasAtP l laid.path && (match findP (withP l laid) laid.e.name path with
    | none => false
    | some p => decide (p.path = laid.path) && gone.all fun a => meetsP (withP l laid) a.path a.n)
/-- place: the folders from one outwards (with fuel: the folder's length serves). -/
def placeF (l : List PkX) (gone : List AsX) (path : Tx) (e : EntX) : Nat → Tx → PkX → PkX
  | 0, _, best => best
  | n + 1, folder, best => if folder = [] then best else
    placeF l gone path e n (folderP folder) (if willDoP l gone path ⟨joinR (folderP folder) e.name, e⟩ = true then ⟨joinR (folderP folder) e.name, e⟩ else best)
def placeGo (l : List PkX) (gone : List AsX) (path : Tx) (e : EntX) (folder : Tx) (best : PkX) : PkX := placeF l gone path e folder.length folder best
theorem placeF_two (l : List PkX) (gone : List AsX) (path : Tx) (e : EntX) : ∀ (n m : Nat) (folder : Tx) (best : PkX), folder.length ≤ n → folder.length ≤ m → placeF l gone path e n folder best = placeF l gone path e m folder best
  | 0, m, folder, best, h, _ => by
    have e0 : folder = [] := List.length_eq_zero_iff.1 (by omega)
    subst e0
    cases m with
    | zero => rfl
    | succ m => rw [placeF, placeF, if_pos rfl]
  | n + 1, 0, folder, best, _, h => by
    have e0 : folder = [] := List.length_eq_zero_iff.1 (by omega)
    subst e0
    rw [placeF, placeF, if_pos rfl]
  | n + 1, m + 1, folder, best, h1, h2 => by
    rw [placeF, placeF]
    by_cases h : folder = []
    · rw [if_pos h, if_pos h]
    · have := folderP_lt h
      rw [if_neg h, if_neg h, placeF_two l gone path e n m (folderP folder) _ (by omega) (by omega)]
theorem placeGo_eq (l : List PkX) (gone : List AsX) (path : Tx) (e : EntX) (folder : Tx) (best : PkX) : placeGo l gone path e folder best = if _h : folder = [] then best else
    placeGo l gone path e (folderP folder) (if willDoP l gone path ⟨joinR (folderP folder) e.name, e⟩ = true then ⟨joinR (folderP folder) e.name, e⟩ else best) := by
  unfold placeGo
  by_cases h : folder = []
  · subst h; rfl
  · have hl := folderP_lt h
    rw [dif_neg h]
    rcases e0 : folder.length with _ | n
    · omega
    · rw [placeF, if_neg h, placeF_two l gone path e n (folderP folder).length (folderP folder) _ (by omega) (Nat.le_refl _)]
def placeP (l : List PkX) (gone : List AsX) (path : Tx) (e : EntX) : PkX := placeGo l gone path e path ⟨joinR path e.name, e⟩
/-- A tree that is being built: the tree, those who need, what was gone through. -/
structure WorkX where
  tree : List PkX
  list : List WhX
  gone : List AsX
def layP (st : List EntX) (fav : List PkX) (k : WorkX) (path : Tx) (n : NeedX) : WorkX × Int :=
  if (chooseP st fav n).2 = false then (k, 8) else
  if 40 ≤ k.tree.length then (k, 9) else
  (⟨withP k.tree (placeP k.tree k.gone path (chooseP st fav n).1), k.list ++ [⟨(placeP k.tree k.gone path (chooseP st fav n).1).path, (chooseP st fav n).1.needs, (chooseP st fav n).1.nd⟩], k.gone⟩, 0)
def workGo (st : List EntX) (fav : List PkX) (path : Tx) (k : WorkX) : List NeedX → WorkX × Int
  | [] => (k, 0)
  | n :: r =>
    if meetsP k.tree path n = true then workGo st fav path ⟨k.tree, k.list, k.gone ++ [⟨path, n⟩]⟩ r else
    if (layP st fav k path n).2 = 0 then workGo st fav path ⟨(layP st fav k path n).1.tree, (layP st fav k path n).1.list, (layP st fav k path n).1.gone ++ [⟨path, n⟩]⟩ r
    else layP st fav k path n
/-- Build: the list from its place i on (with fuel: it grows by 40 at the most). -/
def buildGoP (st : List EntX) (fav : List PkX) : Nat → Nat → WorkX → WorkX × Int
  | 0, _, k => (k, 9)
  | f + 1, i, k => match k.list[i]? with
    | none => (k, 0)
    | some x => if (workGo st fav x.path k x.nd).2 = 0 then buildGoP st fav f (i + 1) (workGo st fav x.path k x.nd).1 else workGo st fav x.path k x.nd
def buildP (st : List EntX) (v : Value) (site : List NeedX) (fav : List PkX) : Option (List PkX) × Int :=
  match buildGoP st fav 60 0 ⟨[], [⟨[], v, site⟩], []⟩ with
  | (k, e) => if e = 0 then (some (inUseP k.tree v site), 0) else (none, e)

/-! ### what texts are -/
def listOkP (l : Tx) : Bool := decide ((splitL 44 l).length ≤ 6) && (splitL 44 l).all needOkP
def NeedsOf (d : List Tx) (xs : List NeedX) : Prop := xs.length = d.length ∧ ∀ p ∈ d.zip xs, NeedOf p.1 p.2
/-- The pieces of an entry: its head, what stands behind ':', whether there is one; its name, its version, whether there is '@'. -/
def eHead (l : Tx) : Tx := (cutR 58 l).1
def eTail (l : Tx) : Tx := (cutR 58 l).2.1
def eHas (l : Tx) : Bool := (cutR 58 l).2.2
def eName (l : Tx) : Tx := (cutR 64 (eHead l)).1
def eVer (l : Tx) : Tx := (cutR 64 (eHead l)).2.1
def eAt (l : Tx) : Bool := (cutR 64 (eHead l)).2.2
def entryOkP (l : Tx) : Bool := eAt l && isNameR (eName l) && oks (versionP (eVer l)) && (!eHas l || listOkP (eTail l))
/-- The entry that a text is. -/
def EntOf (l : Tx) (e : EntX) : Prop := entryOkP l = true ∧ e.name = eName l ∧ versionP (eVer l) = some e.ver ∧ (eHas l = false → e.nd = []) ∧ (eHas l = true → ∃ xs, NeedsOf (splitL 44 (eTail l)) xs ∧ e.nd = xs.foldl withN [])
def EntsOf (d : List Tx) (es : List EntX) : Prop := es.length = d.length ∧ ∀ p ∈ d.zip es, EntOf p.1 p.2
def stockOkP (l : Tx) : Bool := if l = [] then true else decide ((splitL 59 l).length ≤ 40) && (splitL 59 l).all entryOkP
def StockOf (l : Tx) (es : List EntX) : Prop := (l = [] → es = []) ∧ (l ≠ [] → EntsOf (splitL 59 l) es)
def sameX (f e : EntX) : Bool := decide (f.name = e.name) && decide (f.ver = e.ver)
def twGo (pre : List EntX) : List EntX → Bool
  | [] => false
  | e :: r => twiceX e.nd || (pre.any (fun f => sameX f e) || twGo (pre ++ [e]) r)
/-- A site of the program: its stock, its needs (and the slice that holds them), its tree. -/
structure SiteX where
  stock : List EntX
  needs : List NeedX
  nv : Value
  tree : List PkX
def settleX (s : SiteX) (nv : Value) (nd : List NeedX) : Option (List PkX) → SiteX
  | none => s
  | some t => ⟨s.stock, nd, nv, t⟩

end Hst
end Go.Proofs.YtecocheolbkneaaDoor
namespace Go.Proofs.YtecocheolbkneaaDoor
namespace Hst

theorem less_irr : ∀ a : Tx, less a a = false
  | [] => rfl
  | b :: r => by
    have := less_irr r
    unfold less at this ⊢
    simp [Op.bytesLess, this, UInt8.lt_irrefl]
theorem less_trans : ∀ a b c : Tx, less a b = true → less b c = true → less a c = true
  | _, _, [], _, h => by cases ‹Tx› <;> simp [less, Op.bytesLess] at h
  | [], _, _ :: _, _, _ => by simp [less, Op.bytesLess]
  | _ :: _, [], _ :: _, h, _ => by simp [less, Op.bytesLess] at h
  | x :: a, y :: b, z :: c, h, k => by
    have ih := less_trans a b c
    unfold less at ih h k ⊢
    simp only [Op.bytesLess, Bool.or_eq_true, decide_eq_true_eq, Bool.and_eq_true, beq_iff_eq] at h k ⊢
    rcases h with h | ⟨rfl, h⟩
    · rcases k with k | ⟨rfl, k⟩
      · exact .inl (UInt8.lt_trans h k)
      · exact .inl h
    · rcases k with k | ⟨rfl, k⟩
      · exact .inl k
      · exact .inr ⟨rfl, ih h k⟩
theorem less_tri : ∀ a b : Tx, less a b = true ∨ a = b ∨ less b a = true
  | [], [] => .inr (.inl rfl)
  | [], _ :: _ => .inl rfl
  | _ :: _, [] => .inr (.inr rfl)
  | x :: a, y :: b => by
    have ih := less_tri a b
    unfold less at ih ⊢
    simp only [Op.bytesLess, Bool.or_eq_true, decide_eq_true_eq, Bool.and_eq_true, beq_iff_eq]
    by_cases h : x < y
    · exact .inl (.inl h)
    · by_cases h' : y < x
      · exact .inr (.inr (.inl h'))
      · have e : x = y := UInt8.le_antisymm (UInt8.not_lt.1 h') (UInt8.not_lt.1 h)
        subst e
        rcases ih with h1 | h1 | h1
        · exact .inl (.inr ⟨rfl, h1⟩)
        · exact .inr (.inl (by rw [h1]))
        · exact .inr (.inr (.inr ⟨rfl, h1⟩))
theorem less_asymm {a b : Tx} (h : less a b = true) : less b a = false := by
  cases e : less b a with
  | false => rfl
  | true => exact absurd (less_trans a b a h e) (by rw [less_irr]; simp)
theorem less_ne {a b : Tx} (h : less a b = true) : a ≠ b := by
  rintro rfl
  rw [less_irr] at h
  exact absurd h (by simp)

/-- By rising keys. -/
def Rises {α : Type} (key : α → Tx) (l : List α) : Prop := l.Pairwise fun x y => less (key x) (key y) = true
theorem Rises.nil {α : Type} (key : α → Tx) : Rises key ([] : List α) := List.Pairwise.nil
theorem insX_true {α : Type} (key : α → Tx) (x : α) : ∀ l : List α, insG key x true l = l
  | [] => rfl
  | y :: r => by rw [insG, insX_true key x r]; simp
theorem insX_mem {α : Type} (key : α → Tx) (x : α) : ∀ (l : List α) (y : α), y ∈ insG key x false l ↔ y = x ∨ y ∈ l
  | [], y => by simp [insG]
  | z :: r, y => by
    rw [insG]
    split
    · rw [insX_true]; simp
    · rw [List.mem_cons, insX_mem key x r y, List.mem_cons]
      constructor
      · rintro (h | h | h)
        · exact .inr (.inl h)
        · exact .inl h
        · exact .inr (.inr h)
      · rintro (h | h | h)
        · exact .inr (.inl h)
        · exact .inl h
        · exact .inr (.inr h)
theorem insX_len {α : Type} (key : α → Tx) (x : α) : ∀ l : List α, (insG key x false l).length = l.length + 1
  | [] => rfl
  | z :: r => by
    rw [insG]
    split
    · rw [insX_true]; simp
    · rw [List.length_cons, insX_len key x r]; simp
theorem insG_rises {α : Type} (key : α → Tx) (x : α) : ∀ l : List α, Rises key l → (∀ y ∈ l, key y ≠ key x) → Rises key (insG key x false l)
  | [], _, _ => by simp [insG, Rises]
  | z :: r, h, hn => by
    have h' := List.pairwise_cons.1 h
    rw [insG]
    split
    · rename_i hl
      rw [insX_true]
      refine List.pairwise_cons.2 ⟨fun y hy => ?_, h⟩
      rcases List.mem_cons.1 hy with rfl | hy
      · exact hl.2
      · exact less_trans _ _ _ hl.2 (h'.1 y hy)
    · rename_i hl
      refine List.pairwise_cons.2 ⟨fun y hy => ?_, insG_rises key x r h'.2 fun y hy => hn y (List.mem_cons_of_mem _ hy)⟩
      rcases (insX_mem key x r y).1 hy with rfl | hy
      · rcases less_tri (key z) (key y) with h1 | h1 | h1
        · exact h1
        · exact absurd h1 (hn z (by simp))
        · exact absurd ⟨rfl, h1⟩ hl
      · exact h'.1 y hy
theorem Rises.ext {α : Type} {key : α → Tx} : ∀ {l m : List α}, Rises key l → Rises key m → (∀ y, y ∈ l ↔ y ∈ m) → l = m
  | [], [], _, _, _ => rfl
  | [], z :: r, _, _, h => absurd ((h z).2 (by simp)) (by simp)
  | z :: r, [], _, _, h => absurd ((h z).1 (by simp)) (by simp)
  | x :: l, y :: m, hl, hm, h => by
    have hl' := List.pairwise_cons.1 hl
    have hm' := List.pairwise_cons.1 hm
    have e : x = y := by
      rcases List.mem_cons.1 ((h x).1 (by simp)) with e | e
      · exact e
      · rcases List.mem_cons.1 ((h y).2 (by simp)) with e' | e'
        · exact e'.symm
        · have h1 := hm'.1 x e
          have h2 := hl'.1 y e'
          rw [less_asymm h1] at h2
          exact absurd h2 (by simp)
    subst e
    congr 1
    refine Rises.ext hl'.2 hm'.2 fun y => ?_
    constructor
    · intro hy
      rcases List.mem_cons.1 ((h y).1 (List.mem_cons_of_mem _ hy)) with e | e
      · subst e; exact absurd rfl (less_ne (hl'.1 y hy))
      · exact e
    · intro hy
      rcases List.mem_cons.1 ((h y).2 (List.mem_cons_of_mem _ hy)) with e | e
      · subst e; exact absurd rfl (less_ne (hm'.1 y hy))
      · exact e
theorem Rises.key_inj {α : Type} {key : α → Tx} : ∀ {l : List α}, Rises key l → ∀ x ∈ l, ∀ y ∈ l, key x = key y → x = y
  | [], _, _, h, _, _, _ => by simp at h
  | z :: r, hl, x, hx, y, hy, e => by
    have hl' := List.pairwise_cons.1 hl
    rcases List.mem_cons.1 hx with h1 | h1
    · rcases List.mem_cons.1 hy with h2 | h2
      · rw [h1, h2]
      · exact absurd (h1 ▸ e) (less_ne (hl'.1 y h2))
    · rcases List.mem_cons.1 hy with h2 | h2
      · exact absurd (h2 ▸ e).symm (less_ne (hl'.1 x h1))
      · exact Rises.key_inj hl'.2 x h1 y h2 e
theorem placedGo_ins (p : PackD) : ∀ (l : List PackD) (b : Bool), placedGo p b l = insG (fun q => q.path) p b l
  | [], b => by rw [placedGo, insG]
  | x :: r, b => by rw [placedGo, insG, placedGo_ins p r true, placedGo_ins p r b]
theorem placedR_ins (l : List PackD) (p : PackD) : placedR l p = insG (fun q => q.path) p false l := placedGo_ins p l false

end Hst
end Go.Proofs.YtecocheolbkneaaDoor
