/- Pstocka, Pstockb, Kstocked, Treeb -/
import Derived.Test.YtecocheolbkneaaDoorW15
import Derived.Test.YtecocheolbkneaaDoorW13
import Derived.Test.YtecocheolbkneaaDoorW14
namespace Go.Proofs.YtecocheolbkneaaDoor
open Go.RowKit
namespace Hst
set_option maxRecDepth 100000

theorem cut_len (n : Int) : ∀ l : Tx, (cutR n l).1.length ≤ l.length ∧ (cutR n l).2.1.length ≤ l.length
  | [] => by simp [cutR]
  | b :: r => by
    have ih := cut_len n r
    simp only [cutR]
    split
    · simp
    · simp; omega
theorem eo1 {l : Tx} (h : eAt l = false) : entryOkP l = false := by unfold entryOkP; rw [h]; rfl
theorem eo2 {l : Tx} (h : isNameR (eName l) = false) : entryOkP l = false := by unfold entryOkP; rw [h]; simp
theorem eo3 {l : Tx} (h : versionP (eVer l) = none) : entryOkP l = false := by unfold entryOkP; rw [h]; simp [oks]
theorem eo4 {l : Tx} {v : Int} (h1 : eAt l = true) (h2 : isNameR (eName l) = true) (h3 : versionP (eVer l) = some v) (h4 : eHas l = false) : entryOkP l = true := by unfold entryOkP; rw [h1, h2, h3, h4]; rfl
theorem eo5 {l : Tx} (h4 : eHas l = true) (h5 : listOkP (eTail l) = false) : entryOkP l = false := by unfold entryOkP; rw [h4, h5]; simp
theorem eo6 {l : Tx} {v : Int} (h1 : eAt l = true) (h2 : isNameR (eName l) = true) (h3 : versionP (eVer l) = some v) (h5 : listOkP (eTail l) = true) : entryOkP l = true := by unfold entryOkP; rw [h1, h2, h3, h5]; simp [oks]
theorem ok_6 {l : Tx} (h : listOkP l = true) : (splitL 44 l).length ≤ 6 := by
  unfold listOkP at h; simp at h; exact h.1

set_option maxHeartbeats 4000000 in
theorem pentry_any (s : ByteArray) (w : World) (hs : s.size ≤ 100000) :
    Calls Tryd.prog 98 #[.string s] w fun e w' => ∃ x : EntX, e = .returned (.tuple #[entXV x, .bool (entryOkP (tx s))]) ∧ Below w.heap.size w w' ∧ (∃ a n c, x.needs = .slice a n c) ∧ (entryOkP (tx s) = true → EntOf (tx s) x ∧ EntIn w' x) := by
  have HC1 := hid' (fun w => pcut_any s 58 w (by omega))
  have hl1 := cut_len 58 (tx s)
  rw [tx_length] at hl1
  have HC2 := hid' (fun w => pcut_any (bs (cutR 58 (tx s)).1) 64 w (by rw [bs_size]; omega))
  rw [tx_bs] at HC2
  have hl2 := cut_len 64 (cutR 58 (tx s)).1
  have HNM := hid' (fun w => isNameP_any (bs (cutR 64 (cutR 58 (tx s)).1).1) w (by rw [bs_size]; omega))
  rw [tx_bs] at HNM
  have HVP := hid' (fun w => vparse_any (bs (cutR 64 (cutR 58 (tx s)).1).2.1) w)
  rw [tx_bs] at HVP
  have HPL := hid' (fun w => plist_any (bs (cutR 58 (tx s)).2.1) w (by rw [bs_size]; omega))
  rw [tx_bs] at HPL
  have E1 := hid' (eo1 (l := tx s)); have E2 := hid' (eo2 (l := tx s)); have E3 := hid' (eo3 (l := tx s))
  have E4 := hid' (fun v => eo4 (l := tx s) (v := v)); have E5 := hid' (eo5 (l := tx s)); have E6 := hid' (fun v => eo6 (l := tx s) (v := v))
  have HEO : Hid (∀ e : EntX, EntOf (tx s) e = (entryOkP (tx s) = true ∧ e.name = eName (tx s) ∧ versionP (eVer (tx s)) = some e.ver ∧ (eHas (tx s) = false → e.nd = []) ∧ (eHas (tx s) = true → ∃ xs, NeedsOf (splitL 44 (eTail (tx s))) xs ∧ e.nd = xs.foldl withN []))) := fun _ => rfl
  have e1 : eAt (tx s) = (cutR 64 (cutR 58 (tx s)).1).2.2 := rfl
  have e2 : eName (tx s) = (cutR 64 (cutR 58 (tx s)).1).1 := rfl
  have e3 : eVer (tx s) = (cutR 64 (cutR 58 (tx s)).1).2.1 := rfl
  have e4 : eHas (tx s) = (cutR 58 (tx s)).2.2 := rfl
  have e5 : eTail (tx s) = (cutR 58 (tx s)).2.1 := rfl
  rw [← e1, ← e2, ← e3] at HC2
  rw [← e2] at HNM
  rw [← e3] at HVP
  rw [← e4, ← e5] at HC1
  rw [← e5] at HPL
  clear e1 e2 e3 e4 e5 hl1 hl2
  generalize bs (cutR 58 (tx s)).1 = hd at *
  generalize eAt (tx s) = tAt at *
  generalize eName (tx s) = tName at *
  generalize eVer (tx s) = tVer at *
  generalize eHas (tx s) = tHas at *
  generalize eTail (tx s) = tTail at *
  have H3 := hid' (isName_3 (l := tName))
  have HBD := hid' (versionP_bd tVer)
  have H6 := hid' (ok_6 (l := tTail))
  go_enter Tryd.func98, Tryd.ntmps98
  go_wp2_with fail
  refine (HC1.out _).mono ?_
  rintro e w1 ⟨rfl, hb1⟩
  have hb1' := ((Below.refl _ _).alloc (Nat.le_refl _) _).trans (hb1.mono (by simp)) (B := w.heap.size) (a := w)
  go_wp2_with fail
  refine (HC2.out _).mono ?_
  rintro e w2 ⟨rfl, hb2⟩
  have c := fun i => ((bcell hb2).1 w.heap.size i (by have := hb1.size; simp at this; omega)).trans ((bcell hb1).1 w.heap.size i (by simp))
  have f := fun i => ((bcell hb2).2 w.heap.size i (by have := hb1.size; simp at this; omega)).trans ((bcell hb1).2 w.heap.size i (by simp))
  have hz2 : w.heap.size < w2.heap.size := by have h1 := hb1.size; have h2 := hb2.size; simp at h1; omega
  have HB2 := hid' (hb1'.trans (hb2.mono (by have h1 := hb1.size; simp at h1; omega)))
  have HT2 : Hid (tagOf w2 w.heap.size = some 128) := by
    unfold Hid
    rw [tagOf_below hb2 (by have := hb1.size; simp at this; omega), tagOf_below hb1 (by simp)]
    exact tag_new _ _ _
  clear hb1 hb2 hb1'
  cases tAt
  · have HF := hid' (E1.out rfl)
    have c0 := c 0; have c1 := c 1; have c2 := c 2; have f0 := f 0; have f1 := f 1; have f2 := f 2
    simp at c0 c1 c2 f0 f1 f2
    clear c f E1 E2 E3 E4 E5 E6
    go_wp2
    refine bodyPost_ret (v := .tuple #[.agg #[.string ByteArray.empty, .int .i64 0, .slice none 0 0], .bool false]) (by simp [results, Tryd.results98, go_sem, *]; rfl) rfl ⟨zeroE, by rw [HF.out]; rfl, ?_, ⟨none, 0, 0, rfl⟩, fun h => by rw [HF.out] at h; exact absurd h (by simp)⟩
    exact ((HB2.out.setCell (Nat.le_refl _) _).setCell (Nat.le_refl _) _).setCell (Nat.le_refl _) _
  · rcases hnm : isNameR tName with _ | _
    · have HF := hid' (E2.out hnm)
      have c0 := c 0; have c1 := c 1; have c2 := c 2; have f0 := f 0; have f1 := f 1; have f2 := f 2
      simp at c0 c1 c2 f0 f1 f2
      rw [hnm] at HNM
      clear c f E1 E2 E3 E4 E5 E6 hnm
      go_wp2_with fail
      refine (HNM.out _).mono ?_
      rintro e w3 ⟨rfl, rfl⟩
      go_wp2
      refine bodyPost_ret (v := .tuple #[.agg #[.string ByteArray.empty, .int .i64 0, .slice none 0 0], .bool false]) (by simp [results, Tryd.results98, go_sem, *]; rfl) rfl ⟨zeroE, by rw [HF.out]; rfl, ?_, ⟨none, 0, 0, rfl⟩, fun h => by rw [HF.out] at h; exact absurd h (by simp)⟩
      exact ((HB2.out.setCell (Nat.le_refl _) _).setCell (Nat.le_refl _) _).setCell (Nat.le_refl _) _
    · rw [hnm] at HNM
      have HN3 := hid' (H3.out hnm)
      have HNY := hid' hnm
      clear hnm
      go_wp2_with fail
      refine (HNM.out _).mono ?_
      rintro e w3 ⟨rfl, rfl⟩
      go_wp2_with fail
      refine (HVP.out _).mono ?_
      rintro e w4 ⟨rfl, hb4⟩
      have c' := fun i => ((bcell hb4).1 w.heap.size i hz2).trans (c i)
      have f' := fun i => ((bcell hb4).2 w.heap.size i hz2).trans (f i)
      have hz4 : w.heap.size < w4.heap.size := by have h1 := hb4.size; omega
      have HB4 := hid' (HB2.out.trans (hb4.mono (by omega)))
      have HT4 : Hid (tagOf w4 w.heap.size = some 128) := by unfold Hid; rw [tagOf_below hb4 hz2]; exact HT2.out
      clear hb4 c f
      rcases hvv : versionP tVer with _ | v
      · have HF := hid' (E3.out hvv)
        have c0 := c' 0; have c1 := c' 1; have c2 := c' 2; have f0 := f' 0; have f1 := f' 1; have f2 := f' 2
        simp at c0 c1 c2 f0 f1 f2
        clear c' f' E1 E2 E3 E4 E5 E6 hvv
        simp only [ov, oks, Option.isSome, Option.getD]
        go_wp2
        refine bodyPost_ret (v := .tuple #[.agg #[.string ByteArray.empty, .int .i64 0, .slice none 0 0], .bool false]) (by simp [results, Tryd.results98, go_sem, *]; rfl) rfl ⟨zeroE, by rw [HF.out]; rfl, ?_, ⟨none, 0, 0, rfl⟩, fun h => by rw [HF.out] at h; exact absurd h (by simp)⟩
        exact ((HB4.out.setCell (Nat.le_refl _) _).setCell (Nat.le_refl _) _).setCell (Nat.le_refl _) _
      · have HVV := hid' hvv
        have HBV := hid' (HBD.out v hvv)
        clear hvv
        simp only [ov, oks, Option.isSome, Option.getD]
        cases tHas
        · have HF := hid' (E4.out v (by first | rfl | trivial) HNY.out HVV.out (by first | rfl | trivial))
          have c0 := c' 0; have c1 := c' 1; have c2 := c' 2; have f0 := f' 0; have f1 := f' 1; have f2 := f' 2
          simp at c0 c1 c2 f0 f1 f2
          clear c' f' E1 E2 E3 E4 E5 E6
          go_wp2
          refine bodyPost_ret (v := .tuple #[.agg #[.string (bs tName), .int .i64 v, .slice none 0 0], .bool true]) (by simp [results, Tryd.results98, go_sem, *]) rfl ⟨⟨tName, v, .slice none 0 0, []⟩, by rw [HF.out], ?_, ⟨none, 0, 0, rfl⟩, fun _ => ⟨?_, ?_⟩⟩
          · exact ((HB4.out.setCell (Nat.le_refl _) _).setCell (Nat.le_refl _) _).setCell (Nat.le_refl _) _
          · rw [HEO.out]
            exact ⟨HF.out, rfl, HVV.out, fun _ => rfl, fun h => absurd h (by simp)⟩
          · exact ⟨⟨RowX.nil _ _ _ _, by simp⟩, by simp, HN3.out, HBV.out.1, HBV.out.2⟩
        · rcases hlo : listOkP tTail with _ | _
          · have HF := hid' (E5.out (by first | rfl | trivial) hlo)
            rw [hlo] at HPL
            clear hlo
            go_wp2_with fail
            refine (HPL.out _).mono ?_
            rintro e w5 ⟨ra, rn, rc, rfl, hb5, -⟩
            have c0 := ((bcell hb5).1 w.heap.size 0 hz4).trans (c' 0); have c1 := ((bcell hb5).1 w.heap.size 1 hz4).trans (c' 1); have c2 := ((bcell hb5).1 w.heap.size 2 hz4).trans (c' 2)
            have f0 := ((bcell hb5).2 w.heap.size 0 hz4).trans (f' 0); have f1 := ((bcell hb5).2 w.heap.size 1 hz4).trans (f' 1); have f2 := ((bcell hb5).2 w.heap.size 2 hz4).trans (f' 2)
            simp at c0 c1 c2 f0 f1 f2
            have hz5 : w.heap.size < w5.heap.size := by have h1 := hb5.size; omega
            have HB5 := hid' (HB4.out.trans (hb5.mono (by omega)))
            clear c' f' hb5 E1 E2 E3 E4 E5 E6
            go_wp2
            refine bodyPost_ret (v := .tuple #[.agg #[.string ByteArray.empty, .int .i64 0, .slice none 0 0], .bool false]) (by simp [results, Tryd.results98, go_sem, *]; rfl) rfl ⟨zeroE, by rw [HF.out]; rfl, ?_, ⟨none, 0, 0, rfl⟩, fun h => by rw [HF.out] at h; exact absurd h (by simp)⟩
            exact ((HB5.out.setCell (Nat.le_refl _) _).setCell (Nat.le_refl _) _).setCell (Nat.le_refl _) _
          · have HF := hid' (E6.out v (by first | rfl | trivial) HNY.out HVV.out hlo)
            have HL6 := hid' (H6.out hlo)
            rw [hlo] at HPL
            clear hlo
            go_wp2_with fail
            refine (HPL.out _).mono ?_
            rintro e w5 ⟨ra, rn, rc, rfl, hb5, hxs⟩
            obtain ⟨xs, hx1, hx2⟩ := hxs trivial
            have c0 := ((bcell hb5).1 w.heap.size 0 hz4).trans (c' 0); have c1 := ((bcell hb5).1 w.heap.size 1 hz4).trans (c' 1); have c2 := ((bcell hb5).1 w.heap.size 2 hz4).trans (c' 2)
            have f0 := ((bcell hb5).2 w.heap.size 0 hz4).trans (f' 0); have f1 := ((bcell hb5).2 w.heap.size 1 hz4).trans (f' 1); have f2 := ((bcell hb5).2 w.heap.size 2 hz4).trans (f' 2)
            simp at c0 c1 c2 f0 f1 f2
            have hz5 : w.heap.size < w5.heap.size := by have h1 := hb5.size; omega
            have HB5 := hid' (HB4.out.trans (hb5.mono (by omega)))
            have HX1 := hid' hx1
            have HX2 := hid' hx2
            have HOD : Hid (Odd w5 w.heap.size) := odd_of (t := 128) (by rw [tagOf_below hb5 hz4]; exact HT4.out) (by decide) (by decide)
            have HX3 : Hid ((xs.foldl withN []).length ≤ 6) := by unfold Hid; rw [foldN_len, hx1.1]; simpa using HL6.out
            clear c' f' hb5 hx1 hx2 hxs E1 E2 E3 E4 E5 E6
            go_wp2
            refine bodyPost_ret (v := .tuple #[.agg #[.string (bs tName), .int .i64 v, .slice ra rn rc], .bool true]) (by simp [results, Tryd.results98, go_sem, *]) rfl ⟨⟨tName, v, .slice ra rn rc, xs.foldl withN []⟩, by rw [HF.out], ?_, ⟨ra, rn, rc, rfl⟩, fun _ => ⟨?_, ?_⟩⟩
            · exact ((HB5.out.setCell (Nat.le_refl _) _).setCell (Nat.le_refl _) _).setCell (Nat.le_refl _) _
            · rw [HEO.out]
              exact ⟨HF.out, rfl, HVV.out, fun h => absurd h (by simp), fun _ => ⟨xs, HX1.out, rfl⟩⟩
            · have hb6 := ((But.set w5 w.heap.size 0 (.string (bs tName))).trans (But.set _ w.heap.size 1 (.int .i64 v))).trans (But.set _ w.heap.size 2 (.slice ra rn rc))
              exact ⟨HX2.out.off hb6 HOD.out, HX3.out, HN3.out, HBV.out.1, HBV.out.2⟩

end Hst
end Go.Proofs.YtecocheolbkneaaDoor
namespace Go.Proofs.YtecocheolbkneaaDoor
open Go.RowKit
namespace Hst
set_option maxRecDepth 100000

theorem RowX.grown {α : Type} {f : α → List Value} {size sz T base n : Nat} {t : TypeId} {w w' : World} {v u : Value} {l : List α} {xs : List Value} (h : RowX f size t w v l) (hg : w.grownBy w' u.ownBlock) (ho : w.ownsRow base T sz u n xs) (hne : T ≠ t) : RowX f size t w' v l := by
  obtain ⟨a, cap, e, hr, ht⟩ := h
  have hfar : ∀ g o, 0 < l.length → a = some ⟨g, o, none⟩ → g < w.heap.size → w'.heap[g]? = w.heap[g]? := fun g o h0 ha hlt => by
    refine hg.block g hlt fun hh => hne ?_
    have h1 := tag_of_own ho hh.symm
    rw [ht g o h0 ha] at h1
    simpa using h1.symm
  refine ⟨a, cap, e, ⟨hr.len, hr.cap, fun hn => ?_⟩, fun g o h0 ha => ?_⟩
  · obtain ⟨g, o, ha, hlt, hc⟩ := hr.at' hn
    exact ⟨g, o, ha, Nat.lt_of_lt_of_le hlt hg.size, fun i hi => by rw [World.cell?_of_block (w := w) (hfar g o hn ha hlt)]; exact hc i hi⟩
  · obtain ⟨g', o', ha', hlt, _⟩ := hr.at' h0
    rw [ha] at ha'
    simp at ha'
    have := hfar g o h0 ha (by omega)
    unfold tagOf
    rw [this]
    exact ht g o h0 ha
theorem NeedIn.grown {sz T base n : Nat} {w w' : World} {u : Value} {xs : List Value} {x : NeedX} (h : NeedIn w x) (hg : w.grownBy w' u.ownBlock) (ho : w.ownsRow base T sz u n xs) (h2 : T ≠ 106) : NeedIn w' x :=
  ⟨RowX.grown h.sp hg ho h2, h.ne, h.le, h.nm, h.tx⟩
theorem NeedsIn.grown {sz T base n : Nat} {w w' : World} {u v : Value} {xs : List Value} {l : List NeedX} (h : NeedsIn w v l) (hg : w.grownBy w' u.ownBlock) (ho : w.ownsRow base T sz u n xs) (h1 : T ≠ 86) (h2 : T ≠ 106) : NeedsIn w' v l :=
  ⟨RowX.grown h.1 hg ho h1, fun n hn => (h.2 n hn).grown hg ho h2⟩
theorem EntIn.grown {sz T base n : Nat} {w w' : World} {u : Value} {xs : List Value} {e : EntX} (h : EntIn w e) (hg : w.grownBy w' u.ownBlock) (ho : w.ownsRow base T sz u n xs) (h1 : T ≠ 86) (h2 : T ≠ 106) : EntIn w' e :=
  ⟨h.1.grown hg ho h1 h2, h.2⟩
theorem EntIn.form {w : World} {e : EntX} (h : EntIn w e) : ∃ a c, e.needs = .slice a e.nd.length c := RowX.form h.1.1

theorem EntsOf.nil : EntsOf [] [] := ⟨rfl, by simp⟩
theorem EntsOf.snoc {d : List Tx} {xs : List EntX} {t : Tx} {x : EntX} (h : EntsOf d xs) (hx : EntOf t x) : EntsOf (d ++ [t]) (xs ++ [x]) := by
  refine ⟨by simp [h.1], fun p hp => ?_⟩
  rw [List.zip_append h.1.symm] at hp
  simp only [List.mem_append, List.zip_cons_cons, List.zip_nil_right, List.mem_singleton] at hp
  rcases hp with hp | rfl
  · exact h.2 p hp
  · exact hx
theorem so_long {l : Tx} (h0 : l ≠ []) (h : ¬ (splitL 59 l).length ≤ 40) : stockOkP l = false := by unfold stockOkP; rw [if_neg h0]; simp [h]
theorem so_go {l : Tx} (h0 : l ≠ []) (h : (splitL 59 l).length ≤ 40) : stockOkP l = (splitL 59 l).all entryOkP := by unfold stockOkP; rw [if_neg h0]; simp [h]
theorem info_entX : (Tryd.prog.info? 128).map (fun i => (i.zero, i.size, i.bytes)) = some (some (.agg #[.string ByteArray.empty, .int .i64 0, .slice none 0 0]), 3, 48) := by kernel_rfl
theorem entX_one (n : EntX) {a : Option Addr} {m c : Nat} (h : n.needs = .slice a m c) : ∀ u ∈ entXC n, u.oneCell' = true := by
  intro u hu; simp [entXC, h] at hu; rcases hu with rfl | rfl | rfl <;> rfl

set_option maxHeartbeats 2000000 in
theorem pentries_any (s : ByteArray) (w : World) (hs : s.size ≤ 100000) :
    Calls Tryd.prog 86 #[.string s] w fun e w' => ∃ a n c, e = .returned (.tuple #[.slice a n c, .bool (stockOkP (tx s))]) ∧ Below w.heap.size w w' ∧
      (stockOkP (tx s) = true → ∃ es, StockOf (tx s) es ∧ es.length ≤ 40 ∧ EntsIn w' (.slice a n c) es) := by
  obtain ⟨i0, hi, hz0, hz1, hz2⟩ := info_parts info_entX
  by_cases h0 : tx s = []
  · have hb : (s.toList == []) = true := by rw [tx_toList, h0]; rfl
    have HF : Hid (stockOkP (tx s) = true) := by unfold Hid stockOkP; rw [if_pos h0]
    have H0 := hid' h0
    clear h0
    go_enter Tryd.func86, Tryd.ntmps86
    go_wp2
    go_ret2
    exact ⟨none, 0, 0, by rw [HF.out]; rfl, Below.refl _ _, fun _ => ⟨[], ⟨fun _ => rfl, fun h => absurd H0.out h⟩, by simp, RowX.nil _ _ _ _, by simp⟩⟩
  · have hb : (s.toList == []) = false := by rw [tx_toList]; exact beq_eq_false_iff_ne.2 h0
    have HLO := hid' (so_long h0)
    have HGO := hid' (so_go h0)
    have HST : Hid (∀ es, EntsOf (splitL 59 (tx s)) es → StockOf (tx s) es) := fun es h => ⟨fun e => absurd e h0, fun _ => h⟩
    have HPS : Hid (∀ j (hj : j < (splitL 59 (tx s)).length), (bs (splitL 59 (tx s))[j]).size ≤ 100000) := fun j hj => by have := piece_size 59 s j hj; omega
    clear h0
    go_enter Tryd.func86, Tryd.ntmps86
    go_wp2_with fail
    refine (psplit_any s 59 _ hs).mono ?_
    rintro e w1 ⟨v, rfl, hrow, hb1⟩
    have hrx := hrow.rowx
    obtain ⟨ta, tc, rfl⟩ := hrx.form
    have HRX := hid' hrx
    have HB1 := hid' hb1
    have hz1' := hb1.size
    clear hrow hrx hb1
    generalize splitL 59 (tx s) = d at *
    by_cases h6 : d.length ≤ 40
    · have HG := hid' (HGO.out h6)
      have hb6 : ¬ (40 : Int) < (d.length : Int) := by omega
      clear HLO HGO
      go_wp2
      go_loopw [5, 19] (fun v i wr => ∃ (k : Nat) (es : List EntX), k ≤ d.length ∧ es.length = k ∧ i = .int .i64 k ∧ wr.ownsRow w1.heap.size 128 3 v es.length (es.flatMap entXC) ∧ Below w1.heap.size w1 wr ∧ Hid ((∀ e ∈ es, EntIn wr e) ∧ EntsOf (d.take k) es ∧ stockOkP (tx s) = (d.drop k).all entryOkP)) (fun _ i _ => d.length - (intOf i).toNat)
      case atStart => exact ⟨0, [], Nat.zero_le _, rfl, rfl, World.ownsRow_nil _ _ _ _, Below.refl _ _, ⟨by simp, by simpa using EntsOf.nil, by rw [HG.out]; rfl⟩⟩
      case round =>
        obtain ⟨k, es, hk, hes, rfl, hown, hbel, hall⟩ := hrel
        have hz := hbel.size
        have HES := hid' hes
        clear hes
        by_cases hlt : k < d.length
        · obtain ⟨g, o, cap', hv, hg, hc⟩ := (HRX.out.below hbel).strs hlt
          simp at hv
          obtain ⟨rfl, rfl⟩ := hv
          have c0 := hc k hlt
          have HP := hid' (fun w => pentry_any (bs d[k]) w (HPS.out k hlt))
          rw [tx_bs] at HP
          clear hc
          rcases hok : entryOkP d[k] with _ | _
          · have HF : Hid (stockOkP (tx s) = false) := by unfold Hid; rw [hall.out.2.2, pl_no entryOkP d k hlt hok]
            rw [hok] at HP
            clear hok hall
            generalize bs d[k] = q at *
            go_wp2_with fail
            refine (HP.out _).mono ?_
            rintro e w2 ⟨x, rfl, hb2, ⟨sa, sn, sc, hsp⟩, -⟩
            obtain ⟨xn, xv, xsp, xd⟩ := x
            simp only at hsp
            subst hsp
            have hz2' := hb2.size
            have HB := hid' (HB1.out.trans ((hbel.trans (hb2.mono hz)).mono hz1'))
            clear hb2 hbel
            go_wp2
            go_ret2
            refine ⟨none, 0, 0, by rw [HF.out]; rfl, HB.out.alloc (by omega) _, fun h => by rw [HF.out] at h; exact absurd h (by simp)⟩
          · have HF : Hid (stockOkP (tx s) = (d.drop (k + 1)).all entryOkP) := by unfold Hid; rw [hall.out.2.2, pl_yes entryOkP d k hlt hok]
            have HD : Hid (∀ x, EntOf d[k] x → EntsOf (d.take (k + 1)) (es ++ [x])) := fun x hx => by
              rw [List.take_succ_eq_append_getElem hlt]; exact hall.out.2.1.snoc hx
            have HEI := hid' hall.out.1
            rw [hok] at HP
            clear hok hall
            generalize d[k] = t at *
            generalize bs t = q at *
            go_wp2_with fail
            refine (HP.out _).mono ?_
            rintro e w2 ⟨x, rfl, hb2, ⟨sa, sn, sc, hsp⟩, hx⟩
            obtain ⟨hx1, hx2⟩ := hx trivial
            have hz2' := hb2.size
            have hown2 := own_below hown hb2
            have HNO := hid' (HD.out x hx1)
            have HX2 := hid' hx2
            have HB2 := hid' hb2
            obtain ⟨xn, xv, xsp, xd⟩ := x
            simp only at hsp
            subst hsp
            have hle : es.length ≤ 40 := by have := HES.out; omega
            clear hx hx1 hx2 hb2 HD
            go_wp2_with (first | (at_builtin; refine wpList_append_lies _ rfl _ _ 91 rfl w1.heap.size 128 i0 (.agg #[.string ByteArray.empty, .int .i64 0, .slice none 0 0]) 3 48 Tryd.underlying91 hi hz0 hz1 hz2 rfl (by omega) _ _ _ rfl ((hown2.alloc _).alloc _) ⟨w2.heap.size + 1, 0, none⟩ 1 1 [.string (bs xn), .int .i64 xv, .slice sa sn sc] rfl rfl (news_3b _ _ _ _ _ _) (entX_one ⟨xn, xv, _, xd⟩ rfl) (by omega) (by unfold maxLen; omega) (by omega) (by simp; omega) (w2.heap.size + 2) (by simp) ?_; intro g1 cap1 w3 hown3 hgrow hat hlt1))
            have hba := (HB2.out.alloc hz2' (.cells #[.string (bs xn), .int .i64 xv, .slice sa sn sc] 128)).alloc (by simp; omega) (.cells #[.string (bs xn), .int .i64 xv, .slice sa sn sc] 128)
            have R := step_gen2 entXC (x := ⟨xn, xv, .slice sa sn sc, xd⟩) rfl hown hbel hba hown3 hgrow
            have hba2 := ((Below.refl w2.heap.size w2).alloc (Nat.le_refl _) (.cells #[.string (bs xn), .int .i64 xv, .slice sa sn sc] 128)).alloc (by simp) (.cells #[.string (bs xn), .int .i64 xv, .slice sa sn sc] 128)
            have HIN : Hid (∀ e ∈ es ++ [(⟨xn, xv, .slice sa sn sc, xd⟩ : EntX)], EntIn w3 e) := by
              intro e he
              simp only [List.mem_append, List.mem_singleton] at he
              rcases he with he | rfl
              · exact ((HEI.out e he).below hba).grown hgrow ((hown2.alloc _).alloc _) (by decide) (by decide)
              · exact (HX2.out.below hba2).grown hgrow ((hown2.alloc _).alloc _) (by decide) (by decide)
            clear hown3 hgrow hown hown2 hba hba2
            go_wp2
            go_roundw
            case rel => exact ⟨k + 1, _, by omega, by have := HES.out; simp; omega, by go_num, R.1, R.2, ⟨HIN.out, HNO.out, HF.out⟩⟩
            case measure => simp [intOf] <;> omega
        · have HF : Hid (stockOkP (tx s) = true) := by unfold Hid; rw [hall.out.2.2, pl_end entryOkP d k hlt]
          have HNO : Hid (EntsOf d es) := by have h := hall.out.2.1; rw [List.take_of_length_le (by omega)] at h; exact h
          have HB := hid' (HB1.out.trans (hbel.mono hz1'))
          have HEI := hid' hall.out.1
          obtain ⟨va, vc, rfl⟩ := own_slice hown
          have HO := hid' hown
          clear hall hbel hown
          go_wp2
          go_ret2
          exact ⟨va, es.length, vc, by rw [HF.out]; rfl, HB.out, fun _ => ⟨es, HST.out es HNO.out, by have := HES.out; omega, RowX.of_own HO.out, HEI.out⟩⟩
    · have HF := hid' (HLO.out h6)
      have hb6 : (40 : Int) < (d.length : Int) := by omega
      clear HLO HGO
      go_wp2
      go_ret2
      exact ⟨none, 0, 0, by rw [HF.out]; rfl, HB1.out, fun h => by rw [HF.out] at h; exact absurd h (by simp)⟩

end Hst
end Go.Proofs.YtecocheolbkneaaDoor
namespace Go.Proofs.YtecocheolbkneaaDoor
open Go.RowKit
namespace Hst
set_option maxRecDepth 100000

theorem info_item : (Tryd.prog.info? 58).map (fun i => (i.zero, i.size, i.bytes)) = some (some (.agg #[.int .i64 0, .int .i64 0, .int .i64 0, .slice none 0 0]), 4, 48) := by kernel_rfl
theorem item_one {x : ItemX} {a : Option Addr} {n c : Nat} (h : x.wv = .slice a n c) : ∀ u ∈ itemC x, u.oneCell' = true := by intro u hu; simp [itemC] at hu; rcases hu with rfl | rfl | rfl | rfl <;> first | rfl | (rw [h]; rfl)
/-- A want's row that is told from rows of other types. -/
abbrev WantsX (w : World) (v : Value) (l : List WantX) : Prop := RowX wantC 4 52 w v l
theorem ItemIn.of_x {w : World} {x : ItemX} (h : WantsX w x.wv x.wants) : ItemIn w x := by
  obtain ⟨a, c, e, hr, _⟩ := h
  exact ⟨a, c, e, hr⟩

/-- Items that are told from rows of other types. -/
structure ItemsX (w : World) (a : Option Addr) (cap : Nat) (l : List ItemX) : Prop where
  row : RowX itemC 4 58 w (.slice a l.length cap) l
  each : ∀ x ∈ l, WantsX w x.wv x.wants
theorem ItemsX.r {w : World} {a : Option Addr} {cap : Nat} {l : List ItemX} (h : ItemsX w a cap l) : ItemsR w a cap l := by
  obtain ⟨a', c', e, hr, _⟩ := h.row
  simp at e
  obtain ⟨rfl, rfl⟩ := e
  exact ⟨hr, fun x hx => ItemIn.of_x (h.each x hx)⟩

set_option maxHeartbeats 8000000 in
theorem stocked_any (a : Option Addr) (cap : Nat) (l : List ItemX) (w : World) (hr : ItemsR w a cap l) (hl : l.length ≤ 9223372036854775807) (hwl : ∀ x ∈ l, x.wants.length ≤ 9223372036854775807) (hok : ∀ x ∈ l, ItemOk x) :
    Calls Tryd.prog 17 #[.slice a l.length cap] w fun e w' => ∃ (oa : Option Addr) (oc : Nat) (out : List ItemX), e = .returned (.slice oa out.length oc) ∧ ItemsX w' oa oc out ∧ out.map bare = stockedK (l.map bare) ∧ out.length ≤ 40 ∧ (∀ x ∈ out, ItemOk x ∧ x.wants.length ≤ 6) ∧ Below w.heap.size w w' := by
  obtain ⟨i0, hi, iz0, iz1, iz2⟩ := info_parts info_item
  have HR := hid' hr
  have HO := hid' hok
  have HWL := hid' hwl
  have HE : Hid (stockedK (l.map bare) = stockedGo [] ((l.drop 0).map bare)) := rfl
  generalize stockedK (l.map bare) = res at *
  clear hr hok hwl
  go_enter Tryd.func17, Tryd.ntmps17
  go_wp2
  go_loopw [3, 4] (fun v i wr => ∃ (k : Nat) (out : List ItemX), k ≤ l.length ∧ out.length ≤ 40 ∧ i = .int .i64 k ∧ wr.ownsRow w.heap.size 58 4 v out.length (out.flatMap itemC) ∧ Below w.heap.size w wr ∧ Hid ((∀ x ∈ out, ItemOk x ∧ x.wants.length ≤ 6) ∧ (∀ x ∈ out, WantsX wr x.wv x.wants) ∧ res = stockedGo (out.map bare) ((l.drop k).map bare))) (fun _ i _ => l.length - (intOf i).toNat)
  case atStart => exact ⟨0, [], Nat.zero_le _, by simp, rfl, World.ownsRow_nil _ _ _ _, Below.refl _ _, ⟨by simp, by simp, HE.out⟩⟩
  case round =>
    obtain ⟨k, out, hk, hol, rfl, hown, hbel, hall⟩ := hrel
    have hz := hbel.size
    obtain ⟨va, vc, rfl⟩ := own_slice hown
    have HOK := hid' hall.out.1
    have HWX := hid' hall.out.2.1
    have HRE := hid' hall.out.2.2
    clear hall
    have fin : (¬ k < l.length ∨ 40 ≤ out.length) → out.map bare = res := fun h => by
      rw [HRE.out]
      rcases h with h | h
      · exact (sk_end _ l k h).symm
      · exact (sk_full _ _ (by simpa using h)).symm
    have HIT : Hid (ItemsX wr va vc out) := ⟨RowX.of_own hown, HWX.out⟩
    by_cases hlt : k < l.length
    · by_cases h6 : 40 ≤ out.length
      · have HF := hid' (fin (.inr h6))
        have b6 : ¬ (out.length : Int) < 40 := by omega
        have k1 : (k : Int) < (l.length : Int) := by omega
        clear hown fin
        go_wp2
        go_ret
        exact ⟨va, vc, out, rfl, HIT.out, HF.out, hol, HOK.out, hbel⟩
      · have b6 : (out.length : Int) < 40 := by omega
        have k0 : (0 : Int) ≤ (k : Int) := by omega
        have k1 : (k : Int) < (l.length : Int) := by omega
        have hmem : l[k] ∈ l := List.getElem_mem hlt
        have hxo := HO.out l[k] hmem
        have P1 := hid' (sk_old (out.map bare) l k hlt (by simpa using h6))
        have P2 := hid' (sk_new (out.map bare) l k hlt (by simpa using h6))
        obtain ⟨xva, xvc, xe, xr⟩ := HR.out.each _ hmem
        have HCX : Hid (∀ (W : World), Below w.heap.size w W → ∃ g o, a = some ⟨g, o, none⟩ ∧ g < W.heap.size ∧ W.cell? ⟨g, o + k * 4, none⟩ = some (.int .i64 l[k].name) ∧ W.cell? ⟨g, o + k * 4 + 1, none⟩ = some (.int .i64 l[k].major) ∧ W.cell? ⟨g, o + k * 4 + 2, none⟩ = some (.int .i64 l[k].minor) ∧ W.cell? ⟨g, o + k * 4 + 3, none⟩ = some (.slice xva l[k].wants.length xvc)) := fun W hb => by
          obtain ⟨g, o, ha, hg, hc⟩ := (HR.out.row.below hb).items rfl hlt
          have := hc k hlt
          rw [xe] at this
          exact ⟨g, o, ha, hg, this⟩
        have HPX := hid' (fun W (hb : Below w.heap.size w W) => plain_any xva xvc l[k].wants W (xr.below hb) (HWL.out _ hmem) hxo.wants)
        have HHX := hid' (fun w => head_any l[k].name l[k].major l[k].minor xva l[k].wants.length xvc w hxo.name hxo.major hxo.minor)
        have HXO := hid' hxo
        generalize hx : l[k] = x at *
        clear hx hxo fin hmem xe xr HIT
        obtain ⟨wo, rfl⟩ : ∃ wo, wo = wr := ⟨_, rfl⟩
        have HBO := hid' hbel
        have HWO := hid' hown
        clear hbel hown
        go_wp2
        go_loopw [5, 6] (fun t i wr => ∃ (j : Nat), j ≤ out.length ∧ t = .bool (((out.map bare).take j).any (sameH (bare x))) ∧ i = .int .i64 j ∧ Below wo.heap.size wo wr) (fun _ i _ => out.length - (intOf i).toNat)
        case atStart => exact ⟨0, Nat.zero_le _, rfl, rfl, Below.refl _ _⟩
        case round =>
          obtain ⟨j, hj, rfl, rfl, hbel2⟩ := hrel
          have hz2 := hbel2.size
          have HB2 := hid' (HBO.out.trans (hbel2.mono hz))
          have hown2 := own_below HWO.out hbel2
          obtain ⟨g, o, rfl, hg, c0, c1, c2, c3⟩ := HCX.out wr HB2.out
          by_cases hjl : j < out.length
          · obtain ⟨g2, o2, hv2, hg2, hc2⟩ := (RowR.of_own hown2).items rfl hjl
            subst hv2
            obtain ⟨d0, d1, d2, d3⟩ := hc2 j hjl
            have hym := List.getElem_mem hjl
            obtain ⟨yva, yvc, ye⟩ := RowX.form (HWX.out _ hym)
            rw [ye] at d3
            have hyo := (HOK.out _ hym).1
            have HHY := hid' (fun w => head_any out[j].name out[j].major out[j].minor yva out[j].wants.length yvc w hyo.name hyo.major hyo.minor)
            have HT : Hid (((out.map bare).take (j + 1)).any (sameH (bare x)) = (((out.map bare).take j).any (sameH (bare x)) || sameH (bare x) (bare out[j]))) := by
              unfold Hid
              have := any_take (sameH (bare x)) (out.map bare) j (by simpa using hjl)
              rw [this, List.getElem_map]
            have HSN : Hid (sameH (bare x) (bare out[j]) = ((bs (headK out[j].name out[j].major out[j].minor)).toList == (bs (headK x.name x.major x.minor)).toList)) := by
              unfold Hid sameH headP bare
              rw [tx_toList, tx_toList, tx_bs, tx_bs]
              simp only
              by_cases e : headK out[j].name out[j].major out[j].minor = headK x.name x.major x.minor
              · simp [e]
              · simp [e]
            clear hc2 hym ye hyo
            generalize sameH (bare x) (bare out[j]) = sb at *
            generalize ((out.map bare).take j).any (sameH (bare x)) = tb at *
            generalize out[j] = y at *
            generalize bs (headK y.name y.major y.minor) = by1 at *
            generalize bs (headK x.name x.major x.minor) = bx1 at *
            have j0 : (0 : Int) ≤ (j : Int) := by omega
            have j1 : (j : Int) < (out.length : Int) := by omega
            go_wp2_with fail
            refine (HHY.out _).mono ?_
            rintro e w2 ⟨rfl, hb2⟩
            have hcc := (bcell hb2).1
            have e0 := (hcc g (o + k * 4) hg).trans c0
            have e1 := (hcc g (o + k * 4 + 1) hg).trans c1
            have e2 := (hcc g (o + k * 4 + 2) hg).trans c2
            have e3 := (hcc g (o + k * 4 + 3) hg).trans c3
            have hg3 : g < w2.heap.size := by have := hb2.size; omega
            have HB3 := hid' (hbel2.trans (hb2.mono hz2))
            have hz3 := HB3.out.size
            clear hb2 hbel2 c0 c1 c2 c3 d0 d1 d2 d3 hcc
            go_wp2_with fail
            refine (HHX.out _).mono ?_
            rintro e w3 ⟨rfl, hb3⟩
            have HB4 := hid' (HB3.out.trans (hb3.mono hz3))
            clear hb3
            cases tb
            · have hbb : (by1.toList == bx1.toList) = sb := HSN.out.symm
              go_wp2
              go_roundw
              case rel => exact ⟨j + 1, by omega, by rw [HT.out]; simp, by go_num, HB4.out⟩
              case measure => simp [intOf] <;> omega
            · go_wp2
              go_roundw
              case rel => exact ⟨j + 1, by omega, by rw [HT.out]; simp, by go_num, HB4.out⟩
              case measure => simp [intOf] <;> omega
          · have ej : j = out.length := by omega
            subst ej
            have HTL : Hid ((out.map bare).take out.length = out.map bare) := by unfold Hid; rw [← List.length_map (f := bare), List.take_length]
            rw [HTL.out]
            rcases hany : (out.map bare).any (sameH (bare x)) with _ | _
            · have HF : Hid (res = stockedGo (out.map bare ++ [⟨x.name, x.major, x.minor, plainK x.wants⟩]) ((l.drop (k + 1)).map bare)) := by unfold Hid; rw [HRE.out]; exact P2.out hany
              clear hany P1 P2
              have HPI : Hid (∀ y ∈ plainK x.wants, WantOk y) := fun y hy => HXO.out.wants y (plainK_in hy)
              have HPL := hid' (plainK_len x.wants)
              obtain ⟨xn, xa, xi, xv, xw⟩ := x
              simp only at c0 c1 c2 c3 HF HPI HPL HPX
              have hba := (Below.refl wr.heap.size wr).alloc (Nat.le_refl _) (.cells #[.int .i64 xn, .int .i64 xa, .int .i64 xi, .slice xva xw.length xvc] 58)
              have HBA := hid' (HB2.out.trans (hba.mono (by have := HB2.out.size; omega)))
              have HBB := hid' hba
              clear hba
              have HPX' := hid' (HPX.out _ HBA.out)
              generalize plainK xw = pw at *
              go_wp2_with fail
              refine HPX'.out.mono ?_
              rintro e w2 ⟨pv, rfl, hpo, hb2⟩
              obtain ⟨pa, pc, rfl⟩ := own_slice hpo
              have hz3 := hb2.size
              simp at hz3
              have hcc := (bcell hb2).1
              have f0 := hcc wr.heap.size 0 (by simp)
              have f1 := hcc wr.heap.size 1 (by simp)
              have f2 := hcc wr.heap.size 2 (by simp)
              have f3 := hcc wr.heap.size 3 (by simp)
              simp at f0 f1 f2 f3
              have fz := (bcell hb2).2 wr.heap.size 3 (by simp)
              simp at fz
              have hsl : wr.heap.size < w2.heap.size := by omega
              have hb3 := HBB.out.trans (hb2.mono (by simp))
              have hb4 := hb3.setCell (p := ⟨wr.heap.size, 3, none⟩) (Nat.le_refl _) (.slice pa pw.length pc)
              have htg : tagOf w2 wr.heap.size = some 58 := (tagOf_below hb2 (by simp)).trans (tag_new _ _ _)
              have hpx : WantsX (w2.setCell ⟨wr.heap.size, 3, none⟩ (.slice pa pw.length pc)) (.slice pa pw.length pc) pw := RowX.off (RowX.of_own hpo) (But.set w2 wr.heap.size 3 _) (by rw [htg]; decide)
              have hown3 := own_below hown2 hb4
              have HPX3 := hid' hpx
              have HB4 := hid' hb4
              have HWX3 : Hid (∀ x ∈ out, WantsX (w2.setCell ⟨wr.heap.size, 3, none⟩ (.slice pa pw.length pc)) x.wv x.wants) := fun y hy => RowX.below (RowX.below (HWX.out y hy) hbel2) hb4
              have HSZ : Hid ((w2.setCell ⟨wr.heap.size, 3, none⟩ (.slice pa pw.length pc)).heap.size = w2.heap.size) := by unfold Hid; simp
              clear hpo hb2 hcc hb3 hb4 hpx htg
              go_wp2_with (first | (at_builtin; refine wpList_append_lies _ rfl _ _ 38 rfl w.heap.size 58 i0 (.agg #[.int .i64 0, .int .i64 0, .int .i64 0, .slice none 0 0]) 4 48 Tryd.underlying38 hi iz0 iz1 iz2 rfl (by omega) _ _ _ rfl (hown3.alloc _) ⟨w2.heap.size, 0, none⟩ 1 1 [.int .i64 xn, .int .i64 xa, .int .i64 xi, .slice pa pw.length pc] rfl rfl (by have h := knews_4 (w2.setCell ⟨wr.heap.size, 3, none⟩ (.slice pa pw.length pc)) (.int .i64 xn) (.int .i64 xa) (.int .i64 xi) (.slice pa pw.length pc) 58; rw [HSZ.out] at h; exact h) (item_one (x := ⟨xn, xa, xi, .slice pa pw.length pc, pw⟩) rfl) (by omega) (by unfold maxLen; omega) (by omega) (by simp; omega) (w2.heap.size + 1) (by simp) ?_; intro g1 cap1 w4 hown4 hgrow hat hlt1))
              have hal := HB4.out.alloc (B := wr.heap.size) (by rw [HSZ.out]; omega) (.cells #[.int .i64 xn, .int .i64 xa, .int .i64 xi, .slice pa pw.length pc] 58)
              have R := step_gen2 itemC (x := ⟨xn, xa, xi, .slice pa pw.length pc, pw⟩) rfl hown2 HB2.out hal hown4 hgrow
              have hab := (Below.refl _ (w2.setCell ⟨wr.heap.size, 3, none⟩ (.slice pa pw.length pc))).alloc (Nat.le_refl _) (.cells #[.int .i64 xn, .int .i64 xa, .int .i64 xi, .slice pa pw.length pc] 58)
              have HFI : Hid ((∀ x ∈ out ++ [(⟨xn, xa, xi, .slice pa pw.length pc, pw⟩ : ItemX)], ItemOk x ∧ x.wants.length ≤ 6) ∧ (∀ x ∈ out ++ [(⟨xn, xa, xi, .slice pa pw.length pc, pw⟩ : ItemX)], WantsX w4 x.wv x.wants) ∧ res = stockedGo ((out ++ [(⟨xn, xa, xi, .slice pa pw.length pc, pw⟩ : ItemX)]).map bare) ((l.drop (k + 1)).map bare)) := by
                refine ⟨fun y hy => ?_, fun y hy => ?_, by rw [HF.out, List.map_append]; rfl⟩
                · rcases List.mem_append.1 hy with hy | hy
                  · exact HOK.out y hy
                  · rw [List.mem_singleton.1 hy]
                    exact ⟨⟨HXO.out.name, HXO.out.major, HXO.out.minor, HPI.out⟩, HPL.out⟩
                · rcases List.mem_append.1 hy with hy | hy
                  · exact RowX.grown (RowX.below (HWX3.out y hy) hab) hgrow (hown3.alloc _) (by decide)
                  · rw [List.mem_singleton.1 hy]
                    exact RowX.grown (RowX.below HPX3.out hab) hgrow (hown3.alloc _) (by decide)
              clear hown4 hgrow hown2 hown3 hal hab
              go_wp2
              go_roundw
              case rel => exact ⟨k + 1, _, by omega, by simp; omega, by go_num, R.1, R.2, HFI⟩
              case measure => simp [intOf] <;> omega
            · have HF : Hid (res = stockedGo (out.map bare) ((l.drop (k + 1)).map bare)) := by unfold Hid; rw [HRE.out]; exact P1.out hany
              clear hany P1 P2
              have HWX2 : Hid (∀ x ∈ out, WantsX wr x.wv x.wants) := fun y hy => RowX.below (HWX.out y hy) hbel2
              go_wp2
              go_roundw
              case rel => exact ⟨k + 1, out, by omega, hol, by go_num, hown2, HB2.out, ⟨HOK.out, HWX2.out, HF.out⟩⟩
              case measure => simp [intOf] <;> omega
    · have HF := hid' (fin (.inl hlt))
      have k1 : ¬ (k : Int) < (l.length : Int) := by omega
      clear hown fin
      go_wp2
      go_ret
      exact ⟨va, vc, out, rfl, HIT.out, HF.out, hol, HOK.out, hbel⟩

end Hst
end Go.Proofs.YtecocheolbkneaaDoor
namespace Go.Proofs.YtecocheolbkneaaDoor
open Go.RowKit
namespace Hst
set_option maxRecDepth 100000

theorem foldersGo_len (p : Tx) : ∀ i, (foldersGo p i).length ≤ i + 1
  | 0 => by simp only [foldersGo]; split <;> simp
  | i + 1 => by
    have := foldersGo_len p i
    simp only [foldersGo]
    split
    · simp; omega
    · omega
/-- What is still to come when the counter stands at i (an int: -1 at the end). -/
def foldersTo (p : Tx) (i : Int) : List Tx := if i < 0 then [] else foldersGo p i.toNat
theorem to_yes (p : Tx) (i : Nat) (h : isEnd p i = true) : foldersTo p i = p.take i :: foldersTo p ((i : Int) - 1) := by
  unfold foldersTo
  rw [if_neg (by omega)]
  cases i with
  | zero => simp [foldersGo, h]
  | succ k =>
    rw [if_neg (by omega)]
    have e : (((k + 1 : Nat) : Int) - 1).toNat = k := by omega
    rw [e]; simp [foldersGo, h]
theorem to_no (p : Tx) (i : Nat) (h : isEnd p i = false) : foldersTo p i = foldersTo p ((i : Int) - 1) := by
  unfold foldersTo
  rw [if_neg (by omega)]
  cases i with
  | zero => simp [isEnd] at h
  | succ k =>
    rw [if_neg (by omega)]
    have e : (((k + 1 : Nat) : Int) - 1).toNat = k := by omega
    rw [e]; simp [foldersGo, h]
theorem end_of {s : ByteArray} {i : Nat} (h : i < s.size) : isEnd (tx s) i = (decide (i = 0) || decide (s[i] = 47)) := by
  have hl := tx_length s
  unfold isEnd
  have e : (tx s).getD i 0 = s[i] := by
    rw [List.getD_eq_getElem?_getD, List.getElem?_eq_getElem (by omega)]; rfl
  rw [e, hl]
  have : decide (i = s.size) = false := by simp; omega
  rw [this, Bool.false_or]

theorem RowV {w : World} {base : Nat} {v : Value} {d : List Tx} (h : Row w base v d) : ∃ a cap, v = .slice a d.length cap ∧ StrsR w a d.length cap d := by
  obtain ⟨a, cap, rfl⟩ := own_slice h
  exact ⟨a, cap, rfl, StrsR.of_row h rfl⟩
theorem foldersGo_mem (p : Tx) : ∀ (i : Nat), ∀ x ∈ foldersGo p i, x.length ≤ p.length
  | 0, x, h => by
    simp only [foldersGo] at h
    split at h
    · simp at h; subst h; simp
    · simp at h
  | i + 1, x, h => by
    simp only [foldersGo] at h
    split at h
    · simp only [List.mem_cons] at h
      rcases h with rfl | h
      · simp; exact Nat.min_le_right _ _
      · exact foldersGo_mem p i x h
    · exact foldersGo_mem p i x h
theorem foldersR_mem {p x : Tx} (h : x ∈ foldersR p) : x.length ≤ p.length := foldersGo_mem p _ x h
theorem foldersR_len (p : Tx) : (foldersR p).length ≤ p.length + 1 := foldersGo_len p _
theorem fg_yes (l : List PackD) (name : Tx) (f : List Tx) (k j : Nat) (hk : k < f.length) (h : atR l (joinR f[k] name) = some j) : findGo l name (f.drop k) = some j := by
  rw [List.drop_eq_getElem_cons hk]; simp [findGo, h]
theorem fg_no (l : List PackD) (name : Tx) (f : List Tx) (k : Nat) (hk : k < f.length) (h : atR l (joinR f[k] name) = none) : findGo l name (f.drop k) = findGo l name (f.drop (k + 1)) := by
  rw [List.drop_eq_getElem_cons hk]; simp [findGo, h]
theorem fg_end (l : List PackD) (name : Tx) (f : List Tx) (k : Nat) (hk : ¬ k < f.length) : findGo l name (f.drop k) = none := by
  rw [List.drop_of_length_le (by omega)]; rfl

end Hst
end Go.Proofs.YtecocheolbkneaaDoor
