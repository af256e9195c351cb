/- Pstocka, Pstockb, Ptreea -/
import Derived.Test.YtpokdndhemlomaaGreatDoorW11
import Derived.Test.YtpokdndhemlomaaGreatDoorW09
namespace Go.Proofs.YtpokdndhemlomaaGreatDoor
open Go.RowKit
namespace Hst
set_option maxRecDepth 100000

theorem cut_len (n : Int) : ∀ l : Tx, (cutR n l).1.length ≤ l.length ∧ (cutR n l).2.1.length ≤ l.length
  | [] => by simp [cutR]
  | b :: r => by
    have ih := cut_len n r
    simp only [cutR]
    split
    · simp
    · simp; omega
theorem eo1 {l : Tx} (h : eAt l = false) : entryOkP l = false := by unfold entryOkP; rw [h]; rfl
theorem eo2 {l : Tx} (h : isNameR (eName l) = false) : entryOkP l = false := by unfold entryOkP; rw [h]; simp
theorem eo3 {l : Tx} (h : versionP (eVer l) = none) : entryOkP l = false := by unfold entryOkP; rw [h]; simp [oks]
theorem eo4 {l : Tx} {v : Int} (h1 : eAt l = true) (h2 : isNameR (eName l) = true) (h3 : versionP (eVer l) = some v) (h4 : eHas l = false) : entryOkP l = true := by unfold entryOkP; rw [h1, h2, h3, h4]; rfl
theorem eo5 {l : Tx} (h4 : eHas l = true) (h5 : listOkP (eTail l) = false) : entryOkP l = false := by unfold entryOkP; rw [h4, h5]; simp
theorem eo6 {l : Tx} {v : Int} (h1 : eAt l = true) (h2 : isNameR (eName l) = true) (h3 : versionP (eVer l) = some v) (h5 : listOkP (eTail l) = true) : entryOkP l = true := by unfold entryOkP; rw [h1, h2, h3, h5]; simp [oks]
theorem ok_6 {l : Tx} (h : listOkP l = true) : (splitL 44 l).length ≤ 6 := by
  unfold listOkP at h; simp at h; exact h.1

set_option maxHeartbeats 4000000 in
theorem pentry_any (s : ByteArray) (w : World) (hs : s.size ≤ 100000) :
    Calls Tryz.prog 138 #[.string s] w fun e w' => ∃ x : EntX, e = .returned (.tuple #[entXV x, .bool (entryOkP (tx s))]) ∧ Below w.heap.size w w' ∧ (∃ a n c, x.needs = .slice a n c) ∧ (entryOkP (tx s) = true → EntOf (tx s) x ∧ EntIn w' x) := by
  have HC1 := hid' (fun w => pcut_any s 58 w (by omega))
  have hl1 := cut_len 58 (tx s)
  rw [tx_length] at hl1
  have HC2 := hid' (fun w => pcut_any (bs (cutR 58 (tx s)).1) 64 w (by rw [bs_size]; omega))
  rw [tx_bs] at HC2
  have hl2 := cut_len 64 (cutR 58 (tx s)).1
  have HNM := hid' (fun w => isNameP_any (bs (cutR 64 (cutR 58 (tx s)).1).1) w (by rw [bs_size]; omega))
  rw [tx_bs] at HNM
  have HVP := hid' (fun w => vparse_any (bs (cutR 64 (cutR 58 (tx s)).1).2.1) w)
  rw [tx_bs] at HVP
  have HPL := hid' (fun w => plist_any (bs (cutR 58 (tx s)).2.1) w (by rw [bs_size]; omega))
  rw [tx_bs] at HPL
  have E1 := hid' (eo1 (l := tx s)); have E2 := hid' (eo2 (l := tx s)); have E3 := hid' (eo3 (l := tx s))
  have E4 := hid' (fun v => eo4 (l := tx s) (v := v)); have E5 := hid' (eo5 (l := tx s)); have E6 := hid' (fun v => eo6 (l := tx s) (v := v))
  have HEO : Hid (∀ e : EntX, EntOf (tx s) e = (entryOkP (tx s) = true ∧ e.name = eName (tx s) ∧ versionP (eVer (tx s)) = some e.ver ∧ (eHas (tx s) = false → e.nd = []) ∧ (eHas (tx s) = true → ∃ xs, NeedsOf (splitL 44 (eTail (tx s))) xs ∧ e.nd = xs.foldl withN []))) := fun _ => rfl
  have e1 : eAt (tx s) = (cutR 64 (cutR 58 (tx s)).1).2.2 := rfl
  have e2 : eName (tx s) = (cutR 64 (cutR 58 (tx s)).1).1 := rfl
  have e3 : eVer (tx s) = (cutR 64 (cutR 58 (tx s)).1).2.1 := rfl
  have e4 : eHas (tx s) = (cutR 58 (tx s)).2.2 := rfl
  have e5 : eTail (tx s) = (cutR 58 (tx s)).2.1 := rfl
  rw [← e1, ← e2, ← e3] at HC2
  rw [← e2] at HNM
  rw [← e3] at HVP
  rw [← e4, ← e5] at HC1
  rw [← e5] at HPL
  clear e1 e2 e3 e4 e5 hl1 hl2
  generalize bs (cutR 58 (tx s)).1 = hd at *
  generalize eAt (tx s) = tAt at *
  generalize eName (tx s) = tName at *
  generalize eVer (tx s) = tVer at *
  generalize eHas (tx s) = tHas at *
  generalize eTail (tx s) = tTail at *
  have H3 := hid' (isName_3 (l := tName))
  have HBD := hid' (versionP_bd tVer)
  have H6 := hid' (ok_6 (l := tTail))
  go_enter Tryz.func138, Tryz.ntmps138
  go_wp2_with fail
  refine (HC1.out _).mono ?_
  rintro e w1 ⟨rfl, hb1⟩
  have hb1' := ((Below.refl _ _).alloc (Nat.le_refl _) _).trans (hb1.mono (by simp)) (B := w.heap.size) (a := w)
  go_wp2_with fail
  refine (HC2.out _).mono ?_
  rintro e w2 ⟨rfl, hb2⟩
  have c := fun i => ((bcell hb2).1 w.heap.size i (by have := hb1.size; simp at this; omega)).trans ((bcell hb1).1 w.heap.size i (by simp))
  have f := fun i => ((bcell hb2).2 w.heap.size i (by have := hb1.size; simp at this; omega)).trans ((bcell hb1).2 w.heap.size i (by simp))
  have hz2 : w.heap.size < w2.heap.size := by have h1 := hb1.size; have h2 := hb2.size; simp at h1; omega
  have HB2 := hid' (hb1'.trans (hb2.mono (by have h1 := hb1.size; simp at h1; omega)))
  have HT2 : Hid (tagOf w2 w.heap.size = some 110) := by
    unfold Hid
    rw [tagOf_below hb2 (by have := hb1.size; simp at this; omega), tagOf_below hb1 (by simp)]
    exact tag_new _ _ _
  clear hb1 hb2 hb1'
  cases tAt
  · have HF := hid' (E1.out rfl)
    have c0 := c 0; have c1 := c 1; have c2 := c 2; have f0 := f 0; have f1 := f 1; have f2 := f 2
    simp at c0 c1 c2 f0 f1 f2
    clear c f E1 E2 E3 E4 E5 E6
    go_wp2
    refine bodyPost_ret (v := .tuple #[.agg #[.string ByteArray.empty, .int .i64 0, .slice none 0 0], .bool false]) (by simp [results, Tryz.results138, go_sem, *]; rfl) rfl ⟨zeroE, by rw [HF.out]; rfl, ?_, ⟨none, 0, 0, rfl⟩, fun h => by rw [HF.out] at h; exact absurd h (by simp)⟩
    exact ((HB2.out.setCell (Nat.le_refl _) _).setCell (Nat.le_refl _) _).setCell (Nat.le_refl _) _
  · rcases hnm : isNameR tName with _ | _
    · have HF := hid' (E2.out hnm)
      have c0 := c 0; have c1 := c 1; have c2 := c 2; have f0 := f 0; have f1 := f 1; have f2 := f 2
      simp at c0 c1 c2 f0 f1 f2
      rw [hnm] at HNM
      clear c f E1 E2 E3 E4 E5 E6 hnm
      go_wp2_with fail
      refine (HNM.out _).mono ?_
      rintro e w3 ⟨rfl, rfl⟩
      go_wp2
      refine bodyPost_ret (v := .tuple #[.agg #[.string ByteArray.empty, .int .i64 0, .slice none 0 0], .bool false]) (by simp [results, Tryz.results138, go_sem, *]; rfl) rfl ⟨zeroE, by rw [HF.out]; rfl, ?_, ⟨none, 0, 0, rfl⟩, fun h => by rw [HF.out] at h; exact absurd h (by simp)⟩
      exact ((HB2.out.setCell (Nat.le_refl _) _).setCell (Nat.le_refl _) _).setCell (Nat.le_refl _) _
    · rw [hnm] at HNM
      have HN3 := hid' (H3.out hnm)
      have HNY := hid' hnm
      clear hnm
      go_wp2_with fail
      refine (HNM.out _).mono ?_
      rintro e w3 ⟨rfl, rfl⟩
      go_wp2_with fail
      refine (HVP.out _).mono ?_
      rintro e w4 ⟨rfl, hb4⟩
      have c' := fun i => ((bcell hb4).1 w.heap.size i hz2).trans (c i)
      have f' := fun i => ((bcell hb4).2 w.heap.size i hz2).trans (f i)
      have hz4 : w.heap.size < w4.heap.size := by have h1 := hb4.size; omega
      have HB4 := hid' (HB2.out.trans (hb4.mono (by omega)))
      have HT4 : Hid (tagOf w4 w.heap.size = some 110) := by unfold Hid; rw [tagOf_below hb4 hz2]; exact HT2.out
      clear hb4 c f
      rcases hvv : versionP tVer with _ | v
      · have HF := hid' (E3.out hvv)
        have c0 := c' 0; have c1 := c' 1; have c2 := c' 2; have f0 := f' 0; have f1 := f' 1; have f2 := f' 2
        simp at c0 c1 c2 f0 f1 f2
        clear c' f' E1 E2 E3 E4 E5 E6 hvv
        simp only [ov, oks, Option.isSome, Option.getD]
        go_wp2
        refine bodyPost_ret (v := .tuple #[.agg #[.string ByteArray.empty, .int .i64 0, .slice none 0 0], .bool false]) (by simp [results, Tryz.results138, go_sem, *]; rfl) rfl ⟨zeroE, by rw [HF.out]; rfl, ?_, ⟨none, 0, 0, rfl⟩, fun h => by rw [HF.out] at h; exact absurd h (by simp)⟩
        exact ((HB4.out.setCell (Nat.le_refl _) _).setCell (Nat.le_refl _) _).setCell (Nat.le_refl _) _
      · have HVV := hid' hvv
        have HBV := hid' (HBD.out v hvv)
        clear hvv
        simp only [ov, oks, Option.isSome, Option.getD]
        cases tHas
        · have HF := hid' (E4.out v (by first | rfl | trivial) HNY.out HVV.out (by first | rfl | trivial))
          have c0 := c' 0; have c1 := c' 1; have c2 := c' 2; have f0 := f' 0; have f1 := f' 1; have f2 := f' 2
          simp at c0 c1 c2 f0 f1 f2
          clear c' f' E1 E2 E3 E4 E5 E6
          go_wp2
          refine bodyPost_ret (v := .tuple #[.agg #[.string (bs tName), .int .i64 v, .slice none 0 0], .bool true]) (by simp [results, Tryz.results138, go_sem, *]) rfl ⟨⟨tName, v, .slice none 0 0, []⟩, by rw [HF.out], ?_, ⟨none, 0, 0, rfl⟩, fun _ => ⟨?_, ?_⟩⟩
          · exact ((HB4.out.setCell (Nat.le_refl _) _).setCell (Nat.le_refl _) _).setCell (Nat.le_refl _) _
          · rw [HEO.out]
            exact ⟨HF.out, rfl, HVV.out, fun _ => rfl, fun h => absurd h (by simp)⟩
          · exact ⟨⟨RowX.nil _ _ _ _, by simp⟩, by simp, HN3.out, HBV.out.1, HBV.out.2⟩
        · rcases hlo : listOkP tTail with _ | _
          · have HF := hid' (E5.out (by first | rfl | trivial) hlo)
            rw [hlo] at HPL
            clear hlo
            go_wp2_with fail
            refine (HPL.out _).mono ?_
            rintro e w5 ⟨ra, rn, rc, rfl, hb5, -⟩
            have c0 := ((bcell hb5).1 w.heap.size 0 hz4).trans (c' 0); have c1 := ((bcell hb5).1 w.heap.size 1 hz4).trans (c' 1); have c2 := ((bcell hb5).1 w.heap.size 2 hz4).trans (c' 2)
            have f0 := ((bcell hb5).2 w.heap.size 0 hz4).trans (f' 0); have f1 := ((bcell hb5).2 w.heap.size 1 hz4).trans (f' 1); have f2 := ((bcell hb5).2 w.heap.size 2 hz4).trans (f' 2)
            simp at c0 c1 c2 f0 f1 f2
            have hz5 : w.heap.size < w5.heap.size := by have h1 := hb5.size; omega
            have HB5 := hid' (HB4.out.trans (hb5.mono (by omega)))
            clear c' f' hb5 E1 E2 E3 E4 E5 E6
            go_wp2
            refine bodyPost_ret (v := .tuple #[.agg #[.string ByteArray.empty, .int .i64 0, .slice none 0 0], .bool false]) (by simp [results, Tryz.results138, go_sem, *]; rfl) rfl ⟨zeroE, by rw [HF.out]; rfl, ?_, ⟨none, 0, 0, rfl⟩, fun h => by rw [HF.out] at h; exact absurd h (by simp)⟩
            exact ((HB5.out.setCell (Nat.le_refl _) _).setCell (Nat.le_refl _) _).setCell (Nat.le_refl _) _
          · have HF := hid' (E6.out v (by first | rfl | trivial) HNY.out HVV.out hlo)
            have HL6 := hid' (H6.out hlo)
            rw [hlo] at HPL
            clear hlo
            go_wp2_with fail
            refine (HPL.out _).mono ?_
            rintro e w5 ⟨ra, rn, rc, rfl, hb5, hxs⟩
            obtain ⟨xs, hx1, hx2⟩ := hxs trivial
            have c0 := ((bcell hb5).1 w.heap.size 0 hz4).trans (c' 0); have c1 := ((bcell hb5).1 w.heap.size 1 hz4).trans (c' 1); have c2 := ((bcell hb5).1 w.heap.size 2 hz4).trans (c' 2)
            have f0 := ((bcell hb5).2 w.heap.size 0 hz4).trans (f' 0); have f1 := ((bcell hb5).2 w.heap.size 1 hz4).trans (f' 1); have f2 := ((bcell hb5).2 w.heap.size 2 hz4).trans (f' 2)
            simp at c0 c1 c2 f0 f1 f2
            have hz5 : w.heap.size < w5.heap.size := by have h1 := hb5.size; omega
            have HB5 := hid' (HB4.out.trans (hb5.mono (by omega)))
            have HX1 := hid' hx1
            have HX2 := hid' hx2
            have HOD : Hid (Odd w5 w.heap.size) := odd_of (t := 110) (by rw [tagOf_below hb5 hz4]; exact HT4.out) (by decide) (by decide)
            have HX3 : Hid ((xs.foldl withN []).length ≤ 6) := by unfold Hid; rw [foldN_len, hx1.1]; simpa using HL6.out
            clear c' f' hb5 hx1 hx2 hxs E1 E2 E3 E4 E5 E6
            go_wp2
            refine bodyPost_ret (v := .tuple #[.agg #[.string (bs tName), .int .i64 v, .slice ra rn rc], .bool true]) (by simp [results, Tryz.results138, go_sem, *]) rfl ⟨⟨tName, v, .slice ra rn rc, xs.foldl withN []⟩, by rw [HF.out], ?_, ⟨ra, rn, rc, rfl⟩, fun _ => ⟨?_, ?_⟩⟩
            · exact ((HB5.out.setCell (Nat.le_refl _) _).setCell (Nat.le_refl _) _).setCell (Nat.le_refl _) _
            · rw [HEO.out]
              exact ⟨HF.out, rfl, HVV.out, fun h => absurd h (by simp), fun _ => ⟨xs, HX1.out, rfl⟩⟩
            · have hb6 := ((But.set w5 w.heap.size 0 (.string (bs tName))).trans (But.set _ w.heap.size 1 (.int .i64 v))).trans (But.set _ w.heap.size 2 (.slice ra rn rc))
              exact ⟨HX2.out.off hb6 HOD.out, HX3.out, HN3.out, HBV.out.1, HBV.out.2⟩

end Hst
end Go.Proofs.YtpokdndhemlomaaGreatDoor
namespace Go.Proofs.YtpokdndhemlomaaGreatDoor
open Go.RowKit
namespace Hst
set_option maxRecDepth 100000

theorem RowX.grown {α : Type} {f : α → List Value} {size sz T base n : Nat} {t : TypeId} {w w' : World} {v u : Value} {l : List α} {xs : List Value} (h : RowX f size t w v l) (hg : w.grownBy w' u.ownBlock) (ho : w.ownsRow base T sz u n xs) (hne : T ≠ t) : RowX f size t w' v l := by
  obtain ⟨a, cap, e, hr, ht⟩ := h
  have hfar : ∀ g o, 0 < l.length → a = some ⟨g, o, none⟩ → g < w.heap.size → w'.heap[g]? = w.heap[g]? := fun g o h0 ha hlt => by
    refine hg.block g hlt fun hh => hne ?_
    have h1 := tag_of_own ho hh.symm
    rw [ht g o h0 ha] at h1
    simpa using h1.symm
  refine ⟨a, cap, e, ⟨hr.len, hr.cap, fun hn => ?_⟩, fun g o h0 ha => ?_⟩
  · obtain ⟨g, o, ha, hlt, hc⟩ := hr.at' hn
    exact ⟨g, o, ha, Nat.lt_of_lt_of_le hlt hg.size, fun i hi => by rw [World.cell?_of_block (w := w) (hfar g o hn ha hlt)]; exact hc i hi⟩
  · obtain ⟨g', o', ha', hlt, _⟩ := hr.at' h0
    rw [ha] at ha'
    simp at ha'
    have := hfar g o h0 ha (by omega)
    unfold tagOf
    rw [this]
    exact ht g o h0 ha
theorem NeedIn.grown {sz T base n : Nat} {w w' : World} {u : Value} {xs : List Value} {x : NeedX} (h : NeedIn w x) (hg : w.grownBy w' u.ownBlock) (ho : w.ownsRow base T sz u n xs) (h2 : T ≠ 204) : NeedIn w' x :=
  ⟨RowX.grown h.sp hg ho h2, h.ne, h.le, h.nm, h.tx⟩
theorem NeedsIn.grown {sz T base n : Nat} {w w' : World} {u v : Value} {xs : List Value} {l : List NeedX} (h : NeedsIn w v l) (hg : w.grownBy w' u.ownBlock) (ho : w.ownsRow base T sz u n xs) (h1 : T ≠ 104) (h2 : T ≠ 204) : NeedsIn w' v l :=
  ⟨RowX.grown h.1 hg ho h1, fun n hn => (h.2 n hn).grown hg ho h2⟩
theorem EntIn.grown {sz T base n : Nat} {w w' : World} {u : Value} {xs : List Value} {e : EntX} (h : EntIn w e) (hg : w.grownBy w' u.ownBlock) (ho : w.ownsRow base T sz u n xs) (h1 : T ≠ 104) (h2 : T ≠ 204) : EntIn w' e :=
  ⟨h.1.grown hg ho h1 h2, h.2⟩
theorem EntIn.form {w : World} {e : EntX} (h : EntIn w e) : ∃ a c, e.needs = .slice a e.nd.length c := RowX.form h.1.1

theorem EntsOf.nil : EntsOf [] [] := ⟨rfl, by simp⟩
theorem EntsOf.snoc {d : List Tx} {xs : List EntX} {t : Tx} {x : EntX} (h : EntsOf d xs) (hx : EntOf t x) : EntsOf (d ++ [t]) (xs ++ [x]) := by
  refine ⟨by simp [h.1], fun p hp => ?_⟩
  rw [List.zip_append h.1.symm] at hp
  simp only [List.mem_append, List.zip_cons_cons, List.zip_nil_right, List.mem_singleton] at hp
  rcases hp with hp | rfl
  · exact h.2 p hp
  · exact hx
theorem so_long {l : Tx} (h0 : l ≠ []) (h : ¬ (splitL 59 l).length ≤ 40) : stockOkP l = false := by unfold stockOkP; rw [if_neg h0]; simp [h]
theorem so_go {l : Tx} (h0 : l ≠ []) (h : (splitL 59 l).length ≤ 40) : stockOkP l = (splitL 59 l).all entryOkP := by unfold stockOkP; rw [if_neg h0]; simp [h]
theorem info_entX : (Tryz.prog.info? 110).map (fun i => (i.zero, i.size, i.bytes)) = some (some (.agg #[.string ByteArray.empty, .int .i64 0, .slice none 0 0]), 3, 48) := by kernel_rfl
theorem entX_one (n : EntX) {a : Option Addr} {m c : Nat} (h : n.needs = .slice a m c) : ∀ u ∈ entXC n, u.oneCell' = true := by
  intro u hu; simp [entXC, h] at hu; rcases hu with rfl | rfl | rfl <;> rfl

set_option maxHeartbeats 2000000 in
theorem pentries_any (s : ByteArray) (w : World) (hs : s.size ≤ 100000) :
    Calls Tryz.prog 100 #[.string s] w fun e w' => ∃ a n c, e = .returned (.tuple #[.slice a n c, .bool (stockOkP (tx s))]) ∧ Below w.heap.size w w' ∧
      (stockOkP (tx s) = true → ∃ es, StockOf (tx s) es ∧ es.length ≤ 40 ∧ EntsIn w' (.slice a n c) es) := by
  obtain ⟨i0, hi, hz0, hz1, hz2⟩ := info_parts info_entX
  by_cases h0 : tx s = []
  · have hb : (s.toList == []) = true := by rw [tx_toList, h0]; rfl
    have HF : Hid (stockOkP (tx s) = true) := by unfold Hid stockOkP; rw [if_pos h0]
    have H0 := hid' h0
    clear h0
    go_enter Tryz.func100, Tryz.ntmps100
    go_wp2
    go_ret2
    exact ⟨none, 0, 0, by rw [HF.out]; rfl, Below.refl _ _, fun _ => ⟨[], ⟨fun _ => rfl, fun h => absurd H0.out h⟩, by simp, RowX.nil _ _ _ _, by simp⟩⟩
  · have hb : (s.toList == []) = false := by rw [tx_toList]; exact beq_eq_false_iff_ne.2 h0
    have HLO := hid' (so_long h0)
    have HGO := hid' (so_go h0)
    have HST : Hid (∀ es, EntsOf (splitL 59 (tx s)) es → StockOf (tx s) es) := fun es h => ⟨fun e => absurd e h0, fun _ => h⟩
    have HPS : Hid (∀ j (hj : j < (splitL 59 (tx s)).length), (bs (splitL 59 (tx s))[j]).size ≤ 100000) := fun j hj => by have := piece_size 59 s j hj; omega
    clear h0
    go_enter Tryz.func100, Tryz.ntmps100
    go_wp2_with fail
    refine (psplit_any s 59 _ hs).mono ?_
    rintro e w1 ⟨v, rfl, hrow, hb1⟩
    have hrx := hrow.rowx
    obtain ⟨ta, tc, rfl⟩ := hrx.form
    have HRX := hid' hrx
    have HB1 := hid' hb1
    have hz1' := hb1.size
    clear hrow hrx hb1
    generalize splitL 59 (tx s) = d at *
    by_cases h6 : d.length ≤ 40
    · have HG := hid' (HGO.out h6)
      have hb6 : ¬ (40 : Int) < (d.length : Int) := by omega
      clear HLO HGO
      go_wp2
      go_loopw [5, 19] (fun v i wr => ∃ (k : Nat) (es : List EntX), k ≤ d.length ∧ es.length = k ∧ i = .int .i64 k ∧ wr.ownsRow w1.heap.size 110 3 v es.length (es.flatMap entXC) ∧ Below w1.heap.size w1 wr ∧ Hid ((∀ e ∈ es, EntIn wr e) ∧ EntsOf (d.take k) es ∧ stockOkP (tx s) = (d.drop k).all entryOkP)) (fun _ i _ => d.length - (intOf i).toNat)
      case atStart => exact ⟨0, [], Nat.zero_le _, rfl, rfl, World.ownsRow_nil _ _ _ _, Below.refl _ _, ⟨by simp, by simpa using EntsOf.nil, by rw [HG.out]; rfl⟩⟩
      case round =>
        obtain ⟨k, es, hk, hes, rfl, hown, hbel, hall⟩ := hrel
        have hz := hbel.size
        have HES := hid' hes
        clear hes
        by_cases hlt : k < d.length
        · obtain ⟨g, o, cap', hv, hg, hc⟩ := (HRX.out.below hbel).strs hlt
          simp at hv
          obtain ⟨rfl, rfl⟩ := hv
          have c0 := hc k hlt
          have HP := hid' (fun w => pentry_any (bs d[k]) w (HPS.out k hlt))
          rw [tx_bs] at HP
          clear hc
          rcases hok : entryOkP d[k] with _ | _
          · have HF : Hid (stockOkP (tx s) = false) := by unfold Hid; rw [hall.out.2.2, pl_no entryOkP d k hlt hok]
            rw [hok] at HP
            clear hok hall
            generalize bs d[k] = q at *
            go_wp2_with fail
            refine (HP.out _).mono ?_
            rintro e w2 ⟨x, rfl, hb2, ⟨sa, sn, sc, hsp⟩, -⟩
            obtain ⟨xn, xv, xsp, xd⟩ := x
            simp only at hsp
            subst hsp
            have hz2' := hb2.size
            have HB := hid' (HB1.out.trans ((hbel.trans (hb2.mono hz)).mono hz1'))
            clear hb2 hbel
            go_wp2
            go_ret2
            refine ⟨none, 0, 0, by rw [HF.out]; rfl, HB.out.alloc (by omega) _, fun h => by rw [HF.out] at h; exact absurd h (by simp)⟩
          · have HF : Hid (stockOkP (tx s) = (d.drop (k + 1)).all entryOkP) := by unfold Hid; rw [hall.out.2.2, pl_yes entryOkP d k hlt hok]
            have HD : Hid (∀ x, EntOf d[k] x → EntsOf (d.take (k + 1)) (es ++ [x])) := fun x hx => by
              rw [List.take_succ_eq_append_getElem hlt]; exact hall.out.2.1.snoc hx
            have HEI := hid' hall.out.1
            rw [hok] at HP
            clear hok hall
            generalize d[k] = t at *
            generalize bs t = q at *
            go_wp2_with fail
            refine (HP.out _).mono ?_
            rintro e w2 ⟨x, rfl, hb2, ⟨sa, sn, sc, hsp⟩, hx⟩
            obtain ⟨hx1, hx2⟩ := hx trivial
            have hz2' := hb2.size
            have hown2 := own_below hown hb2
            have HNO := hid' (HD.out x hx1)
            have HX2 := hid' hx2
            have HB2 := hid' hb2
            obtain ⟨xn, xv, xsp, xd⟩ := x
            simp only at hsp
            subst hsp
            have hle : es.length ≤ 40 := by have := HES.out; omega
            clear hx hx1 hx2 hb2 HD
            go_wp2_with (first | (at_builtin; refine wpList_append_lies _ rfl _ _ 67 rfl w1.heap.size 110 i0 (.agg #[.string ByteArray.empty, .int .i64 0, .slice none 0 0]) 3 48 Tryz.underlying67 hi hz0 hz1 hz2 rfl (by omega) _ _ _ rfl ((hown2.alloc _).alloc _) ⟨w2.heap.size + 1, 0, none⟩ 1 1 [.string (bs xn), .int .i64 xv, .slice sa sn sc] rfl rfl (news_3b _ _ _ _ _ _) (entX_one ⟨xn, xv, _, xd⟩ rfl) (by omega) (by unfold maxLen; omega) (by omega) (by simp; omega) (w2.heap.size + 2) (by simp) ?_; intro g1 cap1 w3 hown3 hgrow hat hlt1))
            have hba := (HB2.out.alloc hz2' (.cells #[.string (bs xn), .int .i64 xv, .slice sa sn sc] 110)).alloc (by simp; omega) (.cells #[.string (bs xn), .int .i64 xv, .slice sa sn sc] 110)
            have R := step_gen2 entXC (x := ⟨xn, xv, .slice sa sn sc, xd⟩) rfl hown hbel hba hown3 hgrow
            have hba2 := ((Below.refl w2.heap.size w2).alloc (Nat.le_refl _) (.cells #[.string (bs xn), .int .i64 xv, .slice sa sn sc] 110)).alloc (by simp) (.cells #[.string (bs xn), .int .i64 xv, .slice sa sn sc] 110)
            have HIN : Hid (∀ e ∈ es ++ [(⟨xn, xv, .slice sa sn sc, xd⟩ : EntX)], EntIn w3 e) := by
              intro e he
              simp only [List.mem_append, List.mem_singleton] at he
              rcases he with he | rfl
              · exact ((HEI.out e he).below hba).grown hgrow ((hown2.alloc _).alloc _) (by decide) (by decide)
              · exact (HX2.out.below hba2).grown hgrow ((hown2.alloc _).alloc _) (by decide) (by decide)
            clear hown3 hgrow hown hown2 hba hba2
            go_wp2
            go_roundw
            case rel => exact ⟨k + 1, _, by omega, by have := HES.out; simp; omega, by go_num, R.1, R.2, ⟨HIN.out, HNO.out, HF.out⟩⟩
            case measure => simp [intOf] <;> omega
        · have HF : Hid (stockOkP (tx s) = true) := by unfold Hid; rw [hall.out.2.2, pl_end entryOkP d k hlt]
          have HNO : Hid (EntsOf d es) := by have h := hall.out.2.1; rw [List.take_of_length_le (by omega)] at h; exact h
          have HB := hid' (HB1.out.trans (hbel.mono hz1'))
          have HEI := hid' hall.out.1
          obtain ⟨va, vc, rfl⟩ := own_slice hown
          have HO := hid' hown
          clear hall hbel hown
          go_wp2
          go_ret2
          exact ⟨va, es.length, vc, by rw [HF.out]; rfl, HB.out, fun _ => ⟨es, HST.out es HNO.out, by have := HES.out; omega, RowX.of_own HO.out, HEI.out⟩⟩
    · have HF := hid' (HLO.out h6)
      have hb6 : (40 : Int) < (d.length : Int) := by omega
      clear HLO HGO
      go_wp2
      go_ret2
      exact ⟨none, 0, 0, by rw [HF.out]; rfl, HB1.out, fun h => by rw [HF.out] at h; exact absurd h (by simp)⟩

end Hst
end Go.Proofs.YtpokdndhemlomaaGreatDoor
namespace Go.Proofs.YtpokdndhemlomaaGreatDoor
open Go.RowKit
namespace Hst
set_option maxRecDepth 100000

theorem spanC_len (s : Int × Int) : (spanC s).length = 2 := rfl
theorem RowX.spans {w : World} {v : Value} {sp : List (Int × Int)} (h : RowX spanC 2 204 w v sp) {k : Nat} (hk : k < sp.length) :
    ∃ g o cap, v = .slice (some ⟨g, o, none⟩) sp.length cap ∧ g < w.heap.size ∧ ∀ (j : Nat) (hj : j < sp.length), w.cell? ⟨g, o + j * 2, none⟩ = some (.int .i64 sp[j].1) ∧ w.cell? ⟨g, o + j * 2 + 1, none⟩ = some (.int .i64 sp[j].2) := by
  obtain ⟨g, o, cap, hv, hg, hc⟩ := h.cells spanC_len hk
  exact ⟨g, o, cap, hv, hg, fun j hj => ⟨hc j hj 0 (by omega), hc j hj 1 (by omega)⟩⟩

set_option maxHeartbeats 1000000 in
theorem fitsX_any (v : Value) (n : Int) (sp : List (Int × Int)) (w : World) (hrow : SpansIn w v sp) (hne : sp ≠ []) (hl : sp.length ≤ 1000) :
    Calls Tryz.prog 114 #[.agg #[v], .int .i64 n] w fun e w' => e = .returned (.bool (fitsP sp n)) ∧ Below w.heap.size w w' := by
  obtain ⟨g, o, cap, rfl, hg2, hcell⟩ := RowX.spans hrow (List.length_pos_iff.2 hne)
  have HC := hid hcell
  clear hcell hrow
  go_enter Tryz.func114, Tryz.ntmps114
  go_wp2
  go_loopw [10] (fun i wr => ∃ (k : Nat), k ≤ sp.length ∧ i = .int .i64 k ∧ Below w.heap.size w wr ∧ Hid (fitsP sp n = fitsP (sp.drop k) n)) (fun i _ => sp.length - (intOf i).toNat)
  case atStart => exact ⟨0, by omega, rfl, (Below.refl _ _).alloc (Nat.le_refl _) _, rfl⟩
  case round =>
    obtain ⟨k, hk, rfl, hbel, hall⟩ := hrel
    have hz := hbel.size
    by_cases hlt : k < sp.length
    · obtain ⟨c0, c1⟩ := HC.out k hlt
      have hc0 := (hbel.cell (p := ⟨g, o + k * 2, none⟩) hg2).trans c0
      have hc1 := (hbel.cell (p := ⟨g, o + k * 2 + 1, none⟩) hg2).trans c1
      clear c0 c1
      by_cases h1 : sp[k].1 ≤ n
      · by_cases h2 : n ≤ sp[k].2
        · have HF : Hid (fitsP sp n = true) := by unfold Hid; rw [hall.out, fp_yes sp k n hlt h1 h2]
          generalize sp[k].1 = x at *
          generalize sp[k].2 = y at *
          go_wp2
          go_ret
          exact ⟨ret_bool (by rw [HF.out]), hbel.alloc hz _⟩
        · have HF : Hid (fitsP sp n = fitsP (sp.drop (k + 1)) n) := by unfold Hid; rw [hall.out, fp_no sp k n hlt (by omega)]
          generalize sp[k].1 = x at *
          generalize sp[k].2 = y at *
          go_wp2
          go_roundw
          case rel => exact ⟨k + 1, by omega, by go_num, hbel.alloc hz _, HF⟩
          case measure => simp [intOf]; omega
      · have HF : Hid (fitsP sp n = fitsP (sp.drop (k + 1)) n) := by unfold Hid; rw [hall.out, fp_no sp k n hlt (by omega)]
        generalize sp[k].1 = x at *
        generalize sp[k].2 = y at *
        go_wp2
        go_roundw
        case rel => exact ⟨k + 1, by omega, by go_num, hbel.alloc hz _, HF⟩
        case measure => simp [intOf]; omega
    · have HF : Hid (fitsP sp n = false) := by unfold Hid; rw [hall.out, fp_end sp k n hlt]
      go_wp2
      go_ret
      exact ⟨ret_bool (by rw [HF.out]), hbel⟩

/-! ### packages -/
theorem RowX.pks {w : World} {v : Value} {l : List PkX} (h : RowX pkXC 4 112 w v l) {k : Nat} (hk : k < l.length) :
    ∃ g o cap, v = .slice (some ⟨g, o, none⟩) l.length cap ∧ g < w.heap.size ∧ ∀ (j : Nat) (hj : j < l.length), w.cell? ⟨g, o + j * 4, none⟩ = some (.string (bs l[j].path)) ∧ w.cell? ⟨g, o + j * 4 + 1, none⟩ = some (.string (bs l[j].e.name)) ∧ w.cell? ⟨g, o + j * 4 + 2, none⟩ = some (.int .i64 l[j].e.ver) ∧ w.cell? ⟨g, o + j * 4 + 3, none⟩ = some l[j].e.needs := by
  obtain ⟨g, o, cap, hv, hg, hc⟩ := h.cells pkXC_len hk
  exact ⟨g, o, cap, hv, hg, fun j hj => ⟨hc j hj 0 (by omega), hc j hj 1 (by omega), hc j hj 2 (by omega), hc j hj 3 (by omega)⟩⟩
theorem EntIn.form' {w : World} {e : EntX} (h : EntIn w e) : ∃ a c, e.needs = .slice a e.nd.length c := RowX.form h.1.1

set_option maxHeartbeats 1000000 in
theorem count_any (v : Value) (l : List PkX) (w : World) (hl : PksIn w v l) :
    Calls Tryz.prog 163 #[.agg #[v]] w fun e w' => e = .returned (.int .i64 l.length) ∧ Below w.heap.size w w' := by
  obtain ⟨a, cap, rfl⟩ := hl.1.form
  clear hl
  go_enter Tryz.func163, Tryz.ntmps163
  go_wp2
  go_ret
  exact ⟨rfl, (Below.refl _ _).alloc (Nat.le_refl _) _⟩

theorem ha_yes (l : List PkX) (p : Tx) (k : Nat) (hk : k < l.length) (h : l[k].path = p) : hasAtP (l.drop k) p = true := by
  rw [List.drop_eq_getElem_cons hk]; unfold hasAtP; rw [List.any_cons]; simp [h]
theorem ha_no (l : List PkX) (p : Tx) (k : Nat) (hk : k < l.length) (h : ¬ l[k].path = p) : hasAtP (l.drop k) p = hasAtP (l.drop (k + 1)) p := by
  rw [List.drop_eq_getElem_cons hk]; unfold hasAtP; rw [List.any_cons]; simp [h]
theorem ha_end (l : List PkX) (p : Tx) (k : Nat) (hk : ¬ k < l.length) : hasAtP (l.drop k) p = false := by
  rw [List.drop_of_length_le (by omega)]; rfl

set_option maxHeartbeats 1000000 in
theorem hasAt_any (v : Value) (l : List PkX) (p : ByteArray) (w : World) (hl : PksIn w v l) (hn : l.length ≤ 100000) :
    Calls Tryz.prog 85 #[.agg #[v], .string p] w fun e w' => e = .returned (.bool (hasAtP l (tx p))) ∧ Below w.heap.size w w' := by
  obtain ⟨a, cap, rfl⟩ := hl.1.form
  have HL := hid' hl
  clear hl
  go_enter Tryz.func85, Tryz.ntmps85
  go_wp2
  go_loopw [10] (fun i wr => ∃ k : Nat, k ≤ l.length ∧ i = .int .i64 k ∧ Below w.heap.size w wr ∧ Hid (hasAtP l (tx p) = hasAtP (l.drop k) (tx p))) (fun i _ => l.length - (intOf i).toNat)
  case atStart => exact ⟨0, Nat.zero_le _, rfl, (Below.refl _ _).alloc (Nat.le_refl _) _, rfl⟩
  case round =>
    obtain ⟨k, hk, rfl, hbel, hall⟩ := hrel
    have hz := hbel.size
    by_cases hlt : k < l.length
    · obtain ⟨g, o, cap', hv, hg, hc⟩ := (HL.out.below hbel).1.pks hlt
      simp at hv
      obtain ⟨rfl, rfl⟩ := hv
      obtain ⟨c0, c1, c2, c3⟩ := hc k hlt
      obtain ⟨sa, sc, hsp⟩ := (HL.out.2 l[k] (List.getElem_mem hlt)).form'
      clear hc
      by_cases he : l[k].path = tx p
      · have HF : Hid (hasAtP l (tx p) = true) := by unfold Hid; rw [hall.out, ha_yes l (tx p) k hlt he]
        have hb : ((bs l[k].path).toList == p.toList) = true := by rw [he, bs_tx]; simp
        clear he hall
        generalize l[k] = x at *
        go_wp2
        go_ret
        exact ⟨ret_bool (by rw [HF.out]), hbel.alloc hz _⟩
      · have HF : Hid (hasAtP l (tx p) = hasAtP (l.drop (k + 1)) (tx p)) := by unfold Hid; rw [hall.out, ha_no l (tx p) k hlt he]
        have hb : ((bs l[k].path).toList == p.toList) = false := by rw [tx_toList, tx_toList, tx_bs]; simp [he]
        clear he hall
        generalize l[k] = x at *
        go_wp2
        go_roundw
        case rel => exact ⟨k + 1, by omega, by go_num, hbel.alloc hz _, HF⟩
        case measure => simp [intOf] <;> omega
    · have HF : Hid (hasAtP l (tx p) = false) := by unfold Hid; rw [hall.out, ha_end l (tx p) k hlt]
      go_wp2
      go_ret
      exact ⟨ret_bool (by rw [HF.out]), hbel⟩

theorem hp_yes (l : List PkX) (p : Tx) (v : Int) (k : Nat) (hk : k < l.length) (h : l[k].e.name = p) (h' : l[k].e.ver = v) : hasP (l.drop k) p v = true := by
  rw [List.drop_eq_getElem_cons hk]; unfold hasP; rw [List.any_cons]; simp [h, h']
theorem hp_no (l : List PkX) (p : Tx) (v : Int) (k : Nat) (hk : k < l.length) (h : ¬ (l[k].e.name = p ∧ l[k].e.ver = v)) : hasP (l.drop k) p v = hasP (l.drop (k + 1)) p v := by
  rw [List.drop_eq_getElem_cons hk]; unfold hasP; rw [List.any_cons]
  have : (decide (l[k].e.name = p) && decide (l[k].e.ver = v)) = false := by
    simp only [Bool.and_eq_false_iff, decide_eq_false_iff_not]
    by_cases h1 : l[k].e.name = p
    · exact .inr fun h2 => h ⟨h1, h2⟩
    · exact .inl h1
  rw [this, Bool.false_or]
theorem hp_end (l : List PkX) (p : Tx) (v : Int) (k : Nat) (hk : ¬ k < l.length) : hasP (l.drop k) p v = false := by
  rw [List.drop_of_length_le (by omega)]; rfl

set_option maxHeartbeats 1000000 in
theorem hasP_any (v : Value) (l : List PkX) (p : ByteArray) (n : Int) (w : World) (hl : PksIn w v l) (hn : l.length ≤ 100000) :
    Calls Tryz.prog 173 #[.agg #[v], .string p, .int .i64 n] w fun e w' => e = .returned (.bool (hasP l (tx p) n)) ∧ Below w.heap.size w w' := by
  obtain ⟨a, cap, rfl⟩ := hl.1.form
  have HL := hid' hl
  clear hl
  go_enter Tryz.func173, Tryz.ntmps173
  go_wp2
  go_loopw [12] (fun i wr => ∃ k : Nat, k ≤ l.length ∧ i = .int .i64 k ∧ Below w.heap.size w wr ∧ Hid (hasP l (tx p) n = hasP (l.drop k) (tx p) n)) (fun i _ => l.length - (intOf i).toNat)
  case atStart => exact ⟨0, Nat.zero_le _, rfl, (Below.refl _ _).alloc (Nat.le_refl _) _, rfl⟩
  case round =>
    obtain ⟨k, hk, rfl, hbel, hall⟩ := hrel
    have hz := hbel.size
    by_cases hlt : k < l.length
    · obtain ⟨g, o, cap', hv, hg, hc⟩ := (HL.out.below hbel).1.pks hlt
      simp at hv
      obtain ⟨rfl, rfl⟩ := hv
      obtain ⟨c0, c1, c2, c3⟩ := hc k hlt
      obtain ⟨sa, sc, hsp⟩ := (HL.out.2 l[k] (List.getElem_mem hlt)).form'
      clear hc
      by_cases he : l[k].e.name = tx p
      · have hb : ((bs l[k].e.name).toList == p.toList) = true := by rw [he, bs_tx]; simp
        by_cases hv : l[k].e.ver = n
        · have HF : Hid (hasP l (tx p) n = true) := by unfold Hid; rw [hall.out, hp_yes l (tx p) n k hlt he hv]
          have hb2 : (l[k].e.ver == n) = true := by simp [hv]
          clear he hall hv
          generalize l[k] = x at *
          go_wp2
          go_ret
          exact ⟨ret_bool (by rw [HF.out]), hbel.alloc hz _⟩
        · have HF : Hid (hasP l (tx p) n = hasP (l.drop (k + 1)) (tx p) n) := by unfold Hid; rw [hall.out, hp_no l (tx p) n k hlt (fun h => hv h.2)]
          have hb2 : (l[k].e.ver == n) = false := beq_eq_false_iff_ne.2 hv
          clear he hall hv
          generalize l[k] = x at *
          go_wp2
          go_roundw
          case rel => exact ⟨k + 1, by omega, by go_num, hbel.alloc hz _, HF⟩
          case measure => simp [intOf] <;> omega
      · have HF : Hid (hasP l (tx p) n = hasP (l.drop (k + 1)) (tx p) n) := by unfold Hid; rw [hall.out, hp_no l (tx p) n k hlt (fun h => he h.1)]
        have hb : ((bs l[k].e.name).toList == p.toList) = false := by rw [tx_toList, tx_toList, tx_bs]; simp [he]
        clear he hall
        generalize l[k] = x at *
        go_wp2
        go_roundw
        case rel => exact ⟨k + 1, by omega, by go_num, hbel.alloc hz _, HF⟩
        case measure => simp [intOf] <;> omega
    · have HF : Hid (hasP l (tx p) n = false) := by unfold Hid; rw [hall.out, hp_end l (tx p) n k hlt]
      go_wp2
      go_ret
      exact ⟨ret_bool (by rw [HF.out]), hbel⟩

end Hst
end Go.Proofs.YtpokdndhemlomaaGreatDoor
