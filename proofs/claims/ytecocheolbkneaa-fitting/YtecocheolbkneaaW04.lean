/- Holds, Rrange, Rfit, Rfitf -/
import Derived.Test.YtecocheolbkneaaW03
import Derived.Deep.RegionHeld3
import Derived.Deep.QuietTactic
import Derived.Deep.DrawnRows
namespace Go.Proofs.Ytecocheolbkneaa
open Go.RowKit
namespace Hst
set_option maxRecDepth 100000

theorem bse (l m : Tx) (h : l = m) : ((bs l).toList == m) = true := by rw [tx_toList, tx_bs, h]; simp
theorem bsn (l m : Tx) (h : l ≠ m) : ((bs l).toList == m) = false := by rw [tx_toList, tx_bs]; simp [h]

theorem eq3_t {a b c x y z : Int} (h1 : a = x) (h2 : b = y) (h3 : c = z) : eq3 ⟨a, b, c⟩ ⟨x, y, z⟩ = true := by simp [eq3, h1, h2, h3]
theorem eq3_f1 {a b c x y z : Int} (h1 : ¬ a = x) : eq3 ⟨a, b, c⟩ ⟨x, y, z⟩ = false := by simp [eq3, h1]
theorem eq3_f2 {a b c x y z : Int} (h1 : ¬ b = y) : eq3 ⟨a, b, c⟩ ⟨x, y, z⟩ = false := by simp [eq3, h1]
theorem eq3_f3 {a b c x y z : Int} (h1 : ¬ c = z) : eq3 ⟨a, b, c⟩ ⟨x, y, z⟩ = false := by simp [eq3, h1]
theorem hs_eq {a b c x y z : Int} : holdsS [61] ⟨x, y, z⟩ ⟨a, b, c⟩ = eq3 ⟨a, b, c⟩ ⟨x, y, z⟩ := by simp [holdsS]
theorem hs_gt {a b c x y z : Int} : holdsS [62] ⟨x, y, z⟩ ⟨a, b, c⟩ = (!belowB a b c x y z && !eq3 ⟨a, b, c⟩ ⟨x, y, z⟩) := by simp [holdsS]
theorem hs_ge {a b c x y z : Int} : holdsS [62, 61] ⟨x, y, z⟩ ⟨a, b, c⟩ = !belowB a b c x y z := by simp [holdsS]
theorem hs_lt {a b c x y z : Int} : holdsS [60] ⟨x, y, z⟩ ⟨a, b, c⟩ = belowB a b c x y z := by simp [holdsS]
theorem hs_le {a b c x y z : Int} : holdsS [60, 61] ⟨x, y, z⟩ ⟨a, b, c⟩ = (belowB a b c x y z || eq3 ⟨a, b, c⟩ ⟨x, y, z⟩) := by simp [holdsS]
theorem hs_ti {a b c x y z : Int} : holdsS [126] ⟨x, y, z⟩ ⟨a, b, c⟩ = (!belowB a b c x y z && decide (a = x) && decide (b = y)) := by simp [holdsS]
theorem hs_c1 {a b c x y z : Int} (h : ¬ x = 0) : holdsS [94] ⟨x, y, z⟩ ⟨a, b, c⟩ = (!belowB a b c x y z && decide (a = x)) := by simp [holdsS, h]
theorem hs_c2 {a b c x y z : Int} (h : x = 0) (h' : ¬ y = 0) : holdsS [94] ⟨x, y, z⟩ ⟨a, b, c⟩ = (!belowB a b c x y z && decide (a = 0) && decide (b = y)) := by simp [holdsS, h, h']
theorem hs_c3 {a b c x y z : Int} (h : x = 0) (h' : y = 0) : holdsS [94] ⟨x, y, z⟩ ⟨a, b, c⟩ = eq3 ⟨a, b, c⟩ ⟨x, y, z⟩ := by simp [holdsS, h, h']
theorem hs_no {sg : Tx} (k1 : ¬ sg = [61]) (k2 : ¬ sg = [62]) (k3 : ¬ sg = [62, 61]) (k4 : ¬ sg = [60]) (k5 : ¬ sg = [60, 61]) (k6 : ¬ sg = [126]) (k7 : ¬ sg = [94]) (w v : V3) : holdsS sg w v = true := by simp [holdsS, k1, k2, k3, k4, k5, k6, k7]

set_option maxHeartbeats 8000000 in
theorem holds_any (s : ByteArray) (a b c : Int) (w : World) :
    Calls Try.prog 24 #[.string s, verV a b c] w fun e w' => e = .returned (.bool (holdsR (tx s) ⟨a, b, c⟩)) ∧ Below w.heap.size w w' := by
  have HS := hid (fun w => signed_any s w)
  have HV := hid (fun w => version_any (bs (signedR (tx s)).2) w)
  rw [tx_bs] at HV
  have HF : Hid (holdsR (tx s) ⟨a, b, c⟩ = holdsS (signedR (tx s)).1 (versionR (signedR (tx s)).2).1 ⟨a, b, c⟩) := rfl
  generalize hsg : (signedR (tx s)).1 = sg at *
  generalize hrs : (signedR (tx s)).2 = rs at *
  clear hsg hrs
  generalize hvr : versionR rs = vr at *
  clear hvr
  obtain ⟨⟨x, y, z⟩, ok⟩ := vr
  go_enter Try.func24, Try.ntmps24
  go_wp2_with fail
  refine (HS.out _).mono ?_
  rintro e w1 ⟨rfl, hb1⟩
  go_wp2_with fail
  refine (HV.out _).mono ?_
  rintro e w2 ⟨rfl, hb2⟩
  have hb12 := hb1.trans (hb2.mono hb1.size)
  obtain ⟨hcc, hff⟩ := bcell hb12
  have hz := hb12.size
  simp at hcc hz
  have c0 := hcc w.heap.size 0 (by omega)
  have c1 := hcc w.heap.size 1 (by omega)
  have c2 := hcc w.heap.size 2 (by omega)
  simp at c0 c1 c2
  have hwz : w.heap.size < w2.heap.size := by omega
  have HB := hid (((Below.refl _ _).alloc (Nat.le_refl _) _).trans (hb12.mono (by simp)) : Below w.heap.size w w2)
  clear hb1 hb2 hcc hff hb12
  go_wp2_with fail
  refine (below_any _ _ _ _ _ _ _).mono ?_
  rintro e w3 ⟨rfl, hb3⟩
  obtain ⟨hcc, hff⟩ := bcell hb3
  have hz3 := hb3.size
  simp at hcc hz3
  have d0 := (hcc w.heap.size 0 (by omega)).trans ((World.cell?_alloc_past _ _ _ hwz).trans c0)
  have d1 := (hcc w.heap.size 1 (by omega)).trans ((World.cell?_alloc_past _ _ _ hwz).trans c1)
  have d2 := (hcc w.heap.size 2 (by omega)).trans ((World.cell?_alloc_past _ _ _ hwz).trans c2)
  have e0 := hcc w2.heap.size 0 (by omega)
  have e1 := hcc w2.heap.size 1 (by omega)
  have e2 := hcc w2.heap.size 2 (by omega)
  simp at e0 e1 e2
  have HB3 := hid ((HB.out.alloc (by omega) _).trans (hb3.mono (by simp; omega)) : Below w.heap.size w w3)
  generalize hlow : belowB a b c x y z = low at *
  have HLOW := hid hlow
  clear hb3 hcc hff c0 c1 c2 hlow
  by_cases k1 : sg = [61]
  · have q1 := bse sg _ k1
    have K := hid k1
    clear k1
    generalize bs sg = q at *
    by_cases pa : a = x
    · have bpa : (a == x) = true := by simp [pa]
      have Ppa := hid pa
      clear pa
      by_cases pb : b = y
      · have bpb : (b == y) = true := by simp [pb]
        have Ppb := hid pb
        clear pb
        by_cases pc : c = z
        · have bpc : (c == z) = true := by simp [pc]
          have Ppc := hid pc
          clear pc
          go_wp2
          go_ret
          exact ⟨ret_bool (by rw [HF.out, K.out, hs_eq, eq3_t Ppa.out Ppb.out Ppc.out] <;> rfl), HB3.out⟩
        · have bpc : (c == z) = false := by simp [pc]
          have Ppc := hid pc
          clear pc
          go_wp2
          go_ret
          exact ⟨ret_bool (by rw [HF.out, K.out, hs_eq, eq3_f3 Ppc.out] <;> rfl), HB3.out⟩
      · have bpb : (b == y) = false := by simp [pb]
        have Ppb := hid pb
        clear pb
        go_wp2
        go_ret
        exact ⟨ret_bool (by rw [HF.out, K.out, hs_eq, eq3_f2 Ppb.out] <;> rfl), HB3.out⟩
    · have bpa : (a == x) = false := by simp [pa]
      have Ppa := hid pa
      clear pa
      go_wp2
      go_ret
      exact ⟨ret_bool (by rw [HF.out, K.out, hs_eq, eq3_f1 Ppa.out] <;> rfl), HB3.out⟩
  have q1 := bsn sg _ k1
  by_cases k2 : sg = [62]
  · have q2 := bse sg _ k2
    have K := hid k2
    clear k1 k2
    generalize bs sg = q at *
    cases low
    · skip
      by_cases pa : a = x
      · have bpa : (a == x) = true := by simp [pa]
        have Ppa := hid pa
        clear pa
        by_cases pb : b = y
        · have bpb : (b == y) = true := by simp [pb]
          have Ppb := hid pb
          clear pb
          by_cases pc : c = z
          · have bpc : (c == z) = true := by simp [pc]
            have Ppc := hid pc
            clear pc
            go_wp2
            go_ret
            exact ⟨ret_bool (by rw [HF.out, K.out, hs_gt, HLOW.out, eq3_t Ppa.out Ppb.out Ppc.out] <;> rfl), HB3.out⟩
          · have bpc : (c == z) = false := by simp [pc]
            have Ppc := hid pc
            clear pc
            go_wp2
            go_ret
            exact ⟨ret_bool (by rw [HF.out, K.out, hs_gt, HLOW.out, eq3_f3 Ppc.out] <;> rfl), HB3.out⟩
        · have bpb : (b == y) = false := by simp [pb]
          have Ppb := hid pb
          clear pb
          go_wp2
          go_ret
          exact ⟨ret_bool (by rw [HF.out, K.out, hs_gt, HLOW.out, eq3_f2 Ppb.out] <;> rfl), HB3.out⟩
      · have bpa : (a == x) = false := by simp [pa]
        have Ppa := hid pa
        clear pa
        go_wp2
        go_ret
        exact ⟨ret_bool (by rw [HF.out, K.out, hs_gt, HLOW.out, eq3_f1 Ppa.out] <;> rfl), HB3.out⟩
    · skip
      go_wp2
      go_ret
      exact ⟨ret_bool (by rw [HF.out, K.out, hs_gt, HLOW.out] <;> rfl), HB3.out⟩
  have q2 := bsn sg _ k2
  by_cases k3 : sg = [62, 61]
  · have q3 := bse sg _ k3
    have K := hid k3
    clear k1 k2 k3
    generalize bs sg = q at *
    go_wp2
    go_ret
    exact ⟨ret_bool (by rw [HF.out, K.out, hs_ge, HLOW.out] <;> rfl), HB3.out⟩
  have q3 := bsn sg _ k3
  by_cases k4 : sg = [60]
  · have q4 := bse sg _ k4
    have K := hid k4
    clear k1 k2 k3 k4
    generalize bs sg = q at *
    go_wp2
    go_ret
    exact ⟨ret_bool (by rw [HF.out, K.out, hs_lt, HLOW.out] <;> rfl), HB3.out⟩
  have q4 := bsn sg _ k4
  by_cases k5 : sg = [60, 61]
  · have q5 := bse sg _ k5
    have K := hid k5
    clear k1 k2 k3 k4 k5
    generalize bs sg = q at *
    cases low
    · skip
      by_cases pa : a = x
      · have bpa : (a == x) = true := by simp [pa]
        have Ppa := hid pa
        clear pa
        by_cases pb : b = y
        · have bpb : (b == y) = true := by simp [pb]
          have Ppb := hid pb
          clear pb
          by_cases pc : c = z
          · have bpc : (c == z) = true := by simp [pc]
            have Ppc := hid pc
            clear pc
            go_wp2
            go_ret
            exact ⟨ret_bool (by rw [HF.out, K.out, hs_le, HLOW.out, eq3_t Ppa.out Ppb.out Ppc.out] <;> rfl), HB3.out⟩
          · have bpc : (c == z) = false := by simp [pc]
            have Ppc := hid pc
            clear pc
            go_wp2
            go_ret
            exact ⟨ret_bool (by rw [HF.out, K.out, hs_le, HLOW.out, eq3_f3 Ppc.out] <;> rfl), HB3.out⟩
        · have bpb : (b == y) = false := by simp [pb]
          have Ppb := hid pb
          clear pb
          go_wp2
          go_ret
          exact ⟨ret_bool (by rw [HF.out, K.out, hs_le, HLOW.out, eq3_f2 Ppb.out] <;> rfl), HB3.out⟩
      · have bpa : (a == x) = false := by simp [pa]
        have Ppa := hid pa
        clear pa
        go_wp2
        go_ret
        exact ⟨ret_bool (by rw [HF.out, K.out, hs_le, HLOW.out, eq3_f1 Ppa.out] <;> rfl), HB3.out⟩
    · skip
      go_wp2
      go_ret
      exact ⟨ret_bool (by rw [HF.out, K.out, hs_le, HLOW.out] <;> rfl), HB3.out⟩
  have q5 := bsn sg _ k5
  by_cases k6 : sg = [126]
  · have q6 := bse sg _ k6
    have K := hid k6
    clear k1 k2 k3 k4 k5 k6
    generalize bs sg = q at *
    cases low
    · skip
      by_cases pa : a = x
      · have bpa : (a == x) = true := by simp [pa]
        have Ppa := hid pa
        clear pa
        by_cases pb : b = y
        · have bpb : (b == y) = true := by simp [pb]
          have Ppb := hid pb
          clear pb
          go_wp2
          go_ret
          exact ⟨ret_bool (by rw [HF.out, K.out, hs_ti, HLOW.out, decide_eq_true Ppa.out, decide_eq_true Ppb.out] <;> rfl), HB3.out⟩
        · have bpb : (b == y) = false := by simp [pb]
          have Ppb := hid pb
          clear pb
          go_wp2
          go_ret
          exact ⟨ret_bool (by rw [HF.out, K.out, hs_ti, HLOW.out, decide_eq_true Ppa.out, decide_eq_false Ppb.out] <;> rfl), HB3.out⟩
      · have bpa : (a == x) = false := by simp [pa]
        have Ppa := hid pa
        clear pa
        go_wp2
        go_ret
        exact ⟨ret_bool (by rw [HF.out, K.out, hs_ti, HLOW.out, decide_eq_false Ppa.out] <;> rfl), HB3.out⟩
    · skip
      go_wp2
      go_ret
      exact ⟨ret_bool (by rw [HF.out, K.out, hs_ti, HLOW.out] <;> rfl), HB3.out⟩
  have q6 := bsn sg _ k6
  by_cases k7 : sg = [94]
  · have q7 := bse sg _ k7
    have K := hid k7
    clear k1 k2 k3 k4 k5 k6 k7
    generalize bs sg = q at *
    by_cases px : x = 0
    · have bpx : (x != 0) = false := by simp [px]
      have Ppx := hid px
      clear px
      by_cases py : y = 0
      · have bpy : (y != 0) = false := by simp [py]
        have Ppy := hid py
        clear py
        by_cases pa : a = x
        · have bpa : (a == x) = true := by simp [pa]
          have Ppa := hid pa
          clear pa
          by_cases pb : b = y
          · have bpb : (b == y) = true := by simp [pb]
            have Ppb := hid pb
            clear pb
            by_cases pc : c = z
            · have bpc : (c == z) = true := by simp [pc]
              have Ppc := hid pc
              clear pc
              go_wp2
              go_ret
              exact ⟨ret_bool (by rw [HF.out, K.out, hs_c3 Ppx.out Ppy.out, eq3_t Ppa.out Ppb.out Ppc.out] <;> rfl), HB3.out⟩
            · have bpc : (c == z) = false := by simp [pc]
              have Ppc := hid pc
              clear pc
              go_wp2
              go_ret
              exact ⟨ret_bool (by rw [HF.out, K.out, hs_c3 Ppx.out Ppy.out, eq3_f3 Ppc.out] <;> rfl), HB3.out⟩
          · have bpb : (b == y) = false := by simp [pb]
            have Ppb := hid pb
            clear pb
            go_wp2
            go_ret
            exact ⟨ret_bool (by rw [HF.out, K.out, hs_c3 Ppx.out Ppy.out, eq3_f2 Ppb.out] <;> rfl), HB3.out⟩
        · have bpa : (a == x) = false := by simp [pa]
          have Ppa := hid pa
          clear pa
          go_wp2
          go_ret
          exact ⟨ret_bool (by rw [HF.out, K.out, hs_c3 Ppx.out Ppy.out, eq3_f1 Ppa.out] <;> rfl), HB3.out⟩
      · have bpy : (y != 0) = true := by simp [py]
        have Ppy := hid py
        clear py
        cases low
        · skip
          by_cases pa : a = 0
          · have bpa : (a == 0) = true := by simp [pa]
            have Ppa := hid pa
            clear pa
            by_cases pb : b = y
            · have bpb : (b == y) = true := by simp [pb]
              have Ppb := hid pb
              clear pb
              go_wp2
              go_ret
              exact ⟨ret_bool (by rw [HF.out, K.out, hs_c2 Ppx.out Ppy.out, HLOW.out, decide_eq_true Ppa.out, decide_eq_true Ppb.out] <;> rfl), HB3.out⟩
            · have bpb : (b == y) = false := by simp [pb]
              have Ppb := hid pb
              clear pb
              go_wp2
              go_ret
              exact ⟨ret_bool (by rw [HF.out, K.out, hs_c2 Ppx.out Ppy.out, HLOW.out, decide_eq_true Ppa.out, decide_eq_false Ppb.out] <;> rfl), HB3.out⟩
          · have bpa : (a == 0) = false := by simp [pa]
            have Ppa := hid pa
            clear pa
            go_wp2
            go_ret
            exact ⟨ret_bool (by rw [HF.out, K.out, hs_c2 Ppx.out Ppy.out, HLOW.out, decide_eq_false Ppa.out] <;> rfl), HB3.out⟩
        · skip
          go_wp2
          go_ret
          exact ⟨ret_bool (by rw [HF.out, K.out, hs_c2 Ppx.out Ppy.out, HLOW.out] <;> rfl), HB3.out⟩
    · have bpx : (x != 0) = true := by simp [px]
      have Ppx := hid px
      clear px
      cases low
      · skip
        by_cases pa : a = x
        · have bpa : (a == x) = true := by simp [pa]
          have Ppa := hid pa
          clear pa
          go_wp2
          go_ret
          exact ⟨ret_bool (by rw [HF.out, K.out, hs_c1 Ppx.out, HLOW.out, decide_eq_true Ppa.out] <;> rfl), HB3.out⟩
        · have bpa : (a == x) = false := by simp [pa]
          have Ppa := hid pa
          clear pa
          go_wp2
          go_ret
          exact ⟨ret_bool (by rw [HF.out, K.out, hs_c1 Ppx.out, HLOW.out, decide_eq_false Ppa.out] <;> rfl), HB3.out⟩
      · skip
        go_wp2
        go_ret
        exact ⟨ret_bool (by rw [HF.out, K.out, hs_c1 Ppx.out, HLOW.out] <;> rfl), HB3.out⟩
  have q7 := bsn sg _ k7
  have K := hid (hs_no k1 k2 k3 k4 k5 k6 k7 ⟨x, y, z⟩ ⟨a, b, c⟩)
  clear k1 k2 k3 k4 k5 k6 k7
  generalize bs sg = q at *
  go_wp2
  go_ret
  exact ⟨ret_bool (by rw [HF.out, K.out]), HB3.out⟩

end Hst
end Go.Proofs.Ytecocheolbkneaa
namespace Go.Proofs.Ytecocheolbkneaa
open Go.RowKit
namespace Hst
set_option maxRecDepth 100000

theorem al_yes (f : Tx → Bool) (d : List Tx) (k : Nat) (hk : k < d.length) (h : f d[k] = true) : (d.drop k).all f = (d.drop (k + 1)).all f := by
  rw [List.drop_eq_getElem_cons hk, List.all_cons, h, Bool.true_and]
theorem al_no (f : Tx → Bool) (d : List Tx) (k : Nat) (hk : k < d.length) (h : f d[k] = false) : (d.drop k).all f = false := by
  rw [List.drop_eq_getElem_cons hk, List.all_cons, h, Bool.false_and]
theorem al_end (f : Tx → Bool) (d : List Tx) (k : Nat) (hk : ¬ k < d.length) : (d.drop k).all f = true := by
  rw [List.drop_of_length_le (by omega)]; rfl
theorem piece_mem {n : Int} {s : ByteArray} {b : Nat} (hs : s.size ≤ b) : ∀ (j : Nat) (hj : j < (splitL n (tx s)).length), (bs (splitL n (tx s))[j]).size ≤ b := fun j hj => by
  have := piece_size n s j hj; omega

theorem isRangeR_long (s : ByteArray) (h : ¬ s.size ≤ 60) : isRangeR (tx s) = false := by
  unfold isRangeR; rw [tx_length]; simp; intro h'; omega
theorem isRangeR_short (s : ByteArray) (h : s.size ≤ 60) : isRangeR (tx s) = (splitL 124 (tx s)).all isAltR := by
  unfold isRangeR; rw [tx_length]; simp [h]

set_option maxHeartbeats 2000000 in
theorem isRange_any (s : ByteArray) (w : World) :
    Calls Try.prog 13 #[.string s] w fun e w' => e = .returned (.bool (isRangeR (tx s))) ∧ Below w.heap.size w w' := by
  by_cases h60 : s.size ≤ 60
  · have HP := hid (isRangeR_short s h60)
    go_enter Try.func13, Try.ntmps13
    go_wp2_with fail
    refine (rsplit_any s 124 _ (by omega)).mono ?_
    rintro e w1 ⟨v, rfl, hrow, hb1⟩
    obtain ⟨g, cap, rfl, hg1, hg2, hcell⟩ := hrow.form (splitL_ne _ _)
    have HS := hid (piece_mem (n := 124) h60)
    have hlen := splitL_len 124 (tx s)
    rw [tx_length] at hlen
    generalize splitL 124 (tx s) = d at *
    have HC := hid hcell
    clear hcell hrow
    go_wp2
    go_loopw [4] (fun i wr => ∃ (k : Nat), k ≤ d.length ∧ i = .int .i64 k ∧ Below w1.heap.size w1 wr ∧ Hid (isRangeR (tx s) = (d.drop k).all isAltR)) (fun i _ => d.length - (intOf i).toNat)
    case atStart => exact ⟨0, by omega, rfl, Below.refl _ _, by unfold Hid; rw [HP.out]; rfl⟩
    case round =>
      obtain ⟨k, hk, rfl, hbel, hall⟩ := hrel
      clear HP
      have hz := hbel.size
      have hz1 := hb1.size
      by_cases hlt : k < d.length
      · have hc := (hbel.cell (p := ⟨g, k, none⟩) hg2).trans (HC.out k hlt)
        have hps := HS.out k hlt
        have HA : Hid (isAltR d[k] = (splitL 38 (tx (bs d[k]))).all isCondR) := by unfold Hid; rw [tx_bs]; rfl
        have HY := hid (al_yes isAltR d k hlt)
        have HN := hid (al_no isAltR d k hlt)
        generalize isAltR d[k] = alt at *
        generalize bs d[k] = q at *
        go_wp2_with fail
        refine (rsplit_any q 38 _ (by omega)).mono ?_
        rintro e w2 ⟨v, rfl, hrow, hb2⟩
        obtain ⟨g2, cap2, rfl, hg3, hg4, hcell2⟩ := hrow.form (splitL_ne _ _)
        have HS2 := hid (piece_mem (n := 38) hps)
        have hlen2 := splitL_len 38 (tx q)
        rw [tx_length] at hlen2
        generalize splitL 38 (tx q) = m at *
        have HC2 := hid hcell2
        clear hcell2 hrow hc
        go_wp2
        go_loopw [6] (fun i wq => ∃ (j : Nat), j ≤ m.length ∧ i = .int .i64 j ∧ Below w2.heap.size w2 wq ∧ Hid (alt = (m.drop j).all isCondR)) (fun i _ => m.length - (intOf i).toNat)
        case atStart => exact ⟨0, by omega, rfl, Below.refl _ _, by unfold Hid; rw [HA.out]; rfl⟩
        case round =>
          obtain ⟨j, hj, rfl, hbel2, hall2⟩ := hrel
          clear HA
          have hz2 := hbel2.size
          have hz3 := hb2.size
          have HB := hid ((hbel.trans (hb2.mono hz)).trans (hbel2.mono (by omega)))
          have HBw := hid (hb1.trans (HB.out.mono hz1))
          by_cases hjl : j < m.length
          · have hc2 := (hbel2.cell (p := ⟨g2, j, none⟩) hg4).trans (HC2.out j hjl)
            have HH := hid (fun w => isCond_any (bs m[j]) w)
            rw [tx_bs] at HH
            have HY2 := hid (al_yes isCondR m j hjl)
            have HN2 := hid (al_no isCondR m j hjl)
            generalize isCondR m[j] = cnd at *
            generalize bs m[j] = q2 at *
            cases cnd
            · have HF : Hid (isRangeR (tx s) = false) := by unfold Hid; rw [hall.out, HN.out (by rw [hall2.out, HN2.out rfl])]
              go_wp2_with fail
              refine (HH.out _).mono ?_
              rintro e w3 ⟨rfl, hb3⟩
              have HB3 := hid (HBw.out.trans (hb3.mono (by omega)))
              clear hb3
              go_wp2
              go_ret
              exact ⟨ret_bool (by rw [HF.out]), HB3.out⟩
            · have HF : Hid (alt = (m.drop (j + 1)).all isCondR) := by unfold Hid; rw [hall2.out, HY2.out rfl]
              go_wp2_with fail
              refine (HH.out _).mono ?_
              rintro e w3 ⟨rfl, hb3⟩
              have HB3 := hid (hbel2.trans (hb3.mono hz2))
              clear hb3
              go_wp2
              go_roundw
              case rel => exact ⟨j + 1, by omega, by go_num, HB3.out, HF⟩
              case measure => simp [intOf]; omega
          · have HF : Hid (isRangeR (tx s) = (d.drop (k + 1)).all isAltR) := by unfold Hid; rw [hall.out, HY.out (by rw [hall2.out, al_end isCondR m j hjl])]
            clear hall
            go_wp2
            go_roundw
            case rel => exact ⟨k + 1, by omega, by go_num, HB.out, HF⟩
            case measure => simp [intOf]; omega
      · have HF : Hid (isRangeR (tx s) = true) := by unfold Hid; rw [hall.out, al_end isAltR d k hlt]
        have HB := hid (hb1.trans (hbel.mono hz1))
        go_wp2
        go_ret
        exact ⟨ret_bool (by rw [HF.out]), HB.out⟩
  · have HF := hid (isRangeR_long s h60)
    go_enter Try.func13, Try.ntmps13
    go_wp2
    go_ret
    exact ⟨ret_bool (by rw [HF.out]), Below.refl _ _⟩

end Hst
end Go.Proofs.Ytecocheolbkneaa
namespace Go.Proofs.Ytecocheolbkneaa
open Go.RowKit
namespace Hst
set_option maxRecDepth 100000

theorem an_yes (f : Tx → Bool) (d : List Tx) (k : Nat) (hk : k < d.length) (h : f d[k] = true) : (d.drop k).any f = true := by
  rw [List.drop_eq_getElem_cons hk, List.any_cons, h, Bool.true_or]
theorem an_no (f : Tx → Bool) (d : List Tx) (k : Nat) (hk : k < d.length) (h : f d[k] = false) : (d.drop k).any f = (d.drop (k + 1)).any f := by
  rw [List.drop_eq_getElem_cons hk, List.any_cons, h, Bool.false_or]
theorem an_end (f : Tx → Bool) (d : List Tx) (k : Nat) (hk : ¬ k < d.length) : (d.drop k).any f = false := by
  rw [List.drop_of_length_le (by omega)]; rfl

/-- What is known of an alternative in the midst of its conditions. -/
def AltSt (alt bl : Bool) (m : List Tx) (v : V3) : Prop := (bl = true → alt = m.all (fun x => holdsR x v)) ∧ (bl = false → alt = false)

attribute [local go_sem ↓] Go.wp_at_zero Go.wp_at_succ

set_option maxHeartbeats 2000000 in
theorem fit_any (s : ByteArray) (a b c : Int) (w : World) (h60 : s.size ≤ 60) :
    Calls Try.prog 15 #[.string s, verV a b c] w fun e w' => e = .returned (.bool (fitR (tx s) ⟨a, b, c⟩)) ∧ Below w.heap.size w w' := by
  have HP : Hid (fitR (tx s) ⟨a, b, c⟩ = (splitL 124 (tx s)).any (fun x => altFitR x ⟨a, b, c⟩)) := rfl
  go_enter Try.func15, Try.ntmps15
  go_wp2_with fail
  refine (rsplit_any s 124 _ (by omega)).mono ?_
  rintro e w1 ⟨v, rfl, hrow, hb1⟩
  obtain ⟨g, cap, rfl, hg1, hg2, hcell⟩ := hrow.form (splitL_ne _ _)
  have HS := hid (piece_mem (n := 124) h60)
  have hlen := splitL_len 124 (tx s)
  rw [tx_length] at hlen
  generalize splitL 124 (tx s) = d at *
  have HC := hid hcell
  have hz1 := hb1.size
  simp at hz1
  have v0 := (bcell hb1).1 w.heap.size 0 (by simp)
  have v1 := (bcell hb1).1 w.heap.size 1 (by simp)
  have v2 := (bcell hb1).1 w.heap.size 2 (by simp)
  simp at v0 v1 v2
  have HB1 := hid (((Below.refl _ _).alloc (Nat.le_refl _) _).trans (hb1.mono (by simp)) : Below w.heap.size w w1)
  clear hcell hrow hb1
  go_wp2
  go_loopw [6] (fun i wr => ∃ (k : Nat), k ≤ d.length ∧ i = .int .i64 k ∧ Below w1.heap.size w1 wr ∧ Hid (fitR (tx s) ⟨a, b, c⟩ = (d.drop k).any (fun x => altFitR x ⟨a, b, c⟩))) (fun i _ => d.length - (intOf i).toNat)
  case atStart => exact ⟨0, by omega, rfl, Below.refl _ _, by unfold Hid; rw [HP.out]; rfl⟩
  case round =>
    obtain ⟨k, hk, rfl, hbel, hall⟩ := hrel
    clear HP
    have hz := hbel.size
    by_cases hlt : k < d.length
    · have hc := (hbel.cell (p := ⟨g, k, none⟩) hg2).trans (HC.out k hlt)
      have hps := HS.out k hlt
      have HA : Hid (altFitR d[k] ⟨a, b, c⟩ = (splitL 38 (tx (bs d[k]))).all (fun x => holdsR x ⟨a, b, c⟩)) := by unfold Hid; rw [tx_bs]; rfl
      have HY := hid (an_yes (fun x => altFitR x ⟨a, b, c⟩) d k hlt)
      have HN := hid (an_no (fun x => altFitR x ⟨a, b, c⟩) d k hlt)
      generalize altFitR d[k] ⟨a, b, c⟩ = alt at *
      generalize bs d[k] = q at *
      go_wp2_with fail
      refine (rsplit_any q 38 _ (by omega)).mono ?_
      rintro e w2 ⟨v, rfl, hrow, hb2⟩
      obtain ⟨g2, cap2, rfl, hg3, hg4, hcell2⟩ := hrow.form (splitL_ne _ _)
      have HS2 := hid (piece_mem (n := 38) hps)
      have hlen2 := splitL_len 38 (tx q)
      rw [tx_length] at hlen2
      generalize splitL 38 (tx q) = m at *
      have HC2 := hid hcell2
      have hz2 := hb2.size
      have HB2 := hid (hbel.trans (hb2.mono hz))
      have hB2 := HB2.out
      have u0 := (hB2.cell (p := ⟨w.heap.size, 0, none⟩) (by show w.heap.size < _; omega)).trans v0
      have u1 := (hB2.cell (p := ⟨w.heap.size, 1, none⟩) (by show w.heap.size < _; omega)).trans v1
      have u2 := (hB2.cell (p := ⟨w.heap.size, 2, none⟩) (by show w.heap.size < _; omega)).trans v2
      clear hcell2 hrow hc hB2 v0 v1 v2
      go_wp2
      go_loopw [8, 9] (fun al i wq => ∃ (j : Nat) (bl : Bool), j ≤ m.length ∧ al = .bool bl ∧ i = .int .i64 j ∧ Below w2.heap.size w2 wq ∧ AltSt alt bl (m.drop j) ⟨a, b, c⟩) (fun _ i _ => m.length - (intOf i).toNat)
      case atStart => exact ⟨0, true, by omega, rfl, rfl, Below.refl _ _, ⟨fun _ => by rw [HA.out]; rfl, fun h => by cases h⟩⟩
      case round =>
        obtain ⟨j, bl, hj, rfl, rfl, hbel2, hall2⟩ := hrel
        clear HA
        have hz4 := hbel2.size
        have HB := hid (HB2.out.trans (hbel2.mono (by omega)))
        have HBw := hid (HB1.out.trans (HB.out.mono (by omega)))
        cases bl
        · -- the alternative does not fit
          have HF : Hid (alt = false) := hall2.2 rfl
          have HF2 : Hid (fitR (tx s) ⟨a, b, c⟩ = (d.drop (k + 1)).any (fun x => altFitR x ⟨a, b, c⟩)) := by unfold Hid; rw [hall.out, HN.out HF.out]
          by_cases hjl : j < m.length
          all_goals
            go_wp2
            go_roundw
            case rel => exact ⟨k + 1, by omega, by go_num, HB.out, HF2⟩
            case measure => simp [intOf]; omega
        · by_cases hjl : j < m.length
          · have hc2 := (hbel2.cell (p := ⟨g2, j, none⟩) hg4).trans (HC2.out j hjl)
            have hh := fun w => holds_any (bs m[j]) a b c w
            rw [tx_bs] at hh
            have HH := hid hh
            have t0 := (hbel2.cell (p := ⟨w.heap.size, 0, none⟩) (by show w.heap.size < _; omega)).trans u0
            have t1 := (hbel2.cell (p := ⟨w.heap.size, 1, none⟩) (by show w.heap.size < _; omega)).trans u1
            have t2 := (hbel2.cell (p := ⟨w.heap.size, 2, none⟩) (by show w.heap.size < _; omega)).trans u2
            have HY2 := hid (al_yes (fun x => holdsR x ⟨a, b, c⟩) m j hjl)
            have HN2 := hid (al_no (fun x => holdsR x ⟨a, b, c⟩) m j hjl)
            generalize holdsR m[j] ⟨a, b, c⟩ = cnd at *
            generalize bs m[j] = q2 at *
            clear hh u0 u1 u2
            have HF : AltSt alt cnd (m.drop (j + 1)) ⟨a, b, c⟩ := ⟨fun h => by rw [hall2.1 rfl, HY2.out h], fun h => by rw [hall2.1 rfl, HN2.out h]⟩
            have hgq : g2 < wr.heap.size := by omega
            have hwq : w.heap.size < wr.heap.size := by omega
            have hj0 : (0 : Int) ≤ (j : Int) := by omega
            have hj1 : (j : Int) < (m.length : Int) := by omega
            go_wp2
            go_region_held3 (fun w' => w'.cell? ⟨g2, j, none⟩ = some (.string q2) ∧ w'.cell? ⟨w.heap.size, 0, none⟩ = some (.int .i64 a) ∧ w'.cell? ⟨w.heap.size, 1, none⟩ = some (.int .i64 b) ∧ w'.cell? ⟨w.heap.size, 2, none⟩ = some (.int .i64 c)) (go_keep)
              (first | (go_at_call 24; refine (HH.out _).mono ?_; rintro e w3 ⟨rfl, hb3⟩; have hz3 := (bcell hb3).1; simp at hz3))
            have HB3 := hid (hbel2.drew.trans (hb3.mono hz4))
            clear hb3
            go_wp2
            go_roundw
            case rel => exact ⟨j + 1, cnd, by omega, rfl, by go_num, HB3.out, HF⟩
            case measure => simp [intOf]; omega
          · have HF : Hid (fitR (tx s) ⟨a, b, c⟩ = true) := by unfold Hid; rw [hall.out, HY.out (by rw [hall2.1 rfl, al_end _ m j hjl])]
            go_wp2
            go_ret
            exact ⟨ret_bool (by rw [HF.out]), HBw.out⟩
    · have HF : Hid (fitR (tx s) ⟨a, b, c⟩ = false) := by unfold Hid; rw [hall.out, an_end _ d k hlt]
      have HB := hid (HB1.out.trans (hbel.mono (by omega)))
      go_wp2
      go_ret
      exact ⟨ret_bool (by rw [HF.out]), HB.out⟩

end Hst
end Go.Proofs.Ytecocheolbkneaa
namespace Go.Proofs.Ytecocheolbkneaa
open Go.RowKit
namespace Hst
set_option maxRecDepth 100000

/-- Fits of the document: its answer and its error. -/
def fitsRef (r v : Tx) : Bool × Int := if isRangeR r = false then (false, 1) else if (versionR v).2 = false then (false, 2) else (fitR r (versionR v).1, 0)
theorem fitsRef1 {r v : Tx} (h : isRangeR r = false) : fitsRef r v = (false, 1) := by simp [fitsRef, h]
theorem fitsRef2 {r v : Tx} (h : isRangeR r = true) (h' : (versionR v).2 = false) : fitsRef r v = (false, 2) := by simp [fitsRef, h, h']
theorem fitsRef3 {r v : Tx} (h : isRangeR r = true) (h' : (versionR v).2 = true) : fitsRef r v = (fitR r (versionR v).1, 0) := by simp [fitsRef, h, h']

set_option maxHeartbeats 1000000 in
theorem rfitsf_any (r v : ByteArray) (w : World) :
    Calls Try.prog 6 #[.string r, .string v] w fun e w' => e = .returned (.tuple #[.bool (fitsRef (tx r) (tx v)).1, .int .i64 (fitsRef (tx r) (tx v)).2]) ∧ Below w.heap.size w w' := by
  have HR := hid (fun w => isRange_any r w)
  have HV := hid (fun w => version_any v w)
  rcases hr : isRangeR (tx r) with _ | _
  · rw [fitsRef1 hr]
    rw [hr] at HR
    clear hr
    go_enter Try.func6, Try.ntmps6
    go_wp2_with fail
    refine (HR.out _).mono ?_
    rintro e w1 ⟨rfl, hb1⟩
    go_wp2
    go_ret2
    exact ⟨rfl, hb1⟩
  · have h60 : r.size ≤ 60 := by
      by_cases h : r.size ≤ 60
      · exact h
      · rw [isRangeR_long r h] at hr; simp at hr
    rw [hr] at HR
    rcases hv : versionR (tx v) with ⟨⟨x, y, z⟩, ok⟩
    rw [hv] at HV
    cases ok
    · rw [fitsRef2 hr (by rw [hv])]
      clear hr hv
      go_enter Try.func6, Try.ntmps6
      go_wp2_with fail
      refine (HR.out _).mono ?_
      rintro e w1 ⟨rfl, hb1⟩
      go_wp2_with fail
      refine (HV.out _).mono ?_
      rintro e w2 ⟨rfl, hb2⟩
      have HB := hid (hb1.trans (hb2.mono hb1.size))
      have hz := HB.out.size
      clear hb1 hb2
      go_wp2
      go_ret2
      exact ⟨rfl, HB.out.alloc hz _⟩
    · rw [fitsRef3 hr (by rw [hv]), hv]
      clear hr hv
      go_enter Try.func6, Try.ntmps6
      go_wp2_with fail
      refine (HR.out _).mono ?_
      rintro e w1 ⟨rfl, hb1⟩
      go_wp2_with fail
      refine (HV.out _).mono ?_
      rintro e w2 ⟨rfl, hb2⟩
      have HB := hid (hb1.trans (hb2.mono hb1.size))
      have hz := HB.out.size
      clear hb1 hb2
      go_wp2_with fail
      refine (fit_any r x y z _ h60).mono ?_
      rintro e w3 ⟨rfl, hb3⟩
      have HB3 := hid ((HB.out.alloc hz _).trans (hb3.mono (by simp; omega)))
      clear hb3
      go_wp2
      go_ret2
      exact ⟨rfl, HB3.out⟩

end Hst
end Go.Proofs.Ytecocheolbkneaa
