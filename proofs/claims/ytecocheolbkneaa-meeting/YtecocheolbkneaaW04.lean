/- Holds, Rrange, Math -/
import Derived.Test.YtecocheolbkneaaW03
import Derived.Deep.RegionHeld3
import Derived.Deep.QuietTactic
import Derived.Test.YtecocheolbkneaaW01
namespace Go.Proofs.Ytecocheolbkneaa
open Go.RowKit
namespace Hst
set_option maxRecDepth 100000

theorem bse (l m : Tx) (h : l = m) : ((bs l).toList == m) = true := by rw [tx_toList, tx_bs, h]; simp
theorem bsn (l m : Tx) (h : l ≠ m) : ((bs l).toList == m) = false := by rw [tx_toList, tx_bs]; simp [h]

theorem eq3_t {a b c x y z : Int} (h1 : a = x) (h2 : b = y) (h3 : c = z) : eq3 ⟨a, b, c⟩ ⟨x, y, z⟩ = true := by simp [eq3, h1, h2, h3]
theorem eq3_f1 {a b c x y z : Int} (h1 : ¬ a = x) : eq3 ⟨a, b, c⟩ ⟨x, y, z⟩ = false := by simp [eq3, h1]
theorem eq3_f2 {a b c x y z : Int} (h1 : ¬ b = y) : eq3 ⟨a, b, c⟩ ⟨x, y, z⟩ = false := by simp [eq3, h1]
theorem eq3_f3 {a b c x y z : Int} (h1 : ¬ c = z) : eq3 ⟨a, b, c⟩ ⟨x, y, z⟩ = false := by simp [eq3, h1]
theorem hs_eq {a b c x y z : Int} : holdsS [61] ⟨x, y, z⟩ ⟨a, b, c⟩ = eq3 ⟨a, b, c⟩ ⟨x, y, z⟩ := by simp [holdsS]
theorem hs_gt {a b c x y z : Int} : holdsS [62] ⟨x, y, z⟩ ⟨a, b, c⟩ = (!belowB a b c x y z && !eq3 ⟨a, b, c⟩ ⟨x, y, z⟩) := by simp [holdsS]
theorem hs_ge {a b c x y z : Int} : holdsS [62, 61] ⟨x, y, z⟩ ⟨a, b, c⟩ = !belowB a b c x y z := by simp [holdsS]
theorem hs_lt {a b c x y z : Int} : holdsS [60] ⟨x, y, z⟩ ⟨a, b, c⟩ = belowB a b c x y z := by simp [holdsS]
theorem hs_le {a b c x y z : Int} : holdsS [60, 61] ⟨x, y, z⟩ ⟨a, b, c⟩ = (belowB a b c x y z || eq3 ⟨a, b, c⟩ ⟨x, y, z⟩) := by simp [holdsS]
theorem hs_ti {a b c x y z : Int} : holdsS [126] ⟨x, y, z⟩ ⟨a, b, c⟩ = (!belowB a b c x y z && decide (a = x) && decide (b = y)) := by simp [holdsS]
theorem hs_c1 {a b c x y z : Int} (h : ¬ x = 0) : holdsS [94] ⟨x, y, z⟩ ⟨a, b, c⟩ = (!belowB a b c x y z && decide (a = x)) := by simp [holdsS, h]
theorem hs_c2 {a b c x y z : Int} (h : x = 0) (h' : ¬ y = 0) : holdsS [94] ⟨x, y, z⟩ ⟨a, b, c⟩ = (!belowB a b c x y z && decide (a = 0) && decide (b = y)) := by simp [holdsS, h, h']
theorem hs_c3 {a b c x y z : Int} (h : x = 0) (h' : y = 0) : holdsS [94] ⟨x, y, z⟩ ⟨a, b, c⟩ = eq3 ⟨a, b, c⟩ ⟨x, y, z⟩ := by simp [holdsS, h, h']
theorem hs_no {sg : Tx} (k1 : ¬ sg = [61]) (k2 : ¬ sg = [62]) (k3 : ¬ sg = [62, 61]) (k4 : ¬ sg = [60]) (k5 : ¬ sg = [60, 61]) (k6 : ¬ sg = [126]) (k7 : ¬ sg = [94]) (w v : V3) : holdsS sg w v = true := by simp [holdsS, k1, k2, k3, k4, k5, k6, k7]

set_option maxHeartbeats 8000000 in
theorem holds_any (s : ByteArray) (a b c : Int) (w : World) :
    Calls Try.prog 24 #[.string s, verV a b c] w fun e w' => e = .returned (.bool (holdsR (tx s) ⟨a, b, c⟩)) ∧ Below w.heap.size w w' := by
  have HS := hid (fun w => signed_any s w)
  have HV := hid (fun w => version_any (bs (signedR (tx s)).2) w)
  rw [tx_bs] at HV
  have HF : Hid (holdsR (tx s) ⟨a, b, c⟩ = holdsS (signedR (tx s)).1 (versionR (signedR (tx s)).2).1 ⟨a, b, c⟩) := rfl
  generalize hsg : (signedR (tx s)).1 = sg at *
  generalize hrs : (signedR (tx s)).2 = rs at *
  clear hsg hrs
  generalize hvr : versionR rs = vr at *
  clear hvr
  obtain ⟨⟨x, y, z⟩, ok⟩ := vr
  go_enter Try.func24, Try.ntmps24
  go_wp2_with fail
  refine (HS.out _).mono ?_
  rintro e w1 ⟨rfl, hb1⟩
  go_wp2_with fail
  refine (HV.out _).mono ?_
  rintro e w2 ⟨rfl, hb2⟩
  have hb12 := hb1.trans (hb2.mono hb1.size)
  obtain ⟨hcc, hff⟩ := bcell hb12
  have hz := hb12.size
  simp at hcc hz
  have c0 := hcc w.heap.size 0 (by omega)
  have c1 := hcc w.heap.size 1 (by omega)
  have c2 := hcc w.heap.size 2 (by omega)
  simp at c0 c1 c2
  have hwz : w.heap.size < w2.heap.size := by omega
  have HB := hid (((Below.refl _ _).alloc (Nat.le_refl _) _).trans (hb12.mono (by simp)) : Below w.heap.size w w2)
  clear hb1 hb2 hcc hff hb12
  go_wp2_with fail
  refine (below_any _ _ _ _ _ _ _).mono ?_
  rintro e w3 ⟨rfl, hb3⟩
  obtain ⟨hcc, hff⟩ := bcell hb3
  have hz3 := hb3.size
  simp at hcc hz3
  have d0 := (hcc w.heap.size 0 (by omega)).trans ((World.cell?_alloc_past _ _ _ hwz).trans c0)
  have d1 := (hcc w.heap.size 1 (by omega)).trans ((World.cell?_alloc_past _ _ _ hwz).trans c1)
  have d2 := (hcc w.heap.size 2 (by omega)).trans ((World.cell?_alloc_past _ _ _ hwz).trans c2)
  have e0 := hcc w2.heap.size 0 (by omega)
  have e1 := hcc w2.heap.size 1 (by omega)
  have e2 := hcc w2.heap.size 2 (by omega)
  simp at e0 e1 e2
  have HB3 := hid ((HB.out.alloc (by omega) _).trans (hb3.mono (by simp; omega)) : Below w.heap.size w w3)
  generalize hlow : belowB a b c x y z = low at *
  have HLOW := hid hlow
  clear hb3 hcc hff c0 c1 c2 hlow
  by_cases k1 : sg = [61]
  · have q1 := bse sg _ k1
    have K := hid k1
    clear k1
    generalize bs sg = q at *
    by_cases pa : a = x
    · have bpa : (a == x) = true := by simp [pa]
      have Ppa := hid pa
      clear pa
      by_cases pb : b = y
      · have bpb : (b == y) = true := by simp [pb]
        have Ppb := hid pb
        clear pb
        by_cases pc : c = z
        · have bpc : (c == z) = true := by simp [pc]
          have Ppc := hid pc
          clear pc
          go_wp2
          go_ret
          exact ⟨ret_bool (by rw [HF.out, K.out, hs_eq, eq3_t Ppa.out Ppb.out Ppc.out] <;> rfl), HB3.out⟩
        · have bpc : (c == z) = false := by simp [pc]
          have Ppc := hid pc
          clear pc
          go_wp2
          go_ret
          exact ⟨ret_bool (by rw [HF.out, K.out, hs_eq, eq3_f3 Ppc.out] <;> rfl), HB3.out⟩
      · have bpb : (b == y) = false := by simp [pb]
        have Ppb := hid pb
        clear pb
        go_wp2
        go_ret
        exact ⟨ret_bool (by rw [HF.out, K.out, hs_eq, eq3_f2 Ppb.out] <;> rfl), HB3.out⟩
    · have bpa : (a == x) = false := by simp [pa]
      have Ppa := hid pa
      clear pa
      go_wp2
      go_ret
      exact ⟨ret_bool (by rw [HF.out, K.out, hs_eq, eq3_f1 Ppa.out] <;> rfl), HB3.out⟩
  have q1 := bsn sg _ k1
  by_cases k2 : sg = [62]
  · have q2 := bse sg _ k2
    have K := hid k2
    clear k1 k2
    generalize bs sg = q at *
    cases low
    · skip
      by_cases pa : a = x
      · have bpa : (a == x) = true := by simp [pa]
        have Ppa := hid pa
        clear pa
        by_cases pb : b = y
        · have bpb : (b == y) = true := by simp [pb]
          have Ppb := hid pb
          clear pb
          by_cases pc : c = z
          · have bpc : (c == z) = true := by simp [pc]
            have Ppc := hid pc
            clear pc
            go_wp2
            go_ret
            exact ⟨ret_bool (by rw [HF.out, K.out, hs_gt, HLOW.out, eq3_t Ppa.out Ppb.out Ppc.out] <;> rfl), HB3.out⟩
          · have bpc : (c == z) = false := by simp [pc]
            have Ppc := hid pc
            clear pc
            go_wp2
            go_ret
            exact ⟨ret_bool (by rw [HF.out, K.out, hs_gt, HLOW.out, eq3_f3 Ppc.out] <;> rfl), HB3.out⟩
        · have bpb : (b == y) = false := by simp [pb]
          have Ppb := hid pb
          clear pb
          go_wp2
          go_ret
          exact ⟨ret_bool (by rw [HF.out, K.out, hs_gt, HLOW.out, eq3_f2 Ppb.out] <;> rfl), HB3.out⟩
      · have bpa : (a == x) = false := by simp [pa]
        have Ppa := hid pa
        clear pa
        go_wp2
        go_ret
        exact ⟨ret_bool (by rw [HF.out, K.out, hs_gt, HLOW.out, eq3_f1 Ppa.out] <;> rfl), HB3.out⟩
    · skip
      go_wp2
      go_ret
      exact ⟨ret_bool (by rw [HF.out, K.out, hs_gt, HLOW.out] <;> rfl), HB3.out⟩
  have q2 := bsn sg _ k2
  by_cases k3 : sg = [62, 61]
  · have q3 := bse sg _ k3
    have K := hid k3
    clear k1 k2 k3
    generalize bs sg = q at *
    go_wp2
    go_ret
    exact ⟨ret_bool (by rw [HF.out, K.out, hs_ge, HLOW.out] <;> rfl), HB3.out⟩
  have q3 := bsn sg _ k3
  by_cases k4 : sg = [60]
  · have q4 := bse sg _ k4
    have K := hid k4
    clear k1 k2 k3 k4
    generalize bs sg = q at *
    go_wp2
    go_ret
    exact ⟨ret_bool (by rw [HF.out, K.out, hs_lt, HLOW.out] <;> rfl), HB3.out⟩
  have q4 := bsn sg _ k4
  by_cases k5 : sg = [60, 61]
  · have q5 := bse sg _ k5
    have K := hid k5
    clear k1 k2 k3 k4 k5
    generalize bs sg = q at *
    cases low
    · skip
      by_cases pa : a = x
      · have bpa : (a == x) = true := by simp [pa]
        have Ppa := hid pa
        clear pa
        by_cases pb : b = y
        · have bpb : (b == y) = true := by simp [pb]
          have Ppb := hid pb
          clear pb
          by_cases pc : c = z
          · have bpc : (c == z) = true := by simp [pc]
            have Ppc := hid pc
            clear pc
            go_wp2
            go_ret
            exact ⟨ret_bool (by rw [HF.out, K.out, hs_le, HLOW.out, eq3_t Ppa.out Ppb.out Ppc.out] <;> rfl), HB3.out⟩
          · have bpc : (c == z) = false := by simp [pc]
            have Ppc := hid pc
            clear pc
            go_wp2
            go_ret
            exact ⟨ret_bool (by rw [HF.out, K.out, hs_le, HLOW.out, eq3_f3 Ppc.out] <;> rfl), HB3.out⟩
        · have bpb : (b == y) = false := by simp [pb]
          have Ppb := hid pb
          clear pb
          go_wp2
          go_ret
          exact ⟨ret_bool (by rw [HF.out, K.out, hs_le, HLOW.out, eq3_f2 Ppb.out] <;> rfl), HB3.out⟩
      · have bpa : (a == x) = false := by simp [pa]
        have Ppa := hid pa
        clear pa
        go_wp2
        go_ret
        exact ⟨ret_bool (by rw [HF.out, K.out, hs_le, HLOW.out, eq3_f1 Ppa.out] <;> rfl), HB3.out⟩
    · skip
      go_wp2
      go_ret
      exact ⟨ret_bool (by rw [HF.out, K.out, hs_le, HLOW.out] <;> rfl), HB3.out⟩
  have q5 := bsn sg _ k5
  by_cases k6 : sg = [126]
  · have q6 := bse sg _ k6
    have K := hid k6
    clear k1 k2 k3 k4 k5 k6
    generalize bs sg = q at *
    cases low
    · skip
      by_cases pa : a = x
      · have bpa : (a == x) = true := by simp [pa]
        have Ppa := hid pa
        clear pa
        by_cases pb : b = y
        · have bpb : (b == y) = true := by simp [pb]
          have Ppb := hid pb
          clear pb
          go_wp2
          go_ret
          exact ⟨ret_bool (by rw [HF.out, K.out, hs_ti, HLOW.out, decide_eq_true Ppa.out, decide_eq_true Ppb.out] <;> rfl), HB3.out⟩
        · have bpb : (b == y) = false := by simp [pb]
          have Ppb := hid pb
          clear pb
          go_wp2
          go_ret
          exact ⟨ret_bool (by rw [HF.out, K.out, hs_ti, HLOW.out, decide_eq_true Ppa.out, decide_eq_false Ppb.out] <;> rfl), HB3.out⟩
      · have bpa : (a == x) = false := by simp [pa]
        have Ppa := hid pa
        clear pa
        go_wp2
        go_ret
        exact ⟨ret_bool (by rw [HF.out, K.out, hs_ti, HLOW.out, decide_eq_false Ppa.out] <;> rfl), HB3.out⟩
    · skip
      go_wp2
      go_ret
      exact ⟨ret_bool (by rw [HF.out, K.out, hs_ti, HLOW.out] <;> rfl), HB3.out⟩
  have q6 := bsn sg _ k6
  by_cases k7 : sg = [94]
  · have q7 := bse sg _ k7
    have K := hid k7
    clear k1 k2 k3 k4 k5 k6 k7
    generalize bs sg = q at *
    by_cases px : x = 0
    · have bpx : (x != 0) = false := by simp [px]
      have Ppx := hid px
      clear px
      by_cases py : y = 0
      · have bpy : (y != 0) = false := by simp [py]
        have Ppy := hid py
        clear py
        by_cases pa : a = x
        · have bpa : (a == x) = true := by simp [pa]
          have Ppa := hid pa
          clear pa
          by_cases pb : b = y
          · have bpb : (b == y) = true := by simp [pb]
            have Ppb := hid pb
            clear pb
            by_cases pc : c = z
            · have bpc : (c == z) = true := by simp [pc]
              have Ppc := hid pc
              clear pc
              go_wp2
              go_ret
              exact ⟨ret_bool (by rw [HF.out, K.out, hs_c3 Ppx.out Ppy.out, eq3_t Ppa.out Ppb.out Ppc.out] <;> rfl), HB3.out⟩
            · have bpc : (c == z) = false := by simp [pc]
              have Ppc := hid pc
              clear pc
              go_wp2
              go_ret
              exact ⟨ret_bool (by rw [HF.out, K.out, hs_c3 Ppx.out Ppy.out, eq3_f3 Ppc.out] <;> rfl), HB3.out⟩
          · have bpb : (b == y) = false := by simp [pb]
            have Ppb := hid pb
            clear pb
            go_wp2
            go_ret
            exact ⟨ret_bool (by rw [HF.out, K.out, hs_c3 Ppx.out Ppy.out, eq3_f2 Ppb.out] <;> rfl), HB3.out⟩
        · have bpa : (a == x) = false := by simp [pa]
          have Ppa := hid pa
          clear pa
          go_wp2
          go_ret
          exact ⟨ret_bool (by rw [HF.out, K.out, hs_c3 Ppx.out Ppy.out, eq3_f1 Ppa.out] <;> rfl), HB3.out⟩
      · have bpy : (y != 0) = true := by simp [py]
        have Ppy := hid py
        clear py
        cases low
        · skip
          by_cases pa : a = 0
          · have bpa : (a == 0) = true := by simp [pa]
            have Ppa := hid pa
            clear pa
            by_cases pb : b = y
            · have bpb : (b == y) = true := by simp [pb]
              have Ppb := hid pb
              clear pb
              go_wp2
              go_ret
              exact ⟨ret_bool (by rw [HF.out, K.out, hs_c2 Ppx.out Ppy.out, HLOW.out, decide_eq_true Ppa.out, decide_eq_true Ppb.out] <;> rfl), HB3.out⟩
            · have bpb : (b == y) = false := by simp [pb]
              have Ppb := hid pb
              clear pb
              go_wp2
              go_ret
              exact ⟨ret_bool (by rw [HF.out, K.out, hs_c2 Ppx.out Ppy.out, HLOW.out, decide_eq_true Ppa.out, decide_eq_false Ppb.out] <;> rfl), HB3.out⟩
          · have bpa : (a == 0) = false := by simp [pa]
            have Ppa := hid pa
            clear pa
            go_wp2
            go_ret
            exact ⟨ret_bool (by rw [HF.out, K.out, hs_c2 Ppx.out Ppy.out, HLOW.out, decide_eq_false Ppa.out] <;> rfl), HB3.out⟩
        · skip
          go_wp2
          go_ret
          exact ⟨ret_bool (by rw [HF.out, K.out, hs_c2 Ppx.out Ppy.out, HLOW.out] <;> rfl), HB3.out⟩
    · have bpx : (x != 0) = true := by simp [px]
      have Ppx := hid px
      clear px
      cases low
      · skip
        by_cases pa : a = x
        · have bpa : (a == x) = true := by simp [pa]
          have Ppa := hid pa
          clear pa
          go_wp2
          go_ret
          exact ⟨ret_bool (by rw [HF.out, K.out, hs_c1 Ppx.out, HLOW.out, decide_eq_true Ppa.out] <;> rfl), HB3.out⟩
        · have bpa : (a == x) = false := by simp [pa]
          have Ppa := hid pa
          clear pa
          go_wp2
          go_ret
          exact ⟨ret_bool (by rw [HF.out, K.out, hs_c1 Ppx.out, HLOW.out, decide_eq_false Ppa.out] <;> rfl), HB3.out⟩
      · skip
        go_wp2
        go_ret
        exact ⟨ret_bool (by rw [HF.out, K.out, hs_c1 Ppx.out, HLOW.out] <;> rfl), HB3.out⟩
  have q7 := bsn sg _ k7
  have K := hid (hs_no k1 k2 k3 k4 k5 k6 k7 ⟨x, y, z⟩ ⟨a, b, c⟩)
  clear k1 k2 k3 k4 k5 k6 k7
  generalize bs sg = q at *
  go_wp2
  go_ret
  exact ⟨ret_bool (by rw [HF.out, K.out]), HB3.out⟩

end Hst
end Go.Proofs.Ytecocheolbkneaa
namespace Go.Proofs.Ytecocheolbkneaa
open Go.RowKit
namespace Hst
set_option maxRecDepth 100000

theorem al_yes (f : Tx → Bool) (d : List Tx) (k : Nat) (hk : k < d.length) (h : f d[k] = true) : (d.drop k).all f = (d.drop (k + 1)).all f := by
  rw [List.drop_eq_getElem_cons hk, List.all_cons, h, Bool.true_and]
theorem al_no (f : Tx → Bool) (d : List Tx) (k : Nat) (hk : k < d.length) (h : f d[k] = false) : (d.drop k).all f = false := by
  rw [List.drop_eq_getElem_cons hk, List.all_cons, h, Bool.false_and]
theorem al_end (f : Tx → Bool) (d : List Tx) (k : Nat) (hk : ¬ k < d.length) : (d.drop k).all f = true := by
  rw [List.drop_of_length_le (by omega)]; rfl
theorem piece_mem {n : Int} {s : ByteArray} {b : Nat} (hs : s.size ≤ b) : ∀ (j : Nat) (hj : j < (splitL n (tx s)).length), (bs (splitL n (tx s))[j]).size ≤ b := fun j hj => by
  have := piece_size n s j hj; omega

theorem isRangeR_long (s : ByteArray) (h : ¬ s.size ≤ 60) : isRangeR (tx s) = false := by
  unfold isRangeR; rw [tx_length]; simp; intro h'; omega
theorem isRangeR_short (s : ByteArray) (h : s.size ≤ 60) : isRangeR (tx s) = (splitL 124 (tx s)).all isAltR := by
  unfold isRangeR; rw [tx_length]; simp [h]

set_option maxHeartbeats 2000000 in
theorem isRange_any (s : ByteArray) (w : World) :
    Calls Try.prog 13 #[.string s] w fun e w' => e = .returned (.bool (isRangeR (tx s))) ∧ Below w.heap.size w w' := by
  by_cases h60 : s.size ≤ 60
  · have HP := hid (isRangeR_short s h60)
    go_enter Try.func13, Try.ntmps13
    go_wp2_with fail
    refine (rsplit_any s 124 _ (by omega)).mono ?_
    rintro e w1 ⟨v, rfl, hrow, hb1⟩
    obtain ⟨g, cap, rfl, hg1, hg2, hcell⟩ := hrow.form (splitL_ne _ _)
    have HS := hid (piece_mem (n := 124) h60)
    have hlen := splitL_len 124 (tx s)
    rw [tx_length] at hlen
    generalize splitL 124 (tx s) = d at *
    have HC := hid hcell
    clear hcell hrow
    go_wp2
    go_loopw [4] (fun i wr => ∃ (k : Nat), k ≤ d.length ∧ i = .int .i64 k ∧ Below w1.heap.size w1 wr ∧ Hid (isRangeR (tx s) = (d.drop k).all isAltR)) (fun i _ => d.length - (intOf i).toNat)
    case atStart => exact ⟨0, by omega, rfl, Below.refl _ _, by unfold Hid; rw [HP.out]; rfl⟩
    case round =>
      obtain ⟨k, hk, rfl, hbel, hall⟩ := hrel
      clear HP
      have hz := hbel.size
      have hz1 := hb1.size
      by_cases hlt : k < d.length
      · have hc := (hbel.cell (p := ⟨g, k, none⟩) hg2).trans (HC.out k hlt)
        have hps := HS.out k hlt
        have HA : Hid (isAltR d[k] = (splitL 38 (tx (bs d[k]))).all isCondR) := by unfold Hid; rw [tx_bs]; rfl
        have HY := hid (al_yes isAltR d k hlt)
        have HN := hid (al_no isAltR d k hlt)
        generalize isAltR d[k] = alt at *
        generalize bs d[k] = q at *
        go_wp2_with fail
        refine (rsplit_any q 38 _ (by omega)).mono ?_
        rintro e w2 ⟨v, rfl, hrow, hb2⟩
        obtain ⟨g2, cap2, rfl, hg3, hg4, hcell2⟩ := hrow.form (splitL_ne _ _)
        have HS2 := hid (piece_mem (n := 38) hps)
        have hlen2 := splitL_len 38 (tx q)
        rw [tx_length] at hlen2
        generalize splitL 38 (tx q) = m at *
        have HC2 := hid hcell2
        clear hcell2 hrow hc
        go_wp2
        go_loopw [6] (fun i wq => ∃ (j : Nat), j ≤ m.length ∧ i = .int .i64 j ∧ Below w2.heap.size w2 wq ∧ Hid (alt = (m.drop j).all isCondR)) (fun i _ => m.length - (intOf i).toNat)
        case atStart => exact ⟨0, by omega, rfl, Below.refl _ _, by unfold Hid; rw [HA.out]; rfl⟩
        case round =>
          obtain ⟨j, hj, rfl, hbel2, hall2⟩ := hrel
          clear HA
          have hz2 := hbel2.size
          have hz3 := hb2.size
          have HB := hid ((hbel.trans (hb2.mono hz)).trans (hbel2.mono (by omega)))
          have HBw := hid (hb1.trans (HB.out.mono hz1))
          by_cases hjl : j < m.length
          · have hc2 := (hbel2.cell (p := ⟨g2, j, none⟩) hg4).trans (HC2.out j hjl)
            have HH := hid (fun w => isCond_any (bs m[j]) w)
            rw [tx_bs] at HH
            have HY2 := hid (al_yes isCondR m j hjl)
            have HN2 := hid (al_no isCondR m j hjl)
            generalize isCondR m[j] = cnd at *
            generalize bs m[j] = q2 at *
            cases cnd
            · have HF : Hid (isRangeR (tx s) = false) := by unfold Hid; rw [hall.out, HN.out (by rw [hall2.out, HN2.out rfl])]
              go_wp2_with fail
              refine (HH.out _).mono ?_
              rintro e w3 ⟨rfl, hb3⟩
              have HB3 := hid (HBw.out.trans (hb3.mono (by omega)))
              clear hb3
              go_wp2
              go_ret
              exact ⟨ret_bool (by rw [HF.out]), HB3.out⟩
            · have HF : Hid (alt = (m.drop (j + 1)).all isCondR) := by unfold Hid; rw [hall2.out, HY2.out rfl]
              go_wp2_with fail
              refine (HH.out _).mono ?_
              rintro e w3 ⟨rfl, hb3⟩
              have HB3 := hid (hbel2.trans (hb3.mono hz2))
              clear hb3
              go_wp2
              go_roundw
              case rel => exact ⟨j + 1, by omega, by go_num, HB3.out, HF⟩
              case measure => simp [intOf]; omega
          · have HF : Hid (isRangeR (tx s) = (d.drop (k + 1)).all isAltR) := by unfold Hid; rw [hall.out, HY.out (by rw [hall2.out, al_end isCondR m j hjl])]
            clear hall
            go_wp2
            go_roundw
            case rel => exact ⟨k + 1, by omega, by go_num, HB.out, HF⟩
            case measure => simp [intOf]; omega
      · have HF : Hid (isRangeR (tx s) = true) := by unfold Hid; rw [hall.out, al_end isAltR d k hlt]
        have HB := hid (hb1.trans (hbel.mono hz1))
        go_wp2
        go_ret
        exact ⟨ret_bool (by rw [HF.out]), HB.out⟩
  · have HF := hid (isRangeR_long s h60)
    go_enter Try.func13, Try.ntmps13
    go_wp2
    go_ret
    exact ⟨ret_bool (by rw [HF.out]), Below.refl _ _⟩

end Hst
end Go.Proofs.Ytecocheolbkneaa
namespace Go.Proofs.Ytecocheolbkneaa
namespace Hst

/-! ### numbers -/
theorem partP_eq : ∀ l : Tx, partP l = if 0 ≤ partR l then some (partR l) else none
  | [] => by simp [partP, partR]
  | [a] => by
    by_cases h : dig a = true
    · have h' := h
      simp [dig] at h'
      have e : partR [a] = (a.toNat : Int) - 48 := by simp [partR, partGoR, h]
      have e2 : partP [a] = some ((a.toNat : Int) - 48) := by
        simp only [partP, partGo, h, if_true]
        rw [if_neg (by simp), if_neg (by simp), if_neg (by omega)]; simp
      rw [e, e2, if_pos (by omega)]
    · have h : dig a = false := by simpa using h
      have e : partR [a] = -1 := by simp [partR, partGoR, h]
      have e2 : partP [a] = none := by simp [partP, partGo, h]
      rw [e, e2]; rfl
  | [a, b] => by
    by_cases h0 : a = 48
    · simp [partP, partR, h0]
    · have hne : ¬ ((a.toNat : Int) = 48) := fun h => h0 (UInt8.toNat_inj.1 (by simp; omega))
      have e0 : partR [a, b] = partGoR 0 [a, b] := by simp [partR, h0]
      have e1 : partP [a, b] = partGo 0 [a, b] := by simp [partP, h0]
      by_cases ha : dig a = true
      · have ha' := ha
        simp [dig] at ha'
        by_cases hb : dig b = true
        · have hb' := hb
          simp [dig] at hb'
          have f0 : partR [a, b] = 10 * ((a.toNat : Int) - 48) + ((b.toNat : Int) - 48) := by rw [e0]; simp only [partGoR, if_pos ha, if_pos hb]; omega
          have f1 : partP [a, b] = some (10 * ((a.toNat : Int) - 48) + ((b.toNat : Int) - 48)) := by
            rw [e1]; simp only [partGo, if_pos ha, if_pos hb]
            rw [if_neg (by omega), if_neg (by omega)]
            congr 1; omega
          rw [f0, f1, if_pos (by omega)]
        · have f0 : partR [a, b] = -1 := by rw [e0]; simp only [partGoR, if_pos ha, if_neg hb]
          have f1 : partP [a, b] = none := by
            rw [e1]; simp only [partGo, if_pos ha, if_neg hb]
            rw [if_neg (by omega)]
          rw [f0, f1]; rfl
      · have f0 : partR [a, b] = -1 := by rw [e0]; simp only [partGoR, if_neg ha]
        have f1 : partP [a, b] = none := by rw [e1]; simp only [partGo, if_neg ha]
        rw [f0, f1]; rfl
  | a :: b :: c :: r => by
    have e0 : partR (a :: b :: c :: r) = -1 := by simp [partR]
    rw [e0]
    show partP (a :: b :: c :: r) = none
    by_cases h0 : a = 48
    · simp [partP, h0]
    · have hne : ¬ ((a.toNat : Int) = 48) := fun h => h0 (UInt8.toNat_inj.1 (by simp; omega))
      have e1 : partP (a :: b :: c :: r) = partGo 0 (a :: b :: c :: r) := by simp [partP, h0]
      rw [e1]
      simp only [partGo]
      by_cases ha : dig a = true
      · have ha' := ha
        simp [dig] at ha'
        rw [if_pos ha, if_neg (by omega)]
        by_cases hb : dig b = true
        · have hb' := hb
          simp [dig] at hb'
          rw [if_pos hb, if_neg (by omega)]
          by_cases hc : dig c = true
          · have hc' := hc
            simp [dig] at hc'
            rw [if_pos hc, if_pos (by omega)]
          · rw [if_neg hc]
        · rw [if_neg hb]
      · rw [if_neg ha]
theorem partR_hi (l : Tx) : partR l ≤ 99 := by
  unfold partR
  split
  · omega
  · rename_i h
    match l, h with
    | [], h => simp at h
    | [a], _ =>
      simp only [partGoR]
      split
      · rename_i hd; simp [dig] at hd; omega
      · omega
    | [a, b], _ =>
      simp only [partGoR]
      split
      · rename_i hd
        simp [dig] at hd
        split
        · rename_i hd'; simp [dig] at hd'; omega
        · omega
      · omega
    | _ :: _ :: _ :: _, h => simp at h

/-! ### versions -/
def place (v : V3) : Int := (v.a * 100 + v.b) * 100 + v.c
structure Valid (v : V3) : Prop where
  a0 : 0 ≤ v.a
  a1 : v.a ≤ 99
  b0 : 0 ≤ v.b
  b1 : v.b ≤ 99
  c0 : 0 ≤ v.c
  c1 : v.c ≤ 99
theorem place_bd {v : V3} (h : Valid v) : 0 ≤ place v ∧ place v ≤ 999999 := by
  obtain ⟨h1, h2, h3, h4, h5, h6⟩ := h
  unfold place; omega

theorem versionP_eq (l : Tx) : versionP l = if (versionR l).2 = true then some (place (versionR l).1) else none := by
  unfold versionP versionR
  by_cases h8 : 8 < l.length
  · rw [if_pos h8, if_pos h8]; rfl
  · rw [if_neg h8, if_neg h8]
    by_cases h3 : (splitL 46 l).length ≠ 3
    · rw [if_pos h3, if_pos h3]; rfl
    · rw [if_neg h3, if_neg h3]
      match hd : splitL 46 l, h3 with
      | [x, y, z], _ =>
        simp only [verGo, partP_eq, List.getD_cons_zero, List.getD_cons_succ]
        by_cases hx : 0 ≤ partR x
        · by_cases hy : 0 ≤ partR y
          · by_cases hz : 0 ≤ partR z
            · simp [hx, hy, hz, place]
            · simp [hx, hy, hz]
          · simp [hx, hy]
        · simp [hx]
      | [], h3 => simp at h3
      | [_], h3 => simp at h3
      | [_, _], h3 => simp at h3
      | _ :: _ :: _ :: _ :: _, h3 => simp at h3
theorem versionR_valid (l : Tx) (h : (versionR l).2 = true) : Valid (versionR l).1 := by
  unfold versionR at h ⊢
  split at h
  · simp at h
  · split at h
    · simp at h
    · rename_i h8 h3
      rw [if_neg h8, if_neg h3]
      simp at h
      exact ⟨h.1.1, partR_hi _, h.1.2, partR_hi _, h.2, partR_hi _⟩
theorem versionP_some {l : Tx} {n : Int} (h : versionP l = some n) : (versionR l).2 = true ∧ n = place (versionR l).1 := by
  rw [versionP_eq] at h
  split at h
  · rename_i h'; simp at h; exact ⟨h', h.symm⟩
  · simp at h
theorem versionP_of {l : Tx} (h : (versionR l).2 = true) : versionP l = some (place (versionR l).1) := by rw [versionP_eq, if_pos h]
theorem versionP_no {l : Tx} (h : (versionR l).2 = false) : versionP l = none := by rw [versionP_eq, h]; rfl

/-- A version begins with a digit. -/
theorem version_head {l : Tx} {n : Int} (h : versionP l = some n) : ∃ b r, l = b :: r ∧ dig b = true := by
  unfold versionP at h
  split at h
  · simp at h
  · split at h
    · simp at h
    · match l with
      | [] => simp [splitL, verGo, partP] at h
      | b :: r =>
        refine ⟨b, r, rfl, ?_⟩
        by_cases hb : (b.toNat : Int) = 46
        · simp [splitL, hb, verGo, partP] at h
        · simp only [splitL, if_neg hb] at h
          rcases hs : splitL 46 r with _ | ⟨q, qs⟩
          · exact absurd hs (splitL_ne 46 r)
          · rw [hs] at h
            simp only [verGo] at h
            rcases hp : partP (b :: q) with _ | m
            · rw [hp] at h; simp at h
            · by_cases hd : dig b = true
              · exact hd
              · exfalso
                simp only [partP, partGo, if_neg hd] at hp
                simp at hp

/-! ### conditions -/
def IsSign (sg : Tx) : Prop := sg = [61] ∨ sg = [62] ∨ sg = [62, 61] ∨ sg = [60] ∨ sg = [60, 61] ∨ sg = [94] ∨ sg = [126]
theorem spanOfP_no {sg : Tx} (h : ¬ IsSign sg) (v : Int) : spanOfP sg v = none := by
  simp only [IsSign, not_or] at h
  simp [spanOfP, h]
theorem dig_ne {b : UInt8} (h : dig b = true) : b ≠ 61 ∧ b ≠ 62 ∧ b ≠ 60 ∧ b ≠ 94 ∧ b ≠ 126 ∧ b ≠ 42 := by
  simp [dig] at h
  refine ⟨?_, ?_, ?_, ?_, ?_, ?_⟩ <;> (intro e; subst e; simp at h)
theorem sign_len {sg : Tx} (h : IsSign sg) (b : UInt8) (r : Tx) (hb : dig b = true) : signLen (sg ++ b :: r) = sg.length := by
  simp [dig] at hb
  rcases h with h | h | h | h | h | h | h <;> subst h <;> simp [signLen, hb, dig]
theorem signedR_of {sg : Tx} (h : IsSign sg) (b : UInt8) (r : Tx) (hb : dig b = true) : signedR (sg ++ b :: r) = (sg, b :: r) := by
  have hn := dig_ne hb
  rcases h with h | h | h | h | h | h | h <;> subst h <;> simp [signedR, hn]
theorem signedR_sign {l sg rest : Tx} (h : signedR l = (sg, rest)) (hne : sg ≠ []) : IsSign sg ∧ l = sg ++ rest := by
  unfold signedR at h
  split at h
  · rename_i h2
    simp at h
    obtain ⟨rfl, rfl⟩ := h
    refine ⟨?_, (List.take_append_drop 2 l).symm⟩
    rcases h2 with h2 | h2 <;> rw [h2] <;> simp [IsSign]
  · split at h
    · simp at h; exact absurd h.1.symm (by simpa using hne)
    · split at h
      · rename_i h3
        simp at h
        obtain ⟨rfl, rfl⟩ := h
        refine ⟨?_, by simp⟩
        rcases h3 with h3 | h3 | h3 | h3 | h3 <;> subst h3 <;> simp [IsSign]
      · simp at h; exact absurd h.1.symm (by simpa using hne)

/-- A condition with a sign. -/
structure CondIs (l sg rest : Tx) (n : Int) : Prop where
  cat : l = sg ++ rest
  sign : IsSign sg
  ver : versionP rest = some n
theorem CondIs.condP {l sg rest : Tx} {n : Int} (h : CondIs l sg rest n) : condP l = spanOfP sg n := by
  obtain ⟨b, r, rfl, hb⟩ := version_head h.ver
  have e := sign_len h.sign b r hb
  have hl := h.cat
  have h42 : l ≠ [42] := by
    rw [hl]
    have hn := dig_ne hb
    rcases h.sign with s | s | s | s | s | s | s <;> subst s <;> simp
  unfold Hst.condP
  rw [if_neg h42, hl, e, List.drop_left, List.take_left, h.ver]
theorem CondIs.signed {l sg rest : Tx} {n : Int} (h : CondIs l sg rest n) : signedR l = (sg, rest) := by
  obtain ⟨b, r, rfl, hb⟩ := version_head h.ver
  rw [h.cat, signedR_of h.sign b r hb]
theorem CondIs.isCond {l sg rest : Tx} {n : Int} (h : CondIs l sg rest n) : isCondR l = true := by
  unfold isCondR
  rw [h.signed]
  have hv := (versionP_some h.ver).1
  have : sg.isEmpty = false := by rcases h.sign with s | s | s | s | s | s | s <;> subst s <;> rfl
  simp [this, hv]
theorem condIs_of_cond {l : Tx} (h42 : l ≠ [42]) (h : isCondR l = true) : ∃ sg rest n, CondIs l sg rest n := by
  unfold isCondR at h
  simp [h42] at h
  obtain ⟨hs, hv⟩ := h
  rcases hd : signedR l with ⟨sg, rest⟩
  rw [hd] at hs hv
  simp at hs hv
  obtain ⟨h1, h2⟩ := signedR_sign hd hs
  exact ⟨sg, rest, _, h2, h1, versionP_of hv⟩
theorem condIs_of_span {l : Tx} {s : Int × Int} (h42 : l ≠ [42]) (h : condP l = some s) : ∃ sg rest n, CondIs l sg rest n := by
  unfold condP at h
  rw [if_neg h42] at h
  rcases hv : versionP (l.drop (signLen l)) with _ | n
  · rw [hv] at h; simp at h
  · rw [hv] at h
    simp only at h
    by_cases hs : IsSign (l.take (signLen l))
    · exact ⟨_, _, n, (List.take_append_drop _ l).symm, hs, hv⟩
    · rw [spanOfP_no hs] at h; simp at h

theorem below_place {v w : V3} (hv : Valid v) (hw : Valid w) : belowB v.a v.b v.c w.a w.b w.c = decide (place v < place w) := by
  obtain ⟨h1, h2, h3, h4, h5, h6⟩ := hv
  obtain ⟨k1, k2, k3, k4, k5, k6⟩ := hw
  unfold belowB place
  split
  · rw [Bool.eq_iff_iff]; simp; omega
  · split
    · rw [Bool.eq_iff_iff]; simp; omega
    · rw [Bool.eq_iff_iff]; simp; omega
theorem eq3_place {v w : V3} (hv : Valid v) (hw : Valid w) : eq3 v w = decide (place v = place w) := by
  obtain ⟨h1, h2, h3, h4, h5, h6⟩ := hv
  obtain ⟨k1, k2, k3, k4, k5, k6⟩ := hw
  unfold eq3 place
  rw [Bool.eq_iff_iff]; simp; omega
/-- A span holds a version. -/
def inSpan (s : Int × Int) (p : Int) : Bool := decide (s.1 ≤ p) && decide (p ≤ s.2)

theorem place_parts {w : V3} (hw : Valid w) : place w / 10000 = w.a ∧ place w / 100 % 100 = w.b ∧ place w % 100 = w.c ∧ place w % 10000 = w.b * 100 + w.c := by
  obtain ⟨k1, k2, k3, k4, k5, k6⟩ := hw
  unfold place
  omega

theorem span_holds {sg : Tx} (h : IsSign sg) {v w : V3} (hv : Valid v) (hw : Valid w) : ∃ s, spanOfP sg (place w) = some s ∧ holdsS sg w v = inSpan s (place v) := by
  have bv := place_bd hv
  have bw := place_bd hw
  have hb := below_place hv hw
  have he := eq3_place hv hw
  have hp := place_parts hw
  have hq := place_parts hv
  rcases h with h | h | h | h | h | h | h <;> subst h
  · refine ⟨(place w, place w), by simp [spanOfP], ?_⟩
    simp only [holdsS, he, inSpan]
    rw [Bool.eq_iff_iff]; simp; omega
  · refine ⟨(place w + 1, 999999), by simp [spanOfP], ?_⟩
    simp only [holdsS, hb, he, inSpan]
    rw [Bool.eq_iff_iff]; simp; omega
  · refine ⟨(place w, 999999), by simp [spanOfP], ?_⟩
    simp only [holdsS, hb, inSpan]
    rw [Bool.eq_iff_iff]; simp; omega
  · refine ⟨(0, place w - 1), by simp [spanOfP], ?_⟩
    simp only [holdsS, hb, inSpan]
    rw [Bool.eq_iff_iff]; simp; omega
  · refine ⟨(0, place w), by simp [spanOfP], ?_⟩
    simp only [holdsS, hb, he, inSpan]
    rw [Bool.eq_iff_iff]; simp; omega
  · refine ⟨(place w, caretHi (place w)), by simp [spanOfP], ?_⟩
    simp only [holdsS, hb, he, inSpan, caretHi, hp]
    obtain ⟨h1, h2, h3, h4, h5, h6⟩ := hv
    obtain ⟨k1, k2, k3, k4, k5, k6⟩ := hw
    by_cases c1 : w.a = 0
    · by_cases c2 : w.b = 0
      · rw [Bool.eq_iff_iff]; simp [c1, c2]; omega
      · rw [Bool.eq_iff_iff]; simp [c1, c2]; unfold place at *; omega
    · rw [Bool.eq_iff_iff]; simp [c1]; unfold place at *; omega
  · refine ⟨(place w, place w - place w % 100 + 100 - 1), by simp [spanOfP], ?_⟩
    simp only [holdsS, hb, inSpan, hp]
    obtain ⟨h1, h2, h3, h4, h5, h6⟩ := hv
    obtain ⟨k1, k2, k3, k4, k5, k6⟩ := hw
    rw [Bool.eq_iff_iff]; simp; unfold place at *; omega

/-- The law of one condition. -/
theorem cond_law (l : Tx) : (condP l = none ∧ isCondR l = false) ∨ (∃ s, condP l = some s ∧ isCondR l = true ∧ ∀ v, Valid v → holdsR l v = inSpan s (place v)) := by
  by_cases h42 : l = [42]
  · refine .inr ⟨(0, 999999), by simp [condP, h42], by simp [isCondR, h42], fun v hv => ?_⟩
    have := place_bd hv
    subst h42
    simp [holdsR, signedR, holdsS, inSpan]; omega
  · by_cases hc : isCondR l = true
    · obtain ⟨sg, rest, n, h⟩ := condIs_of_cond h42 hc
      obtain ⟨hv, rfl⟩ := versionP_some h.ver
      have hw := versionR_valid rest hv
      obtain ⟨s, h1, _⟩ := span_holds h.sign hw hw
      refine .inr ⟨s, by rw [h.condP, h1], hc, fun v hv => ?_⟩
      obtain ⟨s', h1', h2'⟩ := span_holds h.sign hv hw
      rw [h1] at h1'
      simp at h1'
      subst h1'
      unfold holdsR
      rw [h.signed]
      exact h2'
    · refine .inl ⟨?_, by simpa using hc⟩
      rcases hp : condP l with _ | s
      · rfl
      · obtain ⟨sg, rest, n, h⟩ := condIs_of_span h42 hp
        exact absurd h.isCond hc

/-! ### alternatives -/
theorem mx_le (a b p : Int) : mx a b ≤ p ↔ a ≤ p ∧ b ≤ p := by unfold mx; split <;> omega
theorem le_mn (a b p : Int) : p ≤ mn a b ↔ p ≤ a ∧ p ≤ b := by unfold mn; split <;> omega
theorem alt_law : ∀ (d : List Tx) (lo hi : Int), (altGo lo hi d = none ∧ d.all isCondR = false) ∨ (∃ s, altGo lo hi d = some s ∧ d.all isCondR = true ∧ ∀ v, Valid v → (inSpan (lo, hi) (place v) && d.all (fun c => holdsR c v)) = inSpan s (place v))
  | [], lo, hi => .inr ⟨(lo, hi), rfl, rfl, fun v _ => by simp⟩
  | c :: r, lo, hi => by
    rcases cond_law c with ⟨h1, h2⟩ | ⟨s, h1, h2, h3⟩
    · exact .inl ⟨by simp [altGo, h1], by simp [h2]⟩
    · rcases alt_law r (mx lo s.1) (mn hi s.2) with ⟨k1, k2⟩ | ⟨s', k1, k2, k3⟩
      · exact .inl ⟨by simp only [altGo, h1]; exact k1, by simp only [List.all_cons, k2, Bool.and_false]⟩
      · refine .inr ⟨s', by simp only [altGo, h1]; exact k1, by simp only [List.all_cons, k2, h2, Bool.and_self], fun v hv => ?_⟩
        rw [← k3 v hv, List.all_cons, h3 v hv]
        have e : inSpan (mx lo s.1, mn hi s.2) (place v) = (inSpan (lo, hi) (place v) && inSpan s (place v)) := by
          unfold inSpan
          rw [Bool.eq_iff_iff]
          simp [mx_le, le_mn]
          omega
        rw [e, Bool.and_assoc]
theorem altP_law (l : Tx) : (altP l = none ∧ isAltR l = false) ∨ (∃ s, altP l = some s ∧ isAltR l = true ∧ ∀ v, Valid v → altFitR l v = inSpan s (place v)) := by
  rcases alt_law (splitL 38 l) 0 999999 with h | ⟨s, h1, h2, h3⟩
  · exact .inl h
  · refine .inr ⟨s, h1, h2, fun v hv => ?_⟩
    rw [← h3 v hv]
    have := place_bd hv
    have e : inSpan (0, 999999) (place v) = true := by simp [inSpan]; omega
    rw [e, Bool.true_and]; rfl

/-! ### ranges -/
theorem range_law : ∀ (d : List Tx) (acc : List (Int × Int)), (rangeGo acc d = none ∧ d.all isAltR = false) ∨ (∃ sp, rangeGo acc d = some sp ∧ d.all isAltR = true ∧ ∀ v, Valid v → (fitsP acc (place v) || d.any (fun a => altFitR a v)) = fitsP sp (place v))
  | [], acc => .inr ⟨acc, rfl, rfl, fun v _ => by simp⟩
  | a :: r, acc => by
    rcases altP_law a with ⟨h1, h2⟩ | ⟨s, h1, h2, h3⟩
    · exact .inl ⟨by simp [rangeGo, h1], by simp [h2]⟩
    · rcases range_law r (acc ++ [s]) with ⟨k1, k2⟩ | ⟨sp, k1, k2, k3⟩
      · exact .inl ⟨by simp only [rangeGo, h1]; exact k1, by simp only [List.all_cons, k2, Bool.and_false]⟩
      · refine .inr ⟨sp, by simp only [rangeGo, h1]; exact k1, by simp only [List.all_cons, k2, h2, Bool.and_self], fun v hv => ?_⟩
        rw [← k3 v hv, List.any_cons, h3 v hv]
        have e : fitsP (acc ++ [s]) (place v) = (fitsP acc (place v) || inSpan s (place v)) := by
          unfold fitsP inSpan
          rw [List.any_append]
          simp only [List.any_cons, List.any_nil, Bool.or_false]
        rw [e, Bool.or_assoc]
theorem rangeP_law (l : Tx) : (rangeP l = none ∧ isRangeR l = false) ∨ (∃ sp, rangeP l = some sp ∧ isRangeR l = true ∧ ∀ v, Valid v → fitR l v = fitsP sp (place v)) := by
  unfold rangeP isRangeR
  by_cases h60 : 60 < l.length
  · exact .inl ⟨by rw [if_pos h60], by simp; omega⟩
  · rw [if_neg h60]
    have e : decide (l.length ≤ 60) = true := by simp; omega
    rw [e, Bool.true_and]
    rcases range_law (splitL 124 l) [] with h | ⟨sp, h1, h2, h3⟩
    · exact .inl h
    · refine .inr ⟨sp, h1, h2, fun v hv => ?_⟩
      rw [← h3 v hv]
      rfl

end Hst
end Go.Proofs.Ytecocheolbkneaa
