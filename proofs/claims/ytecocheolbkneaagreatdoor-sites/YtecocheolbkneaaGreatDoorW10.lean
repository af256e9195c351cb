/- Holds, Rrange, Name, Pname -/
import Derived.Test.YtecocheolbkneaaGreatDoorW09
import Derived.Deep.RegionHeld3
import Derived.Deep.QuietTactic
import Derived.Test.YtecocheolbkneaaGreatDoorW01
import Derived.Deep.DrawnRows
import Derived.Test.YtecocheolbkneaaGreatDoorW04
namespace Go.Proofs.YtecocheolbkneaaGreatDoor
open Go.RowKit
namespace Hst
set_option maxRecDepth 100000

theorem bse (l m : Tx) (h : l = m) : ((bs l).toList == m) = true := by rw [tx_toList, tx_bs, h]; simp
theorem bsn (l m : Tx) (h : l ≠ m) : ((bs l).toList == m) = false := by rw [tx_toList, tx_bs]; simp [h]

theorem eq3_t {a b c x y z : Int} (h1 : a = x) (h2 : b = y) (h3 : c = z) : eq3 ⟨a, b, c⟩ ⟨x, y, z⟩ = true := by simp [eq3, h1, h2, h3]
theorem eq3_f1 {a b c x y z : Int} (h1 : ¬ a = x) : eq3 ⟨a, b, c⟩ ⟨x, y, z⟩ = false := by simp [eq3, h1]
theorem eq3_f2 {a b c x y z : Int} (h1 : ¬ b = y) : eq3 ⟨a, b, c⟩ ⟨x, y, z⟩ = false := by simp [eq3, h1]
theorem eq3_f3 {a b c x y z : Int} (h1 : ¬ c = z) : eq3 ⟨a, b, c⟩ ⟨x, y, z⟩ = false := by simp [eq3, h1]
theorem hs_eq {a b c x y z : Int} : holdsS [61] ⟨x, y, z⟩ ⟨a, b, c⟩ = eq3 ⟨a, b, c⟩ ⟨x, y, z⟩ := by simp [holdsS]
theorem hs_gt {a b c x y z : Int} : holdsS [62] ⟨x, y, z⟩ ⟨a, b, c⟩ = (!belowB a b c x y z && !eq3 ⟨a, b, c⟩ ⟨x, y, z⟩) := by simp [holdsS]
theorem hs_ge {a b c x y z : Int} : holdsS [62, 61] ⟨x, y, z⟩ ⟨a, b, c⟩ = !belowB a b c x y z := by simp [holdsS]
theorem hs_lt {a b c x y z : Int} : holdsS [60] ⟨x, y, z⟩ ⟨a, b, c⟩ = belowB a b c x y z := by simp [holdsS]
theorem hs_le {a b c x y z : Int} : holdsS [60, 61] ⟨x, y, z⟩ ⟨a, b, c⟩ = (belowB a b c x y z || eq3 ⟨a, b, c⟩ ⟨x, y, z⟩) := by simp [holdsS]
theorem hs_ti {a b c x y z : Int} : holdsS [126] ⟨x, y, z⟩ ⟨a, b, c⟩ = (!belowB a b c x y z && decide (a = x) && decide (b = y)) := by simp [holdsS]
theorem hs_c1 {a b c x y z : Int} (h : ¬ x = 0) : holdsS [94] ⟨x, y, z⟩ ⟨a, b, c⟩ = (!belowB a b c x y z && decide (a = x)) := by simp [holdsS, h]
theorem hs_c2 {a b c x y z : Int} (h : x = 0) (h' : ¬ y = 0) : holdsS [94] ⟨x, y, z⟩ ⟨a, b, c⟩ = (!belowB a b c x y z && decide (a = 0) && decide (b = y)) := by simp [holdsS, h, h']
theorem hs_c3 {a b c x y z : Int} (h : x = 0) (h' : y = 0) : holdsS [94] ⟨x, y, z⟩ ⟨a, b, c⟩ = eq3 ⟨a, b, c⟩ ⟨x, y, z⟩ := by simp [holdsS, h, h']
theorem hs_no {sg : Tx} (k1 : ¬ sg = [61]) (k2 : ¬ sg = [62]) (k3 : ¬ sg = [62, 61]) (k4 : ¬ sg = [60]) (k5 : ¬ sg = [60, 61]) (k6 : ¬ sg = [126]) (k7 : ¬ sg = [94]) (w v : V3) : holdsS sg w v = true := by simp [holdsS, k1, k2, k3, k4, k5, k6, k7]

set_option maxHeartbeats 8000000 in
theorem holds_any (s : ByteArray) (a b c : Int) (w : World) :
    Calls Tryz.prog 155 #[.string s, verV a b c] w fun e w' => e = .returned (.bool (holdsR (tx s) ⟨a, b, c⟩)) ∧ Below w.heap.size w w' := by
  have HS := hid (fun w => signed_any s w)
  have HV := hid (fun w => version_any (bs (signedR (tx s)).2) w)
  rw [tx_bs] at HV
  have HF : Hid (holdsR (tx s) ⟨a, b, c⟩ = holdsS (signedR (tx s)).1 (versionR (signedR (tx s)).2).1 ⟨a, b, c⟩) := rfl
  generalize hsg : (signedR (tx s)).1 = sg at *
  generalize hrs : (signedR (tx s)).2 = rs at *
  clear hsg hrs
  generalize hvr : versionR rs = vr at *
  clear hvr
  obtain ⟨⟨x, y, z⟩, ok⟩ := vr
  go_enter Tryz.func155, Tryz.ntmps155
  go_wp2_with fail
  refine (HS.out _).mono ?_
  rintro e w1 ⟨rfl, hb1⟩
  go_wp2_with fail
  refine (HV.out _).mono ?_
  rintro e w2 ⟨rfl, hb2⟩
  have hb12 := hb1.trans (hb2.mono hb1.size)
  obtain ⟨hcc, hff⟩ := bcell hb12
  have hz := hb12.size
  simp at hcc hz
  have c0 := hcc w.heap.size 0 (by omega)
  have c1 := hcc w.heap.size 1 (by omega)
  have c2 := hcc w.heap.size 2 (by omega)
  simp at c0 c1 c2
  have hwz : w.heap.size < w2.heap.size := by omega
  have HB := hid (((Below.refl _ _).alloc (Nat.le_refl _) _).trans (hb12.mono (by simp)) : Below w.heap.size w w2)
  clear hb1 hb2 hcc hff hb12
  go_wp2_with fail
  refine (below_any _ _ _ _ _ _ _).mono ?_
  rintro e w3 ⟨rfl, hb3⟩
  obtain ⟨hcc, hff⟩ := bcell hb3
  have hz3 := hb3.size
  simp at hcc hz3
  have d0 := (hcc w.heap.size 0 (by omega)).trans ((World.cell?_alloc_past _ _ _ hwz).trans c0)
  have d1 := (hcc w.heap.size 1 (by omega)).trans ((World.cell?_alloc_past _ _ _ hwz).trans c1)
  have d2 := (hcc w.heap.size 2 (by omega)).trans ((World.cell?_alloc_past _ _ _ hwz).trans c2)
  have e0 := hcc w2.heap.size 0 (by omega)
  have e1 := hcc w2.heap.size 1 (by omega)
  have e2 := hcc w2.heap.size 2 (by omega)
  simp at e0 e1 e2
  have HB3 := hid ((HB.out.alloc (by omega) _).trans (hb3.mono (by simp; omega)) : Below w.heap.size w w3)
  generalize hlow : belowB a b c x y z = low at *
  have HLOW := hid hlow
  clear hb3 hcc hff c0 c1 c2 hlow
  by_cases k1 : sg = [61]
  · have q1 := bse sg _ k1
    have K := hid k1
    clear k1
    generalize bs sg = q at *
    by_cases pa : a = x
    · have bpa : (a == x) = true := by simp [pa]
      have Ppa := hid pa
      clear pa
      by_cases pb : b = y
      · have bpb : (b == y) = true := by simp [pb]
        have Ppb := hid pb
        clear pb
        by_cases pc : c = z
        · have bpc : (c == z) = true := by simp [pc]
          have Ppc := hid pc
          clear pc
          go_wp2
          go_ret
          exact ⟨ret_bool (by rw [HF.out, K.out, hs_eq, eq3_t Ppa.out Ppb.out Ppc.out] <;> rfl), HB3.out⟩
        · have bpc : (c == z) = false := by simp [pc]
          have Ppc := hid pc
          clear pc
          go_wp2
          go_ret
          exact ⟨ret_bool (by rw [HF.out, K.out, hs_eq, eq3_f3 Ppc.out] <;> rfl), HB3.out⟩
      · have bpb : (b == y) = false := by simp [pb]
        have Ppb := hid pb
        clear pb
        go_wp2
        go_ret
        exact ⟨ret_bool (by rw [HF.out, K.out, hs_eq, eq3_f2 Ppb.out] <;> rfl), HB3.out⟩
    · have bpa : (a == x) = false := by simp [pa]
      have Ppa := hid pa
      clear pa
      go_wp2
      go_ret
      exact ⟨ret_bool (by rw [HF.out, K.out, hs_eq, eq3_f1 Ppa.out] <;> rfl), HB3.out⟩
  have q1 := bsn sg _ k1
  by_cases k2 : sg = [62]
  · have q2 := bse sg _ k2
    have K := hid k2
    clear k1 k2
    generalize bs sg = q at *
    cases low
    · skip
      by_cases pa : a = x
      · have bpa : (a == x) = true := by simp [pa]
        have Ppa := hid pa
        clear pa
        by_cases pb : b = y
        · have bpb : (b == y) = true := by simp [pb]
          have Ppb := hid pb
          clear pb
          by_cases pc : c = z
          · have bpc : (c == z) = true := by simp [pc]
            have Ppc := hid pc
            clear pc
            go_wp2
            go_ret
            exact ⟨ret_bool (by rw [HF.out, K.out, hs_gt, HLOW.out, eq3_t Ppa.out Ppb.out Ppc.out] <;> rfl), HB3.out⟩
          · have bpc : (c == z) = false := by simp [pc]
            have Ppc := hid pc
            clear pc
            go_wp2
            go_ret
            exact ⟨ret_bool (by rw [HF.out, K.out, hs_gt, HLOW.out, eq3_f3 Ppc.out] <;> rfl), HB3.out⟩
        · have bpb : (b == y) = false := by simp [pb]
          have Ppb := hid pb
          clear pb
          go_wp2
          go_ret
          exact ⟨ret_bool (by rw [HF.out, K.out, hs_gt, HLOW.out, eq3_f2 Ppb.out] <;> rfl), HB3.out⟩
      · have bpa : (a == x) = false := by simp [pa]
        have Ppa := hid pa
        clear pa
        go_wp2
        go_ret
        exact ⟨ret_bool (by rw [HF.out, K.out, hs_gt, HLOW.out, eq3_f1 Ppa.out] <;> rfl), HB3.out⟩
    · skip
      go_wp2
      go_ret
      exact ⟨ret_bool (by rw [HF.out, K.out, hs_gt, HLOW.out] <;> rfl), HB3.out⟩
  have q2 := bsn sg _ k2
  by_cases k3 : sg = [62, 61]
  · have q3 := bse sg _ k3
    have K := hid k3
    clear k1 k2 k3
    generalize bs sg = q at *
    go_wp2
    go_ret
    exact ⟨ret_bool (by rw [HF.out, K.out, hs_ge, HLOW.out] <;> rfl), HB3.out⟩
  have q3 := bsn sg _ k3
  by_cases k4 : sg = [60]
  · have q4 := bse sg _ k4
    have K := hid k4
    clear k1 k2 k3 k4
    generalize bs sg = q at *
    go_wp2
    go_ret
    exact ⟨ret_bool (by rw [HF.out, K.out, hs_lt, HLOW.out] <;> rfl), HB3.out⟩
  have q4 := bsn sg _ k4
  by_cases k5 : sg = [60, 61]
  · have q5 := bse sg _ k5
    have K := hid k5
    clear k1 k2 k3 k4 k5
    generalize bs sg = q at *
    cases low
    · skip
      by_cases pa : a = x
      · have bpa : (a == x) = true := by simp [pa]
        have Ppa := hid pa
        clear pa
        by_cases pb : b = y
        · have bpb : (b == y) = true := by simp [pb]
          have Ppb := hid pb
          clear pb
          by_cases pc : c = z
          · have bpc : (c == z) = true := by simp [pc]
            have Ppc := hid pc
            clear pc
            go_wp2
            go_ret
            exact ⟨ret_bool (by rw [HF.out, K.out, hs_le, HLOW.out, eq3_t Ppa.out Ppb.out Ppc.out] <;> rfl), HB3.out⟩
          · have bpc : (c == z) = false := by simp [pc]
            have Ppc := hid pc
            clear pc
            go_wp2
            go_ret
            exact ⟨ret_bool (by rw [HF.out, K.out, hs_le, HLOW.out, eq3_f3 Ppc.out] <;> rfl), HB3.out⟩
        · have bpb : (b == y) = false := by simp [pb]
          have Ppb := hid pb
          clear pb
          go_wp2
          go_ret
          exact ⟨ret_bool (by rw [HF.out, K.out, hs_le, HLOW.out, eq3_f2 Ppb.out] <;> rfl), HB3.out⟩
      · have bpa : (a == x) = false := by simp [pa]
        have Ppa := hid pa
        clear pa
        go_wp2
        go_ret
        exact ⟨ret_bool (by rw [HF.out, K.out, hs_le, HLOW.out, eq3_f1 Ppa.out] <;> rfl), HB3.out⟩
    · skip
      go_wp2
      go_ret
      exact ⟨ret_bool (by rw [HF.out, K.out, hs_le, HLOW.out] <;> rfl), HB3.out⟩
  have q5 := bsn sg _ k5
  by_cases k6 : sg = [126]
  · have q6 := bse sg _ k6
    have K := hid k6
    clear k1 k2 k3 k4 k5 k6
    generalize bs sg = q at *
    cases low
    · skip
      by_cases pa : a = x
      · have bpa : (a == x) = true := by simp [pa]
        have Ppa := hid pa
        clear pa
        by_cases pb : b = y
        · have bpb : (b == y) = true := by simp [pb]
          have Ppb := hid pb
          clear pb
          go_wp2
          go_ret
          exact ⟨ret_bool (by rw [HF.out, K.out, hs_ti, HLOW.out, decide_eq_true Ppa.out, decide_eq_true Ppb.out] <;> rfl), HB3.out⟩
        · have bpb : (b == y) = false := by simp [pb]
          have Ppb := hid pb
          clear pb
          go_wp2
          go_ret
          exact ⟨ret_bool (by rw [HF.out, K.out, hs_ti, HLOW.out, decide_eq_true Ppa.out, decide_eq_false Ppb.out] <;> rfl), HB3.out⟩
      · have bpa : (a == x) = false := by simp [pa]
        have Ppa := hid pa
        clear pa
        go_wp2
        go_ret
        exact ⟨ret_bool (by rw [HF.out, K.out, hs_ti, HLOW.out, decide_eq_false Ppa.out] <;> rfl), HB3.out⟩
    · skip
      go_wp2
      go_ret
      exact ⟨ret_bool (by rw [HF.out, K.out, hs_ti, HLOW.out] <;> rfl), HB3.out⟩
  have q6 := bsn sg _ k6
  by_cases k7 : sg = [94]
  · have q7 := bse sg _ k7
    have K := hid k7
    clear k1 k2 k3 k4 k5 k6 k7
    generalize bs sg = q at *
    by_cases px : x = 0
    · have bpx : (x != 0) = false := by simp [px]
      have Ppx := hid px
      clear px
      by_cases py : y = 0
      · have bpy : (y != 0) = false := by simp [py]
        have Ppy := hid py
        clear py
        by_cases pa : a = x
        · have bpa : (a == x) = true := by simp [pa]
          have Ppa := hid pa
          clear pa
          by_cases pb : b = y
          · have bpb : (b == y) = true := by simp [pb]
            have Ppb := hid pb
            clear pb
            by_cases pc : c = z
            · have bpc : (c == z) = true := by simp [pc]
              have Ppc := hid pc
              clear pc
              go_wp2
              go_ret
              exact ⟨ret_bool (by rw [HF.out, K.out, hs_c3 Ppx.out Ppy.out, eq3_t Ppa.out Ppb.out Ppc.out] <;> rfl), HB3.out⟩
            · have bpc : (c == z) = false := by simp [pc]
              have Ppc := hid pc
              clear pc
              go_wp2
              go_ret
              exact ⟨ret_bool (by rw [HF.out, K.out, hs_c3 Ppx.out Ppy.out, eq3_f3 Ppc.out] <;> rfl), HB3.out⟩
          · have bpb : (b == y) = false := by simp [pb]
            have Ppb := hid pb
            clear pb
            go_wp2
            go_ret
            exact ⟨ret_bool (by rw [HF.out, K.out, hs_c3 Ppx.out Ppy.out, eq3_f2 Ppb.out] <;> rfl), HB3.out⟩
        · have bpa : (a == x) = false := by simp [pa]
          have Ppa := hid pa
          clear pa
          go_wp2
          go_ret
          exact ⟨ret_bool (by rw [HF.out, K.out, hs_c3 Ppx.out Ppy.out, eq3_f1 Ppa.out] <;> rfl), HB3.out⟩
      · have bpy : (y != 0) = true := by simp [py]
        have Ppy := hid py
        clear py
        cases low
        · skip
          by_cases pa : a = 0
          · have bpa : (a == 0) = true := by simp [pa]
            have Ppa := hid pa
            clear pa
            by_cases pb : b = y
            · have bpb : (b == y) = true := by simp [pb]
              have Ppb := hid pb
              clear pb
              go_wp2
              go_ret
              exact ⟨ret_bool (by rw [HF.out, K.out, hs_c2 Ppx.out Ppy.out, HLOW.out, decide_eq_true Ppa.out, decide_eq_true Ppb.out] <;> rfl), HB3.out⟩
            · have bpb : (b == y) = false := by simp [pb]
              have Ppb := hid pb
              clear pb
              go_wp2
              go_ret
              exact ⟨ret_bool (by rw [HF.out, K.out, hs_c2 Ppx.out Ppy.out, HLOW.out, decide_eq_true Ppa.out, decide_eq_false Ppb.out] <;> rfl), HB3.out⟩
          · have bpa : (a == 0) = false := by simp [pa]
            have Ppa := hid pa
            clear pa
            go_wp2
            go_ret
            exact ⟨ret_bool (by rw [HF.out, K.out, hs_c2 Ppx.out Ppy.out, HLOW.out, decide_eq_false Ppa.out] <;> rfl), HB3.out⟩
        · skip
          go_wp2
          go_ret
          exact ⟨ret_bool (by rw [HF.out, K.out, hs_c2 Ppx.out Ppy.out, HLOW.out] <;> rfl), HB3.out⟩
    · have bpx : (x != 0) = true := by simp [px]
      have Ppx := hid px
      clear px
      cases low
      · skip
        by_cases pa : a = x
        · have bpa : (a == x) = true := by simp [pa]
          have Ppa := hid pa
          clear pa
          go_wp2
          go_ret
          exact ⟨ret_bool (by rw [HF.out, K.out, hs_c1 Ppx.out, HLOW.out, decide_eq_true Ppa.out] <;> rfl), HB3.out⟩
        · have bpa : (a == x) = false := by simp [pa]
          have Ppa := hid pa
          clear pa
          go_wp2
          go_ret
          exact ⟨ret_bool (by rw [HF.out, K.out, hs_c1 Ppx.out, HLOW.out, decide_eq_false Ppa.out] <;> rfl), HB3.out⟩
      · skip
        go_wp2
        go_ret
        exact ⟨ret_bool (by rw [HF.out, K.out, hs_c1 Ppx.out, HLOW.out] <;> rfl), HB3.out⟩
  have q7 := bsn sg _ k7
  have K := hid (hs_no k1 k2 k3 k4 k5 k6 k7 ⟨x, y, z⟩ ⟨a, b, c⟩)
  clear k1 k2 k3 k4 k5 k6 k7
  generalize bs sg = q at *
  go_wp2
  go_ret
  exact ⟨ret_bool (by rw [HF.out, K.out]), HB3.out⟩

end Hst
end Go.Proofs.YtecocheolbkneaaGreatDoor
namespace Go.Proofs.YtecocheolbkneaaGreatDoor
open Go.RowKit
namespace Hst
set_option maxRecDepth 100000

theorem al_yes (f : Tx → Bool) (d : List Tx) (k : Nat) (hk : k < d.length) (h : f d[k] = true) : (d.drop k).all f = (d.drop (k + 1)).all f := by
  rw [List.drop_eq_getElem_cons hk, List.all_cons, h, Bool.true_and]
theorem al_no (f : Tx → Bool) (d : List Tx) (k : Nat) (hk : k < d.length) (h : f d[k] = false) : (d.drop k).all f = false := by
  rw [List.drop_eq_getElem_cons hk, List.all_cons, h, Bool.false_and]
theorem al_end (f : Tx → Bool) (d : List Tx) (k : Nat) (hk : ¬ k < d.length) : (d.drop k).all f = true := by
  rw [List.drop_of_length_le (by omega)]; rfl
theorem piece_mem {n : Int} {s : ByteArray} {b : Nat} (hs : s.size ≤ b) : ∀ (j : Nat) (hj : j < (splitL n (tx s)).length), (bs (splitL n (tx s))[j]).size ≤ b := fun j hj => by
  have := piece_size n s j hj; omega

theorem isRangeR_long (s : ByteArray) (h : ¬ s.size ≤ 60) : isRangeR (tx s) = false := by
  unfold isRangeR; rw [tx_length]; simp; intro h'; omega
theorem isRangeR_short (s : ByteArray) (h : s.size ≤ 60) : isRangeR (tx s) = (splitL 124 (tx s)).all isAltR := by
  unfold isRangeR; rw [tx_length]; simp [h]

set_option maxHeartbeats 2000000 in
theorem isRange_any (s : ByteArray) (w : World) :
    Calls Tryz.prog 121 #[.string s] w fun e w' => e = .returned (.bool (isRangeR (tx s))) ∧ Below w.heap.size w w' := by
  by_cases h60 : s.size ≤ 60
  · have HP := hid (isRangeR_short s h60)
    go_enter Tryz.func121, Tryz.ntmps121
    go_wp2_with fail
    refine (rsplit_any s 124 _ (by omega)).mono ?_
    rintro e w1 ⟨v, rfl, hrow, hb1⟩
    obtain ⟨g, cap, rfl, hg1, hg2, hcell⟩ := hrow.form (splitL_ne _ _)
    have HS := hid (piece_mem (n := 124) h60)
    have hlen := splitL_len 124 (tx s)
    rw [tx_length] at hlen
    generalize splitL 124 (tx s) = d at *
    have HC := hid hcell
    clear hcell hrow
    go_wp2
    go_loopw [4] (fun i wr => ∃ (k : Nat), k ≤ d.length ∧ i = .int .i64 k ∧ Below w1.heap.size w1 wr ∧ Hid (isRangeR (tx s) = (d.drop k).all isAltR)) (fun i _ => d.length - (intOf i).toNat)
    case atStart => exact ⟨0, by omega, rfl, Below.refl _ _, by unfold Hid; rw [HP.out]; rfl⟩
    case round =>
      obtain ⟨k, hk, rfl, hbel, hall⟩ := hrel
      clear HP
      have hz := hbel.size
      have hz1 := hb1.size
      by_cases hlt : k < d.length
      · have hc := (hbel.cell (p := ⟨g, k, none⟩) hg2).trans (HC.out k hlt)
        have hps := HS.out k hlt
        have HA : Hid (isAltR d[k] = (splitL 38 (tx (bs d[k]))).all isCondR) := by unfold Hid; rw [tx_bs]; rfl
        have HY := hid (al_yes isAltR d k hlt)
        have HN := hid (al_no isAltR d k hlt)
        generalize isAltR d[k] = alt at *
        generalize bs d[k] = q at *
        go_wp2_with fail
        refine (rsplit_any q 38 _ (by omega)).mono ?_
        rintro e w2 ⟨v, rfl, hrow, hb2⟩
        obtain ⟨g2, cap2, rfl, hg3, hg4, hcell2⟩ := hrow.form (splitL_ne _ _)
        have HS2 := hid (piece_mem (n := 38) hps)
        have hlen2 := splitL_len 38 (tx q)
        rw [tx_length] at hlen2
        generalize splitL 38 (tx q) = m at *
        have HC2 := hid hcell2
        clear hcell2 hrow hc
        go_wp2
        go_loopw [6] (fun i wq => ∃ (j : Nat), j ≤ m.length ∧ i = .int .i64 j ∧ Below w2.heap.size w2 wq ∧ Hid (alt = (m.drop j).all isCondR)) (fun i _ => m.length - (intOf i).toNat)
        case atStart => exact ⟨0, by omega, rfl, Below.refl _ _, by unfold Hid; rw [HA.out]; rfl⟩
        case round =>
          obtain ⟨j, hj, rfl, hbel2, hall2⟩ := hrel
          clear HA
          have hz2 := hbel2.size
          have hz3 := hb2.size
          have HB := hid ((hbel.trans (hb2.mono hz)).trans (hbel2.mono (by omega)))
          have HBw := hid (hb1.trans (HB.out.mono hz1))
          by_cases hjl : j < m.length
          · have hc2 := (hbel2.cell (p := ⟨g2, j, none⟩) hg4).trans (HC2.out j hjl)
            have HH := hid (fun w => isCond_any (bs m[j]) w)
            rw [tx_bs] at HH
            have HY2 := hid (al_yes isCondR m j hjl)
            have HN2 := hid (al_no isCondR m j hjl)
            generalize isCondR m[j] = cnd at *
            generalize bs m[j] = q2 at *
            cases cnd
            · have HF : Hid (isRangeR (tx s) = false) := by unfold Hid; rw [hall.out, HN.out (by rw [hall2.out, HN2.out rfl])]
              go_wp2_with fail
              refine (HH.out _).mono ?_
              rintro e w3 ⟨rfl, hb3⟩
              have HB3 := hid (HBw.out.trans (hb3.mono (by omega)))
              clear hb3
              go_wp2
              go_ret
              exact ⟨ret_bool (by rw [HF.out]), HB3.out⟩
            · have HF : Hid (alt = (m.drop (j + 1)).all isCondR) := by unfold Hid; rw [hall2.out, HY2.out rfl]
              go_wp2_with fail
              refine (HH.out _).mono ?_
              rintro e w3 ⟨rfl, hb3⟩
              have HB3 := hid (hbel2.trans (hb3.mono hz2))
              clear hb3
              go_wp2
              go_roundw
              case rel => exact ⟨j + 1, by omega, by go_num, HB3.out, HF⟩
              case measure => simp [intOf]; omega
          · have HF : Hid (isRangeR (tx s) = (d.drop (k + 1)).all isAltR) := by unfold Hid; rw [hall.out, HY.out (by rw [hall2.out, al_end isCondR m j hjl])]
            clear hall
            go_wp2
            go_roundw
            case rel => exact ⟨k + 1, by omega, by go_num, HB.out, HF⟩
            case measure => simp [intOf]; omega
      · have HF : Hid (isRangeR (tx s) = true) := by unfold Hid; rw [hall.out, al_end isAltR d k hlt]
        have HB := hid (hb1.trans (hbel.mono hz1))
        go_wp2
        go_ret
        exact ⟨ret_bool (by rw [HF.out]), HB.out⟩
  · have HF := hid (isRangeR_long s h60)
    go_enter Tryz.func121, Tryz.ntmps121
    go_wp2
    go_ret
    exact ⟨ret_bool (by rw [HF.out]), Below.refl _ _⟩

end Hst
end Go.Proofs.YtecocheolbkneaaGreatDoor
namespace Go.Proofs.YtecocheolbkneaaGreatDoor
open Go.RowKit
namespace Hst
set_option maxRecDepth 100000

theorem low_yes {b : UInt8} (h1 : (97 : Int) ≤ (b.toNat : Int)) (h2 : (b.toNat : Int) ≤ 122) : low b = true := by simp [low]; omega
theorem low_no1 {b : UInt8} (h1 : (b.toNat : Int) < 97) : low b = false := by simp [low]; omega
theorem low_no2 {b : UInt8} (h1 : (122 : Int) < (b.toNat : Int)) : low b = false := by simp [low]; omega
theorem alt_yes (f : UInt8 → Bool) (s : ByteArray) (k : Nat) (h : k < s.size) (hd : f s[k] = true) : ((tx s).drop k).all f = ((tx s).drop (k + 1)).all f := by
  rw [tx_drop s k h, List.all_cons, hd, Bool.true_and]
theorem alt_no (f : UInt8 → Bool) (s : ByteArray) (k : Nat) (h : k < s.size) (hd : f s[k] = false) : ((tx s).drop k).all f = false := by
  rw [tx_drop s k h, List.all_cons, hd, Bool.false_and]
theorem alt_end (f : UInt8 → Bool) (s : ByteArray) (k : Nat) (h : ¬ k < s.size) : ((tx s).drop k).all f = true := by
  rw [List.drop_of_length_le (by rw [tx_length]; omega)]; rfl
theorem isName_len (s : ByteArray) (h : s.size < 1 ∨ 3 < s.size) : isNameR (tx s) = false := by
  unfold isNameR; rw [tx_length]; rcases h with h | h
  · simp; intro h'; omega
  · simp; intro h1 h2; omega
theorem isName_go (s : ByteArray) (h1 : 1 ≤ s.size) (h2 : s.size ≤ 3) : isNameR (tx s) = (tx s).all low := by
  unfold isNameR; rw [tx_length]; simp [h1, h2]

set_option maxHeartbeats 1000000 in
theorem isName_any (s : ByteArray) (w : World) (hs : s.size ≤ 9223372036854775807) :
    Calls Tryz.prog 92 #[.string s] w fun e w' => e = .returned (.bool (isNameR (tx s))) ∧ w' = w := by
  by_cases h1 : 1 ≤ s.size
  · by_cases h3 : s.size ≤ 3
    · have HP := hid' (isName_go s h1 h3)
      go_enter Tryz.func92, Tryz.ntmps92
      go_wp2
      go_loop [3] (fun i => ∃ k : Nat, k ≤ s.size ∧ i = .int .i64 k ∧ Hid (isNameR (tx s) = ((tx s).drop k).all low)) (fun i => s.size - (intOf i).toNat)
      case atStart => exact ⟨0, Nat.zero_le _, rfl, by unfold Hid; rw [HP.out]; rfl⟩
      case round =>
        obtain ⟨k, hk, rfl, hall⟩ := hrel
        by_cases hlt : k < s.size
        · by_cases g1 : ((s[k]'hlt).toNat : Int) < 97
          · have HF : Hid (isNameR (tx s) = false) := by unfold Hid; rw [hall.out, alt_no low s k hlt (low_no1 g1)]
            go_wp2
            go_ret
            exact ⟨ret_bool (by rw [HF.out]), rfl⟩
          · by_cases g2 : 122 < ((s[k]'hlt).toNat : Int)
            · have HF : Hid (isNameR (tx s) = false) := by unfold Hid; rw [hall.out, alt_no low s k hlt (low_no2 g2)]
              go_wp2
              go_ret
              exact ⟨ret_bool (by rw [HF.out]), rfl⟩
            · have HF : Hid (isNameR (tx s) = ((tx s).drop (k + 1)).all low) := by unfold Hid; rw [hall.out, alt_yes low s k hlt (low_yes (by omega) (by omega))]
              go_wp2
              go_round
              case rel => exact ⟨k + 1, by omega, by go_num, HF⟩
              case measure => simp [intOf]; omega
        · have HF : Hid (isNameR (tx s) = true) := by unfold Hid; rw [hall.out, alt_end low s k hlt]
          go_wp2
          go_ret
          exact ⟨ret_bool (by rw [HF.out]), rfl⟩
    · have HF := hid' (isName_len s (by omega))
      go_enter Tryz.func92, Tryz.ntmps92
      go_wp2
      go_ret
      exact ⟨ret_bool (by rw [HF.out]), rfl⟩
  · have HF := hid' (isName_len s (by omega))
    go_enter Tryz.func92, Tryz.ntmps92
    go_wp2
    go_ret
    exact ⟨ret_bool (by rw [HF.out]), rfl⟩

theorem ll_yes (s : ByteArray) (k : Nat) (h : k < s.size) (hd : low s[k] = true) : lowLen ((tx s).drop k) = lowLen ((tx s).drop (k + 1)) + 1 := by
  rw [tx_drop s k h]; simp [lowLen, hd]
theorem ll_no (s : ByteArray) (k : Nat) (h : k < s.size) (hd : low s[k] = false) : lowLen ((tx s).drop k) = 0 := by
  rw [tx_drop s k h]; simp [lowLen, hd]
theorem ll_end (s : ByteArray) (k : Nat) (h : ¬ k < s.size) : lowLen ((tx s).drop k) = 0 := by
  rw [List.drop_of_length_le (by rw [tx_length]; omega)]; rfl
theorem lowLen_le : ∀ l : Tx, lowLen l ≤ l.length
  | [] => by simp [lowLen]
  | b :: r => by
    simp only [lowLen]
    split
    · have := lowLen_le r; simp; omega
    · simp
/-- A need, as a value. -/
abbrev needV (n : NeedD) : Value := .agg #[.string (bs n.name), .string (bs n.rng)]

attribute [local go_sem ↓] Go.wp_at_zero Go.wp_at_succ

set_option maxHeartbeats 1000000 in
theorem need_any (s : ByteArray) (w : World) (hs : s.size ≤ 9223372036854775807) :
    Calls Tryz.prog 84 #[.string s] w fun e w' => e = .returned (.tuple #[needV (needR (tx s)).1, .bool (needR (tx s)).2]) ∧ Below w.heap.size w w' := by
  have HN := hid' (fun w => isName_any (s.extract 0 (lowLen (tx s))) w (by have h1 := lowLen_le (tx s); rw [tx_length] at h1; simp; omega))
  rw [ext_to, tx_bs, ← ext_to] at HN
  have HR := hid' (fun w => isRange_any (s.extract (lowLen (tx s)) s.size) w)
  rw [ext_from, tx_bs, ← ext_from] at HR
  have HE : Hid (needR (tx s) = (⟨(tx s).take (lowLen (tx s)), (tx s).drop (lowLen (tx s))⟩, isNameR ((tx s).take (lowLen (tx s))) && isRangeR ((tx s).drop (lowLen (tx s))))) := rfl
  have HX1 := hid' (ext_to s (lowLen (tx s)))
  have HX2 := hid' (ext_from s (lowLen (tx s)))
  have hle := lowLen_le (tx s)
  rw [tx_length] at hle
  generalize isNameR ((tx s).take (lowLen (tx s))) = b1 at *
  generalize isRangeR ((tx s).drop (lowLen (tx s))) = b2 at *
  go_enter Tryz.func84, Tryz.ntmps84
  go_wp2
  go_loop [4] (fun i => ∃ k : Nat, k ≤ s.size ∧ i = .int .i64 k ∧ Hid (lowLen (tx s) = k + lowLen ((tx s).drop k))) (fun i => s.size - (intOf i).toNat)
  case atStart => exact ⟨0, Nat.zero_le _, rfl, by unfold Hid; simp⟩
  case round =>
    obtain ⟨k, hk, rfl, hall⟩ := hrel
    have hway : (∃ hlt : k < s.size, low s[k] = true ∧ (97 : Int) ≤ ((s[k]'hlt).toNat : Int) ∧ ((s[k]'hlt).toNat : Int) ≤ 122) ∨
        (lowLen (tx s) = k ∧ (s.size ≤ k ∨ (∃ hlt : k < s.size, ((s[k]'hlt).toNat : Int) < 97) ∨ (∃ hlt : k < s.size, (97 : Int) ≤ ((s[k]'hlt).toNat : Int) ∧ (122 : Int) < ((s[k]'hlt).toNat : Int)))) := by
      have h := hall.out
      by_cases hlt : k < s.size
      · by_cases g1 : ((s[k]'hlt).toNat : Int) < 97
        · rw [ll_no s k hlt (low_no1 g1)] at h
          exact .inr ⟨h, .inr (.inl ⟨hlt, g1⟩)⟩
        · by_cases g2 : 122 < ((s[k]'hlt).toNat : Int)
          · rw [ll_no s k hlt (low_no2 g2)] at h
            exact .inr ⟨h, .inr (.inr ⟨hlt, by omega, g2⟩)⟩
          · exact .inl ⟨hlt, low_yes (by omega) (by omega), by omega, by omega⟩
      · rw [ll_end s k hlt] at h
        exact .inr ⟨h, .inl (by omega)⟩
    rcases hway with ⟨hlt, hd, g1, g2⟩ | ⟨hll, hw⟩
    · have HF : Hid (lowLen (tx s) = k + 1 + lowLen ((tx s).drop (k + 1))) := by have := hall.out; rw [ll_yes s k hlt hd] at this; unfold Hid; omega
      clear hall hd
      go_wp2
      go_round
      case rel => exact ⟨k + 1, by omega, by go_num, HF⟩
      case measure => simp [intOf]; omega
    · clear hall
      rw [hll] at HN HR HX1 HX2 HE hle
      have HLL := hid' hll
      clear hll
      rcases hw with hw | ⟨hlt, g1⟩ | ⟨hlt, g1, g2⟩
      all_goals
        have hk0 : (0 : Int) ≤ (k : Int) := by omega
        have hk1 : (k : Int) ≤ (s.size : Int) := by omega
        go_wp2_with fail
        refine (HN.out _).mono ?_
        rintro e w1 ⟨rfl, rfl⟩
        go_wp2_with fail
        refine (HR.out _).mono ?_
        rintro e w2 ⟨rfl, hb2⟩
        have c0 := (bcell hb2).1 w.heap.size 0 (by simp)
        have c1 := (bcell hb2).1 w.heap.size 1 (by simp)
        have f0 := (bcell hb2).2 w.heap.size 0 (by simp)
        have f1 := (bcell hb2).2 w.heap.size 1 (by simp)
        simp at c0 c1 f0 f1
        have HB2 := hid' (((Below.refl _ _).alloc (Nat.le_refl _) _).trans (hb2.mono (by simp)) : Below w.heap.size w w2)
        clear hb2
        cases b1
        all_goals
          go_wp2
          go_region
          all_goals
            go_wp2
            refine bodyPost_ret (v := .tuple #[.agg #[.string (s.extract 0 k), .string (s.extract k s.size)], .bool _]) (by simp [results, Tryz.results84, go_sem, c0, c1]; rfl) rfl ⟨?_, ((HB2.out.setCell (Nat.le_refl _) _).setCell (Nat.le_refl _) _).drew⟩
            rw [HE.out, HX1.out, HX2.out]; rfl


theorem cut_yes (n : Int) (l : Tx) (k : Nat) (hk : k < l.length) (h : ((l[k]'hk).toNat : Int) = n) (hb : ∀ j (hj : j < k), ((l[j]'(by omega)).toNat : Int) ≠ n) : cutR n l = (l.take k, l.drop (k + 1), true) := by
  induction l generalizing k with
  | nil => simp at hk
  | cons b r ih =>
    cases k with
    | zero => simp at h; simp [cutR, h]
    | succ k =>
      have hb0 := hb 0 (by omega)
      simp at hb0
      have := ih k (by simpa using hk) (by simpa using h) (fun j hj => by have := hb (j + 1) (by omega); simpa using this)
      simp [cutR, hb0, this]
theorem cut_no (n : Int) (l : Tx) (hb : ∀ j (hj : j < l.length), ((l[j]'hj).toNat : Int) ≠ n) : cutR n l = (l, [], false) := by
  induction l with
  | nil => rfl
  | cons b r ih =>
    have hb0 := hb 0 (by simp)
    simp at hb0
    have := ih (fun j hj => by have := hb (j + 1) (by simp; omega); simpa using this)
    simp [cutR, hb0, this]
theorem ret_cut {a b a' b' : ByteArray} {c c' : Bool} (h1 : a = a') (h2 : b = b') (h3 : c = c') : Ending.returned (.tuple #[.string a, .string b, .bool c]) = .returned (.tuple #[.string a', .string b', .bool c']) := by rw [h1, h2, h3]

set_option maxHeartbeats 1000000 in
theorem cut_any (s : ByteArray) (n : Int) (w : World) (hs : s.size ≤ 9223372036854775807) :
    Calls Tryz.prog 134 #[.string s, .int .u8 n] w fun e w' => e = .returned (.tuple #[.string (bs (cutR n (tx s)).1), .string (bs (cutR n (tx s)).2.1), .bool (cutR n (tx s)).2.2]) ∧ Below w.heap.size w w' := by
  go_enter Tryz.func134, Tryz.ntmps134
  go_wp2
  go_loop [7] (fun i => ∃ k : Nat, k ≤ s.size ∧ i = .int .i64 k ∧ Hid (∀ j (hj : j < k) (hj' : j < (tx s).length), (((tx s)[j]'hj').toNat : Int) ≠ n)) (fun i => s.size - (intOf i).toNat)
  case atStart => exact ⟨0, Nat.zero_le _, rfl, fun j hj => by omega⟩
  case round =>
    obtain ⟨k, hk, rfl, hall⟩ := hrel
    have hl := tx_length s
    by_cases hlt : k < s.size
    · have hkk : ((tx s)[k]'(by omega)) = s[k]'hlt := rfl
      by_cases hb : ((s[k]'hlt).toNat : Int) = n
      · have hbb : (((s[k]'hlt).toNat : Int) == n) = true := by simp [hb]
        have HF : Hid (cutR n (tx s) = ((tx s).take k, (tx s).drop (k + 1), true)) := cut_yes n (tx s) k (by omega) (by rw [hkk]; exact hb) (fun j hj => hall.out j hj (by omega))
        have HX1 := hid' (ext_to s k)
        have HX2 := hid' (ext_from s (k + 1))
        have hk1 : (k : Int) + 1 ≤ (s.size : Int) := by omega
        clear hb hall hkk hl
        go_wp2
        go_region
        all_goals
          go_wp2
          go_ret3
          exact ⟨ret_cut (by rw [HF.out, ← HX1.out]) (by rw [HF.out, ← HX2.out]) (by rw [HF.out]), (Below.refl _ _).drew⟩
      · have hbb : (((s[k]'hlt).toNat : Int) == n) = false := by simp [hb]
        have HF : Hid (∀ j (hj : j < k + 1) (hj' : j < (tx s).length), (((tx s)[j]'hj').toNat : Int) ≠ n) := by
          intro j hj hj'
          by_cases e : j = k
          · subst e; exact hb
          · exact hall.out j (by omega) hj'
        clear hb hall hkk hl
        go_wp2
        go_round
        case rel => exact ⟨k + 1, by omega, by go_num, HF⟩
        case measure => simp [intOf]; omega
    · have HF : Hid (cutR n (tx s) = (tx s, [], false)) := cut_no n (tx s) (fun j hj => hall.out j (by omega) hj)
      clear hall hl
      go_wp2
      go_ret3
      exact ⟨ret_cut (by rw [HF.out, bs_tx]) (by rw [HF.out]; rfl) (by rw [HF.out]), Below.refl _ _⟩

end Hst
end Go.Proofs.YtecocheolbkneaaGreatDoor
namespace Go.Proofs.YtecocheolbkneaaGreatDoor
open Go.RowKit
namespace Hst
set_option maxRecDepth 100000

set_option maxHeartbeats 1000000 in
theorem letters_any (s : ByteArray) (w : World) (hs : s.size ≤ 9223372036854775807) :
    Calls Tryz.prog 105 #[.string s] w fun e w' => e = .returned (.int .i64 (lowLen (tx s))) ∧ w' = w := by
  go_enter Tryz.func105, Tryz.ntmps105
  go_wp2
  go_loop [3] (fun i => ∃ k : Nat, k ≤ s.size ∧ i = .int .i64 k ∧ Hid (lowLen (tx s) = k + lowLen ((tx s).drop k))) (fun i => s.size - (intOf i).toNat)
  case atStart => exact ⟨0, Nat.zero_le _, rfl, by unfold Hid; simp⟩
  case round =>
    obtain ⟨k, hk, rfl, hall⟩ := hrel
    by_cases hlt : k < s.size
    · by_cases g1 : ((s[k]'hlt).toNat : Int) < 97
      · have HF : Hid (lowLen (tx s) = k) := by unfold Hid; rw [hall.out, ll_no s k hlt (low_no1 g1)]; rfl
        go_wp2
        go_ret
        exact ⟨ret_int (by rw [HF.out]), rfl⟩
      · by_cases g2 : 122 < ((s[k]'hlt).toNat : Int)
        · have HF : Hid (lowLen (tx s) = k) := by unfold Hid; rw [hall.out, ll_no s k hlt (low_no2 g2)]; rfl
          go_wp2
          go_ret
          exact ⟨ret_int (by rw [HF.out]), rfl⟩
        · have HF : Hid (lowLen (tx s) = k + 1 + lowLen ((tx s).drop (k + 1))) := by have := hall.out; rw [ll_yes s k hlt (low_yes (by omega) (by omega))] at this; unfold Hid; omega
          go_wp2
          go_round
          case rel => exact ⟨k + 1, by omega, by go_num, HF⟩
          case measure => simp [intOf] <;> omega
    · have HF : Hid (lowLen (tx s) = k) := by unfold Hid; rw [hall.out, ll_end s k hlt]; rfl
      have hkk : k = s.size := by omega
      subst hkk
      go_wp2
      go_ret
      exact ⟨ret_int (by rw [HF.out]), rfl⟩

theorem lowLen_all : ∀ l : Tx, (lowLen l = l.length) = (l.all low = true)
  | [] => by simp [lowLen]
  | b :: r => by
    have ih := lowLen_all r
    simp only [lowLen, List.all_cons, List.length_cons]
    by_cases h : low b = true
    · simp only [h, if_true, Bool.true_and]
      rw [← ih]; simp
    · simp [h]

set_option maxHeartbeats 1000000 in
theorem isNameP_any (s : ByteArray) (w : World) (hs : s.size ≤ 9223372036854775807) :
    Calls Tryz.prog 89 #[.string s] w fun e w' => e = .returned (.bool (isNameR (tx s))) ∧ w' = w := by
  have HL := hid' (fun w => letters_any s w hs)
  by_cases h1 : 1 ≤ s.size
  · have hb : ((s.size : Int) == 0) = false := beq_eq_false_iff_ne.2 (by omega)
    have hb2 : (s.toList == []) = false := by
      rw [tx_toList]; apply beq_eq_false_iff_ne.2; intro e; have := tx_length s; rw [e] at this; simp at this; omega
    by_cases h3 : s.size ≤ 3
    · have HP := hid' (isName_go s h1 h3)
      have HA := hid' (lowLen_all (tx s))
      rw [tx_length] at HA
      by_cases he : lowLen (tx s) = s.size
      · have HF : Hid (isNameR (tx s) = true) := by
          unfold Hid; rw [HP.out]; have h := HA.out; rw [← h]; exact he
        have hbb : ((lowLen (tx s) : Int) == (s.size : Int)) = true := by simp [he]
        clear HP HA he
        generalize lowLen (tx s) = m at *
        go_enter Tryz.func89, Tryz.ntmps89
        go_wp2_with fail
        refine (HL.out _).mono ?_
        rintro e w1 ⟨rfl, rfl⟩
        go_wp2
        go_ret
        exact ⟨ret_bool (by rw [HF.out]), rfl⟩
      · have HF : Hid (isNameR (tx s) = false) := by
          unfold Hid; rw [HP.out]; have h := HA.out; rw [h] at he; simpa using he
        have hbb : ((lowLen (tx s) : Int) == (s.size : Int)) = false := beq_eq_false_iff_ne.2 (by omega)
        clear HP HA he
        generalize lowLen (tx s) = m at *
        go_enter Tryz.func89, Tryz.ntmps89
        go_wp2_with fail
        refine (HL.out _).mono ?_
        rintro e w1 ⟨rfl, rfl⟩
        go_wp2
        go_ret
        exact ⟨ret_bool (by rw [HF.out]), rfl⟩
    · have HF := hid' (isName_len s (by omega))
      go_enter Tryz.func89, Tryz.ntmps89
      go_wp2
      go_ret
      exact ⟨ret_bool (by rw [HF.out]), rfl⟩
  · have HF := hid' (isName_len s (by omega))
    have hz : s.size = 0 := by omega
    have hb2 : (s.toList == []) = true := by
      have e : tx s = [] := List.length_eq_zero_iff.1 (by rw [tx_length]; exact hz)
      rw [tx_toList, e]; rfl
    go_enter Tryz.func89, Tryz.ntmps89
    go_wp2
    go_ret
    exact ⟨ret_bool (by rw [HF.out]), rfl⟩

set_option maxHeartbeats 1000000 in
theorem in_any (p n : ByteArray) (w : World) (hp : p.size ≤ 100000) (hn : n.size ≤ 100000) :
    Calls Tryz.prog 178 #[.string p, .string n] w fun e w' => e = .returned (.string (bs (joinR (tx p) (tx n)))) ∧ w' = w := by
  by_cases h : tx p = []
  · have hb : (p.toList == []) = true := by rw [tx_toList, h]; rfl
    have HE : Hid (joinR (tx p) (tx n) = tx n) := by unfold Hid joinR; rw [if_pos h]
    clear h
    go_enter Tryz.func178, Tryz.ntmps178
    go_wp2
    go_ret
    exact ⟨ret_str (by rw [HE.out, bs_tx]), rfl⟩
  · have hb : (p.toList == []) = false := by rw [tx_toList]; exact beq_eq_false_iff_ne.2 h
    have HE : Hid (joinR (tx p) (tx n) = tx p ++ [47] ++ tx n) := by unfold Hid joinR; rw [if_neg h]
    clear h
    go_enter Tryz.func178, Tryz.ntmps178
    go_wp2
    go_ret
    refine ⟨ret_str ?_, rfl⟩
    rw [HE.out, ← bs_append, ← bs_append, bs_tx, bs_tx]; rfl

theorem fg_sl (s : ByteArray) (i : Nat) (h : i < s.size) (hb : ((s[i]).toNat : Int) = 47) : folderGo (tx s) (i + 1) = (tx s).take i := by
  have hl := tx_length s
  have e : (tx s).getD i 0 = s[i] := by rw [List.getD_eq_getElem?_getD, List.getElem?_eq_getElem (by omega)]; rfl
  have e2 : s[i] = 47 := UInt8.toNat_inj.1 (by simp; omega)
  simp only [folderGo]
  rw [e, if_pos e2]
theorem fg_sn (s : ByteArray) (i : Nat) (h : i < s.size) (hb : ¬ ((s[i]).toNat : Int) = 47) : folderGo (tx s) (i + 1) = folderGo (tx s) i := by
  have hl := tx_length s
  have e : (tx s).getD i 0 = s[i] := by rw [List.getD_eq_getElem?_getD, List.getElem?_eq_getElem (by omega)]; rfl
  have e2 : ¬ s[i] = 47 := fun hh => hb (by rw [hh]; rfl)
  simp only [folderGo]
  rw [e, if_neg e2]

set_option maxHeartbeats 1000000 in
theorem folder_any (s : ByteArray) (w : World) (hs : s.size ≤ 100000) :
    Calls Tryz.prog 131 #[.string s] w fun e w' => e = .returned (.string (bs (folderP (tx s)))) ∧ w' = w := by
  have HP : Hid (folderP (tx s) = folderGo (tx s) s.size) := by unfold Hid folderP; rw [tx_length]
  go_enter Tryz.func131, Tryz.ntmps131
  go_wp2
  go_loop [3] (fun i => ∃ k : Nat, k ≤ s.size ∧ i = .int .i64 ((k : Int) - 1) ∧ Hid (folderP (tx s) = folderGo (tx s) k)) (fun i => (intOf i + 1).toNat)
  case atStart => exact ⟨s.size, Nat.le_refl _, rfl, HP⟩
  case round =>
    obtain ⟨k, hk, rfl, hall⟩ := hrel
    clear HP
    cases k with
    | zero =>
      have HF : Hid (folderP (tx s) = []) := hall.out
      go_wp2
      go_ret
      exact ⟨ret_str (by rw [HF.out]; rfl), rfl⟩
    | succ i =>
      have hlt : i < s.size := by omega
      have e0 : (((i + 1 : Nat) : Int) - 1) = (i : Int) := by omega
      rw [e0]
      by_cases hb : ((s[i]'hlt).toNat : Int) = 47
      · have HF : Hid (folderP (tx s) = (tx s).take i) := by unfold Hid; rw [hall.out, fg_sl s i hlt hb]
        have hbb : (((s[i]'hlt).toNat : Int) == 47) = true := by simp [hb]
        have HX1 := hid' (ext_to s i)
        clear hb hall
        go_wp2
        go_ret
        exact ⟨ret_str (by rw [HF.out, ← HX1.out]), rfl⟩
      · have HF : Hid (folderP (tx s) = folderGo (tx s) i) := by unfold Hid; rw [hall.out, fg_sn s i hlt hb]
        have hbb : (((s[i]'hlt).toNat : Int) == 47) = false := beq_eq_false_iff_ne.2 hb
        clear hb hall
        go_wp2
        go_round
        case rel => exact ⟨i, by omega, by go_num, HF⟩
        case measure => simp [intOf] <;> omega

set_option maxHeartbeats 1000000 in
theorem pcut_any (s : ByteArray) (n : Int) (w : World) (hs : s.size ≤ 9223372036854775807) :
    Calls Tryz.prog 145 #[.string s, .int .u8 n] w fun e w' => e = .returned (.tuple #[.string (bs (cutR n (tx s)).1), .string (bs (cutR n (tx s)).2.1), .bool (cutR n (tx s)).2.2]) ∧ Below w.heap.size w w' := by
  go_enter Tryz.func145, Tryz.ntmps145
  go_wp2
  go_loop [7] (fun i => ∃ k : Nat, k ≤ s.size ∧ i = .int .i64 k ∧ Hid (∀ j (hj : j < k) (hj' : j < (tx s).length), (((tx s)[j]'hj').toNat : Int) ≠ n)) (fun i => s.size - (intOf i).toNat)
  case atStart => exact ⟨0, Nat.zero_le _, rfl, fun j hj => by omega⟩
  case round =>
    obtain ⟨k, hk, rfl, hall⟩ := hrel
    have hl := tx_length s
    by_cases hlt : k < s.size
    · have hkk : ((tx s)[k]'(by omega)) = s[k]'hlt := rfl
      by_cases hb : ((s[k]'hlt).toNat : Int) = n
      · have hbb : (((s[k]'hlt).toNat : Int) == n) = true := by simp [hb]
        have HF : Hid (cutR n (tx s) = ((tx s).take k, (tx s).drop (k + 1), true)) := cut_yes n (tx s) k (by omega) (by rw [hkk]; exact hb) (fun j hj => hall.out j hj (by omega))
        have HX1 := hid' (ext_to s k)
        have HX2 := hid' (ext_from s (k + 1))
        have hk1 : (k : Int) + 1 ≤ (s.size : Int) := by omega
        clear hb hall hkk hl
        go_wp2
        go_region
        all_goals
          go_wp2
          go_ret3
          exact ⟨ret_cut (by rw [HF.out, ← HX1.out]) (by rw [HF.out, ← HX2.out]) (by rw [HF.out]), (Below.refl _ _).drew⟩
      · have hbb : (((s[k]'hlt).toNat : Int) == n) = false := by simp [hb]
        have HF : Hid (∀ j (hj : j < k + 1) (hj' : j < (tx s).length), (((tx s)[j]'hj').toNat : Int) ≠ n) := by
          intro j hj hj'
          by_cases e : j = k
          · subst e; exact hb
          · exact hall.out j (by omega) hj'
        clear hb hall hkk hl
        go_wp2
        go_round
        case rel => exact ⟨k + 1, by omega, by go_num, HF⟩
        case measure => simp [intOf] <;> omega
    · have HF : Hid (cutR n (tx s) = (tx s, [], false)) := cut_no n (tx s) (fun j hj => hall.out j (by omega) hj)
      clear hall hl
      go_wp2
      go_ret3
      exact ⟨ret_cut (by rw [HF.out, bs_tx]) (by rw [HF.out]; rfl) (by rw [HF.out]), Below.refl _ _⟩

end Hst
end Go.Proofs.YtecocheolbkneaaGreatDoor
