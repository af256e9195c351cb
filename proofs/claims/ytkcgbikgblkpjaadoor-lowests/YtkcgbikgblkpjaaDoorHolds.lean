/- hoistref.holds. -/
import Derived.Test.YtkcgbikgblkpjaaDoorRcond
namespace Go.Proofs.YtkcgbikgblkpjaaDoor
open Go.RowKit
namespace Hst

theorem bse (l m : Tx) (h : l = m) : ((bs l).toList == m) = true := by rw [tx_toList, tx_bs, h]; simp
theorem bsn (l m : Tx) (h : l ≠ m) : ((bs l).toList == m) = false := by rw [tx_toList, tx_bs]; simp [h]

theorem eq3_t {a b c x y z : Int} (h1 : a = x) (h2 : b = y) (h3 : c = z) : eq3 ⟨a, b, c⟩ ⟨x, y, z⟩ = true := by simp [eq3, h1, h2, h3]
theorem eq3_f1 {a b c x y z : Int} (h1 : ¬ a = x) : eq3 ⟨a, b, c⟩ ⟨x, y, z⟩ = false := by simp [eq3, h1]
theorem eq3_f2 {a b c x y z : Int} (h1 : ¬ b = y) : eq3 ⟨a, b, c⟩ ⟨x, y, z⟩ = false := by simp [eq3, h1]
theorem eq3_f3 {a b c x y z : Int} (h1 : ¬ c = z) : eq3 ⟨a, b, c⟩ ⟨x, y, z⟩ = false := by simp [eq3, h1]
theorem hs_eq {a b c x y z : Int} : holdsS [61] ⟨x, y, z⟩ ⟨a, b, c⟩ = eq3 ⟨a, b, c⟩ ⟨x, y, z⟩ := by simp [holdsS]
theorem hs_gt {a b c x y z : Int} : holdsS [62] ⟨x, y, z⟩ ⟨a, b, c⟩ = (!belowB a b c x y z && !eq3 ⟨a, b, c⟩ ⟨x, y, z⟩) := by simp [holdsS]
theorem hs_ge {a b c x y z : Int} : holdsS [62, 61] ⟨x, y, z⟩ ⟨a, b, c⟩ = !belowB a b c x y z := by simp [holdsS]
theorem hs_lt {a b c x y z : Int} : holdsS [60] ⟨x, y, z⟩ ⟨a, b, c⟩ = belowB a b c x y z := by simp [holdsS]
theorem hs_le {a b c x y z : Int} : holdsS [60, 61] ⟨x, y, z⟩ ⟨a, b, c⟩ = (belowB a b c x y z || eq3 ⟨a, b, c⟩ ⟨x, y, z⟩) := by simp [holdsS]
theorem hs_ti {a b c x y z : Int} : holdsS [126] ⟨x, y, z⟩ ⟨a, b, c⟩ = (!belowB a b c x y z && decide (a = x) && decide (b = y)) := by simp [holdsS]
theorem hs_c1 {a b c x y z : Int} (h : ¬ x = 0) : holdsS [94] ⟨x, y, z⟩ ⟨a, b, c⟩ = (!belowB a b c x y z && decide (a = x)) := by simp [holdsS, h]
theorem hs_c2 {a b c x y z : Int} (h : x = 0) (h' : ¬ y = 0) : holdsS [94] ⟨x, y, z⟩ ⟨a, b, c⟩ = (!belowB a b c x y z && decide (a = 0) && decide (b = y)) := by simp [holdsS, h, h']
theorem hs_c3 {a b c x y z : Int} (h : x = 0) (h' : y = 0) : holdsS [94] ⟨x, y, z⟩ ⟨a, b, c⟩ = eq3 ⟨a, b, c⟩ ⟨x, y, z⟩ := by simp [holdsS, h, h']
theorem hs_no {sg : Tx} (k1 : ¬ sg = [61]) (k2 : ¬ sg = [62]) (k3 : ¬ sg = [62, 61]) (k4 : ¬ sg = [60]) (k5 : ¬ sg = [60, 61]) (k6 : ¬ sg = [126]) (k7 : ¬ sg = [94]) (w v : V3) : holdsS sg w v = true := by simp [holdsS, k1, k2, k3, k4, k5, k6, k7]

set_option maxHeartbeats 8000000 in
theorem holds_any (s : ByteArray) (a b c : Int) (w : World) :
    Calls Tryd.prog 38 #[.string s, verV a b c] w fun e w' => e = .returned (.bool (holdsR (tx s) ⟨a, b, c⟩)) ∧ Below w.heap.size w w' := by
  have HS := hid (fun w => signed_any s w)
  have HV := hid (fun w => version_any (bs (signedR (tx s)).2) w)
  rw [tx_bs] at HV
  have HF : Hid (holdsR (tx s) ⟨a, b, c⟩ = holdsS (signedR (tx s)).1 (versionR (signedR (tx s)).2).1 ⟨a, b, c⟩) := rfl
  generalize hsg : (signedR (tx s)).1 = sg at *
  generalize hrs : (signedR (tx s)).2 = rs at *
  clear hsg hrs
  generalize hvr : versionR rs = vr at *
  clear hvr
  obtain ⟨⟨x, y, z⟩, ok⟩ := vr
  go_enter Tryd.func38, Tryd.ntmps38
  go_wp2_with fail
  refine (HS.out _).mono ?_
  rintro e w1 ⟨rfl, hb1⟩
  go_wp2_with fail
  refine (HV.out _).mono ?_
  rintro e w2 ⟨rfl, hb2⟩
  have hb12 := hb1.trans (hb2.mono hb1.size)
  obtain ⟨hcc, hff⟩ := bcell hb12
  have hz := hb12.size
  simp at hcc hz
  have c0 := hcc w.heap.size 0 (by omega)
  have c1 := hcc w.heap.size 1 (by omega)
  have c2 := hcc w.heap.size 2 (by omega)
  simp at c0 c1 c2
  have hwz : w.heap.size < w2.heap.size := by omega
  have HB := hid (((Below.refl _ _).alloc (Nat.le_refl _) _).trans (hb12.mono (by simp)) : Below w.heap.size w w2)
  clear hb1 hb2 hcc hff hb12
  go_wp2_with fail
  refine (below_any _ _ _ _ _ _ _).mono ?_
  rintro e w3 ⟨rfl, hb3⟩
  obtain ⟨hcc, hff⟩ := bcell hb3
  have hz3 := hb3.size
  simp at hcc hz3
  have d0 := (hcc w.heap.size 0 (by omega)).trans ((World.cell?_alloc_past _ _ _ hwz).trans c0)
  have d1 := (hcc w.heap.size 1 (by omega)).trans ((World.cell?_alloc_past _ _ _ hwz).trans c1)
  have d2 := (hcc w.heap.size 2 (by omega)).trans ((World.cell?_alloc_past _ _ _ hwz).trans c2)
  have e0 := hcc w2.heap.size 0 (by omega)
  have e1 := hcc w2.heap.size 1 (by omega)
  have e2 := hcc w2.heap.size 2 (by omega)
  simp at e0 e1 e2
  have HB3 := hid ((HB.out.alloc (by omega) _).trans (hb3.mono (by simp; omega)) : Below w.heap.size w w3)
  generalize hlow : belowB a b c x y z = low at *
  have HLOW := hid hlow
  clear hb3 hcc hff c0 c1 c2 hlow
  by_cases k1 : sg = [61]
  · have q1 := bse sg _ k1
    have K := hid k1
    clear k1
    generalize bs sg = q at *
    by_cases pa : a = x
    · have bpa : (a == x) = true := by simp [pa]
      have Ppa := hid pa
      clear pa
      by_cases pb : b = y
      · have bpb : (b == y) = true := by simp [pb]
        have Ppb := hid pb
        clear pb
        by_cases pc : c = z
        · have bpc : (c == z) = true := by simp [pc]
          have Ppc := hid pc
          clear pc
          go_wp2
          go_ret
          exact ⟨ret_bool (by rw [HF.out, K.out, hs_eq, eq3_t Ppa.out Ppb.out Ppc.out] <;> rfl), HB3.out⟩
        · have bpc : (c == z) = false := by simp [pc]
          have Ppc := hid pc
          clear pc
          go_wp2
          go_ret
          exact ⟨ret_bool (by rw [HF.out, K.out, hs_eq, eq3_f3 Ppc.out] <;> rfl), HB3.out⟩
      · have bpb : (b == y) = false := by simp [pb]
        have Ppb := hid pb
        clear pb
        go_wp2
        go_ret
        exact ⟨ret_bool (by rw [HF.out, K.out, hs_eq, eq3_f2 Ppb.out] <;> rfl), HB3.out⟩
    · have bpa : (a == x) = false := by simp [pa]
      have Ppa := hid pa
      clear pa
      go_wp2
      go_ret
      exact ⟨ret_bool (by rw [HF.out, K.out, hs_eq, eq3_f1 Ppa.out] <;> rfl), HB3.out⟩
  have q1 := bsn sg _ k1
  by_cases k2 : sg = [62]
  · have q2 := bse sg _ k2
    have K := hid k2
    clear k1 k2
    generalize bs sg = q at *
    cases low
    · skip
      by_cases pa : a = x
      · have bpa : (a == x) = true := by simp [pa]
        have Ppa := hid pa
        clear pa
        by_cases pb : b = y
        · have bpb : (b == y) = true := by simp [pb]
          have Ppb := hid pb
          clear pb
          by_cases pc : c = z
          · have bpc : (c == z) = true := by simp [pc]
            have Ppc := hid pc
            clear pc
            go_wp2
            go_ret
            exact ⟨ret_bool (by rw [HF.out, K.out, hs_gt, HLOW.out, eq3_t Ppa.out Ppb.out Ppc.out] <;> rfl), HB3.out⟩
          · have bpc : (c == z) = false := by simp [pc]
            have Ppc := hid pc
            clear pc
            go_wp2
            go_ret
            exact ⟨ret_bool (by rw [HF.out, K.out, hs_gt, HLOW.out, eq3_f3 Ppc.out] <;> rfl), HB3.out⟩
        · have bpb : (b == y) = false := by simp [pb]
          have Ppb := hid pb
          clear pb
          go_wp2
          go_ret
          exact ⟨ret_bool (by rw [HF.out, K.out, hs_gt, HLOW.out, eq3_f2 Ppb.out] <;> rfl), HB3.out⟩
      · have bpa : (a == x) = false := by simp [pa]
        have Ppa := hid pa
        clear pa
        go_wp2
        go_ret
        exact ⟨ret_bool (by rw [HF.out, K.out, hs_gt, HLOW.out, eq3_f1 Ppa.out] <;> rfl), HB3.out⟩
    · skip
      go_wp2
      go_ret
      exact ⟨ret_bool (by rw [HF.out, K.out, hs_gt, HLOW.out] <;> rfl), HB3.out⟩
  have q2 := bsn sg _ k2
  by_cases k3 : sg = [62, 61]
  · have q3 := bse sg _ k3
    have K := hid k3
    clear k1 k2 k3
    generalize bs sg = q at *
    go_wp2
    go_ret
    exact ⟨ret_bool (by rw [HF.out, K.out, hs_ge, HLOW.out] <;> rfl), HB3.out⟩
  have q3 := bsn sg _ k3
  by_cases k4 : sg = [60]
  · have q4 := bse sg _ k4
    have K := hid k4
    clear k1 k2 k3 k4
    generalize bs sg = q at *
    go_wp2
    go_ret
    exact ⟨ret_bool (by rw [HF.out, K.out, hs_lt, HLOW.out] <;> rfl), HB3.out⟩
  have q4 := bsn sg _ k4
  by_cases k5 : sg = [60, 61]
  · have q5 := bse sg _ k5
    have K := hid k5
    clear k1 k2 k3 k4 k5
    generalize bs sg = q at *
    cases low
    · skip
      by_cases pa : a = x
      · have bpa : (a == x) = true := by simp [pa]
        have Ppa := hid pa
        clear pa
        by_cases pb : b = y
        · have bpb : (b == y) = true := by simp [pb]
          have Ppb := hid pb
          clear pb
          by_cases pc : c = z
          · have bpc : (c == z) = true := by simp [pc]
            have Ppc := hid pc
            clear pc
            go_wp2
            go_ret
            exact ⟨ret_bool (by rw [HF.out, K.out, hs_le, HLOW.out, eq3_t Ppa.out Ppb.out Ppc.out] <;> rfl), HB3.out⟩
          · have bpc : (c == z) = false := by simp [pc]
            have Ppc := hid pc
            clear pc
            go_wp2
            go_ret
            exact ⟨ret_bool (by rw [HF.out, K.out, hs_le, HLOW.out, eq3_f3 Ppc.out] <;> rfl), HB3.out⟩
        · have bpb : (b == y) = false := by simp [pb]
          have Ppb := hid pb
          clear pb
          go_wp2
          go_ret
          exact ⟨ret_bool (by rw [HF.out, K.out, hs_le, HLOW.out, eq3_f2 Ppb.out] <;> rfl), HB3.out⟩
      · have bpa : (a == x) = false := by simp [pa]
        have Ppa := hid pa
        clear pa
        go_wp2
        go_ret
        exact ⟨ret_bool (by rw [HF.out, K.out, hs_le, HLOW.out, eq3_f1 Ppa.out] <;> rfl), HB3.out⟩
    · skip
      go_wp2
      go_ret
      exact ⟨ret_bool (by rw [HF.out, K.out, hs_le, HLOW.out] <;> rfl), HB3.out⟩
  have q5 := bsn sg _ k5
  by_cases k6 : sg = [126]
  · have q6 := bse sg _ k6
    have K := hid k6
    clear k1 k2 k3 k4 k5 k6
    generalize bs sg = q at *
    cases low
    · skip
      by_cases pa : a = x
      · have bpa : (a == x) = true := by simp [pa]
        have Ppa := hid pa
        clear pa
        by_cases pb : b = y
        · have bpb : (b == y) = true := by simp [pb]
          have Ppb := hid pb
          clear pb
          go_wp2
          go_ret
          exact ⟨ret_bool (by rw [HF.out, K.out, hs_ti, HLOW.out, decide_eq_true Ppa.out, decide_eq_true Ppb.out] <;> rfl), HB3.out⟩
        · have bpb : (b == y) = false := by simp [pb]
          have Ppb := hid pb
          clear pb
          go_wp2
          go_ret
          exact ⟨ret_bool (by rw [HF.out, K.out, hs_ti, HLOW.out, decide_eq_true Ppa.out, decide_eq_false Ppb.out] <;> rfl), HB3.out⟩
      · have bpa : (a == x) = false := by simp [pa]
        have Ppa := hid pa
        clear pa
        go_wp2
        go_ret
        exact ⟨ret_bool (by rw [HF.out, K.out, hs_ti, HLOW.out, decide_eq_false Ppa.out] <;> rfl), HB3.out⟩
    · skip
      go_wp2
      go_ret
      exact ⟨ret_bool (by rw [HF.out, K.out, hs_ti, HLOW.out] <;> rfl), HB3.out⟩
  have q6 := bsn sg _ k6
  by_cases k7 : sg = [94]
  · have q7 := bse sg _ k7
    have K := hid k7
    clear k1 k2 k3 k4 k5 k6 k7
    generalize bs sg = q at *
    by_cases px : x = 0
    · have bpx : (x != 0) = false := by simp [px]
      have Ppx := hid px
      clear px
      by_cases py : y = 0
      · have bpy : (y != 0) = false := by simp [py]
        have Ppy := hid py
        clear py
        by_cases pa : a = x
        · have bpa : (a == x) = true := by simp [pa]
          have Ppa := hid pa
          clear pa
          by_cases pb : b = y
          · have bpb : (b == y) = true := by simp [pb]
            have Ppb := hid pb
            clear pb
            by_cases pc : c = z
            · have bpc : (c == z) = true := by simp [pc]
              have Ppc := hid pc
              clear pc
              go_wp2
              go_ret
              exact ⟨ret_bool (by rw [HF.out, K.out, hs_c3 Ppx.out Ppy.out, eq3_t Ppa.out Ppb.out Ppc.out] <;> rfl), HB3.out⟩
            · have bpc : (c == z) = false := by simp [pc]
              have Ppc := hid pc
              clear pc
              go_wp2
              go_ret
              exact ⟨ret_bool (by rw [HF.out, K.out, hs_c3 Ppx.out Ppy.out, eq3_f3 Ppc.out] <;> rfl), HB3.out⟩
          · have bpb : (b == y) = false := by simp [pb]
            have Ppb := hid pb
            clear pb
            go_wp2
            go_ret
            exact ⟨ret_bool (by rw [HF.out, K.out, hs_c3 Ppx.out Ppy.out, eq3_f2 Ppb.out] <;> rfl), HB3.out⟩
        · have bpa : (a == x) = false := by simp [pa]
          have Ppa := hid pa
          clear pa
          go_wp2
          go_ret
          exact ⟨ret_bool (by rw [HF.out, K.out, hs_c3 Ppx.out Ppy.out, eq3_f1 Ppa.out] <;> rfl), HB3.out⟩
      · have bpy : (y != 0) = true := by simp [py]
        have Ppy := hid py
        clear py
        cases low
        · skip
          by_cases pa : a = 0
          · have bpa : (a == 0) = true := by simp [pa]
            have Ppa := hid pa
            clear pa
            by_cases pb : b = y
            · have bpb : (b == y) = true := by simp [pb]
              have Ppb := hid pb
              clear pb
              go_wp2
              go_ret
              exact ⟨ret_bool (by rw [HF.out, K.out, hs_c2 Ppx.out Ppy.out, HLOW.out, decide_eq_true Ppa.out, decide_eq_true Ppb.out] <;> rfl), HB3.out⟩
            · have bpb : (b == y) = false := by simp [pb]
              have Ppb := hid pb
              clear pb
              go_wp2
              go_ret
              exact ⟨ret_bool (by rw [HF.out, K.out, hs_c2 Ppx.out Ppy.out, HLOW.out, decide_eq_true Ppa.out, decide_eq_false Ppb.out] <;> rfl), HB3.out⟩
          · have bpa : (a == 0) = false := by simp [pa]
            have Ppa := hid pa
            clear pa
            go_wp2
            go_ret
            exact ⟨ret_bool (by rw [HF.out, K.out, hs_c2 Ppx.out Ppy.out, HLOW.out, decide_eq_false Ppa.out] <;> rfl), HB3.out⟩
        · skip
          go_wp2
          go_ret
          exact ⟨ret_bool (by rw [HF.out, K.out, hs_c2 Ppx.out Ppy.out, HLOW.out] <;> rfl), HB3.out⟩
    · have bpx : (x != 0) = true := by simp [px]
      have Ppx := hid px
      clear px
      cases low
      · skip
        by_cases pa : a = x
        · have bpa : (a == x) = true := by simp [pa]
          have Ppa := hid pa
          clear pa
          go_wp2
          go_ret
          exact ⟨ret_bool (by rw [HF.out, K.out, hs_c1 Ppx.out, HLOW.out, decide_eq_true Ppa.out] <;> rfl), HB3.out⟩
        · have bpa : (a == x) = false := by simp [pa]
          have Ppa := hid pa
          clear pa
          go_wp2
          go_ret
          exact ⟨ret_bool (by rw [HF.out, K.out, hs_c1 Ppx.out, HLOW.out, decide_eq_false Ppa.out] <;> rfl), HB3.out⟩
      · skip
        go_wp2
        go_ret
        exact ⟨ret_bool (by rw [HF.out, K.out, hs_c1 Ppx.out, HLOW.out] <;> rfl), HB3.out⟩
  have q7 := bsn sg _ k7
  have K := hid (hs_no k1 k2 k3 k4 k5 k6 k7 ⟨x, y, z⟩ ⟨a, b, c⟩)
  clear k1 k2 k3 k4 k5 k6 k7
  generalize bs sg = q at *
  go_wp2
  go_ret
  exact ⟨ret_bool (by rw [HF.out, K.out]), HB3.out⟩

end Hst
end Go.Proofs.YtkcgbikgblkpjaaDoor
