/- Lowest, After, Rcond, Holds, Rrange -/
import Derived.Test.YtecocheolbkneaaDoorW03
import Derived.Test.YtecocheolbkneaaDoorW04
import Derived.Test.YtecocheolbkneaaDoorW01
import Derived.Test.YtecocheolbkneaaDoorW02
import Derived.Deep.RegionHeld3
import Derived.Deep.QuietTactic
namespace Go.Proofs.YtecocheolbkneaaDoor
open Go.RowKit
namespace Hst
set_option maxRecDepth 100000

theorem lg_empty (sp : List (Int × Int)) (k : Nat) (lo : Int) (fd : Bool) (hk : k < sp.length) (h : sp[k].2 < sp[k].1) : lowGo lo fd (sp.drop k) = lowGo lo fd (sp.drop (k + 1)) := by
  rw [List.drop_eq_getElem_cons hk]; simp only [lowGo, if_pos h]
theorem lg_take (sp : List (Int × Int)) (k : Nat) (lo : Int) (fd : Bool) (hk : k < sp.length) (h : ¬ sp[k].2 < sp[k].1) (h2 : fd = false ∨ sp[k].1 < lo) : lowGo lo fd (sp.drop k) = lowGo sp[k].1 true (sp.drop (k + 1)) := by
  rw [List.drop_eq_getElem_cons hk]; simp only [lowGo, if_neg h, if_pos h2]
theorem lg_keep (sp : List (Int × Int)) (k : Nat) (lo : Int) (fd : Bool) (hk : k < sp.length) (h : ¬ sp[k].2 < sp[k].1) (h2 : ¬ (fd = false ∨ sp[k].1 < lo)) : lowGo lo fd (sp.drop k) = lowGo lo true (sp.drop (k + 1)) := by
  rw [List.drop_eq_getElem_cons hk]; simp only [lowGo, if_neg h, if_neg h2]
theorem lg_end (sp : List (Int × Int)) (k : Nat) (lo : Int) (fd : Bool) (hk : ¬ k < sp.length) : lowGo lo fd (sp.drop k) = (lo, fd) := by
  rw [List.drop_of_length_le (by omega)]; rfl

set_option maxHeartbeats 2000000 in
theorem rlow_any (v : Value) (sp : List (Int × Int)) (base : Nat) (w : World) (hrow : SpanRow w base v sp) (hne : sp ≠ []) (hl : sp.length ≤ 1000) :
    Calls Tryd.prog 32 #[.agg #[v]] w fun e w' => e = .returned (.tuple #[.int .i64 (lowGo 0 false sp).1, .bool (lowGo 0 false sp).2]) ∧ Below w.heap.size w w' := by
  obtain ⟨g, cap, rfl, hg1, hg2, hcell⟩ := hrow.form hne
  have HC := hid hcell
  clear hcell hrow
  go_enter Tryd.func32, Tryd.ntmps32
  go_wp2
  go_loopw [4, 5, 11] (fun l f i wr => ∃ (k : Nat) (lo : Int) (fd : Bool), k ≤ sp.length ∧ l = .int .i64 lo ∧ f = .bool fd ∧ i = .int .i64 k ∧ Below w.heap.size w wr ∧ Hid (lowGo 0 false sp = lowGo lo fd (sp.drop k))) (fun _ _ i _ => sp.length - (intOf i).toNat)
  case atStart => exact ⟨0, 0, false, by omega, rfl, rfl, rfl, (Below.refl _ _).alloc (Nat.le_refl _) _, rfl⟩
  case round =>
    obtain ⟨k, lo, fd, hk, rfl, rfl, rfl, hbel, hall⟩ := hrel
    have hz := hbel.size
    by_cases hlt : k < sp.length
    · obtain ⟨c0, c1⟩ := HC.out k hlt
      have hc0 := (hbel.cell (p := ⟨g, k * 2, none⟩) hg2).trans c0
      have hc1 := (hbel.cell (p := ⟨g, k * 2 + 1, none⟩) hg2).trans c1
      have HE := hid (lg_empty sp k lo fd hlt)
      have HT := hid (lg_take sp k lo fd hlt)
      have HK := hid (lg_keep sp k lo fd hlt)
      clear c0 c1
      generalize sp[k].1 = x at *
      generalize sp[k].2 = y at *
      go_wp2_with fail
      refine (isEmpty_any _ _ _).mono ?_
      rintro e w3 ⟨rfl, hb3⟩
      have hz3 := hb3.size
      simp at hz3
      have d0 := (bcell hb3).1 wr.heap.size 0 (by simp)
      simp at d0
      have HB := hid ((hbel.alloc hz _).trans (hb3.mono (by simp; omega)))
      clear hb3 hc0 hc1
      by_cases hem : y < x
      · have hd : decide (y < x) = true := by simp [hem]
        have HF : Hid (lowGo 0 false sp = lowGo lo fd (sp.drop (k + 1))) := by unfold Hid; rw [hall.out, HE.out hem]
        go_wp2
        go_roundw
        case rel => exact ⟨k + 1, lo, fd, by omega, rfl, rfl, by go_num, HB.out, HF⟩
        case measure => simp [intOf]; omega
      · have hd : decide (y < x) = false := by simp [hem]
        cases fd
        · have HF : Hid (lowGo 0 false sp = lowGo x true (sp.drop (k + 1))) := by unfold Hid; rw [hall.out, HT.out (by omega) (.inl rfl)]
          clear HE HT HK hall
          go_wp2
          go_roundw
          case rel => exact ⟨k + 1, x, true, by omega, rfl, rfl, by go_num, HB.out, HF⟩
          case measure => simp [intOf]; omega
        · by_cases hxl : x < lo
          · have HF : Hid (lowGo 0 false sp = lowGo x true (sp.drop (k + 1))) := by unfold Hid; rw [hall.out, HT.out (by omega) (.inr hxl)]
            clear HE HT HK hall
            go_wp2
            go_roundw
            case rel => exact ⟨k + 1, x, true, by omega, rfl, rfl, by go_num, HB.out, HF⟩
            case measure => simp [intOf]; omega
          · have HF : Hid (lowGo 0 false sp = lowGo lo true (sp.drop (k + 1))) := by unfold Hid; rw [hall.out, HK.out (by omega) (by simp; omega)]
            clear HE HT HK hall
            go_wp2
            go_roundw
            case rel => exact ⟨k + 1, lo, true, by omega, rfl, rfl, by go_num, HB.out, HF⟩
            case measure => simp [intOf]; omega
    · have HF : Hid (lowGo 0 false sp = (lo, fd)) := by unfold Hid; rw [hall.out, lg_end sp k lo fd hlt]
      go_wp2
      go_ret2
      exact ⟨ret_int_bool (by rw [HF.out]) (by rw [HF.out]), hbel⟩

/-- A version at a place, written. -/
def placeT (n : Int) : Tx := verT (n / 10000).toNat (n / 100 % 100).toNat (n % 100).toNat
/-- Lowest of the program: its answer and its error. -/
def lowProg (r : Tx) : Tx × Int := match rangeP r with
  | none => ([], 1)
  | some sp => if (lowGo 0 false sp).2 = true then (placeT (lowGo 0 false sp).1, 0) else ([], 3)
theorem lowProg1 {r : Tx} (h : rangeP r = none) : lowProg r = ([], 1) := by simp [lowProg, h]
theorem lowProg2 {r : Tx} {sp : List (Int × Int)} (h : rangeP r = some sp) (h' : (lowGo 0 false sp).2 = false) : lowProg r = ([], 3) := by simp [lowProg, h, h']
theorem lowProg3 {r : Tx} {sp : List (Int × Int)} (h : rangeP r = some sp) (h' : (lowGo 0 false sp).2 = true) : lowProg r = (placeT (lowGo 0 false sp).1, 0) := by simp [lowProg, h, h']
theorem low_bd {r : Tx} {sp : List (Int × Int)} (h : rangeP r = some sp) (h' : (lowGo 0 false sp).2 = true) : 0 ≤ (lowGo 0 false sp).1 ∧ (lowGo 0 false sp).1 ≤ 999999 := by
  obtain ⟨i1, _, _, _⟩ := lowGo_spec sp 0 false
  rcases i1 h' with e | ⟨s, hs, hle, e⟩
  · simp at e
  · have hlow := rangeP_low h hs
    obtain ⟨p, hp, hpe⟩ := hlow.2 (by omega)
    have := place_bd (pointsR_valid hp)
    omega
theorem ret_str_int {k : IntKind} {a b : ByteArray} {c d : Int} (h : a = b) (h' : c = d) : Ending.returned (.tuple #[.string a, .int k c]) = .returned (.tuple #[.string b, .int k d]) := by rw [h, h']

set_option maxHeartbeats 1000000 in
theorem plow_any (r : ByteArray) (w : World) :
    Calls Tryd.prog 9 #[.string r] w fun e w' => e = .returned (.tuple #[.string (bs (lowProg (tx r)).1), .int .i64 (lowProg (tx r)).2]) ∧ Below w.heap.size w w' := by
  have HR := hid (fun w => rparse_any r w)
  rcases hr : rangeP (tx r) with _ | sp
  · rw [lowProg1 hr]
    rw [hr] at HR
    clear hr
    go_enter Tryd.func9, Tryd.ntmps9
    go_wp2_with fail
    refine (HR.out _).mono ?_
    rintro e w1 ⟨xa, xn, xc, rfl, hb1, hsp⟩
    simp only [rok, Option.isSome_none]
    have hz1 := hb1.size
    clear hsp
    go_wp2
    go_ret2
    exact ⟨rfl, hb1.alloc hz1 _⟩
  · have hlen := rangeP_len hr
    have hne : sp ≠ [] := List.length_pos_iff.1 hlen.1
    rw [hr] at HR
    rcases hf : (lowGo 0 false sp).2 with _ | _
    · rw [lowProg2 hr hf]
      have HLO := hid (fun v base w hrow => rlow_any v sp base w hrow hne (by omega))
      rw [hf] at HLO
      generalize (lowGo 0 false sp).1 = lo at *
      clear hr hf
      go_enter Tryd.func9, Tryd.ntmps9
      go_wp2_with fail
      refine (HR.out _).mono ?_
      rintro e w1 ⟨xa, xn, xc, rfl, hb1, hsp⟩
      simp only [rok, Option.isSome_some]
      have hz1 := hb1.size
      have HSP := hid (SpanRow.below (hsp sp rfl) ((Below.refl _ _).alloc (Nat.le_refl _) (.cells #[.slice xa xn xc] 64)))
      have HB := hid (hb1.alloc hz1 (.cells #[.slice xa xn xc] 64))
      clear hsp hb1
      go_wp2_with fail
      refine (HLO.out _ _ _ HSP.out).mono ?_
      rintro e w2 ⟨rfl, hb2⟩
      have HB2 := hid (HB.out.trans (hb2.mono (by simp; omega)))
      clear hb2
      go_wp2
      go_ret2
      exact ⟨rfl, HB2.out⟩
    · rw [lowProg3 hr hf]
      have hbd := low_bd hr hf
      have HLO := hid (fun v base w hrow => rlow_any v sp base w hrow hne (by omega))
      rw [hf] at HLO
      generalize (lowGo 0 false sp).1 = lo at *
      have HT := hid (fun w => text_any lo w hbd.1 hbd.2)
      have HPT : Hid (placeT lo = verT (lo / 10000).toNat (lo / 100 % 100).toNat (lo % 100).toNat) := rfl
      rw [← HPT.out] at HT
      generalize placeT lo = q at *
      clear hr hf HPT
      go_enter Tryd.func9, Tryd.ntmps9
      go_wp2_with fail
      refine (HR.out _).mono ?_
      rintro e w1 ⟨xa, xn, xc, rfl, hb1, hsp⟩
      simp only [rok, Option.isSome_some]
      have hz1 := hb1.size
      have HSP := hid (SpanRow.below (hsp sp rfl) ((Below.refl _ _).alloc (Nat.le_refl _) (.cells #[.slice xa xn xc] 64)))
      have HB := hid (hb1.alloc hz1 (.cells #[.slice xa xn xc] 64))
      clear hsp hb1
      go_wp2_with fail
      refine (HLO.out _ _ _ HSP.out).mono ?_
      rintro e w2 ⟨rfl, hb2⟩
      have HB2 := hid (HB.out.trans (hb2.mono (by simp; omega)))
      clear hb2
      go_wp2_with fail
      refine (HT.out _).mono ?_
      rintro e w3 ⟨rfl, rfl⟩
      go_wp2
      go_ret2
      exact ⟨rfl, HB2.out⟩

end Hst
end Go.Proofs.YtecocheolbkneaaDoor
namespace Go.Proofs.YtecocheolbkneaaDoor
open Go.RowKit
namespace Hst
set_option maxRecDepth 100000

set_option maxHeartbeats 1000000 in
theorem after_any (a b c : Int) (w : World) (ha0 : 0 ≤ a) (ha1 : a ≤ 99) (hb0 : 0 ≤ b) (hb1 : b ≤ 99) (hc0 : 0 ≤ c) (hc1 : c ≤ 99) :
    Calls Tryd.prog 66 #[verV a b c] w fun e w' => e = .returned (.tuple #[verV (afterR ⟨a, b, c⟩).1.a (afterR ⟨a, b, c⟩).1.b (afterR ⟨a, b, c⟩).1.c, .bool (afterR ⟨a, b, c⟩).2]) ∧ Below w.heap.size w w' := by
  by_cases h1 : c < 99
  · have e : afterR ⟨a, b, c⟩ = (⟨a, b, c + 1⟩, true) := by simp [afterR, h1]
    rw [e]
    go_enter Tryd.func66, Tryd.ntmps66
    go_wp2
    exact bodyPost_ret (v := .tuple #[verV a b (c + 1), .bool true]) (by simp [results, Tryd.results66, go_sem]) rfl ⟨rfl, ((Below.refl _ _).alloc (Nat.le_refl _) _).alloc (by simp) _⟩
  · by_cases h2 : b < 99
    · have e : afterR ⟨a, b, c⟩ = (⟨a, b + 1, 0⟩, true) := by simp [afterR, h1, h2]
      rw [e]
      go_enter Tryd.func66, Tryd.ntmps66
      go_wp2
      exact bodyPost_ret (v := .tuple #[verV a (b + 1) 0, .bool true]) (by simp [results, Tryd.results66, go_sem]) rfl ⟨rfl, ((Below.refl _ _).alloc (Nat.le_refl _) _).alloc (by simp) _⟩
    · by_cases h3 : a < 99
      · have e : afterR ⟨a, b, c⟩ = (⟨a + 1, 0, 0⟩, true) := by simp [afterR, h1, h2, h3]
        rw [e]
        go_enter Tryd.func66, Tryd.ntmps66
        go_wp2
        exact bodyPost_ret (v := .tuple #[verV (a + 1) 0 0, .bool true]) (by simp [results, Tryd.results66, go_sem]) rfl ⟨rfl, ((Below.refl _ _).alloc (Nat.le_refl _) _).alloc (by simp) _⟩
      · have e : afterR ⟨a, b, c⟩ = (⟨a, b, c⟩, false) := by simp [afterR, h1, h2, h3]
        rw [e]
        go_enter Tryd.func66, Tryd.ntmps66
        go_wp2
        exact bodyPost_ret (v := .tuple #[verV a b c, .bool false]) (by simp [results, Tryd.results66, go_sem]) rfl ⟨rfl, ((Below.refl _ _).alloc (Nat.le_refl _) _).alloc (by simp) _⟩

end Hst
end Go.Proofs.YtecocheolbkneaaDoor
namespace Go.Proofs.YtecocheolbkneaaDoor
open Go.RowKit
namespace Hst
set_option maxRecDepth 100000

theorem empty_yes (l : Tx) (h : l = []) : (bs l).toList.isEmpty = true := by rw [tx_toList, tx_bs, h]; rfl
theorem empty_no (l : Tx) (h : l ≠ []) : (bs l).toList.isEmpty = false := by rw [tx_toList, tx_bs]; simp [h]

set_option maxHeartbeats 1000000 in
theorem isCond_any (s : ByteArray) (w : World) :
    Calls Tryd.prog 63 #[.string s] w fun e w' => e = .returned (.bool (isCondR (tx s))) ∧ Below w.heap.size w w' := by
  have HS := hid (fun w => signed_any s w)
  have HV := hid (fun w => version_any (bs (signedR (tx s)).2) w)
  rw [tx_bs] at HV
  have HF : Hid (isCondR (tx s) = (decide (tx s = [42]) || (!(signedR (tx s)).1.isEmpty && (versionR (signedR (tx s)).2).2))) := rfl
  generalize hsg : (signedR (tx s)).1 = sg at *
  generalize hrs : (signedR (tx s)).2 = rs at *
  clear hsg hrs
  generalize hvr : versionR rs = vr at *
  clear hvr
  obtain ⟨⟨a, b, c⟩, ok⟩ := vr
  by_cases h42 : tx s = [42]
  · have HF : Hid (isCondR (tx s) = true) := by unfold Hid; rw [HF.out]; simp [h42]
    have hb := str_eq s _ h42
    clear h42
    go_enter Tryd.func63, Tryd.ntmps63
    go_wp2_with fail
    refine (HS.out _).mono ?_
    rintro e w1 ⟨rfl, hb1⟩
    go_wp2_with fail
    refine (HV.out _).mono ?_
    rintro e w2 ⟨rfl, hb2⟩
    have HB := hid (hb1.trans (hb2.mono hb1.size))
    have hz := HB.out.size
    clear hb1 hb2
    go_wp2
    go_ret
    exact ⟨ret_bool (by rw [HF.out]), HB.out.alloc hz _⟩
  · have hb := str_ne s _ h42
    by_cases hsg : sg = []
    · have HF : Hid (isCondR (tx s) = false) := by unfold Hid; rw [HF.out]; simp [h42, hsg]
      have he := empty_yes sg hsg
      clear h42 hsg
      generalize bs sg = q at *
      go_enter Tryd.func63, Tryd.ntmps63
      go_wp2_with fail
      refine (HS.out _).mono ?_
      rintro e w1 ⟨rfl, hb1⟩
      go_wp2_with fail
      refine (HV.out _).mono ?_
      rintro e w2 ⟨rfl, hb2⟩
      have HB := hid (hb1.trans (hb2.mono hb1.size))
      have hz := HB.out.size
      clear hb1 hb2
      go_wp2
      go_ret
      exact ⟨ret_bool (by rw [HF.out]), HB.out.alloc hz _⟩
    · have HF : Hid (isCondR (tx s) = ok) := by unfold Hid; rw [HF.out]; simp [h42, hsg]
      have he := empty_no sg hsg
      clear h42 hsg
      generalize bs sg = q at *
      go_enter Tryd.func63, Tryd.ntmps63
      go_wp2_with fail
      refine (HS.out _).mono ?_
      rintro e w1 ⟨rfl, hb1⟩
      go_wp2_with fail
      refine (HV.out _).mono ?_
      rintro e w2 ⟨rfl, hb2⟩
      have HB := hid (hb1.trans (hb2.mono hb1.size))
      have hz := HB.out.size
      clear hb1 hb2
      go_wp2
      go_ret
      exact ⟨ret_bool (by rw [HF.out]), HB.out.alloc hz _⟩

end Hst
end Go.Proofs.YtecocheolbkneaaDoor
namespace Go.Proofs.YtecocheolbkneaaDoor
open Go.RowKit
namespace Hst
set_option maxRecDepth 100000

theorem bse (l m : Tx) (h : l = m) : ((bs l).toList == m) = true := by rw [tx_toList, tx_bs, h]; simp
theorem bsn (l m : Tx) (h : l ≠ m) : ((bs l).toList == m) = false := by rw [tx_toList, tx_bs]; simp [h]

theorem eq3_t {a b c x y z : Int} (h1 : a = x) (h2 : b = y) (h3 : c = z) : eq3 ⟨a, b, c⟩ ⟨x, y, z⟩ = true := by simp [eq3, h1, h2, h3]
theorem eq3_f1 {a b c x y z : Int} (h1 : ¬ a = x) : eq3 ⟨a, b, c⟩ ⟨x, y, z⟩ = false := by simp [eq3, h1]
theorem eq3_f2 {a b c x y z : Int} (h1 : ¬ b = y) : eq3 ⟨a, b, c⟩ ⟨x, y, z⟩ = false := by simp [eq3, h1]
theorem eq3_f3 {a b c x y z : Int} (h1 : ¬ c = z) : eq3 ⟨a, b, c⟩ ⟨x, y, z⟩ = false := by simp [eq3, h1]
theorem hs_eq {a b c x y z : Int} : holdsS [61] ⟨x, y, z⟩ ⟨a, b, c⟩ = eq3 ⟨a, b, c⟩ ⟨x, y, z⟩ := by simp [holdsS]
theorem hs_gt {a b c x y z : Int} : holdsS [62] ⟨x, y, z⟩ ⟨a, b, c⟩ = (!belowB a b c x y z && !eq3 ⟨a, b, c⟩ ⟨x, y, z⟩) := by simp [holdsS]
theorem hs_ge {a b c x y z : Int} : holdsS [62, 61] ⟨x, y, z⟩ ⟨a, b, c⟩ = !belowB a b c x y z := by simp [holdsS]
theorem hs_lt {a b c x y z : Int} : holdsS [60] ⟨x, y, z⟩ ⟨a, b, c⟩ = belowB a b c x y z := by simp [holdsS]
theorem hs_le {a b c x y z : Int} : holdsS [60, 61] ⟨x, y, z⟩ ⟨a, b, c⟩ = (belowB a b c x y z || eq3 ⟨a, b, c⟩ ⟨x, y, z⟩) := by simp [holdsS]
theorem hs_ti {a b c x y z : Int} : holdsS [126] ⟨x, y, z⟩ ⟨a, b, c⟩ = (!belowB a b c x y z && decide (a = x) && decide (b = y)) := by simp [holdsS]
theorem hs_c1 {a b c x y z : Int} (h : ¬ x = 0) : holdsS [94] ⟨x, y, z⟩ ⟨a, b, c⟩ = (!belowB a b c x y z && decide (a = x)) := by simp [holdsS, h]
theorem hs_c2 {a b c x y z : Int} (h : x = 0) (h' : ¬ y = 0) : holdsS [94] ⟨x, y, z⟩ ⟨a, b, c⟩ = (!belowB a b c x y z && decide (a = 0) && decide (b = y)) := by simp [holdsS, h, h']
theorem hs_c3 {a b c x y z : Int} (h : x = 0) (h' : y = 0) : holdsS [94] ⟨x, y, z⟩ ⟨a, b, c⟩ = eq3 ⟨a, b, c⟩ ⟨x, y, z⟩ := by simp [holdsS, h, h']
theorem hs_no {sg : Tx} (k1 : ¬ sg = [61]) (k2 : ¬ sg = [62]) (k3 : ¬ sg = [62, 61]) (k4 : ¬ sg = [60]) (k5 : ¬ sg = [60, 61]) (k6 : ¬ sg = [126]) (k7 : ¬ sg = [94]) (w v : V3) : holdsS sg w v = true := by simp [holdsS, k1, k2, k3, k4, k5, k6, k7]

set_option maxHeartbeats 8000000 in
theorem holds_any (s : ByteArray) (a b c : Int) (w : World) :
    Calls Tryd.prog 67 #[.string s, verV a b c] w fun e w' => e = .returned (.bool (holdsR (tx s) ⟨a, b, c⟩)) ∧ Below w.heap.size w w' := by
  have HS := hid (fun w => signed_any s w)
  have HV := hid (fun w => version_any (bs (signedR (tx s)).2) w)
  rw [tx_bs] at HV
  have HF : Hid (holdsR (tx s) ⟨a, b, c⟩ = holdsS (signedR (tx s)).1 (versionR (signedR (tx s)).2).1 ⟨a, b, c⟩) := rfl
  generalize hsg : (signedR (tx s)).1 = sg at *
  generalize hrs : (signedR (tx s)).2 = rs at *
  clear hsg hrs
  generalize hvr : versionR rs = vr at *
  clear hvr
  obtain ⟨⟨x, y, z⟩, ok⟩ := vr
  go_enter Tryd.func67, Tryd.ntmps67
  go_wp2_with fail
  refine (HS.out _).mono ?_
  rintro e w1 ⟨rfl, hb1⟩
  go_wp2_with fail
  refine (HV.out _).mono ?_
  rintro e w2 ⟨rfl, hb2⟩
  have hb12 := hb1.trans (hb2.mono hb1.size)
  obtain ⟨hcc, hff⟩ := bcell hb12
  have hz := hb12.size
  simp at hcc hz
  have c0 := hcc w.heap.size 0 (by omega)
  have c1 := hcc w.heap.size 1 (by omega)
  have c2 := hcc w.heap.size 2 (by omega)
  simp at c0 c1 c2
  have hwz : w.heap.size < w2.heap.size := by omega
  have HB := hid (((Below.refl _ _).alloc (Nat.le_refl _) _).trans (hb12.mono (by simp)) : Below w.heap.size w w2)
  clear hb1 hb2 hcc hff hb12
  go_wp2_with fail
  refine (below_any _ _ _ _ _ _ _).mono ?_
  rintro e w3 ⟨rfl, hb3⟩
  obtain ⟨hcc, hff⟩ := bcell hb3
  have hz3 := hb3.size
  simp at hcc hz3
  have d0 := (hcc w.heap.size 0 (by omega)).trans ((World.cell?_alloc_past _ _ _ hwz).trans c0)
  have d1 := (hcc w.heap.size 1 (by omega)).trans ((World.cell?_alloc_past _ _ _ hwz).trans c1)
  have d2 := (hcc w.heap.size 2 (by omega)).trans ((World.cell?_alloc_past _ _ _ hwz).trans c2)
  have e0 := hcc w2.heap.size 0 (by omega)
  have e1 := hcc w2.heap.size 1 (by omega)
  have e2 := hcc w2.heap.size 2 (by omega)
  simp at e0 e1 e2
  have HB3 := hid ((HB.out.alloc (by omega) _).trans (hb3.mono (by simp; omega)) : Below w.heap.size w w3)
  generalize hlow : belowB a b c x y z = low at *
  have HLOW := hid hlow
  clear hb3 hcc hff c0 c1 c2 hlow
  by_cases k1 : sg = [61]
  · have q1 := bse sg _ k1
    have K := hid k1
    clear k1
    generalize bs sg = q at *
    by_cases pa : a = x
    · have bpa : (a == x) = true := by simp [pa]
      have Ppa := hid pa
      clear pa
      by_cases pb : b = y
      · have bpb : (b == y) = true := by simp [pb]
        have Ppb := hid pb
        clear pb
        by_cases pc : c = z
        · have bpc : (c == z) = true := by simp [pc]
          have Ppc := hid pc
          clear pc
          go_wp2
          go_ret
          exact ⟨ret_bool (by rw [HF.out, K.out, hs_eq, eq3_t Ppa.out Ppb.out Ppc.out] <;> rfl), HB3.out⟩
        · have bpc : (c == z) = false := by simp [pc]
          have Ppc := hid pc
          clear pc
          go_wp2
          go_ret
          exact ⟨ret_bool (by rw [HF.out, K.out, hs_eq, eq3_f3 Ppc.out] <;> rfl), HB3.out⟩
      · have bpb : (b == y) = false := by simp [pb]
        have Ppb := hid pb
        clear pb
        go_wp2
        go_ret
        exact ⟨ret_bool (by rw [HF.out, K.out, hs_eq, eq3_f2 Ppb.out] <;> rfl), HB3.out⟩
    · have bpa : (a == x) = false := by simp [pa]
      have Ppa := hid pa
      clear pa
      go_wp2
      go_ret
      exact ⟨ret_bool (by rw [HF.out, K.out, hs_eq, eq3_f1 Ppa.out] <;> rfl), HB3.out⟩
  have q1 := bsn sg _ k1
  by_cases k2 : sg = [62]
  · have q2 := bse sg _ k2
    have K := hid k2
    clear k1 k2
    generalize bs sg = q at *
    cases low
    · skip
      by_cases pa : a = x
      · have bpa : (a == x) = true := by simp [pa]
        have Ppa := hid pa
        clear pa
        by_cases pb : b = y
        · have bpb : (b == y) = true := by simp [pb]
          have Ppb := hid pb
          clear pb
          by_cases pc : c = z
          · have bpc : (c == z) = true := by simp [pc]
            have Ppc := hid pc
            clear pc
            go_wp2
            go_ret
            exact ⟨ret_bool (by rw [HF.out, K.out, hs_gt, HLOW.out, eq3_t Ppa.out Ppb.out Ppc.out] <;> rfl), HB3.out⟩
          · have bpc : (c == z) = false := by simp [pc]
            have Ppc := hid pc
            clear pc
            go_wp2
            go_ret
            exact ⟨ret_bool (by rw [HF.out, K.out, hs_gt, HLOW.out, eq3_f3 Ppc.out] <;> rfl), HB3.out⟩
        · have bpb : (b == y) = false := by simp [pb]
          have Ppb := hid pb
          clear pb
          go_wp2
          go_ret
          exact ⟨ret_bool (by rw [HF.out, K.out, hs_gt, HLOW.out, eq3_f2 Ppb.out] <;> rfl), HB3.out⟩
      · have bpa : (a == x) = false := by simp [pa]
        have Ppa := hid pa
        clear pa
        go_wp2
        go_ret
        exact ⟨ret_bool (by rw [HF.out, K.out, hs_gt, HLOW.out, eq3_f1 Ppa.out] <;> rfl), HB3.out⟩
    · skip
      go_wp2
      go_ret
      exact ⟨ret_bool (by rw [HF.out, K.out, hs_gt, HLOW.out] <;> rfl), HB3.out⟩
  have q2 := bsn sg _ k2
  by_cases k3 : sg = [62, 61]
  · have q3 := bse sg _ k3
    have K := hid k3
    clear k1 k2 k3
    generalize bs sg = q at *
    go_wp2
    go_ret
    exact ⟨ret_bool (by rw [HF.out, K.out, hs_ge, HLOW.out] <;> rfl), HB3.out⟩
  have q3 := bsn sg _ k3
  by_cases k4 : sg = [60]
  · have q4 := bse sg _ k4
    have K := hid k4
    clear k1 k2 k3 k4
    generalize bs sg = q at *
    go_wp2
    go_ret
    exact ⟨ret_bool (by rw [HF.out, K.out, hs_lt, HLOW.out] <;> rfl), HB3.out⟩
  have q4 := bsn sg _ k4
  by_cases k5 : sg = [60, 61]
  · have q5 := bse sg _ k5
    have K := hid k5
    clear k1 k2 k3 k4 k5
    generalize bs sg = q at *
    cases low
    · skip
      by_cases pa : a = x
      · have bpa : (a == x) = true := by simp [pa]
        have Ppa := hid pa
        clear pa
        by_cases pb : b = y
        · have bpb : (b == y) = true := by simp [pb]
          have Ppb := hid pb
          clear pb
          by_cases pc : c = z
          · have bpc : (c == z) = true := by simp [pc]
            have Ppc := hid pc
            clear pc
            go_wp2
            go_ret
            exact ⟨ret_bool (by rw [HF.out, K.out, hs_le, HLOW.out, eq3_t Ppa.out Ppb.out Ppc.out] <;> rfl), HB3.out⟩
          · have bpc : (c == z) = false := by simp [pc]
            have Ppc := hid pc
            clear pc
            go_wp2
            go_ret
            exact ⟨ret_bool (by rw [HF.out, K.out, hs_le, HLOW.out, eq3_f3 Ppc.out] <;> rfl), HB3.out⟩
        · have bpb : (b == y) = false := by simp [pb]
          have Ppb := hid pb
          clear pb
          go_wp2
          go_ret
          exact ⟨ret_bool (by rw [HF.out, K.out, hs_le, HLOW.out, eq3_f2 Ppb.out] <;> rfl), HB3.out⟩
      · have bpa : (a == x) = false := by simp [pa]
        have Ppa := hid pa
        clear pa
        go_wp2
        go_ret
        exact ⟨ret_bool (by rw [HF.out, K.out, hs_le, HLOW.out, eq3_f1 Ppa.out] <;> rfl), HB3.out⟩
    · skip
      go_wp2
      go_ret
      exact ⟨ret_bool (by rw [HF.out, K.out, hs_le, HLOW.out] <;> rfl), HB3.out⟩
  have q5 := bsn sg _ k5
  by_cases k6 : sg = [126]
  · have q6 := bse sg _ k6
    have K := hid k6
    clear k1 k2 k3 k4 k5 k6
    generalize bs sg = q at *
    cases low
    · skip
      by_cases pa : a = x
      · have bpa : (a == x) = true := by simp [pa]
        have Ppa := hid pa
        clear pa
        by_cases pb : b = y
        · have bpb : (b == y) = true := by simp [pb]
          have Ppb := hid pb
          clear pb
          go_wp2
          go_ret
          exact ⟨ret_bool (by rw [HF.out, K.out, hs_ti, HLOW.out, decide_eq_true Ppa.out, decide_eq_true Ppb.out] <;> rfl), HB3.out⟩
        · have bpb : (b == y) = false := by simp [pb]
          have Ppb := hid pb
          clear pb
          go_wp2
          go_ret
          exact ⟨ret_bool (by rw [HF.out, K.out, hs_ti, HLOW.out, decide_eq_true Ppa.out, decide_eq_false Ppb.out] <;> rfl), HB3.out⟩
      · have bpa : (a == x) = false := by simp [pa]
        have Ppa := hid pa
        clear pa
        go_wp2
        go_ret
        exact ⟨ret_bool (by rw [HF.out, K.out, hs_ti, HLOW.out, decide_eq_false Ppa.out] <;> rfl), HB3.out⟩
    · skip
      go_wp2
      go_ret
      exact ⟨ret_bool (by rw [HF.out, K.out, hs_ti, HLOW.out] <;> rfl), HB3.out⟩
  have q6 := bsn sg _ k6
  by_cases k7 : sg = [94]
  · have q7 := bse sg _ k7
    have K := hid k7
    clear k1 k2 k3 k4 k5 k6 k7
    generalize bs sg = q at *
    by_cases px : x = 0
    · have bpx : (x != 0) = false := by simp [px]
      have Ppx := hid px
      clear px
      by_cases py : y = 0
      · have bpy : (y != 0) = false := by simp [py]
        have Ppy := hid py
        clear py
        by_cases pa : a = x
        · have bpa : (a == x) = true := by simp [pa]
          have Ppa := hid pa
          clear pa
          by_cases pb : b = y
          · have bpb : (b == y) = true := by simp [pb]
            have Ppb := hid pb
            clear pb
            by_cases pc : c = z
            · have bpc : (c == z) = true := by simp [pc]
              have Ppc := hid pc
              clear pc
              go_wp2
              go_ret
              exact ⟨ret_bool (by rw [HF.out, K.out, hs_c3 Ppx.out Ppy.out, eq3_t Ppa.out Ppb.out Ppc.out] <;> rfl), HB3.out⟩
            · have bpc : (c == z) = false := by simp [pc]
              have Ppc := hid pc
              clear pc
              go_wp2
              go_ret
              exact ⟨ret_bool (by rw [HF.out, K.out, hs_c3 Ppx.out Ppy.out, eq3_f3 Ppc.out] <;> rfl), HB3.out⟩
          · have bpb : (b == y) = false := by simp [pb]
            have Ppb := hid pb
            clear pb
            go_wp2
            go_ret
            exact ⟨ret_bool (by rw [HF.out, K.out, hs_c3 Ppx.out Ppy.out, eq3_f2 Ppb.out] <;> rfl), HB3.out⟩
        · have bpa : (a == x) = false := by simp [pa]
          have Ppa := hid pa
          clear pa
          go_wp2
          go_ret
          exact ⟨ret_bool (by rw [HF.out, K.out, hs_c3 Ppx.out Ppy.out, eq3_f1 Ppa.out] <;> rfl), HB3.out⟩
      · have bpy : (y != 0) = true := by simp [py]
        have Ppy := hid py
        clear py
        cases low
        · skip
          by_cases pa : a = 0
          · have bpa : (a == 0) = true := by simp [pa]
            have Ppa := hid pa
            clear pa
            by_cases pb : b = y
            · have bpb : (b == y) = true := by simp [pb]
              have Ppb := hid pb
              clear pb
              go_wp2
              go_ret
              exact ⟨ret_bool (by rw [HF.out, K.out, hs_c2 Ppx.out Ppy.out, HLOW.out, decide_eq_true Ppa.out, decide_eq_true Ppb.out] <;> rfl), HB3.out⟩
            · have bpb : (b == y) = false := by simp [pb]
              have Ppb := hid pb
              clear pb
              go_wp2
              go_ret
              exact ⟨ret_bool (by rw [HF.out, K.out, hs_c2 Ppx.out Ppy.out, HLOW.out, decide_eq_true Ppa.out, decide_eq_false Ppb.out] <;> rfl), HB3.out⟩
          · have bpa : (a == 0) = false := by simp [pa]
            have Ppa := hid pa
            clear pa
            go_wp2
            go_ret
            exact ⟨ret_bool (by rw [HF.out, K.out, hs_c2 Ppx.out Ppy.out, HLOW.out, decide_eq_false Ppa.out] <;> rfl), HB3.out⟩
        · skip
          go_wp2
          go_ret
          exact ⟨ret_bool (by rw [HF.out, K.out, hs_c2 Ppx.out Ppy.out, HLOW.out] <;> rfl), HB3.out⟩
    · have bpx : (x != 0) = true := by simp [px]
      have Ppx := hid px
      clear px
      cases low
      · skip
        by_cases pa : a = x
        · have bpa : (a == x) = true := by simp [pa]
          have Ppa := hid pa
          clear pa
          go_wp2
          go_ret
          exact ⟨ret_bool (by rw [HF.out, K.out, hs_c1 Ppx.out, HLOW.out, decide_eq_true Ppa.out] <;> rfl), HB3.out⟩
        · have bpa : (a == x) = false := by simp [pa]
          have Ppa := hid pa
          clear pa
          go_wp2
          go_ret
          exact ⟨ret_bool (by rw [HF.out, K.out, hs_c1 Ppx.out, HLOW.out, decide_eq_false Ppa.out] <;> rfl), HB3.out⟩
      · skip
        go_wp2
        go_ret
        exact ⟨ret_bool (by rw [HF.out, K.out, hs_c1 Ppx.out, HLOW.out] <;> rfl), HB3.out⟩
  have q7 := bsn sg _ k7
  have K := hid (hs_no k1 k2 k3 k4 k5 k6 k7 ⟨x, y, z⟩ ⟨a, b, c⟩)
  clear k1 k2 k3 k4 k5 k6 k7
  generalize bs sg = q at *
  go_wp2
  go_ret
  exact ⟨ret_bool (by rw [HF.out, K.out]), HB3.out⟩

end Hst
end Go.Proofs.YtecocheolbkneaaDoor
namespace Go.Proofs.YtecocheolbkneaaDoor
open Go.RowKit
namespace Hst
set_option maxRecDepth 100000

theorem al_yes (f : Tx → Bool) (d : List Tx) (k : Nat) (hk : k < d.length) (h : f d[k] = true) : (d.drop k).all f = (d.drop (k + 1)).all f := by
  rw [List.drop_eq_getElem_cons hk, List.all_cons, h, Bool.true_and]
theorem al_no (f : Tx → Bool) (d : List Tx) (k : Nat) (hk : k < d.length) (h : f d[k] = false) : (d.drop k).all f = false := by
  rw [List.drop_eq_getElem_cons hk, List.all_cons, h, Bool.false_and]
theorem al_end (f : Tx → Bool) (d : List Tx) (k : Nat) (hk : ¬ k < d.length) : (d.drop k).all f = true := by
  rw [List.drop_of_length_le (by omega)]; rfl
theorem piece_mem {n : Int} {s : ByteArray} {b : Nat} (hs : s.size ≤ b) : ∀ (j : Nat) (hj : j < (splitL n (tx s)).length), (bs (splitL n (tx s))[j]).size ≤ b := fun j hj => by
  have := piece_size n s j hj; omega

theorem isRangeR_long (s : ByteArray) (h : ¬ s.size ≤ 60) : isRangeR (tx s) = false := by
  unfold isRangeR; rw [tx_length]; simp; intro h'; omega
theorem isRangeR_short (s : ByteArray) (h : s.size ≤ 60) : isRangeR (tx s) = (splitL 124 (tx s)).all isAltR := by
  unfold isRangeR; rw [tx_length]; simp [h]

set_option maxHeartbeats 2000000 in
theorem isRange_any (s : ByteArray) (w : World) :
    Calls Tryd.prog 34 #[.string s] w fun e w' => e = .returned (.bool (isRangeR (tx s))) ∧ Below w.heap.size w w' := by
  by_cases h60 : s.size ≤ 60
  · have HP := hid (isRangeR_short s h60)
    go_enter Tryd.func34, Tryd.ntmps34
    go_wp2_with fail
    refine (rsplit_any s 124 _ (by omega)).mono ?_
    rintro e w1 ⟨v, rfl, hrow, hb1⟩
    obtain ⟨g, cap, rfl, hg1, hg2, hcell⟩ := hrow.form (splitL_ne _ _)
    have HS := hid (piece_mem (n := 124) h60)
    have hlen := splitL_len 124 (tx s)
    rw [tx_length] at hlen
    generalize splitL 124 (tx s) = d at *
    have HC := hid hcell
    clear hcell hrow
    go_wp2
    go_loopw [4] (fun i wr => ∃ (k : Nat), k ≤ d.length ∧ i = .int .i64 k ∧ Below w1.heap.size w1 wr ∧ Hid (isRangeR (tx s) = (d.drop k).all isAltR)) (fun i _ => d.length - (intOf i).toNat)
    case atStart => exact ⟨0, by omega, rfl, Below.refl _ _, by unfold Hid; rw [HP.out]; rfl⟩
    case round =>
      obtain ⟨k, hk, rfl, hbel, hall⟩ := hrel
      clear HP
      have hz := hbel.size
      have hz1 := hb1.size
      by_cases hlt : k < d.length
      · have hc := (hbel.cell (p := ⟨g, k, none⟩) hg2).trans (HC.out k hlt)
        have hps := HS.out k hlt
        have HA : Hid (isAltR d[k] = (splitL 38 (tx (bs d[k]))).all isCondR) := by unfold Hid; rw [tx_bs]; rfl
        have HY := hid (al_yes isAltR d k hlt)
        have HN := hid (al_no isAltR d k hlt)
        generalize isAltR d[k] = alt at *
        generalize bs d[k] = q at *
        go_wp2_with fail
        refine (rsplit_any q 38 _ (by omega)).mono ?_
        rintro e w2 ⟨v, rfl, hrow, hb2⟩
        obtain ⟨g2, cap2, rfl, hg3, hg4, hcell2⟩ := hrow.form (splitL_ne _ _)
        have HS2 := hid (piece_mem (n := 38) hps)
        have hlen2 := splitL_len 38 (tx q)
        rw [tx_length] at hlen2
        generalize splitL 38 (tx q) = m at *
        have HC2 := hid hcell2
        clear hcell2 hrow hc
        go_wp2
        go_loopw [6] (fun i wq => ∃ (j : Nat), j ≤ m.length ∧ i = .int .i64 j ∧ Below w2.heap.size w2 wq ∧ Hid (alt = (m.drop j).all isCondR)) (fun i _ => m.length - (intOf i).toNat)
        case atStart => exact ⟨0, by omega, rfl, Below.refl _ _, by unfold Hid; rw [HA.out]; rfl⟩
        case round =>
          obtain ⟨j, hj, rfl, hbel2, hall2⟩ := hrel
          clear HA
          have hz2 := hbel2.size
          have hz3 := hb2.size
          have HB := hid ((hbel.trans (hb2.mono hz)).trans (hbel2.mono (by omega)))
          have HBw := hid (hb1.trans (HB.out.mono hz1))
          by_cases hjl : j < m.length
          · have hc2 := (hbel2.cell (p := ⟨g2, j, none⟩) hg4).trans (HC2.out j hjl)
            have HH := hid (fun w => isCond_any (bs m[j]) w)
            rw [tx_bs] at HH
            have HY2 := hid (al_yes isCondR m j hjl)
            have HN2 := hid (al_no isCondR m j hjl)
            generalize isCondR m[j] = cnd at *
            generalize bs m[j] = q2 at *
            cases cnd
            · have HF : Hid (isRangeR (tx s) = false) := by unfold Hid; rw [hall.out, HN.out (by rw [hall2.out, HN2.out rfl])]
              go_wp2_with fail
              refine (HH.out _).mono ?_
              rintro e w3 ⟨rfl, hb3⟩
              have HB3 := hid (HBw.out.trans (hb3.mono (by omega)))
              clear hb3
              go_wp2
              go_ret
              exact ⟨ret_bool (by rw [HF.out]), HB3.out⟩
            · have HF : Hid (alt = (m.drop (j + 1)).all isCondR) := by unfold Hid; rw [hall2.out, HY2.out rfl]
              go_wp2_with fail
              refine (HH.out _).mono ?_
              rintro e w3 ⟨rfl, hb3⟩
              have HB3 := hid (hbel2.trans (hb3.mono hz2))
              clear hb3
              go_wp2
              go_roundw
              case rel => exact ⟨j + 1, by omega, by go_num, HB3.out, HF⟩
              case measure => simp [intOf]; omega
          · have HF : Hid (isRangeR (tx s) = (d.drop (k + 1)).all isAltR) := by unfold Hid; rw [hall.out, HY.out (by rw [hall2.out, al_end isCondR m j hjl])]
            clear hall
            go_wp2
            go_roundw
            case rel => exact ⟨k + 1, by omega, by go_num, HB.out, HF⟩
            case measure => simp [intOf]; omega
      · have HF : Hid (isRangeR (tx s) = true) := by unfold Hid; rw [hall.out, al_end isAltR d k hlt]
        have HB := hid (hb1.trans (hbel.mono hz1))
        go_wp2
        go_ret
        exact ⟨ret_bool (by rw [HF.out]), HB.out⟩
  · have HF := hid (isRangeR_long s h60)
    go_enter Tryd.func34, Tryd.ntmps34
    go_wp2
    go_ret
    exact ⟨ret_bool (by rw [HF.out]), Below.refl _ _⟩

end Hst
end Go.Proofs.YtecocheolbkneaaDoor
