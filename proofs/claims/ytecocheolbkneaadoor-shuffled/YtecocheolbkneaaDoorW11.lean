/- Pneedc, Rcond, Holds, Rrange, Name -/
import Derived.Test.YtecocheolbkneaaDoorW10
import Derived.Test.YtecocheolbkneaaDoorW04
import Derived.Deep.RegionHeld3
import Derived.Deep.QuietTactic
import Derived.Test.YtecocheolbkneaaDoorW02
import Derived.Test.YtecocheolbkneaaDoorW01
import Derived.Deep.DrawnRows
namespace Go.Proofs.YtecocheolbkneaaDoor
open Go.RowKit
namespace Hst
set_option maxRecDepth 100000

theorem hn_yes (l : List NeedX) (p : Tx) (k : Nat) (hk : k < l.length) (h : l[k].name = p) : hasN (l.drop k) p = true := by
  rw [List.drop_eq_getElem_cons hk]; unfold hasN; rw [List.any_cons]; simp [h]
theorem hn_no (l : List NeedX) (p : Tx) (k : Nat) (hk : k < l.length) (h : ¬ l[k].name = p) : hasN (l.drop k) p = hasN (l.drop (k + 1)) p := by
  rw [List.drop_eq_getElem_cons hk]; unfold hasN; rw [List.any_cons]; simp [h]
theorem hn_end (l : List NeedX) (p : Tx) (k : Nat) (hk : ¬ k < l.length) : hasN (l.drop k) p = false := by
  rw [List.drop_of_length_le (by omega)]; rfl

/-- Whether two neighbours from place k on have one name (k ahead of them all). -/
theorem tw_yes (l : List NeedX) (k : Nat) (hk : k + 1 < l.length) (h : l[k].name = l[k + 1].name) : twiceX (l.drop k) = true := by
  rw [List.drop_eq_getElem_cons (by omega), List.drop_eq_getElem_cons hk]; simp [twiceX, h]
theorem tw_no (l : List NeedX) (k : Nat) (hk : k + 1 < l.length) (h : ¬ l[k].name = l[k + 1].name) : twiceX (l.drop k) = twiceX (l.drop (k + 1)) := by
  rw [List.drop_eq_getElem_cons (by omega), List.drop_eq_getElem_cons hk]; simp [twiceX, h]
theorem tw_end (l : List NeedX) (k : Nat) (hk : ¬ k + 1 < l.length) : twiceX (l.drop k) = false := by
  have h : (l.drop k).length ≤ 1 := by simp; omega
  rcases hd : l.drop k with _ | ⟨x, _ | ⟨y, r⟩⟩
  · rfl
  · rfl
  · rw [hd] at h; simp at h

attribute [local go_sem ↓] Go.wp_at_zero Go.wp_at_succ

set_option maxHeartbeats 2000000 in
theorem twiceX_any (v : Value) (l : List NeedX) (w : World) (hl : NeedsIn w v l) (hn : l.length ≤ 100000) :
    Calls Tryd.prog 99 #[v] w fun e w' => e = .returned (.bool (twiceX l)) ∧ Below w.heap.size w w' := by
  obtain ⟨a, cap, rfl⟩ := hl.1.form
  have HL := hid' hl
  clear hl
  go_enter Tryd.func99, Tryd.ntmps99
  go_wp2
  go_loopw [3] (fun i wr => ∃ k : Nat, k ≤ l.length ∧ i = .int .i64 ((k : Int) + 1) ∧ Below w.heap.size w wr ∧ Hid (twiceX l = twiceX (l.drop k))) (fun i _ => l.length + 1 - (intOf i).toNat)
  case atStart => exact ⟨0, Nat.zero_le _, rfl, Below.refl _ _, rfl⟩
  case round =>
    obtain ⟨k, hk, rfl, hbel, hall⟩ := hrel
    have hz := hbel.size
    by_cases hlt : k + 1 < l.length
    · obtain ⟨g, o, cap', hv, hg, hc⟩ := (HL.out.below hbel).1.needs (show k < l.length by omega)
      simp at hv
      obtain ⟨rfl, rfl⟩ := hv
      have c0 := (hc k (by omega)).1
      have c1 := (hc (k + 1) hlt).1
      clear hc
      have i0 : (0 : Int) ≤ (k : Int) + 1 := by omega
      have i1 : (k : Int) + 1 < (l.length : Int) := by omega
      have i2 : IntKind.i64.wrap ((k : Int) + 1 - 1) = (k : Int) := by rw [IntKind.wrap_i64]; omega
      have i6 : IntKind.i64.wrap (k : Int) = (k : Int) := by rw [IntKind.wrap_i64]; omega
      have i5 : ((k : Int) + 1).toNat = k + 1 := by omega
      have i3 : (0 : Int) ≤ (k : Int) := by omega
      have i4 : (k : Int) < (l.length : Int) := by omega
      by_cases he : l[k].name = l[k + 1].name
      · have HF : Hid (twiceX l = true) := by unfold Hid; rw [hall.out, tw_yes l k hlt he]
        have hb : ((bs l[k].name).toList == (bs l[k + 1].name).toList) = true := by rw [he]; simp
        clear he hall
        generalize bs l[k].name = q at *
        generalize bs l[k + 1].name = r at *
        go_wp2
        go_region_held3 (fun w' => w'.cell? ⟨g, o + k * 3, none⟩ = some (.string q) ∧ w'.cell? ⟨g, o + (k + 1) * 3, none⟩ = some (.string r)) (go_keep) (fail)
        go_wp2
        go_ret
        exact ⟨ret_bool (by rw [HF.out]), hbel.drew⟩
      · have HF : Hid (twiceX l = twiceX (l.drop (k + 1))) := by unfold Hid; rw [hall.out, tw_no l k hlt he]
        have hb : ((bs l[k].name).toList == (bs l[k + 1].name).toList) = false := by rw [tx_toList, tx_toList, tx_bs, tx_bs]; simp [he]
        clear he hall
        generalize bs l[k].name = q at *
        generalize bs l[k + 1].name = r at *
        go_wp2
        go_region_held3 (fun w' => w'.cell? ⟨g, o + k * 3, none⟩ = some (.string q) ∧ w'.cell? ⟨g, o + (k + 1) * 3, none⟩ = some (.string r)) (go_keep) (fail)
        go_wp2
        go_roundw
        case rel => exact ⟨k + 1, by omega, by go_num, hbel.drew, HF⟩
        case measure => simp [intOf] <;> omega
    · have HF : Hid (twiceX l = false) := by unfold Hid; rw [hall.out, tw_end l k hlt]
      go_wp2
      go_ret
      exact ⟨ret_bool (by rw [HF.out]), hbel⟩

/-! ### Join -/
theorem jg_first (sep : Tx) (l : List Tx) (hk : 0 < l.length) : joinGo sep true (l.drop 0) = l[0] ++ joinGo sep false (l.drop 1) := by
  rw [List.drop_eq_getElem_cons hk]; simp [joinGo]
theorem jg_next (sep : Tx) (l : List Tx) (k : Nat) (hk : k < l.length) : joinGo sep false (l.drop k) = sep ++ l[k] ++ joinGo sep false (l.drop (k + 1)) := by
  rw [List.drop_eq_getElem_cons hk]; simp [joinGo]
theorem jg_end (sep : Tx) (l : List Tx) (k : Nat) (hk : ¬ k < l.length) (b : Bool) : joinGo sep b (l.drop k) = [] := by
  rw [List.drop_of_length_le (by omega)]; rfl
theorem dz (k : Nat) : decide (k + 1 = 0) = false := by simp
/-- How long a row of texts is at the most. -/
def lens (l : List Tx) : Nat := (l.map List.length).sum

set_option maxHeartbeats 2000000 in
theorem join_all (v : Value) (l : List Tx) (p : ByteArray) (w : World) (hl : RowX strC 1 9 w v l) (hn : l.length ≤ 1000) (hp : p.size ≤ 1000) (hs : ∀ x ∈ l, x.length ≤ 1000) :
    Calls Tryd.prog 81 #[v, .string p] w fun e w' => e = .returned (.string (bs (joinT (tx p) l))) ∧ Below w.heap.size w w' := by
  obtain ⟨a, cap, rfl⟩ := hl.form
  have HL := hid' hl
  have HS := hid' hs
  clear hl hs
  go_enter Tryd.func81, Tryd.ntmps81
  go_wp2
  go_loopw [5, 10] (fun t i wr => ∃ (k : Nat) (acc : Tx), k ≤ l.length ∧ acc.length ≤ 2000 * k ∧ i = .int .i64 k ∧ t = .string (bs acc) ∧ Below w.heap.size w wr ∧ Hid (joinT (tx p) l = acc ++ joinGo (tx p) (decide (k = 0)) (l.drop k))) (fun _ i _ => l.length - (intOf i).toNat)
  case atStart => exact ⟨0, [], Nat.zero_le _, by simp, rfl, rfl, Below.refl _ _, rfl⟩
  case round =>
    obtain ⟨k, acc, hk, hacc, rfl, rfl, hbel, hall⟩ := hrel
    have hz := hbel.size
    by_cases hlt : k < l.length
    · obtain ⟨g, o, cap', hv, hg, hc⟩ := (HL.out.below hbel).cells strC_len hlt
      simp at hv
      obtain ⟨rfl, rfl⟩ := hv
      have c0 := hc k hlt 0 (by omega)
      simp [strC] at c0
      have hx := HS.out l[k] (List.getElem_mem hlt)
      have ha : (bs acc).size ≤ 2000 * k := by rw [bs_size]; exact hacc
      have hq : (bs l[k]).size ≤ 1000 := by rw [bs_size]; exact hx
      clear hc
      by_cases h0 : k = 0
      · subst h0
        have HF : Hid (joinT (tx p) l = (acc ++ l[0]) ++ joinGo (tx p) false (l.drop (0 + 1))) := by
          unfold Hid; rw [hall.out]; simp only [decide_true]; rw [jg_first (tx p) l hlt]; simp
        clear hall
        have HA : Hid (bs acc ++ bs l[0] = bs (acc ++ l[0])) := bs_append _ _
        have hal : (acc ++ l[0]).length ≤ 2000 * (0 + 1) := by simp; omega
        generalize acc ++ l[0] = nx at *
        generalize bs l[0] = q at *
        generalize bs acc = q' at *
        simp at c0
        go_wp2
        go_roundw
        case rel => exact ⟨0 + 1, nx, by omega, hal, by go_num, by rw [HA.out], hbel, by rw [dz]; exact HF⟩
        case measure => simp [intOf] <;> omega
      · have HF : Hid (joinT (tx p) l = (acc ++ tx p ++ l[k]) ++ joinGo (tx p) false (l.drop (k + 1))) := by
          unfold Hid; rw [hall.out]; have e : decide (k = 0) = false := by simp [h0]
          rw [e, jg_next (tx p) l k hlt]; simp
        clear hall
        have HA : Hid (bs acc ++ p ++ bs l[k] = bs (acc ++ tx p ++ l[k])) := by unfold Hid; rw [← bs_append, ← bs_append, bs_tx]
        have hal : (acc ++ tx p ++ l[k]).length ≤ 2000 * (k + 1) := by simp [tx_length]; omega
        generalize acc ++ tx p ++ l[k] = nx at *
        generalize bs l[k] = q at *
        generalize bs acc = q' at *
        have hb3 : 0 < k := by omega
        go_wp2
        go_roundw
        case rel => exact ⟨k + 1, nx, by omega, hal, by go_num, by rw [HA.out], hbel, by rw [dz]; exact HF⟩
        case measure => simp [intOf] <;> omega
    · have HF : Hid (joinT (tx p) l = acc) := by unfold Hid; rw [hall.out, jg_end (tx p) l k hlt]; simp
      go_wp2
      go_ret
      exact ⟨ret_str (by rw [HF.out]), hbel⟩

end Hst
end Go.Proofs.YtecocheolbkneaaDoor
namespace Go.Proofs.YtecocheolbkneaaDoor
open Go.RowKit
namespace Hst
set_option maxRecDepth 100000

theorem empty_yes (l : Tx) (h : l = []) : (bs l).toList.isEmpty = true := by rw [tx_toList, tx_bs, h]; rfl
theorem empty_no (l : Tx) (h : l ≠ []) : (bs l).toList.isEmpty = false := by rw [tx_toList, tx_bs]; simp [h]

set_option maxHeartbeats 1000000 in
theorem isCond_any (s : ByteArray) (w : World) :
    Calls Tryd.prog 63 #[.string s] w fun e w' => e = .returned (.bool (isCondR (tx s))) ∧ Below w.heap.size w w' := by
  have HS := hid (fun w => signed_any s w)
  have HV := hid (fun w => version_any (bs (signedR (tx s)).2) w)
  rw [tx_bs] at HV
  have HF : Hid (isCondR (tx s) = (decide (tx s = [42]) || (!(signedR (tx s)).1.isEmpty && (versionR (signedR (tx s)).2).2))) := rfl
  generalize hsg : (signedR (tx s)).1 = sg at *
  generalize hrs : (signedR (tx s)).2 = rs at *
  clear hsg hrs
  generalize hvr : versionR rs = vr at *
  clear hvr
  obtain ⟨⟨a, b, c⟩, ok⟩ := vr
  by_cases h42 : tx s = [42]
  · have HF : Hid (isCondR (tx s) = true) := by unfold Hid; rw [HF.out]; simp [h42]
    have hb := str_eq s _ h42
    clear h42
    go_enter Tryd.func63, Tryd.ntmps63
    go_wp2_with fail
    refine (HS.out _).mono ?_
    rintro e w1 ⟨rfl, hb1⟩
    go_wp2_with fail
    refine (HV.out _).mono ?_
    rintro e w2 ⟨rfl, hb2⟩
    have HB := hid (hb1.trans (hb2.mono hb1.size))
    have hz := HB.out.size
    clear hb1 hb2
    go_wp2
    go_ret
    exact ⟨ret_bool (by rw [HF.out]), HB.out.alloc hz _⟩
  · have hb := str_ne s _ h42
    by_cases hsg : sg = []
    · have HF : Hid (isCondR (tx s) = false) := by unfold Hid; rw [HF.out]; simp [h42, hsg]
      have he := empty_yes sg hsg
      clear h42 hsg
      generalize bs sg = q at *
      go_enter Tryd.func63, Tryd.ntmps63
      go_wp2_with fail
      refine (HS.out _).mono ?_
      rintro e w1 ⟨rfl, hb1⟩
      go_wp2_with fail
      refine (HV.out _).mono ?_
      rintro e w2 ⟨rfl, hb2⟩
      have HB := hid (hb1.trans (hb2.mono hb1.size))
      have hz := HB.out.size
      clear hb1 hb2
      go_wp2
      go_ret
      exact ⟨ret_bool (by rw [HF.out]), HB.out.alloc hz _⟩
    · have HF : Hid (isCondR (tx s) = ok) := by unfold Hid; rw [HF.out]; simp [h42, hsg]
      have he := empty_no sg hsg
      clear h42 hsg
      generalize bs sg = q at *
      go_enter Tryd.func63, Tryd.ntmps63
      go_wp2_with fail
      refine (HS.out _).mono ?_
      rintro e w1 ⟨rfl, hb1⟩
      go_wp2_with fail
      refine (HV.out _).mono ?_
      rintro e w2 ⟨rfl, hb2⟩
      have HB := hid (hb1.trans (hb2.mono hb1.size))
      have hz := HB.out.size
      clear hb1 hb2
      go_wp2
      go_ret
      exact ⟨ret_bool (by rw [HF.out]), HB.out.alloc hz _⟩

end Hst
end Go.Proofs.YtecocheolbkneaaDoor
namespace Go.Proofs.YtecocheolbkneaaDoor
open Go.RowKit
namespace Hst
set_option maxRecDepth 100000

theorem bse (l m : Tx) (h : l = m) : ((bs l).toList == m) = true := by rw [tx_toList, tx_bs, h]; simp
theorem bsn (l m : Tx) (h : l ≠ m) : ((bs l).toList == m) = false := by rw [tx_toList, tx_bs]; simp [h]

theorem eq3_t {a b c x y z : Int} (h1 : a = x) (h2 : b = y) (h3 : c = z) : eq3 ⟨a, b, c⟩ ⟨x, y, z⟩ = true := by simp [eq3, h1, h2, h3]
theorem eq3_f1 {a b c x y z : Int} (h1 : ¬ a = x) : eq3 ⟨a, b, c⟩ ⟨x, y, z⟩ = false := by simp [eq3, h1]
theorem eq3_f2 {a b c x y z : Int} (h1 : ¬ b = y) : eq3 ⟨a, b, c⟩ ⟨x, y, z⟩ = false := by simp [eq3, h1]
theorem eq3_f3 {a b c x y z : Int} (h1 : ¬ c = z) : eq3 ⟨a, b, c⟩ ⟨x, y, z⟩ = false := by simp [eq3, h1]
theorem hs_eq {a b c x y z : Int} : holdsS [61] ⟨x, y, z⟩ ⟨a, b, c⟩ = eq3 ⟨a, b, c⟩ ⟨x, y, z⟩ := by simp [holdsS]
theorem hs_gt {a b c x y z : Int} : holdsS [62] ⟨x, y, z⟩ ⟨a, b, c⟩ = (!belowB a b c x y z && !eq3 ⟨a, b, c⟩ ⟨x, y, z⟩) := by simp [holdsS]
theorem hs_ge {a b c x y z : Int} : holdsS [62, 61] ⟨x, y, z⟩ ⟨a, b, c⟩ = !belowB a b c x y z := by simp [holdsS]
theorem hs_lt {a b c x y z : Int} : holdsS [60] ⟨x, y, z⟩ ⟨a, b, c⟩ = belowB a b c x y z := by simp [holdsS]
theorem hs_le {a b c x y z : Int} : holdsS [60, 61] ⟨x, y, z⟩ ⟨a, b, c⟩ = (belowB a b c x y z || eq3 ⟨a, b, c⟩ ⟨x, y, z⟩) := by simp [holdsS]
theorem hs_ti {a b c x y z : Int} : holdsS [126] ⟨x, y, z⟩ ⟨a, b, c⟩ = (!belowB a b c x y z && decide (a = x) && decide (b = y)) := by simp [holdsS]
theorem hs_c1 {a b c x y z : Int} (h : ¬ x = 0) : holdsS [94] ⟨x, y, z⟩ ⟨a, b, c⟩ = (!belowB a b c x y z && decide (a = x)) := by simp [holdsS, h]
theorem hs_c2 {a b c x y z : Int} (h : x = 0) (h' : ¬ y = 0) : holdsS [94] ⟨x, y, z⟩ ⟨a, b, c⟩ = (!belowB a b c x y z && decide (a = 0) && decide (b = y)) := by simp [holdsS, h, h']
theorem hs_c3 {a b c x y z : Int} (h : x = 0) (h' : y = 0) : holdsS [94] ⟨x, y, z⟩ ⟨a, b, c⟩ = eq3 ⟨a, b, c⟩ ⟨x, y, z⟩ := by simp [holdsS, h, h']
theorem hs_no {sg : Tx} (k1 : ¬ sg = [61]) (k2 : ¬ sg = [62]) (k3 : ¬ sg = [62, 61]) (k4 : ¬ sg = [60]) (k5 : ¬ sg = [60, 61]) (k6 : ¬ sg = [126]) (k7 : ¬ sg = [94]) (w v : V3) : holdsS sg w v = true := by simp [holdsS, k1, k2, k3, k4, k5, k6, k7]

set_option maxHeartbeats 8000000 in
theorem holds_any (s : ByteArray) (a b c : Int) (w : World) :
    Calls Tryd.prog 67 #[.string s, verV a b c] w fun e w' => e = .returned (.bool (holdsR (tx s) ⟨a, b, c⟩)) ∧ Below w.heap.size w w' := by
  have HS := hid (fun w => signed_any s w)
  have HV := hid (fun w => version_any (bs (signedR (tx s)).2) w)
  rw [tx_bs] at HV
  have HF : Hid (holdsR (tx s) ⟨a, b, c⟩ = holdsS (signedR (tx s)).1 (versionR (signedR (tx s)).2).1 ⟨a, b, c⟩) := rfl
  generalize hsg : (signedR (tx s)).1 = sg at *
  generalize hrs : (signedR (tx s)).2 = rs at *
  clear hsg hrs
  generalize hvr : versionR rs = vr at *
  clear hvr
  obtain ⟨⟨x, y, z⟩, ok⟩ := vr
  go_enter Tryd.func67, Tryd.ntmps67
  go_wp2_with fail
  refine (HS.out _).mono ?_
  rintro e w1 ⟨rfl, hb1⟩
  go_wp2_with fail
  refine (HV.out _).mono ?_
  rintro e w2 ⟨rfl, hb2⟩
  have hb12 := hb1.trans (hb2.mono hb1.size)
  obtain ⟨hcc, hff⟩ := bcell hb12
  have hz := hb12.size
  simp at hcc hz
  have c0 := hcc w.heap.size 0 (by omega)
  have c1 := hcc w.heap.size 1 (by omega)
  have c2 := hcc w.heap.size 2 (by omega)
  simp at c0 c1 c2
  have hwz : w.heap.size < w2.heap.size := by omega
  have HB := hid (((Below.refl _ _).alloc (Nat.le_refl _) _).trans (hb12.mono (by simp)) : Below w.heap.size w w2)
  clear hb1 hb2 hcc hff hb12
  go_wp2_with fail
  refine (below_any _ _ _ _ _ _ _).mono ?_
  rintro e w3 ⟨rfl, hb3⟩
  obtain ⟨hcc, hff⟩ := bcell hb3
  have hz3 := hb3.size
  simp at hcc hz3
  have d0 := (hcc w.heap.size 0 (by omega)).trans ((World.cell?_alloc_past _ _ _ hwz).trans c0)
  have d1 := (hcc w.heap.size 1 (by omega)).trans ((World.cell?_alloc_past _ _ _ hwz).trans c1)
  have d2 := (hcc w.heap.size 2 (by omega)).trans ((World.cell?_alloc_past _ _ _ hwz).trans c2)
  have e0 := hcc w2.heap.size 0 (by omega)
  have e1 := hcc w2.heap.size 1 (by omega)
  have e2 := hcc w2.heap.size 2 (by omega)
  simp at e0 e1 e2
  have HB3 := hid ((HB.out.alloc (by omega) _).trans (hb3.mono (by simp; omega)) : Below w.heap.size w w3)
  generalize hlow : belowB a b c x y z = low at *
  have HLOW := hid hlow
  clear hb3 hcc hff c0 c1 c2 hlow
  by_cases k1 : sg = [61]
  · have q1 := bse sg _ k1
    have K := hid k1
    clear k1
    generalize bs sg = q at *
    by_cases pa : a = x
    · have bpa : (a == x) = true := by simp [pa]
      have Ppa := hid pa
      clear pa
      by_cases pb : b = y
      · have bpb : (b == y) = true := by simp [pb]
        have Ppb := hid pb
        clear pb
        by_cases pc : c = z
        · have bpc : (c == z) = true := by simp [pc]
          have Ppc := hid pc
          clear pc
          go_wp2
          go_ret
          exact ⟨ret_bool (by rw [HF.out, K.out, hs_eq, eq3_t Ppa.out Ppb.out Ppc.out] <;> rfl), HB3.out⟩
        · have bpc : (c == z) = false := by simp [pc]
          have Ppc := hid pc
          clear pc
          go_wp2
          go_ret
          exact ⟨ret_bool (by rw [HF.out, K.out, hs_eq, eq3_f3 Ppc.out] <;> rfl), HB3.out⟩
      · have bpb : (b == y) = false := by simp [pb]
        have Ppb := hid pb
        clear pb
        go_wp2
        go_ret
        exact ⟨ret_bool (by rw [HF.out, K.out, hs_eq, eq3_f2 Ppb.out] <;> rfl), HB3.out⟩
    · have bpa : (a == x) = false := by simp [pa]
      have Ppa := hid pa
      clear pa
      go_wp2
      go_ret
      exact ⟨ret_bool (by rw [HF.out, K.out, hs_eq, eq3_f1 Ppa.out] <;> rfl), HB3.out⟩
  have q1 := bsn sg _ k1
  by_cases k2 : sg = [62]
  · have q2 := bse sg _ k2
    have K := hid k2
    clear k1 k2
    generalize bs sg = q at *
    cases low
    · skip
      by_cases pa : a = x
      · have bpa : (a == x) = true := by simp [pa]
        have Ppa := hid pa
        clear pa
        by_cases pb : b = y
        · have bpb : (b == y) = true := by simp [pb]
          have Ppb := hid pb
          clear pb
          by_cases pc : c = z
          · have bpc : (c == z) = true := by simp [pc]
            have Ppc := hid pc
            clear pc
            go_wp2
            go_ret
            exact ⟨ret_bool (by rw [HF.out, K.out, hs_gt, HLOW.out, eq3_t Ppa.out Ppb.out Ppc.out] <;> rfl), HB3.out⟩
          · have bpc : (c == z) = false := by simp [pc]
            have Ppc := hid pc
            clear pc
            go_wp2
            go_ret
            exact ⟨ret_bool (by rw [HF.out, K.out, hs_gt, HLOW.out, eq3_f3 Ppc.out] <;> rfl), HB3.out⟩
        · have bpb : (b == y) = false := by simp [pb]
          have Ppb := hid pb
          clear pb
          go_wp2
          go_ret
          exact ⟨ret_bool (by rw [HF.out, K.out, hs_gt, HLOW.out, eq3_f2 Ppb.out] <;> rfl), HB3.out⟩
      · have bpa : (a == x) = false := by simp [pa]
        have Ppa := hid pa
        clear pa
        go_wp2
        go_ret
        exact ⟨ret_bool (by rw [HF.out, K.out, hs_gt, HLOW.out, eq3_f1 Ppa.out] <;> rfl), HB3.out⟩
    · skip
      go_wp2
      go_ret
      exact ⟨ret_bool (by rw [HF.out, K.out, hs_gt, HLOW.out] <;> rfl), HB3.out⟩
  have q2 := bsn sg _ k2
  by_cases k3 : sg = [62, 61]
  · have q3 := bse sg _ k3
    have K := hid k3
    clear k1 k2 k3
    generalize bs sg = q at *
    go_wp2
    go_ret
    exact ⟨ret_bool (by rw [HF.out, K.out, hs_ge, HLOW.out] <;> rfl), HB3.out⟩
  have q3 := bsn sg _ k3
  by_cases k4 : sg = [60]
  · have q4 := bse sg _ k4
    have K := hid k4
    clear k1 k2 k3 k4
    generalize bs sg = q at *
    go_wp2
    go_ret
    exact ⟨ret_bool (by rw [HF.out, K.out, hs_lt, HLOW.out] <;> rfl), HB3.out⟩
  have q4 := bsn sg _ k4
  by_cases k5 : sg = [60, 61]
  · have q5 := bse sg _ k5
    have K := hid k5
    clear k1 k2 k3 k4 k5
    generalize bs sg = q at *
    cases low
    · skip
      by_cases pa : a = x
      · have bpa : (a == x) = true := by simp [pa]
        have Ppa := hid pa
        clear pa
        by_cases pb : b = y
        · have bpb : (b == y) = true := by simp [pb]
          have Ppb := hid pb
          clear pb
          by_cases pc : c = z
          · have bpc : (c == z) = true := by simp [pc]
            have Ppc := hid pc
            clear pc
            go_wp2
            go_ret
            exact ⟨ret_bool (by rw [HF.out, K.out, hs_le, HLOW.out, eq3_t Ppa.out Ppb.out Ppc.out] <;> rfl), HB3.out⟩
          · have bpc : (c == z) = false := by simp [pc]
            have Ppc := hid pc
            clear pc
            go_wp2
            go_ret
            exact ⟨ret_bool (by rw [HF.out, K.out, hs_le, HLOW.out, eq3_f3 Ppc.out] <;> rfl), HB3.out⟩
        · have bpb : (b == y) = false := by simp [pb]
          have Ppb := hid pb
          clear pb
          go_wp2
          go_ret
          exact ⟨ret_bool (by rw [HF.out, K.out, hs_le, HLOW.out, eq3_f2 Ppb.out] <;> rfl), HB3.out⟩
      · have bpa : (a == x) = false := by simp [pa]
        have Ppa := hid pa
        clear pa
        go_wp2
        go_ret
        exact ⟨ret_bool (by rw [HF.out, K.out, hs_le, HLOW.out, eq3_f1 Ppa.out] <;> rfl), HB3.out⟩
    · skip
      go_wp2
      go_ret
      exact ⟨ret_bool (by rw [HF.out, K.out, hs_le, HLOW.out] <;> rfl), HB3.out⟩
  have q5 := bsn sg _ k5
  by_cases k6 : sg = [126]
  · have q6 := bse sg _ k6
    have K := hid k6
    clear k1 k2 k3 k4 k5 k6
    generalize bs sg = q at *
    cases low
    · skip
      by_cases pa : a = x
      · have bpa : (a == x) = true := by simp [pa]
        have Ppa := hid pa
        clear pa
        by_cases pb : b = y
        · have bpb : (b == y) = true := by simp [pb]
          have Ppb := hid pb
          clear pb
          go_wp2
          go_ret
          exact ⟨ret_bool (by rw [HF.out, K.out, hs_ti, HLOW.out, decide_eq_true Ppa.out, decide_eq_true Ppb.out] <;> rfl), HB3.out⟩
        · have bpb : (b == y) = false := by simp [pb]
          have Ppb := hid pb
          clear pb
          go_wp2
          go_ret
          exact ⟨ret_bool (by rw [HF.out, K.out, hs_ti, HLOW.out, decide_eq_true Ppa.out, decide_eq_false Ppb.out] <;> rfl), HB3.out⟩
      · have bpa : (a == x) = false := by simp [pa]
        have Ppa := hid pa
        clear pa
        go_wp2
        go_ret
        exact ⟨ret_bool (by rw [HF.out, K.out, hs_ti, HLOW.out, decide_eq_false Ppa.out] <;> rfl), HB3.out⟩
    · skip
      go_wp2
      go_ret
      exact ⟨ret_bool (by rw [HF.out, K.out, hs_ti, HLOW.out] <;> rfl), HB3.out⟩
  have q6 := bsn sg _ k6
  by_cases k7 : sg = [94]
  · have q7 := bse sg _ k7
    have K := hid k7
    clear k1 k2 k3 k4 k5 k6 k7
    generalize bs sg = q at *
    by_cases px : x = 0
    · have bpx : (x != 0) = false := by simp [px]
      have Ppx := hid px
      clear px
      by_cases py : y = 0
      · have bpy : (y != 0) = false := by simp [py]
        have Ppy := hid py
        clear py
        by_cases pa : a = x
        · have bpa : (a == x) = true := by simp [pa]
          have Ppa := hid pa
          clear pa
          by_cases pb : b = y
          · have bpb : (b == y) = true := by simp [pb]
            have Ppb := hid pb
            clear pb
            by_cases pc : c = z
            · have bpc : (c == z) = true := by simp [pc]
              have Ppc := hid pc
              clear pc
              go_wp2
              go_ret
              exact ⟨ret_bool (by rw [HF.out, K.out, hs_c3 Ppx.out Ppy.out, eq3_t Ppa.out Ppb.out Ppc.out] <;> rfl), HB3.out⟩
            · have bpc : (c == z) = false := by simp [pc]
              have Ppc := hid pc
              clear pc
              go_wp2
              go_ret
              exact ⟨ret_bool (by rw [HF.out, K.out, hs_c3 Ppx.out Ppy.out, eq3_f3 Ppc.out] <;> rfl), HB3.out⟩
          · have bpb : (b == y) = false := by simp [pb]
            have Ppb := hid pb
            clear pb
            go_wp2
            go_ret
            exact ⟨ret_bool (by rw [HF.out, K.out, hs_c3 Ppx.out Ppy.out, eq3_f2 Ppb.out] <;> rfl), HB3.out⟩
        · have bpa : (a == x) = false := by simp [pa]
          have Ppa := hid pa
          clear pa
          go_wp2
          go_ret
          exact ⟨ret_bool (by rw [HF.out, K.out, hs_c3 Ppx.out Ppy.out, eq3_f1 Ppa.out] <;> rfl), HB3.out⟩
      · have bpy : (y != 0) = true := by simp [py]
        have Ppy := hid py
        clear py
        cases low
        · skip
          by_cases pa : a = 0
          · have bpa : (a == 0) = true := by simp [pa]
            have Ppa := hid pa
            clear pa
            by_cases pb : b = y
            · have bpb : (b == y) = true := by simp [pb]
              have Ppb := hid pb
              clear pb
              go_wp2
              go_ret
              exact ⟨ret_bool (by rw [HF.out, K.out, hs_c2 Ppx.out Ppy.out, HLOW.out, decide_eq_true Ppa.out, decide_eq_true Ppb.out] <;> rfl), HB3.out⟩
            · have bpb : (b == y) = false := by simp [pb]
              have Ppb := hid pb
              clear pb
              go_wp2
              go_ret
              exact ⟨ret_bool (by rw [HF.out, K.out, hs_c2 Ppx.out Ppy.out, HLOW.out, decide_eq_true Ppa.out, decide_eq_false Ppb.out] <;> rfl), HB3.out⟩
          · have bpa : (a == 0) = false := by simp [pa]
            have Ppa := hid pa
            clear pa
            go_wp2
            go_ret
            exact ⟨ret_bool (by rw [HF.out, K.out, hs_c2 Ppx.out Ppy.out, HLOW.out, decide_eq_false Ppa.out] <;> rfl), HB3.out⟩
        · skip
          go_wp2
          go_ret
          exact ⟨ret_bool (by rw [HF.out, K.out, hs_c2 Ppx.out Ppy.out, HLOW.out] <;> rfl), HB3.out⟩
    · have bpx : (x != 0) = true := by simp [px]
      have Ppx := hid px
      clear px
      cases low
      · skip
        by_cases pa : a = x
        · have bpa : (a == x) = true := by simp [pa]
          have Ppa := hid pa
          clear pa
          go_wp2
          go_ret
          exact ⟨ret_bool (by rw [HF.out, K.out, hs_c1 Ppx.out, HLOW.out, decide_eq_true Ppa.out] <;> rfl), HB3.out⟩
        · have bpa : (a == x) = false := by simp [pa]
          have Ppa := hid pa
          clear pa
          go_wp2
          go_ret
          exact ⟨ret_bool (by rw [HF.out, K.out, hs_c1 Ppx.out, HLOW.out, decide_eq_false Ppa.out] <;> rfl), HB3.out⟩
      · skip
        go_wp2
        go_ret
        exact ⟨ret_bool (by rw [HF.out, K.out, hs_c1 Ppx.out, HLOW.out] <;> rfl), HB3.out⟩
  have q7 := bsn sg _ k7
  have K := hid (hs_no k1 k2 k3 k4 k5 k6 k7 ⟨x, y, z⟩ ⟨a, b, c⟩)
  clear k1 k2 k3 k4 k5 k6 k7
  generalize bs sg = q at *
  go_wp2
  go_ret
  exact ⟨ret_bool (by rw [HF.out, K.out]), HB3.out⟩

end Hst
end Go.Proofs.YtecocheolbkneaaDoor
namespace Go.Proofs.YtecocheolbkneaaDoor
open Go.RowKit
namespace Hst
set_option maxRecDepth 100000

theorem al_yes (f : Tx → Bool) (d : List Tx) (k : Nat) (hk : k < d.length) (h : f d[k] = true) : (d.drop k).all f = (d.drop (k + 1)).all f := by
  rw [List.drop_eq_getElem_cons hk, List.all_cons, h, Bool.true_and]
theorem al_no (f : Tx → Bool) (d : List Tx) (k : Nat) (hk : k < d.length) (h : f d[k] = false) : (d.drop k).all f = false := by
  rw [List.drop_eq_getElem_cons hk, List.all_cons, h, Bool.false_and]
theorem al_end (f : Tx → Bool) (d : List Tx) (k : Nat) (hk : ¬ k < d.length) : (d.drop k).all f = true := by
  rw [List.drop_of_length_le (by omega)]; rfl
theorem piece_mem {n : Int} {s : ByteArray} {b : Nat} (hs : s.size ≤ b) : ∀ (j : Nat) (hj : j < (splitL n (tx s)).length), (bs (splitL n (tx s))[j]).size ≤ b := fun j hj => by
  have := piece_size n s j hj; omega

theorem isRangeR_long (s : ByteArray) (h : ¬ s.size ≤ 60) : isRangeR (tx s) = false := by
  unfold isRangeR; rw [tx_length]; simp; intro h'; omega
theorem isRangeR_short (s : ByteArray) (h : s.size ≤ 60) : isRangeR (tx s) = (splitL 124 (tx s)).all isAltR := by
  unfold isRangeR; rw [tx_length]; simp [h]

set_option maxHeartbeats 2000000 in
theorem isRange_any (s : ByteArray) (w : World) :
    Calls Tryd.prog 34 #[.string s] w fun e w' => e = .returned (.bool (isRangeR (tx s))) ∧ Below w.heap.size w w' := by
  by_cases h60 : s.size ≤ 60
  · have HP := hid (isRangeR_short s h60)
    go_enter Tryd.func34, Tryd.ntmps34
    go_wp2_with fail
    refine (rsplit_any s 124 _ (by omega)).mono ?_
    rintro e w1 ⟨v, rfl, hrow, hb1⟩
    obtain ⟨g, cap, rfl, hg1, hg2, hcell⟩ := hrow.form (splitL_ne _ _)
    have HS := hid (piece_mem (n := 124) h60)
    have hlen := splitL_len 124 (tx s)
    rw [tx_length] at hlen
    generalize splitL 124 (tx s) = d at *
    have HC := hid hcell
    clear hcell hrow
    go_wp2
    go_loopw [4] (fun i wr => ∃ (k : Nat), k ≤ d.length ∧ i = .int .i64 k ∧ Below w1.heap.size w1 wr ∧ Hid (isRangeR (tx s) = (d.drop k).all isAltR)) (fun i _ => d.length - (intOf i).toNat)
    case atStart => exact ⟨0, by omega, rfl, Below.refl _ _, by unfold Hid; rw [HP.out]; rfl⟩
    case round =>
      obtain ⟨k, hk, rfl, hbel, hall⟩ := hrel
      clear HP
      have hz := hbel.size
      have hz1 := hb1.size
      by_cases hlt : k < d.length
      · have hc := (hbel.cell (p := ⟨g, k, none⟩) hg2).trans (HC.out k hlt)
        have hps := HS.out k hlt
        have HA : Hid (isAltR d[k] = (splitL 38 (tx (bs d[k]))).all isCondR) := by unfold Hid; rw [tx_bs]; rfl
        have HY := hid (al_yes isAltR d k hlt)
        have HN := hid (al_no isAltR d k hlt)
        generalize isAltR d[k] = alt at *
        generalize bs d[k] = q at *
        go_wp2_with fail
        refine (rsplit_any q 38 _ (by omega)).mono ?_
        rintro e w2 ⟨v, rfl, hrow, hb2⟩
        obtain ⟨g2, cap2, rfl, hg3, hg4, hcell2⟩ := hrow.form (splitL_ne _ _)
        have HS2 := hid (piece_mem (n := 38) hps)
        have hlen2 := splitL_len 38 (tx q)
        rw [tx_length] at hlen2
        generalize splitL 38 (tx q) = m at *
        have HC2 := hid hcell2
        clear hcell2 hrow hc
        go_wp2
        go_loopw [6] (fun i wq => ∃ (j : Nat), j ≤ m.length ∧ i = .int .i64 j ∧ Below w2.heap.size w2 wq ∧ Hid (alt = (m.drop j).all isCondR)) (fun i _ => m.length - (intOf i).toNat)
        case atStart => exact ⟨0, by omega, rfl, Below.refl _ _, by unfold Hid; rw [HA.out]; rfl⟩
        case round =>
          obtain ⟨j, hj, rfl, hbel2, hall2⟩ := hrel
          clear HA
          have hz2 := hbel2.size
          have hz3 := hb2.size
          have HB := hid ((hbel.trans (hb2.mono hz)).trans (hbel2.mono (by omega)))
          have HBw := hid (hb1.trans (HB.out.mono hz1))
          by_cases hjl : j < m.length
          · have hc2 := (hbel2.cell (p := ⟨g2, j, none⟩) hg4).trans (HC2.out j hjl)
            have HH := hid (fun w => isCond_any (bs m[j]) w)
            rw [tx_bs] at HH
            have HY2 := hid (al_yes isCondR m j hjl)
            have HN2 := hid (al_no isCondR m j hjl)
            generalize isCondR m[j] = cnd at *
            generalize bs m[j] = q2 at *
            cases cnd
            · have HF : Hid (isRangeR (tx s) = false) := by unfold Hid; rw [hall.out, HN.out (by rw [hall2.out, HN2.out rfl])]
              go_wp2_with fail
              refine (HH.out _).mono ?_
              rintro e w3 ⟨rfl, hb3⟩
              have HB3 := hid (HBw.out.trans (hb3.mono (by omega)))
              clear hb3
              go_wp2
              go_ret
              exact ⟨ret_bool (by rw [HF.out]), HB3.out⟩
            · have HF : Hid (alt = (m.drop (j + 1)).all isCondR) := by unfold Hid; rw [hall2.out, HY2.out rfl]
              go_wp2_with fail
              refine (HH.out _).mono ?_
              rintro e w3 ⟨rfl, hb3⟩
              have HB3 := hid (hbel2.trans (hb3.mono hz2))
              clear hb3
              go_wp2
              go_roundw
              case rel => exact ⟨j + 1, by omega, by go_num, HB3.out, HF⟩
              case measure => simp [intOf]; omega
          · have HF : Hid (isRangeR (tx s) = (d.drop (k + 1)).all isAltR) := by unfold Hid; rw [hall.out, HY.out (by rw [hall2.out, al_end isCondR m j hjl])]
            clear hall
            go_wp2
            go_roundw
            case rel => exact ⟨k + 1, by omega, by go_num, HB.out, HF⟩
            case measure => simp [intOf]; omega
      · have HF : Hid (isRangeR (tx s) = true) := by unfold Hid; rw [hall.out, al_end isAltR d k hlt]
        have HB := hid (hb1.trans (hbel.mono hz1))
        go_wp2
        go_ret
        exact ⟨ret_bool (by rw [HF.out]), HB.out⟩
  · have HF := hid (isRangeR_long s h60)
    go_enter Tryd.func34, Tryd.ntmps34
    go_wp2
    go_ret
    exact ⟨ret_bool (by rw [HF.out]), Below.refl _ _⟩

end Hst
end Go.Proofs.YtecocheolbkneaaDoor
namespace Go.Proofs.YtecocheolbkneaaDoor
open Go.RowKit
namespace Hst
set_option maxRecDepth 100000

theorem low_yes {b : UInt8} (h1 : (97 : Int) ≤ (b.toNat : Int)) (h2 : (b.toNat : Int) ≤ 122) : low b = true := by simp [low]; omega
theorem low_no1 {b : UInt8} (h1 : (b.toNat : Int) < 97) : low b = false := by simp [low]; omega
theorem low_no2 {b : UInt8} (h1 : (122 : Int) < (b.toNat : Int)) : low b = false := by simp [low]; omega
theorem alt_yes (f : UInt8 → Bool) (s : ByteArray) (k : Nat) (h : k < s.size) (hd : f s[k] = true) : ((tx s).drop k).all f = ((tx s).drop (k + 1)).all f := by
  rw [tx_drop s k h, List.all_cons, hd, Bool.true_and]
theorem alt_no (f : UInt8 → Bool) (s : ByteArray) (k : Nat) (h : k < s.size) (hd : f s[k] = false) : ((tx s).drop k).all f = false := by
  rw [tx_drop s k h, List.all_cons, hd, Bool.false_and]
theorem alt_end (f : UInt8 → Bool) (s : ByteArray) (k : Nat) (h : ¬ k < s.size) : ((tx s).drop k).all f = true := by
  rw [List.drop_of_length_le (by rw [tx_length]; omega)]; rfl
theorem isName_len (s : ByteArray) (h : s.size < 1 ∨ 3 < s.size) : isNameR (tx s) = false := by
  unfold isNameR; rw [tx_length]; rcases h with h | h
  · simp; intro h'; omega
  · simp; intro h1 h2; omega
theorem isName_go (s : ByteArray) (h1 : 1 ≤ s.size) (h2 : s.size ≤ 3) : isNameR (tx s) = (tx s).all low := by
  unfold isNameR; rw [tx_length]; simp [h1, h2]

theorem ll_yes (s : ByteArray) (k : Nat) (h : k < s.size) (hd : low s[k] = true) : lowLen ((tx s).drop k) = lowLen ((tx s).drop (k + 1)) + 1 := by
  rw [tx_drop s k h]; simp [lowLen, hd]
theorem ll_no (s : ByteArray) (k : Nat) (h : k < s.size) (hd : low s[k] = false) : lowLen ((tx s).drop k) = 0 := by
  rw [tx_drop s k h]; simp [lowLen, hd]
theorem ll_end (s : ByteArray) (k : Nat) (h : ¬ k < s.size) : lowLen ((tx s).drop k) = 0 := by
  rw [List.drop_of_length_le (by rw [tx_length]; omega)]; rfl
theorem lowLen_le : ∀ l : Tx, lowLen l ≤ l.length
  | [] => by simp [lowLen]
  | b :: r => by
    simp only [lowLen]
    split
    · have := lowLen_le r; simp; omega
    · simp
/-- A need, as a value. -/
abbrev needV (n : NeedD) : Value := .agg #[.string (bs n.name), .string (bs n.rng)]

attribute [local go_sem ↓] Go.wp_at_zero Go.wp_at_succ

theorem cut_yes (n : Int) (l : Tx) (k : Nat) (hk : k < l.length) (h : ((l[k]'hk).toNat : Int) = n) (hb : ∀ j (hj : j < k), ((l[j]'(by omega)).toNat : Int) ≠ n) : cutR n l = (l.take k, l.drop (k + 1), true) := by
  induction l generalizing k with
  | nil => simp at hk
  | cons b r ih =>
    cases k with
    | zero => simp at h; simp [cutR, h]
    | succ k =>
      have hb0 := hb 0 (by omega)
      simp at hb0
      have := ih k (by simpa using hk) (by simpa using h) (fun j hj => by have := hb (j + 1) (by omega); simpa using this)
      simp [cutR, hb0, this]
theorem cut_no (n : Int) (l : Tx) (hb : ∀ j (hj : j < l.length), ((l[j]'hj).toNat : Int) ≠ n) : cutR n l = (l, [], false) := by
  induction l with
  | nil => rfl
  | cons b r ih =>
    have hb0 := hb 0 (by simp)
    simp at hb0
    have := ih (fun j hj => by have := hb (j + 1) (by simp; omega); simpa using this)
    simp [cutR, hb0, this]
theorem ret_cut {a b a' b' : ByteArray} {c c' : Bool} (h1 : a = a') (h2 : b = b') (h3 : c = c') : Ending.returned (.tuple #[.string a, .string b, .bool c]) = .returned (.tuple #[.string a', .string b', .bool c']) := by rw [h1, h2, h3]

end Hst
end Go.Proofs.YtecocheolbkneaaDoor
