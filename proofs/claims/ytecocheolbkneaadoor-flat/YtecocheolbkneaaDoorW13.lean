/- Khead, Kstock, Pneed, Kplain -/
import Derived.Test.YtecocheolbkneaaDoorW12
import Derived.Test.YtecocheolbkneaaDoorW09
import Derived.Test.YtecocheolbkneaaDoorW04
import Derived.Deep.DrawnRows
import Derived.Deep.RegionHeld3
namespace Go.Proofs.YtecocheolbkneaaDoor
open Go.RowKit
namespace Hst
set_option maxRecDepth 100000

abbrev itemV (x : ItemX) : Value := .agg #[.int .i64 x.name, .int .i64 x.major, .int .i64 x.minor, x.wv]

set_option maxHeartbeats 4000000 in
theorem head_any (xn xa xi : Int) (va : Option Addr) (vn vc : Nat) (w : World) (h1 : Raw xn) (h2 : Raw xa) (h3 : Raw xi) :
    Calls Tryd.prog 43 #[.agg #[.int .i64 xn, .int .i64 xa, .int .i64 xi, .slice va vn vc]] w fun e w' => e = .returned (.string (bs (headK xn xa xi))) ∧ Below w.heap.size w w' := by
  have HN := hid' (fun w => names_any xn w h1)
  have HU := hid' (fun w => number_any xa xi w h2 h3)
  have l1 : (bs (nameK xn)).size ≤ 3 := by rw [bs_size]; exact nameK_len _
  have l2 : (bs (numberK xa xi)).size ≤ 7 := by rw [bs_size]; exact numberK_len _ _
  have HE : Hid (bs (nameK xn) ++ ⟨#[64]⟩ ++ bs (numberK xa xi) = bs (headK xn xa xi)) := by unfold Hid headK; rw [← bs_append, ← bs_append]; rfl
  have HB := hid' ((Below.refl w.heap.size w).alloc (Nat.le_refl _) (.cells #[.int .i64 xn, .int .i64 xa, .int .i64 xi, .slice va vn vc] 58))
  generalize bs (nameK xn) = q1 at *
  generalize bs (numberK xa xi) = q2 at *
  generalize bs (headK xn xa xi) = q at *
  clear h1 h2 h3
  go_enter Tryd.func43, Tryd.ntmps43
  go_wp2
  have hsz : (q1 ++ (⟨#[64]⟩ : ByteArray)).size = q1.size + 1 := by rw [ByteArray.size_append]; rfl
  have m1 : ¬ (9223372036854775807 < q1.size + (⟨#[64]⟩ : ByteArray).size) := by show ¬ (9223372036854775807 < q1.size + 1); omega
  have m2 : ¬ (9223372036854775807 < (q1 ++ (⟨#[64]⟩ : ByteArray)).size + q2.size) := by omega
  have m3 : ¬ (9223372036854775807 < q1.size + 1) := by omega
  have m4 : ¬ (9223372036854775807 < q1.size + 1 + q2.size) := by omega
  go_region_held3 (fun w' => w'.cell? ⟨w.heap.size, 0, none⟩ = some (.int .i64 xn) ∧ w'.cell? ⟨w.heap.size, 1, none⟩ = some (.int .i64 xa) ∧ w'.cell? ⟨w.heap.size, 2, none⟩ = some (.int .i64 xi)) (go_keep)
    (first | (go_at_call 24; refine (HN.out _).mono ?_; rintro e w1 ⟨rfl, hb1⟩; have hy1 := (bcell hb1).1; simp at hy1) | (go_at_call 52; refine (HU.out _).mono ?_; rintro e w2 ⟨rfl, rfl⟩))
  go_wp2
  go_ret
  exact ⟨ret_str HE.out, by first | exact (HB.out.trans ((hb1.mono (by simp)))) | exact (HB.out.drew.trans ((hb1.mono (by simp)))) | exact (HB.out.trans ((hb1.mono (by simp)))).drew⟩

theorem RowR.wants {w : World} {a : Option Addr} {n cap : Nat} {l : List WantX} (h : RowR w a n cap 4 (l.flatMap wantC)) (hn : n = l.length) {k : Nat} (hk : k < l.length) :
    ∃ g o, a = some ⟨g, o, none⟩ ∧ g < w.heap.size ∧ ∀ k (hk : k < l.length), w.cell? ⟨g, o + k * 4, none⟩ = some (.int .i64 l[k].name) ∧ w.cell? ⟨g, o + k * 4 + 1, none⟩ = some (.int .i64 l[k].sign) ∧ w.cell? ⟨g, o + k * 4 + 2, none⟩ = some (.int .i64 l[k].major) ∧ w.cell? ⟨g, o + k * 4 + 3, none⟩ = some (.int .i64 l[k].minor) := by
  obtain ⟨g, o, ha, hg, hc⟩ := h.at' (by omega)
  refine ⟨g, o, ha, hg, fun k hk => ?_⟩
  have key : ∀ i, i < 4 → w.cell? ⟨g, o + (k * 4 + i), none⟩ = (wantC l[k])[i]? := fun i hi => by
    rw [hc (k * 4 + i) (by omega), flat_at wantC 4 wantC_len l k i hk hi]
  exact ⟨key 0 (by omega), key 1 (by omega), key 2 (by omega), key 3 (by omega)⟩
theorem wt_step (l : List WantX) (k : Nat) (hk : k < l.length) : wantsT (decide (k = 0)) (l.drop k) = (if k = 0 then [58] else [44]) ++ wantT l[k] ++ wantsT (decide (k + 1 = 0)) (l.drop (k + 1)) := by
  rw [List.drop_eq_getElem_cons hk, wantsT]
  have e : decide (k + 1 = 0) = false := by simp
  rw [e]
  by_cases h : k = 0
  · simp [h]
  · simp [h]
theorem wt_end (l : List WantX) (k : Nat) (b : Bool) (hk : ¬ k < l.length) : wantsT b (l.drop k) = [] := by
  rw [List.drop_of_length_le (by omega)]; cases b <;> rfl

set_option maxHeartbeats 8000000 in
theorem entryf_any (x : ItemX) (va : Option Addr) (vc : Nat) (w : World) (hr : RowR w va x.wants.length vc 4 (x.wants.flatMap wantC)) (hl : x.wants.length ≤ 1000) (hok : ItemOk x) :
    Calls Tryd.prog 46 #[.agg #[.int .i64 x.name, .int .i64 x.major, .int .i64 x.minor, .slice va x.wants.length vc], .bool false] w fun e w' => e = .returned (.string (bs (entryK x false))) ∧ Below w.heap.size w w' := by
  have HH := hid' (fun w => head_any x.name x.major x.minor va x.wants.length vc w hok.name hok.major hok.minor)
  have HHL := hid' (headK_len x.name x.major x.minor)
  have HE : Hid (entryK x false = headK x.name x.major x.minor ++ wantsT (decide (0 = 0)) (x.wants.drop 0)) := rfl
  have HO := hid' hok.wants
  have HR := hid' hr
  generalize entryK x false = res at *
  generalize headK x.name x.major x.minor = hd at *
  obtain ⟨xn, xa, xi, xv, xw⟩ := x
  simp only at HH HE HO HR hl ⊢
  clear hr hok xv
  have hba := (Below.refl w.heap.size w).alloc (Nat.le_refl _) (.cells #[.int .i64 xn, .int .i64 xa, .int .i64 xi, .slice va xw.length vc] 58)
  have e3 : (w.alloc (.cells #[.int .i64 xn, .int .i64 xa, .int .i64 xi, .slice va xw.length vc] 58)).cell? ⟨w.heap.size, 3, none⟩ = some (.slice va xw.length vc) := by simp
  have hs : (w.alloc (.cells #[.int .i64 xn, .int .i64 xa, .int .i64 xi, .slice va xw.length vc] 58)).heap.size = w.heap.size + 1 := by simp
  go_enter Tryd.func46, Tryd.ntmps46
  go_wp2_with fail
  refine (HH.out _).mono ?_
  rintro e w1 ⟨rfl, hb1⟩
  have HB1 := hid' (hba.trans (hb1.mono (by omega)))
  have c3 := ((bcell hb1).1 w.heap.size 3 (by omega)).trans e3
  have hw1 : w.heap.size < w1.heap.size := by have := hb1.size; omega
  clear hb1 hba e3 hs
  go_wp2
  go_loopw [5, 6] (fun v i wr => ∃ (k : Nat) (acc : Tx), k ≤ xw.length ∧ acc.length ≤ 11 + 13 * k ∧ v = .string (bs acc) ∧ i = .int .i64 k ∧ Below w1.heap.size w1 wr ∧ Hid (res = acc ++ wantsT (decide (k = 0)) (xw.drop k))) (fun _ i _ => xw.length - (intOf i).toNat)
  case atStart => exact ⟨0, hd, Nat.zero_le _, by have := HHL.out; omega, rfl, rfl, Below.refl _ _, HE⟩
  case round =>
    obtain ⟨k, acc, hk, hacc, rfl, rfl, hbel, hall⟩ := hrel
    have hz := hbel.size
    have d3 := ((bcell hbel).1 w.heap.size 3 hw1).trans c3
    have hwr : w.heap.size < wr.heap.size := by omega
    have HBW := hid' (HB1.out.trans (hbel.mono (by have := HB1.out.size; omega)))
    by_cases hlt : k < xw.length
    · obtain ⟨g, o, rfl, hg, hc⟩ := (HR.out.below HBW.out).wants rfl hlt
      obtain ⟨q0, q1, q2, q3⟩ := hc k hlt
      have hxo := HO.out xw[k] (List.getElem_mem hlt)
      have HN := hid' (fun w => names_any xw[k].name w hxo.name)
      have HG := hid' (fun w => rng_any xw[k] w hxo)
      have hst := wt_step xw k hlt
      have hwl := wantT_len xw[k]
      have HF0 : Hid (k = 0 → res = (acc ++ [58] ++ nameK xw[k].name ++ rngK xw[k]) ++ wantsT (decide (k + 1 = 0)) (xw.drop (k + 1))) := fun h0 => by
        rw [hall.out, hst, if_pos h0]; simp [wantT]
      have HF1 : Hid (¬ k = 0 → res = (acc ++ [44] ++ nameK xw[k].name ++ rngK xw[k]) ++ wantsT (decide (k + 1 = 0)) (xw.drop (k + 1))) := fun h0 => by
        rw [hall.out, hst, if_neg h0]; simp [wantT]
      have HA0 : Hid (bs acc ++ ⟨#[58]⟩ ++ bs (nameK xw[k].name) ++ bs (rngK xw[k]) = bs (acc ++ [58] ++ nameK xw[k].name ++ rngK xw[k])) := by unfold Hid; rw [← bs_append, ← bs_append, ← bs_append]; rfl
      have HA1 : Hid (bs acc ++ ⟨#[44]⟩ ++ bs (nameK xw[k].name) ++ bs (rngK xw[k]) = bs (acc ++ [44] ++ nameK xw[k].name ++ rngK xw[k])) := by unfold Hid; rw [← bs_append, ← bs_append, ← bs_append]; rfl
      have HL0 : Hid ((acc ++ [58] ++ nameK xw[k].name ++ rngK xw[k]).length ≤ 11 + 13 * (k + 1)) := by unfold Hid; simp [wantT] at hwl ⊢; omega
      have HL1 : Hid ((acc ++ [44] ++ nameK xw[k].name ++ rngK xw[k]).length ≤ 11 + 13 * (k + 1)) := by unfold Hid; simp [wantT] at hwl ⊢; omega
      have s1 : (bs (nameK xw[k].name)).size ≤ 3 := by rw [bs_size]; exact nameK_len _
      have s2 : (bs (rngK xw[k])).size ≤ 9 := by rw [bs_size]; exact rngK_len _
      have s0 : (bs acc).size ≤ 13011 := by rw [bs_size]; omega
      clear hst hwl hall hxo hc
      generalize acc ++ [58] ++ nameK xw[k].name ++ rngK xw[k] = nx0 at *
      generalize acc ++ [44] ++ nameK xw[k].name ++ rngK xw[k] = nx1 at *
      generalize bs (nameK xw[k].name) = b1 at *
      generalize bs (rngK xw[k]) = b2 at *
      generalize xw[k] = y at *
      obtain ⟨yn, ys, ya, yi⟩ := y
      simp only at q0 q1 q2 q3 HN HG
      generalize bs acc = ba at *
      have k0 : (0 : Int) ≤ (k : Int) := by omega
      have k1 : (k : Int) < (xw.length : Int) := by omega
      by_cases h0 : k = 0
      · have HF := hid' (HF0.out h0)
        subst h0
        simp only [Nat.zero_mul, Nat.add_zero] at q0 q1 q2 q3
        clear HF0 HF1 HA1 HL1
        have hba := (Below.refl wr.heap.size wr).alloc (Nat.le_refl _) (.cells #[.int .i64 yn, .int .i64 ys, .int .i64 ya, .int .i64 yi] 52)
        go_wp2
        have m0 : (ba ++ (⟨#[58]⟩ : ByteArray)).size = ba.size + 1 := by rw [ByteArray.size_append]; rfl
        have m00 : (ba ++ (⟨#[58]⟩ : ByteArray) ++ b1).size = ba.size + 1 + b1.size := by rw [ByteArray.size_append, m0]
        have m1 : ¬ (9223372036854775807 < ba.size + (⟨#[58]⟩ : ByteArray).size) := by show ¬ (9223372036854775807 < ba.size + 1); omega
        have m2 : ¬ (9223372036854775807 < (ba ++ (⟨#[58]⟩ : ByteArray)).size + b1.size) := by omega
        have m3 : ¬ (9223372036854775807 < (ba ++ (⟨#[58]⟩ : ByteArray) ++ b1).size + b2.size) := by omega
        have m4 : ¬ (9223372036854775807 < ba.size + 1) := by omega
        have m5 : ¬ (9223372036854775807 < ba.size + 1 + b1.size) := by omega
        have m6 : ¬ (9223372036854775807 < ba.size + 1 + b1.size + b2.size) := by omega
        clear m0 m00
        go_region_held3 (fun w' => w'.cell? ⟨wr.heap.size, 0, none⟩ = some (.int .i64 yn) ∧ w'.cell? ⟨wr.heap.size, 1, none⟩ = some (.int .i64 ys) ∧ w'.cell? ⟨wr.heap.size, 2, none⟩ = some (.int .i64 ya) ∧ w'.cell? ⟨wr.heap.size, 3, none⟩ = some (.int .i64 yi)) (go_keep)
          (first | (go_at_call 24; refine (HN.out _).mono ?_; rintro e w2 ⟨rfl, hb2⟩; have hy2 := (bcell hb2).1; simp at hy2; have hz2 := hb2.size; simp at hz2) | (go_at_call 25; refine (HG.out _).mono ?_; rintro e w3 ⟨rfl, hb3⟩; have hy3 := (bcell hb3).1; have hz3 := hb3.size; have z0 := hy3 wr.heap.size 0 (by omega); have z1 := hy3 wr.heap.size 1 (by omega); have z2 := hy3 wr.heap.size 2 (by omega); have z3 := hy3 wr.heap.size 3 (by omega)))
        have HBF := hid' (hbel.trans (((hba.drew.trans (hb2.mono (by simp))).trans (hb3.mono (by omega))).mono hz))
        clear hb2 hb3 hy2 hy3 hba z0 z1 z2 z3
        go_wp2
        go_roundw
        case rel => exact ⟨0 + 1, nx0, by omega, HL0.out, by rw [HA0.out], by go_num, HBF.out, HF⟩
        case measure => simp [intOf] <;> omega
      · have HF := hid' (HF1.out h0)
        have hk0 : ((k : Int) == 0) = false := by simp [h0]
        clear HF0 HF1 HA0 HL0
        have hba := (Below.refl wr.heap.size wr).alloc (Nat.le_refl _) (.cells #[.int .i64 yn, .int .i64 ys, .int .i64 ya, .int .i64 yi] 52)
        go_wp2
        have m0 : (ba ++ (⟨#[44]⟩ : ByteArray)).size = ba.size + 1 := by rw [ByteArray.size_append]; rfl
        have m00 : (ba ++ (⟨#[44]⟩ : ByteArray) ++ b1).size = ba.size + 1 + b1.size := by rw [ByteArray.size_append, m0]
        have m1 : ¬ (9223372036854775807 < ba.size + (⟨#[44]⟩ : ByteArray).size) := by show ¬ (9223372036854775807 < ba.size + 1); omega
        have m2 : ¬ (9223372036854775807 < (ba ++ (⟨#[44]⟩ : ByteArray)).size + b1.size) := by omega
        have m3 : ¬ (9223372036854775807 < (ba ++ (⟨#[44]⟩ : ByteArray) ++ b1).size + b2.size) := by omega
        have m4 : ¬ (9223372036854775807 < ba.size + 1) := by omega
        have m5 : ¬ (9223372036854775807 < ba.size + 1 + b1.size) := by omega
        have m6 : ¬ (9223372036854775807 < ba.size + 1 + b1.size + b2.size) := by omega
        clear m0 m00
        go_region_held3 (fun w' => w'.cell? ⟨wr.heap.size, 0, none⟩ = some (.int .i64 yn) ∧ w'.cell? ⟨wr.heap.size, 1, none⟩ = some (.int .i64 ys) ∧ w'.cell? ⟨wr.heap.size, 2, none⟩ = some (.int .i64 ya) ∧ w'.cell? ⟨wr.heap.size, 3, none⟩ = some (.int .i64 yi)) (go_keep)
          (first | (go_at_call 24; refine (HN.out _).mono ?_; rintro e w2 ⟨rfl, hb2⟩; have hy2 := (bcell hb2).1; simp at hy2; have hz2 := hb2.size; simp at hz2) | (go_at_call 25; refine (HG.out _).mono ?_; rintro e w3 ⟨rfl, hb3⟩; have hy3 := (bcell hb3).1; have hz3 := hb3.size; have z0 := hy3 wr.heap.size 0 (by omega); have z1 := hy3 wr.heap.size 1 (by omega); have z2 := hy3 wr.heap.size 2 (by omega); have z3 := hy3 wr.heap.size 3 (by omega)))
        have HBF := hid' (hbel.trans (((hba.drew.trans (hb2.mono (by simp))).trans (hb3.mono (by omega))).mono hz))
        clear hb2 hb3 hy2 hy3 hba z0 z1 z2 z3
        go_wp2
        go_roundw
        case rel => exact ⟨k + 1, nx1, by omega, HL1.out, by rw [HA1.out], by go_num, HBF.out, HF⟩
        case measure => simp [intOf] <;> omega
    · have HF : Hid (res = acc) := by unfold Hid; rw [hall.out, wt_end xw k _ hlt]; simp
      go_wp2
      go_ret
      exact ⟨ret_str (by rw [HF.out]), HBW.out⟩

end Hst
end Go.Proofs.YtecocheolbkneaaDoor
namespace Go.Proofs.YtecocheolbkneaaDoor
open Go.RowKit
namespace Hst
set_option maxRecDepth 100000

/-- An item's wants lie in memory. -/
def ItemIn (w : World) (x : ItemX) : Prop := ∃ va vc, x.wv = .slice va x.wants.length vc ∧ RowR w va x.wants.length vc 4 (x.wants.flatMap wantC)
theorem ItemIn.below {w w' : World} {x : ItemX} (h : ItemIn w x) (hb : Below w.heap.size w w') : ItemIn w' x := by
  obtain ⟨va, vc, e, hr⟩ := h
  exact ⟨va, vc, e, hr.below hb⟩
structure ItemsR (w : World) (a : Option Addr) (cap : Nat) (l : List ItemX) : Prop where
  row : RowR w a l.length cap 4 (l.flatMap itemC)
  each : ∀ x ∈ l, ItemIn w x
theorem ItemsR.below {w w' : World} {a : Option Addr} {cap : Nat} {l : List ItemX} (h : ItemsR w a cap l) (hb : Below w.heap.size w w') : ItemsR w' a cap l := ⟨h.row.below hb, fun x hx => (h.each x hx).below hb⟩
theorem RowR.items {w : World} {a : Option Addr} {n cap : Nat} {l : List ItemX} (h : RowR w a n cap 4 (l.flatMap itemC)) (hn : n = l.length) {k : Nat} (hk : k < l.length) :
    ∃ g o, a = some ⟨g, o, none⟩ ∧ g < w.heap.size ∧ ∀ k (hk : k < l.length), w.cell? ⟨g, o + k * 4, none⟩ = some (.int .i64 l[k].name) ∧ w.cell? ⟨g, o + k * 4 + 1, none⟩ = some (.int .i64 l[k].major) ∧ w.cell? ⟨g, o + k * 4 + 2, none⟩ = some (.int .i64 l[k].minor) ∧ w.cell? ⟨g, o + k * 4 + 3, none⟩ = some l[k].wv := by
  obtain ⟨g, o, ha, hg, hc⟩ := h.at' (by omega)
  refine ⟨g, o, ha, hg, fun k hk => ?_⟩
  have key : ∀ i, i < 4 → w.cell? ⟨g, o + (k * 4 + i), none⟩ = (itemC l[k])[i]? := fun i hi => by
    rw [hc (k * 4 + i) (by omega), flat_at itemC 4 itemC_len l k i hk hi]
  exact ⟨key 0 (by omega), key 1 (by omega), key 2 (by omega), key 3 (by omega)⟩


set_option maxHeartbeats 8000000 in
theorem stock_any (back : Bool) (hen : ∀ (x : ItemX) (w : World), ItemIn w x → x.wants.length ≤ 1000 → ItemOk x → Calls Tryd.prog 46 #[itemV x, .bool back] w fun e w' => e = .returned (.string (bs (entryK x back))) ∧ Below w.heap.size w w')
    (a : Option Addr) (cap : Nat) (l : List ItemX) (m : Nat) (w : World) (hr : ItemsR w a cap l) (hl : l.length ≤ 40) (hm : m ≤ 40) (hwl : ∀ x ∈ l, x.wants.length ≤ 6) (hok : ∀ x ∈ l, ItemOk x) :
    Calls Tryd.prog 19 #[.slice a l.length cap, .int .i64 m, .bool back] w fun e w' => e = .returned (.string (bs (stockT back true (rotK l m)))) ∧ Below w.heap.size w w' := by
  have HEN := hid' hen
  have HR := hid' hr
  have HW := hid' hwl
  have HO := hid' hok
  have HRO := hid' (rotK_at l m)
  have HRL := hid' (rotK_len l m)
  have HE : Hid (stockT back true (rotK l m) = [] ++ stockT back (decide (0 = 0)) ((rotK l m).drop 0)) := rfl
  generalize stockT back true (rotK l m) = res at *
  generalize rotK l m = rl at *
  clear hen hr hwl hok
  go_enter Tryd.func19, Tryd.ntmps19
  go_wp2
  go_loopw [7, 8] (fun v i wr => ∃ (k : Nat) (acc : Tx), k ≤ l.length ∧ acc.length ≤ 90 * k ∧ v = .string (bs acc) ∧ i = .int .i64 k ∧ Below w.heap.size w wr ∧ Hid (res = acc ++ stockT back (decide (k = 0)) (rl.drop k))) (fun _ i _ => l.length - (intOf i).toNat)
  case atStart => exact ⟨0, [], Nat.zero_le _, by simp, rfl, rfl, Below.refl _ _, HE⟩
  case round =>
    obtain ⟨k, acc, hk, hacc, rfl, rfl, hbel, hall⟩ := hrel
    have hz := hbel.size
    by_cases hlt : k < l.length
    · obtain ⟨j, hj, ej, hrj⟩ := HRO.out k hlt
      obtain ⟨g, o, rfl, hg, hc⟩ := (HR.out.row.below hbel).items rfl hj
      obtain ⟨q0, q1, q2, q3⟩ := hc j hj
      have hmem : l[j] ∈ l := List.getElem_mem hj
      have HCA := hid' (HEN.out l[j] wr ((HR.out.each _ hmem).below hbel) (by have := HW.out _ hmem; omega) (HO.out _ hmem))
      have hst := st_step back rl k l[j] hrj
      have hel := entryK_len l[j] back
      have hwj := HW.out _ hmem
      obtain ⟨va, vc, ev, _⟩ := HR.out.each _ hmem
      have HF0 : Hid (k = 0 → res = (acc ++ entryK l[j] back) ++ stockT back (decide (k + 1 = 0)) (rl.drop (k + 1))) := fun h0 => by
        rw [hall.out, hst, if_pos h0]; simp
      have HF1 : Hid (¬ k = 0 → res = (acc ++ [59] ++ entryK l[j] back) ++ stockT back (decide (k + 1 = 0)) (rl.drop (k + 1))) := fun h0 => by
        rw [hall.out, hst, if_neg h0]; simp
      have HA0 : Hid (bs acc ++ bs (entryK l[j] back) = bs (acc ++ entryK l[j] back)) := bs_append _ _
      have HA1 : Hid (bs acc ++ ⟨#[59]⟩ ++ bs (entryK l[j] back) = bs (acc ++ [59] ++ entryK l[j] back)) := by unfold Hid; rw [← bs_append, ← bs_append]; rfl
      have HL0 : Hid ((acc ++ entryK l[j] back).length ≤ 90 * (k + 1)) := by unfold Hid; rw [List.length_append]; omega
      have HL1 : Hid ((acc ++ [59] ++ entryK l[j] back).length ≤ 90 * (k + 1)) := by unfold Hid; rw [List.length_append, List.length_append, List.length_singleton]; omega
      have s1 : (bs (entryK l[j] back)).size ≤ 100 := by rw [bs_size]; omega
      have s0 : (bs acc).size ≤ 3600 := by rw [bs_size]; omega
      clear hst hel hwj hall hmem hc hrj
      generalize acc ++ entryK l[j] back = nx0 at *
      generalize acc ++ [59] ++ entryK l[j] back = nx1 at *
      generalize bs (entryK l[j] back) = b1 at *
      rw [ev] at q3
      unfold itemV at HCA
      rw [ev] at HCA
      clear ev
      generalize l[j].wants.length = wl at *
      generalize l[j].name = yn at *
      generalize l[j].major = ya at *
      generalize l[j].minor = yi at *
      generalize bs acc = ba at *
      have t2 : ((k : Int) + (m : Int)) % (l.length : Int) = (j : Int) := by rw [ej]; push_cast; rfl
      have t1 : ((k : Int) + (m : Int)).tmod (l.length : Int) = (j : Int) := by rw [Int.tmod_eq_emod_of_nonneg (by omega)]; exact t2
      have HEJ := hid' ej
      clear ej
      have j0 : (0 : Int) ≤ (j : Int) := by omega
      have j1 : (j : Int) < (l.length : Int) := by omega
      have hln : ¬ (l.length : Int) = 0 := by omega
      have k0 : (0 : Int) ≤ (k : Int) := by omega
      have k1 : (k : Int) < (l.length : Int) := by omega
      by_cases h0 : k = 0
      · have HF := hid' (HF0.out h0)
        have hk0 : ¬ (0 : Int) < (k : Int) := by omega
        have t3 : (m : Int) % (l.length : Int) = (j : Int) := by simpa [h0] using t2
        have t4 : (m : Int).tmod (l.length : Int) = (j : Int) := by simpa [h0] using t1
        subst h0
        clear HF0 HF1 HA1 HL1
        go_wp2_with fail
        refine HCA.out.mono ?_
        rintro e w2 ⟨rfl, hb2⟩
        have HBF := hid' (hbel.trans (hb2.mono hz))
        clear hb2
        go_wp2
        go_roundw
        case rel => exact ⟨0 + 1, nx0, by omega, HL0.out, by rw [HA0.out], by go_num, HBF.out, HF⟩
        case measure => simp [intOf] <;> omega
      · have HF := hid' (HF1.out h0)
        have hk0 : (0 : Int) < (k : Int) := by omega
        have hsz : (ba ++ (⟨#[59]⟩ : ByteArray)).size ≤ 3601 := by rw [ByteArray.size_append]; exact Nat.add_le_add_right s0 1
        clear HF0 HF1 HA0 HL0
        go_wp2_with fail
        refine HCA.out.mono ?_
        rintro e w2 ⟨rfl, hb2⟩
        have HBF := hid' (hbel.trans (hb2.mono hz))
        clear hb2
        go_wp2
        go_roundw
        case rel => exact ⟨k + 1, nx1, by omega, HL1.out, by rw [HA1.out], by go_num, HBF.out, HF⟩
        case measure => simp [intOf] <;> omega
    · have HF : Hid (res = acc) := by unfold Hid; rw [hall.out, st_end back rl k _ (by have := HRL.out; omega)]; simp
      go_wp2
      go_ret
      exact ⟨ret_str (by rw [HF.out]), hbel⟩

end Hst
end Go.Proofs.YtecocheolbkneaaDoor
namespace Go.Proofs.YtecocheolbkneaaDoor
open Go.RowKit
namespace Hst
set_option maxRecDepth 100000

/-- One element more, whatever its kind, over any base. -/
theorem step_gen2 {α : Type} (f : α → List Value) {e k base : Nat} {W w w1 wr : World} {v : Value} {acc : List α} {x : α} {g cap : Nat} (hbase : base = w.heap.size) (hown : wr.ownsRow base e k v acc.length (acc.flatMap f)) (hbel : Below base w wr) (hb4 : Below wr.heap.size wr W)
    (hown1 : w1.ownsRow base e k (.slice (some ⟨g, 0, none⟩) (acc.length + 1) cap) (acc.length + 1) (acc.flatMap f ++ f x)) (hgrow : W.grownBy w1 v.ownBlock) :
    w1.ownsRow base e k (.slice (some ⟨g, 0, none⟩) (acc.length + 1) cap) (acc ++ [x]).length ((acc ++ [x]).flatMap f) ∧ Below base w w1 := by
  subst hbase
  have hz := hbel.size
  refine ⟨?_, ?_⟩
  · have e1 : (acc ++ [x]).flatMap f = acc.flatMap f ++ f x := by simp
    rw [e1]
    simpa using hown1
  · exact (hbel.trans (hb4.mono hz)).grown hgrow (Nat.le_trans hz hb4.size) (fun k hk => (hown.lt k hk).1)

theorem info_needX : (Tryd.prog.info? 86).map (fun i => (i.zero, i.size, i.bytes)) = some (some (.agg #[.string ByteArray.empty, .slice none 0 0, .string ByteArray.empty]), 3, 56) := by kernel_rfl
theorem needX_one (n : NeedX) {a : Option Addr} {m c : Nat} (h : n.sp = .slice a m c) : ∀ u ∈ needXC n, u.oneCell' = true := by
  intro u hu; simp [needXC, h] at hu; rcases hu with rfl | rfl | rfl <;> rfl
theorem news_3 (w : World) (x y z : Value) (t : TypeId) : ∀ j u, [x, y, z][j]? = some u → (w.alloc (.cells #[x, y, z] t)).cell? ((⟨w.heap.size, 0, none⟩ : Addr).add j) = some u := by
  intro j u hu
  exact World.news_of_block (heap_alloc_new w (.cells #[x, y, z] t)) j u (by simpa using hu)
theorem news_3b (w : World) (o1 : Obj) (x y z : Value) (t : TypeId) : ∀ j u, [x, y, z][j]? = some u → ((w.alloc o1).alloc (.cells #[x, y, z] t)).cell? ((⟨w.heap.size + 1, 0, none⟩ : Addr).add j) = some u := by
  intro j u hu
  have := news_3 (w.alloc o1) x y z t j u hu
  simpa using this
theorem RowX.needs {w : World} {v : Value} {l : List NeedX} (h : RowX needXC 3 86 w v l) {k : Nat} (hk : k < l.length) :
    ∃ g o cap, v = .slice (some ⟨g, o, none⟩) l.length cap ∧ g < w.heap.size ∧ ∀ (j : Nat) (hj : j < l.length), w.cell? ⟨g, o + j * 3, none⟩ = some (.string (bs l[j].name)) ∧ w.cell? ⟨g, o + j * 3 + 1, none⟩ = some l[j].sp ∧ w.cell? ⟨g, o + j * 3 + 2, none⟩ = some (.string (bs l[j].text)) := by
  obtain ⟨g, o, cap, hv, hg, hc⟩ := h.cells needXC_len hk
  exact ⟨g, o, cap, hv, hg, fun j hj => ⟨hc j hj 0 (by omega), hc j hj 1 (by omega), hc j hj 2 (by omega)⟩⟩
theorem NeedIn.form {w : World} {n : NeedX} (h : NeedIn w n) : ∃ a c, n.sp = .slice a n.spans.length c := RowX.form h.sp

/-! ### Without -/
theorem wo_no (l : List NeedX) (name : Tx) (k : Nat) (hk : k < l.length) (h : l[k].name = name) : withoutN (l.drop k) name = withoutN (l.drop (k + 1)) name := by
  rw [List.drop_eq_getElem_cons hk]; unfold withoutN; rw [List.filter_cons]; simp [h]
theorem wo_yes (l : List NeedX) (name : Tx) (k : Nat) (hk : k < l.length) (h : ¬ l[k].name = name) : withoutN (l.drop k) name = l[k] :: withoutN (l.drop (k + 1)) name := by
  rw [List.drop_eq_getElem_cons hk]; unfold withoutN; rw [List.filter_cons]; simp [h]
theorem wo_end (l : List NeedX) (name : Tx) (k : Nat) (hk : ¬ k < l.length) : withoutN (l.drop k) name = [] := by
  rw [List.drop_of_length_le (by omega)]; rfl
theorem withoutN_mem {l : List NeedX} {name : Tx} {n : NeedX} (h : n ∈ withoutN l name) : n ∈ l := (List.mem_filter.1 h).1

set_option maxHeartbeats 1000000 in
theorem withoutN_any (v : Value) (l : List NeedX) (p : ByteArray) (w : World) (hl : NeedsIn w v l) (hn : l.length ≤ 100000) :
    Calls Tryd.prog 49 #[v, .string p] w fun e w' => ∃ v', e = .returned v' ∧ NeedsIn w' v' (withoutN l (tx p)) ∧ Below w.heap.size w w' := by
  obtain ⟨i0, hi, hz0, hz1, hz2⟩ := info_parts info_needX
  obtain ⟨a, cap, rfl⟩ := hl.1.form
  have HL := hid' hl
  clear hl
  go_enter Tryd.func49, Tryd.ntmps49
  go_wp2
  go_loopw [5, 10] (fun v i wr => ∃ (k : Nat) (acc : List NeedX), k ≤ l.length ∧ acc.length ≤ k ∧ i = .int .i64 k ∧ wr.ownsRow w.heap.size 86 3 v acc.length (acc.flatMap needXC) ∧ Below w.heap.size w wr ∧ Hid (withoutN l (tx p) = acc ++ withoutN (l.drop k) (tx p))) (fun _ i _ => l.length - (intOf i).toNat)
  case atStart => exact ⟨0, [], Nat.zero_le _, by simp, rfl, World.ownsRow_nil _ _ _ _, Below.refl _ _, rfl⟩
  case round =>
    obtain ⟨k, acc, hk, hacc, rfl, hown, hbel, hall⟩ := hrel
    have hz := hbel.size
    by_cases hlt : k < l.length
    · obtain ⟨g, o, cap', hv, hg, hc⟩ := (HL.out.below hbel).1.needs hlt
      simp at hv
      obtain ⟨rfl, rfl⟩ := hv
      obtain ⟨c0, c1, c2⟩ := hc k hlt
      obtain ⟨sa, sc, hsp⟩ := (HL.out.2 l[k] (List.getElem_mem hlt)).form
      clear hc
      by_cases he : l[k].name = tx p
      · have HF : Hid (withoutN l (tx p) = acc ++ withoutN (l.drop (k + 1)) (tx p)) := by unfold Hid; rw [hall.out, wo_no l (tx p) k hlt he]
        have hb : ((bs l[k].name).toList == p.toList) = true := by rw [he, bs_tx]; simp
        clear he hall
        generalize l[k] = x at *
        go_wp2
        go_roundw
        case rel => exact ⟨k + 1, acc, by omega, by omega, by go_num, hown.alloc _, hbel.alloc hz _, HF⟩
        case measure => simp [intOf] <;> omega
      · have HF : Hid (withoutN l (tx p) = (acc ++ [l[k]]) ++ withoutN (l.drop (k + 1)) (tx p)) := by unfold Hid; rw [hall.out, wo_yes l (tx p) k hlt he]; simp
        have hb : ((bs l[k].name).toList == p.toList) = false := by rw [tx_toList, tx_toList, tx_bs]; simp [he]
        clear he hall
        generalize l[k] = x at *
        obtain ⟨xn, xsp, xs, xt⟩ := x
        simp only at hsp c0 c1 c2 hb
        subst hsp
        go_wp2_with (first
          | (at_builtin; refine wpList_append_lies _ rfl _ _ 89 rfl w.heap.size 86 i0 (.agg #[.string ByteArray.empty, .slice none 0 0, .string ByteArray.empty]) 3 56 Tryd.underlying89 hi hz0 hz1 hz2 rfl (by omega) _ _ _ rfl ((hown.alloc _).alloc _) ⟨wr.heap.size + 1, 0, none⟩ 1 1 [.string (bs xn), .slice sa xs.length sc, .string (bs xt)] rfl rfl (news_3b _ _ _ _ _ _) (needX_one ⟨xn, _, xs, xt⟩ rfl) (by omega) (by unfold maxLen; omega) (by omega) (by simp; omega) (wr.heap.size + 2) (by simp) ?_; intro g1 cap1 w1 hown1 hgrow hat hlt1))
        have R := step_gen2 needXC (x := ⟨xn, .slice sa xs.length sc, xs, xt⟩) rfl hown hbel (((Below.refl _ _).alloc (Nat.le_refl _) _).alloc (by simp) _) hown1 hgrow
        clear hown1 hgrow hown
        go_wp2
        go_roundw
        case rel => exact ⟨k + 1, _, by omega, by simp; omega, by go_num, R.1, R.2, HF⟩
        case measure => simp [intOf] <;> omega
    · have HF : Hid (withoutN l (tx p) = acc) := by unfold Hid; rw [hall.out, wo_end l (tx p) k hlt]; simp
      have HR := hid' (And.intro hown hbel)
      clear hown hbel hall
      go_wp2
      go_ret
      refine ⟨_, rfl, ?_, HR.out.2⟩
      rw [HF.out]
      refine ⟨RowX.of_own HR.out.1, fun n hn => ((HL.out.2 n ?_).below HR.out.2)⟩
      rw [← HF.out] at hn
      exact withoutN_mem hn

end Hst
end Go.Proofs.YtecocheolbkneaaDoor
namespace Go.Proofs.YtecocheolbkneaaDoor
open Go.RowKit
namespace Hst
set_option maxRecDepth 100000

theorem info_want : (Tryd.prog.info? 52).map (fun i => (i.zero, i.size, i.bytes)) = some (some (.agg #[.int .i64 0, .int .i64 0, .int .i64 0, .int .i64 0]), 4, 32) := by kernel_rfl
theorem any_take {α : Type} (p : α → Bool) (l : List α) (j : Nat) (hj : j < l.length) : (l.take (j + 1)).any p = ((l.take j).any p || p l[j]) := by
  rw [List.take_succ_eq_append_getElem hj, List.any_append]; simp
theorem want_one (x : WantX) : ∀ u ∈ wantC x, u.oneCell' = true := by intro u hu; simp [wantC] at hu; rcases hu with rfl | rfl | rfl | rfl <;> rfl
theorem knews_4 (w : World) (x y z u' : Value) (t : TypeId) : ∀ j u, [x, y, z, u'][j]? = some u → (w.alloc (.cells #[x, y, z, u'] t)).cell? ((⟨w.heap.size, 0, none⟩ : Addr).add j) = some u := by
  intro j u hu
  exact World.news_of_block (heap_alloc_new w (.cells #[x, y, z, u'] t)) j u (by simpa using hu)

set_option maxHeartbeats 8000000 in
theorem plain_any (a : Option Addr) (cap : Nat) (l : List WantX) (w : World) (hr : RowR w a l.length cap 4 (l.flatMap wantC)) (hl : l.length ≤ 9223372036854775807) (hok : ∀ y ∈ l, WantOk y) :
    Calls Tryd.prog 21 #[.slice a l.length cap] w fun e w' => ∃ v, e = .returned v ∧ w'.ownsRow w.heap.size 52 4 v (plainK l).length ((plainK l).flatMap wantC) ∧ Below w.heap.size w w' := by
  obtain ⟨i0, hi, iz0, iz1, iz2⟩ := info_parts info_want
  have HR := hid' hr
  have HO := hid' hok
  have HE : Hid (plainK l = plainGo [] (l.drop 0)) := rfl
  generalize plainK l = res at *
  clear hr hok
  go_enter Tryd.func21, Tryd.ntmps21
  go_wp2
  go_loopw [3, 4] (fun v i wr => ∃ (k : Nat) (out : List WantX), k ≤ l.length ∧ out.length ≤ 6 ∧ i = .int .i64 k ∧ wr.ownsRow w.heap.size 52 4 v out.length (out.flatMap wantC) ∧ Below w.heap.size w wr ∧ Hid ((∀ y ∈ out, WantOk y) ∧ res = plainGo out (l.drop k))) (fun _ i _ => l.length - (intOf i).toNat)
  case atStart => exact ⟨0, [], Nat.zero_le _, by simp, rfl, World.ownsRow_nil _ _ _ _, Below.refl _ _, ⟨by simp, HE.out⟩⟩
  case round =>
    obtain ⟨k, out, hk, hol, rfl, hown, hbel, hall⟩ := hrel
    have hz := hbel.size
    obtain ⟨va, vc, rfl⟩ := own_slice hown
    have HOK := hid' hall.out.1
    have HRE := hid' hall.out.2
    clear hall
    have fin : (¬ k < l.length ∨ 6 ≤ out.length) → res = out := fun h => by
      rw [HRE.out]
      rcases h with h | h
      · exact kpl_end out l k h
      · exact kpl_full out _ h
    by_cases hlt : k < l.length
    · by_cases h6 : 6 ≤ out.length
      · have HF : Hid (res = out) := fin (.inr h6)
        have b6 : ¬ (out.length : Int) < 6 := by omega
        have k1 : (k : Int) < (l.length : Int) := by omega
        have HW := hid' hown
        clear hown fin
        go_wp2
        go_ret
        exact ⟨_, rfl, by rw [HF.out]; exact HW.out, hbel⟩
      · have b6 : (out.length : Int) < 6 := by omega
        have k0 : (0 : Int) ≤ (k : Int) := by omega
        have k1 : (k : Int) < (l.length : Int) := by omega
        have hxo := HO.out l[k] (List.getElem_mem hlt)
        have HNX := hid' (fun w => names_any l[k].name w hxo.name)
        have P1 := hid' (kpl_old out l k hlt h6)
        have P2 := hid' (kpl_new out l k hlt h6)
        have HCX : Hid (∀ (W : World), Below w.heap.size w W → ∃ g o, a = some ⟨g, o, none⟩ ∧ g < W.heap.size ∧ W.cell? ⟨g, o + k * 4, none⟩ = some (.int .i64 l[k].name) ∧ W.cell? ⟨g, o + k * 4 + 1, none⟩ = some (.int .i64 l[k].sign) ∧ W.cell? ⟨g, o + k * 4 + 2, none⟩ = some (.int .i64 l[k].major) ∧ W.cell? ⟨g, o + k * 4 + 3, none⟩ = some (.int .i64 l[k].minor)) := fun W hb => by
          obtain ⟨g, o, ha, hg, hc⟩ := (HR.out.below hb).wants rfl hlt
          exact ⟨g, o, ha, hg, hc k hlt⟩
        have HXO := hid' hxo
        generalize hx : l[k] = x at *
        clear hx hxo fin
        obtain ⟨wo, rfl⟩ : ∃ wo, wo = wr := ⟨_, rfl⟩
        have HBO := hid' hbel
        have HWO := hid' hown
        clear hbel hown
        go_wp2
        go_loopw [5, 6] (fun t i wr => ∃ (j : Nat), j ≤ out.length ∧ t = .bool ((out.take j).any (sameN x)) ∧ i = .int .i64 j ∧ Below wo.heap.size wo wr) (fun _ i _ => out.length - (intOf i).toNat)
        case atStart => exact ⟨0, Nat.zero_le _, rfl, rfl, Below.refl _ _⟩
        case round =>
          obtain ⟨j, hj, rfl, rfl, hbel2⟩ := hrel
          have hz2 := hbel2.size
          have HB2 := hid' (HBO.out.trans (hbel2.mono hz))
          have hown2 := own_below HWO.out hbel2
          obtain ⟨g, o, rfl, hg, c0, c1, c2, c3⟩ := HCX.out wr HB2.out
          by_cases hjl : j < out.length
          · obtain ⟨g2, o2, hv2, hg2, hc2⟩ := (RowR.of_own hown2).wants rfl hjl
            subst hv2
            have d0 := (hc2 j hjl).1
            have HNY := hid' (fun w => names_any out[j].name w (HOK.out out[j] (List.getElem_mem hjl)).name)
            have HT : Hid ((out.take (j + 1)).any (sameN x) = ((out.take j).any (sameN x) || sameN x out[j])) := any_take _ out j hjl
            have HSN : Hid (sameN x out[j] = ((bs (nameK out[j].name)).toList == (bs (nameK x.name)).toList)) := by
              unfold Hid sameN
              rw [tx_toList, tx_toList, tx_bs, tx_bs]
              by_cases e : nameK out[j].name = nameK x.name
              · simp [e]
              · simp [e]
            clear hc2
            generalize sameN x out[j] = sb at *
            generalize (out.take j).any (sameN x) = tb at *
            generalize out[j] = y at *
            generalize bs (nameK y.name) = by1 at *
            generalize bs (nameK x.name) = bx1 at *
            generalize y.name = yn at *
            generalize x.name = xn at *
            have j0 : (0 : Int) ≤ (j : Int) := by omega
            have j1 : (j : Int) < (out.length : Int) := by omega
            go_wp2_with fail
            refine (HNY.out _).mono ?_
            rintro e w2 ⟨rfl, hb2⟩
            have e0 := ((bcell hb2).1 g (o + k * 4) hg).trans c0
            have hg3 : g < w2.heap.size := by have := hb2.size; omega
            have HB3 := hid' (hbel2.trans (hb2.mono hz2))
            have hz3 := HB3.out.size
            clear hb2 hbel2 c0 c1 c2 c3
            go_wp2_with fail
            refine (HNX.out _).mono ?_
            rintro e w3 ⟨rfl, hb3⟩
            have HB4 := hid' (HB3.out.trans (hb3.mono hz3))
            clear hb3
            cases tb
            · have hbb : (by1.toList == bx1.toList) = sb := HSN.out.symm
              go_wp2
              go_roundw
              case rel => exact ⟨j + 1, by omega, by rw [HT.out]; simp, by go_num, HB4.out⟩
              case measure => simp [intOf] <;> omega
            · go_wp2
              go_roundw
              case rel => exact ⟨j + 1, by omega, by rw [HT.out]; simp, by go_num, HB4.out⟩
              case measure => simp [intOf] <;> omega
          · have ej : j = out.length := by omega
            subst ej
            rw [List.take_length]
            rcases hany : out.any (sameN x) with _ | _
            · have HF : Hid (res = plainGo (out ++ [x]) (l.drop (k + 1))) := by unfold Hid; rw [HRE.out]; exact P2.out hany
              clear hany P1 P2
              have HOX : Hid (∀ y ∈ out ++ [x], WantOk y) := fun y hy => by
                rcases List.mem_append.1 hy with hy | hy
                · exact HOK.out y hy
                · rw [List.mem_singleton.1 hy]; exact HXO.out
              obtain ⟨xn, xs, xa, xi⟩ := x
              simp only at c0 c1 c2 c3
              go_wp2_with (first | (at_builtin; refine wpList_append_lies _ rfl _ _ 39 rfl w.heap.size 52 i0 (.agg #[.int .i64 0, .int .i64 0, .int .i64 0, .int .i64 0]) 4 32 Tryd.underlying39 hi iz0 iz1 iz2 rfl (by omega) _ _ _ rfl (hown2.alloc _) ⟨wr.heap.size, 0, none⟩ 1 1 [.int .i64 xn, .int .i64 xs, .int .i64 xa, .int .i64 xi] rfl rfl (knews_4 _ _ _ _ _ _) (want_one ⟨xn, xs, xa, xi⟩) (by omega) (by unfold maxLen; omega) (by omega) (by simp; omega) (wr.heap.size + 1) (by simp) ?_; intro g1 cap1 w4 hown4 hgrow hat hlt1))
              have R := step_gen2 wantC (x := ⟨xn, xs, xa, xi⟩) rfl hown2 HB2.out ((Below.refl _ _).alloc (Nat.le_refl _) _) hown4 hgrow
              clear hown4 hgrow hown2
              go_wp2
              go_roundw
              case rel => exact ⟨k + 1, _, by omega, by simp; omega, by go_num, R.1, R.2, ⟨HOX.out, HF.out⟩⟩
              case measure => simp [intOf] <;> omega
            · have HF : Hid (res = plainGo out (l.drop (k + 1))) := by unfold Hid; rw [HRE.out]; exact P1.out hany
              clear hany P1 P2
              go_wp2
              go_roundw
              case rel => exact ⟨k + 1, out, by omega, hol, by go_num, hown2, HB2.out, ⟨HOK.out, HF.out⟩⟩
              case measure => simp [intOf] <;> omega
    · have HF : Hid (res = out) := fin (.inl hlt)
      have k1 : ¬ (k : Int) < (l.length : Int) := by omega
      have HW := hid' hown
      clear hown fin
      go_wp2
      go_ret
      exact ⟨_, rfl, by rw [HF.out]; exact HW.out, hbel⟩

end Hst
end Go.Proofs.YtecocheolbkneaaDoor
