/- Kwants, Ptreea, Pstockc, Pstockd, Pstocke -/
import Derived.Test.YtecocheolbkneaaDoorW13
import Derived.Test.YtecocheolbkneaaDoorW10
import Derived.Test.YtecocheolbkneaaDoorW12
namespace Go.Proofs.YtecocheolbkneaaDoor
open Go.RowKit
namespace Hst
set_option maxRecDepth 100000

def wantsV (o : Option ItemX) : Value := match o with
  | some x => .tuple #[x.wv, .bool true]
  | none => .tuple #[.slice none 0 0, .bool false]
theorem wantsV_some {x : ItemX} {v : Value} (h : x.wv = v) : Ending.returned (.tuple #[v, .bool true]) = .returned (wantsV (some x)) := by rw [← h]; rfl
theorem fd_yes (p : ItemX → Bool) (l : List ItemX) (k : Nat) (hk : k < l.length) (h : p l[k] = true) : (l.drop k).find? p = some l[k] := by
  rw [List.drop_eq_getElem_cons hk, List.find?_cons_of_pos h]
theorem fd_no (p : ItemX → Bool) (l : List ItemX) (k : Nat) (hk : k < l.length) (h : p l[k] = false) : (l.drop k).find? p = (l.drop (k + 1)).find? p := by
  rw [List.drop_eq_getElem_cons hk, List.find?_cons_of_neg (by rw [h]; simp)]
theorem fd_end (p : ItemX → Bool) (l : List ItemX) (k : Nat) (hk : ¬ k < l.length) : (l.drop k).find? p = none := by
  rw [List.drop_of_length_le (by omega)]; rfl

set_option maxHeartbeats 4000000 in
theorem wants_any (a : Option Addr) (cap : Nat) (l : List ItemX) (n v : ByteArray) (w : World) (hr : ItemsR w a cap l) (hl : l.length ≤ 1000) (hok : ∀ x ∈ l, ItemOk x) (hn : n.size ≤ 100000) (hv : v.size ≤ 100000) :
    Calls Tryd.prog 55 #[.slice a l.length cap, .string n, .string v] w fun e w' => e = .returned (wantsV (l.find? (isHead (tx n) (tx v)))) ∧ Below w.heap.size w w' := by
  have HR := hid' hr
  have HO := hid' hok
  have HE : Hid (l.find? (isHead (tx n) (tx v)) = (l.drop 0).find? (isHead (tx n) (tx v))) := rfl
  have HSM : Hid (n ++ ⟨#[64]⟩ ++ v = bs (tx n ++ [64] ++ tx v)) := by unfold Hid; rw [← bs_append, ← bs_append, bs_tx, bs_tx]; rfl
  have hsz : (n ++ (⟨#[64]⟩ : ByteArray)).size ≤ 100001 := by rw [ByteArray.size_append]; exact Nat.add_le_add_right hn 1
  generalize l.find? (isHead (tx n) (tx v)) = res at *
  clear hr hok
  go_enter Tryd.func55, Tryd.ntmps55
  go_wp2
  go_loopw [8] (fun i wr => ∃ k : Nat, k ≤ l.length ∧ i = .int .i64 k ∧ Below w.heap.size w wr ∧ Hid (res = (l.drop k).find? (isHead (tx n) (tx v)))) (fun i _ => l.length - (intOf i).toNat)
  case atStart => exact ⟨0, Nat.zero_le _, rfl, Below.refl _ _, HE⟩
  case round =>
    obtain ⟨k, hk, rfl, hbel, hall⟩ := hrel
    have hz := hbel.size
    by_cases hlt : k < l.length
    · obtain ⟨g, o, rfl, hg, hc⟩ := (HR.out.row.below hbel).items rfl hlt
      obtain ⟨c0, c1, c2, c3⟩ := hc k hlt
      have hmem : l[k] ∈ l := List.getElem_mem hlt
      have hxo := HO.out _ hmem
      obtain ⟨va, vc, ev, _⟩ := HR.out.each _ hmem
      rw [ev] at c3
      have HH := hid' (fun w => head_any l[k].name l[k].major l[k].minor va l[k].wants.length vc w hxo.name hxo.major hxo.minor)
      have HY := hid' (fd_yes (isHead (tx n) (tx v)) l k hlt)
      have HN := hid' (fd_no (isHead (tx n) (tx v)) l k hlt)
      have HB : Hid (isHead (tx n) (tx v) l[k] = ((bs (headK l[k].name l[k].major l[k].minor)).toList == (n ++ ⟨#[64]⟩ ++ v).toList)) := by
        unfold Hid isHead
        rw [HSM.out, tx_toList, tx_toList, tx_bs, tx_bs]
        generalize tx n ++ [64] ++ tx v = z
        by_cases e : headK l[k].name l[k].major l[k].minor = z
        · simp [e]
        · simp [e]
      have HEV := hid' ev
      clear hc hmem hxo ev
      generalize isHead (tx n) (tx v) l[k] = hb at *
      generalize hx : l[k] = x at *
      clear hx
      generalize bs (headK x.name x.major x.minor) = b1 at *
      have k0 : (0 : Int) ≤ (k : Int) := by omega
      have k1 : (k : Int) < (l.length : Int) := by omega
      go_wp2_with fail
      refine (HH.out _).mono ?_
      rintro e w2 ⟨rfl, hb2⟩
      have e3 := ((bcell hb2).1 g (o + k * 4 + 3) hg).trans c3
      have hg2 : g < w2.heap.size := by have := hb2.size; omega
      have HB2 := hid' (hbel.trans (hb2.mono hz))
      clear hb2 c0 c1 c2 c3
      have hbb : (b1.toList == (n ++ (⟨#[64]⟩ : ByteArray) ++ v).toList) = hb := HB.out.symm
      cases hb
      · have HF : Hid (res = (l.drop (k + 1)).find? (isHead (tx n) (tx v))) := by unfold Hid; rw [hall.out]; exact HN.out rfl
        clear HN HY hall HB
        go_wp2
        go_roundw
        case rel => exact ⟨k + 1, by omega, by go_num, HB2.out, HF⟩
        case measure => simp [intOf] <;> omega
      · have HF : Hid (res = some x) := by unfold Hid; rw [hall.out]; exact HY.out rfl
        clear HN HY hall HB
        go_wp2
        go_ret2
        refine ⟨?_, HB2.out⟩
        rw [HF.out]
        exact wantsV_some HEV.out
    · have HF : Hid (res = none) := by unfold Hid; rw [hall.out, fd_end _ l k hlt]
      go_wp2
      go_ret2
      exact ⟨by rw [HF.out]; rfl, hbel⟩

theorem kag_yes (path : Tx) (l : List Tx) (k : Nat) (hk : k < l.length) (h : (cutR 64 l[k]).1 = path) : atGoK path (l.drop k) = (cutR 64 l[k]).2.1 := by
  rw [List.drop_eq_getElem_cons hk, atGoK, if_pos h]
theorem kag_no (path : Tx) (l : List Tx) (k : Nat) (hk : k < l.length) (h : ¬ (cutR 64 l[k]).1 = path) : atGoK path (l.drop k) = atGoK path (l.drop (k + 1)) := by
  rw [List.drop_eq_getElem_cons hk, atGoK, if_neg h]
theorem kag_end (path : Tx) (l : List Tx) (k : Nat) (hk : ¬ k < l.length) : atGoK path (l.drop k) = [] := by
  rw [List.drop_of_length_le (by omega)]; rfl
theorem splitK_len (n : Int) (t : Tx) : (splitK n t).length ≤ t.length + 1 := by
  unfold splitK
  split
  · simp
  · exact splitL_len n t
theorem splitK_size (n : Int) (s : ByteArray) : ∀ x ∈ splitK n (tx s), x.length ≤ s.size := by
  intro x hx
  unfold splitK at hx
  split at hx
  · simp at hx
  · obtain ⟨j, hj, rfl⟩ := List.mem_iff_getElem.1 hx
    have := piece_size n s j hj
    rw [bs_size] at this
    exact this

set_option maxHeartbeats 4000000 in
theorem kat_any (t p : ByteArray) (w : World) (ht : t.size ≤ 100000) :
    Calls Tryd.prog 89 #[.string t, .string p] w fun e w' => e = .returned (.string (bs (atK (tx t) (tx p)))) ∧ Below w.heap.size w w' := by
  have HS := hid' (ksplit_any t 59 w ht)
  have HE : Hid (atK (tx t) (tx p) = atGoK (tx p) ((splitK 59 (tx t)).drop 0)) := rfl
  have hle := splitK_len 59 (tx t)
  rw [tx_length] at hle
  have HPS := hid' (splitK_size 59 t)
  generalize atK (tx t) (tx p) = res at *
  generalize splitK 59 (tx t) = d at *
  have HLE : Hid (d.length ≤ 100001) := by unfold Hid; omega
  clear hle
  go_enter Tryd.func89, Tryd.ntmps89
  go_wp2_with fail
  refine HS.out.mono ?_
  rintro e w1 ⟨v, rfl, hrow, hb1⟩
  obtain ⟨a, cap, rfl, hst⟩ := RowV hrow
  have HB1 := hid' hb1
  have HST := hid' hst
  have hz1 := hb1.size
  clear hb1 hrow hst
  go_wp2
  go_loopw [6] (fun i wr => ∃ k : Nat, k ≤ d.length ∧ i = .int .i64 k ∧ Below w1.heap.size w1 wr ∧ Hid (res = atGoK (tx p) (d.drop k))) (fun i _ => d.length - (intOf i).toNat)
  case atStart => exact ⟨0, Nat.zero_le _, rfl, Below.refl _ _, HE⟩
  case round =>
    obtain ⟨k, hk, rfl, hbel, hall⟩ := hrel
    have hz := hbel.size
    have HBW := hid' (HB1.out.trans (hbel.mono hz1))
    by_cases hlt : k < d.length
    · obtain ⟨g, o, rfl, hg, hc⟩ := (HST.out.below hbel).cells hlt
      have c0 := hc k hlt
      have HAH := hid' (ahead_any (bs d[k]) 64 wr (by rw [bs_size]; have := HPS.out d[k] (List.getElem_mem hlt); omega))
      rw [tx_bs] at HAH
      have HY := hid' (kag_yes (tx p) d k hlt)
      have HN := hid' (kag_no (tx p) d k hlt)
      have hle := HLE.out
      clear hc
      generalize bs d[k] = q at *
      generalize (cutR 64 d[k]).1 = x1 at *
      generalize (cutR 64 d[k]).2.1 = x2 at *
      have k0 : (0 : Int) ≤ (k : Int) := by omega
      have k1 : (k : Int) < (d.length : Int) := by omega
      by_cases he : x1 = tx p
      · have HF : Hid (res = x2) := by unfold Hid; rw [hall.out]; exact HY.out he
        have hbb : ((bs x1).toList == p.toList) = true := by rw [he, bs_tx]; simp
        clear HY HN hall he
        generalize bs x1 = b1 at *
        go_wp2_with fail
        refine HAH.out.mono ?_
        rintro e w2 ⟨rfl, hb2⟩
        have HB2 := hid' (HBW.out.trans (hb2.mono (by omega)))
        clear hb2
        go_wp2
        go_ret
        exact ⟨ret_str (by rw [HF.out]), HB2.out⟩
      · have HF : Hid (res = atGoK (tx p) (d.drop (k + 1))) := by unfold Hid; rw [hall.out]; exact HN.out he
        have hbb : ((bs x1).toList == p.toList) = false := by rw [tx_toList, tx_toList, tx_bs]; simp [he]
        clear HY HN hall he
        generalize bs x1 = b1 at *
        go_wp2_with fail
        refine HAH.out.mono ?_
        rintro e w2 ⟨rfl, hb2⟩
        have HB2 := hid' (hbel.trans (hb2.mono hz))
        clear hb2
        go_wp2
        go_roundw
        case rel => exact ⟨k + 1, by omega, by go_num, HB2.out, HF⟩
        case measure => simp [intOf] <;> omega
    · have HF : Hid (res = []) := by unfold Hid; rw [hall.out, kag_end _ d k hlt]
      go_wp2
      go_ret
      exact ⟨ret_str (by rw [HF.out]; rfl), HBW.out⟩

end Hst
end Go.Proofs.YtecocheolbkneaaDoor
namespace Go.Proofs.YtecocheolbkneaaDoor
open Go.RowKit
namespace Hst
set_option maxRecDepth 100000

theorem spanC_len (s : Int × Int) : (spanC s).length = 2 := rfl
theorem RowX.spans {w : World} {v : Value} {sp : List (Int × Int)} (h : RowX spanC 2 106 w v sp) {k : Nat} (hk : k < sp.length) :
    ∃ g o cap, v = .slice (some ⟨g, o, none⟩) sp.length cap ∧ g < w.heap.size ∧ ∀ (j : Nat) (hj : j < sp.length), w.cell? ⟨g, o + j * 2, none⟩ = some (.int .i64 sp[j].1) ∧ w.cell? ⟨g, o + j * 2 + 1, none⟩ = some (.int .i64 sp[j].2) := by
  obtain ⟨g, o, cap, hv, hg, hc⟩ := h.cells spanC_len hk
  exact ⟨g, o, cap, hv, hg, fun j hj => ⟨hc j hj 0 (by omega), hc j hj 1 (by omega)⟩⟩

set_option maxHeartbeats 1000000 in
theorem fitsX_any (v : Value) (n : Int) (sp : List (Int × Int)) (w : World) (hrow : SpansIn w v sp) (hne : sp ≠ []) (hl : sp.length ≤ 1000) :
    Calls Tryd.prog 41 #[.agg #[v], .int .i64 n] w fun e w' => e = .returned (.bool (fitsP sp n)) ∧ Below w.heap.size w w' := by
  obtain ⟨g, o, cap, rfl, hg2, hcell⟩ := RowX.spans hrow (List.length_pos_iff.2 hne)
  have HC := hid hcell
  clear hcell hrow
  go_enter Tryd.func41, Tryd.ntmps41
  go_wp2
  go_loopw [10] (fun i wr => ∃ (k : Nat), k ≤ sp.length ∧ i = .int .i64 k ∧ Below w.heap.size w wr ∧ Hid (fitsP sp n = fitsP (sp.drop k) n)) (fun i _ => sp.length - (intOf i).toNat)
  case atStart => exact ⟨0, by omega, rfl, (Below.refl _ _).alloc (Nat.le_refl _) _, rfl⟩
  case round =>
    obtain ⟨k, hk, rfl, hbel, hall⟩ := hrel
    have hz := hbel.size
    by_cases hlt : k < sp.length
    · obtain ⟨c0, c1⟩ := HC.out k hlt
      have hc0 := (hbel.cell (p := ⟨g, o + k * 2, none⟩) hg2).trans c0
      have hc1 := (hbel.cell (p := ⟨g, o + k * 2 + 1, none⟩) hg2).trans c1
      clear c0 c1
      by_cases h1 : sp[k].1 ≤ n
      · by_cases h2 : n ≤ sp[k].2
        · have HF : Hid (fitsP sp n = true) := by unfold Hid; rw [hall.out, fp_yes sp k n hlt h1 h2]
          generalize sp[k].1 = x at *
          generalize sp[k].2 = y at *
          go_wp2
          go_ret
          exact ⟨ret_bool (by rw [HF.out]), hbel.alloc hz _⟩
        · have HF : Hid (fitsP sp n = fitsP (sp.drop (k + 1)) n) := by unfold Hid; rw [hall.out, fp_no sp k n hlt (by omega)]
          generalize sp[k].1 = x at *
          generalize sp[k].2 = y at *
          go_wp2
          go_roundw
          case rel => exact ⟨k + 1, by omega, by go_num, hbel.alloc hz _, HF⟩
          case measure => simp [intOf]; omega
      · have HF : Hid (fitsP sp n = fitsP (sp.drop (k + 1)) n) := by unfold Hid; rw [hall.out, fp_no sp k n hlt (by omega)]
        generalize sp[k].1 = x at *
        generalize sp[k].2 = y at *
        go_wp2
        go_roundw
        case rel => exact ⟨k + 1, by omega, by go_num, hbel.alloc hz _, HF⟩
        case measure => simp [intOf]; omega
    · have HF : Hid (fitsP sp n = false) := by unfold Hid; rw [hall.out, fp_end sp k n hlt]
      go_wp2
      go_ret
      exact ⟨ret_bool (by rw [HF.out]), hbel⟩

/-! ### packages -/
theorem RowX.pks {w : World} {v : Value} {l : List PkX} (h : RowX pkXC 4 130 w v l) {k : Nat} (hk : k < l.length) :
    ∃ g o cap, v = .slice (some ⟨g, o, none⟩) l.length cap ∧ g < w.heap.size ∧ ∀ (j : Nat) (hj : j < l.length), w.cell? ⟨g, o + j * 4, none⟩ = some (.string (bs l[j].path)) ∧ w.cell? ⟨g, o + j * 4 + 1, none⟩ = some (.string (bs l[j].e.name)) ∧ w.cell? ⟨g, o + j * 4 + 2, none⟩ = some (.int .i64 l[j].e.ver) ∧ w.cell? ⟨g, o + j * 4 + 3, none⟩ = some l[j].e.needs := by
  obtain ⟨g, o, cap, hv, hg, hc⟩ := h.cells pkXC_len hk
  exact ⟨g, o, cap, hv, hg, fun j hj => ⟨hc j hj 0 (by omega), hc j hj 1 (by omega), hc j hj 2 (by omega), hc j hj 3 (by omega)⟩⟩
theorem EntIn.form' {w : World} {e : EntX} (h : EntIn w e) : ∃ a c, e.needs = .slice a e.nd.length c := RowX.form h.1.1

set_option maxHeartbeats 1000000 in
theorem count_any (v : Value) (l : List PkX) (w : World) (hl : PksIn w v l) :
    Calls Tryd.prog 117 #[.agg #[v]] w fun e w' => e = .returned (.int .i64 l.length) ∧ Below w.heap.size w w' := by
  obtain ⟨a, cap, rfl⟩ := hl.1.form
  clear hl
  go_enter Tryd.func117, Tryd.ntmps117
  go_wp2
  go_ret
  exact ⟨rfl, (Below.refl _ _).alloc (Nat.le_refl _) _⟩

theorem ha_yes (l : List PkX) (p : Tx) (k : Nat) (hk : k < l.length) (h : l[k].path = p) : hasAtP (l.drop k) p = true := by
  rw [List.drop_eq_getElem_cons hk]; unfold hasAtP; rw [List.any_cons]; simp [h]
theorem ha_no (l : List PkX) (p : Tx) (k : Nat) (hk : k < l.length) (h : ¬ l[k].path = p) : hasAtP (l.drop k) p = hasAtP (l.drop (k + 1)) p := by
  rw [List.drop_eq_getElem_cons hk]; unfold hasAtP; rw [List.any_cons]; simp [h]
theorem ha_end (l : List PkX) (p : Tx) (k : Nat) (hk : ¬ k < l.length) : hasAtP (l.drop k) p = false := by
  rw [List.drop_of_length_le (by omega)]; rfl

set_option maxHeartbeats 1000000 in
theorem hasAt_any (v : Value) (l : List PkX) (p : ByteArray) (w : World) (hl : PksIn w v l) (hn : l.length ≤ 100000) :
    Calls Tryd.prog 100 #[.agg #[v], .string p] w fun e w' => e = .returned (.bool (hasAtP l (tx p))) ∧ Below w.heap.size w w' := by
  obtain ⟨a, cap, rfl⟩ := hl.1.form
  have HL := hid' hl
  clear hl
  go_enter Tryd.func100, Tryd.ntmps100
  go_wp2
  go_loopw [10] (fun i wr => ∃ k : Nat, k ≤ l.length ∧ i = .int .i64 k ∧ Below w.heap.size w wr ∧ Hid (hasAtP l (tx p) = hasAtP (l.drop k) (tx p))) (fun i _ => l.length - (intOf i).toNat)
  case atStart => exact ⟨0, Nat.zero_le _, rfl, (Below.refl _ _).alloc (Nat.le_refl _) _, rfl⟩
  case round =>
    obtain ⟨k, hk, rfl, hbel, hall⟩ := hrel
    have hz := hbel.size
    by_cases hlt : k < l.length
    · obtain ⟨g, o, cap', hv, hg, hc⟩ := (HL.out.below hbel).1.pks hlt
      simp at hv
      obtain ⟨rfl, rfl⟩ := hv
      obtain ⟨c0, c1, c2, c3⟩ := hc k hlt
      obtain ⟨sa, sc, hsp⟩ := (HL.out.2 l[k] (List.getElem_mem hlt)).form'
      clear hc
      by_cases he : l[k].path = tx p
      · have HF : Hid (hasAtP l (tx p) = true) := by unfold Hid; rw [hall.out, ha_yes l (tx p) k hlt he]
        have hb : ((bs l[k].path).toList == p.toList) = true := by rw [he, bs_tx]; simp
        clear he hall
        generalize l[k] = x at *
        go_wp2
        go_ret
        exact ⟨ret_bool (by rw [HF.out]), hbel.alloc hz _⟩
      · have HF : Hid (hasAtP l (tx p) = hasAtP (l.drop (k + 1)) (tx p)) := by unfold Hid; rw [hall.out, ha_no l (tx p) k hlt he]
        have hb : ((bs l[k].path).toList == p.toList) = false := by rw [tx_toList, tx_toList, tx_bs]; simp [he]
        clear he hall
        generalize l[k] = x at *
        go_wp2
        go_roundw
        case rel => exact ⟨k + 1, by omega, by go_num, hbel.alloc hz _, HF⟩
        case measure => simp [intOf] <;> omega
    · have HF : Hid (hasAtP l (tx p) = false) := by unfold Hid; rw [hall.out, ha_end l (tx p) k hlt]
      go_wp2
      go_ret
      exact ⟨ret_bool (by rw [HF.out]), hbel⟩

theorem hp_yes (l : List PkX) (p : Tx) (v : Int) (k : Nat) (hk : k < l.length) (h : l[k].e.name = p) (h' : l[k].e.ver = v) : hasP (l.drop k) p v = true := by
  rw [List.drop_eq_getElem_cons hk]; unfold hasP; rw [List.any_cons]; simp [h, h']
theorem hp_no (l : List PkX) (p : Tx) (v : Int) (k : Nat) (hk : k < l.length) (h : ¬ (l[k].e.name = p ∧ l[k].e.ver = v)) : hasP (l.drop k) p v = hasP (l.drop (k + 1)) p v := by
  rw [List.drop_eq_getElem_cons hk]; unfold hasP; rw [List.any_cons]
  have : (decide (l[k].e.name = p) && decide (l[k].e.ver = v)) = false := by
    simp only [Bool.and_eq_false_iff, decide_eq_false_iff_not]
    by_cases h1 : l[k].e.name = p
    · exact .inr fun h2 => h ⟨h1, h2⟩
    · exact .inl h1
  rw [this, Bool.false_or]
theorem hp_end (l : List PkX) (p : Tx) (v : Int) (k : Nat) (hk : ¬ k < l.length) : hasP (l.drop k) p v = false := by
  rw [List.drop_of_length_le (by omega)]; rfl

set_option maxHeartbeats 1000000 in
theorem hasP_any (v : Value) (l : List PkX) (p : ByteArray) (n : Int) (w : World) (hl : PksIn w v l) (hn : l.length ≤ 100000) :
    Calls Tryd.prog 123 #[.agg #[v], .string p, .int .i64 n] w fun e w' => e = .returned (.bool (hasP l (tx p) n)) ∧ Below w.heap.size w w' := by
  obtain ⟨a, cap, rfl⟩ := hl.1.form
  have HL := hid' hl
  clear hl
  go_enter Tryd.func123, Tryd.ntmps123
  go_wp2
  go_loopw [12] (fun i wr => ∃ k : Nat, k ≤ l.length ∧ i = .int .i64 k ∧ Below w.heap.size w wr ∧ Hid (hasP l (tx p) n = hasP (l.drop k) (tx p) n)) (fun i _ => l.length - (intOf i).toNat)
  case atStart => exact ⟨0, Nat.zero_le _, rfl, (Below.refl _ _).alloc (Nat.le_refl _) _, rfl⟩
  case round =>
    obtain ⟨k, hk, rfl, hbel, hall⟩ := hrel
    have hz := hbel.size
    by_cases hlt : k < l.length
    · obtain ⟨g, o, cap', hv, hg, hc⟩ := (HL.out.below hbel).1.pks hlt
      simp at hv
      obtain ⟨rfl, rfl⟩ := hv
      obtain ⟨c0, c1, c2, c3⟩ := hc k hlt
      obtain ⟨sa, sc, hsp⟩ := (HL.out.2 l[k] (List.getElem_mem hlt)).form'
      clear hc
      by_cases he : l[k].e.name = tx p
      · have hb : ((bs l[k].e.name).toList == p.toList) = true := by rw [he, bs_tx]; simp
        by_cases hv : l[k].e.ver = n
        · have HF : Hid (hasP l (tx p) n = true) := by unfold Hid; rw [hall.out, hp_yes l (tx p) n k hlt he hv]
          have hb2 : (l[k].e.ver == n) = true := by simp [hv]
          clear he hall hv
          generalize l[k] = x at *
          go_wp2
          go_ret
          exact ⟨ret_bool (by rw [HF.out]), hbel.alloc hz _⟩
        · have HF : Hid (hasP l (tx p) n = hasP (l.drop (k + 1)) (tx p) n) := by unfold Hid; rw [hall.out, hp_no l (tx p) n k hlt (fun h => hv h.2)]
          have hb2 : (l[k].e.ver == n) = false := beq_eq_false_iff_ne.2 hv
          clear he hall hv
          generalize l[k] = x at *
          go_wp2
          go_roundw
          case rel => exact ⟨k + 1, by omega, by go_num, hbel.alloc hz _, HF⟩
          case measure => simp [intOf] <;> omega
      · have HF : Hid (hasP l (tx p) n = hasP (l.drop (k + 1)) (tx p) n) := by unfold Hid; rw [hall.out, hp_no l (tx p) n k hlt (fun h => he h.1)]
        have hb : ((bs l[k].e.name).toList == p.toList) = false := by rw [tx_toList, tx_toList, tx_bs]; simp [he]
        clear he hall
        generalize l[k] = x at *
        go_wp2
        go_roundw
        case rel => exact ⟨k + 1, by omega, by go_num, hbel.alloc hz _, HF⟩
        case measure => simp [intOf] <;> omega
    · have HF : Hid (hasP l (tx p) n = false) := by unfold Hid; rw [hall.out, hp_end l (tx p) n k hlt]
      go_wp2
      go_ret
      exact ⟨ret_bool (by rw [HF.out]), hbel⟩

end Hst
end Go.Proofs.YtecocheolbkneaaDoor
namespace Go.Proofs.YtecocheolbkneaaDoor
open Go.RowKit
namespace Hst
set_option maxRecDepth 100000

theorem RowX.ents {w : World} {v : Value} {l : List EntX} (h : RowX entXC 3 128 w v l) {k : Nat} (hk : k < l.length) :
    ∃ g o cap, v = .slice (some ⟨g, o, none⟩) l.length cap ∧ g < w.heap.size ∧ ∀ (j : Nat) (hj : j < l.length), w.cell? ⟨g, o + j * 3, none⟩ = some (.string (bs l[j].name)) ∧ w.cell? ⟨g, o + j * 3 + 1, none⟩ = some (.int .i64 l[j].ver) ∧ w.cell? ⟨g, o + j * 3 + 2, none⟩ = some l[j].needs := by
  obtain ⟨g, o, cap, hv, hg, hc⟩ := h.cells entXC_len hk
  exact ⟨g, o, cap, hv, hg, fun j hj => ⟨hc j hj 0 (by omega), hc j hj 1 (by omega), hc j hj 2 (by omega)⟩⟩
theorem ft_yes (l : List EntX) (n : NeedX) (k : Nat) (hk : k < l.length) (h : l[k].name = n.name) (h' : fitsP n.spans l[k].ver = true) : fittingP (l.drop k) n = l[k] :: fittingP (l.drop (k + 1)) n := by
  rw [List.drop_eq_getElem_cons hk]; unfold fittingP; rw [List.filter_cons]; simp [h, h']
theorem ft_no (l : List EntX) (n : NeedX) (k : Nat) (hk : k < l.length) (h : ¬ (l[k].name = n.name ∧ fitsP n.spans l[k].ver = true)) : fittingP (l.drop k) n = fittingP (l.drop (k + 1)) n := by
  rw [List.drop_eq_getElem_cons hk]; unfold fittingP; rw [List.filter_cons]
  have : (decide (l[k].name = n.name) && fitsP n.spans l[k].ver) = false := by
    by_cases h1 : l[k].name = n.name
    · by_cases h2 : fitsP n.spans l[k].ver = true
      · exact absurd ⟨h1, h2⟩ h
      · simp [h2]
    · simp [h1]
  rw [this]; rfl
theorem ft_end (l : List EntX) (n : NeedX) (k : Nat) (hk : ¬ k < l.length) : fittingP (l.drop k) n = [] := by
  rw [List.drop_of_length_le (by omega)]; rfl
theorem fitting_mem {l : List EntX} {n : NeedX} {e : EntX} (h : e ∈ fittingP l n) : e ∈ l := (List.mem_filter.1 h).1
theorem fitting_len (l : List EntX) (n : NeedX) : (fittingP l n).length ≤ l.length := List.length_filter_le _ _

set_option maxHeartbeats 2000000 in
theorem fitting_any' (v : Value) (l : List EntX) (x : NeedX) (w : World) (hl : EntsIn w v l) (hx : NeedIn w x) (hn : l.length ≤ 100000) :
    Calls Tryd.prog 122 #[.agg #[v], needXV x] w fun e w' => ∃ v', e = .returned v' ∧ w'.ownsRow w.heap.size 128 3 v' (fittingP l x).length ((fittingP l x).flatMap entXC) ∧ (∀ e ∈ fittingP l x, EntIn w' e) ∧ Below w.heap.size w w' := by
  obtain ⟨i0, hi, hz0, hz1, hz2⟩ := info_parts info_entX
  obtain ⟨a, cap, rfl⟩ := hl.1.form
  obtain ⟨xa, xc, hxf⟩ := hx.form
  have HL := hid' hl
  have HX := hid' hx
  have HXN : Hid (∀ w', NeedIn w' x → ∀ n, Calls Tryd.prog 41 #[.agg #[x.sp], .int .i64 n] w' fun e w'' => e = .returned (.bool (fitsP x.spans n)) ∧ Below w'.heap.size w' w'') := fun w' h n => fitsX_any x.sp n x.spans w' h.sp h.ne (by have := h.le; omega)
  obtain ⟨xn, xsp, xs, xt⟩ := x
  simp only at hxf HXN
  subst hxf
  clear hl hx
  go_enter Tryd.func122, Tryd.ntmps122
  go_wp2
  have hbw := ((Below.refl w.heap.size w).alloc (Nat.le_refl _) (.cells #[.slice a l.length cap] 93)).alloc (by simp) (.cells #[.string (bs xn), .slice xa xs.length xc, .string (bs xt)] 86)
  have e0 : ((w.alloc (.cells #[.slice a l.length cap] 93)).alloc (.cells #[.string (bs xn), .slice xa xs.length xc, .string (bs xt)] 86)).cell? ⟨w.heap.size + 1, 0, none⟩ = some (.string (bs xn)) := by simp
  have e1 : ((w.alloc (.cells #[.slice a l.length cap] 93)).alloc (.cells #[.string (bs xn), .slice xa xs.length xc, .string (bs xt)] 86)).cell? ⟨w.heap.size + 1, 1, none⟩ = some (.slice xa xs.length xc) := by simp
  have hsz : ((w.alloc (.cells #[.slice a l.length cap] 93)).alloc (.cells #[.string (bs xn), .slice xa xs.length xc, .string (bs xt)] 86)).heap.size = w.heap.size + 2 := by simp
  generalize (w.alloc (.cells #[.slice a l.length cap] 93)).alloc (.cells #[.string (bs xn), .slice xa xs.length xc, .string (bs xt)] 86) = W at *
  have HW := hid' hbw
  have HL1 := hid' (HL.out.below hbw)
  have HX1 := hid' (HX.out.below hbw)
  have HS := hid' hsz
  clear hbw
  generalize hx0 : (⟨xn, .slice xa xs.length xc, xs, xt⟩ : NeedX) = x0 at *
  have HX0 := hid' hx0
  clear hx0
  go_loopw [5, 11] (fun v i wr => ∃ (k : Nat) (acc : List EntX), k ≤ l.length ∧ acc.length ≤ k ∧ i = .int .i64 k ∧ wr.ownsRow W.heap.size 128 3 v acc.length (acc.flatMap entXC) ∧ Below W.heap.size W wr ∧ Hid (fittingP l x0 = acc ++ fittingP (l.drop k) x0)) (fun _ i _ => l.length - (intOf i).toNat)
  case atStart => exact ⟨0, [], Nat.zero_le _, by simp, rfl, World.ownsRow_nil _ _ _ _, Below.refl _ _, rfl⟩
  case round =>
    obtain ⟨k, acc, hk, hacc, rfl, hown, hbel, hall⟩ := hrel
    have hz := hbel.size
    have hwz : w.heap.size + 1 < W.heap.size := by have := HS.out; omega
    have hwr : w.heap.size + 1 < wr.heap.size := by omega
    obtain ⟨hcc, -⟩ := bcell hbel
    have d0 := (hcc (w.heap.size + 1) 0 hwz).trans e0
    have d1 := (hcc (w.heap.size + 1) 1 hwz).trans e1
    clear hcc
    by_cases hlt : k < l.length
    · obtain ⟨g, o, cap', hv, hg, hc⟩ := (HL1.out.below hbel).1.ents hlt
      simp at hv
      obtain ⟨rfl, rfl⟩ := hv
      obtain ⟨c0, c1, c2⟩ := hc k hlt
      obtain ⟨sa, sc, hsp⟩ := (HL.out.2 l[k] (List.getElem_mem hlt)).form
      clear hc
      by_cases he : l[k].name = xn
      · have hb : ((bs l[k].name).toList == (bs xn).toList) = true := by rw [he]; simp
        have hen : l[k].name = x0.name := by rw [← HX0.out]; exact he
        have hba := (Below.refl wr.heap.size wr).alloc (Nat.le_refl _) (.cells #[.string (bs l[k].name), .int .i64 l[k].ver, .slice sa l[k].nd.length sc] 128)
        have hfp : fitsP x0.spans l[k].ver = fitsP xs l[k].ver := by rw [← HX0.out]
        have HFT := hid' (HXN.out _ ((HX1.out.below hbel).below hba) l[k].ver)
        have hy := ft_yes l x0 k hlt hen
        have hno := ft_no l x0 k hlt
        rw [hfp] at hy hno
        rcases hff : fitsP xs l[k].ver with _ | _
        · have HF : Hid (fittingP l x0 = acc ++ fittingP (l.drop (k + 1)) x0) := by unfold Hid; rw [hall.out, hno (by rw [hff]; simp)]
          rw [hff] at HFT
          clear hall he hen hfp hy hno hff hba
          generalize l[k] = y at *
          obtain ⟨yn, yv, ysp, yd⟩ := y
          simp only at hsp c0 c1 c2 hb HFT
          subst hsp
          go_wp2_with fail
          refine HFT.out.mono ?_
          rintro e w1 ⟨rfl, hb1⟩
          have hba := ((Below.refl wr.heap.size wr).alloc (Nat.le_refl _) (.cells #[.string (bs yn), .int .i64 yv, .slice sa yd.length sc] 128)).trans (hb1.mono (by simp))
          have hown1 := own_below hown hba
          have HB1 := hid' (hbel.trans (hba.mono hz))
          clear hb1 hba hbel hown
          go_wp2
          go_roundw
          case rel => exact ⟨k + 1, acc, by omega, by omega, by go_num, hown1, HB1.out, HF⟩
          case measure => simp [intOf] <;> omega
        · have HF : Hid (fittingP l x0 = (acc ++ [l[k]]) ++ fittingP (l.drop (k + 1)) x0) := by unfold Hid; rw [hall.out, hy hff]; simp
          rw [hff] at HFT
          clear hall he hen hfp hy hno hff hba
          generalize l[k] = y at *
          obtain ⟨yn, yv, ysp, yd⟩ := y
          simp only at hsp c0 c1 c2 hb HFT
          subst hsp
          go_wp2_with fail
          refine HFT.out.mono ?_
          rintro e w1 ⟨rfl, hb1⟩
          have q0 := (bcell hb1).1 wr.heap.size 0 (by simp)
          have q1 := (bcell hb1).1 wr.heap.size 1 (by simp)
          have q2 := (bcell hb1).1 wr.heap.size 2 (by simp)
          simp at q0 q1 q2
          have hba := ((Below.refl wr.heap.size wr).alloc (Nat.le_refl _) (.cells #[.string (bs yn), .int .i64 yv, .slice sa yd.length sc] 128)).trans (hb1.mono (by simp))
          have hown1 := own_below hown hba
          have HB1 := hid' hba
          have hzq : wr.heap.size < w1.heap.size := by have := hb1.size; simp at this; omega
          clear hb1 hba
          go_wp2_with (first | (at_builtin; refine wpList_append_lies _ rfl _ _ 91 rfl W.heap.size 128 i0 (.agg #[.string ByteArray.empty, .int .i64 0, .slice none 0 0]) 3 48 Tryd.underlying91 hi hz0 hz1 hz2 rfl (by omega) _ _ _ rfl (hown1.alloc _) ⟨w1.heap.size, 0, none⟩ 1 1 [.string (bs yn), .int .i64 yv, .slice sa yd.length sc] rfl rfl (news_3 _ _ _ _ _) (entX_one ⟨yn, yv, _, yd⟩ rfl) (by omega) (by unfold maxLen; omega) (by omega) (by simp; omega) (w1.heap.size + 1) (by simp) ?_; intro g1 cap1 w3 hown3 hgrow hat hlt1))
          have R := step_gen2 entXC (x := ⟨yn, yv, .slice sa yd.length sc, yd⟩) rfl hown hbel (HB1.out.alloc (by omega) _) hown3 hgrow
          clear hown3 hgrow hown hown1 hbel
          go_wp2
          go_roundw
          case rel => exact ⟨k + 1, _, by omega, by simp; omega, by go_num, R.1, R.2, HF⟩
          case measure => simp [intOf] <;> omega
      · have HF : Hid (fittingP l x0 = acc ++ fittingP (l.drop (k + 1)) x0) := by unfold Hid; rw [hall.out, ft_no l x0 k hlt (fun h => he (by have := h.1; rw [← HX0.out] at this; exact this))]
        have hb : ((bs l[k].name).toList == (bs xn).toList) = false := by rw [tx_toList, tx_toList, tx_bs, tx_bs]; simp [he]
        clear he hall
        generalize l[k] = y at *
        go_wp2
        go_roundw
        case rel => exact ⟨k + 1, acc, by omega, by omega, by go_num, hown.alloc _, hbel.alloc hz _, HF⟩
        case measure => simp [intOf] <;> omega
    · have HF : Hid (fittingP l x0 = acc) := by unfold Hid; rw [hall.out, ft_end l x0 k hlt]; simp
      have HR := hid' (And.intro hown hbel)
      have HB := hid' (HW.out.trans (hbel.mono (by omega)))
      clear hown hbel hall
      go_wp2
      go_ret
      refine ⟨_, rfl, ?_, fun e he => ?_, HB.out⟩
      · rw [HX0.out, HF.out]; exact own_mono HR.out.1 (by omega)
      · exact (HL.out.2 e (fitting_mem he)).below HB.out

end Hst
end Go.Proofs.YtecocheolbkneaaDoor
namespace Go.Proofs.YtecocheolbkneaaDoor
open Go.RowKit
namespace Hst
set_option maxRecDepth 100000

theorem tg_one (l : List EntX) (k : Nat) (hk : k < l.length) (h : twiceX l[k].nd = true) : twGo (l.take k) (l.drop k) = true := by
  rw [List.drop_eq_getElem_cons hk, twGo, h]; rfl
theorem tg_two (l : List EntX) (k : Nat) (hk : k < l.length) (h : (l.take k).any (fun f => sameX f l[k]) = true) : twGo (l.take k) (l.drop k) = true := by
  rw [List.drop_eq_getElem_cons hk, twGo, h]; simp
theorem tg_no (l : List EntX) (k : Nat) (hk : k < l.length) (h : twiceX l[k].nd = false) (h' : (l.take k).any (fun f => sameX f l[k]) = false) : twGo (l.take k) (l.drop k) = twGo (l.take (k + 1)) (l.drop (k + 1)) := by
  rw [List.drop_eq_getElem_cons hk, twGo, h, h', List.take_succ_eq_append_getElem hk]; rfl
theorem tg_end (l : List EntX) (k : Nat) (hk : ¬ k < l.length) : twGo (l.take k) (l.drop k) = false := by
  rw [List.drop_of_length_le (by omega)]; rfl
theorem ean_yes (l : List EntX) (e : EntX) (k j : Nat) (hj : j < k) (hk : k ≤ l.length) (h : sameX l[j] e = true) : ((l.take k).drop j).any (fun f => sameX f e) = true := by
  rw [List.drop_eq_getElem_cons (by simp; omega), List.any_cons]
  have : (l.take k)[j]'(by simp; omega) = l[j] := by simp
  rw [this, h]; rfl
theorem ean_no (l : List EntX) (e : EntX) (k j : Nat) (hj : j < k) (hk : k ≤ l.length) (h : sameX l[j] e = false) : ((l.take k).drop j).any (fun f => sameX f e) = ((l.take k).drop (j + 1)).any (fun f => sameX f e) := by
  rw [List.drop_eq_getElem_cons (by simp; omega), List.any_cons]
  have : (l.take k)[j]'(by simp; omega) = l[j] := by simp
  rw [this, h]; rfl
theorem ean_end (l : List EntX) (e : EntX) (k j : Nat) (hj : ¬ j < k) : ((l.take k).drop j).any (fun f => sameX f e) = false := by
  rw [List.drop_of_length_le (by simp; omega)]; rfl
theorem same_t {f e : EntX} (h : f.name = e.name) (h' : f.ver = e.ver) : sameX f e = true := by simp [sameX, h, h']
theorem same_f1 {f e : EntX} (h : ¬ f.name = e.name) : sameX f e = false := by simp [sameX, h]
theorem same_f2 {f e : EntX} (h : ¬ f.ver = e.ver) : sameX f e = false := by simp [sameX, h]

set_option maxHeartbeats 4000000 in
theorem twice_any (v : Value) (l : List EntX) (w : World) (hl : EntsIn w v l) (hn : l.length ≤ 100000) :
    Calls Tryd.prog 87 #[v] w fun e w' => e = .returned (.bool (twGo [] l)) ∧ Below w.heap.size w w' := by
  obtain ⟨a, cap, rfl⟩ := hl.1.form
  have HL := hid' hl
  clear hl
  go_enter Tryd.func87, Tryd.ntmps87
  go_wp2
  go_loopw [9] (fun i wr => ∃ k : Nat, k ≤ l.length ∧ i = .int .i64 k ∧ Below w.heap.size w wr ∧ Hid (twGo [] l = twGo (l.take k) (l.drop k))) (fun i _ => l.length - (intOf i).toNat)
  case atStart => exact ⟨0, Nat.zero_le _, rfl, Below.refl _ _, rfl⟩
  case round =>
    obtain ⟨k, hk, rfl, hbel, hall⟩ := hrel
    have hz := hbel.size
    by_cases hlt : k < l.length
    · obtain ⟨g, o, cap', hv, hg, hc⟩ := (HL.out.below hbel).1.ents hlt
      simp at hv
      obtain ⟨rfl, rfl⟩ := hv
      obtain ⟨c0, c1, c2⟩ := hc k hlt
      have hin := HL.out.2 l[k] (List.getElem_mem hlt)
      obtain ⟨sa, sc, hsp⟩ := hin.form
      have hba := (Below.refl wr.heap.size wr).alloc (Nat.le_refl _) (.cells #[.string (bs l[k].name), .int .i64 l[k].ver, l[k].needs] 128)
      have HTW := hid' (twiceX_any l[k].needs l[k].nd _ ((hin.1.below hbel).below hba) (by have := hin.2.1; omega))
      have HT1 := hid' (tg_one l k hlt)
      have HT2 := hid' (tg_two l k hlt)
      have HT3 := hid' (tg_no l k hlt)
      have HC := hid' hc
      have HBA := hid' (hbel.alloc hz (.cells #[.string (bs l[k].name), .int .i64 l[k].ver, l[k].needs] 128))
      have HY := hid' (fun j hj => ean_yes l l[k] k j hj hk)
      have HN := hid' (fun j hj => ean_no l l[k] k j hj hk)
      have HEN := hid' (fun j => ean_end l l[k] k j)
      have hcap : l.length ≤ cap := by
        obtain ⟨a', cp, e', hr, _⟩ := HL.out.1
        simp at e'
        rw [e'.2]; exact hr.cap
      clear hc hin hba
      rcases htw : twiceX l[k].nd with _ | _
      · rw [htw] at HTW HT3
        have k0 : (0 : Int) ≤ (k : Int) := by omega
        have k1 : (k : Int) ≤ (l.length : Int) := by omega
        have k2 : (k : Int) ≤ (cap : Int) := by omega
        have HALL := hall
        clear htw HT1 hall
        generalize hek : l[k] = y at *
        obtain ⟨yn, yv, ysp, yd⟩ := y
        simp only at hsp c0 c1 c2 HTW HBA
        subst hsp
        go_wp2_with fail
        refine HTW.out.mono ?_
        rintro e w1 ⟨rfl, hb1⟩
        have q0 := (bcell hb1).1 wr.heap.size 0 (by simp)
        have q1 := (bcell hb1).1 wr.heap.size 1 (by simp)
        simp at q0 q1
        have hzq : wr.heap.size < w1.heap.size := by have := hb1.size; simp at this; omega
        have HB1 := hid' (HBA.out.trans (hb1.mono (by simp; omega)))
        clear hb1 c0 c1 c2
        obtain ⟨wo, rfl⟩ : ∃ wo, wo = wr := ⟨_, rfl⟩
        go_wp2
        go_loopw [21] (fun i wr => ∃ j : Nat, j ≤ k ∧ i = .int .i64 j ∧ Below w1.heap.size w1 wr ∧ Hid ((l.take k).any (fun f => sameX f ⟨yn, yv, .slice sa yd.length sc, yd⟩) = ((l.take k).drop j).any (fun f => sameX f ⟨yn, yv, .slice sa yd.length sc, yd⟩))) (fun i _ => k - (intOf i).toNat)
        case atStart => exact ⟨0, Nat.zero_le _, rfl, Below.refl _ _, rfl⟩
        case round =>
          obtain ⟨j, hj, rfl, hbel2, hall⟩ := hrel
          have hz2 := hbel2.size
          have p0 := ((bcell hbel2).1 wo.heap.size 0 hzq).trans q0
          have p1 := ((bcell hbel2).1 wo.heap.size 1 hzq).trans q1
          have hzr : wo.heap.size < wr.heap.size := by omega
          have HB2 := hid' (HB1.out.trans (hbel2.mono (by omega)))
          by_cases hjk : j < k
          · have hjl : j < l.length := by omega
            obtain ⟨g', o', cap', hv, hg', hc⟩ := (HL.out.below HB2.out).1.ents hjl
            simp at hv
            obtain ⟨⟨rfl, rfl⟩, rfl⟩ := hv
            obtain ⟨c0, c1, c2⟩ := hc j hjl
            obtain ⟨ta, tc, htp⟩ := (HL.out.2 l[j] (List.getElem_mem hjl)).form
            have HYj := hid' (HY.out j hjk)
            have HNj := hid' (HN.out j hjk)
            clear hc
            by_cases he : l[j].name = yn
            · have hb : ((bs l[j].name).toList == (bs yn).toList) = true := by rw [he]; simp
              by_cases hv : l[j].ver = yv
              · have HF : Hid (twGo [] l = true) := by unfold Hid; rw [HALL.out]; exact HT2.out (by rw [hall.out]; exact HYj.out (same_t he hv))
                have hb2 : (l[j].ver == yv) = true := by simp [hv]
                clear he hall hv HYj HNj
                generalize l[j] = z at *
                go_wp2
                go_ret
                exact ⟨ret_bool (by rw [HF.out]), HB2.out.alloc (by omega) _⟩
              · have HF : Hid ((l.take k).any (fun f => sameX f ⟨yn, yv, .slice sa yd.length sc, yd⟩) = ((l.take k).drop (j + 1)).any (fun f => sameX f ⟨yn, yv, .slice sa yd.length sc, yd⟩)) := by unfold Hid; rw [hall.out]; exact HNj.out (same_f2 hv)
                have hb2 : (l[j].ver == yv) = false := beq_eq_false_iff_ne.2 hv
                clear he hall hv HYj HNj
                generalize l[j] = z at *
                go_wp2
                go_roundw
                case rel => exact ⟨j + 1, by omega, by go_num, hbel2.alloc (by omega) _, HF⟩
                case measure => simp [intOf] <;> omega
            · have HF : Hid ((l.take k).any (fun f => sameX f ⟨yn, yv, .slice sa yd.length sc, yd⟩) = ((l.take k).drop (j + 1)).any (fun f => sameX f ⟨yn, yv, .slice sa yd.length sc, yd⟩)) := by unfold Hid; rw [hall.out]; exact HNj.out (same_f1 he)
              have hb : ((bs l[j].name).toList == (bs yn).toList) = false := by rw [tx_toList, tx_toList, tx_bs, tx_bs]; simp [he]
              clear he hall HYj HNj
              generalize l[j] = z at *
              go_wp2
              go_roundw
              case rel => exact ⟨j + 1, by omega, by go_num, hbel2.alloc (by omega) _, HF⟩
              case measure => simp [intOf] <;> omega
          · have HF : Hid (twGo [] l = twGo (l.take (k + 1)) (l.drop (k + 1))) := by unfold Hid; rw [HALL.out]; exact HT3.out trivial (by rw [hall.out]; exact HEN.out j hjk)
            clear hall
            go_wp2
            go_roundw
            case rel => exact ⟨k + 1, by omega, by go_num, HB2.out, HF⟩
            case measure => simp [intOf] <;> omega
      · have HF : Hid (twGo [] l = true) := by unfold Hid; rw [hall.out]; exact HT1.out htw
        rw [htw] at HTW
        clear htw HT1 HT2 HT3 hall HY HN HEN
        generalize l[k] = y at *
        obtain ⟨yn, yv, ysp, yd⟩ := y
        simp only at hsp c0 c1 c2 HTW HBA
        subst hsp
        go_wp2_with fail
        refine HTW.out.mono ?_
        rintro e w1 ⟨rfl, hb1⟩
        have HB1 := hid' (HBA.out.trans (hb1.mono (by simp; omega)))
        clear hb1
        go_wp2
        go_ret
        exact ⟨ret_bool (by rw [HF.out]), HB1.out⟩
    · have HF : Hid (twGo [] l = false) := by unfold Hid; rw [hall.out, tg_end l k hlt]
      go_wp2
      go_ret
      exact ⟨ret_bool (by rw [HF.out]), hbel⟩

end Hst
end Go.Proofs.YtecocheolbkneaaDoor
namespace Go.Proofs.YtecocheolbkneaaDoor
open Go.RowKit
namespace Hst
set_option maxRecDepth 100000

/-- What stocks.Parse answers. -/
def StockAns (l : Tx) (k : Int) (w' : World) (v : Value) : Prop :=
  (4000 < l.length ∧ k = 4) ∨ (l.length ≤ 4000 ∧ stockOkP l = false ∧ k = 5) ∨
  (l.length ≤ 4000 ∧ stockOkP l = true ∧ ∃ es, StockOf l es ∧ es.length ≤ 40 ∧ ((twGo [] es = true ∧ k = 6) ∨ (twGo [] es = false ∧ k = 0 ∧ EntsIn w' v es)))
theorem EntsIn.off {w w' : World} {b : Nat} {t : TypeId} {v : Value} {l : List EntX} (h : EntsIn w v l) (hb : But b w w') (ht : tagOf w b = some t) (h1 : t ≠ 86) (h2 : t ≠ 106) (h3 : t ≠ 128) : EntsIn w' v l :=
  ⟨RowX.off h.1 hb (by rw [ht]; simpa using h3), fun e he => (h.2 e he).off hb (odd_of ht h1 h2)⟩

set_option maxHeartbeats 2000000 in
theorem sparse_any (s : ByteArray) (w : World) :
    Calls Tryd.prog 72 #[.string s] w fun e w' => ∃ a n c k, e = .returned (.tuple #[.agg #[.slice a n c], .int .i64 k]) ∧ Below w.heap.size w w' ∧ StockAns (tx s) k w' (.slice a n c) := by
  by_cases h4 : 4000 < s.size
  · have h4' : (4000 : Int) < (s.size : Int) := by omega
    have HF : Hid (4000 < (tx s).length) := by unfold Hid; rw [tx_length]; exact h4
    go_enter Tryd.func72, Tryd.ntmps72
    go_wp2
    refine bodyPost_ret (v := .tuple #[.agg #[.slice none 0 0], .int .i64 4]) (by simp [results, Tryd.results72, go_sem]) rfl ⟨none, 0, 0, 4, rfl, ?_, .inl ⟨HF.out, rfl⟩⟩
    repeat refine Below.setCell ?_ (by simp) _
    exact (Below.refl _ _).alloc (Nat.le_refl _) _
  · have h4' : ¬ (4000 : Int) < (s.size : Int) := by omega
    have HF : Hid ((tx s).length ≤ 4000) := by unfold Hid; rw [tx_length]; omega
    have HPE := hid' (fun w => pentries_any s w (by omega))
    go_enter Tryd.func72, Tryd.ntmps72
    go_wp2_with fail
    refine (HPE.out _).mono ?_
    rintro e w1 ⟨a, n, c, rfl, hb1, hes⟩
    have c0 := (bcell hb1).1 w.heap.size 0 (by simp)
    have f0 := (bcell hb1).2 w.heap.size 0 (by simp)
    simp at c0 f0
    have hz1 := hb1.size
    simp at hz1
    have hzq : w.heap.size < w1.heap.size := by omega
    have HB1 := hid' (((Below.refl _ _).alloc (Nat.le_refl _) _).trans (hb1.mono (by simp)) : Below w.heap.size w w1)
    have HT1 : Hid (tagOf w1 w.heap.size = some 93) := by
      unfold Hid
      rw [tagOf_below hb1 (by simp)]
      exact tag_new _ _ _
    clear hb1
    rcases hok : stockOkP (tx s) with _ | _
    · have HO := hid' hok
      clear hok hes
      go_wp2
      refine bodyPost_ret (v := .tuple #[.agg #[.slice none 0 0], .int .i64 5]) (by simp [results, Tryd.results72, go_sem, *]) rfl ⟨none, 0, 0, 5, rfl, ?_, .inr (.inl ⟨HF.out, HO.out, rfl⟩)⟩
      exact HB1.out.setCell (Nat.le_refl _) _
    · have HO := hid' hok
      obtain ⟨es, h1, h2, h3⟩ := hes hok
      have HTA := hid' (fun w h => twice_any (.slice a n c) es w h (by omega))
      have H1 := hid' h1; have H2 := hid' h2; have H3 := hid' h3
      clear hok hes h1 h2 h3
      go_wp2_with fail
      refine (HTA.out _ H3.out).mono ?_
      rintro e w2 ⟨rfl, hb2⟩
      have c1 := ((bcell hb2).1 w.heap.size 0 hzq).trans c0
      have f1 := ((bcell hb2).2 w.heap.size 0 hzq).trans f0
      have hzr : w.heap.size < w2.heap.size := by have := hb2.size; omega
      have HB2 := hid' (HB1.out.trans (hb2.mono (by omega)))
      have HT2 : Hid (tagOf w2 w.heap.size = some 93) := by unfold Hid; rw [tagOf_below hb2 hzq]; exact HT1.out
      have H4 := hid' (H3.out.below hb2)
      clear hb2
      rcases htw : twGo [] es with _ | _
      · have HTW := hid' htw
        clear htw
        go_wp2
        refine bodyPost_ret (v := .tuple #[.agg #[.slice a n c], .int .i64 0]) (by simp [results, Tryd.results72, go_sem, *]) rfl ⟨a, n, c, 0, rfl, ?_, .inr (.inr ⟨HF.out, HO.out, es, H1.out, H2.out, .inr ⟨HTW.out, rfl, ?_⟩⟩)⟩
        · exact HB2.out.setCell (Nat.le_refl _) _
        · exact H4.out.off (But.set _ _ _ _) HT2.out (by decide) (by decide) (by decide)
      · have HTW := hid' htw
        clear htw
        go_wp2
        refine bodyPost_ret (v := .tuple #[.agg #[.slice none 0 0], .int .i64 6]) (by simp [results, Tryd.results72, go_sem, *]) rfl ⟨none, 0, 0, 6, rfl, ?_, .inr (.inr ⟨HF.out, HO.out, es, H1.out, H2.out, .inl ⟨HTW.out, rfl⟩⟩)⟩
        exact HB2.out.setCell (Nat.le_refl _) _

end Hst
end Go.Proofs.YtecocheolbkneaaDoor
