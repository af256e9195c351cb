/- Rrange, Name, Pname, Pneedd, Pneede, Poff -/
import Derived.Test.YtecocheolbkneaaDoorW14
import Derived.Deep.RegionHeld3
import Derived.Deep.QuietTactic
import Derived.Test.YtecocheolbkneaaDoorW01
import Derived.Deep.DrawnRows
import Derived.Test.YtecocheolbkneaaDoorW04
namespace Go.Proofs.YtecocheolbkneaaDoor
open Go.RowKit
namespace Hst
set_option maxRecDepth 100000

theorem al_yes (f : Tx → Bool) (d : List Tx) (k : Nat) (hk : k < d.length) (h : f d[k] = true) : (d.drop k).all f = (d.drop (k + 1)).all f := by
  rw [List.drop_eq_getElem_cons hk, List.all_cons, h, Bool.true_and]
theorem al_no (f : Tx → Bool) (d : List Tx) (k : Nat) (hk : k < d.length) (h : f d[k] = false) : (d.drop k).all f = false := by
  rw [List.drop_eq_getElem_cons hk, List.all_cons, h, Bool.false_and]
theorem al_end (f : Tx → Bool) (d : List Tx) (k : Nat) (hk : ¬ k < d.length) : (d.drop k).all f = true := by
  rw [List.drop_of_length_le (by omega)]; rfl
theorem piece_mem {n : Int} {s : ByteArray} {b : Nat} (hs : s.size ≤ b) : ∀ (j : Nat) (hj : j < (splitL n (tx s)).length), (bs (splitL n (tx s))[j]).size ≤ b := fun j hj => by
  have := piece_size n s j hj; omega

theorem isRangeR_long (s : ByteArray) (h : ¬ s.size ≤ 60) : isRangeR (tx s) = false := by
  unfold isRangeR; rw [tx_length]; simp; intro h'; omega
theorem isRangeR_short (s : ByteArray) (h : s.size ≤ 60) : isRangeR (tx s) = (splitL 124 (tx s)).all isAltR := by
  unfold isRangeR; rw [tx_length]; simp [h]

set_option maxHeartbeats 2000000 in
theorem isRange_any (s : ByteArray) (w : World) :
    Calls Tryd.prog 34 #[.string s] w fun e w' => e = .returned (.bool (isRangeR (tx s))) ∧ Below w.heap.size w w' := by
  by_cases h60 : s.size ≤ 60
  · have HP := hid (isRangeR_short s h60)
    go_enter Tryd.func34, Tryd.ntmps34
    go_wp2_with fail
    refine (rsplit_any s 124 _ (by omega)).mono ?_
    rintro e w1 ⟨v, rfl, hrow, hb1⟩
    obtain ⟨g, cap, rfl, hg1, hg2, hcell⟩ := hrow.form (splitL_ne _ _)
    have HS := hid (piece_mem (n := 124) h60)
    have hlen := splitL_len 124 (tx s)
    rw [tx_length] at hlen
    generalize splitL 124 (tx s) = d at *
    have HC := hid hcell
    clear hcell hrow
    go_wp2
    go_loopw [4] (fun i wr => ∃ (k : Nat), k ≤ d.length ∧ i = .int .i64 k ∧ Below w1.heap.size w1 wr ∧ Hid (isRangeR (tx s) = (d.drop k).all isAltR)) (fun i _ => d.length - (intOf i).toNat)
    case atStart => exact ⟨0, by omega, rfl, Below.refl _ _, by unfold Hid; rw [HP.out]; rfl⟩
    case round =>
      obtain ⟨k, hk, rfl, hbel, hall⟩ := hrel
      clear HP
      have hz := hbel.size
      have hz1 := hb1.size
      by_cases hlt : k < d.length
      · have hc := (hbel.cell (p := ⟨g, k, none⟩) hg2).trans (HC.out k hlt)
        have hps := HS.out k hlt
        have HA : Hid (isAltR d[k] = (splitL 38 (tx (bs d[k]))).all isCondR) := by unfold Hid; rw [tx_bs]; rfl
        have HY := hid (al_yes isAltR d k hlt)
        have HN := hid (al_no isAltR d k hlt)
        generalize isAltR d[k] = alt at *
        generalize bs d[k] = q at *
        go_wp2_with fail
        refine (rsplit_any q 38 _ (by omega)).mono ?_
        rintro e w2 ⟨v, rfl, hrow, hb2⟩
        obtain ⟨g2, cap2, rfl, hg3, hg4, hcell2⟩ := hrow.form (splitL_ne _ _)
        have HS2 := hid (piece_mem (n := 38) hps)
        have hlen2 := splitL_len 38 (tx q)
        rw [tx_length] at hlen2
        generalize splitL 38 (tx q) = m at *
        have HC2 := hid hcell2
        clear hcell2 hrow hc
        go_wp2
        go_loopw [6] (fun i wq => ∃ (j : Nat), j ≤ m.length ∧ i = .int .i64 j ∧ Below w2.heap.size w2 wq ∧ Hid (alt = (m.drop j).all isCondR)) (fun i _ => m.length - (intOf i).toNat)
        case atStart => exact ⟨0, by omega, rfl, Below.refl _ _, by unfold Hid; rw [HA.out]; rfl⟩
        case round =>
          obtain ⟨j, hj, rfl, hbel2, hall2⟩ := hrel
          clear HA
          have hz2 := hbel2.size
          have hz3 := hb2.size
          have HB := hid ((hbel.trans (hb2.mono hz)).trans (hbel2.mono (by omega)))
          have HBw := hid (hb1.trans (HB.out.mono hz1))
          by_cases hjl : j < m.length
          · have hc2 := (hbel2.cell (p := ⟨g2, j, none⟩) hg4).trans (HC2.out j hjl)
            have HH := hid (fun w => isCond_any (bs m[j]) w)
            rw [tx_bs] at HH
            have HY2 := hid (al_yes isCondR m j hjl)
            have HN2 := hid (al_no isCondR m j hjl)
            generalize isCondR m[j] = cnd at *
            generalize bs m[j] = q2 at *
            cases cnd
            · have HF : Hid (isRangeR (tx s) = false) := by unfold Hid; rw [hall.out, HN.out (by rw [hall2.out, HN2.out rfl])]
              go_wp2_with fail
              refine (HH.out _).mono ?_
              rintro e w3 ⟨rfl, hb3⟩
              have HB3 := hid (HBw.out.trans (hb3.mono (by omega)))
              clear hb3
              go_wp2
              go_ret
              exact ⟨ret_bool (by rw [HF.out]), HB3.out⟩
            · have HF : Hid (alt = (m.drop (j + 1)).all isCondR) := by unfold Hid; rw [hall2.out, HY2.out rfl]
              go_wp2_with fail
              refine (HH.out _).mono ?_
              rintro e w3 ⟨rfl, hb3⟩
              have HB3 := hid (hbel2.trans (hb3.mono hz2))
              clear hb3
              go_wp2
              go_roundw
              case rel => exact ⟨j + 1, by omega, by go_num, HB3.out, HF⟩
              case measure => simp [intOf]; omega
          · have HF : Hid (isRangeR (tx s) = (d.drop (k + 1)).all isAltR) := by unfold Hid; rw [hall.out, HY.out (by rw [hall2.out, al_end isCondR m j hjl])]
            clear hall
            go_wp2
            go_roundw
            case rel => exact ⟨k + 1, by omega, by go_num, HB.out, HF⟩
            case measure => simp [intOf]; omega
      · have HF : Hid (isRangeR (tx s) = true) := by unfold Hid; rw [hall.out, al_end isAltR d k hlt]
        have HB := hid (hb1.trans (hbel.mono hz1))
        go_wp2
        go_ret
        exact ⟨ret_bool (by rw [HF.out]), HB.out⟩
  · have HF := hid (isRangeR_long s h60)
    go_enter Tryd.func34, Tryd.ntmps34
    go_wp2
    go_ret
    exact ⟨ret_bool (by rw [HF.out]), Below.refl _ _⟩

end Hst
end Go.Proofs.YtecocheolbkneaaDoor
namespace Go.Proofs.YtecocheolbkneaaDoor
open Go.RowKit
namespace Hst
set_option maxRecDepth 100000

theorem low_yes {b : UInt8} (h1 : (97 : Int) ≤ (b.toNat : Int)) (h2 : (b.toNat : Int) ≤ 122) : low b = true := by simp [low]; omega
theorem low_no1 {b : UInt8} (h1 : (b.toNat : Int) < 97) : low b = false := by simp [low]; omega
theorem low_no2 {b : UInt8} (h1 : (122 : Int) < (b.toNat : Int)) : low b = false := by simp [low]; omega
theorem alt_yes (f : UInt8 → Bool) (s : ByteArray) (k : Nat) (h : k < s.size) (hd : f s[k] = true) : ((tx s).drop k).all f = ((tx s).drop (k + 1)).all f := by
  rw [tx_drop s k h, List.all_cons, hd, Bool.true_and]
theorem alt_no (f : UInt8 → Bool) (s : ByteArray) (k : Nat) (h : k < s.size) (hd : f s[k] = false) : ((tx s).drop k).all f = false := by
  rw [tx_drop s k h, List.all_cons, hd, Bool.false_and]
theorem alt_end (f : UInt8 → Bool) (s : ByteArray) (k : Nat) (h : ¬ k < s.size) : ((tx s).drop k).all f = true := by
  rw [List.drop_of_length_le (by rw [tx_length]; omega)]; rfl
theorem isName_len (s : ByteArray) (h : s.size < 1 ∨ 3 < s.size) : isNameR (tx s) = false := by
  unfold isNameR; rw [tx_length]; rcases h with h | h
  · simp; intro h'; omega
  · simp; intro h1 h2; omega
theorem isName_go (s : ByteArray) (h1 : 1 ≤ s.size) (h2 : s.size ≤ 3) : isNameR (tx s) = (tx s).all low := by
  unfold isNameR; rw [tx_length]; simp [h1, h2]

theorem ll_yes (s : ByteArray) (k : Nat) (h : k < s.size) (hd : low s[k] = true) : lowLen ((tx s).drop k) = lowLen ((tx s).drop (k + 1)) + 1 := by
  rw [tx_drop s k h]; simp [lowLen, hd]
theorem ll_no (s : ByteArray) (k : Nat) (h : k < s.size) (hd : low s[k] = false) : lowLen ((tx s).drop k) = 0 := by
  rw [tx_drop s k h]; simp [lowLen, hd]
theorem ll_end (s : ByteArray) (k : Nat) (h : ¬ k < s.size) : lowLen ((tx s).drop k) = 0 := by
  rw [List.drop_of_length_le (by rw [tx_length]; omega)]; rfl
theorem lowLen_le : ∀ l : Tx, lowLen l ≤ l.length
  | [] => by simp [lowLen]
  | b :: r => by
    simp only [lowLen]
    split
    · have := lowLen_le r; simp; omega
    · simp
/-- A need, as a value. -/
abbrev needV (n : NeedD) : Value := .agg #[.string (bs n.name), .string (bs n.rng)]

attribute [local go_sem ↓] Go.wp_at_zero Go.wp_at_succ

theorem cut_yes (n : Int) (l : Tx) (k : Nat) (hk : k < l.length) (h : ((l[k]'hk).toNat : Int) = n) (hb : ∀ j (hj : j < k), ((l[j]'(by omega)).toNat : Int) ≠ n) : cutR n l = (l.take k, l.drop (k + 1), true) := by
  induction l generalizing k with
  | nil => simp at hk
  | cons b r ih =>
    cases k with
    | zero => simp at h; simp [cutR, h]
    | succ k =>
      have hb0 := hb 0 (by omega)
      simp at hb0
      have := ih k (by simpa using hk) (by simpa using h) (fun j hj => by have := hb (j + 1) (by omega); simpa using this)
      simp [cutR, hb0, this]
theorem cut_no (n : Int) (l : Tx) (hb : ∀ j (hj : j < l.length), ((l[j]'hj).toNat : Int) ≠ n) : cutR n l = (l, [], false) := by
  induction l with
  | nil => rfl
  | cons b r ih =>
    have hb0 := hb 0 (by simp)
    simp at hb0
    have := ih (fun j hj => by have := hb (j + 1) (by simp; omega); simpa using this)
    simp [cutR, hb0, this]
theorem ret_cut {a b a' b' : ByteArray} {c c' : Bool} (h1 : a = a') (h2 : b = b') (h3 : c = c') : Ending.returned (.tuple #[.string a, .string b, .bool c]) = .returned (.tuple #[.string a', .string b', .bool c']) := by rw [h1, h2, h3]

end Hst
end Go.Proofs.YtecocheolbkneaaDoor
namespace Go.Proofs.YtecocheolbkneaaDoor
open Go.RowKit
namespace Hst
set_option maxRecDepth 100000

set_option maxHeartbeats 1000000 in
theorem letters_any (s : ByteArray) (w : World) (hs : s.size ≤ 9223372036854775807) :
    Calls Tryd.prog 78 #[.string s] w fun e w' => e = .returned (.int .i64 (lowLen (tx s))) ∧ w' = w := by
  go_enter Tryd.func78, Tryd.ntmps78
  go_wp2
  go_loop [3] (fun i => ∃ k : Nat, k ≤ s.size ∧ i = .int .i64 k ∧ Hid (lowLen (tx s) = k + lowLen ((tx s).drop k))) (fun i => s.size - (intOf i).toNat)
  case atStart => exact ⟨0, Nat.zero_le _, rfl, by unfold Hid; simp⟩
  case round =>
    obtain ⟨k, hk, rfl, hall⟩ := hrel
    by_cases hlt : k < s.size
    · by_cases g1 : ((s[k]'hlt).toNat : Int) < 97
      · have HF : Hid (lowLen (tx s) = k) := by unfold Hid; rw [hall.out, ll_no s k hlt (low_no1 g1)]; rfl
        go_wp2
        go_ret
        exact ⟨ret_int (by rw [HF.out]), rfl⟩
      · by_cases g2 : 122 < ((s[k]'hlt).toNat : Int)
        · have HF : Hid (lowLen (tx s) = k) := by unfold Hid; rw [hall.out, ll_no s k hlt (low_no2 g2)]; rfl
          go_wp2
          go_ret
          exact ⟨ret_int (by rw [HF.out]), rfl⟩
        · have HF : Hid (lowLen (tx s) = k + 1 + lowLen ((tx s).drop (k + 1))) := by have := hall.out; rw [ll_yes s k hlt (low_yes (by omega) (by omega))] at this; unfold Hid; omega
          go_wp2
          go_round
          case rel => exact ⟨k + 1, by omega, by go_num, HF⟩
          case measure => simp [intOf] <;> omega
    · have HF : Hid (lowLen (tx s) = k) := by unfold Hid; rw [hall.out, ll_end s k hlt]; rfl
      have hkk : k = s.size := by omega
      subst hkk
      go_wp2
      go_ret
      exact ⟨ret_int (by rw [HF.out]), rfl⟩

theorem lowLen_all : ∀ l : Tx, (lowLen l = l.length) = (l.all low = true)
  | [] => by simp [lowLen]
  | b :: r => by
    have ih := lowLen_all r
    simp only [lowLen, List.all_cons, List.length_cons]
    by_cases h : low b = true
    · simp only [h, if_true, Bool.true_and]
      rw [← ih]; simp
    · simp [h]

set_option maxHeartbeats 1000000 in
theorem isNameP_any (s : ByteArray) (w : World) (hs : s.size ≤ 9223372036854775807) :
    Calls Tryd.prog 79 #[.string s] w fun e w' => e = .returned (.bool (isNameR (tx s))) ∧ w' = w := by
  have HL := hid' (fun w => letters_any s w hs)
  by_cases h1 : 1 ≤ s.size
  · have hb : ((s.size : Int) == 0) = false := beq_eq_false_iff_ne.2 (by omega)
    have hb2 : (s.toList == []) = false := by
      rw [tx_toList]; apply beq_eq_false_iff_ne.2; intro e; have := tx_length s; rw [e] at this; simp at this; omega
    by_cases h3 : s.size ≤ 3
    · have HP := hid' (isName_go s h1 h3)
      have HA := hid' (lowLen_all (tx s))
      rw [tx_length] at HA
      by_cases he : lowLen (tx s) = s.size
      · have HF : Hid (isNameR (tx s) = true) := by
          unfold Hid; rw [HP.out]; have h := HA.out; rw [← h]; exact he
        have hbb : ((lowLen (tx s) : Int) == (s.size : Int)) = true := by simp [he]
        clear HP HA he
        generalize lowLen (tx s) = m at *
        go_enter Tryd.func79, Tryd.ntmps79
        go_wp2_with fail
        refine (HL.out _).mono ?_
        rintro e w1 ⟨rfl, rfl⟩
        go_wp2
        go_ret
        exact ⟨ret_bool (by rw [HF.out]), rfl⟩
      · have HF : Hid (isNameR (tx s) = false) := by
          unfold Hid; rw [HP.out]; have h := HA.out; rw [h] at he; simpa using he
        have hbb : ((lowLen (tx s) : Int) == (s.size : Int)) = false := beq_eq_false_iff_ne.2 (by omega)
        clear HP HA he
        generalize lowLen (tx s) = m at *
        go_enter Tryd.func79, Tryd.ntmps79
        go_wp2_with fail
        refine (HL.out _).mono ?_
        rintro e w1 ⟨rfl, rfl⟩
        go_wp2
        go_ret
        exact ⟨ret_bool (by rw [HF.out]), rfl⟩
    · have HF := hid' (isName_len s (by omega))
      go_enter Tryd.func79, Tryd.ntmps79
      go_wp2
      go_ret
      exact ⟨ret_bool (by rw [HF.out]), rfl⟩
  · have HF := hid' (isName_len s (by omega))
    have hz : s.size = 0 := by omega
    have hb2 : (s.toList == []) = true := by
      have e : tx s = [] := List.length_eq_zero_iff.1 (by rw [tx_length]; exact hz)
      rw [tx_toList, e]; rfl
    go_enter Tryd.func79, Tryd.ntmps79
    go_wp2
    go_ret
    exact ⟨ret_bool (by rw [HF.out]), rfl⟩

set_option maxHeartbeats 1000000 in
theorem in_any (p n : ByteArray) (w : World) (hp : p.size ≤ 100000) (hn : n.size ≤ 100000) :
    Calls Tryd.prog 124 #[.string p, .string n] w fun e w' => e = .returned (.string (bs (joinR (tx p) (tx n)))) ∧ w' = w := by
  by_cases h : tx p = []
  · have hb : (p.toList == []) = true := by rw [tx_toList, h]; rfl
    have HE : Hid (joinR (tx p) (tx n) = tx n) := by unfold Hid joinR; rw [if_pos h]
    clear h
    go_enter Tryd.func124, Tryd.ntmps124
    go_wp2
    go_ret
    exact ⟨ret_str (by rw [HE.out, bs_tx]), rfl⟩
  · have hb : (p.toList == []) = false := by rw [tx_toList]; exact beq_eq_false_iff_ne.2 h
    have HE : Hid (joinR (tx p) (tx n) = tx p ++ [47] ++ tx n) := by unfold Hid joinR; rw [if_neg h]
    clear h
    go_enter Tryd.func124, Tryd.ntmps124
    go_wp2
    go_ret
    refine ⟨ret_str ?_, rfl⟩
    rw [HE.out, ← bs_append, ← bs_append, bs_tx, bs_tx]; rfl

theorem fg_sl (s : ByteArray) (i : Nat) (h : i < s.size) (hb : ((s[i]).toNat : Int) = 47) : folderGo (tx s) (i + 1) = (tx s).take i := by
  have hl := tx_length s
  have e : (tx s).getD i 0 = s[i] := by rw [List.getD_eq_getElem?_getD, List.getElem?_eq_getElem (by omega)]; rfl
  have e2 : s[i] = 47 := UInt8.toNat_inj.1 (by simp; omega)
  simp only [folderGo]
  rw [e, if_pos e2]
theorem fg_sn (s : ByteArray) (i : Nat) (h : i < s.size) (hb : ¬ ((s[i]).toNat : Int) = 47) : folderGo (tx s) (i + 1) = folderGo (tx s) i := by
  have hl := tx_length s
  have e : (tx s).getD i 0 = s[i] := by rw [List.getD_eq_getElem?_getD, List.getElem?_eq_getElem (by omega)]; rfl
  have e2 : ¬ s[i] = 47 := fun hh => hb (by rw [hh]; rfl)
  simp only [folderGo]
  rw [e, if_neg e2]

set_option maxHeartbeats 1000000 in
theorem folder_any (s : ByteArray) (w : World) (hs : s.size ≤ 100000) :
    Calls Tryd.prog 115 #[.string s] w fun e w' => e = .returned (.string (bs (folderP (tx s)))) ∧ w' = w := by
  have HP : Hid (folderP (tx s) = folderGo (tx s) s.size) := by unfold Hid folderP; rw [tx_length]
  go_enter Tryd.func115, Tryd.ntmps115
  go_wp2
  go_loop [3] (fun i => ∃ k : Nat, k ≤ s.size ∧ i = .int .i64 ((k : Int) - 1) ∧ Hid (folderP (tx s) = folderGo (tx s) k)) (fun i => (intOf i + 1).toNat)
  case atStart => exact ⟨s.size, Nat.le_refl _, rfl, HP⟩
  case round =>
    obtain ⟨k, hk, rfl, hall⟩ := hrel
    clear HP
    cases k with
    | zero =>
      have HF : Hid (folderP (tx s) = []) := hall.out
      go_wp2
      go_ret
      exact ⟨ret_str (by rw [HF.out]; rfl), rfl⟩
    | succ i =>
      have hlt : i < s.size := by omega
      have e0 : (((i + 1 : Nat) : Int) - 1) = (i : Int) := by omega
      rw [e0]
      by_cases hb : ((s[i]'hlt).toNat : Int) = 47
      · have HF : Hid (folderP (tx s) = (tx s).take i) := by unfold Hid; rw [hall.out, fg_sl s i hlt hb]
        have hbb : (((s[i]'hlt).toNat : Int) == 47) = true := by simp [hb]
        have HX1 := hid' (ext_to s i)
        clear hb hall
        go_wp2
        go_ret
        exact ⟨ret_str (by rw [HF.out, ← HX1.out]), rfl⟩
      · have HF : Hid (folderP (tx s) = folderGo (tx s) i) := by unfold Hid; rw [hall.out, fg_sn s i hlt hb]
        have hbb : (((s[i]'hlt).toNat : Int) == 47) = false := beq_eq_false_iff_ne.2 hb
        clear hb hall
        go_wp2
        go_round
        case rel => exact ⟨i, by omega, by go_num, HF⟩
        case measure => simp [intOf] <;> omega

set_option maxHeartbeats 1000000 in
theorem pcut_any (s : ByteArray) (n : Int) (w : World) (hs : s.size ≤ 9223372036854775807) :
    Calls Tryd.prog 112 #[.string s, .int .u8 n] w fun e w' => e = .returned (.tuple #[.string (bs (cutR n (tx s)).1), .string (bs (cutR n (tx s)).2.1), .bool (cutR n (tx s)).2.2]) ∧ Below w.heap.size w w' := by
  go_enter Tryd.func112, Tryd.ntmps112
  go_wp2
  go_loop [7] (fun i => ∃ k : Nat, k ≤ s.size ∧ i = .int .i64 k ∧ Hid (∀ j (hj : j < k) (hj' : j < (tx s).length), (((tx s)[j]'hj').toNat : Int) ≠ n)) (fun i => s.size - (intOf i).toNat)
  case atStart => exact ⟨0, Nat.zero_le _, rfl, fun j hj => by omega⟩
  case round =>
    obtain ⟨k, hk, rfl, hall⟩ := hrel
    have hl := tx_length s
    by_cases hlt : k < s.size
    · have hkk : ((tx s)[k]'(by omega)) = s[k]'hlt := rfl
      by_cases hb : ((s[k]'hlt).toNat : Int) = n
      · have hbb : (((s[k]'hlt).toNat : Int) == n) = true := by simp [hb]
        have HF : Hid (cutR n (tx s) = ((tx s).take k, (tx s).drop (k + 1), true)) := cut_yes n (tx s) k (by omega) (by rw [hkk]; exact hb) (fun j hj => hall.out j hj (by omega))
        have HX1 := hid' (ext_to s k)
        have HX2 := hid' (ext_from s (k + 1))
        have hk1 : (k : Int) + 1 ≤ (s.size : Int) := by omega
        clear hb hall hkk hl
        go_wp2
        go_region
        all_goals
          go_wp2
          go_ret3
          exact ⟨ret_cut (by rw [HF.out, ← HX1.out]) (by rw [HF.out, ← HX2.out]) (by rw [HF.out]), (Below.refl _ _).drew⟩
      · have hbb : (((s[k]'hlt).toNat : Int) == n) = false := by simp [hb]
        have HF : Hid (∀ j (hj : j < k + 1) (hj' : j < (tx s).length), (((tx s)[j]'hj').toNat : Int) ≠ n) := by
          intro j hj hj'
          by_cases e : j = k
          · subst e; exact hb
          · exact hall.out j (by omega) hj'
        clear hb hall hkk hl
        go_wp2
        go_round
        case rel => exact ⟨k + 1, by omega, by go_num, HF⟩
        case measure => simp [intOf] <;> omega
    · have HF : Hid (cutR n (tx s) = (tx s, [], false)) := cut_no n (tx s) (fun j hj => hall.out j (by omega) hj)
      clear hall hl
      go_wp2
      go_ret3
      exact ⟨ret_cut (by rw [HF.out, bs_tx]) (by rw [HF.out]; rfl) (by rw [HF.out]), Below.refl _ _⟩

end Hst
end Go.Proofs.YtecocheolbkneaaDoor
namespace Go.Proofs.YtecocheolbkneaaDoor
open Go.RowKit
namespace Hst
set_option maxRecDepth 100000

theorem SpanRow.rowx {w : World} {base : Nat} {v : Value} {sp : List (Int × Int)} (h : SpanRow w base v sp) : RowX spanC 2 106 w v sp := RowX.of_own h
theorem rangeP_60 {l : Tx} {sp : List (Int × Int)} (h : rangeP l = some sp) : l.length ≤ 60 := by
  by_cases h60 : 60 < l.length
  · unfold rangeP at h; rw [if_pos h60] at h; simp at h
  · omega
theorem isName_3 {l : Tx} (h : isNameR l = true) : l.length ≤ 3 := by
  unfold isNameR at h; simp at h; omega
theorem needOk_no1 {l : Tx} (h : isNameR (l.take (lowLen l)) = false) : needOkP l = false := by unfold needOkP; rw [h]; rfl
theorem needOk_no2 {l : Tx} (h : rangeP (l.drop (lowLen l)) = none) : needOkP l = false := by unfold needOkP; rw [h]; simp [rok]
theorem needOk_yes {l : Tx} {sp : List (Int × Int)} (h1 : isNameR (l.take (lowLen l)) = true) (h2 : rangeP (l.drop (lowLen l)) = some sp) : needOkP l = true := by unfold needOkP; rw [h1, h2]; rfl
theorem need_len {l : Tx} {sp : List (Int × Int)} (h1 : isNameR (l.take (lowLen l)) = true) (h2 : rangeP (l.drop (lowLen l)) = some sp) : l.length ≤ 63 := by
  have a := isName_3 h1
  have b := rangeP_60 h2
  have c := lowLen_le l
  rw [List.length_take] at a
  rw [List.length_drop] at b
  omega
def zeroN : NeedX := ⟨[], .slice none 0 0, [], []⟩

set_option maxHeartbeats 2000000 in
theorem nparse_any (s : ByteArray) (w : World) (hs : s.size ≤ 9223372036854775807) :
    Calls Tryd.prog 48 #[.string s] w fun e w' => ∃ x : NeedX, e = .returned (.tuple #[needXV x, .bool (needOkP (tx s))]) ∧ Below w.heap.size w w' ∧ (∃ a n c, x.sp = .slice a n c) ∧ (needOkP (tx s) = true → NeedOf (tx s) x ∧ NeedIn w' x) := by
  have HLA := hid' (fun w => letters_any s w hs)
  have hle := lowLen_le (tx s)
  rw [tx_length] at hle
  have HIN := hid' (fun w => isNameP_any (s.extract 0 (lowLen (tx s))) w (by simp; omega))
  rw [ext_to, tx_bs, ← ext_to] at HIN
  have HRP := hid' (fun w => rparse_any (s.extract (lowLen (tx s)) s.size) w)
  rw [ext_from, tx_bs, ← ext_from] at HRP
  have HX1 := hid' (ext_to s (lowLen (tx s)))
  have HX2 := hid' (ext_from s (lowLen (tx s)))
  have hk0 : (0 : Int) ≤ (lowLen (tx s) : Int) := by omega
  have hk1 : (lowLen (tx s) : Int) ≤ (s.size : Int) := by omega
  have HN1 := hid' (needOk_no1 (l := tx s))
  have HN2 := hid' (needOk_no2 (l := tx s))
  have HY := hid' (fun sp => needOk_yes (l := tx s) (sp := sp))
  have HLN := hid' (fun sp => need_len (l := tx s) (sp := sp))
  have H3 := hid' (isName_3 (l := (tx s).take (lowLen (tx s))))
  have HDO : Hid (∀ x : NeedX, NeedOf (tx s) x = (needOkP (tx s) = true ∧ x.name = (tx s).take (lowLen (tx s)) ∧ rangeP ((tx s).drop (lowLen (tx s))) = some x.spans ∧ x.text = tx s)) := fun _ => rfl
  generalize hkk : lowLen (tx s) = k at *
  have HKK := hid' hkk
  clear hkk
  generalize hrg : rangeP ((tx s).drop k) = rg at *
  rcases hnm : isNameR ((tx s).take k) with _ | _
  · have HF := hid' (HN1.out hnm)
    rw [hnm] at HIN
    clear hnm HN1 HN2 HY HLN H3 HDO HRP
    go_enter Tryd.func48, Tryd.ntmps48
    go_wp2_with fail
    refine (HLA.out _).mono ?_
    rintro e w1 ⟨rfl, rfl⟩
    go_wp2_with fail
    refine (HIN.out _).mono ?_
    rintro e w2 ⟨rfl, rfl⟩
    go_wp2
    refine bodyPost_ret (v := .tuple #[.agg #[.string ByteArray.empty, .slice none 0 0, .string ByteArray.empty], .bool false]) (by simp [results, Tryd.results48, go_sem]; rfl) rfl ⟨zeroN, by rw [HF.out]; rfl, ?_, ⟨none, 0, 0, rfl⟩, fun h => by rw [HF.out] at h; exact absurd h (by simp)⟩
    repeat refine Below.setCell ?_ (by simp) _
    exact (Below.refl _ _).alloc (Nat.le_refl _) _
  · have HNM := hid' hnm
    rw [hnm] at HIN
    rcases rg with _ | sp
    · have HF := hid' (HN2.out rfl)
      clear hnm HN1 HN2 HY HLN H3 HDO
      go_enter Tryd.func48, Tryd.ntmps48
      go_wp2_with fail
      refine (HLA.out _).mono ?_
      rintro e w1 ⟨rfl, rfl⟩
      go_wp2_with fail
      refine (HIN.out _).mono ?_
      rintro e w2 ⟨rfl, rfl⟩
      go_wp2_with fail
      refine (HRP.out _).mono ?_
      rintro e w3 ⟨ra, rn, rc, rfl, hb3, -⟩
      simp only [rok, Option.isSome]
      have c0 := (bcell hb3).1 w.heap.size 0 (by simp)
      have c1 := (bcell hb3).1 w.heap.size 1 (by simp)
      have c2 := (bcell hb3).1 w.heap.size 2 (by simp)
      have f0 := (bcell hb3).2 w.heap.size 0 (by simp)
      have f1 := (bcell hb3).2 w.heap.size 1 (by simp)
      have f2 := (bcell hb3).2 w.heap.size 2 (by simp)
      simp at c0 c1 c2 f0 f1 f2
      have hz3 := hb3.size
      simp at hz3
      have hzz : w.heap.size < w3.heap.size := by omega
      have HB3 := hid' (((Below.refl _ _).alloc (Nat.le_refl _) _).trans (hb3.mono (by simp)) : Below w.heap.size w w3)
      clear hb3
      go_wp2
      refine bodyPost_ret (v := .tuple #[.agg #[.string ByteArray.empty, .slice none 0 0, .string ByteArray.empty], .bool false]) (by simp [results, Tryd.results48, go_sem, *]; rfl) rfl ⟨zeroN, by rw [HF.out]; rfl, ?_, ⟨none, 0, 0, rfl⟩, fun h => by rw [HF.out] at h; exact absurd h (by simp)⟩
      exact (((HB3.out.setCell (Nat.le_refl _) _).setCell (Nat.le_refl _) _).setCell (Nat.le_refl _) _).alloc (by simp; omega) _
    · have HF := hid' (HY.out sp hnm rfl)
      have HL := hid' (HLN.out sp hnm rfl)
      have HL3 := hid' (H3.out hnm)
      have HRL := hid' (rangeP_len hrg)
      have HRG := hid' hrg
      clear hnm HN1 HN2 HY HLN H3 hrg
      go_enter Tryd.func48, Tryd.ntmps48
      go_wp2_with fail
      refine (HLA.out _).mono ?_
      rintro e w1 ⟨rfl, rfl⟩
      go_wp2_with fail
      refine (HIN.out _).mono ?_
      rintro e w2 ⟨rfl, rfl⟩
      go_wp2_with fail
      refine (HRP.out _).mono ?_
      rintro e w3 ⟨ra, rn, rc, rfl, hb3, hrow⟩
      simp only [rok, Option.isSome]
      have hrow := hrow sp rfl
      have HRX := hid' hrow
      have c0 := (bcell hb3).1 w.heap.size 0 (by simp)
      have c1 := (bcell hb3).1 w.heap.size 1 (by simp)
      have c2 := (bcell hb3).1 w.heap.size 2 (by simp)
      have f0 := (bcell hb3).2 w.heap.size 0 (by simp)
      have f1 := (bcell hb3).2 w.heap.size 1 (by simp)
      have f2 := (bcell hb3).2 w.heap.size 2 (by simp)
      simp at c0 c1 c2 f0 f1 f2
      have hz3 := hb3.size
      simp at hz3
      have hzz : w.heap.size < w3.heap.size := by omega
      have HB3 := hid' (((Below.refl _ _).alloc (Nat.le_refl _) _).trans (hb3.mono (by simp)) : Below w.heap.size w w3)
      clear hb3
      clear hrow
      go_wp2
      refine bodyPost_ret (v := .tuple #[.agg #[.string (s.extract 0 k), .slice ra rn rc, .string s], .bool true]) (by simp [results, Tryd.results48, go_sem, *]) rfl ⟨⟨(tx s).take k, .slice ra rn rc, sp, tx s⟩, ?_, ?_, ⟨ra, rn, rc, rfl⟩, fun _ => ⟨?_, ?_⟩⟩
      · rw [HF.out, HX1.out]; simp only [needXV, bs_tx]
      · exact (((HB3.out.setCell (Nat.le_refl _) _).setCell (Nat.le_refl _) _).setCell (Nat.le_refl _) _).alloc (by simp; omega) _
      · rw [HDO.out]
        exact ⟨HF.out, rfl, rfl, rfl⟩
      · refine ⟨?_, fun h => by have := HRL.out.1; simp only at h; rw [h] at this; exact absurd this (by simp), HRL.out.2, HL3.out, HL.out⟩
        have h1 : w.heap.size < (w.alloc (.cells #[.string ByteArray.empty, .slice none 0 0, .string ByteArray.empty] 86)).heap.size := by simp
        exact RowX.of_own ((ownsRow_setCell_below (ownsRow_setCell_below (ownsRow_setCell_below HRX.out h1 _) h1 _) h1 _).alloc _)

end Hst
end Go.Proofs.YtecocheolbkneaaDoor
namespace Go.Proofs.YtecocheolbkneaaDoor
open Go.RowKit
namespace Hst
set_option maxRecDepth 100000

theorem insG_len {α : Type} (key : α → Tx) (x : α) : ∀ (l : List α) (b : Bool), (insG key x b l).length = l.length + (if b = true then 0 else 1)
  | [], b => by cases b <;> simp [insG]
  | y :: r, b => by
    have h1 := insG_len key x r true
    have h2 := insG_len key x r b
    simp only [insG]
    split
    · rename_i h
      rw [h.1]; simp [h1]
    · simp [h2]; omega
theorem withN_len (l : List NeedX) (x : NeedX) : (withN l x).length = l.length + 1 := insG_len _ x l false
theorem NeedsOf.nil : NeedsOf [] [] := ⟨rfl, by simp⟩
theorem NeedsOf.snoc {d : List Tx} {xs : List NeedX} {t : Tx} {x : NeedX} (h : NeedsOf d xs) (hx : NeedOf t x) : NeedsOf (d ++ [t]) (xs ++ [x]) := by
  refine ⟨by simp [h.1], fun p hp => ?_⟩
  rw [List.zip_append h.1.symm] at hp
  simp only [List.mem_append, List.zip_cons_cons, List.zip_nil_right, List.mem_singleton] at hp
  rcases hp with hp | rfl
  · exact h.2 p hp
  · exact hx
theorem lo_long {l : Tx} (h : ¬ (splitL 44 l).length ≤ 6) : listOkP l = false := by unfold listOkP; simp [h]
theorem lo_go {l : Tx} (h : (splitL 44 l).length ≤ 6) : listOkP l = (splitL 44 l).all needOkP := by unfold listOkP; simp [h]
theorem pl_yes (f : Tx → Bool) (d : List Tx) (k : Nat) (hk : k < d.length) (h : f d[k] = true) : (d.drop k).all f = (d.drop (k + 1)).all f := by
  rw [List.drop_eq_getElem_cons hk, List.all_cons, h, Bool.true_and]
theorem pl_no (f : Tx → Bool) (d : List Tx) (k : Nat) (hk : k < d.length) (h : f d[k] = false) : (d.drop k).all f = false := by
  rw [List.drop_eq_getElem_cons hk, List.all_cons, h, Bool.false_and]
theorem pl_end (f : Tx → Bool) (d : List Tx) (k : Nat) (hk : ¬ k < d.length) : (d.drop k).all f = true := by
  rw [List.drop_of_length_le (by omega)]; rfl
theorem foldN_len (xs : List NeedX) : ∀ acc : List NeedX, (xs.foldl withN acc).length = acc.length + xs.length := by
  induction xs with
  | nil => intro acc; simp
  | cons x r ih => intro acc; simp only [List.foldl_cons, ih, withN_len, List.length_cons]; omega
theorem Row.rowx {w : World} {base : Nat} {v : Value} {d : List Tx} (h : Row w base v d) : RowX strC 1 9 w v d := by
  unfold Row at h
  rw [strs_flat] at h
  exact RowX.of_own h
theorem RowX.strs {w : World} {v : Value} {l : List Tx} (h : RowX strC 1 9 w v l) {k : Nat} (hk : k < l.length) :
    ∃ g o cap, v = .slice (some ⟨g, o, none⟩) l.length cap ∧ g < w.heap.size ∧ ∀ (j : Nat) (hj : j < l.length), w.cell? ⟨g, o + j, none⟩ = some (.string (bs l[j])) := by
  obtain ⟨g, o, cap, hv, hg, hc⟩ := h.cells strC_len hk
  exact ⟨g, o, cap, hv, hg, fun j hj => by have := hc j hj 0 (by omega); simpa [strC] using this⟩

set_option maxHeartbeats 2000000 in
theorem plist_any (s : ByteArray) (w : World) (hs : s.size ≤ 100000) :
    Calls Tryd.prog 113 #[.string s] w fun e w' => ∃ a n c, e = .returned (.tuple #[.slice a n c, .bool (listOkP (tx s))]) ∧ Below w.heap.size w w' ∧
      (listOkP (tx s) = true → ∃ xs, NeedsOf (splitL 44 (tx s)) xs ∧ NeedsIn w' (.slice a n c) (xs.foldl withN [])) := by
  have HLO := hid' (lo_long (l := tx s))
  have HGO := hid' (lo_go (l := tx s))
  have HPS : Hid (∀ j (hj : j < (splitL 44 (tx s)).length), (bs (splitL 44 (tx s))[j]).size ≤ 100000) := fun j hj => by have := piece_size 44 s j hj; omega
  go_enter Tryd.func113, Tryd.ntmps113
  go_wp2_with fail
  refine (psplit_any s 44 _ hs).mono ?_
  rintro e w1 ⟨v, rfl, hrow, hb1⟩
  have hrx := hrow.rowx
  obtain ⟨ta, tc, rfl⟩ := hrx.form
  have HRX := hid' hrx
  have HB1 := hid' hb1
  have hz1 := hb1.size
  clear hrow hrx hb1
  generalize hdd : splitL 44 (tx s) = d at *
  have HDD := hid' hdd
  clear hdd
  by_cases h6 : d.length ≤ 6
  · have HG := hid' (HGO.out h6)
    have hb6 : ¬ (6 : Int) < (d.length : Int) := by omega
    clear HLO HGO
    go_wp2
    go_loopw [5, 17] (fun v i wr => ∃ (k : Nat) (xs : List NeedX) (a : Option Addr) (c : Nat), k ≤ d.length ∧ xs.length = k ∧ i = .int .i64 k ∧ v = .slice a k c ∧ Below w1.heap.size w1 wr ∧ NeedsIn wr (.slice a k c) (xs.foldl withN []) ∧ Hid (NeedsOf (d.take k) xs ∧ listOkP (tx s) = (d.drop k).all needOkP)) (fun _ i _ => d.length - (intOf i).toNat)
    case atStart => exact ⟨0, [], none, 0, Nat.zero_le _, rfl, rfl, rfl, Below.refl _ _, ⟨RowX.nil _ _ _ _, by simp⟩, ⟨by simpa using NeedsOf.nil, by rw [HG.out]; rfl⟩⟩
    case round =>
      obtain ⟨k, xs, na, nc, hk, hxs, rfl, rfl, hbel, hin, hall⟩ := hrel
      have hz := hbel.size
      have HXS := hid' hxs
      have HIN := hid' hin
      clear hxs hin
      by_cases hlt : k < d.length
      · obtain ⟨g, o, cap', hv, hg, hc⟩ := (HRX.out.below hbel).strs hlt
        simp at hv
        obtain ⟨rfl, rfl⟩ := hv
        have c0 := hc k hlt
        have HP := hid' (fun w => nparse_any (bs d[k]) w (by have := HPS.out k hlt; omega))
        rw [tx_bs] at HP
        clear hc
        rcases hok : needOkP d[k] with _ | _
        · have HF : Hid (listOkP (tx s) = false) := by unfold Hid; rw [hall.out.2, pl_no needOkP d k hlt hok]
          rw [hok] at HP
          clear hok hall
          generalize bs d[k] = q at *
          go_wp2_with fail
          refine (HP.out _).mono ?_
          rintro e w2 ⟨x, rfl, hb2, ⟨sa, sn, sc, hsp⟩, -⟩
          obtain ⟨xn, xsp, xs', xt⟩ := x
          simp only at hsp
          subst hsp
          have hz2 := hb2.size
          have HB := hid' (HB1.out.trans ((hbel.trans (hb2.mono hz)).mono hz1))
          clear hb2 hbel
          go_wp2
          go_ret2
          refine ⟨none, 0, 0, by rw [HF.out]; rfl, HB.out.alloc (by omega) _, fun h => by rw [HF.out] at h; exact absurd h (by simp)⟩
        · have HF : Hid (listOkP (tx s) = (d.drop (k + 1)).all needOkP) := by unfold Hid; rw [hall.out.2, pl_yes needOkP d k hlt hok]
          have HD : Hid (∀ x, NeedOf d[k] x → NeedsOf (d.take (k + 1)) (xs ++ [x])) := fun x hx => by
            rw [List.take_succ_eq_append_getElem hlt]; exact hall.out.1.snoc hx
          rw [hok] at HP
          clear hok hall
          generalize d[k] = t at *
          generalize bs t = q at *
          go_wp2_with fail
          refine (HP.out _).mono ?_
          rintro e w2 ⟨x, rfl, hb2, ⟨sa, sn, sc, hsp⟩, hx⟩
          obtain ⟨hx1, hx2⟩ := hx trivial
          have hz2 := hb2.size
          have hin2 := (HIN.out.below hb2).below ((Below.refl _ _).alloc (Nat.le_refl _) (.cells #[.string (bs x.name), x.sp, .string (bs x.text)] 86))
          have hx3 := hx2.below ((Below.refl _ _).alloc (Nat.le_refl _) (.cells #[.string (bs x.name), x.sp, .string (bs x.text)] 86))
          have hfl := foldN_len xs []
          have hxl := HXS.out
          have HW := hid' (withN_any (.slice na k nc) (xs.foldl withN []) x _ hin2 hx3 (by simp at hfl; omega))
          have HNO := hid' (HD.out x hx1)
          have HFO : Hid (withN (xs.foldl withN []) x = (xs ++ [x]).foldl withN []) := by unfold Hid; rw [List.foldl_append]; rfl
          have HB2 := hid' (hbel.trans (hb2.mono hz))
          clear hx hx1 hx2 hx3 hin2 hb2 hbel hfl hxl HIN HD
          obtain ⟨xn, xsp, xs', xt⟩ := x
          simp only at hsp HW
          subst hsp
          go_wp2_with fail
          refine HW.out.mono ?_
          rintro e w3 ⟨v3, rfl, hin3, hb3⟩
          rw [HFO.out] at hin3
          obtain ⟨va, vc, rfl⟩ := hin3.1.form
          have hlen : ((xs ++ [(⟨xn, .slice sa sn sc, xs', xt⟩ : NeedX)]).foldl withN []).length = k + 1 := by rw [foldN_len]; have := HXS.out; simp; omega
          rw [hlen] at hin3 ⊢
          have HB3 := hid' (HB2.out.trans ((((Below.refl _ _).alloc (Nat.le_refl _) _).trans (hb3.mono (by simp))).mono (by omega)) : Below w1.heap.size w1 w3)
          have HI3 := hid' hin3
          clear hb3 hin3
          go_wp2
          go_roundw
          case rel => exact ⟨k + 1, _, va, vc, by omega, by have := HXS.out; simp; omega, by go_num, rfl, HB3.out, HI3.out, ⟨HNO.out, HF.out⟩⟩
          case measure => simp [intOf] <;> omega
      · have HF : Hid (listOkP (tx s) = true) := by unfold Hid; rw [hall.out.2, pl_end needOkP d k hlt]
        have HNO : Hid (NeedsOf d xs) := by have h := hall.out.1; rw [List.take_of_length_le (by omega)] at h; exact h
        have HB := hid' (HB1.out.trans (hbel.mono hz1))
        clear hall hbel
        go_wp2
        go_ret2
        exact ⟨na, k, nc, by rw [HF.out]; rfl, HB.out, fun _ => ⟨xs, by rw [HDD.out]; exact HNO.out, HIN.out⟩⟩
  · have HF := hid' (HLO.out h6)
    have hb6 : (6 : Int) < (d.length : Int) := by omega
    clear HLO HGO
    go_wp2
    go_ret2
    exact ⟨none, 0, 0, by rw [HF.out]; rfl, HB1.out, fun h => by rw [HF.out] at h; exact absurd h (by simp)⟩

end Hst
end Go.Proofs.YtecocheolbkneaaDoor
namespace Go.Proofs.YtecocheolbkneaaDoor
open Go.RowKit
namespace Hst

/-- All blocks but b are as they were, and b has cells of the same type. -/
structure But (b : Nat) (w w' : World) : Prop where
  size : w.heap.size ≤ w'.heap.size
  block : ∀ g, g < w.heap.size → g ≠ b → w'.heap[g]? = w.heap[g]?
  tag : b < w.heap.size → tagOf w' b = tagOf w b
theorem But.refl (b : Nat) (w : World) : But b w w := ⟨Nat.le_refl _, fun _ _ _ => rfl, fun _ => rfl⟩
theorem But.of_below {b : Nat} {w w' : World} (h : Below w.heap.size w w') : But b w w' := ⟨h.size, fun g hg _ => h.block g hg, fun hb => tagOf_below h hb⟩
theorem But.trans {b : Nat} {w w1 w2 : World} (h : But b w w1) (k : But b w1 w2) : But b w w2 :=
  ⟨Nat.le_trans h.size k.size, fun g hg hb => (k.block g (Nat.lt_of_lt_of_le hg h.size) hb).trans (h.block g hg hb), fun hb => (k.tag (Nat.lt_of_lt_of_le hb h.size)).trans (h.tag hb)⟩
theorem But.cell {b : Nat} {w w' : World} (h : But b w w') {g o : Nat} (hg : g < w.heap.size) (hb : g ≠ b) : w'.cell? ⟨g, o, none⟩ = w.cell? ⟨g, o, none⟩ := World.cell?_of_block (w := w) (h.block g hg hb)
theorem But.froz {b : Nat} {w w' : World} (h : But b w w') {g o : Nat} (hg : g < w.heap.size) (hb : g ≠ b) : w'.frozen? ⟨g, o, none⟩ = w.frozen? ⟨g, o, none⟩ := World.frozen?_of_block (w := w) (h.block g hg hb)
theorem But.tags {b : Nat} {w w' : World} (h : But b w w') {g : Nat} (hg : g < w.heap.size) : tagOf w' g = tagOf w g := by
  by_cases e : g = b
  · subst e; exact h.tag hg
  · unfold tagOf; rw [h.block g hg e]
theorem tag_set (w : World) (a : Addr) (u : Value) (g : Nat) : tagOf (w.setCell a u) g = tagOf w g := by
  by_cases e : g = a.block
  · subst e
    unfold tagOf World.setCell
    simp only [Array.getElem?_modify, if_true]
    rcases h : w.heap[a.block]? with _ | o
    · rfl
    · cases o <;> rfl
  · unfold tagOf; rw [Below.heap_setCell w a u g e]
theorem But.set (w : World) (b o : Nat) (u : Value) : But b w (w.setCell ⟨b, o, none⟩ u) :=
  ⟨by simp, fun g _ hb => Below.heap_setCell w ⟨b, o, none⟩ u g hb, fun _ => tag_set w ⟨b, o, none⟩ u b⟩
/-- A row that does not lie in b stays. -/
theorem RowX.off {α : Type} {f : α → List Value} {size b : Nat} {t : TypeId} {w w' : World} {v : Value} {l : List α} (h : RowX f size t w v l) (hb : But b w w') (hne : tagOf w b ≠ some t) : RowX f size t w' v l := by
  obtain ⟨a, cap, e, hr, ht⟩ := h
  refine ⟨a, cap, e, ⟨hr.len, hr.cap, fun hn => ?_⟩, fun g o h0 ha => ?_⟩
  · obtain ⟨g, o, ha, hg, hc⟩ := hr.at' hn
    have hgb : g ≠ b := fun e => hne (by rw [← e]; exact ht g o hn ha)
    exact ⟨g, o, ha, Nat.lt_of_lt_of_le hg hb.size, fun i hi => by rw [hb.cell hg hgb]; exact hc i hi⟩
  · obtain ⟨g', o', ha', hg, _⟩ := hr.at' h0
    rw [ha] at ha'
    simp at ha'
    rw [hb.tags (by omega)]
    exact ht g o h0 ha
/-- No row of needs, spans, entries or packages lies in b. -/
structure Odd (w : World) (b : Nat) : Prop where
  need : tagOf w b ≠ some 86
  span : tagOf w b ≠ some 106
theorem odd_of {w : World} {b : Nat} {t : TypeId} (h : tagOf w b = some t) (h1 : t ≠ 86) (h2 : t ≠ 106) : Odd w b := by
  constructor
  · rw [h]; simpa using h1
  · rw [h]; simpa using h2
theorem NeedIn.off {w w' : World} {b : Nat} {n : NeedX} (h : NeedIn w n) (hb : But b w w') (ho : Odd w b) : NeedIn w' n :=
  ⟨RowX.off h.sp hb ho.span, h.ne, h.le, h.nm, h.tx⟩
theorem NeedsIn.off {w w' : World} {b : Nat} {v : Value} {l : List NeedX} (h : NeedsIn w v l) (hb : But b w w') (ho : Odd w b) : NeedsIn w' v l :=
  ⟨RowX.off h.1 hb ho.need, fun n hn => (h.2 n hn).off hb ho⟩
theorem EntIn.off {w w' : World} {b : Nat} {e : EntX} (h : EntIn w e) (hb : But b w w') (ho : Odd w b) : EntIn w' e := ⟨h.1.off hb ho, h.2⟩
theorem tag_new (w : World) (cur : Array Value) (t : TypeId) : tagOf (w.alloc (.cells cur t)) w.heap.size = some t := by
  unfold tagOf; rw [heap_alloc_new w (.cells cur t)]
/-- An append to a row of its own: all else is as it was. -/
theorem But.grown {b base e size n n' : Nat} {w w' : World} {v v' : Value} {xs xs' : List Value} (hg : w.grownBy w' (some b)) (h : w.ownsRow base e size v n xs) (hv : v.ownBlock = some b) (h' : w'.ownsRow base e size v' n' xs') (hv' : v'.ownBlock = some b ∨ tagOf w' b = some e) : But b w w' :=
  ⟨hg.size, fun g hlt hne => hg.block g hlt (fun h => hne (by simpa using h)), fun _ => by
    rw [tag_of_own h hv]
    rcases hv' with hv' | hv'
    · exact tag_of_own h' hv'
    · exact hv'⟩

end Hst
end Go.Proofs.YtecocheolbkneaaDoor
