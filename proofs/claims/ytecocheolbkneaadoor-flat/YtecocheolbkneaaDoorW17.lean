/- Ksplit, Kflatw, Kwants, Ptreea -/
import Derived.Test.YtecocheolbkneaaDoorW16
import Derived.Test.YtecocheolbkneaaDoorW15
import Derived.Test.YtecocheolbkneaaDoorW11
import Derived.Test.YtecocheolbkneaaDoorW13
namespace Go.Proofs.YtecocheolbkneaaDoor
open Go.RowKit
namespace Hst
set_option maxRecDepth 100000

set_option maxHeartbeats 1000000 in
theorem ksplit_full (s : ByteArray) (n : Int) (w : World) (hs : s.size ≤ 100000) (hs0 : (0 : Int) < (s.size : Int)) :
    Calls Tryd.prog 74 #[.string s, .int .u8 n] w fun e w' => ∃ v, e = .returned v ∧ Row w' w.heap.size v (splitL n (tx s)) ∧ Below w.heap.size w w' := by
  obtain ⟨i0, hi, hz0, hz1, hz2⟩ := info_parts info_str
  go_enter Tryd.func74, Tryd.ntmps74
  go_wp2
  go_loopw [5, 6, 7] (fun v st i wr => ∃ (k fr : Nat) (d : List Tx), k ≤ s.size + 1 ∧ fr ≤ k ∧ d.length ≤ k ∧ st = .int .i64 fr ∧ i = .int .i64 k ∧ wr.ownsRow w.heap.size 9 1 v d.length (strs d) ∧ Below w.heap.size w wr ∧ Hid ((k ≤ s.size ∧ SplitAt n (tx s) k fr d) ∨ (k = s.size + 1 ∧ splitL n (tx s) = d))) (fun _ _ i _ => s.size + 1 - (intOf i).toNat)
  case atStart => exact ⟨0, 0, [], by omega, by omega, by simp, rfl, rfl, World.ownsRow_nil _ _ _ _, Below.refl _ _, .inl ⟨by omega, splitAt_start _ _⟩⟩
  case round =>
    obtain ⟨k, fr, d, hk, hfr, hd, rfl, rfl, hown, hbel, hall⟩ := hrel
    have hsz := hbel.size
    by_cases hlt : k < s.size
    · have hSA : Hid (SplitAt n (tx s) k fr d) := by rcases hall.out with h | h; · exact h.2
                                                     · omega
      have hne : ((k : Int) == (s.size : Int)) = false := by simp; omega
      by_cases hb : ((s[k]'hlt).toNat : Int) = n
      · have hbb : (((s[k]'hlt).toNat : Int) == n) = true := by simp [hb]
        have HN : Hid (SplitAt n (tx s) (k + 1) (k + 1) (d ++ [((tx s).drop fr).take (k - fr)])) := splitAt_yes hSA.out (by rw [tx_length]; exact hlt) hb
        have hl2 : d.length ≤ k := hd
        clear hb hall hSA
        go_wp2_with (first
          | (at_builtin; refine wpList_append_lies _ rfl _ _ 35 rfl w.heap.size 9 i0 (.string ByteArray.empty) 1 16 Tryd.underlying35 hi hz0 hz1 hz2 rfl (by omega) _ _ _ rfl (hown.alloc _) ⟨wr.heap.size, 0, none⟩ 1 1 [.string (s.extract fr k)] rfl rfl (cell_one_new _ _ _) (one_str _) (by omega) (by unfold maxLen; omega) (by omega) (by simp; omega) (wr.heap.size + 1) (by simp) ?_; intro g cap w1 hown1 hgrow hat hlt1))
        have R := step_own (extract_bs s fr k) hown hbel hown1 hgrow
        clear hown1 hgrow hown
        go_wp2
        go_roundw
        case rel => exact ⟨k + 1, k + 1, _, by omega, by omega, by simp; omega, by go_num, by go_num, R.1, R.2, .inl ⟨by omega, HN.out⟩⟩
        case measure => simp [intOf]; omega
      · have hbb : (((s[k]'hlt).toNat : Int) == n) = false := by simp [hb]
        have HN : Hid (SplitAt n (tx s) (k + 1) fr d) := splitAt_no hSA.out (by rw [tx_length]; exact hlt) hb
        clear hb hall hSA
        go_wp2
        go_roundw
        case rel => exact ⟨k + 1, fr, d, by omega, by omega, by omega, rfl, by go_num, hown, hbel, .inl ⟨by omega, HN.out⟩⟩
        case measure => simp [intOf]; omega
    · by_cases hend : k = s.size
      · subst hend
        have hSA : SplitAt n (tx s) s.size fr d := by
          rcases hall.out with h | h
          · exact h.2
          · omega
        have HN : Hid (splitL n (tx s) = d ++ [((tx s).drop fr).take (s.size - fr)]) := by
          have hx := tx_length s
          rw [← hx] at hSA ⊢
          exact splitAt_end hSA
        clear hall hSA
        go_wp2_with (first
          | (at_builtin; refine wpList_append_lies _ rfl _ _ 35 rfl w.heap.size 9 i0 (.string ByteArray.empty) 1 16 Tryd.underlying35 hi hz0 hz1 hz2 rfl (by omega) _ _ _ rfl (hown.alloc _) ⟨wr.heap.size, 0, none⟩ 1 1 [.string (s.extract fr s.size)] rfl rfl (cell_one_new _ _ _) (one_str _) (by omega) (by unfold maxLen; omega) (by omega) (by simp; omega) (wr.heap.size + 1) (by simp) ?_; intro g cap w1 hown1 hgrow hat hlt1))
        have R := step_own (extract_bs s fr s.size) hown hbel hown1 hgrow
        clear hown1 hgrow hown
        go_wp2
        go_roundw
        case rel => exact ⟨s.size + 1, s.size + 1, _, by omega, by omega, by simp <;> omega, by go_num, by go_num, R.1, R.2, .inr ⟨rfl, HN.out⟩⟩
        case measure => simp [intOf] <;> omega
      · have HN : Hid (splitL n (tx s) = d) := by
          rcases hall.out with h | h
          · omega
          · exact h.2
        have HR := hid (row_of hown HN.out hbel)
        clear hown hbel hall HN
        go_wp2
        go_ret
        exact ⟨_, rfl, HR.out.1, HR.out.2⟩

set_option maxHeartbeats 1000000 in
theorem ksplit_any (s : ByteArray) (n : Int) (w : World) (hs : s.size ≤ 100000) :
    Calls Tryd.prog 74 #[.string s, .int .u8 n] w fun e w' => ∃ v, e = .returned v ∧ Row w' w.heap.size v (splitK n (tx s)) ∧ Below w.heap.size w w' := by
  by_cases h : s.size = 0
  · have e : splitK n (tx s) = [] := by
      have : tx s = [] := List.eq_nil_of_length_eq_zero (by rw [tx_length]; exact h)
      unfold splitK; rw [if_pos this]
    rw [e]
    have h0 : ¬ (0 : Int) < (s.size : Int) := by omega
    have h1 : (0 : Int) ≤ (s.size : Int) := by omega
    go_enter Tryd.func74, Tryd.ntmps74
    go_wp2
    go_loopw [5, 7] (fun v i wr => v = .slice none 0 0 ∧ i = .int .i64 0 ∧ wr = w) (fun _ _ _ => 0)
    case atStart => exact ⟨rfl, rfl, rfl⟩
    case round =>
      obtain ⟨rfl, rfl, rfl⟩ := hrel
      go_wp2
      go_ret
      exact ⟨_, rfl, World.ownsRow_nil _ _ _ _, Below.refl _ _⟩
  · have e : splitK n (tx s) = splitL n (tx s) := by
      unfold splitK
      rw [if_neg (fun hh => h (by rw [← tx_length, hh]; rfl))]
    rw [e]
    exact ksplit_full s n w hs (by omega)

theorem ret_ah {a b a' b' : ByteArray} (h : a = a') (h' : b = b') : Ending.returned (.tuple #[.string a, .string b]) = .returned (.tuple #[.string a', .string b']) := by rw [h, h']
set_option maxHeartbeats 1000000 in
theorem ahead_any (s : ByteArray) (n : Int) (w : World) (hs : s.size ≤ 9223372036854775807) :
    Calls Tryd.prog 76 #[.string s, .int .u8 n] w fun e w' => e = .returned (.tuple #[.string (bs (cutR n (tx s)).1), .string (bs (cutR n (tx s)).2.1)]) ∧ Below w.heap.size w w' := by
  go_enter Tryd.func76, Tryd.ntmps76
  go_wp2
  go_loop [6] (fun i => ∃ k : Nat, k ≤ s.size ∧ i = .int .i64 k ∧ Hid (∀ j (hj : j < k) (hj' : j < (tx s).length), (((tx s)[j]'hj').toNat : Int) ≠ n)) (fun i => s.size - (intOf i).toNat)
  case atStart => exact ⟨0, Nat.zero_le _, rfl, fun j hj => by omega⟩
  case round =>
    obtain ⟨k, hk, rfl, hall⟩ := hrel
    have hl := tx_length s
    by_cases hlt : k < s.size
    · have hkk : ((tx s)[k]'(by omega)) = s[k]'hlt := rfl
      by_cases hb : ((s[k]'hlt).toNat : Int) = n
      · have hbb : (((s[k]'hlt).toNat : Int) == n) = true := by simp [hb]
        have HF : Hid (cutR n (tx s) = ((tx s).take k, (tx s).drop (k + 1), true)) := cut_yes n (tx s) k (by omega) (by rw [hkk]; exact hb) (fun j hj => hall.out j hj (by omega))
        have HX1 := hid' (ext_to s k)
        have HX2 := hid' (ext_from s (k + 1))
        have hk1 : (k : Int) + 1 ≤ (s.size : Int) := by omega
        clear hb hall hkk hl
        go_wp2
        go_region
        all_goals
          go_wp2
          go_ret2
          exact ⟨ret_ah (by rw [HF.out, ← HX1.out]) (by rw [HF.out, ← HX2.out]), (Below.refl _ _).drew⟩
      · have hbb : (((s[k]'hlt).toNat : Int) == n) = false := by simp [hb]
        have HF : Hid (∀ j (hj : j < k + 1) (hj' : j < (tx s).length), (((tx s)[j]'hj').toNat : Int) ≠ n) := by
          intro j hj hj'
          by_cases e : j = k
          · subst e; exact hb
          · exact hall.out j (by omega) hj'
        clear hb hall hkk hl
        go_wp2
        go_round
        case rel => exact ⟨k + 1, by omega, by go_num, HF⟩
        case measure => simp [intOf]; omega
    · have HF : Hid (cutR n (tx s) = (tx s, [], false)) := cut_no n (tx s) (fun j hj => hall.out j (by omega) hj)
      clear hall hl
      go_wp2
      go_ret2
      exact ⟨ret_ah (by rw [HF.out, bs_tx]) (by rw [HF.out]; rfl), Below.refl _ _⟩



set_option maxHeartbeats 1000000 in
theorem klast_any (s : ByteArray) (w : World) (hs : s.size ≤ 100000) :
    Calls Tryd.prog 77 #[.string s] w fun e w' => e = .returned (.string (bs (lastK (tx s)))) ∧ Below w.heap.size w w' := by
  have HS := hid' (ksplit_any s 47 w hs)
  have HL : Hid (∀ d : List Tx, splitK 47 (tx s) = d → lastK (tx s) = d.getLastD []) := fun d h => by unfold lastK; rw [h]
  have HLE : Hid ((splitK 47 (tx s)).length ≤ 100001) := by
    unfold Hid splitK
    split
    · simp
    · have := splitL_len 47 (tx s)
      rw [tx_length] at this
      omega
  generalize lastK (tx s) = res at *
  generalize hd : splitK 47 (tx s) = d at *
  have HF := hid' (HL.out d rfl)
  clear hd HL
  go_enter Tryd.func77, Tryd.ntmps77
  go_wp2_with fail
  refine HS.out.mono ?_
  rintro e w1 ⟨v, rfl, hrow, hb1⟩
  obtain ⟨a, cap, rfl, hst⟩ := RowV hrow
  have HB := hid' hb1
  clear hb1 hrow
  by_cases h0 : d.length = 0
  · have e : d = [] := List.eq_nil_of_length_eq_zero h0
    subst e
    clear hst h0
    go_wp2
    go_ret
    exact ⟨ret_str (by rw [HF.out]; rfl), HB.out⟩
  · obtain ⟨g, o, rfl, hg, hc⟩ := hst.cells (k := d.length - 1) (by omega)
    have c0 := hc (d.length - 1) (by omega)
    have HG : Hid (res = d[d.length - 1]'(by omega)) := by
      unfold Hid
      rw [HF.out, List.getLastD_eq_getLast?, List.getLast?_eq_getElem?, List.getElem?_eq_getElem (by omega)]
      rfl
    have hne : ((d.length : Int) == 0) = false := by simp; intro h; rw [h] at h0; simp at h0
    have hle := HLE.out
    obtain ⟨m, hm⟩ : ∃ m, d.length = m + 1 := ⟨d.length - 1, by omega⟩
    have e1 : d.length - 1 = m := by omega
    simp only [e1] at c0 HG
    generalize d[m]'(by omega) = x at *
    clear hst hc HF e1 h0
    have n1 : (d.length : Int) - 1 = (m : Int) := by omega
    have m0 : (0 : Int) ≤ (m : Int) := by omega
    have m1 : (m : Int) < (d.length : Int) := by omega
    have HM := hid' hm
    clear hm
    go_wp2
    go_ret
    exact ⟨ret_str (by rw [HG.out]), HB.out⟩

set_option maxHeartbeats 1000000 in
theorem khas_any (a : Option Addr) (n cap : Nat) (l : List Tx) (p : ByteArray) (w : World) (hl : StrsR w a n cap l) (hn : n ≤ 100000) :
    Calls Tryd.prog 54 #[.slice a n cap, .string p] w fun e w' => e = .returned (.bool (hasR l (tx p))) ∧ w' = w := by
  have HP : Hid (hasR l (tx p) = hasR (l.drop 0) (tx p)) := rfl
  have HN := hid' hl.1
  have HL := hid' hl
  clear hl
  go_enter Tryd.func54, Tryd.ntmps54
  go_wp2
  go_loop [5] (fun i => ∃ k : Nat, k ≤ n ∧ i = .int .i64 k ∧ Hid (hasR l (tx p) = hasR (l.drop k) (tx p))) (fun i => n - (intOf i).toNat)
  case atStart => exact ⟨0, Nat.zero_le _, rfl, HP⟩
  case round =>
    obtain ⟨k, hk, rfl, hall⟩ := hrel
    clear HP
    by_cases hlt : k < n
    · have hkl : k < l.length := by have := HN.out; omega
      obtain ⟨g, o, rfl, hg, hc⟩ := HL.out.cells hkl
      have c0 := hc k hkl
      clear hc
      by_cases he : l[k] = tx p
      · have HF : Hid (hasR l (tx p) = true) := by unfold Hid; rw [hall.out, has_yes l (tx p) k hkl he]
        have hb : ((bs l[k]).toList == p.toList) = true := by rw [he, bs_tx]; simp
        generalize bs l[k] = q at *
        clear he hall
        go_wp2
        go_ret
        exact ⟨ret_bool (by rw [HF.out]), rfl⟩
      · have HF : Hid (hasR l (tx p) = hasR (l.drop (k + 1)) (tx p)) := by unfold Hid; rw [hall.out, has_no l (tx p) k hkl he]
        have hb : ((bs l[k]).toList == p.toList) = false := by rw [tx_toList, tx_toList, tx_bs]; simp [he]
        generalize bs l[k] = q at *
        clear he hall
        go_wp2
        go_round
        case rel => exact ⟨k + 1, by omega, by go_num, HF⟩
        case measure => simp [intOf]; omega
    · have HF : Hid (hasR l (tx p) = false) := by unfold Hid; rw [hall.out, has_end l (tx p) k (by have := HN.out; omega)]
      go_wp2
      go_ret
      exact ⟨ret_bool (by rw [HF.out]), rfl⟩
end Hst
end Go.Proofs.YtecocheolbkneaaDoor
namespace Go.Proofs.YtecocheolbkneaaDoor
open Go.RowKit
namespace Hst
set_option maxRecDepth 100000

theorem nx_yes {low nx : Tx} {l : List Tx} {j : Nat} (hj : j < l.length) (h : (less low l[j] && (decide (nx = []) || less l[j] nx)) = true) : nextGo low nx (l.drop j) = nextGo low l[j] (l.drop (j + 1)) := by
  rw [List.drop_eq_getElem_cons hj, nextGo, if_pos h]
theorem nx_no {low nx : Tx} {l : List Tx} {j : Nat} (hj : j < l.length) (h : (less low l[j] && (decide (nx = []) || less l[j] nx)) = false) : nextGo low nx (l.drop j) = nextGo low nx (l.drop (j + 1)) := by
  rw [List.drop_eq_getElem_cons hj, nextGo, if_neg (by rw [h]; simp)]
theorem nx_end {low nx : Tx} {l : List Tx} {j : Nat} (hj : ¬ j < l.length) : nextGo low nx (l.drop j) = nx := by
  rw [List.drop_of_length_le (by omega)]; rfl
theorem nx_in (low : Tx) (m : Nat) : ∀ (l : List Tx) (nx : Tx), (∀ x ∈ l, x.length ≤ m) → nx.length ≤ m → (nextGo low nx l).length ≤ m
  | [], nx, _, h => h
  | x :: r, nx, h, h' => by
    rw [nextGo]
    refine nx_in low m r _ (fun y hy => h y (List.mem_cons_of_mem _ hy)) ?_
    split
    · exact h x (by simp)
    · exact h'
theorem fl_step {l : List Tx} {k : Nat} {low : Tx} (hk : k < l.length) : flatGo l (l.length - k) (decide (k = 0)) low = (if k = 0 then [] else [59]) ++ (nextGo low [] l ++ [64] ++ ver1) ++ flatGo l (l.length - (k + 1)) (decide (k + 1 = 0)) (nextGo low [] l) := by
  have e : l.length - k = (l.length - (k + 1)) + 1 := by omega
  rw [e, flatGo]
  have e2 : decide (k + 1 = 0) = false := by simp
  rw [e2]
  by_cases h : k = 0 <;> simp [h]

set_option maxHeartbeats 4000000 in
theorem flat_any (a : Option Addr) (n cap : Nat) (l : List Tx) (w : World) (hl : StrsR w a n cap l) (hn : n ≤ 1000) (hm : ∀ x ∈ l, x.length ≤ 100) :
    Calls Tryd.prog 30 #[.slice a n cap] w fun e w' => e = .returned (.string (bs (flatK l))) ∧ w' = w := by
  obtain ⟨rfl, hr⟩ := hl
  have HL : Hid (StrsR w a l.length cap l) := ⟨rfl, hr⟩
  have HM := hid' hm
  have HR : Hid (flatK l = [] ++ flatGo l (l.length - 0) (decide (0 = 0)) []) := rfl
  generalize flatK l = res at *
  clear hr hm
  go_enter Tryd.func30, Tryd.ntmps30
  go_wp2
  go_loopw [3, 4, 5] (fun sv lv i wr => ∃ (k : Nat) (s low : Tx), k ≤ l.length ∧ s.length ≤ k * 200 ∧ low.length ≤ 100 ∧ sv = .string (bs s) ∧ lv = .string (bs low) ∧ i = .int .i64 k ∧ wr = w ∧ Hid (res = s ++ flatGo l (l.length - k) (decide (k = 0)) low)) (fun _ _ i _ => l.length - (intOf i).toNat)
  case atStart => exact ⟨0, [], [], Nat.zero_le _, by simp, by simp, rfl, rfl, rfl, rfl, HR⟩
  case round =>
    obtain ⟨k, s, low, hk, hsl, hll, rfl, rfl, rfl, rfl, hall⟩ := hrel
    by_cases hlt : k < l.length
    · have HST := hid' (fl_step (l := l) (k := k) (low := low) hlt)
      have HNL := hid' (nx_in low 100 l [] HM.out (by simp))
      have HN0 : Hid (nextGo low [] l = nextGo low [] (l.drop 0)) := rfl
      generalize nextGo low [] l = nxt at *
      have klt : (k : Int) < (l.length : Int) := by omega
      go_wp2
      go_loopw [6, 7] (fun nv j wi => ∃ (m : Nat) (nx : Tx), m ≤ l.length ∧ nx.length ≤ 100 ∧ nv = .string (bs nx) ∧ j = .int .i64 m ∧ wi = wr ∧ Hid (nxt = nextGo low nx (l.drop m))) (fun _ j _ => l.length - (intOf j).toNat)
      case atStart => exact ⟨0, [], Nat.zero_le _, by simp, rfl, rfl, rfl, HN0⟩
      case round =>
        obtain ⟨m, nx, hm, hnl, rfl, rfl, rfl, hin⟩ := hrel
        by_cases hmt : m < l.length
        · obtain ⟨g, o, hv, hg, hc⟩ := HL.out.cells hmt
          subst hv
          have c0 := hc m hmt
          have hzl := HM.out _ (List.getElem_mem hmt)
          have HY := hid' (nx_yes (low := low) (nx := nx) hmt)
          have HN := hid' (nx_no (low := low) (nx := nx) hmt)
          clear hc
          generalize l[m] = z at *
          have m0 : (0 : Int) ≤ (m : Int) := by omega
          have m1 : (m : Int) < (l.length : Int) := by omega
          rcases less_tri low z with h1 | h1 | h1
          rotate_left
          · have b1 : Op.bytesLess (bs z).toList (bs low).toList = false := by rw [tx_toList, tx_toList, tx_bs, tx_bs, h1]; exact less_irr z
            have b0 : ((bs z).toList == (bs low).toList) = true := by rw [h1]; simp
            have hl1 : less low z = false := by rw [h1]; exact less_irr z
            clear h1
            have h1 := hl1
            have HF : Hid (nxt = nextGo low nx (l.drop (m + 1))) := by unfold Hid; rw [hin.out]; exact HN.out (by rw [h1]; rfl)
            clear hin HY HN
            go_wp2
            go_roundw
            case rel => exact ⟨m + 1, nx, by omega, hnl, rfl, by go_num, by first | rfl | trivial, HF⟩
            case measure => simp [intOf] <;> omega
          · have b1 : Op.bytesLess (bs z).toList (bs low).toList = true := by rw [tx_toList, tx_toList, tx_bs, tx_bs]; exact h1
            have h1 : less low z = false := less_asymm h1
            have HF : Hid (nxt = nextGo low nx (l.drop (m + 1))) := by unfold Hid; rw [hin.out]; exact HN.out (by rw [h1]; rfl)
            clear hin HY HN
            go_wp2
            go_roundw
            case rel => exact ⟨m + 1, nx, by omega, hnl, rfl, by go_num, by first | rfl | trivial, HF⟩
            case measure => simp [intOf] <;> omega
          · have b1 : Op.bytesLess (bs z).toList (bs low).toList = false := by rw [tx_toList, tx_toList, tx_bs, tx_bs]; exact less_asymm h1
            have b0 : ((bs z).toList == (bs low).toList) = false := by rw [tx_toList, tx_toList, tx_bs, tx_bs]; simpa using fun e => less_ne h1 e.symm
            by_cases h2 : nx = []
            · have b2 : ((bs nx).toList == []) = true := by rw [tx_toList, tx_bs, h2]; rfl
              have HF : Hid (nxt = nextGo low z (l.drop (m + 1))) := by unfold Hid; rw [hin.out]; exact HY.out (by rw [h1, decide_eq_true h2]; rfl)
              clear hin HY HN h2
              go_wp2
              go_roundw
              case rel => exact ⟨m + 1, z, by omega, hzl, rfl, by go_num, by first | rfl | trivial, HF⟩
              case measure => simp [intOf] <;> omega
            · have b2 : ((bs nx).toList == []) = false := by rw [tx_toList, tx_bs]; simpa using h2
              rcases h3 : less z nx with _ | _
              · have b3 : Op.bytesLess (bs z).toList (bs nx).toList = false := by rw [tx_toList, tx_toList, tx_bs, tx_bs]; exact h3
                have HF : Hid (nxt = nextGo low nx (l.drop (m + 1))) := by unfold Hid; rw [hin.out]; exact HN.out (by rw [h1, decide_eq_false h2, h3]; rfl)
                clear hin HY HN h2
                go_wp2
                go_roundw
                case rel => exact ⟨m + 1, nx, by omega, hnl, rfl, by go_num, by first | rfl | trivial, HF⟩
                case measure => simp [intOf] <;> omega
              · have b3 : Op.bytesLess (bs z).toList (bs nx).toList = true := by rw [tx_toList, tx_toList, tx_bs, tx_bs]; exact h3
                have HF : Hid (nxt = nextGo low z (l.drop (m + 1))) := by unfold Hid; rw [hin.out]; exact HY.out (by rw [h1, h3]; simp)
                clear hin HY HN h2
                go_wp2
                go_roundw
                case rel => exact ⟨m + 1, z, by omega, hzl, rfl, by go_num, by first | rfl | trivial, HF⟩
                case measure => simp [intOf] <;> omega
        · have HX : Hid (nxt = nx) := by unfold Hid; rw [hin.out, nx_end hmt]
          have mlt : ¬ (m : Int) < (l.length : Int) := by omega
          have s1 : (bs nx).size ≤ 100 := by rw [bs_size]; exact hnl
          have s0 : (bs s).size ≤ 200000 := by rw [bs_size]; omega
          rw [HX.out] at HST
          have HLS : Hid ((s ++ ((if k = 0 then [] else [59]) ++ (nx ++ [64] ++ ver1))).length ≤ (k + 1) * 200) := by
            unfold Hid
            have : (if k = 0 then ([] : Tx) else [59]).length ≤ 1 := by split <;> simp
            simp [ver1]
            omega
          have HFS : Hid (res = (s ++ ((if k = 0 then [] else [59]) ++ (nx ++ [64] ++ ver1))) ++ flatGo l (l.length - (k + 1)) (decide (k + 1 = 0)) nx) := by
            unfold Hid
            rw [hall.out, HST.out]
            simp [List.append_assoc]
          clear hin hall HST HX HN0
          by_cases h0 : k = 0
          · have HC : Hid ((bs s ++ bs nx) ++ (⟨#[64, 49, 46, 48, 46, 48]⟩ : ByteArray) = bs (s ++ ((if k = 0 then [] else [59]) ++ (nx ++ [64] ++ ver1)))) := by
              unfold Hid
              have e : (⟨#[64, 49, 46, 48, 46, 48]⟩ : ByteArray) = bs ([64] ++ ver1) := rfl
              rw [e, bs_append, bs_append, if_pos h0]
              simp
            have k0 : ¬ (0 : Int) < (k : Int) := by omega
            go_wp2
            go_roundw
            case rel => exact ⟨k + 1, _, nx, by omega, HLS.out, hnl, by rw [HC.out], rfl, by go_num, by first | rfl | trivial, HFS⟩
            case measure => simp [intOf] <;> omega
          · have HC : Hid (((bs s ++ (⟨#[59]⟩ : ByteArray)) ++ bs nx) ++ (⟨#[64, 49, 46, 48, 46, 48]⟩ : ByteArray) = bs (s ++ ((if k = 0 then [] else [59]) ++ (nx ++ [64] ++ ver1)))) := by
              unfold Hid
              have e : (⟨#[64, 49, 46, 48, 46, 48]⟩ : ByteArray) = bs ([64] ++ ver1) := rfl
              have e2 : (⟨#[59]⟩ : ByteArray) = bs [59] := rfl
              rw [e, e2, bs_append, bs_append, bs_append, if_neg h0]
              simp
            have k0 : (0 : Int) < (k : Int) := by omega
            go_wp2
            go_roundw
            case rel => exact ⟨k + 1, _, nx, by omega, HLS.out, hnl, by rw [HC.out], rfl, by go_num, by first | rfl | trivial, HFS⟩
            case measure => simp [intOf] <;> omega
    · have HF : Hid (res = s) := by
        unfold Hid
        rw [hall.out, show l.length - k = 0 by omega]
        simp [flatGo]
      have klt : ¬ (k : Int) < (l.length : Int) := by omega
      clear hall
      go_wp2
      go_ret
      exact ⟨by rw [HF.out]; rfl, rfl⟩

end Hst
end Go.Proofs.YtecocheolbkneaaDoor
namespace Go.Proofs.YtecocheolbkneaaDoor
open Go.RowKit
namespace Hst
set_option maxRecDepth 100000

def wantsV (o : Option ItemX) : Value := match o with
  | some x => .tuple #[x.wv, .bool true]
  | none => .tuple #[.slice none 0 0, .bool false]
theorem wantsV_some {x : ItemX} {v : Value} (h : x.wv = v) : Ending.returned (.tuple #[v, .bool true]) = .returned (wantsV (some x)) := by rw [← h]; rfl
theorem fd_yes (p : ItemX → Bool) (l : List ItemX) (k : Nat) (hk : k < l.length) (h : p l[k] = true) : (l.drop k).find? p = some l[k] := by
  rw [List.drop_eq_getElem_cons hk, List.find?_cons_of_pos h]
theorem fd_no (p : ItemX → Bool) (l : List ItemX) (k : Nat) (hk : k < l.length) (h : p l[k] = false) : (l.drop k).find? p = (l.drop (k + 1)).find? p := by
  rw [List.drop_eq_getElem_cons hk, List.find?_cons_of_neg (by rw [h]; simp)]
theorem fd_end (p : ItemX → Bool) (l : List ItemX) (k : Nat) (hk : ¬ k < l.length) : (l.drop k).find? p = none := by
  rw [List.drop_of_length_le (by omega)]; rfl

set_option maxHeartbeats 4000000 in
theorem wants_any (a : Option Addr) (cap : Nat) (l : List ItemX) (n v : ByteArray) (w : World) (hr : ItemsR w a cap l) (hl : l.length ≤ 1000) (hok : ∀ x ∈ l, ItemOk x) (hn : n.size ≤ 100000) (hv : v.size ≤ 100000) :
    Calls Tryd.prog 55 #[.slice a l.length cap, .string n, .string v] w fun e w' => e = .returned (wantsV (l.find? (isHead (tx n) (tx v)))) ∧ Below w.heap.size w w' := by
  have HR := hid' hr
  have HO := hid' hok
  have HE : Hid (l.find? (isHead (tx n) (tx v)) = (l.drop 0).find? (isHead (tx n) (tx v))) := rfl
  have HSM : Hid (n ++ ⟨#[64]⟩ ++ v = bs (tx n ++ [64] ++ tx v)) := by unfold Hid; rw [← bs_append, ← bs_append, bs_tx, bs_tx]; rfl
  have hsz : (n ++ (⟨#[64]⟩ : ByteArray)).size ≤ 100001 := by rw [ByteArray.size_append]; exact Nat.add_le_add_right hn 1
  generalize l.find? (isHead (tx n) (tx v)) = res at *
  clear hr hok
  go_enter Tryd.func55, Tryd.ntmps55
  go_wp2
  go_loopw [8] (fun i wr => ∃ k : Nat, k ≤ l.length ∧ i = .int .i64 k ∧ Below w.heap.size w wr ∧ Hid (res = (l.drop k).find? (isHead (tx n) (tx v)))) (fun i _ => l.length - (intOf i).toNat)
  case atStart => exact ⟨0, Nat.zero_le _, rfl, Below.refl _ _, HE⟩
  case round =>
    obtain ⟨k, hk, rfl, hbel, hall⟩ := hrel
    have hz := hbel.size
    by_cases hlt : k < l.length
    · obtain ⟨g, o, rfl, hg, hc⟩ := (HR.out.row.below hbel).items rfl hlt
      obtain ⟨c0, c1, c2, c3⟩ := hc k hlt
      have hmem : l[k] ∈ l := List.getElem_mem hlt
      have hxo := HO.out _ hmem
      obtain ⟨va, vc, ev, _⟩ := HR.out.each _ hmem
      rw [ev] at c3
      have HH := hid' (fun w => head_any l[k].name l[k].major l[k].minor va l[k].wants.length vc w hxo.name hxo.major hxo.minor)
      have HY := hid' (fd_yes (isHead (tx n) (tx v)) l k hlt)
      have HN := hid' (fd_no (isHead (tx n) (tx v)) l k hlt)
      have HB : Hid (isHead (tx n) (tx v) l[k] = ((bs (headK l[k].name l[k].major l[k].minor)).toList == (n ++ ⟨#[64]⟩ ++ v).toList)) := by
        unfold Hid isHead
        rw [HSM.out, tx_toList, tx_toList, tx_bs, tx_bs]
        generalize tx n ++ [64] ++ tx v = z
        by_cases e : headK l[k].name l[k].major l[k].minor = z
        · simp [e]
        · simp [e]
      have HEV := hid' ev
      clear hc hmem hxo ev
      generalize isHead (tx n) (tx v) l[k] = hb at *
      generalize hx : l[k] = x at *
      clear hx
      generalize bs (headK x.name x.major x.minor) = b1 at *
      have k0 : (0 : Int) ≤ (k : Int) := by omega
      have k1 : (k : Int) < (l.length : Int) := by omega
      go_wp2_with fail
      refine (HH.out _).mono ?_
      rintro e w2 ⟨rfl, hb2⟩
      have e3 := ((bcell hb2).1 g (o + k * 4 + 3) hg).trans c3
      have hg2 : g < w2.heap.size := by have := hb2.size; omega
      have HB2 := hid' (hbel.trans (hb2.mono hz))
      clear hb2 c0 c1 c2 c3
      have hbb : (b1.toList == (n ++ (⟨#[64]⟩ : ByteArray) ++ v).toList) = hb := HB.out.symm
      cases hb
      · have HF : Hid (res = (l.drop (k + 1)).find? (isHead (tx n) (tx v))) := by unfold Hid; rw [hall.out]; exact HN.out rfl
        clear HN HY hall HB
        go_wp2
        go_roundw
        case rel => exact ⟨k + 1, by omega, by go_num, HB2.out, HF⟩
        case measure => simp [intOf] <;> omega
      · have HF : Hid (res = some x) := by unfold Hid; rw [hall.out]; exact HY.out rfl
        clear HN HY hall HB
        go_wp2
        go_ret2
        refine ⟨?_, HB2.out⟩
        rw [HF.out]
        exact wantsV_some HEV.out
    · have HF : Hid (res = none) := by unfold Hid; rw [hall.out, fd_end _ l k hlt]
      go_wp2
      go_ret2
      exact ⟨by rw [HF.out]; rfl, hbel⟩

theorem kag_yes (path : Tx) (l : List Tx) (k : Nat) (hk : k < l.length) (h : (cutR 64 l[k]).1 = path) : atGoK path (l.drop k) = (cutR 64 l[k]).2.1 := by
  rw [List.drop_eq_getElem_cons hk, atGoK, if_pos h]
theorem kag_no (path : Tx) (l : List Tx) (k : Nat) (hk : k < l.length) (h : ¬ (cutR 64 l[k]).1 = path) : atGoK path (l.drop k) = atGoK path (l.drop (k + 1)) := by
  rw [List.drop_eq_getElem_cons hk, atGoK, if_neg h]
theorem kag_end (path : Tx) (l : List Tx) (k : Nat) (hk : ¬ k < l.length) : atGoK path (l.drop k) = [] := by
  rw [List.drop_of_length_le (by omega)]; rfl
theorem splitK_len (n : Int) (t : Tx) : (splitK n t).length ≤ t.length + 1 := by
  unfold splitK
  split
  · simp
  · exact splitL_len n t
theorem splitK_size (n : Int) (s : ByteArray) : ∀ x ∈ splitK n (tx s), x.length ≤ s.size := by
  intro x hx
  unfold splitK at hx
  split at hx
  · simp at hx
  · obtain ⟨j, hj, rfl⟩ := List.mem_iff_getElem.1 hx
    have := piece_size n s j hj
    rw [bs_size] at this
    exact this

set_option maxHeartbeats 4000000 in
theorem kat_any (t p : ByteArray) (w : World) (ht : t.size ≤ 100000) :
    Calls Tryd.prog 89 #[.string t, .string p] w fun e w' => e = .returned (.string (bs (atK (tx t) (tx p)))) ∧ Below w.heap.size w w' := by
  have HS := hid' (ksplit_any t 59 w ht)
  have HE : Hid (atK (tx t) (tx p) = atGoK (tx p) ((splitK 59 (tx t)).drop 0)) := rfl
  have hle := splitK_len 59 (tx t)
  rw [tx_length] at hle
  have HPS := hid' (splitK_size 59 t)
  generalize atK (tx t) (tx p) = res at *
  generalize splitK 59 (tx t) = d at *
  have HLE : Hid (d.length ≤ 100001) := by unfold Hid; omega
  clear hle
  go_enter Tryd.func89, Tryd.ntmps89
  go_wp2_with fail
  refine HS.out.mono ?_
  rintro e w1 ⟨v, rfl, hrow, hb1⟩
  obtain ⟨a, cap, rfl, hst⟩ := RowV hrow
  have HB1 := hid' hb1
  have HST := hid' hst
  have hz1 := hb1.size
  clear hb1 hrow hst
  go_wp2
  go_loopw [6] (fun i wr => ∃ k : Nat, k ≤ d.length ∧ i = .int .i64 k ∧ Below w1.heap.size w1 wr ∧ Hid (res = atGoK (tx p) (d.drop k))) (fun i _ => d.length - (intOf i).toNat)
  case atStart => exact ⟨0, Nat.zero_le _, rfl, Below.refl _ _, HE⟩
  case round =>
    obtain ⟨k, hk, rfl, hbel, hall⟩ := hrel
    have hz := hbel.size
    have HBW := hid' (HB1.out.trans (hbel.mono hz1))
    by_cases hlt : k < d.length
    · obtain ⟨g, o, rfl, hg, hc⟩ := (HST.out.below hbel).cells hlt
      have c0 := hc k hlt
      have HAH := hid' (ahead_any (bs d[k]) 64 wr (by rw [bs_size]; have := HPS.out d[k] (List.getElem_mem hlt); omega))
      rw [tx_bs] at HAH
      have HY := hid' (kag_yes (tx p) d k hlt)
      have HN := hid' (kag_no (tx p) d k hlt)
      have hle := HLE.out
      clear hc
      generalize bs d[k] = q at *
      generalize (cutR 64 d[k]).1 = x1 at *
      generalize (cutR 64 d[k]).2.1 = x2 at *
      have k0 : (0 : Int) ≤ (k : Int) := by omega
      have k1 : (k : Int) < (d.length : Int) := by omega
      by_cases he : x1 = tx p
      · have HF : Hid (res = x2) := by unfold Hid; rw [hall.out]; exact HY.out he
        have hbb : ((bs x1).toList == p.toList) = true := by rw [he, bs_tx]; simp
        clear HY HN hall he
        generalize bs x1 = b1 at *
        go_wp2_with fail
        refine HAH.out.mono ?_
        rintro e w2 ⟨rfl, hb2⟩
        have HB2 := hid' (HBW.out.trans (hb2.mono (by omega)))
        clear hb2
        go_wp2
        go_ret
        exact ⟨ret_str (by rw [HF.out]), HB2.out⟩
      · have HF : Hid (res = atGoK (tx p) (d.drop (k + 1))) := by unfold Hid; rw [hall.out]; exact HN.out he
        have hbb : ((bs x1).toList == p.toList) = false := by rw [tx_toList, tx_toList, tx_bs]; simp [he]
        clear HY HN hall he
        generalize bs x1 = b1 at *
        go_wp2_with fail
        refine HAH.out.mono ?_
        rintro e w2 ⟨rfl, hb2⟩
        have HB2 := hid' (hbel.trans (hb2.mono hz))
        clear hb2
        go_wp2
        go_roundw
        case rel => exact ⟨k + 1, by omega, by go_num, HB2.out, HF⟩
        case measure => simp [intOf] <;> omega
    · have HF : Hid (res = []) := by unfold Hid; rw [hall.out, kag_end _ d k hlt]
      go_wp2
      go_ret
      exact ⟨ret_str (by rw [HF.out]; rfl), HBW.out⟩

end Hst
end Go.Proofs.YtecocheolbkneaaDoor
namespace Go.Proofs.YtecocheolbkneaaDoor
open Go.RowKit
namespace Hst
set_option maxRecDepth 100000

theorem spanC_len (s : Int × Int) : (spanC s).length = 2 := rfl
theorem RowX.spans {w : World} {v : Value} {sp : List (Int × Int)} (h : RowX spanC 2 106 w v sp) {k : Nat} (hk : k < sp.length) :
    ∃ g o cap, v = .slice (some ⟨g, o, none⟩) sp.length cap ∧ g < w.heap.size ∧ ∀ (j : Nat) (hj : j < sp.length), w.cell? ⟨g, o + j * 2, none⟩ = some (.int .i64 sp[j].1) ∧ w.cell? ⟨g, o + j * 2 + 1, none⟩ = some (.int .i64 sp[j].2) := by
  obtain ⟨g, o, cap, hv, hg, hc⟩ := h.cells spanC_len hk
  exact ⟨g, o, cap, hv, hg, fun j hj => ⟨hc j hj 0 (by omega), hc j hj 1 (by omega)⟩⟩

set_option maxHeartbeats 1000000 in
theorem fitsX_any (v : Value) (n : Int) (sp : List (Int × Int)) (w : World) (hrow : SpansIn w v sp) (hne : sp ≠ []) (hl : sp.length ≤ 1000) :
    Calls Tryd.prog 41 #[.agg #[v], .int .i64 n] w fun e w' => e = .returned (.bool (fitsP sp n)) ∧ Below w.heap.size w w' := by
  obtain ⟨g, o, cap, rfl, hg2, hcell⟩ := RowX.spans hrow (List.length_pos_iff.2 hne)
  have HC := hid hcell
  clear hcell hrow
  go_enter Tryd.func41, Tryd.ntmps41
  go_wp2
  go_loopw [10] (fun i wr => ∃ (k : Nat), k ≤ sp.length ∧ i = .int .i64 k ∧ Below w.heap.size w wr ∧ Hid (fitsP sp n = fitsP (sp.drop k) n)) (fun i _ => sp.length - (intOf i).toNat)
  case atStart => exact ⟨0, by omega, rfl, (Below.refl _ _).alloc (Nat.le_refl _) _, rfl⟩
  case round =>
    obtain ⟨k, hk, rfl, hbel, hall⟩ := hrel
    have hz := hbel.size
    by_cases hlt : k < sp.length
    · obtain ⟨c0, c1⟩ := HC.out k hlt
      have hc0 := (hbel.cell (p := ⟨g, o + k * 2, none⟩) hg2).trans c0
      have hc1 := (hbel.cell (p := ⟨g, o + k * 2 + 1, none⟩) hg2).trans c1
      clear c0 c1
      by_cases h1 : sp[k].1 ≤ n
      · by_cases h2 : n ≤ sp[k].2
        · have HF : Hid (fitsP sp n = true) := by unfold Hid; rw [hall.out, fp_yes sp k n hlt h1 h2]
          generalize sp[k].1 = x at *
          generalize sp[k].2 = y at *
          go_wp2
          go_ret
          exact ⟨ret_bool (by rw [HF.out]), hbel.alloc hz _⟩
        · have HF : Hid (fitsP sp n = fitsP (sp.drop (k + 1)) n) := by unfold Hid; rw [hall.out, fp_no sp k n hlt (by omega)]
          generalize sp[k].1 = x at *
          generalize sp[k].2 = y at *
          go_wp2
          go_roundw
          case rel => exact ⟨k + 1, by omega, by go_num, hbel.alloc hz _, HF⟩
          case measure => simp [intOf]; omega
      · have HF : Hid (fitsP sp n = fitsP (sp.drop (k + 1)) n) := by unfold Hid; rw [hall.out, fp_no sp k n hlt (by omega)]
        generalize sp[k].1 = x at *
        generalize sp[k].2 = y at *
        go_wp2
        go_roundw
        case rel => exact ⟨k + 1, by omega, by go_num, hbel.alloc hz _, HF⟩
        case measure => simp [intOf]; omega
    · have HF : Hid (fitsP sp n = false) := by unfold Hid; rw [hall.out, fp_end sp k n hlt]
      go_wp2
      go_ret
      exact ⟨ret_bool (by rw [HF.out]), hbel⟩

/-! ### packages -/
theorem RowX.pks {w : World} {v : Value} {l : List PkX} (h : RowX pkXC 4 130 w v l) {k : Nat} (hk : k < l.length) :
    ∃ g o cap, v = .slice (some ⟨g, o, none⟩) l.length cap ∧ g < w.heap.size ∧ ∀ (j : Nat) (hj : j < l.length), w.cell? ⟨g, o + j * 4, none⟩ = some (.string (bs l[j].path)) ∧ w.cell? ⟨g, o + j * 4 + 1, none⟩ = some (.string (bs l[j].e.name)) ∧ w.cell? ⟨g, o + j * 4 + 2, none⟩ = some (.int .i64 l[j].e.ver) ∧ w.cell? ⟨g, o + j * 4 + 3, none⟩ = some l[j].e.needs := by
  obtain ⟨g, o, cap, hv, hg, hc⟩ := h.cells pkXC_len hk
  exact ⟨g, o, cap, hv, hg, fun j hj => ⟨hc j hj 0 (by omega), hc j hj 1 (by omega), hc j hj 2 (by omega), hc j hj 3 (by omega)⟩⟩
theorem EntIn.form' {w : World} {e : EntX} (h : EntIn w e) : ∃ a c, e.needs = .slice a e.nd.length c := RowX.form h.1.1

set_option maxHeartbeats 1000000 in
theorem count_any (v : Value) (l : List PkX) (w : World) (hl : PksIn w v l) :
    Calls Tryd.prog 117 #[.agg #[v]] w fun e w' => e = .returned (.int .i64 l.length) ∧ Below w.heap.size w w' := by
  obtain ⟨a, cap, rfl⟩ := hl.1.form
  clear hl
  go_enter Tryd.func117, Tryd.ntmps117
  go_wp2
  go_ret
  exact ⟨rfl, (Below.refl _ _).alloc (Nat.le_refl _) _⟩

theorem ha_yes (l : List PkX) (p : Tx) (k : Nat) (hk : k < l.length) (h : l[k].path = p) : hasAtP (l.drop k) p = true := by
  rw [List.drop_eq_getElem_cons hk]; unfold hasAtP; rw [List.any_cons]; simp [h]
theorem ha_no (l : List PkX) (p : Tx) (k : Nat) (hk : k < l.length) (h : ¬ l[k].path = p) : hasAtP (l.drop k) p = hasAtP (l.drop (k + 1)) p := by
  rw [List.drop_eq_getElem_cons hk]; unfold hasAtP; rw [List.any_cons]; simp [h]
theorem ha_end (l : List PkX) (p : Tx) (k : Nat) (hk : ¬ k < l.length) : hasAtP (l.drop k) p = false := by
  rw [List.drop_of_length_le (by omega)]; rfl

set_option maxHeartbeats 1000000 in
theorem hasAt_any (v : Value) (l : List PkX) (p : ByteArray) (w : World) (hl : PksIn w v l) (hn : l.length ≤ 100000) :
    Calls Tryd.prog 100 #[.agg #[v], .string p] w fun e w' => e = .returned (.bool (hasAtP l (tx p))) ∧ Below w.heap.size w w' := by
  obtain ⟨a, cap, rfl⟩ := hl.1.form
  have HL := hid' hl
  clear hl
  go_enter Tryd.func100, Tryd.ntmps100
  go_wp2
  go_loopw [10] (fun i wr => ∃ k : Nat, k ≤ l.length ∧ i = .int .i64 k ∧ Below w.heap.size w wr ∧ Hid (hasAtP l (tx p) = hasAtP (l.drop k) (tx p))) (fun i _ => l.length - (intOf i).toNat)
  case atStart => exact ⟨0, Nat.zero_le _, rfl, (Below.refl _ _).alloc (Nat.le_refl _) _, rfl⟩
  case round =>
    obtain ⟨k, hk, rfl, hbel, hall⟩ := hrel
    have hz := hbel.size
    by_cases hlt : k < l.length
    · obtain ⟨g, o, cap', hv, hg, hc⟩ := (HL.out.below hbel).1.pks hlt
      simp at hv
      obtain ⟨rfl, rfl⟩ := hv
      obtain ⟨c0, c1, c2, c3⟩ := hc k hlt
      obtain ⟨sa, sc, hsp⟩ := (HL.out.2 l[k] (List.getElem_mem hlt)).form'
      clear hc
      by_cases he : l[k].path = tx p
      · have HF : Hid (hasAtP l (tx p) = true) := by unfold Hid; rw [hall.out, ha_yes l (tx p) k hlt he]
        have hb : ((bs l[k].path).toList == p.toList) = true := by rw [he, bs_tx]; simp
        clear he hall
        generalize l[k] = x at *
        go_wp2
        go_ret
        exact ⟨ret_bool (by rw [HF.out]), hbel.alloc hz _⟩
      · have HF : Hid (hasAtP l (tx p) = hasAtP (l.drop (k + 1)) (tx p)) := by unfold Hid; rw [hall.out, ha_no l (tx p) k hlt he]
        have hb : ((bs l[k].path).toList == p.toList) = false := by rw [tx_toList, tx_toList, tx_bs]; simp [he]
        clear he hall
        generalize l[k] = x at *
        go_wp2
        go_roundw
        case rel => exact ⟨k + 1, by omega, by go_num, hbel.alloc hz _, HF⟩
        case measure => simp [intOf] <;> omega
    · have HF : Hid (hasAtP l (tx p) = false) := by unfold Hid; rw [hall.out, ha_end l (tx p) k hlt]
      go_wp2
      go_ret
      exact ⟨ret_bool (by rw [HF.out]), hbel⟩

theorem hp_yes (l : List PkX) (p : Tx) (v : Int) (k : Nat) (hk : k < l.length) (h : l[k].e.name = p) (h' : l[k].e.ver = v) : hasP (l.drop k) p v = true := by
  rw [List.drop_eq_getElem_cons hk]; unfold hasP; rw [List.any_cons]; simp [h, h']
theorem hp_no (l : List PkX) (p : Tx) (v : Int) (k : Nat) (hk : k < l.length) (h : ¬ (l[k].e.name = p ∧ l[k].e.ver = v)) : hasP (l.drop k) p v = hasP (l.drop (k + 1)) p v := by
  rw [List.drop_eq_getElem_cons hk]; unfold hasP; rw [List.any_cons]
  have : (decide (l[k].e.name = p) && decide (l[k].e.ver = v)) = false := by
    simp only [Bool.and_eq_false_iff, decide_eq_false_iff_not]
    by_cases h1 : l[k].e.name = p
    · exact .inr fun h2 => h ⟨h1, h2⟩
    · exact .inl h1
  rw [this, Bool.false_or]
theorem hp_end (l : List PkX) (p : Tx) (v : Int) (k : Nat) (hk : ¬ k < l.length) : hasP (l.drop k) p v = false := by
  rw [List.drop_of_length_le (by omega)]; rfl

set_option maxHeartbeats 1000000 in
theorem hasP_any (v : Value) (l : List PkX) (p : ByteArray) (n : Int) (w : World) (hl : PksIn w v l) (hn : l.length ≤ 100000) :
    Calls Tryd.prog 123 #[.agg #[v], .string p, .int .i64 n] w fun e w' => e = .returned (.bool (hasP l (tx p) n)) ∧ Below w.heap.size w w' := by
  obtain ⟨a, cap, rfl⟩ := hl.1.form
  have HL := hid' hl
  clear hl
  go_enter Tryd.func123, Tryd.ntmps123
  go_wp2
  go_loopw [12] (fun i wr => ∃ k : Nat, k ≤ l.length ∧ i = .int .i64 k ∧ Below w.heap.size w wr ∧ Hid (hasP l (tx p) n = hasP (l.drop k) (tx p) n)) (fun i _ => l.length - (intOf i).toNat)
  case atStart => exact ⟨0, Nat.zero_le _, rfl, (Below.refl _ _).alloc (Nat.le_refl _) _, rfl⟩
  case round =>
    obtain ⟨k, hk, rfl, hbel, hall⟩ := hrel
    have hz := hbel.size
    by_cases hlt : k < l.length
    · obtain ⟨g, o, cap', hv, hg, hc⟩ := (HL.out.below hbel).1.pks hlt
      simp at hv
      obtain ⟨rfl, rfl⟩ := hv
      obtain ⟨c0, c1, c2, c3⟩ := hc k hlt
      obtain ⟨sa, sc, hsp⟩ := (HL.out.2 l[k] (List.getElem_mem hlt)).form'
      clear hc
      by_cases he : l[k].e.name = tx p
      · have hb : ((bs l[k].e.name).toList == p.toList) = true := by rw [he, bs_tx]; simp
        by_cases hv : l[k].e.ver = n
        · have HF : Hid (hasP l (tx p) n = true) := by unfold Hid; rw [hall.out, hp_yes l (tx p) n k hlt he hv]
          have hb2 : (l[k].e.ver == n) = true := by simp [hv]
          clear he hall hv
          generalize l[k] = x at *
          go_wp2
          go_ret
          exact ⟨ret_bool (by rw [HF.out]), hbel.alloc hz _⟩
        · have HF : Hid (hasP l (tx p) n = hasP (l.drop (k + 1)) (tx p) n) := by unfold Hid; rw [hall.out, hp_no l (tx p) n k hlt (fun h => hv h.2)]
          have hb2 : (l[k].e.ver == n) = false := beq_eq_false_iff_ne.2 hv
          clear he hall hv
          generalize l[k] = x at *
          go_wp2
          go_roundw
          case rel => exact ⟨k + 1, by omega, by go_num, hbel.alloc hz _, HF⟩
          case measure => simp [intOf] <;> omega
      · have HF : Hid (hasP l (tx p) n = hasP (l.drop (k + 1)) (tx p) n) := by unfold Hid; rw [hall.out, hp_no l (tx p) n k hlt (fun h => he h.1)]
        have hb : ((bs l[k].e.name).toList == p.toList) = false := by rw [tx_toList, tx_toList, tx_bs]; simp [he]
        clear he hall
        generalize l[k] = x at *
        go_wp2
        go_roundw
        case rel => exact ⟨k + 1, by omega, by go_num, hbel.alloc hz _, HF⟩
        case measure => simp [intOf] <;> omega
    · have HF : Hid (hasP l (tx p) n = false) := by unfold Hid; rw [hall.out, hp_end l (tx p) n k hlt]
      go_wp2
      go_ret
      exact ⟨ret_bool (by rw [HF.out]), hbel⟩

end Hst
end Go.Proofs.YtecocheolbkneaaDoor
