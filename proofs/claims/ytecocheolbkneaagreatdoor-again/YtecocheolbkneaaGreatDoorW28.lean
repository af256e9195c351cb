/- Pslim, Pspare, Pslimx, Pslims, Kload -/
import Derived.Test.YtecocheolbkneaaGreatDoorW27
import Derived.Test.YtecocheolbkneaaGreatDoorW15
import Derived.Test.YtecocheolbkneaaGreatDoorW25
import Derived.Test.YtecocheolbkneaaGreatDoorW22
namespace Go.Proofs.YtecocheolbkneaaGreatDoor
open Go.RowKit
namespace Hst
set_option maxRecDepth 100000

set_option maxHeartbeats 1000000 in
theorem isUnder_any (p x : ByteArray) (w : World) (hx : x.size ≤ 50000) :
    Calls Tryz.prog 150 #[.string p, .string x] w fun e w' => e = .returned (.bool (isUnderP (tx p) (tx x))) ∧ w' = w := by
  have HTB : Hid (tx (x ++ (⟨#[47]⟩ : ByteArray)) = tx x ++ [47]) := by unfold Hid; have e : x ++ (⟨#[47]⟩ : ByteArray) = bs (tx x ++ [47]) := (by rw [← bs_append, bs_tx]; rfl); rw [e, tx_bs]
  have h8 := tx_length x
  have h9 := tx_length p
  by_cases h : x.size + 1 ≤ p.size
  · have HE : Hid (isUnderP (tx p) (tx x) = ((p.extract 0 (x.size + 1)).toList == (x ++ (⟨#[47]⟩ : ByteArray)).toList)) := by
      unfold Hid isUnderP
      rw [tx_toList, tx_toList, tx_extract, HTB.out, List.drop_zero, tx_length]
      simp only [Nat.sub_zero]
      generalize (tx p).take (x.size + 1) = z
      by_cases e : z = tx x ++ [47] <;> simp [e]
    have hl : (x.size : Int) + 1 ≤ (p.size : Int) := by omega
    clear HTB h8 h9
    go_enter Tryz.func150, Tryz.ntmps150
    go_wp2
    go_ret
    exact ⟨ret_bool (by rw [HE.out]), rfl⟩
  · have HE : Hid (isUnderP (tx p) (tx x) = false) := by
      unfold Hid isUnderP
      refine decide_eq_false fun e => ?_
      have := congrArg List.length e
      rw [List.length_take] at this
      simp at this
      omega
    have hl : ¬ (x.size : Int) + 1 ≤ (p.size : Int) := by omega
    clear HTB h8 h9
    go_enter Tryz.func150, Tryz.ntmps150
    go_wp2
    go_ret
    exact ⟨ret_bool (by rw [HE.out]), rfl⟩

theorem wp_yes (t acc : List PkX) (x : Tx) (k : Nat) (hk : k < t.length) (h : (!decide (t[k].path = x) && !isUnderP t[k].path x) = true) : acc ++ withoutP (t.drop k) x = (acc ++ [t[k]]) ++ withoutP (t.drop (k + 1)) x := by
  unfold withoutP; rw [List.drop_eq_getElem_cons hk, List.filter_cons, if_pos h]; simp
theorem wp_no (t acc : List PkX) (x : Tx) (k : Nat) (hk : k < t.length) (h : (!decide (t[k].path = x) && !isUnderP t[k].path x) = false) : acc ++ withoutP (t.drop k) x = acc ++ withoutP (t.drop (k + 1)) x := by
  unfold withoutP; rw [List.drop_eq_getElem_cons hk, List.filter_cons, if_neg (by rw [h]; simp)]
theorem wp_end (t acc : List PkX) (x : Tx) (k : Nat) (hk : ¬ k < t.length) : acc ++ withoutP (t.drop k) x = acc := by
  rw [List.drop_of_length_le (by omega)]; simp [withoutP]
theorem wp_mem {t : List PkX} {x : Tx} {p : PkX} (h : p ∈ withoutP t x) : p ∈ t := (List.mem_filter.1 h).1

set_option maxHeartbeats 4000000 in
theorem withoutT_any (v : Value) (t : List PkX) (x : ByteArray) (w : World) (hl : PksIn w v t) (hn : t.length ≤ 1000) (hx : x.size ≤ 50000) :
    Calls Tryz.prog 116 #[.agg #[v], .string x] w fun e w' => ∃ v', e = .returned (.agg #[v']) ∧ PksIn w' v' (withoutP t (tx x)) ∧ Below w.heap.size w w' := by
  obtain ⟨i0, hi, hz0, hz1, hz2⟩ := info_parts info_pkX
  obtain ⟨a, cap, rfl⟩ := hl.1.form
  have HL := hid' hl
  have HP : Hid (withoutP t (tx x) = [] ++ withoutP (t.drop 0) (tx x)) := rfl
  have HI : Hid (∀ (w' : World), Below w.heap.size w w' → ∀ n ∈ withoutP t (tx x), EntIn w' n.e) := fun w' hb n hn => (HL.out.2 n (wp_mem hn)).below hb
  generalize withoutP t (tx x) = res at *
  clear hl
  go_enter Tryz.func116, Tryz.ntmps116
  go_wp2
  have hbw := ((Below.refl w.heap.size w).alloc (Nat.le_refl _) (.cells #[.slice a t.length cap] 73)).alloc (by simp) (.cells #[.slice none 0 0] 73)
  have e4 : ((w.alloc (.cells #[.slice a t.length cap] 73)).alloc (.cells #[.slice none 0 0] 73)).cell? ⟨w.heap.size + 1, 0, none⟩ = some (.slice none 0 0) := by simp [go_sem]
  have e5 : ((w.alloc (.cells #[.slice a t.length cap] 73)).alloc (.cells #[.slice none 0 0] 73)).frozen? ⟨w.heap.size + 1, 0, none⟩ = false := by simp [go_sem]
  have hsz : ((w.alloc (.cells #[.slice a t.length cap] 73)).alloc (.cells #[.slice none 0 0] 73)).heap.size = w.heap.size + 2 := by simp
  generalize (w.alloc (.cells #[.slice a t.length cap] 73)).alloc (.cells #[.slice none 0 0] 73) = W at *
  have HW := hid' hbw
  have HL1 := hid' (HL.out.below hbw)
  have HS := hid' hsz
  clear hbw
  go_loopw [5, 11] (fun v i wr => ∃ (k : Nat) (acc : List PkX), k ≤ t.length ∧ acc.length ≤ k ∧ i = .int .i64 k ∧ wr.ownsRow W.heap.size 113 4 v acc.length (acc.flatMap pkXC) ∧ Below W.heap.size W wr ∧ Hid (res = acc ++ withoutP (t.drop k) (tx x))) (fun _ i _ => t.length - (intOf i).toNat)
  case atStart => exact ⟨0, [], Nat.zero_le _, by simp, rfl, World.ownsRow_nil _ _ _ _, Below.refl _ _, HP⟩
  case round =>
    obtain ⟨k, acc, hk, hacc, rfl, hown, hbel, hall⟩ := hrel
    have hz := hbel.size
    have hwz : w.heap.size + 1 < W.heap.size := by have := HS.out; omega
    have hwr : w.heap.size + 1 < wr.heap.size := by omega
    clear HP
    by_cases hlt : k < t.length
    · obtain ⟨g, o, cap', hv, hg, hc⟩ := (HL1.out.below hbel).1.pks hlt
      simp at hv
      obtain ⟨rfl, rfl⟩ := hv
      obtain ⟨c0, c1, c2, c3⟩ := hc k hlt
      obtain ⟨sa, sc, hsp⟩ := (HL.out.2 t[k] (List.getElem_mem hlt)).form'
      have HY := hid' (wp_yes t acc (tx x) k hlt)
      have HN := hid' (wp_no t acc (tx x) k hlt)
      have HU := hid' (fun w => isUnder_any (bs t[k].path) x w hx)
      rw [tx_bs] at HU
      clear hc
      generalize t[k] = y at *
      obtain ⟨yp, yn, yv, ysp, yd⟩ := y
      simp only at hsp c0 c1 c2 c3 HY HN HU
      subst hsp
      by_cases he : yp = tx x
      · have HF : Hid (res = acc ++ withoutP (t.drop (k + 1)) (tx x)) := by unfold Hid; rw [hall.out]; exact HN.out (by rw [decide_eq_true he]; rfl)
        have hb : ((bs yp).toList == x.toList) = true := by rw [tx_toList, tx_toList, tx_bs, he]; simp
        clear hall HY HN HU he
        go_wp2
        go_roundw
        case rel => exact ⟨k + 1, acc, by omega, by omega, by go_num, hown.alloc _, hbel.alloc hz _, HF⟩
        case measure => simp [intOf] <;> omega
      · have hb : ((bs yp).toList == x.toList) = false := by rw [tx_toList, tx_toList, tx_bs]; simpa using he
        rw [decide_eq_false he] at HY HN
        simp only [Bool.not_false, Bool.true_and] at HY HN
        clear he
        rcases hu : isUnderP yp (tx x) with _ | _
        · rw [hu] at HU
          have HF : Hid (res = (acc ++ [⟨yp, yn, yv, .slice sa yd.length sc, yd⟩]) ++ withoutP (t.drop (k + 1)) (tx x)) := by unfold Hid; rw [hall.out]; exact HY.out (by rw [hu]; rfl)
          clear hall HY HN hu
          go_wp2_with fail
          refine (HU.out _).mono ?_
          rintro e w1 ⟨rfl, rfl⟩
          go_wp2_with (first | (at_builtin; refine wpList_append_lies _ rfl _ _ 71 rfl W.heap.size 113 i0 (.agg #[.string ByteArray.empty, .string ByteArray.empty, .int .i64 0, .slice none 0 0]) 4 64 Tryz.underlying71 hi hz0 hz1 hz2 rfl (by omega) _ _ _ rfl ((hown.alloc _).alloc _) ⟨wr.heap.size + 1, 0, none⟩ 1 1 [.string (bs yp), .string (bs yn), .int .i64 yv, .slice sa yd.length sc] rfl rfl (news_4b _ _ _ _ _ _ _) (pkX_one ⟨yp, yn, yv, _, yd⟩ rfl) (by omega) (by unfold maxLen; omega) (by omega) (by simp; omega) (wr.heap.size + 2) (by simp) ?_; intro g1 cap1 w2 hown1 hgrow hat hlt1))
          have R := step_gen2 pkXC (x := ⟨yp, yn, yv, .slice sa yd.length sc, yd⟩) rfl hown hbel (((Below.refl _ _).alloc (Nat.le_refl _) _).alloc (by simp) _) hown1 hgrow
          clear hown1 hgrow hown
          go_wp2
          go_roundw
          case rel => exact ⟨k + 1, _, by omega, by simp; omega, by go_num, R.1, R.2, HF⟩
          case measure => simp [intOf] <;> omega
        · rw [hu] at HU
          have HF : Hid (res = acc ++ withoutP (t.drop (k + 1)) (tx x)) := by unfold Hid; rw [hall.out]; exact HN.out (by rw [hu]; rfl)
          clear hall HY HN hu
          go_wp2_with fail
          refine (HU.out _).mono ?_
          rintro e w1 ⟨rfl, rfl⟩
          go_wp2
          go_roundw
          case rel => exact ⟨k + 1, acc, by omega, by omega, by go_num, hown.alloc _, hbel.alloc hz _, HF⟩
          case measure => simp [intOf] <;> omega
    · have HF : Hid (res = acc) := by unfold Hid; rw [hall.out, wp_end t acc (tx x) k hlt]
      have h4 := ((bcell hbel).1 (w.heap.size + 1) 0 hwz).trans e4
      have h5 := ((bcell hbel).2 (w.heap.size + 1) 0 hwz).trans e5
      obtain ⟨va, vc, rfl⟩ := own_slice hown
      have HR := hid' (And.intro hown hbel)
      have HB := hid' (HW.out.trans (hbel.mono (by omega)))
      clear hown hbel hall
      go_wp2
      refine bodyPost_ret (v := .agg #[.slice va acc.length vc]) (by simp [results, Tryz.results116, go_sem, *]) rfl ⟨_, rfl, ⟨?_, ?_⟩, HB.out.setCell (show w.heap.size ≤ w.heap.size + 1 by omega) _⟩
      · rw [HF.out]
        exact RowX.of_own (ownsRow_setCell_below HR.out.1 hwz _)
      · exact HI.out _ (HB.out.setCell (show w.heap.size ≤ w.heap.size + 1 by omega) _)

end Hst
end Go.Proofs.YtecocheolbkneaaGreatDoor
namespace Go.Proofs.YtecocheolbkneaaGreatDoor
open Go.RowKit
namespace Hst
set_option maxRecDepth 100000

theorem spp_yes {nd : List NeedX} {t : List PkX} {i : Nat} (h : soundP (withoutP t (pkPath t i)) nd = true) : spareGoP nd t (i + 1) = some (withoutP t (pkPath t i)) := by rw [spareGoP, if_pos h]
theorem spp_no {nd : List NeedX} {t : List PkX} {i : Nat} (h : soundP (withoutP t (pkPath t i)) nd = false) : spareGoP nd t (i + 1) = spareGoP nd t i := by rw [spareGoP, if_neg (by rw [h]; simp)]
theorem pkp_at {t : List PkX} {j : Nat} (h : j < t.length) : pkPath t j = t[j].path := by
  unfold pkPath
  rw [List.getD_eq_getElem?_getD, List.getElem?_map, List.getElem?_eq_getElem h]; rfl

attribute [local go_sem ↓] Go.wp_at_zero Go.wp_at_succ

set_option maxHeartbeats 4000000 in
theorem spareLast_any (v : Value) (t : List PkX) (nv : Value) (nd : List NeedX) (w : World) (hl : PksIn w v t) (ht : t.length ≤ 1000) (hp : PathsOk t) (hn : NeedsIn w nv nd) (hnl : nd.length ≤ 1000) :
    Calls Tryz.prog 74 #[.agg #[v], nv] w fun e w' => ∃ v', e = .returned (.tuple #[.agg #[v'], .bool (spareP nd t).isSome]) ∧ PksIn w' v' ((spareP nd t).getD t) ∧ Below w.heap.size w w' := by
  obtain ⟨a, cap, rfl⟩ := hl.1.form
  obtain ⟨na, nc, rfl⟩ := hn.1.form
  have hbw := ((Below.refl w.heap.size w).alloc (Nat.le_refl _) (.cells #[.slice a t.length cap] 73)).alloc (by simp) (.cells #[.slice none 0 0] 73)
  have HL := hid' (hl.below hbw)
  have HN := hid' (hn.below hbw)
  have HW := hid' hbw
  have HWI := hid' (fun x w h hx => withoutT_any (.slice a t.length cap) t x w h ht hx)
  have HSO := hid' (fun (m : List PkX) mv w (hm : ∀ p ∈ m, p ∈ t) (hml : m.length ≤ t.length) h1 h2 => isSound_any mv m (.slice na nd.length nc) nd w h1 (by omega) (fun p hpm => hp p (hm p hpm)) h2 hnl)
  have HR : Hid (spareP nd t = spareGoP nd t t.length) := rfl
  have HPO := hid' hp
  generalize spareP nd t = res at *
  have e0 : ((w.alloc (.cells #[.slice a t.length cap] 73)).alloc (.cells #[.slice none 0 0] 73)).cell? ⟨w.heap.size, 0, none⟩ = some (.slice a t.length cap) := by simp [go_sem]
  have e4 : ((w.alloc (.cells #[.slice a t.length cap] 73)).alloc (.cells #[.slice none 0 0] 73)).cell? ⟨w.heap.size + 1, 0, none⟩ = some (.slice none 0 0) := by simp [go_sem]
  have e5 : ((w.alloc (.cells #[.slice a t.length cap] 73)).alloc (.cells #[.slice none 0 0] 73)).frozen? ⟨w.heap.size + 1, 0, none⟩ = false := by simp [go_sem]
  have hsz : ((w.alloc (.cells #[.slice a t.length cap] 73)).alloc (.cells #[.slice none 0 0] 73)).heap.size = w.heap.size + 2 := by simp
  have htg : tagOf ((w.alloc (.cells #[.slice a t.length cap] 73)).alloc (.cells #[.slice none 0 0] 73)) (w.heap.size + 1) = some 73 := by
    have := tag_new (w.alloc (.cells #[.slice a t.length cap] 73)) #[.slice none 0 0] 73
    simpa using this
  have HTG := hid' htg
  have HS := hid' hsz
  clear hl hn hp hbw htg
  go_enter Tryz.func74, Tryz.ntmps74
  go_wp2
  generalize (w.alloc (.cells #[.slice a t.length cap] 73)).alloc (.cells #[.slice none 0 0] 73) = W at *
  go_loopw [6] (fun i wr => ∃ j : Nat, j ≤ t.length ∧ i = .int .i64 ((j : Int) - 1) ∧ Below W.heap.size W wr ∧ Hid (res = spareGoP nd t j)) (fun i _ => (intOf i + 1).toNat)
  case atStart => exact ⟨t.length, Nat.le_refl _, by go_num, Below.refl _ _, HR⟩
  case round =>
    obtain ⟨j, hj, rfl, hbel, hall⟩ := hrel
    have hz := hbel.size
    have hwW : w.heap.size < W.heap.size := by have := HS.out; omega
    have hwW1 : w.heap.size + 1 < W.heap.size := by have := HS.out; omega
    have hwr : w.heap.size < wr.heap.size := by omega
    have hwr1 : w.heap.size + 1 < wr.heap.size := by omega
    have d0 := ((bcell hbel).1 w.heap.size 0 hwW).trans e0
    have d4 := ((bcell hbel).1 (w.heap.size + 1) 0 hwW1).trans e4
    have d5 := ((bcell hbel).2 (w.heap.size + 1) 0 hwW1).trans e5
    have HTR := hid' ((tagOf_below hbel hwW1).trans HTG.out)
    have HLR := hid' (HL.out.below hbel)
    have HBR := hid' (HW.out.trans (hbel.mono (by omega)))
    cases j with
    | zero =>
      have HF : Hid (res = none) := hall.out
      have HPK := hid' (HLR.out.off (But.set wr (w.heap.size + 1) 0 (.slice a t.length cap)) HTR.out (by decide) (by decide) (by decide))
      clear hall
      go_wp2
      refine bodyPost_ret (v := .tuple #[.agg #[.slice a t.length cap], .bool false]) (by simp [results, Tryz.results74, go_sem, *]) rfl ⟨_, by rw [HF.out]; rfl, ?_, HBR.out.setCell (show w.heap.size ≤ w.heap.size + 1 by omega) _⟩
      rw [HF.out]
      exact HPK.out
    | succ j =>
      have hjl : j < t.length := by omega
      obtain ⟨g, o, cap', hv, hg, hc⟩ := HLR.out.1.pks hjl
      simp at hv
      obtain ⟨rfl, rfl⟩ := hv
      obtain ⟨c0, -, -, -⟩ := hc j hjl
      have HPJ := hid' (pkp_at hjl)
      have HWJ := hid' (fun w h => HWI.out (bs t[j].path) w h (by rw [bs_size]; have := HPO.out t[j] (List.getElem_mem hjl); omega))
      rw [tx_bs] at HWJ
      have HML : Hid ((∀ p ∈ withoutP t t[j].path, p ∈ t) ∧ (withoutP t t[j].path).length ≤ t.length) := ⟨fun p hp => wp_mem hp, List.length_filter_le _ _⟩
      have HYE := hid' (spp_yes (nd := nd) (t := t) (i := j))
      have HNO := hid' (spp_no (nd := nd) (t := t) (i := j))
      rw [HPJ.out] at HYE HNO
      clear hc
      generalize withoutP t t[j].path = m at *
      generalize t[j].path = tp at *
      have ej : (((j + 1 : Nat) : Int) - 1) = (j : Int) := by omega
      rw [ej]
      have j0 : (0 : Int) ≤ (j : Int) := by omega
      have j1 : (j : Int) < (t.length : Int) := by omega
      have hg2 : g < wr.heap.size + 1 := by omega
      have hwr2 : w.heap.size < wr.heap.size + 1 := by omega
      have n1 : w.heap.size ≠ wr.heap.size := by omega
      have n2 : wr.heap.size ≠ w.heap.size := by omega
      have n3 : g ≠ wr.heap.size := by omega
      have n4 : wr.heap.size ≠ g := by omega
      go_wp2
      go_cut [7] (fun p wc => ∃ (c : Nat) (ma : Option Addr) (mc : Nat), p = .pointer (some ⟨c, 0, none⟩) ∧ wr.heap.size ≤ c ∧ c < wc.heap.size ∧ wc.cell? ⟨c, 0, none⟩ = some (.slice ma m.length mc) ∧ Below wr.heap.size wr wc ∧ Hid (PksIn wc (.slice ma m.length mc) m))
      case first =>
        go_region_held3 (fun w' => w'.cell? ⟨w.heap.size, 0, none⟩ = some (.slice (some ⟨g, o, none⟩) t.length cap) ∧ w'.cell? ⟨g, o + j * 4, none⟩ = some (.string (bs tp))) (go_keep)
          (first | (go_at_call 116; refine (HWJ.out _ (by first | exact HLR.out.drew | exact HLR.out.below ((Below.refl _ _).alloc (Nat.le_refl _) _).drew)).mono ?_; rintro e w2 ⟨v2, rfl, hin2, hb2⟩; obtain ⟨ma, mc, rfl⟩ := hin2.1.form; have hz2 := (bcell hb2).1; have hz3 := (bcell hb2).2; simp at hz2 hz3))
        · have hb2' := (((Below.refl wr.heap.size wr).drew.trans (hb2.mono (by simp))).alloc (by have := hb2.size; simpa using this) (.cells #[.slice ma m.length mc] 73))
          have hin3 := hin2.below ((Below.refl _ _).alloc (Nat.le_refl _) (.cells #[.slice ma m.length mc] 73))
          have HZ : Hid (wr.heap.size ≤ w2.heap.size) := by unfold Hid; have := hb2.size; simpa using this
          go_wp2_with fail
          go_meet
          exact ⟨w2.heap.size, ma, mc, rfl, HZ.out, by simp, by simp, hb2', hin3⟩
        · have hb2' := ((((Below.refl wr.heap.size wr).alloc (Nat.le_refl _) (.cells #[.slice none 0 0] 73)).drew.trans (hb2.mono (by simp))).setCell (p := ⟨wr.heap.size, 0, none⟩) (Nat.le_refl _) (.slice ma m.length mc))
          have htg : tagOf w2 wr.heap.size = some 73 := by
            rw [tagOf_below hb2 (by simp)]
            exact tag_new wr #[.slice none 0 0] 73
          have hin3 := hin2.off (But.set w2 wr.heap.size 0 (.slice ma m.length mc)) htg (by decide) (by decide) (by decide)
          have HZ : Hid (wr.heap.size < w2.heap.size) := by unfold Hid; have := hb2.size; simp at this; omega
          have hc0 := hz2 wr.heap.size 0 (by omega)
          simp at hc0
          go_wp2_with fail
          go_meet
          exact ⟨wr.heap.size, ma, mc, rfl, Nat.le_refl _, by simpa using HZ.out, by simp [go_sem, hc0], hb2', hin3⟩
      case rest =>
        obtain ⟨c, ma, mc, rfl, hc1, hc2, hc3, hb2, HIN2⟩ := hcut
        have hcc := (bcell hb2).1
        have q4 := (hcc (w.heap.size + 1) 0 hwr1).trans d4
        have q5 := ((bcell hb2).2 (w.heap.size + 1) 0 hwr1).trans d5
        have HTC := hid' ((tagOf_below hb2 hwr1).trans HTR.out)
        have hzc := hb2.size
        have HBC := hid' (hbel.trans (hb2.mono hz))
        have HBC2 := hid' (HBR.out.trans (hb2.mono (by omega)))
        have HSD := hid' (HSO.out m (.slice ma m.length mc) wc HML.out.1 HML.out.2 HIN2.out (HN.out.below HBC.out))
        have h1c : w.heap.size + 1 < wc.heap.size := by omega
        clear hb2 hcc d0 d4 d5 c0
        rcases hso : soundP m nd with _ | _
        · have HF : Hid (res = spareGoP nd t j) := by unfold Hid; rw [hall.out]; exact HNO.out hso
          rw [hso] at HSD
          clear hso hall HYE HNO
          go_wp2_with fail
          refine HSD.out.mono ?_
          rintro e w3 ⟨rfl, hb3⟩
          have HB3 := hid' (HBC.out.trans (hb3.mono (by omega)))
          clear hb3
          go_wp2
          go_roundw
          case rel => exact ⟨j, by omega, by go_num, HB3.out, HF⟩
          case measure => simp [intOf] <;> omega
        · have HF : Hid (res = some m) := by unfold Hid; rw [hall.out]; exact HYE.out hso
          rw [hso] at HSD
          clear hso hall HYE HNO
          go_wp2_with fail
          refine HSD.out.mono ?_
          rintro e w3 ⟨rfl, hb3⟩
          have hcc := (bcell hb3).1
          have p3 := (hcc c 0 hc2).trans hc3
          have p4 := (hcc (w.heap.size + 1) 0 h1c).trans q4
          have p5 := ((bcell hb3).2 (w.heap.size + 1) 0 h1c).trans q5
          have h13 : w.heap.size + 1 < w3.heap.size := by have := hb3.size; omega
          have h1d : c < w3.heap.size := by have := hb3.size; omega
          have HB3 := hid' (HBC2.out.trans (hb3.mono (by omega)))
          have HTD := hid' ((tagOf_below hb3 h1c).trans HTC.out)
          have HPK := hid' ((HIN2.out.below hb3).off (But.set w3 (w.heap.size + 1) 0 (.slice ma m.length mc)) HTD.out (by decide) (by decide) (by decide))
          clear hb3 hcc q4 q5 hc3
          go_wp2
          refine bodyPost_ret (v := .tuple #[.agg #[.slice ma m.length mc], .bool true]) (by simp [results, Tryz.results74, go_sem, *]) rfl ⟨_, by rw [HF.out]; rfl, ?_, HB3.out.setCell (show w.heap.size ≤ w.heap.size + 1 by omega) _⟩
          rw [HF.out]
          exact HPK.out

end Hst
end Go.Proofs.YtecocheolbkneaaGreatDoor
namespace Go.Proofs.YtecocheolbkneaaGreatDoor
open Go.RowKit
namespace Hst
set_option maxRecDepth 100000

theorem usedGo_inv {t : List PkX} {path : Tx} : ∀ (r : List NeedX) {used : List PkX} {list : List WhX}, UInv t used list → UInv t (usedGo t path used list r).1 (usedGo t path used list r).2
  | [], _, _, h => h
  | n :: r, used, list, h => by
    rw [usedGo]
    rcases e : findP t n.name path with _ | p
    · exact usedGo_inv r h
    · simp only
      rcases hh : hasAtP used p.path with _ | _
      · rw [if_neg (by simp)]
        exact usedGo_inv r (h.step (findP_in e) hh _)
      · rw [if_pos rfl]
        exact usedGo_inv r h
theorem inUseGo_inv {t : List PkX} : ∀ (f k : Nat) {used : List PkX} {list : List WhX}, UInv t used list → ∃ list', UInv t (inUseGo t f k used list) list'
  | 0, _, _, list, h => ⟨list, h⟩
  | f + 1, k, used, list, h => by
    rw [inUseGo]
    rcases list[k]? with _ | x
    · exact ⟨list, h⟩
    · exact inUseGo_inv f (k + 1) (usedGo_inv x.nd h)
theorem inUseP_sub {t : List PkX} {v : Value} {nd : List NeedX} : (∀ p ∈ inUseP t v nd, p ∈ t) ∧ (inUseP t v nd).length ≤ t.length := by
  obtain ⟨_, h⟩ := inUseGo_inv (t := t) (t.length + 2) 0 (used := []) (list := [⟨[], v, nd⟩]) ⟨by simp, by simp, rfl⟩
  exact ⟨h.sub, h.le⟩
theorem spareGoP_sub {nd : List NeedX} {t m : List PkX} : ∀ i, spareGoP nd t i = some m → (∀ p ∈ m, p ∈ t) ∧ m.length ≤ t.length
  | 0, h => by simp [spareGoP] at h
  | i + 1, h => by
    rw [spareGoP] at h
    split at h
    · have := Option.some.inj h
      subst this
      exact ⟨fun p hp => wp_mem hp, List.length_filter_le _ _⟩
    · exact spareGoP_sub i h
theorem slp_none {nv : Value} {nd : List NeedX} {f : Nat} {t : List PkX} (h : spareP nd t = none) : slimGoP nv nd (f + 1) t = t := by rw [slimGoP, h]
theorem slp_some {nv : Value} {nd : List NeedX} {f : Nat} {t m : List PkX} (h : spareP nd t = some m) : slimGoP nv nd (f + 1) t = slimGoP nv nd f (inUseP m nv nd) := by rw [slimGoP, h]

theorem slimGoP_le {nv : Value} {nd : List NeedX} : ∀ (f : Nat) (t : List PkX), (slimGoP nv nd f t).length ≤ t.length
  | 0, t => Nat.le_refl _
  | f + 1, t => by
    rcases e : spareP nd t with _ | m
    · rw [slp_none e]; exact Nat.le_refl _
    · rw [slp_some e]
      have h1 := slimGoP_le (nv := nv) (nd := nd) f (inUseP m nv nd)
      have h2 := (inUseP_sub (t := m) (v := nv) (nd := nd)).2
      have h3 := (spareGoP_sub _ e).2
      omega

attribute [local go_sem ↓] Go.wp_at_zero Go.wp_at_succ

set_option maxHeartbeats 4000000 in
theorem slimT_any (v : Value) (t : List PkX) (nv : Value) (nd : List NeedX) (w : World) (hl : PksIn w v t) (ht : t.length ≤ 1000) (hp : PathsOk t) (hn : NeedsIn w nv nd) (hnl : nd.length ≤ 1000) :
    Calls Tryz.prog 45 #[.agg #[v], nv] w fun e w' => ∃ v', e = .returned (.agg #[v']) ∧ PksIn w' v' (slimTP nv nd t) ∧ Below w.heap.size w w' := by
  obtain ⟨a, cap, rfl⟩ := hl.1.form
  obtain ⟨na, nc, rfl⟩ := hn.1.form
  have hbw := (((Below.refl w.heap.size w).alloc (Nat.le_refl _) (.cells #[.slice a t.length cap] 73)).alloc (by simp) (.cells #[.slice none 0 0] 73)).alloc (by simp; omega) (.cells #[.slice a t.length cap] 73)
  have HL := hid' (hl.below hbw)
  have HN := hid' hn
  have HW := hid' hbw
  have HSP := hid' (fun cv (cur : List PkX) w h (hc : cur.length ≤ t.length) hpo h2 => spareLast_any cv cur (.slice na nd.length nc) nd w h (by omega) hpo h2 hnl)
  have HIU := hid' (fun mv (m : List PkX) w h (hm : m.length ≤ t.length) hpo h2 => inUse_any' mv m (.slice na nd.length nc) nd w h h2 (by omega) hpo hnl)
  have HR : Hid (slimTP (.slice na nd.length nc) nd t = slimGoP (.slice na nd.length nc) nd (t.length - 0) t) := rfl
  have HPO := hid' hp
  generalize slimTP (.slice na nd.length nc) nd t = res at *
  have e4 : (((w.alloc (.cells #[.slice a t.length cap] 73)).alloc (.cells #[.slice none 0 0] 73)).alloc (.cells #[.slice a t.length cap] 73)).cell? ⟨w.heap.size + 1, 0, none⟩ = some (.slice none 0 0) := by simp [go_sem]
  have e5 : (((w.alloc (.cells #[.slice a t.length cap] 73)).alloc (.cells #[.slice none 0 0] 73)).alloc (.cells #[.slice a t.length cap] 73)).frozen? ⟨w.heap.size + 1, 0, none⟩ = false := by simp [go_sem]
  have e6 : (((w.alloc (.cells #[.slice a t.length cap] 73)).alloc (.cells #[.slice none 0 0] 73)).alloc (.cells #[.slice a t.length cap] 73)).cell? ⟨w.heap.size + 1 + 1, 0, none⟩ = some (.slice a t.length cap) := by simp [go_sem]
  have e7 : (((w.alloc (.cells #[.slice a t.length cap] 73)).alloc (.cells #[.slice none 0 0] 73)).alloc (.cells #[.slice a t.length cap] 73)).frozen? ⟨w.heap.size + 1 + 1, 0, none⟩ = false := by simp [go_sem]
  have hsz : (((w.alloc (.cells #[.slice a t.length cap] 73)).alloc (.cells #[.slice none 0 0] 73)).alloc (.cells #[.slice a t.length cap] 73)).heap.size = w.heap.size + 3 := by simp
  have HT2 : Hid (tagOf (((w.alloc (.cells #[.slice a t.length cap] 73)).alloc (.cells #[.slice none 0 0] 73)).alloc (.cells #[.slice a t.length cap] 73)) (w.heap.size + 1 + 1) = some 73) := by
    have := tag_new ((w.alloc (.cells #[.slice a t.length cap] 73)).alloc (.cells #[.slice none 0 0] 73)) #[.slice a t.length cap] 73
    unfold Hid
    simpa using this
  have HT1 : Hid (tagOf (((w.alloc (.cells #[.slice a t.length cap] 73)).alloc (.cells #[.slice none 0 0] 73)).alloc (.cells #[.slice a t.length cap] 73)) (w.heap.size + 1) = some 73) := by
    have h1 := tag_new (w.alloc (.cells #[.slice a t.length cap] 73)) #[.slice none 0 0] 73
    have h2 := tagOf_below ((Below.refl _ ((w.alloc (.cells #[.slice a t.length cap] 73)).alloc (.cells #[.slice none 0 0] 73))).alloc (Nat.le_refl _) (.cells #[.slice a t.length cap] 73)) (b := w.heap.size + 1) (by simp)
    unfold Hid
    rw [h2]
    simpa using h1
  clear hl hn hp hbw
  go_enter Tryz.func45, Tryz.ntmps45
  go_wp2
  generalize ((w.alloc (.cells #[.slice a t.length cap] 73)).alloc (.cells #[.slice none 0 0] 73)).alloc (.cells #[.slice a t.length cap] 73) = W at *
  go_loopw [12] (fun i wr => ∃ (k : Nat) (cur : List PkX) (ca : Option Addr) (cc : Nat), k ≤ t.length ∧ i = .int .i64 k ∧ w.heap.size + 3 ≤ wr.heap.size ∧ wr.cell? ⟨w.heap.size + 1, 0, none⟩ = some (.slice none 0 0) ∧ wr.frozen? ⟨w.heap.size + 1, 0, none⟩ = false ∧ wr.cell? ⟨w.heap.size + 1 + 1, 0, none⟩ = some (.slice ca cur.length cc) ∧ wr.frozen? ⟨w.heap.size + 1 + 1, 0, none⟩ = false ∧ Hid (Below w.heap.size w wr ∧ PksIn wr (.slice ca cur.length cc) cur ∧ tagOf wr (w.heap.size + 1) = some 73 ∧ tagOf wr (w.heap.size + 1 + 1) = some 73 ∧ cur.length ≤ t.length ∧ PathsOk cur ∧ res = slimGoP (.slice na nd.length nc) nd (t.length - k) cur)) (fun i _ => t.length - (intOf i).toNat)
  case atStart => exact ⟨0, t, a, cap, Nat.zero_le _, rfl, by omega, e4, e5, e6, e7, HW.out, HL.out, HT1.out, HT2.out, Nat.le_refl _, HPO.out, HR.out⟩
  case round =>
    obtain ⟨k, cur, ca, cc, hk, rfl, hwr, d4, d5, d6, d7, hall⟩ := hrel
    obtain ⟨hbel, hpk, ht1, ht2, hcl, hcp, hres⟩ := hall.out
    have HBR := hid' hbel
    have HPK := hid' hpk
    have HT1R := hid' ht1
    have HT2R := hid' ht2
    have HCP := hid' hcp
    have HRES := hid' hres
    have h1r : w.heap.size + 1 < wr.heap.size := by omega
    have h2r : w.heap.size + 1 + 1 < wr.heap.size := by omega
    clear hbel hpk ht1 ht2 hcp hres hall e4 e5 e6 e7
    by_cases hlt : k < t.length
    · have hf : t.length - k = (t.length - (k + 1)) + 1 := by omega
      rw [hf] at HRES
      have HSL := hid' (HSP.out (.slice ca cur.length cc) cur wr HPK.out hcl HCP.out (HN.out.below HBR.out))
      rcases hsp : spareP nd cur with _ | m
      · have HF : Hid (res = cur) := by unfold Hid; rw [HRES.out]; exact slp_none hsp
        rw [hsp] at HSL
        simp only [Option.isSome_none, Option.getD_none] at HSL
        clear hsp
        go_wp2_with fail
        refine HSL.out.mono ?_
        rintro e w1 ⟨v1, rfl, hin1, hb1⟩
        obtain ⟨va, vc, rfl⟩ := hin1.1.form
        have hcc := (bcell hb1).1
        have hff := (bcell hb1).2
        have q4 := (hcc (w.heap.size + 1) 0 h1r).trans d4
        have q5 := (hff (w.heap.size + 1) 0 h1r).trans d5
        have q6 := (hcc (w.heap.size + 1 + 1) 0 h2r).trans d6
        have hz1 := hb1.size
        have h11 : w.heap.size + 1 < w1.heap.size := by omega
        have h21 : w.heap.size + 1 + 1 < w1.heap.size := by omega
        have HB1 := hid' (((HBR.out.trans (hb1.mono (by omega))).setCell (p := ⟨w.heap.size + 1, 0, none⟩) (show w.heap.size ≤ w.heap.size + 1 by omega) (.slice ca cur.length cc)).alloc (by simp; omega) (.cells #[.slice va cur.length vc] 73))
        have HP1 := hid' (((HPK.out.below hb1).off (But.set w1 (w.heap.size + 1) 0 (.slice ca cur.length cc)) ((tagOf_below hb1 h1r).trans HT1R.out) (by decide) (by decide) (by decide)).below ((Below.refl _ _).alloc (Nat.le_refl _) (.cells #[.slice va cur.length vc] 73)))
        clear hb1 hin1 hcc hff
        go_wp2
        refine bodyPost_ret (v := .agg #[.slice ca cur.length cc]) (by simp [results, Tryz.results45, go_sem, *]) rfl ⟨_, rfl, ?_, HB1.out⟩
        rw [HF.out]
        exact HP1.out
      · have HF : Hid (res = slimGoP (.slice na nd.length nc) nd (t.length - (k + 1)) (inUseP m (.slice na nd.length nc) nd)) := by unfold Hid; rw [HRES.out]; exact slp_some hsp
        have hsub := spareGoP_sub _ hsp
        have hmp : PathsOk m := fun p hp => HCP.out p (hsub.1 p hp)
        have hus := inUseP_sub (t := m) (v := .slice na nd.length nc) (nd := nd)
        have HUP : Hid (PathsOk (inUseP m (.slice na nd.length nc) nd)) := fun p hp => hmp p (hus.1 p hp)
        have HUL : Hid ((inUseP m (.slice na nd.length nc) nd).length ≤ t.length) := by unfold Hid; have := hus.2; have := hsub.2; omega
        have hml : m.length ≤ t.length := by have := hsub.2; omega
        have HMP := hid' hmp
        rw [hsp] at HSL
        simp only [Option.isSome_some, Option.getD_some] at HSL
        clear hsp hsub hus hmp
        go_wp2_with fail
        refine HSL.out.mono ?_
        rintro e w1 ⟨v1, rfl, hin1, hb1⟩
        obtain ⟨va, vc, rfl⟩ := hin1.1.form
        have hcc := (bcell hb1).1
        have hff := (bcell hb1).2
        have q4 := (hcc (w.heap.size + 1) 0 h1r).trans d4
        have q5 := (hff (w.heap.size + 1) 0 h1r).trans d5
        have q6 := (hcc (w.heap.size + 1 + 1) 0 h2r).trans d6
        have q7 := (hff (w.heap.size + 1 + 1) 0 h2r).trans d7
        have hz1 := hb1.size
        have h11 : w.heap.size + 1 < w1.heap.size := by omega
        have h21 : w.heap.size + 1 + 1 < w1.heap.size := by omega
        have hba := (Below.refl w1.heap.size w1).alloc (Nat.le_refl _) (.cells #[.slice va m.length vc] 73)
        have HB1 := hid' ((HBR.out.trans (hb1.mono (by omega))).alloc (by omega) (.cells #[.slice va m.length vc] 73))
        have HTA := hid' ((tagOf_below hba h11).trans ((tagOf_below hb1 h1r).trans HT1R.out))
        have HTB := hid' ((tagOf_below hba h21).trans ((tagOf_below hb1 h2r).trans HT2R.out))
        have HUU := hid' (HIU.out (.slice va m.length vc) m _ (hin1.below hba) hml HMP.out (HN.out.below HB1.out))
        have z4 := ((bcell hba).1 (w.heap.size + 1) 0 h11).trans q4
        have z5 := ((bcell hba).2 (w.heap.size + 1) 0 h11).trans q5
        have z6 := ((bcell hba).1 (w.heap.size + 1 + 1) 0 h21).trans q6
        have z7 := ((bcell hba).2 (w.heap.size + 1 + 1) 0 h21).trans q7
        clear hb1 hin1 hcc hff hba d4 d5 d6 d7
        generalize inUseP m (.slice na nd.length nc) nd = u at *
        go_wp2_with fail
        refine HUU.out.mono ?_
        rintro e w2 ⟨v2, rfl, hin2, hb2⟩
        obtain ⟨ua, uc, rfl⟩ := hin2.1.form
        have hcc := (bcell hb2).1
        have hff := (bcell hb2).2
        have hz2 : w1.heap.size + 1 ≤ w2.heap.size := by have := hb2.size; simpa using this
        have r4 := (hcc (w.heap.size + 1) 0 (by simp; omega)).trans z4
        have r5 := (hff (w.heap.size + 1) 0 (by simp; omega)).trans z5
        have r6 := (hcc (w.heap.size + 1 + 1) 0 (by simp; omega)).trans z6
        have r7 := (hff (w.heap.size + 1 + 1) 0 (by simp; omega)).trans z7
        have h12 : w.heap.size + 1 < w2.heap.size := by omega
        have h22 : w.heap.size + 1 + 1 < w2.heap.size := by omega
        have HT1N := hid' ((tagOf_below hb2 (by simp; omega)).trans HTA.out)
        have HT2N := hid' ((tagOf_below hb2 (by simp; omega)).trans HTB.out)
        have HB2 := hid' ((HB1.out.trans (hb2.mono (by simp; omega))).setCell (p := ⟨w.heap.size + 1 + 1, 0, none⟩) (show w.heap.size ≤ w.heap.size + 1 + 1 by omega) (.slice ua u.length uc))
        have HP2 := hid' (hin2.off (But.set w2 (w.heap.size + 1 + 1) 0 (.slice ua u.length uc)) HT2N.out (by decide) (by decide) (by decide))
        clear hb2 hin2 hcc hff q4 q5 q6 q7 z4 z5 z6 z7
        go_wp2
        go_roundw
        case rel => exact ⟨k + 1, u, ua, uc, by omega, by go_num, by simp; omega, by simp [go_sem, *], by simp [go_sem, *], by simp [go_sem, *], by simp [go_sem, *], HB2.out, HP2.out, by rw [tag_set]; exact HT1N.out, by rw [tag_set]; exact HT2N.out, HUL.out, HUP.out, HF.out⟩
        case measure => simp [intOf] <;> omega
    · have HF : Hid (res = cur) := by
        unfold Hid
        rw [HRES.out, show t.length - k = 0 by omega]; rfl
      have HB1 := hid' (HBR.out.setCell (p := ⟨w.heap.size + 1, 0, none⟩) (show w.heap.size ≤ w.heap.size + 1 by omega) (.slice ca cur.length cc))
      have HP1 := hid' (HPK.out.off (But.set wr (w.heap.size + 1) 0 (.slice ca cur.length cc)) HT1R.out (by decide) (by decide) (by decide))
      go_wp2
      refine bodyPost_ret (v := .agg #[.slice ca cur.length cc]) (by simp [results, Tryz.results45, go_sem, *]) rfl ⟨_, rfl, ?_, HB1.out⟩
      rw [HF.out]
      exact HP1.out

end Hst
end Go.Proofs.YtecocheolbkneaaGreatDoor
namespace Go.Proofs.YtecocheolbkneaaGreatDoor
open Go.RowKit
namespace Hst
set_option maxRecDepth 100000

attribute [local go_sem ↓] Go.wp_at_zero Go.wp_at_succ

set_option maxHeartbeats 4000000 in
theorem slim_any' (b : Nat) (s : SiteX) (w : World) (hs : SAt w b s) (hok : SOk s) (hp : ∀ q ∈ s.tree, q.path.length ≤ 900) :
    Calls Tryz.prog 20 #[.pointer (some ⟨b, 0, none⟩)] w fun e w' => e = .returned (.int .i64 (slimP s).2) ∧ SMv b w w' ∧ SAt w' b (slimP s).1 := by
  obtain ⟨v2, e2, r2⟩ := hs.tree
  obtain ⟨ta, tc, rfl⟩ := r2.1.form
  obtain ⟨e1, r1⟩ := hs.needs
  obtain ⟨na, nc, hnf⟩ := r1.1.form
  have htl := hok.tr
  have hnl := hok.nd
  have HS := hid' hs
  have HC := hid' (count_any (.slice ta s.tree.length tc) s.tree w r2)
  have HCN := hid' (fun v l w h => count_any v l w h)
  have HSL := hid' (fun w h1 h2 => slimT_any (.slice ta s.tree.length tc) s.tree s.nv s.needs w h1 htl (fun p hp' => by have := hp p hp'; omega) h2 (by omega))
  have HR : Hid (slimP s = (⟨s.stock, s.needs, s.nv, slimTP s.nv s.needs s.tree⟩, (s.tree.length : Int) - ((slimTP s.nv s.needs s.tree).length : Int))) := rfl
  have HLE : Hid ((slimTP s.nv s.needs s.tree).length ≤ s.tree.length) := slimGoP_le _ _
  have HR1 := hid' r1
  have HR2 := hid' r2
  generalize slimP s = res at *
  generalize slimTP s.nv s.needs s.tree = u at *
  rw [hnf] at e1 HSL HR1
  have HNF := hid' hnf
  have hlt := hs.lt
  clear hs hok hp r1 r2 hnf
  go_enter Tryz.func20, Tryz.ntmps20
  go_wp2_with fail
  refine HC.out.mono ?_
  rintro e w1 ⟨rfl, hb1⟩
  have hcc := (bcell hb1).1
  have d1 := (hcc b 1 hlt).trans e1
  have d2 := (hcc b 2 hlt).trans e2
  have HS1 := hid' (HS.out.below hb1)
  have HP1 := hid' (HR2.out.below hb1)
  have HN1 := hid' (HR1.out.below hb1)
  have HM1 := hid' (SMv.of_below (b := b) hb1)
  have hlt1 := HS1.out.lt
  have hlt2 : b < w1.heap.size + 1 := by omega
  have n1 : b ≠ w1.heap.size := by omega
  have n2 : w1.heap.size ≠ b := by omega
  clear hb1 hcc e1 e2 HS HR1 HR2
  go_wp2
  go_cut [4] (fun p wc => ∃ (c : Nat) (ua : Option Addr) (uc : Nat), p = .pointer (some ⟨c, 0, none⟩) ∧ w1.heap.size ≤ c ∧ c < wc.heap.size ∧ wc.cell? ⟨c, 0, none⟩ = some (.slice ua u.length uc) ∧ Below w1.heap.size w1 wc ∧ Hid (PksIn wc (.slice ua u.length uc) u))
  case first =>
    go_region_held3 (fun w' => w'.cell? ⟨b, 2, none⟩ = some (.slice ta s.tree.length tc) ∧ w'.cell? ⟨b, 1, none⟩ = some (.slice na s.needs.length nc)) (go_keep)
      (first | (go_at_call 45; refine (HSL.out _ (by first | exact HP1.out.drew | exact HP1.out.below ((Below.refl _ _).alloc (Nat.le_refl _) _).drew) (by first | exact HN1.out.below (Below.refl _ _).drew | exact HN1.out.below ((Below.refl _ _).alloc (Nat.le_refl _) _).drew)).mono ?_; rintro e w2 ⟨v2, rfl, hin2, hb2⟩; obtain ⟨ua, uc, rfl⟩ := hin2.1.form; have hz2 := (bcell hb2).1; have hz3 := (bcell hb2).2; simp at hz2 hz3))
    · have hb2' := (((Below.refl w1.heap.size w1).drew.trans (hb2.mono (by simp))).alloc (by have := hb2.size; simpa using this) (.cells #[.slice ua u.length uc] 73))
      have hin3 := hin2.below ((Below.refl _ _).alloc (Nat.le_refl _) (.cells #[.slice ua u.length uc] 73))
      have HZ : Hid (w1.heap.size ≤ w2.heap.size) := by unfold Hid; have := hb2.size; simpa using this
      go_wp2_with fail
      go_meet
      exact ⟨w2.heap.size, ua, uc, rfl, HZ.out, by simp, by simp, hb2', hin3⟩
    · have hb2' := ((((Below.refl w1.heap.size w1).alloc (Nat.le_refl _) (.cells #[.slice none 0 0] 73)).drew.trans (hb2.mono (by simp))).setCell (p := ⟨w1.heap.size, 0, none⟩) (Nat.le_refl _) (.slice ua u.length uc))
      have htg : tagOf w2 w1.heap.size = some 73 := by
        rw [tagOf_below hb2 (by simp)]
        exact tag_new w1 #[.slice none 0 0] 73
      have hin3 := hin2.off (But.set w2 w1.heap.size 0 (.slice ua u.length uc)) htg (by decide) (by decide) (by decide)
      have HZ : Hid (w1.heap.size < w2.heap.size) := by unfold Hid; have := hb2.size; simp at this; omega
      have hc0 := hz2 w1.heap.size 0 (by omega)
      simp at hc0
      go_wp2_with fail
      go_meet
      exact ⟨w1.heap.size, ua, uc, rfl, Nat.le_refl _, by simpa using HZ.out, by simp [go_sem, hc0], hb2', hin3⟩
  case rest =>
    obtain ⟨c, ua, uc, rfl, hc1, hc2, hc3, hb2, HIN2⟩ := hcut
    have HSC := hid' (HS1.out.below hb2)
    have HMC := hid' (HM1.out.trans (SMv.of_below (b := b) hb2))
    obtain ⟨v2, q2, -⟩ := HSC.out.tree
    have f2 := HSC.out.f2
    have hbc := HSC.out.lt
    have hcb : c ≠ b := by omega
    have hbc2 : b ≠ c := by omega
    have HSS := hid' (HSC.out.setT HIN2.out)
    have HSM := hid' (HMC.out.trans (SMv.set _ b 2 (.slice ua u.length uc)))
    have HPU := hid' (HIN2.out.off (But.set wc b 2 (.slice ua u.length uc)) HSC.out.tag (by decide) (by decide) (by decide))
    have HC2 := hid' (HCN.out (.slice ua u.length uc) u _ HPU.out)
    clear hb2 d1 d2
    go_wp2_with fail
    refine HC2.out.mono ?_
    rintro e w3 ⟨rfl, hb3⟩
    have HF := hid' (And.intro (HSM.out.trans (SMv.of_below (b := b) hb3)) (HSS.out.below hb3))
    have hu := HLE.out
    clear hb3
    go_wp2
    go_ret
    exact ⟨ret_int (by rw [HR.out]), HF.out.1, by rw [HR.out]; exact HF.out.2⟩

end Hst
end Go.Proofs.YtecocheolbkneaaGreatDoor
namespace Go.Proofs.YtecocheolbkneaaGreatDoor
open Go.RowKit
namespace Hst
set_option maxRecDepth 100000

theorem kload_any (b : Nat) (sd : SiteD) (p : ByteArray) (w : World) (h : KAt w b sd) :
    Calls Tryz.prog 14 #[.pointer (some ⟨b, 0, none⟩), .string p] w fun e w' => e = .returned (.int .i64 (loadR sd (tx p)).2) ∧ SMv b w w' ∧ KAt w' b (loadR sd (tx p)).1 := by
  obtain ⟨sx, h1, h2⟩ := h
  obtain ⟨g1, g2⟩ := load_same h2 (tx p)
  refine (load_any' b sx p w h1 h2.sok).mono fun e w' ⟨he, hm, ha⟩ => ?_
  exact ⟨by rw [he, g1], hm, _, ha, g2⟩
theorem kslim_any (b : Nat) (sd : SiteD) (w : World) (h : KAt w b sd) :
    Calls Tryz.prog 20 #[.pointer (some ⟨b, 0, none⟩)] w fun e w' => e = .returned (.int .i64 (slimR sd).2) ∧ SMv b w w' ∧ KAt w' b (slimR sd).1 := by
  obtain ⟨sx, h1, h2⟩ := h
  obtain ⟨g1, g2⟩ := slim_same h2
  refine (slim_any' b sx w h1 h2.sok h2.pathx).mono fun e w' ⟨he, hm, ha⟩ => ?_
  exact ⟨by rw [he, g1], hm, _, ha, g2⟩

end Hst
end Go.Proofs.YtecocheolbkneaaGreatDoor
