/- Dstock, Dagain, Dnew, Dadd -/
import Derived.Test.YtecocheolbkneaaGreatDoorW24
import Derived.Test.YtecocheolbkneaaGreatDoorW11
import Derived.Test.YtecocheolbkneaaGreatDoorW08
namespace Go.Proofs.YtecocheolbkneaaGreatDoor
open Go.RowKit
namespace Hst
set_option maxRecDepth 100000

/-- The entries of the first k pieces. -/
def edK (d : List Tx) (k : Nat) : List EntryD := (d.take k).map fun t => (entryR t).1
theorem edK_succ (d : List Tx) (k : Nat) (hk : k < d.length) : edK d (k + 1) = edK d k ++ [(entryR d[k]).1] := by
  unfold edK
  rw [List.take_succ_eq_append_getElem hk, List.map_append]; rfl
theorem edK_len (d : List Tx) (k : Nat) (hk : k ≤ d.length) : (edK d k).length = k := by
  unfold edK
  rw [List.length_map, List.length_take]; omega
theorem sgo_yes (d : List Tx) (k : Nat) (hk : k < d.length) (h : (entryR d[k]).2 = true) : stockGo (edK d k) (d.drop k) = stockGo (edK d (k + 1)) (d.drop (k + 1)) := by
  rw [List.drop_eq_getElem_cons hk, stockGo, if_pos h, edK_succ d k hk]
theorem sgo_no (d : List Tx) (k : Nat) (hk : k < d.length) (h : (entryR d[k]).2 = false) : stockGo (edK d k) (d.drop k) = none := by
  rw [List.drop_eq_getElem_cons hk, stockGo, if_neg (by rw [h]; simp)]
theorem sgo_end (d : List Tx) (k : Nat) (hk : ¬ k < d.length) : stockGo (edK d k) (d.drop k) = some (edK d k) := by
  rw [List.drop_of_length_le (by omega), stockGo]
theorem stR_none {s : Tx} (h0 : s ≠ []) (h : stockGo (edK (splitL 59 s) 0) ((splitL 59 s).drop 0) = none) : stockR s = none := by
  have h : stockGo [] (splitL 59 s) = none := h
  unfold stockR; rw [if_neg h0, h]
theorem stR_some {s : Tx} (h0 : s ≠ []) {l : List EntryD} (h : stockGo (edK (splitL 59 s) 0) ((splitL 59 s).drop 0) = some l) : stockR s = if l.length ≤ 40 then some l else none := by
  have h : stockGo [] (splitL 59 s) = some l := h
  unfold stockR; rw [if_neg h0, h]
theorem info_entD : (Tryz.prog.info? 179).map (fun i => (i.zero, i.size, i.bytes)) = some (some (.agg #[.string ByteArray.empty, .int .i64 0, .int .i64 0, .int .i64 0, .slice none 0 0]), 5, 64) := by kernel_rfl
theorem entD_one (e : EntryD) {a : Option Addr} {m c : Nat} : ∀ u ∈ entC (e, .slice a m c), u.oneCell' = true := by
  intro u hu; simp [entC] at hu; rcases hu with rfl | rfl | rfl | rfl | rfl <;> rfl
theorem news_5b (w : World) (o1 : Obj) (x y z q r : Value) (t : TypeId) : ∀ j u, [x, y, z, q, r][j]? = some u → ((w.alloc o1).alloc (.cells #[x, y, z, q, r] t)).cell? ((⟨w.heap.size + 1, 0, none⟩ : Addr).add j) = some u := by
  intro j u hu
  have := World.news_of_block (heap_alloc_new (w.alloc o1) (.cells #[x, y, z, q, r] t)) j u (by simpa using hu)
  simpa using this

set_option maxHeartbeats 4000000 in
theorem stockD_any (s : ByteArray) (w : World) (hs : s.size ≤ 5000) :
    Calls Tryz.prog 77 #[.string s] w fun e w' => ∃ a n c, e = .returned (.tuple #[.slice a n c, .bool (stockR (tx s)).isSome]) ∧ Below w.heap.size w w' ∧ (∀ l, stockR (tx s) = some l → ∃ zs, EntsI w' (.slice a n c) zs ∧ zs.map Prod.fst = l) := by
  obtain ⟨i0, hi, hz0, hz1, hz2⟩ := info_parts info_entD
  by_cases h0 : tx s = []
  · have hb : (s.size : Int) = 0 := by rw [← tx_length, h0]; rfl
    have HF : Hid (stockR (tx s) = some []) := by unfold Hid stockR; rw [if_pos h0]
    clear h0
    go_enter Tryz.func77, Tryz.ntmps77
    go_wp2
    go_ret2
    exact ⟨none, 0, 0, by rw [HF.out]; rfl, Below.refl _ _, fun l hl => by rw [HF.out] at hl; exact ⟨[], ⟨RowX.nil _ _ _ _, by simp⟩, by simpa using hl⟩⟩
  · have hb : ¬ (s.size : Int) = 0 := by rw [← tx_length]; have := List.length_pos_iff.2 h0; omega
    have HPS : Hid (∀ j (hj : j < (splitL 59 (tx s)).length), (bs (splitL 59 (tx s))[j]).size ≤ 5000) := fun j hj => by have := piece_size 59 s j hj; omega
    have HDL : Hid ((splitL 59 (tx s)).length ≤ 5001) := by unfold Hid; have := splitL_len 59 (tx s); rw [tx_length] at this; omega
    have HTN := hid' (stR_none h0)
    have HTS := hid' (fun l => stR_some h0 (l := l))
    clear h0
    generalize stockR (tx s) = res at *
    go_enter Tryz.func77, Tryz.ntmps77
    go_wp2_with fail
    refine (rsplit_any s 59 _ (by omega)).mono ?_
    rintro e w1 ⟨v, rfl, hrow, hb1⟩
    have hrx := hrow.rowx
    obtain ⟨ta, tc, rfl⟩ := hrx.form
    have HRX := hid' hrx
    have HB1 := hid' hb1
    have hz1' := hb1.size
    clear hrow hrx hb1
    generalize splitL 59 (tx s) = d at *
    go_wp2
    go_loopw [4, 6] (fun v i wr => ∃ (k : Nat) (zs : List (EntryD × Value)), k ≤ d.length ∧ i = .int .i64 k ∧ wr.ownsRow w1.heap.size 179 5 v zs.length (zs.flatMap entC) ∧ Below w1.heap.size w1 wr ∧ Hid (zs.length = k ∧ (∀ z ∈ zs, NeedsI wr z.2 z.1.needs) ∧ zs.map Prod.fst = edK d k ∧ stockGo (edK d 0) (d.drop 0) = stockGo (edK d k) (d.drop k))) (fun _ i _ => d.length - (intOf i).toNat)
    case atStart => exact ⟨0, [], Nat.zero_le _, rfl, World.ownsRow_nil _ _ _ _, Below.refl _ _, ⟨rfl, by simp, rfl, rfl⟩⟩
    case round =>
      obtain ⟨k, zs, hk, rfl, hown, hbel, hall⟩ := hrel
      have hz := hbel.size
      have hdl := HDL.out
      by_cases hlt : k < d.length
      · obtain ⟨g, o, cap', hv, hg, hc⟩ := (HRX.out.below hbel).strs hlt
        simp at hv
        obtain ⟨rfl, rfl⟩ := hv
        have c0 := hc k hlt
        have HP := hid' (fun w => entryD_any (bs d[k]) w (HPS.out k hlt))
        rw [tx_bs] at HP
        clear hc
        rcases hok : (entryR d[k]).2 with _ | _
        · have HF : Hid (res = none) := HTN.out (by rw [hall.out.2.2.2, sgo_no d k hlt hok])
          rw [hok] at HP
          clear hok hall
          generalize (entryR d[k]).1 = y at *
          generalize bs d[k] = q at *
          go_wp2_with fail
          refine (HP.out _).mono ?_
          rintro e w2 ⟨na, nn, nc, rfl, -, hb2⟩
          have hz2' := hb2.size
          have HB := hid' (HB1.out.trans ((hbel.trans (hb2.mono hz)).mono hz1'))
          clear hb2 hbel
          go_wp2
          go_ret2
          exact ⟨none, 0, 0, by rw [HF.out]; rfl, HB.out.alloc (by omega) _, fun l hl => by rw [HF.out] at hl; exact absurd hl (by simp)⟩
        · have HF : Hid (stockGo (edK d 0) (d.drop 0) = stockGo (edK d (k + 1)) (d.drop (k + 1))) := by unfold Hid; rw [hall.out.2.2.2, sgo_yes d k hlt hok]
          have HS := hid' (edK_succ d k hlt)
          rw [hok] at HP
          clear hok
          generalize (entryR d[k]).1 = y at *
          generalize bs d[k] = q at *
          go_wp2_with fail
          refine (HP.out _).mono ?_
          rintro e w2 ⟨na, nn, nc, rfl, hnd, hb2⟩
          have hz2' := hb2.size
          have hown2 := own_below hown hb2
          have HB2 := hid' hb2
          have HND := hid' hnd
          have hle : zs.length ≤ 5001 := by have := hall.out.1; omega
          clear hb2 hnd
          go_wp2_with (first | (at_builtin; refine wpList_append_lies _ rfl _ _ 122 rfl w1.heap.size 179 i0 (.agg #[.string ByteArray.empty, .int .i64 0, .int .i64 0, .int .i64 0, .slice none 0 0]) 5 64 Tryz.underlying122 hi hz0 hz1 hz2 rfl (by omega) _ _ _ rfl ((hown2.alloc _).alloc _) ⟨w2.heap.size + 1, 0, none⟩ 1 1 [.string (bs y.name), .int .i64 y.v.a, .int .i64 y.v.b, .int .i64 y.v.c, .slice na nn nc] rfl rfl (news_5b _ _ _ _ _ _ _ _) (entD_one y) (by omega) (by unfold maxLen; omega) (by omega) (by simp; omega) (w2.heap.size + 2) (by simp) ?_; intro g1 cap1 w3 hown3 hgrow hat hlt1))
          have hba := (HB2.out.alloc hz2' (.cells #[.string (bs y.name), .int .i64 y.v.a, .int .i64 y.v.b, .int .i64 y.v.c, .slice na nn nc] 179)).alloc (by simp; omega) (.cells #[.string (bs y.name), .int .i64 y.v.a, .int .i64 y.v.b, .int .i64 y.v.c, .slice na nn nc] 179)
          have R := step_gen2 entC (x := (y, Value.slice na nn nc)) rfl hown hbel hba hown3 hgrow
          have hba2 := ((Below.refl w2.heap.size w2).alloc (Nat.le_refl _) (.cells #[.string (bs y.name), .int .i64 y.v.a, .int .i64 y.v.b, .int .i64 y.v.c, .slice na nn nc] 179)).alloc (by simp) (.cells #[.string (bs y.name), .int .i64 y.v.a, .int .i64 y.v.b, .int .i64 y.v.c, .slice na nn nc] 179)
          have HIN : Hid ((zs ++ [(y, Value.slice na nn nc)]).length = k + 1 ∧ (∀ z ∈ zs ++ [(y, Value.slice na nn nc)], NeedsI w3 z.2 z.1.needs) ∧ (zs ++ [(y, Value.slice na nn nc)]).map Prod.fst = edK d (k + 1) ∧ stockGo (edK d 0) (d.drop 0) = stockGo (edK d (k + 1)) (d.drop (k + 1))) := by
            refine ⟨by simp [hall.out.1], fun z hz => ?_, by rw [HS.out, List.map_append, hall.out.2.2.1]; rfl, HF.out⟩
            simp only [List.mem_append, List.mem_singleton] at hz
            rcases hz with hz | rfl
            · exact ((RowX.below (hall.out.2.1 z hz) hba)).grown hgrow ((hown2.alloc _).alloc _) (by decide)
            · exact ((RowX.below HND.out hba2)).grown hgrow ((hown2.alloc _).alloc _) (by decide)
          clear hown3 hgrow hown hown2 hba hba2 hall
          go_wp2
          go_roundw
          case rel => exact ⟨k + 1, _, by omega, by go_num, R.1, R.2, HIN⟩
          case measure => simp [intOf] <;> omega
      · have HF : Hid (res = if (edK d k).length ≤ 40 then some (edK d k) else none) := HTS.out _ (by rw [hall.out.2.2.2, sgo_end d k hlt])
        have HB := hid' (HB1.out.trans (hbel.mono hz1'))
        have HLN : Hid ((edK d k).length = zs.length) := by unfold Hid; rw [← hall.out.2.2.1, List.length_map]
        obtain ⟨va, vc, rfl⟩ := own_slice hown
        have HR := hid' (And.intro (RowX.of_own hown) hall.out.2.1)
        have HE := hid' hall.out.2.2.1
        clear hall hbel hown
        go_wp2
        go_ret2
        refine ⟨va, zs.length, vc, ?_, HB.out, fun l hl => ⟨zs, HR.out, ?_⟩⟩
        · have hd : (res.isSome) = decide ((zs.length : Int) ≤ 40) := by
            rw [HF.out, HLN.out]
            by_cases h : zs.length ≤ 40
            · rw [if_pos h]; simp; omega
            · rw [if_neg h]; simp; omega
          rw [hd]
          first | rfl | go_num
        · rw [HF.out] at hl
          split at hl
          · rw [HE.out]; exact Option.some.inj hl
          · exact absurd hl (by simp)

end Hst
end Go.Proofs.YtecocheolbkneaaGreatDoor
namespace Go.Proofs.YtecocheolbkneaaGreatDoor
open Go.RowKit
namespace Hst
set_option maxRecDepth 100000

theorem gan_yes {α : Type} (f : α → Bool) (l : List α) (i k : Nat) (hk : k < i) (hi : i ≤ l.length) (h : f l[k] = true) : ((l.take i).drop k).any f = true := by
  rw [List.drop_eq_getElem_cons (by simp; omega), List.any_cons, List.getElem_take, h, Bool.true_or]
theorem gan_no {α : Type} (f : α → Bool) (l : List α) (i k : Nat) (hk : k < i) (hi : i ≤ l.length) (h : f l[k] = false) : ((l.take i).drop k).any f = ((l.take i).drop (k + 1)).any f := by
  rw [List.drop_eq_getElem_cons (by simp; omega), List.any_cons, List.getElem_take, h, Bool.false_or]
theorem gan_end {α : Type} (f : α → Bool) (l : List α) (i k : Nat) (hk : ¬ k < i) : ((l.take i).drop k).any f = false := by
  rw [List.drop_of_length_le (by simp; omega)]; rfl
/-- againGo over entries with their slices, from place k on. -/
def agZ (zs : List (EntryD × Value)) (k : Nat) : Bool := againGo ((zs.take k).map Prod.fst) ((zs.drop k).map Prod.fst)
theorem agZ_step (zs : List (EntryD × Value)) (k : Nat) (hk : k < zs.length) : agZ zs k = ((zs.take k).any (fun f => sameE f.1 zs[k].1) || (twiceN [] zs[k].1.needs || agZ zs (k + 1))) := by
  unfold agZ
  rw [List.drop_eq_getElem_cons hk, List.map_cons, againGo, List.take_succ_eq_append_getElem hk, List.map_append, List.any_map]
  rfl
theorem agZ_end (zs : List (EntryD × Value)) (k : Nat) (hk : ¬ k < zs.length) : agZ zs k = false := by
  unfold agZ
  rw [List.drop_of_length_le (by omega)]; rfl
theorem twn_step (m : List NeedD) (k : Nat) (hk : k < m.length) : twiceN (m.take k) (m.drop k) = ((m.take k).any (fun n => decide (n.name = m[k].name)) || twiceN (m.take (k + 1)) (m.drop (k + 1))) := by
  rw [List.drop_eq_getElem_cons hk, twiceN, List.take_succ_eq_append_getElem hk]
theorem twn_end (m : List NeedD) (k : Nat) (hk : ¬ k < m.length) : twiceN (m.take k) (m.drop k) = false := by
  rw [List.drop_of_length_le (by omega)]; rfl
theorem RowX.ent5 {w : World} {v : Value} {l : List (EntryD × Value)} (h : RowX entC 5 179 w v l) {k : Nat} (hk : k < l.length) :
    ∃ g o cap, v = .slice (some ⟨g, o, none⟩) l.length cap ∧ g < w.heap.size ∧ ∀ (j : Nat) (hj : j < l.length), w.cell? ⟨g, o + j * 5, none⟩ = some (.string (bs l[j].1.name)) ∧ w.cell? ⟨g, o + j * 5 + 1, none⟩ = some (.int .i64 l[j].1.v.a) ∧ w.cell? ⟨g, o + j * 5 + 2, none⟩ = some (.int .i64 l[j].1.v.b) ∧ w.cell? ⟨g, o + j * 5 + 3, none⟩ = some (.int .i64 l[j].1.v.c) ∧ w.cell? ⟨g, o + j * 5 + 4, none⟩ = some l[j].2 := by
  obtain ⟨g, o, cap, hv, hg, hc⟩ := h.cells entC_len hk
  exact ⟨g, o, cap, hv, hg, fun j hj => ⟨hc j hj 0 (by omega), hc j hj 1 (by omega), hc j hj 2 (by omega), hc j hj 3 (by omega), hc j hj 4 (by omega)⟩⟩
theorem sE_n {x y : Tx} {u v : V3} {m n : List NeedD} (h : ¬ x = y) : sameE ⟨x, u, m⟩ ⟨y, v, n⟩ = false := by simp [sameE, h]
theorem sE_v {x y : Tx} {u v : V3} {m n : List NeedD} (h : x = y) : sameE ⟨x, u, m⟩ ⟨y, v, n⟩ = eq3 u v := by simp [sameE, h]

set_option maxHeartbeats 8000000 in
theorem againD_any (v : Value) (zs : List (EntryD × Value)) (w : World) (hl : EntsI w v zs) (hn : zs.length ≤ 1000) (hnd : ∀ z ∈ zs, z.1.needs.length ≤ 1000) :
    Calls Tryz.prog 78 #[v] w fun e w' => e = .returned (.bool (agZ zs 0)) ∧ Below w.heap.size w w' := by
  obtain ⟨a, cap, rfl⟩ := RowX.form hl.1
  have HL := hid' hl
  have HND := hid' hnd
  clear hl hnd
  generalize hres : agZ zs 0 = res at *
  have HRES := hid' hres
  clear hres
  go_enter Tryz.func78, Tryz.ntmps78
  go_wp2
  go_loopw [3] (fun i wr => ∃ k : Nat, k ≤ zs.length ∧ i = .int .i64 k ∧ Below w.heap.size w wr ∧ Hid (res = agZ zs k)) (fun i _ => zs.length - (intOf i).toNat)
  case atStart => exact ⟨0, Nat.zero_le _, rfl, Below.refl _ _, HRES.out.symm⟩
  case round =>
    obtain ⟨k, hk, rfl, hbel, hall⟩ := hrel
    have hz := hbel.size
    by_cases hlt : k < zs.length
    · obtain ⟨g, o, cap', hv, hg, hc⟩ := (RowX.below HL.out.1 hbel).ent5 hlt
      simp at hv
      obtain ⟨rfl, rfl⟩ := hv
      have HC := hid' (hc k hlt)
      have HCJ := hid' hc
      have HNI := hid' (HL.out.2 zs[k] (List.getElem_mem hlt))
      have HNL := hid' (HND.out zs[k] (List.getElem_mem hlt))
      have HSTEP : Hid (res = ((zs.take k).any (fun f => sameE f.1 zs[k].1) || (twiceN [] zs[k].1.needs || agZ zs (k + 1)))) := by unfold Hid; rw [hall.out, agZ_step zs k hlt]
      have HAY := hid' (fun j hj => gan_yes (fun f : EntryD × Value => sameE f.1 zs[k].1) zs k j hj hk)
      have HAN := hid' (fun j hj => gan_no (fun f : EntryD × Value => sameE f.1 zs[k].1) zs k j hj hk)
      have HAE := hid' (fun j => gan_end (fun f : EntryD × Value => sameE f.1 zs[k].1) zs k j)
      clear hc hall
      generalize hek : zs[k] = y at *
      clear hek
      obtain ⟨⟨yn, ⟨ya, yb, yc⟩, ym⟩, ys⟩ := y
      simp only at HC HNI HNL HSTEP
      obtain ⟨na, nc, rfl⟩ := RowX.form HNI.out
      have hyl := HNL.out
      obtain ⟨wo, rfl⟩ : ∃ wo, wo = wr := ⟨_, rfl⟩
      have k0 : (0 : Int) ≤ (k : Int) := by omega
      have k1 : (k : Int) < (zs.length : Int) := by omega
      go_wp2
      go_loopw [4] (fun i wr => ∃ j : Nat, j ≤ k ∧ i = .int .i64 j ∧ Below wo.heap.size wo wr ∧ Hid ((zs.take k).any (fun f => sameE f.1 ⟨yn, ⟨ya, yb, yc⟩, ym⟩) = ((zs.take k).drop j).any (fun f => sameE f.1 ⟨yn, ⟨ya, yb, yc⟩, ym⟩))) (fun i _ => k - (intOf i).toNat)
      case atStart => exact ⟨0, Nat.zero_le _, rfl, Below.refl _ _, rfl⟩
      case round =>
        obtain ⟨j, hj, rfl, hbel2, hall⟩ := hrel
        have hz2 := hbel2.size
        obtain ⟨c0, c1, c2, c3, c4⟩ := HC.out
        have d0 := ((bcell hbel2).1 g (o + k * 5) hg).trans c0
        have d1 := ((bcell hbel2).1 g (o + k * 5 + 1) hg).trans c1
        have d2 := ((bcell hbel2).1 g (o + k * 5 + 2) hg).trans c2
        have d3 := ((bcell hbel2).1 g (o + k * 5 + 3) hg).trans c3
        have d4 := ((bcell hbel2).1 g (o + k * 5 + 4) hg).trans c4
        have hg2 : g < wr.heap.size := by omega
        have HB2 := hid' (hbel.trans (hbel2.mono hz))
        clear c0 c1 c2 c3 c4
        by_cases hjk : j < k
        · have hjl : j < zs.length := by omega
          obtain ⟨e0, e1, e2, e3, e4⟩ := HCJ.out j hjl
          have f0 := ((bcell hbel2).1 g (o + j * 5) hg).trans e0
          have f1 := ((bcell hbel2).1 g (o + j * 5 + 1) hg).trans e1
          have f2 := ((bcell hbel2).1 g (o + j * 5 + 2) hg).trans e2
          have f3 := ((bcell hbel2).1 g (o + j * 5 + 3) hg).trans e3
          clear e0 e1 e2 e3 e4
          have HY : Hid (sameE zs[j].1 ⟨yn, ⟨ya, yb, yc⟩, ym⟩ = true → res = true) := fun h => by
            rw [HSTEP.out, hall.out, HAY.out j hjk h]; rfl
          have HN : Hid (sameE zs[j].1 ⟨yn, ⟨ya, yb, yc⟩, ym⟩ = false → (zs.take k).any (fun f => sameE f.1 ⟨yn, ⟨ya, yb, yc⟩, ym⟩) = ((zs.take k).drop (j + 1)).any (fun f => sameE f.1 ⟨yn, ⟨ya, yb, yc⟩, ym⟩)) := fun h => by
            rw [hall.out, HAN.out j hjk h]
          clear hall
          generalize zs[j] = x at *
          obtain ⟨⟨xn, ⟨xa, xb, xc⟩, xm⟩, xs⟩ := x
          simp only at f0 f1 f2 f3 HY HN
          have j0 : (0 : Int) ≤ (j : Int) := by omega
          have j1 : (j : Int) < (zs.length : Int) := by omega
          go_wp2
          go_cut [42] (fun t wc => t = .bool (sameE ⟨xn, ⟨xa, xb, xc⟩, xm⟩ ⟨yn, ⟨ya, yb, yc⟩, ym⟩) ∧ Below wr.heap.size wr wc)
          case first =>
            by_cases he : xn = yn
            · have hb : ((bs xn).toList == (bs yn).toList) = true := by rw [he]; simp
              have HE : Hid (sameE ⟨xn, ⟨xa, xb, xc⟩, xm⟩ ⟨yn, ⟨ya, yb, yc⟩, ym⟩ = eq3 ⟨xa, xb, xc⟩ ⟨ya, yb, yc⟩) := sE_v he
              clear he
              by_cases pa : xa = ya
              · have bpa : (xa == ya) = true := by simp [pa]
                have Ppa := hid' pa
                clear pa
                by_cases pb : xb = yb
                · have bpb : (xb == yb) = true := by simp [pb]
                  have Ppb := hid' pb
                  clear pb
                  by_cases pc : xc = yc
                  · have bpc : (xc == yc) = true := by simp [pc]
                    have Ppc := hid' pc
                    clear pc
                    go_region_held3 (fun w' => w'.cell? ⟨g, o + j * 5, none⟩ = some (.string (bs xn)) ∧ w'.cell? ⟨g, o + j * 5 + 1, none⟩ = some (.int .i64 xa) ∧ w'.cell? ⟨g, o + j * 5 + 2, none⟩ = some (.int .i64 xb) ∧ w'.cell? ⟨g, o + j * 5 + 3, none⟩ = some (.int .i64 xc) ∧ w'.cell? ⟨g, o + k * 5, none⟩ = some (.string (bs yn)) ∧ w'.cell? ⟨g, o + k * 5 + 1, none⟩ = some (.int .i64 ya) ∧ w'.cell? ⟨g, o + k * 5 + 2, none⟩ = some (.int .i64 yb) ∧ w'.cell? ⟨g, o + k * 5 + 3, none⟩ = some (.int .i64 yc)) (go_keep) (fail)
                    go_wp2
                    go_meet
                    exact ⟨by rw [HE.out, eq3_t Ppa.out Ppb.out Ppc.out], (Below.refl _ _).drew⟩
                  · have bpc : (xc == yc) = false := by simp [pc]
                    have Ppc := hid' pc
                    clear pc
                    go_region_held3 (fun w' => w'.cell? ⟨g, o + j * 5, none⟩ = some (.string (bs xn)) ∧ w'.cell? ⟨g, o + j * 5 + 1, none⟩ = some (.int .i64 xa) ∧ w'.cell? ⟨g, o + j * 5 + 2, none⟩ = some (.int .i64 xb) ∧ w'.cell? ⟨g, o + j * 5 + 3, none⟩ = some (.int .i64 xc) ∧ w'.cell? ⟨g, o + k * 5, none⟩ = some (.string (bs yn)) ∧ w'.cell? ⟨g, o + k * 5 + 1, none⟩ = some (.int .i64 ya) ∧ w'.cell? ⟨g, o + k * 5 + 2, none⟩ = some (.int .i64 yb) ∧ w'.cell? ⟨g, o + k * 5 + 3, none⟩ = some (.int .i64 yc)) (go_keep) (fail)
                    go_wp2
                    go_meet
                    exact ⟨by rw [HE.out, eq3_f3 Ppc.out], (Below.refl _ _).drew⟩
                · have bpb : (xb == yb) = false := by simp [pb]
                  have Ppb := hid' pb
                  clear pb
                  go_region_held3 (fun w' => w'.cell? ⟨g, o + j * 5, none⟩ = some (.string (bs xn)) ∧ w'.cell? ⟨g, o + j * 5 + 1, none⟩ = some (.int .i64 xa) ∧ w'.cell? ⟨g, o + j * 5 + 2, none⟩ = some (.int .i64 xb) ∧ w'.cell? ⟨g, o + j * 5 + 3, none⟩ = some (.int .i64 xc) ∧ w'.cell? ⟨g, o + k * 5, none⟩ = some (.string (bs yn)) ∧ w'.cell? ⟨g, o + k * 5 + 1, none⟩ = some (.int .i64 ya) ∧ w'.cell? ⟨g, o + k * 5 + 2, none⟩ = some (.int .i64 yb) ∧ w'.cell? ⟨g, o + k * 5 + 3, none⟩ = some (.int .i64 yc)) (go_keep) (fail)
                  go_wp2
                  go_meet
                  exact ⟨by rw [HE.out, eq3_f2 Ppb.out], (Below.refl _ _).drew⟩
              · have bpa : (xa == ya) = false := by simp [pa]
                have Ppa := hid' pa
                clear pa
                go_region_held3 (fun w' => w'.cell? ⟨g, o + j * 5, none⟩ = some (.string (bs xn)) ∧ w'.cell? ⟨g, o + j * 5 + 1, none⟩ = some (.int .i64 xa) ∧ w'.cell? ⟨g, o + j * 5 + 2, none⟩ = some (.int .i64 xb) ∧ w'.cell? ⟨g, o + j * 5 + 3, none⟩ = some (.int .i64 xc) ∧ w'.cell? ⟨g, o + k * 5, none⟩ = some (.string (bs yn)) ∧ w'.cell? ⟨g, o + k * 5 + 1, none⟩ = some (.int .i64 ya) ∧ w'.cell? ⟨g, o + k * 5 + 2, none⟩ = some (.int .i64 yb) ∧ w'.cell? ⟨g, o + k * 5 + 3, none⟩ = some (.int .i64 yc)) (go_keep) (fail)
                go_wp2
                go_meet
                exact ⟨by rw [HE.out, eq3_f1 Ppa.out], (Below.refl _ _).drew⟩
            · have hb : ((bs xn).toList == (bs yn).toList) = false := by rw [tx_toList, tx_toList, tx_bs, tx_bs]; simp [he]
              have HE : Hid (sameE ⟨xn, ⟨xa, xb, xc⟩, xm⟩ ⟨yn, ⟨ya, yb, yc⟩, ym⟩ = false) := sE_n he
              clear he
              go_region
              go_wp2
              go_meet
              exact ⟨by rw [HE.out], (Below.refl _ _).drew⟩
          case rest =>
            obtain ⟨rfl, hbc⟩ := hcut
            have HB3 := hid' (HB2.out.trans (hbc.mono (by omega)))
            have HB4 := hid' (hbel2.trans (hbc.mono hz2))
            clear hbc hbel2 d0 d1 d2 d3 d4 f0 f1 f2 f3
            generalize sameE ⟨xn, ⟨xa, xb, xc⟩, xm⟩ ⟨yn, ⟨ya, yb, yc⟩, ym⟩ = b at *
            cases b
            · have HF := hid' (HN.out rfl)
              go_wp2
              go_roundw
              case rel => exact ⟨j + 1, by omega, by go_num, HB4.out, HF⟩
              case measure => simp [intOf] <;> omega
            · have HF := hid' (HY.out rfl)
              go_wp2
              go_ret
              exact ⟨ret_bool (by rw [HF.out]), HB3.out⟩
        · have HST2 : Hid (res = (twiceN (ym.take 0) (ym.drop 0) || agZ zs (k + 1))) := by unfold Hid; rw [HSTEP.out, hall.out, HAE.out j hjk]; rfl
          have HNI2 := hid' (RowX.below HNI.out HB2.out)
          clear hall d0 d1 d2 d3
          obtain ⟨wp, rfl⟩ : ∃ wp, wp = wr := ⟨_, rfl⟩
          have hzp := HB2.out.size
          go_wp2
          go_loopw [6] (fun i wr => ∃ p : Nat, p ≤ ym.length ∧ i = .int .i64 p ∧ Below wp.heap.size wp wr ∧ Hid (res = (twiceN (ym.take p) (ym.drop p) || agZ zs (k + 1)))) (fun i _ => ym.length - (intOf i).toNat)
          case atStart => exact ⟨0, Nat.zero_le _, rfl, Below.refl _ _, HST2⟩
          case round =>
            obtain ⟨p, hp, rfl, hbel3, hall⟩ := hrel
            have hz3 := hbel3.size
            have HB5 := hid' (HB2.out.trans (hbel3.mono hzp))
            by_cases hpl : p < ym.length
            · obtain ⟨g2, o2, cap2, hv2, hg3, hc2⟩ := (RowX.below HNI2.out hbel3).needD hpl
              simp at hv2
              obtain ⟨rfl, rfl⟩ := hv2
              have HC2 := hid' (fun q hq => (hc2 q hq).1)
              have HS3 : Hid (res = (((ym.take p).any (fun n => decide (n.name = ym[p].name)) || twiceN (ym.take (p + 1)) (ym.drop (p + 1))) || agZ zs (k + 1))) := by unfold Hid; rw [hall.out, twn_step ym p hpl]
              have HBY := hid' (fun q hq => gan_yes (fun n : NeedD => decide (n.name = ym[p].name)) ym p q hq hp)
              have HBN := hid' (fun q hq => gan_no (fun n : NeedD => decide (n.name = ym[p].name)) ym p q hq hp)
              have HBE := hid' (fun q => gan_end (fun n : NeedD => decide (n.name = ym[p].name)) ym p q)
              have HCP := hid' (hc2 p hpl).1
              clear hc2 hall
              generalize ym[p].name = pn at *
              obtain ⟨wq, rfl⟩ : ∃ wq, wq = wr := ⟨_, rfl⟩
              have p0 : (0 : Int) ≤ (p : Int) := by omega
              have p1 : (p : Int) < (ym.length : Int) := by omega
              go_wp2
              go_loopw [7] (fun i wr => ∃ q : Nat, q ≤ p ∧ i = .int .i64 q ∧ Below wq.heap.size wq wr ∧ Hid ((ym.take p).any (fun n => decide (n.name = pn)) = ((ym.take p).drop q).any (fun n => decide (n.name = pn)))) (fun i _ => p - (intOf i).toNat)
              case atStart => exact ⟨0, Nat.zero_le _, rfl, Below.refl _ _, rfl⟩
              case round =>
                obtain ⟨q, hq, rfl, hbel4, hall⟩ := hrel
                have hz4 := hbel4.size
                by_cases hqp : q < p
                · have hql : q < ym.length := by omega
                  have r0 := ((bcell hbel4).1 g2 (o2 + p * 2) hg3).trans HCP.out
                  have r1 := ((bcell hbel4).1 g2 (o2 + q * 2) hg3).trans (HC2.out q hql)
                  have hg5 : g2 < wr.heap.size := by omega
                  have HY : Hid (decide (ym[q].name = pn) = true → res = true) := fun h => by
                    rw [HS3.out, hall.out, HBY.out q hqp h]; rfl
                  have HN : Hid (decide (ym[q].name = pn) = false → (ym.take p).any (fun n => decide (n.name = pn)) = ((ym.take p).drop (q + 1)).any (fun n => decide (n.name = pn))) := fun h => by
                    rw [hall.out, HBN.out q hqp h]
                  have HB6 := hid' (HB5.out.trans (hbel4.mono (by omega)))
                  clear hall
                  generalize ym[q].name = qn at *
                  have q0 : (0 : Int) ≤ (q : Int) := by omega
                  have q1 : (q : Int) < (ym.length : Int) := by omega
                  have HEQ : Hid (((bs qn).toList == (bs pn).toList) = decide (qn = pn)) := by unfold Hid; rw [tx_toList, tx_toList, tx_bs, tx_bs, Bool.eq_iff_iff]; simp
                  go_wp2
                  go_region_held3 (fun w' => w'.cell? ⟨g2, o2 + p * 2, none⟩ = some (.string (bs pn)) ∧ w'.cell? ⟨g2, o2 + q * 2, none⟩ = some (.string (bs qn))) (go_keep) (fail)
                  rcases hc : ((bs qn).toList == (bs pn).toList) with _ | _
                  · have HF := hid' (HN.out (by rw [← HEQ.out, hc]))
                    clear r0 r1
                    go_wp2
                    go_roundw
                    case rel => exact ⟨q + 1, by omega, by go_num, hbel4.drew, HF⟩
                    case measure => simp [intOf] <;> omega
                  · have HF := hid' (HY.out (by rw [← HEQ.out, hc]))
                    clear r0 r1
                    go_wp2
                    go_ret
                    exact ⟨ret_bool (by rw [HF.out]), HB6.out.drew⟩
                · have HF : Hid (res = (twiceN (ym.take (p + 1)) (ym.drop (p + 1)) || agZ zs (k + 1))) := by unfold Hid; rw [HS3.out, hall.out, HBE.out q hqp, Bool.false_or]
                  have HB6 := hid' (hbel3.trans (hbel4.mono hz3))
                  clear hall
                  go_wp2
                  go_roundw
                  case rel => exact ⟨p + 1, by omega, by go_num, HB6.out, HF⟩
                  case measure => simp [intOf] <;> omega
            · have HF : Hid (res = agZ zs (k + 1)) := by unfold Hid; rw [hall.out, twn_end ym p hpl, Bool.false_or]
              clear hall
              go_wp2
              go_roundw
              case rel => exact ⟨k + 1, by omega, by go_num, HB5.out, HF⟩
              case measure => simp [intOf] <;> omega
    · have HF : Hid (res = false) := by unfold Hid; rw [hall.out, agZ_end zs k hlt]
      clear hall
      go_wp2
      go_ret
      exact ⟨ret_bool (by rw [HF.out]), hbel⟩

end Hst
end Go.Proofs.YtecocheolbkneaaGreatDoor
namespace Go.Proofs.YtecocheolbkneaaGreatDoor
open Go.RowKit
namespace Hst
set_option maxRecDepth 100000

/-- What New answers, by the document. -/
def NewD (r : Option (List EntryD)) (p : Option Addr) (base : Nat) (w' : World) : Prop := match r with
  | none => p = none
  | some ds => ∃ b, p = some ⟨b, 0, none⟩ ∧ base ≤ b ∧ DAt w' b ⟨ds, [], []⟩
theorem nw_long {s : Tx} (h : 4000 < s.length) : newR s = (none, 4) := by unfold newR; rw [if_pos h]
theorem nw_text {s : Tx} (h : ¬ 4000 < s.length) (h' : stockR s = none) : newR s = (none, 5) := by unfold newR; rw [if_neg h, h']
theorem nw_twice {s : Tx} (h : ¬ 4000 < s.length) {l : List EntryD} (h' : stockR s = some l) (ha : againR l = true) : newR s = (none, 6) := by unfold newR; rw [if_neg h, h']; simp only; rw [if_pos ha]
theorem nw_good {s : Tx} (h : ¬ 4000 < s.length) {l : List EntryD} (h' : stockR s = some l) (ha : againR l = false) : newR s = (some l, 0) := by unfold newR; rw [if_neg h, h']; simp only; rw [if_neg (by rw [ha]; simp)]

set_option maxHeartbeats 4000000 in
theorem newD_any (s : ByteArray) (w : World) :
    Calls Tryz.prog 50 #[.string s] w fun e w' => ∃ p, e = .returned (.tuple #[.pointer p, .int .i64 (newR (tx s)).2]) ∧ Below w.heap.size w w' ∧ NewD (newR (tx s)).1 p w.heap.size w' := by
  by_cases h4 : 4000 < s.size
  · have HF := hid' (nw_long (s := tx s) (by rw [tx_length]; exact h4))
    have hb : (4000 : Int) < (s.size : Int) := by omega
    generalize newR (tx s) = res at *
    go_enter Tryz.func50, Tryz.ntmps50
    go_wp2
    go_ret2
    exact ⟨none, by rw [HF.out]; rfl, Below.refl _ _, by rw [HF.out]; rfl⟩
  · have h4' : ¬ 4000 < (tx s).length := by rw [tx_length]; exact h4
    have HSD := hid' (fun w => stockD_any s w (by omega))
    have HT := hid' (nw_text h4')
    have HW := hid' (fun l => nw_twice h4' (l := l))
    have HG := hid' (fun l => nw_good h4' (l := l))
    have HBD := hid' (fun l => stock_bounds (s := tx s) (l := l))
    have hb : ¬ (4000 : Int) < (s.size : Int) := by omega
    clear h4'
    generalize newR (tx s) = res at *
    rcases hst : stockR (tx s) with _ | l
    · have HF := hid' (HT.out hst)
      rw [hst] at HSD
      clear hst HT HW HG HBD
      go_enter Tryz.func50, Tryz.ntmps50
      go_wp2_with fail
      refine (HSD.out _).mono ?_
      rintro e w1 ⟨a, n, c, rfl, hb1, -⟩
      have HB1 := hid' hb1
      clear hb1
      go_wp2
      go_ret2
      exact ⟨none, by rw [HF.out]; rfl, HB1.out, by rw [HF.out]; rfl⟩
    · have HB := hid' (HBD.out l hst)
      have HW' := hid' (HW.out l hst)
      have HG' := hid' (HG.out l hst)
      rw [hst] at HSD
      clear hst HT HW HG HBD
      go_enter Tryz.func50, Tryz.ntmps50
      go_wp2_with fail
      refine (HSD.out _).mono ?_
      rintro e w1 ⟨a, n, c, rfl, hb1, hz⟩
      obtain ⟨zs, hzs, hzl⟩ := hz l rfl
      have HB1 := hid' hb1
      have hz1 := hb1.size
      have HZS := hid' hzs
      have HZL := hid' hzl
      have HAG := hid' (fun w h => againD_any (.slice a n c) zs w h (by have := HB.out.1; rw [← hzl, List.length_map] at this; omega) (fun z hz => by have := HB.out.2 z.1 (by rw [← hzl]; exact List.mem_map.2 ⟨z, hz, rfl⟩); omega))
      have HAR : Hid (agZ zs 0 = againR l) := by unfold Hid; rw [← hzl]; rfl
      clear hb1 hz hzs hzl
      rw [HAR.out] at HAG
      go_wp2_with fail
      refine (HAG.out _ HZS.out).mono ?_
      rintro e w2 ⟨rfl, hb2⟩
      have HB2 := hid' (HB1.out.trans (hb2.mono hz1))
      have hz2 := HB2.out.size
      have HZ2 := hid' (HZS.out.below hb2)
      clear hb2
      rcases har : againR l with _ | _
      · have HF := hid' (HG'.out har)
        have hba := (Below.refl w2.heap.size w2).alloc (Nat.le_refl _) (.cells #[.slice a n c, .slice none 0 0, .slice none 0 0] 129)
        have HZ3 := hid' (HZ2.out.below hba)
        have HBA := hid' (HB2.out.trans (hba.mono hz2))
        clear har hba
        go_wp2
        go_ret2
        refine ⟨some ⟨w2.heap.size, 0, none⟩, by rw [HF.out]; rfl, HBA.out, ?_⟩
        rw [HF.out]
        exact ⟨w2.heap.size, rfl, hz2, ⟨by simp, tag_new _ _ _, ⟨_, zs, by simp [go_sem], HZ3.out, HZL.out⟩, ⟨.slice none 0 0, by simp [go_sem], RowX.nil _ _ _ _⟩, ⟨.slice none 0 0, by simp [go_sem], RowX.nil _ _ _ _⟩, by simp [go_sem], by simp [go_sem]⟩⟩
      · have HF := hid' (HW'.out har)
        clear har
        go_wp2
        go_ret2
        exact ⟨none, by rw [HF.out]; rfl, HB2.out, by rw [HF.out]; rfl⟩

end Hst
end Go.Proofs.YtecocheolbkneaaGreatDoor
namespace Go.Proofs.YtecocheolbkneaaGreatDoor
open Go.RowKit
namespace Hst
set_option maxRecDepth 100000

/-- The needs that Add builds for. -/
def addN (s : SiteD) (l : Tx) : List NeedD := sortedR (restR s.needs (needR l).1.name ++ [(needR l).1])
theorem ad_text {s : SiteD} {l : Tx} {n : NeedD} (h : needR l = (n, false)) : addR s l = (s, 5) := by unfold addR; rw [h]; rfl
theorem ad_many {s : SiteD} {l : Tx} {n : NeedD} (h : needR l = (n, true)) (h6 : 6 ≤ (restR s.needs n.name).length) : addR s l = (s, 7) := by unfold addR; rw [h, if_neg (by simp), if_pos h6]
theorem ad_good {s : SiteD} {l : Tx} {n : NeedD} (h : needR l = (n, true)) (h6 : ¬ 6 ≤ (restR s.needs n.name).length) : addR s l = settleR s (addN s l) s.packs := by unfold addR addN; rw [h, if_neg (by simp), if_neg h6]
theorem addN_ok {s : SiteD} (hok : DOk s) {l : Tx} {n : NeedD} (h : needR l = (n, true)) : ∀ x ∈ addN s l, NeedOk x := by
  intro x hx
  unfold addN at hx
  rw [(sortedR_perm _).mem_iff, h] at hx
  rcases List.mem_append.1 hx with hx | hx
  · exact hok.no x (List.mem_filter.1 hx).1
  · rw [List.mem_singleton.1 hx]
    have h2 : (needR l).2 = true := by rw [h]
    have h1 : (needR l).1 = n := by rw [h]
    unfold needR at h1 h2
    simp only [Bool.and_eq_true] at h1 h2
    rw [← h1]
    refine ⟨isName_3 h2.1, ?_⟩
    have := h2.2
    unfold isRangeR at this
    simp only [Bool.and_eq_true, decide_eq_true_eq] at this
    exact this.1
theorem addN_len {s : SiteD} {l : Tx} {n : NeedD} (h : needR l = (n, true)) (h6 : ¬ 6 ≤ (restR s.needs n.name).length) : (addN s l).length ≤ 6 := by
  unfold addN
  rw [(sortedR_perm _).length_eq, h]
  simp
  omega

set_option maxHeartbeats 4000000 in
theorem addD_any (b : Nat) (s : SiteD) (p : ByteArray) (w : World) (hs : DAt w b s) (hok : DOk s) (hp : p.size ≤ 9223372036854775807) (hlw : ¬ 6 ≤ (restR s.needs (needR (tx p)).1.name).length → (needR (tx p)).2 = true → LaysWell s.stock s.packs (addN s (tx p))) :
    Calls Tryz.prog 55 #[.pointer (some ⟨b, 0, none⟩), .string p] w fun e w' => e = .returned (.int .i64 (addR s (tx p)).2) ∧ SMv b w w' ∧ DAt w' b (addR s (tx p)).1 := by
  obtain ⟨i0, hi, iz0, iz1, iz2⟩ := info_parts info_need
  have hnl := hok.nl
  have hlt := hs.lt
  have HND := hid' (fun w => need_any p w hp)
  have HS := hid' hs
  have HOK := hid' hok
  rcases hnr : needR (tx p) with ⟨⟨nn, nr⟩, ok⟩
  rw [hnr] at HND hlw
  cases ok
  · have HF := hid' (ad_text (s := s) hnr)
    generalize addR s (tx p) = ar at *
    clear hnr hlw hs hok
    go_enter Tryz.func55, Tryz.ntmps55
    go_wp2_with fail
    refine (HND.out _).mono ?_
    rintro e w1 ⟨rfl, hb1⟩
    have hba := hb1.alloc hb1.size (.cells #[.string (bs nn), .string (bs nr)] 135)
    have HR := hid' (And.intro (SMv.of_below (b := b) hba) (HS.out.below hba))
    clear hb1 hba
    go_wp2
    go_ret
    exact ⟨ret_int (by rw [HF.out]), HR.out.1, by rw [HF.out]; exact HR.out.2⟩
  · have A1 := hid' (ad_many (s := s) hnr)
    have A2 := hid' (ad_good (s := s) hnr)
    have HLN := hid' (addN_len (s := s) hnr)
    have HSET := hid' (fun (h6 : ¬ 6 ≤ (restR s.needs nn).length) nv tv w h1 h2 h3 => settleD_any b s nv (addN s (tx p)) tv s.packs w h1 h2 h3 hok.st (addN_len hnr h6) (addN_ok hok hnr) hok.pl (hlw h6 rfl))
    have HAN : Hid (addN s (tx p) = sortedR (restR s.needs nn ++ [⟨nn, nr⟩])) := by unfold Hid addN; rw [hnr]
    have HRL := hid' (restR_len s.needs nn)
    generalize addR s (tx p) = ar at *
    generalize addN s (tx p) = an at *
    clear hnr hlw hs hok
    go_enter Tryz.func55, Tryz.ntmps55
    go_wp2_with fail
    refine (HND.out _).mono ?_
    rintro e w1 ⟨rfl, hb1⟩
    have hz1 := hb1.size
    have hba := hb1.alloc hb1.size (.cells #[.string (bs nn), .string (bs nr)] 135)
    have HS2 := hid' (HS.out.below hba)
    have HM2 := hid' (SMv.of_below (b := b) hba)
    obtain ⟨v1, e1, r1⟩ := HS2.out.needs
    obtain ⟨na, nc, rfl⟩ := RowX.form r1
    have HR1 := hid' r1
    have q0 : (w1.alloc (.cells #[.string (bs nn), .string (bs nr)] 135)).cell? ⟨w1.heap.size, 0, none⟩ = some (.string (bs nn)) := by simp
    have q1 : (w1.alloc (.cells #[.string (bs nn), .string (bs nr)] 135)).cell? ⟨w1.heap.size, 1, none⟩ = some (.string (bs nr)) := by simp
    have hsz : (w1.alloc (.cells #[.string (bs nn), .string (bs nr)] 135)).heap.size = w1.heap.size + 1 := by simp
    have hb2 := HS2.out.lt
    have HRS := hid' (fun w h => rest_any na s.needs.length nc s.needs (bs nn) w h (by omega))
    rw [tx_bs] at HRS
    clear hb1 hba r1
    go_wp2
    generalize w1.alloc (.cells #[.string (bs nn), .string (bs nr)] 135) = V at *
    have hV1 : w1.heap.size < V.heap.size := by omega
    clear hsz
    go_region_held3 (fun w' => w'.cell? ⟨b, 1, none⟩ = some (.slice na s.needs.length nc) ∧ w'.cell? ⟨w1.heap.size, 0, none⟩ = some (.string (bs nn))) (go_keep)
      (first | (go_at_call 85; refine (HRS.out _ (by first | exact NeedsI.r HR1.out | exact NeedsI.r (RowX.below HR1.out (Below.refl _ _).drew))).mono ?_; rintro e w2 ⟨v2, rfl, hown2, hb2'⟩; obtain ⟨oa, oc, rfl⟩ := own_slice hown2; have hz2 := (bcell hb2').1; simp at hz2))
    have hb3 := (Below.refl V.heap.size V).drew.trans (hb2'.mono (by simp))
    have HS3 := hid' (HS2.out.below hb3)
    have HM3 := hid' (HM2.out.trans (SMv.of_below (b := b) hb3))
    have hcc := (bcell hb3).1
    have p0 := (hcc w1.heap.size 0 hV1).trans q0
    have p1 := (hcc w1.heap.size 1 hV1).trans q1
    have h12 : w1.heap.size < w2.heap.size := by have := hb3.size; omega
    have hb2s := HS3.out.lt
    have hrl := HRL.out
    have hv2 := hb3.size
    have HB3 := hid' hb3
    have HB2 := hid' hb2'
    clear hb3 hcc hz2 q0 q1 e1 HR1
    generalize restR s.needs nn = rr at *
    by_cases h6 : 6 ≤ rr.length
    · have h6' : (6 : Int) ≤ (rr.length : Int) := by omega
      have HF := hid' (A1.out h6)
      clear hb2' hown2
      go_wp2
      go_ret
      exact ⟨ret_int (by rw [HF.out]), HM3.out, by rw [HF.out]; exact HS3.out⟩
    · have h6' : ¬ (6 : Int) ≤ (rr.length : Int) := by omega
      have HF := hid' (A2.out h6)
      have HL6 := hid' (HLN.out h6)
      have HSE := hid' (HSET.out h6)
      have hrr : rr.length ≤ 5 := by omega
      clear hb2' h6
      go_wp2_with (first
        | (at_builtin; refine wpList_append_lies _ rfl _ _ 126 rfl V.drew.heap.size 135 i0 (.agg #[.string ByteArray.empty, .string ByteArray.empty]) 2 32 Tryz.underlying126 hi iz0 iz1 iz2 rfl (by omega) _ _ _ rfl (hown2.alloc _) ⟨w2.heap.size, 0, none⟩ 1 1 [.string (bs nn), .string (bs nr)] rfl rfl (news_one _ _ _ _) (need_one ⟨nn, nr⟩) (by omega) (by unfold maxLen; omega) (by omega) (by simp; omega) (w2.heap.size + 1) (by simp) ?_; intro g1 cap1 w3 hown3 hgrow hat hlt1))
      have R := step_gen2 needC (x := ⟨nn, nr⟩) rfl hown2 HB2.out ((Below.refl _ _).alloc (Nat.le_refl _) _) hown3 hgrow
      have HB4 := hid' ((Below.refl V.heap.size V).drew.trans (R.2.mono (by simp)))
      have HNI := hid' (show NeedsI w3 (.slice (some ⟨g1, 0, none⟩) (rr.length + 1) cap1) (rr ++ [⟨nn, nr⟩]) from RowX.of_own R.1)
      have HSO := hid' (sorted_any (.slice (some ⟨g1, 0, none⟩) (rr.length + 1) cap1) (rr ++ [⟨nn, nr⟩]) w3 HNI.out (by simp; omega))
      rw [← HAN.out] at HSO
      have HS4 := hid' (HS2.out.below HB4.out)
      have HM4 := hid' (HM2.out.trans (SMv.of_below (b := b) HB4.out))
      clear R hown3 hgrow hown2 p0 p1
      go_wp2_with fail
      refine HSO.out.mono ?_
      rintro e w4 ⟨v4, rfl, hown4, hb4⟩
      have hrx4 := RowX.of_own hown4
      obtain ⟨va4, vc4, rfl⟩ := own_slice hown4
      have HN4 := hid' (show NeedsI w4 (.slice va4 an.length vc4) an from hrx4)
      have HS5 := hid' (HS4.out.below hb4)
      have HM5 := hid' (HM4.out.trans (SMv.of_below (b := b) hb4))
      have hlt5 := HS5.out.lt
      obtain ⟨v2, t2, r2⟩ := HS5.out.packs
      obtain ⟨pa, pc, rfl⟩ := RowX.form r2
      have HST := hid' (HSE.out _ _ w4 HS5.out HN4.out r2)
      clear hb4 hown4 hrx4 r2 HSE HSO
      go_wp2_with fail
      refine HST.out.mono ?_
      rintro e w5 ⟨rfl, hm, hs5⟩
      have HR := hid' (And.intro (HM5.out.trans hm) hs5)
      clear hm hs5
      go_wp2
      go_ret
      exact ⟨ret_int (by rw [HF.out]), HR.out.1, by rw [HF.out]; exact HR.out.2⟩

end Hst
end Go.Proofs.YtecocheolbkneaaGreatDoor
