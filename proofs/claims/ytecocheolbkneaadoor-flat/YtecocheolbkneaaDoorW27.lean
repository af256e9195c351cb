/- Kflatx, Kopen -/
import Derived.Test.YtecocheolbkneaaDoorW12
import Derived.Test.YtecocheolbkneaaDoorW17
import Derived.Test.YtecocheolbkneaaDoorW26
import Derived.Deep.RegionLaw
import Derived.Test.YtecocheolbkneaaDoorW13
import Derived.ProofKit
import Derived.OpenShut
import Derived.ShutString
import Derived.SizedLaws
import Derived.Carry
import Derived.Deep.Slices
namespace Go.Proofs.YtecocheolbkneaaDoor
open Go.RowKit
namespace Hst
set_option maxRecDepth 100000

/-- An item in the making, at a block. -/
structure XAt (W : World) (c B : Nat) (nm : Int) (v : Value) (l : List WantX) : Prop where
  lt : c < W.heap.size
  tag : tagOf W c = some 58
  e0 : W.cell? ⟨c, 0, none⟩ = some (.int .i64 nm)
  e1 : W.cell? ⟨c, 1, none⟩ = some (.int .i64 1)
  e2 : W.cell? ⟨c, 2, none⟩ = some (.int .i64 0)
  e3 : W.cell? ⟨c, 3, none⟩ = some v
  f3 : W.frozen? ⟨c, 3, none⟩ = false
  own : W.ownsRow B 52 4 v l.length (l.flatMap wantC)
theorem XAt.below {W W' : World} {c B : Nat} {nm : Int} {v : Value} {l : List WantX} (h : XAt W c B nm v l) (hb : Below W.heap.size W W') : XAt W' c B nm v l := by
  have hcc := (bcell hb).1
  exact ⟨Nat.lt_of_lt_of_le h.lt hb.size, (tagOf_below hb h.lt).trans h.tag, (hcc c 0 h.lt).trans h.e0, (hcc c 1 h.lt).trans h.e1, (hcc c 2 h.lt).trans h.e2, (hcc c 3 h.lt).trans h.e3, ((bcell hb).2 c 3 h.lt).trans h.f3, own_below h.own hb⟩
theorem XAt.push {W w5 : World} {c B : Nat} {nm : Int} {v : Value} {l : List WantX} {g1 cap1 : Nat} {y : WantX} (hgrow : W.grownBy w5 v.ownBlock) (hown5 : w5.ownsRow B 52 4 (.slice (some ⟨g1, 0, none⟩) (l.length + 1) cap1) (l.length + 1) (l.flatMap wantC ++ wantC y)) (h : XAt W c B nm v l) (hcB : c < B) :
    XAt (w5.setCell ⟨c, 3, none⟩ (.slice (some ⟨g1, 0, none⟩) (l.length + 1) cap1)) c B nm (.slice (some ⟨g1, 0, none⟩) (l ++ [y]).length cap1) (l ++ [y]) ∧ Below c W (w5.setCell ⟨c, 3, none⟩ (.slice (some ⟨g1, 0, none⟩) (l.length + 1) cap1)) := by
  have hblk := blk_grown hgrow h.own h.lt h.tag (by decide)
  have hc : ∀ o, w5.cell? ⟨c, o, none⟩ = W.cell? ⟨c, o, none⟩ := fun o => World.cell?_of_block (w := W) hblk
  have hf : ∀ o, w5.frozen? ⟨c, o, none⟩ = W.frozen? ⟨c, o, none⟩ := fun o => World.frozen?_of_block (w := W) hblk
  have hlt5 : c < w5.heap.size := Nat.lt_of_lt_of_le h.lt hgrow.size
  have d0 := (hc 0).trans h.e0
  have d1 := (hc 1).trans h.e1
  have d2 := (hc 2).trans h.e2
  have d3 := (hc 3).trans h.e3
  have e1 : (l ++ [y]).length = l.length + 1 := by simp
  refine ⟨⟨by simpa using hlt5, ?_, by simp [go_sem, d0], by simp [go_sem, d1], by simp [go_sem, d2], ?_, by rw [World.frozen?_setCell]; exact (hf 3).trans h.f3, ?_⟩, ?_⟩
  · rw [tag_set]
    unfold tagOf
    rw [hblk]
    exact h.tag
  · rw [e1]
    exact World.cell?_setCell_same' _ _ _ (by rw [d3]; rfl)
  · rw [e1, List.flatMap_append]
    simp only [List.flatMap_cons, List.flatMap_nil, List.append_nil]
    exact ownsRow_setCell_below hown5 (a := ⟨c, 3, none⟩) hcB _
  · exact ((Below.refl c W).grown hgrow (Nat.le_of_lt h.lt) (fun q hq => by have := (h.own.lt q hq).1; omega)).setCell (p := ⟨c, 3, none⟩) (Nat.le_refl _) _

theorem StrsX.r {w : World} {a : Option Addr} {cap : Nat} {l : List Tx} (h : RowX strC 1 9 w (.slice a l.length cap) l) : StrsR w a l.length cap l := by
  obtain ⟨a', c', e, hr, _⟩ := h
  simp at e
  obtain ⟨rfl, rfl⟩ := e
  exact ⟨rfl, hr⟩
theorem StrsR.off {w w' : World} {a : Option Addr} {n cap b : Nat} {l : List Tx} (h : RowX strC 1 9 w (.slice a n cap) l) (hb : But b w w') (ht : tagOf w b = some 98) : RowX strC 1 9 w' (.slice a n cap) l := RowX.off h hb (by rw [ht]; decide)
set_option maxHeartbeats 1000000 in
theorem nameOf_any (x : WantX) (w : World) (hx : WantOk x) :
    Calls Tryd.prog 29 #[wantV x] w fun e w' => e = .returned (.string (bs (nameK x.name))) ∧ Below w.heap.size w w' := by
  have HN := hid' (fun w => names_any x.name w hx.name)
  obtain ⟨xn, xs, xa, xi⟩ := x
  simp only at HN ⊢
  have hba := (Below.refl w.heap.size w).alloc (Nat.le_refl _) (.cells #[.int .i64 xn, .int .i64 xs, .int .i64 xa, .int .i64 xi] 52)
  have HB := hid' hba
  clear hba hx
  generalize bs (nameK xn) = nb at *
  go_enter Tryd.func29, Tryd.ntmps29
  go_wp2_with fail
  refine (HN.out _).mono ?_
  rintro e w1 ⟨rfl, hb1⟩
  have HR := hid' (HB.out.trans (hb1.mono (by simp)))
  clear hb1
  go_wp2
  go_ret
  exact ⟨rfl, HR.out⟩

set_option maxHeartbeats 8000000 in
theorem flatl_any (a : Option Addr) (cap : Nat) (items : List ItemX) (la : Option Addr) (lc : Nat) (l : List WantX) (w : World) (hr : ItemsR w a cap items) (_hn : items.length ≤ 9223372036854775807) (hwn : ∀ x ∈ items, x.wants.length ≤ 4398046510976) (hok : ∀ x ∈ items, ItemOk x) (hl : RowR w la l.length lc 4 (l.flatMap wantC)) (hln : l.length ≤ 9223372036854775807) (hlo : ∀ x ∈ l, WantOk x) :
    Calls Tryd.prog 8 #[.slice a items.length cap, .slice la l.length lc] w fun e w' => e = .returned (.bool true) ∧ Below w.heap.size w w' := by
  obtain ⟨i0, hi, iz0, iz1, iz2⟩ := info_parts info_item
  obtain ⟨j0, hj, jz0, jz1, jz2⟩ := info_parts info_want
  have HPL := hid' (fun w h => plain_any la lc l w h hln hlo)
  have HPK : Hid ((plainK l).length ≤ 6 ∧ (∀ x ∈ plainK l, WantOk x) ∧ (plainK l).Pairwise fun a b => nameK a.name ≠ nameK b.name) := ⟨plainK_len l, fun x hx => hlo x (plainK_in hx), plainK_pw l⟩
  have HL := hid' hl
  have HR := hid' hr
  have HO := hid' hok
  have HWN := hid' hwn
  clear hr hwn hok hl hln hlo
  go_enter Tryd.func8, Tryd.ntmps8
  go_wp2
  go_loopw [5, 6] (fun v i wr => ∃ (k : Nat) (acc : List ItemX), k ≤ items.length ∧ k ≤ 40 ∧ acc.length ≤ k ∧ i = .int .i64 k ∧ wr.ownsRow w.heap.size 58 4 v acc.length (acc.flatMap itemC) ∧ Below w.heap.size w wr ∧ Hid ((∀ x ∈ acc, ItemOk x ∧ x.wants.length ≤ 4398046510976) ∧ (∀ x ∈ acc, WantsX wr x.wv x.wants) ∧ acc.map bare = (items.take k).map oneP)) (fun _ i _ => items.length - (intOf i).toNat)
  case atStart => exact ⟨0, [], Nat.zero_le _, by omega, by simp, rfl, World.ownsRow_nil _ _ _ _, Below.refl _ _, ⟨by simp, by simp, by simp⟩⟩
  case round =>
    obtain ⟨k, acc, hk, hk40, hal, rfl, hown, hbel, hall⟩ := hrel
    have hz := hbel.size
    obtain ⟨av, ac, rfl⟩ := own_slice hown
    have HAO := hid' hall.out.1
    have HAW := hid' hall.out.2.1
    have HAE := hid' hall.out.2.2
    clear hall
    by_cases hgo : k < items.length ∧ k < 40
    · obtain ⟨hlt, h40⟩ := hgo
      have k0 : (0 : Int) ≤ (k : Int) := by omega
      have k1 : (k : Int) < (items.length : Int) := by omega
      have k2 : (k : Int) < 40 := by omega
      have hmem : items[k] ∈ items := List.getElem_mem hlt
      have HXO := hid' (HO.out items[k] hmem)
      have hxn := HWN.out items[k] hmem
      obtain ⟨xva, xvc, xe, xr⟩ := HR.out.each _ hmem
      have HXR := hid' xr
      have HCX : Hid (∀ (W : World), Below w.heap.size w W → ∃ g o, a = some ⟨g, o, none⟩ ∧ g < w.heap.size ∧ W.cell? ⟨g, o + k * 4, none⟩ = some (.int .i64 items[k].name) ∧ W.cell? ⟨g, o + k * 4 + 3, none⟩ = some (.slice xva items[k].wants.length xvc)) := fun W hb => by
        obtain ⟨g, o, ha, hg, hc⟩ := HR.out.row.items rfl hlt
        obtain ⟨g', o', ha', _, hc'⟩ := (HR.out.row.below hb).items rfl hlt
        rw [ha] at ha'
        simp at ha'
        obtain ⟨rfl, rfl⟩ := ha'
        have := hc' k hlt
        rw [xe] at this
        exact ⟨g, o, ha, hg, this.1, this.2.2.2⟩
      have HTK : Hid ((items.take (k + 1)).map oneP = (items.take k).map oneP ++ [oneP items[k]]) := by
        unfold Hid
        rw [List.take_succ_eq_append_getElem hlt, List.map_append]
        rfl
      generalize hx : items[k] = x at *
      clear hx hmem xe xr
      obtain ⟨xn, xa, xi, xv, xw⟩ := x
      simp only at hxn HXO HXR HCX HTK
      obtain ⟨g, o, rfl, hg, c0, c3⟩ := HCX.out wr hbel
      have hgr : g < wr.heap.size := by omega
      have hba := (Below.refl wr.heap.size wr).alloc (Nat.le_refl _) (.cells #[.int .i64 xn, .int .i64 1, .int .i64 0, .slice none 0 0] 58)
      have HXA : Hid (XAt (wr.alloc (.cells #[.int .i64 xn, .int .i64 1, .int .i64 0, .slice none 0 0] 58)) wr.heap.size (wr.heap.size + 1) xn (.slice none 0 0) []) := ⟨by simp, tag_new _ _ _, by simp, by simp, by simp, by simp, by simp [go_sem], World.ownsRow_nil _ _ _ _⟩
      have HBA := hid' hba
      have HBW := hid' hbel
      have HOW := hid' hown
      clear hba hown hbel
      obtain ⟨wo, rfl⟩ : ∃ wo, wo = wr := ⟨_, rfl⟩
      go_wp2
      go_loopw [8] (fun kv wi => ∃ (j : Nat) (l' : List WantX) (va : Option Addr) (vc : Nat), j ≤ xw.length ∧ l'.length ≤ j ∧ kv = .int .i64 j ∧ Hid (XAt wi wo.heap.size (wo.heap.size + 1) xn (.slice va l'.length vc) l' ∧ Below wo.heap.size wo wi ∧ l' = (xw.take j).map starW)) (fun kv _ => xw.length - (intOf kv).toNat)
      case atStart => exact ⟨0, [], none, 0, Nat.zero_le _, by simp, rfl, HXA.out, HBA.out, by simp⟩
      case round =>
        obtain ⟨j, l', va, vc, hj2, hl2, rfl, hin⟩ := hrel
        have HX := hid' hin.out.1
        have HBI := hid' hin.out.2.1
        have HLE := hid' hin.out.2.2
        clear hin
        have hcw : wo.heap.size < wr.heap.size := HX.out.lt
        have d3 := HX.out.e3
        have f3 := HX.out.f3
        have r3 := HX.out.own
        have HBT := hid' (HBW.out.trans (HBI.out.mono hz))
        obtain ⟨g', o', hgo', hg', q0, q3⟩ := HCX.out wr HBT.out
        simp at hgo'
        obtain ⟨rfl, rfl⟩ := hgo'
        have hgi : g < wr.heap.size := by omega
        by_cases hjl : j < xw.length
        · have j0' : (0 : Int) ≤ (j : Int) := by omega
          have j1' : (j : Int) < (xw.length : Int) := by omega
          obtain ⟨wg, wo', hxv, hwg, hwc⟩ := (HXR.out.below HBT.out).wants rfl hjl
          subst hxv
          obtain ⟨p0, -, -, -⟩ := hwc j hjl
          have HTJ : Hid ((xw.take (j + 1)).map starW = (xw.take j).map starW ++ [starW xw[j]]) := by
            unfold Hid
            rw [List.take_succ_eq_append_getElem hjl, List.map_append]
            rfl
          have HSW : Hid (starW xw[j] = ⟨xw[j].name, 0, 0, 0⟩) := rfl
          clear hwc
          generalize starW xw[j] = sy at *
          generalize xw[j].name = yn at *
          have hnb : ∀ q, (Value.slice va l'.length vc).ownBlock = some q → q ≠ wo.heap.size := fun q hq e => by
            have h1 := tag_of_own r3 hq
            rw [e, HX.out.tag] at h1
            exact absurd h1 (by decide)
          have HNB := hid' hnb
          clear hnb
          go_wp2
          go_region_law (refine step_append_lies _ (by rfl) _ _ 39 (by rfl) (wo.heap.size + 1) 52 j0 (.agg #[.int .i64 0, .int .i64 0, .int .i64 0, .int .i64 0]) 4 32 Tryd.underlying39 hj jz0 jz1 jz2 (by rfl) (by omega) _ _ _ (by rfl) (by first | exact (r3.alloc _).drew | exact r3.drew.alloc _) ⟨wr.heap.size, 0, none⟩ 1 1 [.int .i64 yn, .int .i64 0, .int .i64 0, .int .i64 0] (by rfl) (by rfl) (by first | exact knews_4 _ _ _ _ _ _) (want_one ⟨yn, 0, 0, 0⟩) (by omega) (by unfold maxLen; omega) (by omega) (by simp; omega) (wr.heap.size + 1) (by simp) ?_; intro g1 cap1 w5 hown5 hgrow5 hat5 hlt5; have y3 := grow_far hgrow5 (b := wo.heap.size) (by simp; omega) HNB.out 3; have y4 := grow_far_f hgrow5 (b := wo.heap.size) (by simp; omega) HNB.out 3; simp [go_sem] at y3 y4)
          all_goals
            have R := XAt.push (y := ⟨yn, 0, 0, 0⟩) hgrow5 hown5 (HX.out.below (by first | exact ((Below.refl _ _).alloc (Nat.le_refl _) _).drew | exact (Below.refl _ _).drew.alloc (by simp) _)) (by omega)
            have HR1 := hid' R.1
            have HR2 := hid' (HBI.out.trans ((Below.mono (by first | exact ((Below.refl _ _).alloc (Nat.le_refl _) _).drew | exact (Below.refl _ _).drew.alloc (by simp) _) (by omega)).trans R.2))
            have HL3 : Hid (l' ++ [(⟨yn, 0, 0, 0⟩ : WantX)] = (xw.take (j + 1)).map starW) := by unfold Hid; rw [HTJ.out, HLE.out, HSW.out]
            have el : (l' ++ [(⟨yn, 0, 0, 0⟩ : WantX)]).length = l'.length + 1 := by simp
            rw [el] at HR1
            clear R hown5 hgrow5 hat5
            go_wp2
            go_roundw
            case rel => exact ⟨j + 1, l' ++ [⟨yn, 0, 0, 0⟩], _, cap1, by omega, by rw [el]; omega, by go_num, by rw [el]; exact ⟨HR1.out, HR2.out, HL3.out⟩⟩
            case measure => simp [intOf] <;> omega
        · have j1' : ¬ (j : Int) < (xw.length : Int) := by omega
          have HL3 : Hid (l' = xw.map starW) := by unfold Hid; rw [HLE.out, List.take_of_length_le (by omega)]
          have q4 := HX.out.e0
          have q5 := HX.out.e1
          have q6 := HX.out.e2
          have hown2 := own_below HOW.out HBI.out
          have HWX2 : Hid (WantsX wr (.slice va l'.length vc) l') := RowX.of_own r3
          have HAW2 : Hid (∀ x ∈ acc, WantsX wr x.wv x.wants) := fun y hy => RowX.below (HAW.out y hy) HBI.out
          go_wp2_with (first | (at_builtin; refine wpList_append_lies _ rfl _ _ 38 rfl w.heap.size 58 i0 (.agg #[.int .i64 0, .int .i64 0, .int .i64 0, .slice none 0 0]) 4 48 Tryd.underlying38 hi iz0 iz1 iz2 rfl (by omega) _ _ _ rfl (hown2.alloc _) ⟨wr.heap.size, 0, none⟩ 1 1 [.int .i64 xn, .int .i64 1, .int .i64 0, .slice va l'.length vc] rfl rfl (knews_4 _ _ _ _ _ _) (item_one (x := ⟨xn, 1, 0, .slice va l'.length vc, l'⟩) rfl) (by omega) (by unfold maxLen; omega) (by omega) (by simp; omega) (wr.heap.size + 1) (by simp) ?_; intro g1 cap1 w4 hown4 hgrow hat hlt1))
          have hab := (Below.refl wr.heap.size wr).alloc (Nat.le_refl _) (.cells #[.int .i64 xn, .int .i64 1, .int .i64 0, .slice va l'.length vc] 58)
          have R := step_gen2 itemC (x := ⟨xn, 1, 0, .slice va l'.length vc, l'⟩) rfl hown2 HBT.out hab hown4 hgrow
          have HFI : Hid ((∀ x ∈ acc ++ [(⟨xn, 1, 0, .slice va l'.length vc, l'⟩ : ItemX)], ItemOk x ∧ x.wants.length ≤ 4398046510976) ∧ (∀ x ∈ acc ++ [(⟨xn, 1, 0, .slice va l'.length vc, l'⟩ : ItemX)], WantsX w4 x.wv x.wants) ∧ (acc ++ [(⟨xn, 1, 0, .slice va l'.length vc, l'⟩ : ItemX)]).map bare = (items.take (k + 1)).map oneP) := by
            refine ⟨fun y hy => ?_, fun y hy => ?_, ?_⟩
            · rcases List.mem_append.1 hy with hy | hy
              · exact HAO.out y hy
              · rw [List.mem_singleton.1 hy]
                refine ⟨⟨HXO.out.name, by unfold Raw; simp, by unfold Raw; simp, fun u hu => ?_⟩, by simp only; omega⟩
                simp only at hu
                rw [HL3.out] at hu
                obtain ⟨z, hz', rfl⟩ := List.mem_map.1 hu
                exact star_ok (HXO.out.wants z hz')
            · rcases List.mem_append.1 hy with hy | hy
              · exact RowX.grown (RowX.below (HAW2.out y hy) hab) hgrow (hown2.alloc _) (by decide)
              · rw [List.mem_singleton.1 hy]
                exact RowX.grown (RowX.below HWX2.out hab) hgrow (hown2.alloc _) (by decide)
            · rw [HTK.out, List.map_append, HAE.out]
              unfold oneP bare
              simp only [List.map_cons, List.map_nil]
              rw [HL3.out]
          clear hown4 hgrow hown2 hab
          go_wp2
          go_roundw
          case rel => exact ⟨k + 1, _, by omega, by omega, by simp; omega, by go_num, R.1, R.2, HFI⟩
          case measure => simp [intOf] <;> omega
    · go_upto_region 3 with fail
      go_cut [26] (fun t wc => t = .bool false ∧ wc = wr)
      case first =>
        by_cases hlt : k < items.length
        · have k1 : (k : Int) < (items.length : Int) := by omega
          have k2 : ¬ (k : Int) < 40 := fun h => hgo ⟨hlt, by omega⟩
          go_wp2
          go_meet
          exact ⟨rfl, rfl⟩
        · have k1 : ¬ (k : Int) < (items.length : Int) := by omega
          go_wp2
          go_meet
          exact ⟨rfl, rfl⟩
      case rest =>
        obtain ⟨rfl, hwc⟩ := hcut
        have hwc := hwc.symm
        subst hwc
        have HIT : Hid (ItemsR wr av ac acc) := ⟨RowR.of_own hown, fun x hx => ItemIn.of_x (HAW.out x hx)⟩
        have HST := hid' (stocked_any av ac acc wr HIT.out (by omega) (fun x hx => by have := (HAO.out x hx).2; omega) (fun x hx => (HAO.out x hx).1))
        rw [HAE.out] at HST
        have HB0 := hid' hbel
        clear hown hbel
        go_wp2_with fail
        refine HST.out.mono ?_
        rintro e w1 ⟨oa, oc, out, rfl, hix, hbare, ho40, hio, hb1⟩
        have HIX := hid' hix
        have HON := hid' (one_each hbare ho40 fun x hx => (hio x hx).2)
        have HIO := hid' hio
        have HB1 := hid' (HB0.out.trans (hb1.mono HB0.out.size))
        have HSK := hid' (stock_any false entryF oa oc out 0 w1 hix.r ho40 (by omega) (fun x hx => (hio x hx).2) (fun x hx => (hio x hx).1))
        rw [rotK_zero] at HSK
        have HNW := hid' (new_items false out HON.out.well)
        clear hix hbare hio hb1
        go_wp2_with fail
        refine HSK.out.mono ?_
        rintro e w2 ⟨rfl, hb2⟩
        have HB2 := hid' (HB1.out.trans (hb2.mono HB1.out.size))
        have HIX2 := hid' (HIX.out.below hb2)
        have HRD := hid' (ready_any (bs (stockT false true out)) _ w2 (by rw [tx_bs]; exact HNW.out))
        clear hb2
        generalize bs (stockT false true out) = tb at *
        go_wp2_with fail
        refine HRD.out.mono ?_
        rintro e w3 ⟨b, rfl, hbb, hk3, hb3⟩
        have HB3 := hid' (HB2.out.trans (hb3.mono HB2.out.size))
        have HIX3 := hid' (HIX2.out.below hb3)
        have HK3 := hid' hk3
        have HBB : Hid (w.heap.size ≤ b) := by unfold Hid; have := HB2.out.size; omega
        have HPC := hid' (HPL.out w3 (HL.out.below HB3.out))
        clear hb3 hk3 hbb
        go_wp2_with fail
        refine HPC.out.mono ?_
        rintro e w5 ⟨pv, rfl, hownp, hb5⟩
        obtain ⟨pa, pc, rfl⟩ := own_slice hownp
        have HB5 := hid' (HB3.out.trans (hb5.mono HB3.out.size))
        have HK5 := hid' (HK3.out.below hb5)
        have HIX5 := hid' (HIX3.out.below hb5)
        have HPW0 := hid' (show WantsX w5 (.slice pa (plainK l).length pc) (plainK l) from RowX.of_own hownp)
        have HSW0 : Hid (WantsX w5 (.slice none 0 0) []) := RowX.of_own (World.ownsRow_nil w5 w.heap.size 52 4)
        obtain ⟨sx, hsx⟩ := HK3.out
        have HKF0 := hid' (KFlat.start HON.out hsx.2)
        have hpl := HPK.out.1
        clear hb5 hownp hsx
        generalize plainK l = pl at *
        go_wp2
        go_loopw [11, 13] (fun sv i wr => ∃ (k2 : Nat) (site : List WantX) (sa : Option Addr) (sc : Nat) (sd : SiteD), k2 ≤ pl.length ∧ sv = .slice sa site.length sc ∧ i = .int .i64 k2 ∧ site.length ≤ 6 ∧ Hid (Below w.heap.size w wr ∧ KAt wr b sd ∧ KFlat out site sd ∧ SiteOf pl k2 site ∧ ItemsX wr oa oc out ∧ WantsX wr (.slice pa pl.length pc) pl ∧ WantsX wr (.slice sa site.length sc) site)) (fun _ i _ => pl.length - (intOf i).toNat)
        case atStart => exact ⟨0, [], none, 0, _, Nat.zero_le _, rfl, rfl, by simp, HB5.out, HK5.out, HKF0.out, SiteOf.nil pl, HIX5.out, HPW0.out, HSW0.out⟩
        case round =>
          obtain ⟨k2, site, sa, sc, sd, hk2, rfl, rfl, hs6, hall⟩ := hrel
          obtain ⟨hbe, hkw, hkf, hsf, hiw, hpw, hsw⟩ := hall.out
          have HBW2 := hid' hbe
          have HKW := hid' hkw
          have HKF := hid' hkf
          have HSF := hid' hsf
          have HIW := hid' hiw
          have HPW := hid' hpw
          have HSW2 := hid' hsw
          clear hall hbe hkw hkf hsf hiw hpw hsw
          by_cases hlt2 : k2 < pl.length
          · have q0' : (0 : Int) ≤ (k2 : Int) := by omega
            have q1' : (k2 : Int) < (pl.length : Int) := by omega
            obtain ⟨pg, po, hpa, hpg, -⟩ := (WantsX.r HPW.out).wants rfl hlt2
            subst hpa
            have HCE : Hid (∀ W : World, WantsX W (.slice (some ⟨pg, po, none⟩) pl.length pc) pl → W.cell? ⟨pg, po + k2 * 4, none⟩ = some (.int .i64 pl[k2].name) ∧ W.cell? ⟨pg, po + k2 * 4 + 1, none⟩ = some (.int .i64 pl[k2].sign) ∧ W.cell? ⟨pg, po + k2 * 4 + 2, none⟩ = some (.int .i64 pl[k2].major) ∧ W.cell? ⟨pg, po + k2 * 4 + 3, none⟩ = some (.int .i64 pl[k2].minor)) := fun W hW => by
              obtain ⟨g', o', ha', _, hc'⟩ := (WantsX.r hW).wants rfl hlt2
              simp at ha'
              obtain ⟨rfl, rfl⟩ := ha'
              exact hc' k2 hlt2
            have hxo := HPK.out.2.1 pl[k2] (List.getElem_mem hlt2)
            have HSF2 := hid' (HSF.out.take hlt2)
            have HSOK := hid' (HSF2.out.ok HPK.out.2.1)
            have HFA := hid' (HKF.out.add (star_rng pl[k2]) (HSF2.out.two HPK.out.2.2) (HSF2.out.six HPK.out.1))
            have hs5 := HSF2.out.six HPK.out.1
            simp at hs5
            have HNO := hid' (fun w => nameOf_any pl[k2] w hxo)
            have HAD := hid' (fun w h => kadd_any b sd (bs (wantT (starW pl[k2]))) w h (by rw [bs_size]; have := wantT_len (starW pl[k2]); omega))
            rw [tx_bs] at HAD
            have hsm : bs (nameK pl[k2].name) ++ (⟨#[42]⟩ : ByteArray) = bs (wantT (starW pl[k2])) := by rw [star_text, ← bs_append]; rfl
            have s1 : (bs (nameK pl[k2].name)).size ≤ 3 := by rw [bs_size]; exact nameK_len _
            have el : (site ++ [starW pl[k2]]).length = site.length + 1 := by simp
            have HSX : Hid (wantC (starW pl[k2]) = [.int .i64 pl[k2].name, .int .i64 0, .int .i64 0, .int .i64 0]) := rfl
            obtain ⟨c0, -, -, -⟩ := HCE.out wr HPW.out
            clear hxo
            generalize pl[k2] = x at *
            generalize bs (wantT (starW x)) = wb at *
            generalize bs (nameK x.name) = nb at *
            obtain ⟨xn, xs, xa, xi⟩ := x
            simp only at HCE HSX c0 HNO
            have HNO' : Hid (∀ W : World, Calls Tryd.prog 29 #[.agg #[.int .i64 xn, .int .i64 xs, .int .i64 xa, .int .i64 xi]] W fun e w' => e = .returned (.string nb) ∧ Below W.heap.size W w') := HNO.out
            clear HNO
            generalize hxx : (⟨xn, xs, xa, xi⟩ : WantX) = x at *
            clear hxx
            have HFM : Hid ([starW x].flatMap wantC = [.int .i64 xn, .int .i64 0, .int .i64 0, .int .i64 0]) := by unfold Hid; simp only [List.flatMap_cons, List.flatMap_nil, List.append_nil]; exact HSX.out
            have HSL : Hid ((site.flatMap wantC).length = site.length * 4) := flat_len wantC 4 wantC_len site
            go_upto_region 21 with fail
            go_cut [14] (fun t wc => ∃ (ma : Option Addr) (mc : Nat), t = .slice ma site.length mc ∧ Below wr.heap.size wr wc ∧ Hid (wc.ownsRow wr.heap.size 52 4 (.slice ma site.length mc) site.length (site.flatMap wantC)))
            case first =>
              by_cases hsp : 0 < site.length
              · obtain ⟨sg, so, hsa, -, -⟩ := (WantsX.r HSW2.out).at' hsp
                subst hsa
                have hnwS := row_news (WantsX.r HSW2.out) hsp
                go_wp2_with (first | (at_builtin; refine wpList_append_lies _ rfl _ _ 39 rfl wr.heap.size 52 j0 (.agg #[.int .i64 0, .int .i64 0, .int .i64 0, .int .i64 0]) 4 32 Tryd.underlying39 hj jz0 jz1 jz2 rfl (by omega) _ _ _ rfl (World.ownsRow_nil _ _ _ _) ⟨sg, so, none⟩ site.length sc (site.flatMap wantC) rfl HSL.out hnwS (wants_one site) hsp (by unfold maxLen; omega) (by omega) (Nat.le_refl _) wr.heap.size rfl ?_; intro g1 cap1 w1 hown1 hgrow1 hat1 hlt1; rw [Nat.zero_add, List.nil_append] at hown1; have hgr1 : wr.grownBy w1 none := hgrow1; have hb1 := (Below.refl wr.heap.size wr).grown hgr1 (Nat.le_refl _) (fun q hq => by simp at hq); clear hgrow1 hgr1))
                go_meet
                exact ⟨some ⟨g1, 0, none⟩, cap1, rfl, hb1, hown1⟩
              · have hs0 : site.length = 0 := by omega
                have HS0 : Hid (site = []) := List.length_eq_zero_iff.1 hs0
                have HZ0 := hid' hs0
                clear hs0 hsp
                go_wp2_with (first | (at_builtin; refine wpList_append_zero rfl _ _ 39 rfl wr.heap.size 52 j0 4 Tryd.underlying39 hj _ _ _ rfl (World.ownsRow_nil _ _ _ _) sa sc (congrArg (fun n => Value.slice sa n sc) HZ0.out) ?_))
                go_meet
                refine ⟨none, 0, by rw [HZ0.out], Below.refl _ _, ?_⟩
                rw [HS0.out]
                exact World.ownsRow_nil _ _ _ _
            case rest =>
              obtain ⟨ma, mc, rfl, hb1, hownh⟩ := hcut
              have hown1 := hownh.out
              have hz1 := hb1.size
              obtain ⟨c0, -, -, -⟩ := HCE.out wc (RowX.below HPW.out hb1)
              have hg1 : pg < wc.heap.size := by omega
              clear hownh
              go_wp2_with (first | (at_builtin; refine wpList_append_lies _ rfl _ _ 39 rfl wr.heap.size 52 j0 (.agg #[.int .i64 0, .int .i64 0, .int .i64 0, .int .i64 0]) 4 32 Tryd.underlying39 hj jz0 jz1 jz2 rfl (by omega) _ _ _ rfl (hown1.alloc _) ⟨wc.heap.size, 0, none⟩ 1 1 [.int .i64 xn, .int .i64 0, .int .i64 0, .int .i64 0] rfl rfl (knews_4 _ _ _ _ _ _) (want_one ⟨xn, 0, 0, 0⟩) (by omega) (by unfold maxLen; omega) (by omega) (by simp; omega) (wc.heap.size + 1) (by simp) ?_; intro g2 cap2 w2 hownM hgrow2 hat2 hlt2'; have hbM := below_grow hgrow2 hown1 hb1 hz1 ((Below.refl _ _).alloc (Nat.le_refl _) _); clear hgrow2 hown1 hb1))
              rw [← HFM.out] at hownM
              have hzM := hbM.size
              have HKM := hid' (HKW.out.below hbM)
              have HIM := hid' (HIW.out.below hbM)
              have HPM := hid' (RowX.below HPW.out hbM)
              have HSM2 := hid' (RowX.below HSW2.out hbM)
              have HBM := hid' (HBW2.out.trans (hbM.mono HBW2.out.size))
              have HMX : Hid (WantsX w2 (.slice (some ⟨g2, 0, none⟩) (site ++ [starW x]).length cap2) (site ++ [starW x])) := by
                refine RowX.of_own (base := wr.heap.size) ?_
                rw [el, List.flatMap_append]
                exact hownM
              obtain ⟨pg', po', hpa', hpg2, hpc2⟩ := (WantsX.r HPM.out).wants rfl hlt2
              simp at hpa'
              obtain ⟨rfl, rfl⟩ := hpa'
              have HRC := hid' (reached_any oa oc out (some ⟨g2, 0, none⟩) cap2 (site ++ [starW x]) w2 HIM.out (by omega) HIO.out HON.out HMX.out (by rw [el]; omega) HSOK.out)
              rw [el] at HRC
              clear hownM hbM hpc2
              rcases HFA.out with ⟨hre, had⟩ | ⟨names, hre, hae, hkf, htx⟩
              · have HRE := hid' hre
                rw [hre] at HRC
                rw [had] at HAD
                simp only [ReachE] at HRC
                simp only at HAD
                clear hre had HFA
                go_wp2_with fail
                refine HRC.out.mono ?_
                rintro e w3 ⟨rfl, hb3⟩
                have HK3 := hid' (HKM.out.below hb3)
                have HI3 := hid' (HIM.out.below hb3)
                have HP3 := hid' (RowX.below HPM.out hb3)
                have HS3 := hid' (RowX.below HSM2.out hb3)
                have HB3 := hid' (HBM.out.trans (hb3.mono HBM.out.size))
                obtain ⟨u0, u1, u2, u3⟩ := HCE.out w3 HP3.out
                have hg3 : pg < w3.heap.size := by have := hb3.size; omega
                clear hb3
                go_wp2_with fail
                refine (HNO'.out _).mono ?_
                rintro e w4 ⟨rfl, hb4⟩
                have HK4 := hid' (HK3.out.below hb4)
                have HI4 := hid' (HI3.out.below hb4)
                have HP4 := hid' (RowX.below HP3.out hb4)
                have HS4 := hid' (RowX.below HS3.out hb4)
                have HB4 := hid' (HB3.out.trans (hb4.mono HB3.out.size))
                clear hb4 u0 u1 u2 u3
                go_wp2_with fail
                refine (HAD.out _ HK4.out).mono ?_
                rintro e w5 ⟨rfl, hm5, hk5⟩
                have HK5 := hid' hk5
                have HI5 := hid' (HI4.out.off hm5.but HK4.out.tag)
                have HP5 := hid' (RowX.off HP4.out hm5.but (by rw [HK4.out.tag]; decide))
                have HS5 := hid' (RowX.off HS4.out hm5.but (by rw [HK4.out.tag]; decide))
                have HB5 := hid' (HB4.out.trans (hm5.below_of HBB.out HB4.out.size))
                clear hm5 hk5
                go_wp2
                go_roundw
                case rel => exact ⟨k2 + 1, site, sa, sc, sd, by omega, rfl, by go_num, hs6, HB5.out, HK5.out, HKF.out, HSF.out.skip, HI5.out, HP5.out, HS5.out⟩
                case measure => simp [intOf] <;> omega
              · have HRE := hid' hre
                rw [hre] at HRC
                simp only [ReachE] at HRC
                have HKF2 := hid' hkf
                have HTR := hid' (fun w h => ktree_any b (addR sd (wantT (starW x))).1 w h)
                rw [htx] at HTR
                rw [hae] at HAD
                have HNL : Hid (names.length ≤ 6 ∧ ∀ t ∈ names, t.length ≤ 100) := by
                  have h := reached_spec HON.out (l := site ++ [starW x]) (by rw [el]; omega)
                  rw [hre] at h
                  have hall : ∀ t ∈ names, t ∈ allNames := fun t ht => by
                    obtain ⟨it, _, rfl⟩ := h.2.2 t ht
                    exact nameK_all _
                  refine ⟨names_six h.1 hall, fun t ht => ?_⟩
                  have : ∀ t ∈ allNames, t.length ≤ 100 := by decide
                  exact this t (hall t ht)
                clear hre hae hkf htx HFA
                have hbb : ((bs (flatK names)).toList == (bs (flatK names)).toList) = true := by simp
                generalize (addR sd (wantT (starW x))).1 = sd' at *
                go_wp2_with fail
                refine HRC.out.mono ?_
                rintro e w3 ⟨⟨na, nc, rfl, hns⟩, hb3⟩
                have HNS := hid' hns
                have HK3 := hid' (HKM.out.below hb3)
                have HI3 := hid' (HIM.out.below hb3)
                have HP3 := hid' (RowX.below HPM.out hb3)
                have HM3 := hid' (RowX.below HMX.out hb3)
                have HB3 := hid' (HBM.out.trans (hb3.mono HBM.out.size))
                obtain ⟨u0, u1, u2, u3⟩ := HCE.out w3 HP3.out
                have hg3 : pg < w3.heap.size := by have := hb3.size; omega
                clear hb3 hns
                go_wp2_with fail
                refine (HNO'.out _).mono ?_
                rintro e w4 ⟨rfl, hb4⟩
                have HK4 := hid' (HK3.out.below hb4)
                have HI4 := hid' (HI3.out.below hb4)
                have HP4 := hid' (RowX.below HP3.out hb4)
                have HM4 := hid' (RowX.below HM3.out hb4)
                have HN4 := hid' (RowX.below HNS.out hb4)
                have HB4 := hid' (HB3.out.trans (hb4.mono HB3.out.size))
                clear hb4 u0 u1 u2 u3
                go_wp2_with fail
                refine (HAD.out _ HK4.out).mono ?_
                rintro e w5 ⟨rfl, hm5, hk5⟩
                have HK5 := hid' hk5
                have HI5 := hid' (HI4.out.off hm5.but HK4.out.tag)
                have HP5 := hid' (RowX.off HP4.out hm5.but (by rw [HK4.out.tag]; decide))
                have HM5 := hid' (RowX.off HM4.out hm5.but (by rw [HK4.out.tag]; decide))
                have HN5 := hid' (StrsR.off HN4.out hm5.but HK4.out.tag)
                have HB5 := hid' (HB4.out.trans (hm5.below_of HBB.out HB4.out.size))
                clear hm5 hk5
                go_wp2_with fail
                refine (HTR.out _ HK5.out).mono ?_
                rintro e w6 ⟨rfl, hb6⟩
                have HFL := hid' (flat_any na names.length nc names w6 (StrsX.r (RowX.below HN5.out hb6)) (by have := HNL.out.1; omega) HNL.out.2)
                have HK6 := hid' (HK5.out.below hb6)
                have HI6 := hid' (HI5.out.below hb6)
                have HP6 := hid' (RowX.below HP5.out hb6)
                have HM6 := hid' (RowX.below HM5.out hb6)
                have HB6 := hid' (HB5.out.trans (hb6.mono HB5.out.size))
                clear hb6
                generalize bs (flatK names) = fb at *
                go_wp2_with fail
                refine HFL.out.mono ?_
                rintro e w7 ⟨rfl, rfl⟩
                go_wp2
                go_roundw
                case rel => exact ⟨k2 + 1, site ++ [starW x], _, cap2, sd', by omega, by rw [el], by go_num, by rw [el]; omega, HB6.out, HK6.out, HKF2.out, HSF2.out, HI6.out, HP6.out, HM6.out⟩
                case measure => simp [intOf] <;> omega
          · have q1' : ¬ (k2 : Int) < (pl.length : Int) := by omega
            go_wp2
            go_ret
            exact ⟨rfl, HBW2.out⟩

end Hst
end Go.Proofs.YtecocheolbkneaaDoor
namespace Go.Proofs.YtecocheolbkneaaDoor
open Go.ChangeShapes Go.WideShapes Go.ChangeAt Go.RowKit Go.Deep
namespace Hst
set_option maxRecDepth 100000

theorem kcells_want : Tryd.prog.cellsOf 52 = 4 := by kernel_rfl
theorem kcells_item : Tryd.prog.cellsOf 58 = 4 := by kernel_rfl
theorem kcells_int : Tryd.prog.cellsOf 3 = 1 := by kernel_rfl
theorem kcells_wants : Tryd.prog.cellsOf 39 = 1 := by kernel_rfl
theorem klaidOut : laidOutB Tryd.prog = true := by kernel_rfl

section
variable {H : Type} {enc : TypeId × Value → H}
/-- One want, off its four cells. -/
theorem open_want {W : World} {sp : Nat → Bool} {n : Nat} {cs : List Value} {y : DataW H × List MemPlace} (h : DataW.trod enc Tryd.prog W 0 sp true n 52 cs = some y) : ∃ o : WantX, cs = wantC o ∧ WantOk o := by
  obtain ⟨xs, k, hk, hxy, hcl, hxl, hf⟩ := DataW.trod_struct Tryd.underlying52 h
  rw [kcells_want] at hcl
  match xs, hxl, cs, hcl with
  | [y0, y1, y2, y3], _, [v0, v1, v2, v3], _ =>
    have g0 := hf 0 _ rfl
    have g1 := hf 1 _ rfl
    have g2 := hf 2 _ rfl
    have g3 := hf 3 _ rfl
    simp [kcells_int] at g0 g1 g2 g3
    obtain ⟨a, ha, _, wa⟩ := DataW.trod_int Tryd.underlying3 g0
    obtain ⟨b, hb, _, wb⟩ := DataW.trod_int Tryd.underlying3 g1
    obtain ⟨c, hc, _, wc⟩ := DataW.trod_int Tryd.underlying3 g2
    obtain ⟨d, hd, _, wd⟩ := DataW.trod_int Tryd.underlying3 g3
    simp only [List.cons.injEq, and_true] at ha hb hc hd
    subst ha hb hc hd
    exact ⟨⟨a, b, c, d⟩, rfl, bounds_i64 wa, bounds_i64 wb, bounds_i64 wc, bounds_i64 wd⟩
/-- Rows of elements of four cells. -/
theorem row_of4 {α : Type} {W : World} {a : Addr} {len cap : Nat} (f : α → List Value) (hf : ∀ x, (f x).length = 4) (q : Nat → α) (hl : len ≤ cap) (hq : ∀ i, i < len → ∀ j, j < 4 → W.cell? (a.add (i * 4 + j)) = (f (q i))[j]?) : RowR W (some a) len cap 4 (((List.range len).map q).flatMap f) := by
  have hlen : ((List.range len).map q).length = len := by simp
  refine ⟨by rw [flat_len f 4 hf, hlen], hl, fun h0 => ?_⟩
  have hc0 := hq 0 h0 0 (by omega)
  simp only [Nat.zero_mul, Nat.add_zero] at hc0
  have hc0' : W.cell? (a.add 0) = some ((f (q 0))[0]'(by rw [hf]; omega)) := by rw [hc0, List.getElem?_eq_getElem]
  have hsp := World.cell?_spot hc0'
  have hbl := World.block_lt_of_cell? W _ hc0'
  obtain ⟨g, o, spot⟩ := a
  have hspot : spot = none := by simpa [Addr.add] using hsp
  subst hspot
  refine ⟨g, o, rfl, by simpa [Addr.add] using hbl, fun i hi => ?_⟩
  have hd : i / 4 < len := by omega
  have e1 : i = i / 4 * 4 + i % 4 := by omega
  have hc := hq (i / 4) hd (i % 4) (by omega)
  have hfl := flat_at f 4 hf ((List.range len).map q) (i / 4) (i % 4) (by rw [hlen]; exact hd) (by omega)
  rw [← e1] at hc hfl
  rw [hfl]
  have e2 : ((List.range len).map q)[i / 4]'(by rw [hlen]; exact hd) = q (i / 4) := by simp
  rw [e2, ← hc, add_plain]
/-- The wants. -/
theorem open_wants {W : World} {fuel : Nat} {cs : List Value} {x : DataW H × List MemPlace} (h : DataW.trod enc Tryd.prog W 0 (fun _ => true) true fuel 39 cs = some x) :
    ∃ (a : Option Addr) (cap : Nat) (l : List WantX), cs = [.slice a l.length cap] ∧ RowR W a l.length cap 4 (l.flatMap wantC) ∧ (∀ o ∈ l, WantOk o) ∧ l.length ≤ 9223372036854775807 := by
  rcases open_slice Tryd.underlying39 h with ⟨rfl, rfl⟩ | ⟨a, len, cap, m, n, D, Pl, rfl, _, hl, hm, hmm, rfl, hx⟩
  · exact ⟨none, 0, [], rfl, ⟨by simp, by simp, fun h => absurd h (by simp)⟩, by simp, by simp⟩
  · simp only [if_true] at hmm
    have each : ∀ i, i < len → ∃ o : WantX, WantOk o ∧ ∀ j, j < 4 → W.cell? (a.add (i * 4 + j)) = (wantC o)[j]? := fun i hi => by
      obtain ⟨cs', h1, h2⟩ := hx i (by omega)
      rw [kcells_want] at h1
      obtain ⟨_, _, hcell⟩ := World.cells?_some h1
      obtain ⟨o, rfl, hok⟩ := open_want h2
      exact ⟨o, hok, fun j hj => by have := hcell j hj; rw [add_add] at this; exact this⟩
    have hin : Inhabited WantX := ⟨⟨0, 0, 0, 0⟩⟩
    obtain ⟨q, hq⟩ := choose_lt each
    have hlen : ((List.range len).map q).length = len := by simp
    refine ⟨some a, cap, (List.range len).map q, by rw [hlen], ?_, fun o ho => ?_, ?_⟩
    · rw [hlen]
      exact row_of4 wantC wantC_len q hl fun i hi => (hq i hi).2
    · obtain ⟨i, hi, rfl⟩ := List.mem_map.1 ho
      exact (hq i (List.mem_range.1 hi)).1
    · rw [hlen]
      unfold maxLen at hm
      omega
/-- One item, off its four cells. -/
theorem open_item {W : World} {n : Nat} {cs : List Value} {y : DataW H × List MemPlace} (h : DataW.trod enc Tryd.prog W 0 (fun _ => true) true n 58 cs = some y) : ∃ o : ItemX, cs = itemC o ∧ ItemOk o ∧ ItemIn W o ∧ o.wants.length ≤ 9223372036854775807 := by
  obtain ⟨xs, k, hk, hxy, hcl, hxl, hf⟩ := DataW.trod_struct Tryd.underlying58 h
  rw [kcells_item] at hcl
  match xs, hxl, cs, hcl with
  | [y0, y1, y2, y3], _, [v0, v1, v2, v3], _ =>
    have g0 := hf 0 _ rfl
    have g1 := hf 1 _ rfl
    have g2 := hf 2 _ rfl
    have g3 := hf 3 _ rfl
    simp [kcells_int, kcells_wants] at g0 g1 g2 g3
    obtain ⟨a, ha, _, wa⟩ := DataW.trod_int Tryd.underlying3 g0
    obtain ⟨b, hb, _, wb⟩ := DataW.trod_int Tryd.underlying3 g1
    obtain ⟨c, hc, _, wc⟩ := DataW.trod_int Tryd.underlying3 g2
    obtain ⟨va, vc, l, hd, hrow, hok, hle⟩ := open_wants g3
    simp only [List.cons.injEq, and_true] at ha hb hc hd
    subst ha hb hc hd
    exact ⟨⟨a, b, c, .slice va l.length vc, l⟩, rfl, ⟨bounds_i64 wa, bounds_i64 wb, bounds_i64 wc, hok⟩, ⟨va, vc, rfl, hrow⟩, hle⟩
/-- The items. -/
theorem open_items {W : World} {fuel : Nat} {cs : List Value} {x : DataW H × List MemPlace} (h : DataW.trod enc Tryd.prog W 0 (fun _ => true) true fuel 38 cs = some x) :
    ∃ (a : Option Addr) (cap : Nat) (l : List ItemX), cs = [.slice a l.length cap] ∧ ItemsR W a cap l ∧ (∀ o ∈ l, ItemOk o) ∧ l.length ≤ 9223372036854775807 ∧ ∀ o ∈ l, o.wants.length ≤ 9223372036854775807 := by
  rcases open_slice Tryd.underlying38 h with ⟨rfl, rfl⟩ | ⟨a, len, cap, m, n, D, Pl, rfl, _, hl, hm, hmm, rfl, hx⟩
  · exact ⟨none, 0, [], rfl, ⟨⟨by simp, by simp, fun h => absurd h (by simp)⟩, by simp⟩, by simp, by simp, by simp⟩
  · simp only [if_true] at hmm
    have each : ∀ i, i < len → ∃ o : ItemX, (ItemOk o ∧ ItemIn W o ∧ o.wants.length ≤ 9223372036854775807) ∧ ∀ j, j < 4 → W.cell? (a.add (i * 4 + j)) = (itemC o)[j]? := fun i hi => by
      obtain ⟨cs', h1, h2⟩ := hx i (by omega)
      rw [kcells_item] at h1
      obtain ⟨_, _, hcell⟩ := World.cells?_some h1
      obtain ⟨o, rfl, hok⟩ := open_item h2
      exact ⟨o, hok, fun j hj => by have := hcell j hj; rw [add_add] at this; exact this⟩
    have hin : Inhabited ItemX := ⟨⟨0, 0, 0, .slice none 0 0, []⟩⟩
    obtain ⟨q, hq⟩ := choose_lt each
    have hlen : ((List.range len).map q).length = len := by simp
    have hmem : ∀ o ∈ (List.range len).map q, ItemOk o ∧ ItemIn W o ∧ o.wants.length ≤ 9223372036854775807 := fun o ho => by
      obtain ⟨i, hi, rfl⟩ := List.mem_map.1 ho
      exact (hq i (List.mem_range.1 hi)).1
    refine ⟨some a, cap, (List.range len).map q, by rw [hlen], ⟨?_, fun o ho => (hmem o ho).2.1⟩, fun o ho => (hmem o ho).1, ?_, fun o ho => (hmem o ho).2.2⟩
    · rw [hlen]
      exact row_of4 itemC itemC_len q hl fun i hi => (hq i hi).2
    · rw [hlen]
      unfold maxLen at hm
      omega
end

end Hst
end Go.Proofs.YtecocheolbkneaaDoor
