/- Play, Pwok, Pworkat -/
import Derived.Test.YtecocheolbkneaaDoorW17
import Derived.Deep.DeepCutAuto
import Derived.Deep.RegionLaw
import Derived.Test.YtecocheolbkneaaDoorW05
namespace Go.Proofs.YtecocheolbkneaaDoor
open Go.RowKit
namespace Hst
set_option maxRecDepth 100000

theorem chooseGo_mem (fav : List PkX) : ∀ (l : List EntX) (best : EntX) (bf fd : Bool), (chooseGo fav best bf fd l).2 = true → (chooseGo fav best bf fd l).1 ∈ l ∨ (fd = true ∧ (chooseGo fav best bf fd l).1 = best)
  | [], best, bf, fd, h => .inr ⟨h, rfl⟩
  | e :: r, best, bf, fd, h => by
    by_cases hc : (!fd || (if hasP fav e.name e.ver = bf then decide (best.ver < e.ver) else hasP fav e.name e.ver)) = true
    · rw [chooseGo, if_pos hc] at h ⊢
      rcases chooseGo_mem fav r e _ true h with h1 | ⟨_, h1⟩
      · exact .inl (List.mem_cons_of_mem _ h1)
      · rw [h1]; exact .inl (by simp)
    · rw [chooseGo, if_neg hc] at h ⊢
      rcases chooseGo_mem fav r best bf true h with h1 | ⟨_, h1⟩
      · exact .inl (List.mem_cons_of_mem _ h1)
      · refine .inr ⟨?_, h1⟩
        cases fd
        · simp at hc
        · rfl
theorem choose_mem {st : List EntX} {fav : List PkX} {n : NeedX} (h : (chooseP st fav n).2 = true) : (chooseP st fav n).1 ∈ st := by
  rcases chooseGo_mem fav (fittingP st n) zeroE false false h with h1 | ⟨h1, _⟩
  · exact fitting_mem h1
  · exact absurd h1 (by simp)
theorem info_whX : (Tryd.prog.info? 145).map (fun i => (i.zero, i.size, i.bytes)) = some (some (.agg #[.string ByteArray.empty, .slice none 0 0]), 2, 40) := by kernel_rfl
theorem whX_one (n : WhX) {a : Option Addr} {m c : Nat} (h : n.needs = .slice a m c) : ∀ u ∈ whXC n, u.oneCell' = true := by
  intro u hu; simp [whXC, h] at hu; rcases hu with rfl | rfl <;> rfl
theorem news_2 (w : World) (x y : Value) (t : TypeId) : ∀ j u, [x, y][j]? = some u → (w.alloc (.cells #[x, y] t)).cell? ((⟨w.heap.size, 0, none⟩ : Addr).add j) = some u := by
  intro j u hu
  exact World.news_of_block (heap_alloc_new w (.cells #[x, y] t)) j u (by simpa using hu)
theorem grow_far_f {w w1 : World} {v : Value} (hg : w.grownBy w1 v.ownBlock) {b : Nat} (hb : b < w.heap.size) (hne : ∀ k, v.ownBlock = some k → k ≠ b) : ∀ o, w1.frozen? ⟨b, o, none⟩ = w.frozen? ⟨b, o, none⟩ := fun o =>
  World.frozen?_of_block (w := w) (hg.block b hb (by intro h; exact hne _ h.symm rfl))
theorem lay_no {st : List EntX} {fav : List PkX} {k : WorkX} {p : Tx} {n : NeedX} (h : (chooseP st fav n).2 = false) : layP st fav k p n = (k, 8) := by unfold layP; rw [if_pos h]
theorem lay_full {st : List EntX} {fav : List PkX} {k : WorkX} {p : Tx} {n : NeedX} (h : (chooseP st fav n).2 = true) (h' : 40 ≤ k.tree.length) : layP st fav k p n = (k, 9) := by unfold layP; rw [if_neg (by rw [h]; simp), if_pos h']
theorem lay_ok {st : List EntX} {fav : List PkX} {k : WorkX} {p : Tx} {n : NeedX} (h : (chooseP st fav n).2 = true) (h' : ¬ 40 ≤ k.tree.length) :
    layP st fav k p n = (⟨withP k.tree (placeP k.tree k.gone p (chooseP st fav n).1), k.list ++ [⟨(placeP k.tree k.gone p (chooseP st fav n).1).path, (chooseP st fav n).1.needs, (chooseP st fav n).1.nd⟩], k.gone⟩, 0) := by
  unfold layP; rw [if_neg (by rw [h]; simp), if_neg h']
theorem placeGo_e (l : List PkX) (g : List AsX) (p : Tx) (e : EntX) : ∀ (n : Nat) (f : Tx) (b : PkX), f.length ≤ n → b.e = e → (placeGo l g p e f b).e = e
  | n, f, b, hn, hb => by
    by_cases h : f = []
    · subst h; rw [plg_end]; exact hb
    · have hlt := folderP_lt h
      cases n with
      | zero => have := List.length_pos_iff.2 h; omega
      | succ n =>
        rcases hw : willDoP l g p ⟨joinR (folderP f) e.name, e⟩ with _ | _
        · rw [plg_no l g p e f b h hw]; exact placeGo_e l g p e n _ _ (by omega) hb
        · rw [plg_yes l g p e f b h hw]; exact placeGo_e l g p e n _ _ (by omega) rfl
theorem placeP_e (l : List PkX) (g : List AsX) (p : Tx) (e : EntX) : (placeP l g p e).e = e := placeGo_e l g p e _ p _ (Nat.le_refl _) rfl

attribute [local go_sem ↓] Go.wp_at_zero Go.wp_at_succ

set_option maxHeartbeats 4000000 in
theorem lay_any (b B : Nat) (st : List EntX) (fav : List PkX) (k : WorkX) (p : ByteArray) (x : NeedX) (w : World) (hw : WorkAt w b B st fav k) (hB : B ≤ b) (hx : NeedIn w x) (hst : st.length ≤ 1000) (hfl : fav.length ≤ 1000) (hp : p.size ≤ 40000) (htl : k.tree.length ≤ 1000) (hpo : PathsOk k.tree) (hgl : k.gone.length ≤ 100000) (hgp : ∀ a ∈ k.gone, a.path.length ≤ 50000) (hll : k.list.length ≤ 100000) :
    Calls Tryd.prog 103 #[.pointer (some ⟨b, 0, none⟩), .string p, needXV x] w fun e w' => e = .returned (.int .i64 (layP st fav k (tx p) x).2) ∧ Moves b B w w' ∧ WorkAt w' b B st fav (layP st fav k (tx p) x).1 := by
  obtain ⟨xa, xc, hxf⟩ := hx.form
  have HCH := hid' (fun w hw hx => choose_any' b B st fav k x w hw hx hst hfl)
  have HPL := hid' (fun e w hw he => place_any b B st fav k p e w hw he hp htl hpo hgl hgp)
  have L1 := hid' (lay_no (st := st) (fav := fav) (k := k) (p := tx p) (n := x))
  have L2 := hid' (lay_full (st := st) (fav := fav) (k := k) (p := tx p) (n := x))
  have L3 := hid' (lay_ok (st := st) (fav := fav) (k := k) (p := tx p) (n := x))
  have HCM := hid' (choose_mem (st := st) (fav := fav) (n := x))
  have HPE := hid' (placeP_e k.tree k.gone (tx p) (chooseP st fav x).1)
  have HX := hid' hx
  have HW := hid' hw
  have hlt := hw.lt
  have HBz : Hid (B ≤ w.heap.size) := by unfold Hid; omega
  obtain ⟨xn, xsp, xs, xt⟩ := x
  simp only at hxf
  subst hxf
  generalize chooseP st fav ⟨xn, .slice xa xs.length xc, xs, xt⟩ = ch at *
  generalize layP st fav k (tx p) ⟨xn, .slice xa xs.length xc, xs, xt⟩ = res at *
  obtain ⟨ce, cb⟩ := ch
  simp only at HCH L1 L2 L3 HCM HPE
  have hbw := (Below.refl w.heap.size w).alloc (Nat.le_refl _) (.cells #[.string (bs xn), .slice xa xs.length xc, .string (bs xt)] 86)
  have HW1 := hid' (HW.out.below hbw)
  have HX1 := hid' (HX.out.below hbw)
  have HBW := hid' hbw
  clear hw hx hbw
  go_enter Tryd.func103, Tryd.ntmps103
  go_wp2_with fail
  refine (HCH.out _ HW1.out HX1.out).mono ?_
  rintro e w1 ⟨rfl, hb1, ⟨ca, cn, cc, hcf⟩⟩
  obtain ⟨en, ev, esp, ed⟩ := ce
  simp only at hcf
  subst hcf
  have hz1 := hb1.size
  simp at hz1
  have HB1 := hid' (HBW.out.trans (hb1.mono (by simp)))
  have HW2 := hid' (HW1.out.below hb1)
  have hba := (Below.refl w1.heap.size w1).alloc (Nat.le_refl _) (.cells #[.string (bs en), .int .i64 ev, .slice ca cn cc] 128)
  have HB2 := hid' (HB1.out.trans (hba.mono (by omega)))
  have HW3 := hid' (HW2.out.below hba)
  have hbz1 : b < w1.heap.size := by omega
  cases cb
  · have HF := hid' (L1.out rfl)
    clear hb1 hba L1 L2 L3
    go_wp2
    go_ret
    refine ⟨ret_int (by rw [HF.out]), Moves.of_below HB2.out hlt HBz.out, ?_⟩
    rw [HF.out]; exact HW3.out
  · have hce := HCM.out rfl
    obtain ⟨v0, e0, r0⟩ := HW3.out.stock
    have HCE := hid' (r0.2 _ hce)
    obtain ⟨v2, e2, r2⟩ := HW3.out.tree
    obtain ⟨ta, tc, rfl⟩ := r2.1.form
    have HR2 := hid' r2
    have HCT := hid' (fun w h => count_any (.slice ta k.tree.length tc) k.tree w h)
    have q0 : (w1.alloc (.cells #[.string (bs en), .int .i64 ev, .slice ca cn cc] 128)).cell? ⟨w1.heap.size, 0, none⟩ = some (.string (bs en)) := by simp
    have q1 : (w1.alloc (.cells #[.string (bs en), .int .i64 ev, .slice ca cn cc] 128)).cell? ⟨w1.heap.size, 1, none⟩ = some (.int .i64 ev) := by simp
    have q2 : (w1.alloc (.cells #[.string (bs en), .int .i64 ev, .slice ca cn cc] 128)).cell? ⟨w1.heap.size, 2, none⟩ = some (.slice ca cn cc) := by simp
    have hsz : (w1.alloc (.cells #[.string (bs en), .int .i64 ev, .slice ca cn cc] 128)).heap.size = w1.heap.size + 1 := by simp
    clear hb1 hba e0 r0 r2 hce
    go_wp2_with fail
    refine (HCT.out _ HR2.out).mono ?_
    rintro e w2 ⟨rfl, hb2⟩
    have hcc := (bcell hb2).1
    have p0 := (hcc w1.heap.size 0 (by simp)).trans q0
    have p1 := (hcc w1.heap.size 1 (by simp)).trans q1
    have p2 := (hcc w1.heap.size 2 (by simp)).trans q2
    have hz2 := hb2.size
    simp at hz2
    have h12 : w1.heap.size < w2.heap.size := by omega
    have HB3 := hid' (HB2.out.trans (hb2.mono (by simp; omega)))
    have HW4 := hid' (HW3.out.below hb2)
    have HCE2 := hid' (HCE.out.below hb2)
    clear hb2 hcc q0 q1 q2 hsz e2
    by_cases h40 : 40 ≤ k.tree.length
    · have HF := hid' (L2.out trivial h40)
      have h40' : (40 : Int) ≤ (k.tree.length : Int) := by omega
      clear L1 L2 L3
      go_wp2
      go_ret
      refine ⟨ret_int (by rw [HF.out]), Moves.of_below HB3.out hlt HBz.out, ?_⟩
      rw [HF.out]; exact HW4.out
    · have HF := hid' (L3.out trivial h40)
      have h40' : ¬ (40 : Int) ≤ (k.tree.length : Int) := by omega
      clear L1 L2 L3
      go_wp2_with fail
      refine (HPL.out _ _ HW4.out HCE2.out).mono ?_
      rintro e w3 ⟨rfl, hb3⟩
      generalize placeP k.tree k.gone (tx p) ⟨en, ev, .slice ca cn cc, ed⟩ = pl at *
      obtain ⟨pp, pe⟩ := pl
      simp only at HPE
      have hpe := HPE.out
      subst hpe
      have hcc := (bcell hb3).1
      have s0 := (hcc w1.heap.size 0 h12).trans p0
      have s1 := (hcc w1.heap.size 1 h12).trans p1
      have s2 := (hcc w1.heap.size 2 h12).trans p2
      have hz3 := hb3.size
      have HB4 := hid' (HB3.out.trans (hb3.mono (by omega)))
      have hba := (Below.refl w3.heap.size w3).alloc (Nat.le_refl _) (.cells #[.string (bs pp), .string (bs en), .int .i64 ev, .slice ca cn cc] 130)
      have HB5 := hid' (HB4.out.trans (hba.mono (by omega)))
      have HW5 := hid' ((HW4.out.below hb3).below hba)
      have HCE3 := hid' ((HCE2.out.below hb3).below hba)
      have t2 := ((bcell hba).1 w1.heap.size 2 (by omega)).trans s2
      have u0 : (w3.alloc (.cells #[.string (bs pp), .string (bs en), .int .i64 ev, .slice ca cn cc] 130)).cell? ⟨w3.heap.size, 0, none⟩ = some (.string (bs pp)) := by simp
      have u1 : (w3.alloc (.cells #[.string (bs pp), .string (bs en), .int .i64 ev, .slice ca cn cc] 130)).cell? ⟨w3.heap.size, 1, none⟩ = some (.string (bs en)) := by simp
      have u2 : (w3.alloc (.cells #[.string (bs pp), .string (bs en), .int .i64 ev, .slice ca cn cc] 130)).cell? ⟨w3.heap.size, 2, none⟩ = some (.int .i64 ev) := by simp
      have u3 : (w3.alloc (.cells #[.string (bs pp), .string (bs en), .int .i64 ev, .slice ca cn cc] 130)).cell? ⟨w3.heap.size, 3, none⟩ = some (.slice ca cn cc) := by simp
      have hsz : (w3.alloc (.cells #[.string (bs pp), .string (bs en), .int .i64 ev, .slice ca cn cc] 130)).heap.size = w3.heap.size + 1 := by simp
      clear hb3 hcc p0 p1 p2 s0 s1 s2 hba
      go_wp2
      generalize w3.alloc (.cells #[.string (bs pp), .string (bs en), .int .i64 ev, .slice ca cn cc] 130) = V at *
      obtain ⟨v2, e2, r2⟩ := HW5.out.tree
      obtain ⟨va, vc, rfl⟩ := r2.1.form
      have HR3 := hid' r2
      have hV3 : w3.heap.size < V.heap.size := by omega
      have hV1 : w1.heap.size < V.heap.size := by omega
      have hVb : b < V.heap.size := by omega
      have hf2 := HW5.out.f2
      have n1 : w3.heap.size ≠ b := by omega
      have n2 : b ≠ w3.heap.size := by omega
      have HWI := hid' (fun w h h' => withP_any (.slice va k.tree.length vc) k.tree ⟨pp, en, ev, .slice ca cn cc, ed⟩ w h h' (by omega))
      clear r2 hsz
      go_cut [34] (fun t wc => ∃ (na : Option Addr) (nc : Nat) (w4 : World), t = .agg #[.slice na (withP k.tree ⟨pp, en, ev, .slice ca cn cc, ed⟩).length nc] ∧ wc = w4.setCell ⟨b, 2, none⟩ (.slice na (withP k.tree ⟨pp, en, ev, .slice ca cn cc, ed⟩).length nc) ∧ Below V.heap.size V w4 ∧ PksIn w4 (.slice na (withP k.tree ⟨pp, en, ev, .slice ca cn cc, ed⟩).length nc) (withP k.tree ⟨pp, en, ev, .slice ca cn cc, ed⟩))
      case first =>
        go_region_with (first | (go_at_call 104; refine (HWI.out _ (by first | exact HR3.out | exact HR3.out.drew) (by first | exact HCE3.out | exact HCE3.out.below (Below.refl _ _).drew)).mono ?_; rintro e w4 ⟨v4, rfl, hin4, hb4⟩; obtain ⟨na, nc, rfl⟩ := hin4.1.form; have hy4 := (bcell hb4).1; have hy5 := (bcell hb4).2; simp at hy4 hy5))
        all_goals
          have hb4' := (Below.refl V.heap.size V).drew.trans (hb4.mono (by simp))
          go_wp2_with fail
          go_meet
          exact ⟨na, nc, w4, rfl, rfl, hb4', hin4⟩
      case rest =>
        obtain ⟨na, nc, w4, rfl, rfl, hb4, hin4⟩ := hcut
        obtain ⟨hwk, hmv⟩ := (HW5.out.below hb4).setTree hB hin4
        have hz4 := hb4.size
        have HM1 := hid' ((Moves.of_below (HB5.out.trans (hb4.mono (by omega))) hlt HBz.out).trans hmv)
        have hbut := But.set w4 b 2 (.slice na (withP k.tree ⟨pp, en, ev, .slice ca cn cc, ed⟩).length nc)
        have x0 := (hbut.cell (o := 0) (show w3.heap.size < w4.heap.size by omega) n1).trans (((bcell hb4).1 w3.heap.size 0 hV3).trans u0)
        have x2 := (hbut.cell (o := 2) (show w1.heap.size < w4.heap.size by omega) (show w1.heap.size ≠ b by omega)).trans (((bcell hb4).1 w1.heap.size 2 hV1).trans t2)
        have hc3 := ((HCE3.out.below hb4).off hbut (odd_of ((HW5.out.below hb4).tag) (by decide) (by decide))).1
        have HNI := hid' hc3
        have HWK := hid' hwk
        have hX1 : w1.heap.size < (w4.setCell ⟨b, 2, none⟩ (.slice na (withP k.tree ⟨pp, en, ev, .slice ca cn cc, ed⟩).length nc)).heap.size := by simp; omega
        have hX3 : w3.heap.size < (w4.setCell ⟨b, 2, none⟩ (.slice na (withP k.tree ⟨pp, en, ev, .slice ca cn cc, ed⟩).length nc)).heap.size := by simp; omega
        clear hwk hmv hbut hb4 hin4 hc3 u0 u1 u2 u3 t2 e2
        generalize w4.setCell ⟨b, 2, none⟩ (.slice na (withP k.tree ⟨pp, en, ev, .slice ca cn cc, ed⟩).length nc) = X at *
        obtain ⟨v3, e3, r3, q3⟩ := HWK.out.list
        simp only at r3 q3
        obtain ⟨la, lc, rfl⟩ := own_slice r3
        have hf3 := HWK.out.f3
        have hXb := HWK.out.lt
        obtain ⟨i0, hi, hz0, hz1', hz2'⟩ := info_parts info_whX
        have hnb : ∀ q, (Value.slice la k.list.length lc).ownBlock = some q → q ≠ b := fun q hq e => by
          have h1 := tag_of_own r3 hq
          rw [e, HWK.out.tag] at h1
          exact absurd h1 (by decide)
        have HNB := hid' hnb
        clear q3 hnb
        go_wp2
        go_cut [6] (fun t wc => t = .int .i64 0 ∧ Moves b B w wc ∧ WorkAt wc b B st fav ⟨withP k.tree ⟨pp, en, ev, .slice ca cn cc, ed⟩, k.list ++ [⟨pp, .slice ca cn cc, ed⟩], k.gone⟩)
        case first =>
          go_region_law (refine step_append_lies _ (by rfl) _ _ 140 (by rfl) B 145 i0 (.agg #[.string ByteArray.empty, .slice none 0 0]) 2 40 Tryd.underlying140 hi hz0 hz1' hz2' (by rfl) (by omega) _ _ _ (by rfl) (by first | exact (r3.alloc _).drew | exact r3.drew.alloc _) ⟨X.heap.size, 0, none⟩ 1 1 [.string (bs pp), .slice ca cn cc] (by rfl) (by rfl) (by first | exact news_2 _ _ _ _) (whX_one ⟨pp, .slice ca cn cc, ed⟩ rfl) (by omega) (by unfold maxLen; omega) (by omega) (by simp; omega) (X.heap.size + 1) (by simp) ?_; intro g1 cap1 w5 hown5 hgrow5 hat5 hlt5; have y3 := grow_far hgrow5 (b := b) (by simp; omega) HNB.out 3; have y4 := grow_far_f hgrow5 (b := b) (by simp; omega) HNB.out 3; simp [go_sem] at y3 y4)
          all_goals
            have R := WorkAt.pushList (v := .slice la k.list.length lc) (x := ⟨pp, .slice ca cn cc, ed⟩) (HWK.out.below (by first | exact ((Below.refl _ _).alloc (Nat.le_refl _) _).drew | exact (Below.refl _ _).drew.alloc (by simp) _)) hB ((Below.cell (w := X) (by first | exact ((Below.refl _ _).alloc (Nat.le_refl _) _).drew | exact (Below.refl _ _).drew.alloc (by simp) _) (p := ⟨b, 3, none⟩) hXb).trans e3) (HNI.out.below (by first | exact ((Below.refl _ _).alloc (Nat.le_refl _) _).drew | exact (Below.refl _ _).drew.alloc (by simp) _)) hown5 hgrow5 (hat5.imp id (fun h => by rw [h]; simp))
            have HR := hid' (And.intro R.1 ((HM1.out.trans (Moves.of_below (by first | exact ((Below.refl _ _).alloc (Nat.le_refl _) _).drew | exact (Below.refl _ _).drew.alloc (by simp) _) hXb (by omega))).trans R.2))
            clear R hown5 hgrow5 hat5
            go_wp2_with fail
            go_meet
            exact ⟨rfl, HR.out.2, HR.out.1⟩
        case rest =>
          obtain ⟨rfl, hm, hwk⟩ := hcut
          have HMM := hid' hm
          have HWF := hid' hwk
          clear hm hwk
          go_wp2
          go_ret
          refine ⟨ret_int (by rw [HF.out]), HMM.out, ?_⟩
          rw [HF.out]; exact HWF.out

end Hst
end Go.Proofs.YtecocheolbkneaaDoor
namespace Go.Proofs.YtecocheolbkneaaDoor
namespace Hst

theorem insG_mem' {α : Type} (key : α → Tx) (x : α) : ∀ (l : List α) (b : Bool) (y : α), y ∈ insG key x b l → y = x ∨ y ∈ l
  | [], b, y, h => by cases b <;> simp [insG] at h; exact .inl h
  | z :: r, b, y, h => by
    simp only [insG] at h
    split at h
    · simp only [List.mem_cons] at h
      rcases h with h | h | h
      · exact .inl h
      · exact .inr (by simp [h])
      · rcases insG_mem' key x r true y h with h | h
        · exact .inl h
        · exact .inr (by simp [h])
    · simp only [List.mem_cons] at h
      rcases h with h | h
      · exact .inr (by simp [h])
      · rcases insG_mem' key x r b y h with h | h
        · exact .inl h
        · exact .inr (by simp [h])
theorem insG_len' {α : Type} (key : α → Tx) (x : α) : ∀ (l : List α) (b : Bool), (insG key x b l).length = l.length + (if b = true then 0 else 1)
  | [], b => by cases b <;> simp [insG]
  | y :: r, b => by
    have h1 := insG_len' key x r true
    have h2 := insG_len' key x r b
    simp only [insG]
    split
    · rename_i h
      rw [h.1]; simp [h1]
    · simp [h2]; omega
theorem joinR_le (f n : Tx) : (joinR f n).length ≤ f.length + 1 + n.length := by
  unfold joinR
  by_cases h : f = []
  · rw [if_pos h]; omega
  · rw [if_neg h]; simp; omega
theorem placeGo_path (l : List PkX) (g : List AsX) (p : Tx) (e : EntX) (m : Nat) : ∀ (n : Nat) (f : Tx) (b : PkX), f.length ≤ n → f.length + 1 + e.name.length ≤ m → b.path.length ≤ m → (placeGo l g p e f b).path.length ≤ m
  | n, f, b, hn, hf, hb => by
    rw [placeGo_eq]
    by_cases h : f = []
    · rw [dif_pos h]; exact hb
    · rw [dif_neg h]
      have hlt := folderP_lt h
      cases n with
      | zero => have := List.length_pos_iff.2 h; omega
      | succ n =>
        refine placeGo_path l g p e m n _ _ (by omega) (by omega) ?_
        split
        · have := joinR_le (folderP f) e.name
          simp only; omega
        · exact hb
theorem placeP_path (l : List PkX) (g : List AsX) (p : Tx) (e : EntX) : (placeP l g p e).path.length ≤ p.length + 1 + e.name.length :=
  placeGo_path l g p e _ _ p _ (Nat.le_refl _) (Nat.le_refl _) (joinR_le _ _)

/-- The bounds of a work. -/
structure WOk (k : WorkX) : Prop where
  tree : k.tree.length ≤ 40
  list : k.list.length = k.tree.length + 1
  lp : ∀ x ∈ k.list, x.path.length ≤ 4 * k.tree.length ∧ x.nd.length ≤ 6
  tp : ∀ p ∈ k.tree, p.path.length ≤ 4 * k.tree.length
  gp : ∀ a ∈ k.gone, a.path.length ≤ 160
theorem WOk.gone {k : WorkX} (h : WOk k) {path : Tx} (hp : path.length ≤ 4 * k.tree.length) (n : NeedX) : WOk ⟨k.tree, k.list, k.gone ++ [⟨path, n⟩]⟩ := by
  refine ⟨h.tree, h.list, h.lp, h.tp, fun a ha => ?_⟩
  simp only [List.mem_append, List.mem_singleton] at ha
  rcases ha with ha | rfl
  · exact h.gp a ha
  · have := h.tree; simp only; omega
/-- What the stock's entries are, as far as lengths go. -/
def StOk (st : List EntX) : Prop := st.length ≤ 40 ∧ ∀ e ∈ st, e.name.length ≤ 3 ∧ e.nd.length ≤ 6
theorem chooseGo_in (fav : List PkX) : ∀ (l : List EntX) (best : EntX) (bf fd : Bool), (chooseGo fav best bf fd l).2 = true → (chooseGo fav best bf fd l).1 ∈ l ∨ (fd = true ∧ (chooseGo fav best bf fd l).1 = best)
  | [], best, bf, fd, h => .inr ⟨h, rfl⟩
  | e :: r, best, bf, fd, h => by
    by_cases hc : (!fd || (if hasP fav e.name e.ver = bf then decide (best.ver < e.ver) else hasP fav e.name e.ver)) = true
    · rw [chooseGo, if_pos hc] at h ⊢
      rcases chooseGo_in fav r e _ true h with h1 | ⟨_, h1⟩
      · exact .inl (List.mem_cons_of_mem _ h1)
      · rw [h1]; exact .inl (by simp)
    · rw [chooseGo, if_neg hc] at h ⊢
      rcases chooseGo_in fav r best bf true h with h1 | ⟨_, h1⟩
      · exact .inl (List.mem_cons_of_mem _ h1)
      · refine .inr ⟨?_, h1⟩
        cases fd
        · simp at hc
        · rfl
theorem choose_in {st : List EntX} {fav : List PkX} {n : NeedX} (h : (chooseP st fav n).2 = true) : (chooseP st fav n).1 ∈ st := by
  rcases chooseGo_in fav (fittingP st n) zeroE false false h with h1 | ⟨h1, _⟩
  · exact (List.mem_filter.1 h1).1
  · exact absurd h1 (by simp)
theorem WOk.lay {st : List EntX} {fav : List PkX} {k : WorkX} {path : Tx} {n : NeedX} (h : WOk k) (hs : StOk st) (hp : path.length ≤ 4 * k.tree.length) : WOk (layP st fav k path n).1 ∧ k.tree.length ≤ (layP st fav k path n).1.tree.length ∧ (layP st fav k path n).1.gone = k.gone := by
  unfold layP
  by_cases h1 : (chooseP st fav n).2 = false
  · rw [if_pos h1]; exact ⟨h, Nat.le_refl _, rfl⟩
  · rw [if_neg h1]
    by_cases h2 : 40 ≤ k.tree.length
    · rw [if_pos h2]; exact ⟨h, Nat.le_refl _, rfl⟩
    · rw [if_neg h2]
      have hm := hs.2 _ (choose_in (by simpa using h1))
      have hpl := placeP_path k.tree k.gone path (chooseP st fav n).1
      have hl : (withP k.tree (placeP k.tree k.gone path (chooseP st fav n).1)).length = k.tree.length + 1 := insG_len' _ _ _ false
      generalize placeP k.tree k.gone path (chooseP st fav n).1 = pl at *
      generalize (chooseP st fav n).1 = ce at *
      refine ⟨⟨by simp only; omega, by simp only [List.length_append, List.length_singleton]; have := h.list; omega, fun x hx => ?_, fun p hp' => ?_, h.gp⟩, by simp only; omega, rfl⟩
      · simp only at hx ⊢
        simp only [List.mem_append, List.mem_singleton] at hx
        rcases hx with hx | rfl
        · have := h.lp x hx; omega
        · simp only; omega
      · simp only at hp' ⊢
        rcases insG_mem' _ _ _ _ _ hp' with rfl | hp'
        · omega
        · have := h.tp p hp'; omega
theorem WOk.work {st : List EntX} {fav : List PkX} {path : Tx} (hs : StOk st) : ∀ (l : List NeedX) (k : WorkX), WOk k → path.length ≤ 4 * k.tree.length → WOk (workGo st fav path k l).1 ∧ k.tree.length ≤ (workGo st fav path k l).1.tree.length ∧ (workGo st fav path k l).1.gone.length ≤ k.gone.length + l.length
  | [], k, h, hp => ⟨h, Nat.le_refl _, by simp [workGo]⟩
  | n :: r, k, h, hp => by
    rw [workGo]
    by_cases h1 : meetsP k.tree path n = true
    · rw [if_pos h1]
      have ih := WOk.work (fav := fav) hs r ⟨k.tree, k.list, k.gone ++ [⟨path, n⟩]⟩ (h.gone hp n) hp
      refine ⟨ih.1, ih.2.1, ?_⟩
      have := ih.2.2
      simp at this ⊢; omega
    · rw [if_neg h1]
      have hl := h.lay (fav := fav) (n := n) hs hp
      by_cases h2 : (layP st fav k path n).2 = 0
      · rw [if_pos h2]
        have ih := WOk.work (fav := fav) hs r ⟨(layP st fav k path n).1.tree, (layP st fav k path n).1.list, (layP st fav k path n).1.gone ++ [⟨path, n⟩]⟩ (hl.1.gone (Nat.le_trans hp (Nat.mul_le_mul_left 4 hl.2.1)) n) (Nat.le_trans hp (Nat.mul_le_mul_left 4 hl.2.1))
        refine ⟨ih.1, Nat.le_trans hl.2.1 ih.2.1, ?_⟩
        have := ih.2.2
        rw [hl.2.2] at this ⊢
        simp at this ⊢; omega
      · rw [if_neg h2]
        exact ⟨hl.1, hl.2.1, by rw [hl.2.2]; omega⟩

end Hst
end Go.Proofs.YtecocheolbkneaaDoor
namespace Go.Proofs.YtecocheolbkneaaDoor
open Go.RowKit
namespace Hst
set_option maxRecDepth 100000

theorem info_asX : (Tryd.prog.info? 164).map (fun i => (i.zero, i.size, i.bytes)) = some (some (.agg #[.string ByteArray.empty, .string ByteArray.empty, .slice none 0 0, .string ByteArray.empty]), 4, 72) := by kernel_rfl
theorem asX_one (x : AsX) {a : Option Addr} {m c : Nat} (h : x.n.sp = .slice a m c) : ∀ u ∈ asXC x, u.oneCell' = true := by
  intro u hu; simp [asXC, h] at hu; rcases hu with rfl | rfl | rfl | rfl <;> rfl
theorem wg_met {st : List EntX} {fav : List PkX} {p : Tx} {k : WorkX} {l : List NeedX} {j : Nat} (hj : j < l.length) (h : meetsP k.tree p l[j] = true) : workGo st fav p k (l.drop j) = workGo st fav p ⟨k.tree, k.list, k.gone ++ [⟨p, l[j]⟩]⟩ (l.drop (j + 1)) := by
  rw [List.drop_eq_getElem_cons hj, workGo, if_pos h]
theorem wg_lay {st : List EntX} {fav : List PkX} {p : Tx} {k : WorkX} {l : List NeedX} {j : Nat} (hj : j < l.length) (h : meetsP k.tree p l[j] = false) (h' : (layP st fav k p l[j]).2 = 0) :
    workGo st fav p k (l.drop j) = workGo st fav p ⟨(layP st fav k p l[j]).1.tree, (layP st fav k p l[j]).1.list, (layP st fav k p l[j]).1.gone ++ [⟨p, l[j]⟩]⟩ (l.drop (j + 1)) := by
  rw [List.drop_eq_getElem_cons hj, workGo, if_neg (by rw [h]; simp), if_pos h']
theorem wg_err {st : List EntX} {fav : List PkX} {p : Tx} {k : WorkX} {l : List NeedX} {j : Nat} (hj : j < l.length) (h : meetsP k.tree p l[j] = false) (h' : ¬ (layP st fav k p l[j]).2 = 0) :
    workGo st fav p k (l.drop j) = layP st fav k p l[j] := by
  rw [List.drop_eq_getElem_cons hj, workGo, if_neg (by rw [h]; simp), if_neg h']
theorem wg_end {st : List EntX} {fav : List PkX} {p : Tx} {k : WorkX} {l : List NeedX} {j : Nat} (hj : ¬ j < l.length) : workGo st fav p k (l.drop j) = (k, 0) := by
  rw [List.drop_of_length_le (by omega)]; rfl

attribute [local go_sem ↓] Go.wp_at_zero Go.wp_at_succ

set_option maxHeartbeats 4000000 in
theorem workAt_any (b B : Nat) (st : List EntX) (fav : List PkX) (k : WorkX) (x : WhX) (w : World) (hw : WorkAt w b B st fav k) (hB : B ≤ b) (hx : NeedsIn w x.needs x.nd) (hst : StOk st) (hfl : fav.length ≤ 1000) (hok : WOk k) (hxp : x.path.length ≤ 4 * k.tree.length) (hxn : x.nd.length ≤ 6) (hgl : k.gone.length ≤ 50000) :
    Calls Tryd.prog 90 #[.pointer (some ⟨b, 0, none⟩), whXV x] w fun e w' => e = .returned (.int .i64 (workGo st fav x.path k x.nd).2) ∧ Moves b B w w' ∧ WorkAt w' b B st fav (workGo st fav x.path k x.nd).1 := by
  obtain ⟨i0, hi, hz0, hz1, hz2⟩ := info_parts info_asX
  obtain ⟨xp, xv, xd⟩ := x
  simp only at hx hxp hxn
  obtain ⟨xa, xc, rfl⟩ := hx.1.form
  have hlt := hw.lt
  have HBz : Hid (B ≤ w.heap.size) := by unfold Hid; omega
  have hbw := (Below.refl w.heap.size w).alloc (Nat.le_refl _) (.cells #[.string (bs xp), .slice xa xd.length xc] 145)
  have HW := hid' (hw.below hbw)
  have HX := hid' (hx.below hbw)
  have HM0 := hid' (Moves.of_below (b := b) (B := B) hbw hlt HBz.out)
  have e0 : (w.alloc (.cells #[.string (bs xp), .slice xa xd.length xc] 145)).cell? ⟨w.heap.size, 0, none⟩ = some (.string (bs xp)) := by simp
  have hsz : (w.alloc (.cells #[.string (bs xp), .slice xa xd.length xc] 145)).heap.size = w.heap.size + 1 := by simp
  have HFR : Hid (Free (w.alloc (.cells #[.string (bs xp), .slice xa xd.length xc] 145)) b w.heap.size) := by
    obtain ⟨v3, c3, r3, _⟩ := hw.list
    obtain ⟨v4, c4, r4, _⟩ := hw.gone
    refine ⟨by simp, by omega, fun v hv e => ?_, fun v hv e => ?_⟩
    · rw [(bcell hbw).1 b 3 hlt, c3] at hv; simp at hv; subst hv; have := (r3.lt _ e).2; omega
    · rw [(bcell hbw).1 b 4 hlt, c4] at hv; simp at hv; subst hv; have := (r4.lt _ e).2; omega
  have HST := hid' hst
  have HOK := hid' hok
  clear hw hx hbw hok
  go_enter Tryd.func90, Tryd.ntmps90
  go_wp2
  generalize w.alloc (.cells #[.string (bs xp), .slice xa xd.length xc] 145) = W at *
  have HE0 := hid' e0
  have hWz : w.heap.size < W.heap.size := by omega
  clear e0 hsz
  go_loopw [11] (fun i wr => ∃ (j : Nat) (kk : WorkX), j ≤ xd.length ∧ i = .int .i64 j ∧ Hid (Moves b B W wr ∧ WorkAt wr b B st fav kk ∧ WOk kk ∧ k.tree.length ≤ kk.tree.length ∧ kk.gone.length ≤ k.gone.length + j ∧ workGo st fav xp k xd = workGo st fav xp kk (xd.drop j))) (fun i _ => xd.length - (intOf i).toNat)
  case atStart => exact ⟨0, k, Nat.zero_le _, rfl, Moves.refl _ _ _, HW.out, HOK.out, Nat.le_refl _, by omega, rfl⟩
  case round =>
    obtain ⟨j, kk, hj, rfl, hall⟩ := hrel
    obtain ⟨hmv, hwk, hok, htl, hgn, heq⟩ := hall.out
    have HMV := hid' hmv; have HWK := hid' hwk; have HOK2 := hid' hok; have HTL := hid' htl; have HGN := hid' hgn; have HEQ := hid' heq
    obtain ⟨hfr1, hfr2⟩ := hmv.free _ HFR.out
    have hwr := hfr2.1
    have ep : wr.cell? ⟨w.heap.size, 0, none⟩ = some (.string (bs xp)) := by rw [World.cell?_of_block (w := W) hfr1]; exact HE0.out
    have hXN := HX.out.moves HW.out hmv
    have HFR2 := hid' hfr2
    have hbr := hwk.lt
    clear hmv hwk hok htl hgn heq hfr1 hfr2 hall
    by_cases hlt2 : j < xd.length
    · obtain ⟨g, o, cap', hv, hg, hc⟩ := hXN.1.needs hlt2
      simp at hv
      obtain ⟨rfl, rfl⟩ := hv
      obtain ⟨c0, c1, c2⟩ := hc j hlt2
      have hni := hXN.2 xd[j] (List.getElem_mem hlt2)
      obtain ⟨na, nc, hnf⟩ := hni.form
      have hba := (Below.refl wr.heap.size wr).alloc (Nat.le_refl _) (.cells #[.string (bs xd[j].name), xd[j].sp, .string (bs xd[j].text)] 86)
      have HNI := hid' (hni.below hba)
      have HWB := hid' (HWK.out.below hba)
      have HMB := hid' (HMV.out.trans (Moves.of_below hba hbr (by omega)))
      have HFB := hid' ((Moves.of_below (b := b) (B := B) hba hbr (by omega)).free _ HFR2.out)
      have epb := ((bcell hba).1 w.heap.size 0 hwr).trans ep
      have G1 := hid' (wg_met (st := st) (fav := fav) (p := xp) (k := kk) hlt2)
      have G2 := hid' (wg_lay (st := st) (fav := fav) (p := xp) (k := kk) hlt2)
      have G3 := hid' (wg_err (st := st) (fav := fav) (p := xp) (k := kk) hlt2)
      clear hc hni hba hXN
      generalize xd[j] = y at *
      obtain ⟨yn, ysp, ys, yt⟩ := y
      simp only at hnf c0 c1 c2 HWB HNI HMB HFB epb
      subst hnf
      obtain ⟨v2, e2, r2⟩ := HWB.out.tree
      obtain ⟨ta, tc, rfl⟩ := r2.1.form
      have HR2 := hid' r2
      have HMT := hid' (fun w h hn => meets_any (.slice ta kk.tree.length tc) kk.tree (bs xp) ⟨yn, .slice na ys.length nc, ys, yt⟩ w h (by have := HOK2.out.tree; omega) (fun q hq => by have h1 := HOK2.out.tp q hq; have h2 := HOK2.out.tree; omega) (by rw [bs_size]; have h1 := HOK2.out.tree; have h2 := HTL.out; omega) hn)
      rw [tx_bs] at HMT
      have q0 : (wr.alloc (.cells #[.string (bs yn), .slice na ys.length nc, .string (bs yt)] 86)).cell? ⟨wr.heap.size, 0, none⟩ = some (.string (bs yn)) := by simp
      have q1 : (wr.alloc (.cells #[.string (bs yn), .slice na ys.length nc, .string (bs yt)] 86)).cell? ⟨wr.heap.size, 1, none⟩ = some (.slice na ys.length nc) := by simp
      have q2 : (wr.alloc (.cells #[.string (bs yn), .slice na ys.length nc, .string (bs yt)] 86)).cell? ⟨wr.heap.size, 2, none⟩ = some (.string (bs yt)) := by simp
      have hsz : (wr.alloc (.cells #[.string (bs yn), .slice na ys.length nc, .string (bs yt)] 86)).heap.size = wr.heap.size + 1 := by simp
      have htg : tagOf (wr.alloc (.cells #[.string (bs yn), .slice na ys.length nc, .string (bs yt)] 86)) wr.heap.size = some 86 := tag_new _ _ _
      clear r2
      go_wp2
      generalize wr.alloc (.cells #[.string (bs yn), .slice na ys.length nc, .string (bs yt)] 86) = V at *
      have hVw : w.heap.size < V.heap.size := by omega
      have hVr : wr.heap.size < V.heap.size := by omega
      have hVb : b < V.heap.size := by omega
      clear c0 c1 c2 hsz
      go_region_held3 (fun w' => w'.cell? ⟨b, 2, none⟩ = some (.slice ta kk.tree.length tc) ∧ w'.cell? ⟨w.heap.size, 0, none⟩ = some (.string (bs xp)) ∧ w'.cell? ⟨wr.heap.size, 0, none⟩ = some (.string (bs yn)) ∧ w'.cell? ⟨wr.heap.size, 1, none⟩ = some (.slice na ys.length nc) ∧ w'.cell? ⟨wr.heap.size, 2, none⟩ = some (.string (bs yt))) (go_keep)
        (first | (go_at_call 102; refine (HMT.out _ (by first | exact HR2.out | exact HR2.out.drew) (by first | exact HNI.out | exact HNI.out.drew)).mono ?_; rintro e w1 ⟨rfl, hb1⟩; have hy1 := (bcell hb1).1; simp at hy1))
      have hb1' := (Below.refl V.heap.size V).drew.trans (hb1.mono (by simp))
      have hcc := (bcell hb1').1
      have ep1 := (hcc w.heap.size 0 hVw).trans epb
      have p0 := (hcc wr.heap.size 0 hVr).trans q0
      have p1 := (hcc wr.heap.size 1 hVr).trans q1
      have p2 := (hcc wr.heap.size 2 hVr).trans q2
      have hz1q := hb1'.size
      have HW1 := hid' (HWB.out.below hb1')
      have HM1 := hid' (HMB.out.trans (Moves.of_below hb1' hVb (by omega)))
      have HN1 := hid' (HNI.out.below hb1')
      have HF1 := hid' ((Moves.of_below (b := b) (B := B) hb1' hVb (by omega)).free _ HFB.out.2).2
      have HF2 : Hid (Free w1 b wr.heap.size) := HW1.out.free (by omega) (by rw [tagOf_below hb1' hVr]; exact htg) (by decide) (by decide) (by decide)
      have hw1 : w.heap.size < w1.heap.size := by omega
      have hw1r : wr.heap.size < w1.heap.size := by omega
      clear hb1 hb1' hcc hy1 q0 q1 q2 epb htg HWB HMB HNI HFB HMT HR2 e2
      go_upto_if 23 with fail
      go_cut [7] (fun t wc => ∃ k2 : WorkX, Hid (Moves b B W wc ∧ WorkAt wc b B st fav k2 ∧ WOk k2 ∧ k.tree.length ≤ k2.tree.length ∧ k2.gone.length ≤ k.gone.length + j ∧ workGo st fav xp k xd = workGo st fav xp ⟨k2.tree, k2.list, k2.gone ++ [⟨xp, ⟨yn, .slice na ys.length nc, ys, yt⟩⟩]⟩ (xd.drop (j + 1)) ∧ NeedIn wc ⟨yn, .slice na ys.length nc, ys, yt⟩) ∧ w.heap.size < wc.heap.size ∧ wr.heap.size < wc.heap.size ∧ wc.cell? ⟨w.heap.size, 0, none⟩ = some (.string (bs xp)) ∧ wc.cell? ⟨wr.heap.size, 0, none⟩ = some (.string (bs yn)) ∧ wc.cell? ⟨wr.heap.size, 1, none⟩ = some (.slice na ys.length nc) ∧ wc.cell? ⟨wr.heap.size, 2, none⟩ = some (.string (bs yt)))
      case first =>
        have HLA := hid' (lay_any b B st fav kk (bs xp) ⟨yn, .slice na ys.length nc, ys, yt⟩ w1 HW1.out hB HN1.out (by have := HST.out.1; omega) hfl (by rw [bs_size]; have h1 := HOK2.out.tree; have h2 := HTL.out; omega) (by have := HOK2.out.tree; omega) (fun q hq => by have h1 := HOK2.out.tp q hq; have h2 := HOK2.out.tree; omega) (by have := HGN.out; omega) (fun q hq => by have := HOK2.out.gp q hq; omega) (by have h1 := HOK2.out.list; have h2 := HOK2.out.tree; omega))
        rw [tx_bs] at HLA
        have HLO := hid' (HOK2.out.lay (fav := fav) (n := ⟨yn, .slice na ys.length nc, ys, yt⟩) HST.out (show xp.length ≤ 4 * kk.tree.length by have := HTL.out; omega))
        rcases hmt : meetsP kk.tree xp ⟨yn, .slice na ys.length nc, ys, yt⟩ with _ | _
        · have G2' := hid' (G2.out hmt)
          have G3' := hid' (G3.out hmt)
          clear hmt G1 G2 G3
          generalize layP st fav kk xp ⟨yn, .slice na ys.length nc, ys, yt⟩ = lr at *
          obtain ⟨lk, le⟩ := lr
          simp only at HLA HLO G2' G3'
          go_wp2_with fail
          refine HLA.out.mono ?_
          rintro e w2 ⟨rfl, hm2, hwk2⟩
          obtain ⟨hfa, hfb⟩ := hm2.free _ HF1.out
          obtain ⟨hfc, hfd⟩ := hm2.free _ HF2.out
          have x0 : w2.cell? ⟨w.heap.size, 0, none⟩ = some (.string (bs xp)) := by rw [World.cell?_of_block (w := w1) hfa]; exact ep1
          have y0 : w2.cell? ⟨wr.heap.size, 0, none⟩ = some (.string (bs yn)) := by rw [World.cell?_of_block (w := w1) hfc]; exact p0
          have y1 : w2.cell? ⟨wr.heap.size, 1, none⟩ = some (.slice na ys.length nc) := by rw [World.cell?_of_block (w := w1) hfc]; exact p1
          have y2 : w2.cell? ⟨wr.heap.size, 2, none⟩ = some (.string (bs yt)) := by rw [World.cell?_of_block (w := w1) hfc]; exact p2
          have HM2 := hid' (HM1.out.trans hm2)
          have HN2 := hid' (HN1.out.moves HW1.out hm2)
          have HW2 := hid' hwk2
          have l1 := hfb.1
          have l2 := hfd.1
          by_cases hle : le = 0
          · subst hle
            have HE : Hid (workGo st fav xp k xd = workGo st fav xp ⟨lk.tree, lk.list, lk.gone ++ [⟨xp, ⟨yn, .slice na ys.length nc, ys, yt⟩⟩]⟩ (xd.drop (j + 1))) := by unfold Hid; rw [HEQ.out]; exact G2'.out (by first | rfl | trivial)
            have HG : Hid (lk.gone.length ≤ k.gone.length + j) := by unfold Hid; rw [HLO.out.2.2]; exact HGN.out
            clear G2' G3' hfa hfb hfc hfd hm2 hwk2
            go_wp2
            go_meet
            exact ⟨lk, ⟨HM2.out, HW2.out, HLO.out.1, Nat.le_trans HTL.out HLO.out.2.1, HG.out, HE.out, HN2.out⟩, l1, l2, x0, y0, y1, y2⟩
          · have HE : Hid (workGo st fav xp k xd = (lk, le)) := by unfold Hid; rw [HEQ.out]; exact G3'.out hle
            have hbn : (le == 0) = false := beq_eq_false_iff_ne.2 hle
            have hbn2 : (le != 0) = true := by simp [bne, hbn]
            clear G2' G3' hfa hfb hfc hfd hm2 hwk2
            go_wp2
            go_ret
            refine ⟨ret_int (by rw [HE.out]), HM0.out.trans HM2.out, ?_⟩
            rw [HE.out]; exact HW2.out
        · have HE : Hid (workGo st fav xp k xd = workGo st fav xp ⟨kk.tree, kk.list, kk.gone ++ [⟨xp, ⟨yn, .slice na ys.length nc, ys, yt⟩⟩]⟩ (xd.drop (j + 1))) := by unfold Hid; rw [HEQ.out]; exact G1.out hmt
          clear hmt G1 G2 G3 HLA HLO
          go_wp2
          go_meet
          exact ⟨kk, ⟨HM1.out, HW1.out, HOK2.out, HTL.out, HGN.out, HE.out, HN1.out⟩, hw1, hw1r, ep1, p0, p1, p2⟩
      case rest =>
        obtain ⟨k2, hh, l1, l2, x0, y0, y1, y2⟩ := hcut
        obtain ⟨hm2, hwk2, hok2, htl2, hgn2, heq2, hni2⟩ := hh.out
        have HM2 := hid' hm2; have HW2 := hid' hwk2; have HN2 := hid' hni2; have HOK3 := hid' hok2; have HTL2 := hid' htl2; have HGN2 := hid' hgn2; have HEQ2 := hid' heq2
        obtain ⟨v4, e4, r4, q4⟩ := hwk2.gone
        obtain ⟨ga, gc, rfl⟩ := own_slice r4
        have hf4 := hwk2.f4
        have hXb := hwk2.lt
        have hgl2 : k2.gone.length ≤ 60000 := by omega
        have HNB : Hid (∀ q, (Value.slice ga k2.gone.length gc).ownBlock = some q → q ≠ b) := fun q hq e => by
          have h1 := tag_of_own r4 hq
          rw [e, hwk2.tag] at h1
          exact absurd h1 (by decide)
        obtain ⟨X, rfl⟩ : ∃ X, X = wc := ⟨_, rfl⟩
        clear hh hm2 hwk2 hok2 htl2 hgn2 heq2 hni2 q4 HM1 HW1 HN1 HF1 HF2 ep1 p0 p1 p2 HMV HWK HOK2 HTL HGN HEQ HFR2 ep G1 G2 G3
        go_wp2
        have HOK4 := hid' (HOK3.out.gone (path := xp) (show xp.length ≤ 4 * k2.tree.length by have := HTL2.out; omega) ⟨yn, .slice na ys.length nc, ys, yt⟩)
        go_region_law (refine step_append_lies _ (by rfl) _ _ 141 (by rfl) B 164 i0 (.agg #[.string ByteArray.empty, .string ByteArray.empty, .slice none 0 0, .string ByteArray.empty]) 4 72 Tryd.underlying141 hi hz0 hz1 hz2 (by rfl) (by omega) _ _ _ (by rfl) (by first | exact (r4.alloc _).drew | exact r4.drew.alloc _) ⟨X.heap.size, 0, none⟩ 1 1 [.string (bs xp), .string (bs yn), .slice na ys.length nc, .string (bs yt)] (by rfl) (by rfl) (by first | exact news_4 _ _ _ _ _ _) (asX_one ⟨xp, ⟨yn, .slice na ys.length nc, ys, yt⟩⟩ rfl) (by omega) (by unfold maxLen; omega) (by omega) (by simp; omega) (X.heap.size + 1) (by simp) ?_; intro g1 cap1 w5 hown5 hgrow5 hat5 hlt5; have y3 := grow_far hgrow5 (b := b) (by simp; omega) HNB.out 4; have y4 := grow_far_f hgrow5 (b := b) (by simp; omega) HNB.out 4; simp [go_sem] at y3 y4)
        all_goals
          have R := WorkAt.pushGone (v := .slice ga k2.gone.length gc) (x := ⟨xp, ⟨yn, .slice na ys.length nc, ys, yt⟩⟩) (HW2.out.below (by first | exact ((Below.refl _ _).alloc (Nat.le_refl _) _).drew | exact (Below.refl _ _).drew.alloc (by simp) _)) hB ((Below.cell (w := X) (by first | exact ((Below.refl _ _).alloc (Nat.le_refl _) _).drew | exact (Below.refl _ _).drew.alloc (by simp) _) (p := ⟨b, 4, none⟩) hXb).trans e4) (HN2.out.below (by first | exact ((Below.refl _ _).alloc (Nat.le_refl _) _).drew | exact (Below.refl _ _).drew.alloc (by simp) _)) hown5 hgrow5 (hat5.imp id (fun h => by rw [h]; simp))
          have HR := hid' (And.intro R.1 ((HM2.out.trans (Moves.of_below (by first | exact ((Below.refl _ _).alloc (Nat.le_refl _) _).drew | exact (Below.refl _ _).drew.alloc (by simp) _) hXb (by omega))).trans R.2))
          clear R hown5 hgrow5 hat5
          go_wp2
          go_roundw
          case rel => exact ⟨j + 1, ⟨k2.tree, k2.list, k2.gone ++ [⟨xp, ⟨yn, .slice na ys.length nc, ys, yt⟩⟩]⟩, by omega, by go_num, HR.out.2, HR.out.1, HOK4.out, HTL2.out, by have := HGN2.out; simp; omega, HEQ2.out⟩
          case measure => simp [intOf] <;> omega
    · have HF : Hid (workGo st fav xp k xd = (kk, 0)) := by unfold Hid; rw [HEQ.out, wg_end hlt2]
      go_wp2
      go_ret
      refine ⟨ret_int (by rw [HF.out]), HM0.out.trans HMV.out, ?_⟩
      rw [HF.out]; exact HWK.out

end Hst
end Go.Proofs.YtecocheolbkneaaDoor
