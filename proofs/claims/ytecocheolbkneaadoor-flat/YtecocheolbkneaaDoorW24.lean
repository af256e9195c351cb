/- Psite, Psiteb, Psitec, Ptext, Ptextb, Mtexts, Plook, Mlook -/
import Derived.Test.YtecocheolbkneaaDoorW23
import Derived.Test.YtecocheolbkneaaDoorW14
import Derived.Test.YtecocheolbkneaaDoorW12
import Derived.Test.YtecocheolbkneaaDoorW08
import Derived.Test.YtecocheolbkneaaDoorW01
namespace Go.Proofs.YtecocheolbkneaaDoor
open Go.RowKit
namespace Hst
set_option maxRecDepth 100000

structure SAt (w : World) (b : Nat) (s : SiteX) : Prop where
  lt : b < w.heap.size
  tag : tagOf w b = some 98
  stock : ∃ v, w.cell? ⟨b, 0, none⟩ = some v ∧ EntsIn w v s.stock
  needs : w.cell? ⟨b, 1, none⟩ = some s.nv ∧ NeedsIn w s.nv s.needs
  tree : ∃ v, w.cell? ⟨b, 2, none⟩ = some v ∧ PksIn w v s.tree
  f1 : w.frozen? ⟨b, 1, none⟩ = false
  f2 : w.frozen? ⟨b, 2, none⟩ = false
theorem SAt.below {w w' : World} {b : Nat} {s : SiteX} (h : SAt w b s) (hb : Below w.heap.size w w') : SAt w' b s := by
  obtain ⟨hc, hf⟩ := bcell hb
  obtain ⟨v0, e0, r0⟩ := h.stock
  obtain ⟨e1, r1⟩ := h.needs
  obtain ⟨v2, e2, r2⟩ := h.tree
  exact ⟨Nat.lt_of_lt_of_le h.lt hb.size, by rw [tagOf_below hb h.lt]; exact h.tag, ⟨v0, by rw [hc _ _ h.lt]; exact e0, r0.below hb⟩, ⟨by rw [hc _ _ h.lt]; exact e1, r1.below hb⟩, ⟨v2, by rw [hc _ _ h.lt]; exact e2, r2.below hb⟩, by rw [hf _ _ h.lt]; exact h.f1, by rw [hf _ _ h.lt]; exact h.f2⟩
/-- A site stays as it is while a block of another type is changed. -/
theorem SAt.keep {w w' : World} {b c : Nat} {s : SiteX} (h : SAt w b s) (hm : But c w w') (hne : b ≠ c) {t : TypeId} (ht : tagOf w c = some t) (h1 : t ≠ 86) (h2 : t ≠ 106) (h3 : t ≠ 128) (h4 : t ≠ 130) : SAt w' b s := by
  obtain ⟨v0, e0, r0⟩ := h.stock
  obtain ⟨e1, r1⟩ := h.needs
  obtain ⟨v2, e2, r2⟩ := h.tree
  exact ⟨Nat.lt_of_lt_of_le h.lt hm.size, by rw [hm.tags h.lt]; exact h.tag, ⟨v0, by rw [hm.cell h.lt hne]; exact e0, r0.off hm ht h1 h2 h3⟩, ⟨by rw [hm.cell h.lt hne]; exact e1, r1.off hm (odd_of ht h1 h2)⟩, ⟨v2, by rw [hm.cell h.lt hne]; exact e2, r2.off hm ht h1 h2 h4⟩, by rw [hm.froz h.lt hne]; exact h.f1, by rw [hm.froz h.lt hne]; exact h.f2⟩
/-- The site with other needs and another tree. -/
theorem SAt.set {w : World} {b : Nat} {s : SiteX} (h : SAt w b s) {nv tv : Value} {nd : List NeedX} {t : List PkX} (hn : NeedsIn w nv nd) (ht : PksIn w tv t) :
    SAt ((w.setCell ⟨b, 1, none⟩ nv).setCell ⟨b, 2, none⟩ tv) b ⟨s.stock, nd, nv, t⟩ := by
  have hbut := (But.set w b 1 nv).trans (But.set _ b 2 tv)
  obtain ⟨v0, e0, r0⟩ := h.stock
  obtain ⟨e1, r1⟩ := h.needs
  obtain ⟨v2, e2, r2⟩ := h.tree
  have f1 := h.f1; have f2 := h.f2
  have g0 : ((w.setCell ⟨b, 1, none⟩ nv).setCell ⟨b, 2, none⟩ tv).cell? ⟨b, 0, none⟩ = some v0 := by simp [go_sem, *]
  have g1 : ((w.setCell ⟨b, 1, none⟩ nv).setCell ⟨b, 2, none⟩ tv).cell? ⟨b, 1, none⟩ = some nv := by simp [go_sem, *]
  have g2 : ((w.setCell ⟨b, 1, none⟩ nv).setCell ⟨b, 2, none⟩ tv).cell? ⟨b, 2, none⟩ = some tv := by simp [go_sem, *]
  exact ⟨by simpa using h.lt, by rw [tag_set, tag_set]; exact h.tag, ⟨v0, g0, r0.off hbut h.tag (by decide) (by decide) (by decide)⟩, ⟨g1, hn.off hbut (odd_of h.tag (by decide) (by decide))⟩, ⟨tv, g2, ht.off hbut h.tag (by decide) (by decide) (by decide)⟩, by simp [go_sem, *], by simp [go_sem, *]⟩
theorem buildP_two (st : List EntX) (v : Value) (nd : List NeedX) (fav : List PkX) : (∃ e, ¬ e = 0 ∧ buildP st v nd fav = (none, e)) ∨ ∃ t, buildP st v nd fav = (some t, 0) := by
  unfold buildP
  rcases buildGoP st fav 60 0 ⟨[], [⟨[], v, nd⟩], []⟩ with ⟨k, e⟩
  by_cases h : e = 0
  · exact .inr ⟨_, by simp only; rw [if_pos h]⟩
  · exact .inl ⟨e, h, by simp only; rw [if_neg h]⟩

attribute [local go_sem ↓] Go.wp_at_zero Go.wp_at_succ

set_option maxHeartbeats 4000000 in
theorem sbuild_any (b : Nat) (s : SiteX) (nv : Value) (nd : List NeedX) (fv : Value) (fav : List PkX) (w : World) (hs : SAt w b s) (hn : NeedsIn w nv nd) (hf : PksIn w fv fav) (hst : StOk s.stock) (hnl : nd.length ≤ 6) (hfl : fav.length ≤ 1000) :
    Calls Tryd.prog 51 #[.pointer (some ⟨b, 0, none⟩), nv, .agg #[fv]] w fun e w' => e = .returned (.int .i64 (buildP s.stock nv nd fav).2) ∧ SMv b w w' ∧ SAt w' b (settleX s nv nd (buildP s.stock nv nd fav).1) := by
  obtain ⟨na, nc, rfl⟩ := hn.1.form
  obtain ⟨fa, fc, rfl⟩ := hf.1.form
  obtain ⟨v0, e0, r0⟩ := hs.stock
  obtain ⟨sa, sc, rfl⟩ := r0.1.form
  have hlt := hs.lt
  have HBD := hid' (fun w h1 h2 h3 => build_any' (.slice sa s.stock.length sc) (.slice na nd.length nc) (.slice fa fav.length fc) s.stock nd fav w h1 h2 h3 hst hnl hfl)
  have HTW := hid' (buildP_two s.stock (.slice na nd.length nc) nd fav)
  generalize buildP s.stock (.slice na nd.length nc) nd fav = res at *
  have hbw := (Below.refl w.heap.size w).alloc (Nat.le_refl _) (.cells #[.slice fa fav.length fc] 96)
  have HS1 := hid' (hs.below hbw)
  have HN1 := hid' (hn.below hbw)
  have HF1 := hid' (hf.below hbw)
  have HR1 := hid' (r0.below hbw)
  have HBW := hid' hbw
  have q0 : (w.alloc (.cells #[.slice fa fav.length fc] 96)).cell? ⟨w.heap.size, 0, none⟩ = some (.slice fa fav.length fc) := by simp
  have q1 := ((bcell hbw).1 b 0 hlt).trans e0
  have hsz : (w.alloc (.cells #[.slice fa fav.length fc] 96)).heap.size = w.heap.size + 1 := by simp
  clear hs hn hf e0 r0 hbw
  go_enter Tryd.func51, Tryd.ntmps51
  go_wp2
  generalize w.alloc (.cells #[.slice fa fav.length fc] 96) = V at *
  have hVw : w.heap.size < V.heap.size := by omega
  have hVb : b < V.heap.size := by omega
  have hVw2 : w.heap.size < V.heap.size + 1 := by omega
  have hVb2 : b < V.heap.size + 1 := by omega
  have n1 : b ≠ V.heap.size := by omega
  have n2 : w.heap.size ≠ V.heap.size := by omega
  have n3 : V.heap.size ≠ b := by omega
  have n4 : V.heap.size ≠ w.heap.size := by omega
  clear hsz
  go_cut [7, 8] (fun t8 t9 wc => ∃ (c : Nat) (ra : Option Addr) (rn rc : Nat), t8 = .pointer (some ⟨c, 0, none⟩) ∧ t9 = .int .i64 res.2 ∧ c < wc.heap.size ∧ c ≠ b ∧ wc.cell? ⟨c, 0, none⟩ = some (.slice ra rn rc) ∧ Below V.heap.size V wc ∧ Hid (∀ t, res.1 = some t → PksIn wc (.slice ra rn rc) t))
  case first =>
    go_region_held3 (fun w' => w'.cell? ⟨b, 0, none⟩ = some (.slice sa s.stock.length sc) ∧ w'.cell? ⟨w.heap.size, 0, none⟩ = some (.slice fa fav.length fc)) (go_keep)
      (first | (go_at_call 80; refine (HBD.out _ (by first | exact HR1.out.drew | exact HR1.out.below ((Below.refl _ _).alloc (Nat.le_refl _) _).drew) (by first | exact HN1.out.below (Below.refl _ _).drew | exact HN1.out.below ((Below.refl _ _).alloc (Nat.le_refl _) _).drew) (by first | exact HF1.out.drew | exact HF1.out.below ((Below.refl _ _).alloc (Nat.le_refl _) _).drew)).mono ?_; rintro e w2 ⟨ra, rn, rc, rfl, hb2, hin2⟩; have hz2 := (bcell hb2).1; have hz3 := (bcell hb2).2; simp at hz2 hz3))
    · have hb2' := ((Below.refl V.heap.size V).drew.trans (hb2.mono (by simp))).alloc (by have := hb2.size; simpa using this) (.cells #[.slice ra rn rc] 96)
      have hin3 : Hid (∀ t, res.1 = some t → PksIn (w2.alloc (.cells #[.slice ra rn rc] 96)) (.slice ra rn rc) t) := fun t ht => (hin2 t ht).below ((Below.refl _ _).alloc (Nat.le_refl _) _)
      have hzz : V.heap.size ≤ w2.heap.size := by have := hb2.size; simpa using this
      go_wp2_with fail
      go_meet
      exact ⟨w2.heap.size, ra, rn, rc, rfl, rfl, by simp, by omega, by simp, hb2', hin3⟩
    · have hb2' := ((((Below.refl V.heap.size V).alloc (Nat.le_refl _) (.cells #[.slice none 0 0] 96)).drew.trans (hb2.mono (by simp))).setCell (p := ⟨V.heap.size, 0, none⟩) (Nat.le_refl _) (.slice ra rn rc))
      have htg : tagOf w2 V.heap.size = some 96 := by
        rw [tagOf_below hb2 (by simp)]
        exact tag_new V #[.slice none 0 0] 96
      have hin3 : Hid (∀ t, res.1 = some t → PksIn (w2.setCell ⟨V.heap.size, 0, none⟩ (.slice ra rn rc)) (.slice ra rn rc) t) := fun t ht => (hin2 t ht).off (But.set w2 V.heap.size 0 (.slice ra rn rc)) htg (by decide) (by decide) (by decide)
      have HZ : Hid (V.heap.size < w2.heap.size) := by unfold Hid; have := hb2.size; simp at this; omega
      have hc0 := hz2 V.heap.size 0 (by omega)
      simp at hc0
      go_wp2_with fail
      go_meet
      exact ⟨V.heap.size, ra, rn, rc, rfl, rfl, by simpa using HZ.out, by omega, by simp [go_sem, hc0], hb2', hin3⟩
  case rest =>
    obtain ⟨c, ra, rn, rc, rfl, rfl, hc1, hc2, hc3, hb2, HIN⟩ := hcut
    have HS2 := hid' (HS1.out.below hb2)
    have HN2 := hid' (HN1.out.below hb2)
    have HM2 := hid' (SMv.of_below (b := b) (HBW.out.trans (hb2.mono (by omega))))
    have hz2 := hb2.size
    have hbc := HS2.out.lt
    obtain ⟨v2, t2, _⟩ := HS2.out.tree
    have t1 := HS2.out.needs.1
    have f1 := HS2.out.f1
    have f2 := HS2.out.f2
    clear hb2
    rcases HTW.out with ⟨e, he, hres⟩ | ⟨t, hres⟩
    · have HR := hid' hres
      rw [hres]
      clear hres HTW
      simp only
      have hbn : (e == 0) = false := beq_eq_false_iff_ne.2 he
      have hbn2 : (e != 0) = true := by simp [bne, hbn]
      go_wp2
      go_ret
      refine ⟨ret_int (by rw [HR.out]), HM2.out, ?_⟩
      rw [HR.out]; exact HS2.out
    · have HR := hid' hres
      have HTI := hid' (HIN.out t (by rw [hres]))
      rw [hres]
      clear hres HTW HIN
      simp only
      have HSS := hid' (HS2.out.set HN2.out HTI.out)
      have hcb : c ≠ b := hc2
      have hbc2 : b ≠ c := fun h => hc2 h.symm
      go_wp2
      go_ret
      refine ⟨ret_int (by rw [HR.out]), HM2.out.trans ((SMv.set _ b 1 _).trans (SMv.set _ b 2 _)), ?_⟩
      rw [HR.out]; exact HSS.out

end Hst
end Go.Proofs.YtecocheolbkneaaDoor
namespace Go.Proofs.YtecocheolbkneaaDoor
open Go.RowKit
namespace Hst
set_option maxRecDepth 100000

/-- What New answers. -/
def NewAns (l : Tx) (k : Int) (p : Option Addr) (base : Nat) (w' : World) : Prop :=
  (4000 < l.length ∧ k = 4 ∧ p = none) ∨ (l.length ≤ 4000 ∧ stockOkP l = false ∧ k = 5 ∧ p = none) ∨
  (l.length ≤ 4000 ∧ stockOkP l = true ∧ ∃ es, StockOf l es ∧ es.length ≤ 40 ∧ ((twGo [] es = true ∧ k = 6 ∧ p = none) ∨ (twGo [] es = false ∧ k = 0 ∧ ∃ b, p = some ⟨b, 0, none⟩ ∧ base ≤ b ∧ SAt w' b ⟨es, [], .slice none 0 0, []⟩ ∧ ∀ e ∈ es, e.name.length ≤ 3 ∧ e.nd.length ≤ 6)))

set_option maxHeartbeats 2000000 in
theorem new_any' (s : ByteArray) (w : World) :
    Calls Tryd.prog 44 #[.string s] w fun e w' => ∃ p k, e = .returned (.tuple #[.pointer p, .int .i64 k]) ∧ Below w.heap.size w w' ∧ NewAns (tx s) k p w.heap.size w' := by
  go_enter Tryd.func44, Tryd.ntmps44
  go_wp2_with fail
  refine (sparse_any s _).mono ?_
  rintro e w1 ⟨a, n, c, k, rfl, hb1, hans⟩
  have HB1 := hid' hb1
  have hz1 := hb1.size
  clear hb1
  rcases hans with ⟨h1, rfl⟩ | ⟨h1, h2, rfl⟩ | ⟨h1, h2, es, h3, h4, ⟨h5, rfl⟩ | ⟨h5, rfl, h6⟩⟩
  · have H := hid' (show NewAns (tx s) 4 none w.heap.size (w1.alloc (.cells #[.slice a n c] 93)) from .inl ⟨h1, rfl, rfl⟩)
    clear h1
    go_wp2
    go_ret2
    exact ⟨none, 4, rfl, HB1.out.alloc (by omega) _, H.out⟩
  · have H := hid' (show NewAns (tx s) 5 none w.heap.size (w1.alloc (.cells #[.slice a n c] 93)) from .inr (.inl ⟨h1, h2, rfl, rfl⟩))
    clear h1 h2
    go_wp2
    go_ret2
    exact ⟨none, 5, rfl, HB1.out.alloc (by omega) _, H.out⟩
  · have H := hid' (show NewAns (tx s) 6 none w.heap.size (w1.alloc (.cells #[.slice a n c] 93)) from .inr (.inr ⟨h1, h2, es, h3, h4, .inl ⟨h5, rfl, rfl⟩⟩))
    clear h1 h2 h3 h4 h5
    go_wp2
    go_ret2
    exact ⟨none, 6, rfl, HB1.out.alloc (by omega) _, H.out⟩
  · have HH := hid' (And.intro h1 (And.intro h2 (And.intro h3 (And.intro h4 h5))))
    have hba := ((Below.refl w1.heap.size w1).alloc (Nat.le_refl _) (.cells #[.slice a n c] 93)).alloc (by simp) (.cells #[.slice a n c, .slice none 0 0, .slice none 0 0] 98)
    have HE := hid' (h6.below hba)
    have HBA := hid' (HB1.out.trans (hba.mono hz1))
    clear h1 h2 h3 h4 h5 h6 hba
    go_wp2
    go_ret2
    refine ⟨some ⟨w1.heap.size + 1, 0, none⟩, 0, rfl, HBA.out, .inr (.inr ⟨HH.out.1, HH.out.2.1, es, HH.out.2.2.1, HH.out.2.2.2.1, .inr ⟨HH.out.2.2.2.2, rfl, w1.heap.size + 1, rfl, by omega, ⟨by simp, ?_, ⟨_, by simp [go_sem], HE.out⟩, ⟨by simp [go_sem], RowX.nil _ _ _ _, by simp⟩, ⟨.slice none 0 0, by simp [go_sem], RowX.nil _ _ _ _, by simp⟩, by simp [go_sem], by simp [go_sem]⟩, fun e he => ⟨(HE.out.2 e he).2.2.1, (HE.out.2 e he).2.1⟩⟩⟩)⟩
    have := tag_new (w1.alloc (.cells #[.slice a n c] 93)) #[.slice a n c, .slice none 0 0, .slice none 0 0] 98
    simpa using this

/-- What keeps a site within its bounds. -/
structure SOk (s : SiteX) : Prop where
  st : StOk s.stock
  nd : s.needs.length ≤ 6
  tr : s.tree.length ≤ 1000

set_option maxHeartbeats 2000000 in
theorem update_any' (b : Nat) (s : SiteX) (w : World) (hs : SAt w b s) (hok : SOk s) :
    Calls Tryd.prog 26 #[.pointer (some ⟨b, 0, none⟩)] w fun e w' => e = .returned (.int .i64 (buildP s.stock s.nv s.needs []).2) ∧ SMv b w w' ∧ SAt w' b (settleX s s.nv s.needs (buildP s.stock s.nv s.needs []).1) := by
  obtain ⟨e1, r1⟩ := hs.needs
  have hlt := hs.lt
  have hba := (Below.refl w.heap.size w).alloc (Nat.le_refl _) (.cells #[.slice none 0 0] 96)
  have HB := hid' (sbuild_any b s s.nv s.needs (.slice none 0 0) [] _ (hs.below hba) (r1.below hba) ⟨RowX.nil _ _ _ _, by simp⟩ hok.st hok.nd (by simp))
  have HM := hid' (SMv.of_below (b := b) hba)
  clear hs r1 hok hba
  obtain ⟨st, nd, nv, tr⟩ := s
  simp only at e1 HB
  generalize buildP st nv nd [] = res at *
  go_enter Tryd.func26, Tryd.ntmps26
  go_wp2_with fail
  refine HB.out.mono ?_
  rintro e w1 ⟨rfl, hm, hs1⟩
  have HR := hid' (And.intro (HM.out.trans hm) hs1)
  clear hm hs1
  go_wp2
  go_ret
  exact ⟨rfl, HR.out.1, HR.out.2⟩

/-- What Drop does. -/
def DropAns (s : SiteX) (name : Tx) (k : Int) (b : Nat) (w' : World) : Prop :=
  (hasN s.needs name = false ∧ k = 3 ∧ SAt w' b s) ∨
  (hasN s.needs name = true ∧ ∃ nv, k = (buildP s.stock nv (withoutN s.needs name) s.tree).2 ∧ SAt w' b (settleX s nv (withoutN s.needs name) (buildP s.stock nv (withoutN s.needs name) s.tree).1))
theorem withoutN_len (l : List NeedX) (name : Tx) : (withoutN l name).length ≤ l.length := List.length_filter_le _ _

end Hst
end Go.Proofs.YtecocheolbkneaaDoor
namespace Go.Proofs.YtecocheolbkneaaDoor
open Go.RowKit
namespace Hst
set_option maxRecDepth 100000

/-- What Add does. -/
def AddAns (s : SiteX) (l : Tx) (k : Int) (b : Nat) (w' : World) : Prop :=
  (needOkP l = false ∧ k = 5 ∧ SAt w' b s) ∨
  (∃ x, NeedOf l x ∧ ((6 ≤ (withoutN s.needs x.name).length ∧ k = 7 ∧ SAt w' b s) ∨
    (¬ 6 ≤ (withoutN s.needs x.name).length ∧ ∃ nv, k = (buildP s.stock nv (withN (withoutN s.needs x.name) x) s.tree).2 ∧ SAt w' b (settleX s nv (withN (withoutN s.needs x.name) x) (buildP s.stock nv (withN (withoutN s.needs x.name) x) s.tree).1))))

attribute [local go_sem ↓] Go.wp_at_zero Go.wp_at_succ

set_option maxHeartbeats 4000000 in
theorem add_any' (b : Nat) (s : SiteX) (p : ByteArray) (w : World) (hs : SAt w b s) (hok : SOk s) (hp : p.size ≤ 9223372036854775807) :
    Calls Tryd.prog 23 #[.pointer (some ⟨b, 0, none⟩), .string p] w fun e w' => ∃ k, e = .returned (.int .i64 k) ∧ SMv b w w' ∧ AddAns s (tx p) k b w' := by
  have HS := hid' hs
  have hlt := hs.lt
  have HOK := hid' hok
  have HAA : Hid (∀ k w', AddAns s (tx p) k b w' = ((needOkP (tx p) = false ∧ k = 5 ∧ SAt w' b s) ∨ (∃ x, NeedOf (tx p) x ∧ ((6 ≤ (withoutN s.needs x.name).length ∧ k = 7 ∧ SAt w' b s) ∨ (¬ 6 ≤ (withoutN s.needs x.name).length ∧ ∃ nv, k = (buildP s.stock nv (withN (withoutN s.needs x.name) x) s.tree).2 ∧ SAt w' b (settleX s nv (withN (withoutN s.needs x.name) x) (buildP s.stock nv (withN (withoutN s.needs x.name) x) s.tree).1)))))) := fun _ _ => rfl
  clear hs hok
  go_enter Tryd.func23, Tryd.ntmps23
  go_wp2_with fail
  refine (nparse_any p _ hp).mono ?_
  rintro e w1 ⟨x, rfl, hb1, ⟨xa, xn', xc, hxf⟩, hx⟩
  have HS1 := hid' (HS.out.below hb1)
  have HM1 := hid' (SMv.of_below (b := b) hb1)
  clear hb1
  rcases hok : needOkP (tx p) with _ | _
  · have HF := hid' hok
    obtain ⟨xn, xsp, xs, xt⟩ := x
    simp only at hxf
    subst hxf
    have hba := (Below.refl w1.heap.size w1).alloc (Nat.le_refl _) (.cells #[.string (bs xn), .slice xa xn' xc, .string (bs xt)] 86)
    have HS2 := hid' (HS1.out.below hba)
    have HM2 := hid' (HM1.out.trans (SMv.of_below (b := b) hba))
    clear hx hok hba
    go_wp2
    go_ret
    exact ⟨5, rfl, HM2.out, by rw [HAA.out]; exact .inl ⟨HF.out, rfl, HS2.out⟩⟩
  · obtain ⟨hx1, hx2⟩ := hx hok
    have HX1 := hid' hx1
    have hnm := hx2.nm
    obtain ⟨xn, xsp, xs, xt⟩ := x
    simp only at hxf hnm
    subst hxf
    have hba := (Below.refl w1.heap.size w1).alloc (Nat.le_refl _) (.cells #[.string (bs xn), .slice xa xn' xc, .string (bs xt)] 86)
    have HS2 := hid' (HS1.out.below hba)
    have HM2 := hid' (HM1.out.trans (SMv.of_below (b := b) hba))
    have HX2 := hid' (hx2.below hba)
    have HWN := hid' (fun w h => withoutN_any s.nv s.needs (bs xn) w h (by have := HOK.out.nd; omega))
    rw [tx_bs] at HWN
    obtain ⟨e1, r1⟩ := HS2.out.needs
    obtain ⟨na, nc, hnf⟩ := r1.1.form
    rw [hnf] at e1 r1 HWN
    have HR1 := hid' r1
    have q0 : (w1.alloc (.cells #[.string (bs xn), .slice xa xn' xc, .string (bs xt)] 86)).cell? ⟨w1.heap.size, 0, none⟩ = some (.string (bs xn)) := by simp
    have q1 : (w1.alloc (.cells #[.string (bs xn), .slice xa xn' xc, .string (bs xt)] 86)).cell? ⟨w1.heap.size, 1, none⟩ = some (.slice xa xn' xc) := by simp
    have q2 : (w1.alloc (.cells #[.string (bs xn), .slice xa xn' xc, .string (bs xt)] 86)).cell? ⟨w1.heap.size, 2, none⟩ = some (.string (bs xt)) := by simp
    have hsz : (w1.alloc (.cells #[.string (bs xn), .slice xa xn' xc, .string (bs xt)] 86)).heap.size = w1.heap.size + 1 := by simp
    have hb2 := HS2.out.lt
    clear hx hx1 hx2 hba hok r1 hnf
    go_wp2
    generalize w1.alloc (.cells #[.string (bs xn), .slice xa xn' xc, .string (bs xt)] 86) = V at *
    have hV1 : w1.heap.size < V.heap.size := by omega
    clear hsz
    go_region_held3 (fun w' => w'.cell? ⟨b, 1, none⟩ = some (.slice na s.needs.length nc) ∧ w'.cell? ⟨w1.heap.size, 0, none⟩ = some (.string (bs xn))) (go_keep)
      (first | (go_at_call 49; refine (HWN.out _ (by first | exact HR1.out | exact HR1.out.below (Below.refl _ _).drew)).mono ?_; rintro e w2 ⟨v2, rfl, hin2, hb2'⟩; obtain ⟨oa, oc, rfl⟩ := hin2.1.form; have hz2 := (bcell hb2').1; simp at hz2))
    have hb3 := (Below.refl V.heap.size V).drew.trans (hb2'.mono (by simp))
    have HS3 := hid' (HS2.out.below hb3)
    have HM3 := hid' (HM2.out.trans (SMv.of_below (b := b) hb3))
    have HX3 := hid' (HX2.out.below hb3)
    have hcc := (bcell hb3).1
    have p0 := (hcc w1.heap.size 0 hV1).trans q0
    have p1 := (hcc w1.heap.size 1 hV1).trans q1
    have p2 := (hcc w1.heap.size 2 hV1).trans q2
    have h12 : w1.heap.size < w2.heap.size := by have := hb3.size; omega
    have HI2 := hid' hin2
    have hb2s := HS3.out.lt
    clear hb2' hb3 hcc hz2 hin2 q0 q1 q2 e1 HR1
    by_cases h6 : 6 ≤ (withoutN s.needs xn).length
    · have h6' : (6 : Int) ≤ ((withoutN s.needs xn).length : Int) := by omega
      have H6 := hid' h6
      go_wp2
      go_ret
      exact ⟨7, rfl, HM3.out, by rw [HAA.out]; exact .inr ⟨_, HX1.out, .inl ⟨H6.out, rfl, HS3.out⟩⟩⟩
    · have h6' : ¬ (6 : Int) ≤ ((withoutN s.needs xn).length : Int) := by omega
      have H6 := hid' h6
      have HWI := hid' (withN_any (.slice oa (withoutN s.needs xn).length oc) (withoutN s.needs xn) ⟨xn, .slice xa xn' xc, xs, xt⟩ w2 HI2.out HX3.out (by omega))
      have hwl := withN_len (withoutN s.needs xn) ⟨xn, .slice xa xn' xc, xs, xt⟩
      go_wp2_with fail
      refine HWI.out.mono ?_
      rintro e w3 ⟨v3, rfl, hin3, hb3⟩
      have HS4 := hid' (HS3.out.below hb3)
      have HM4 := hid' (HM3.out.trans (SMv.of_below (b := b) hb3))
      obtain ⟨tv, t2, rt⟩ := HS4.out.tree
      obtain ⟨ta, tc, rfl⟩ := rt.1.form
      have hba := (Below.refl w3.heap.size w3).alloc (Nat.le_refl _) (.cells #[.slice ta s.tree.length tc] 96)
      have HB := hid' (sbuild_any b s v3 (withN (withoutN s.needs xn) ⟨xn, .slice xa xn' xc, xs, xt⟩) (.slice ta s.tree.length tc) s.tree _ (HS4.out.below hba) (hin3.below hba) (rt.below hba) HOK.out.st (by omega) HOK.out.tr)
      have HM5 := hid' (HM4.out.trans (SMv.of_below (b := b) hba))
      have hb4 := HS4.out.lt
      clear hb3 hin3 rt hba hwl p0 p1 p2
      go_wp2_with fail
      refine HB.out.mono ?_
      rintro e w4 ⟨rfl, hm, hs4⟩
      have HR := hid' (And.intro (HM5.out.trans hm) hs4)
      clear hm hs4
      go_wp2
      go_ret
      exact ⟨_, rfl, HR.out.1, by rw [HAA.out]; exact .inr ⟨_, HX1.out, .inr ⟨H6.out, v3, rfl, HR.out.2⟩⟩⟩

end Hst
end Go.Proofs.YtecocheolbkneaaDoor
namespace Go.Proofs.YtecocheolbkneaaDoor
open Go.RowKit
namespace Hst
set_option maxRecDepth 100000

theorem strs_snoc' (d : List Tx) (p : Tx) : (d ++ [p]).flatMap strC = d.flatMap strC ++ [Value.string (bs p)] := by simp [strC]

set_option maxHeartbeats 2000000 in
theorem ntext_any (v : Value) (l : List NeedX) (w : World) (hl : NeedsIn w v l) (hn : l.length ≤ 1000) :
    Calls Tryd.prog 73 #[v] w fun e w' => e = .returned (.string (bs (needsT l))) ∧ Below w.heap.size w w' := by
  obtain ⟨i0, hi, iz0, iz1, iz2⟩ := info_parts info_str
  obtain ⟨a, cap, rfl⟩ := hl.1.form
  have HL := hid' hl
  have HNT : Hid (needsT l = joinT [44] (l.map fun n => n.text)) := rfl
  clear hl
  go_enter Tryd.func73, Tryd.ntmps73
  go_wp2
  go_loopw [3, 8] (fun v i wr => ∃ (k : Nat) (d : List Tx), k ≤ l.length ∧ d.length ≤ k ∧ i = .int .i64 k ∧ wr.ownsRow w.heap.size 9 1 v d.length (d.flatMap strC) ∧ Below w.heap.size w wr ∧ Hid (d = (l.take k).map fun n => n.text)) (fun _ i _ => l.length - (intOf i).toNat)
  case atStart => exact ⟨0, [], Nat.zero_le _, by simp, rfl, World.ownsRow_nil _ _ _ _, Below.refl _ _, by simp [Hid]⟩
  case round =>
    obtain ⟨k, d, hk, hd, rfl, hown, hbel, hall⟩ := hrel
    have hz := hbel.size
    by_cases hlt : k < l.length
    · obtain ⟨g, o, cap', hv, hg, hc⟩ := (HL.out.below hbel).1.needs hlt
      simp at hv
      obtain ⟨rfl, rfl⟩ := hv
      obtain ⟨c0, c1, c2⟩ := hc k hlt
      obtain ⟨sa, sc, hsp⟩ := (HL.out.2 l[k] (List.getElem_mem hlt)).form
      have HF : Hid (d ++ [l[k].text] = (l.take (k + 1)).map fun n => n.text) := by unfold Hid; rw [hall.out, List.take_succ_eq_append_getElem hlt, List.map_append]; rfl
      clear hc hall
      generalize l[k] = x at *
      obtain ⟨xn, xsp, xs, xt⟩ := x
      simp only at hsp c0 c1 c2 HF
      subst hsp
      go_wp2_with (first | (at_builtin; refine wpList_append_lies _ rfl _ _ 35 rfl w.heap.size 9 i0 (.string ByteArray.empty) 1 16 Tryd.underlying35 hi iz0 iz1 iz2 rfl (by omega) _ _ _ rfl ((hown.alloc _).alloc _) ⟨wr.heap.size + 1, 0, none⟩ 1 1 [.string (bs xt)] rfl rfl (by have := cell_one_new (wr.alloc (.cells #[.string (bs xn), .slice sa xs.length sc, .string (bs xt)] 86)) (.string (bs xt)) 9; simpa using this) (one_str _) (by omega) (by unfold maxLen; omega) (by omega) (by simp; omega) (wr.heap.size + 2) (by simp) ?_; intro g1 cap1 w1 hown1 hgrow hat hlt1))
      have R := step_gen2 strC (x := xt) rfl hown hbel (((Below.refl _ _).alloc (Nat.le_refl _) _).alloc (by simp) _) hown1 hgrow
      clear hown1 hgrow hown
      go_wp2
      go_roundw
      case rel => exact ⟨k + 1, _, by omega, by simp; omega, by go_num, R.1, R.2, HF⟩
      case measure => simp [intOf] <;> omega
    · have HF : Hid (d = l.map fun n => n.text) := by unfold Hid; rw [hall.out, List.take_of_length_le (by omega)]
      have hrx := RowX.of_own (f := strC) hown
      have HJ := hid' (join_all _ d ⟨#[44]⟩ wr hrx (by omega) (by show 1 ≤ 1000; omega) (fun x hx => by
        have h := HF.out
        rw [h] at hx
        simp only [List.mem_map] at hx
        obtain ⟨n, hn', rfl⟩ := hx
        have := (HL.out.2 n hn').tx; omega))
      obtain ⟨da, dc, rfl⟩ := own_slice hown
      have HB := hid' hbel
      clear hall hown hrx hbel
      go_wp2_with fail
      refine HJ.out.mono ?_
      rintro e w1 ⟨rfl, hb1⟩
      have HB1 := hid' (HB.out.trans (hb1.mono hz))
      clear hb1
      go_wp2
      go_ret
      exact ⟨ret_str (by rw [HNT.out, HF.out]; rfl), HB1.out⟩

set_option maxHeartbeats 2000000 in
theorem needs_any' (b : Nat) (s : SiteX) (w : World) (hs : SAt w b s) (hok : SOk s) :
    Calls Tryd.prog 45 #[.pointer (some ⟨b, 0, none⟩)] w fun e w' => e = .returned (.string (bs (needsT s.needs))) ∧ Below w.heap.size w w' := by
  obtain ⟨e1, r1⟩ := hs.needs
  have hlt := hs.lt
  have HT := hid' (ntext_any s.nv s.needs w r1 (by have := hok.nd; omega))
  generalize s.nv = nv at *
  generalize needsT s.needs = tt at *
  clear hs hok r1
  go_enter Tryd.func45, Tryd.ntmps45
  go_wp2_with fail
  refine HT.out.mono ?_
  rintro e w1 ⟨rfl, hb1⟩
  have HB := hid' hb1
  clear hb1
  go_wp2
  go_ret
  exact ⟨rfl, HB.out⟩

end Hst
end Go.Proofs.YtecocheolbkneaaDoor
namespace Go.Proofs.YtecocheolbkneaaDoor
open Go.RowKit
namespace Hst
set_option maxRecDepth 100000

/-- A version's place as text. -/
def verP (n : Int) : Tx := verT (n / 10000).toNat (n / 100 % 100).toNat (n % 100).toNat
def pkT (p : PkX) : Tx := p.path ++ [64] ++ verP p.e.ver
def treeT (l : List PkX) : Tx := joinT [59] (l.map pkT)

set_option maxHeartbeats 2000000 in
theorem ttext_any (v : Value) (l : List PkX) (w : World) (hl : PksIn w v l) (hn : l.length ≤ 1000) (hp : ∀ p ∈ l, p.path.length ≤ 900) :
    Calls Tryd.prog 53 #[.agg #[v]] w fun e w' => e = .returned (.string (bs (treeT l))) ∧ Below w.heap.size w w' := by
  obtain ⟨i0, hi, iz0, iz1, iz2⟩ := info_parts info_str
  obtain ⟨a, cap, rfl⟩ := hl.1.form
  have hbw := (Below.refl w.heap.size w).alloc (Nat.le_refl _) (.cells #[.slice a l.length cap] 96)
  have HL := hid' (hl.below hbw)
  have HBW := hid' hbw
  have HP := hid' hp
  have HNT : Hid (treeT l = joinT [59] (l.map pkT)) := rfl
  have hsz : (w.alloc (.cells #[.slice a l.length cap] 96)).heap.size = w.heap.size + 1 := by simp
  clear hl hbw hp
  go_enter Tryd.func53, Tryd.ntmps53
  go_wp2
  generalize w.alloc (.cells #[.slice a l.length cap] 96) = W at *
  have HSZ := hid' hsz
  clear hsz
  go_loopw [3, 10] (fun v i wr => ∃ (k : Nat) (d : List Tx), k ≤ l.length ∧ d.length ≤ k ∧ i = .int .i64 k ∧ wr.ownsRow W.heap.size 9 1 v d.length (d.flatMap strC) ∧ Below W.heap.size W wr ∧ Hid (d = (l.take k).map pkT)) (fun _ i _ => l.length - (intOf i).toNat)
  case atStart => exact ⟨0, [], Nat.zero_le _, by simp, rfl, World.ownsRow_nil _ _ _ _, Below.refl _ _, by simp [Hid]⟩
  case round =>
    obtain ⟨k, d, hk, hd, rfl, hown, hbel, hall⟩ := hrel
    have hz := hbel.size
    by_cases hlt : k < l.length
    · obtain ⟨g, o, cap', hv, hg, hc⟩ := (HL.out.below hbel).1.pks hlt
      simp at hv
      obtain ⟨rfl, rfl⟩ := hv
      obtain ⟨c0, c1, c2, c3⟩ := hc k hlt
      have hin := HL.out.2 l[k] (List.getElem_mem hlt)
      obtain ⟨sa, sc, hsp⟩ := hin.form'
      have HTX := hid' (fun w => text_any l[k].e.ver w hin.2.2.2.1 hin.2.2.2.2)
      have hpl := HP.out l[k] (List.getElem_mem hlt)
      have HF : Hid (d ++ [pkT l[k]] = (l.take (k + 1)).map pkT) := by unfold Hid; rw [hall.out, List.take_succ_eq_append_getElem hlt, List.map_append]; rfl
      have hpb : (bs l[k].path).size ≤ 900 := by rw [bs_size]; exact hpl
      have hvl : (bs (verT (l[k].e.ver / 10000).toNat (l[k].e.ver / 100 % 100).toNat (l[k].e.ver % 100).toNat)).size ≤ 8 := by rw [bs_size]; exact verT_len _ _ _
      have HCA : Hid (bs l[k].path ++ ⟨#[64]⟩ ++ bs (verT (l[k].e.ver / 10000).toNat (l[k].e.ver / 100 % 100).toNat (l[k].e.ver % 100).toNat) = bs (pkT l[k])) := by
        unfold Hid pkT verP
        rw [← bs_append, ← bs_append]; rfl
      clear hc hall hin hpl
      generalize l[k] = x at *
      obtain ⟨xp, xn, xv, xsp, xd⟩ := x
      simp only at hsp c0 c1 c2 c3 HTX hpb hvl HCA
      subst hsp
      generalize bs (verT (xv / 10000).toNat (xv / 100 % 100).toNat (xv % 100).toNat) = vb at *
      generalize bs xp = pb at *
      go_wp2_with fail
      refine (HTX.out _).mono ?_
      rintro e w1 ⟨rfl, rfl⟩
      have hown2 := (hown.alloc (.cells #[.string pb, .string (bs xn), .int .i64 xv, .slice sa xd.length sc] 130))
      go_wp2_with (first | (at_builtin; refine wpList_append_lies _ rfl _ _ 35 rfl W.heap.size 9 i0 (.string ByteArray.empty) 1 16 Tryd.underlying35 hi iz0 iz1 iz2 rfl (by omega) _ _ _ rfl (hown2.alloc _) ⟨wr.heap.size + 1, 0, none⟩ 1 1 [.string (pb ++ ⟨#[64]⟩ ++ vb)] rfl rfl (by have := cell_one_new (wr.alloc (.cells #[.string pb, .string (bs xn), .int .i64 xv, .slice sa xd.length sc] 130)) (.string (pb ++ ⟨#[64]⟩ ++ vb)) 9; simpa using this) (one_str _) (by omega) (by unfold maxLen; omega) (by omega) (by simp; omega) (wr.heap.size + 2) (by simp) ?_; intro g1 cap1 w2 hown1 hgrow hat hlt1))
      rw [HCA.out] at hown1
      have R := step_gen2 strC (x := pkT ⟨xp, xn, xv, .slice sa xd.length sc, xd⟩) rfl hown hbel (((Below.refl _ _).alloc (Nat.le_refl _) _).alloc (by simp) _) hown1 hgrow
      clear hown1 hgrow hown hown2
      go_wp2
      go_roundw
      case rel => exact ⟨k + 1, _, by omega, by simp; omega, by go_num, R.1, R.2, HF⟩
      case measure => simp [intOf] <;> omega
    · have HF : Hid (d = l.map pkT) := by unfold Hid; rw [hall.out, List.take_of_length_le (by omega)]
      have hrx := RowX.of_own (f := strC) hown
      have HJ := hid' (join_all _ d ⟨#[59]⟩ wr hrx (by omega) (by show 1 ≤ 1000; omega) (fun x hx => by
        have h := HF.out
        rw [h] at hx
        simp only [List.mem_map] at hx
        obtain ⟨p, hp', rfl⟩ := hx
        have h1 := HP.out p hp'
        have h2 := verT_len (p.e.ver / 10000).toNat (p.e.ver / 100 % 100).toNat (p.e.ver % 100).toNat
        unfold pkT verP; simp; omega))
      obtain ⟨da, dc, rfl⟩ := own_slice hown
      have HB := hid' (HBW.out.trans (hbel.mono (by have := HSZ.out; omega)))
      have hzw : w.heap.size ≤ wr.heap.size := by have := HSZ.out; omega
      clear hall hown hrx hbel
      go_wp2_with fail
      refine HJ.out.mono ?_
      rintro e w1 ⟨rfl, hb1⟩
      have HB1 := hid' (HB.out.trans (hb1.mono hzw))
      clear hb1
      go_wp2
      go_ret
      exact ⟨ret_str (by rw [HNT.out, HF.out]; rfl), HB1.out⟩

set_option maxHeartbeats 2000000 in
theorem tree_any' (b : Nat) (s : SiteX) (w : World) (hs : SAt w b s) (hok : SOk s) (hp : ∀ p ∈ s.tree, p.path.length ≤ 900) :
    Calls Tryd.prog 27 #[.pointer (some ⟨b, 0, none⟩)] w fun e w' => e = .returned (.string (bs (treeT s.tree))) ∧ Below w.heap.size w w' := by
  obtain ⟨v, e1, r1⟩ := hs.tree
  obtain ⟨ta, tc, rfl⟩ := r1.1.form
  have hlt := hs.lt
  have HT := hid' (ttext_any (.slice ta s.tree.length tc) s.tree w r1 hok.tr hp)
  generalize treeT s.tree = tt at *
  clear hs hok r1 hp
  go_enter Tryd.func27, Tryd.ntmps27
  go_wp2_with fail
  refine HT.out.mono ?_
  rintro e w1 ⟨rfl, hb1⟩
  have HB := hid' hb1
  clear hb1
  go_wp2
  go_ret
  exact ⟨rfl, HB.out⟩

end Hst
end Go.Proofs.YtecocheolbkneaaDoor
namespace Go.Proofs.YtecocheolbkneaaDoor
open Go.RowKit
namespace Hst

theorem ver_same {v : V3} (h : Valid v) : verP (place v) = vtx v := by
  obtain ⟨h1, h2, h3, _⟩ := place_parts h
  unfold verP vtx
  rw [h1, h2, h3]
theorem text_go {stx : List EntX} {st : List EntryD} (hs : StockSame stx st) : ∀ (l : List PackD) (b : Bool), (∀ p ∈ l, p.of < stx.length) → joinGo [59] b ((l.map (toX stx)).map pkT) = textGo st b l
  | [], b, _ => rfl
  | p :: r, b, ho => by
    obtain ⟨h1, h2⟩ := hs.ver (ho p (by simp))
    rw [List.map_cons, List.map_cons, joinGo, textGo, text_go hs r false fun q hq => ho q (List.mem_cons_of_mem _ hq)]
    have e : pkT (toX stx p) = p.path ++ [64] ++ vtx (verOf st p.of) := by
      unfold pkT toX
      simp only
      rw [h1, ver_same h2]
    rw [e]
    rcases b <;> simp
theorem tree_same {sx : SiteX} {sd : SiteD} (h : SiteSame sx sd) : treeT sx.tree = textR sd.stock sd.packs := by
  unfold treeT textR joinT
  rw [h.eq]
  exact text_go h.st _ true h.tr.of
theorem SiteSame.sok {sx : SiteX} {sd : SiteD} (h : SiteSame sx sd) : SOk sx := by
  refine ⟨⟨h.s40, fun e he => ?_⟩, by rw [h.nd.len]; exact h.n6, by have := h.tr.len; have := h.l40; omega⟩
  obtain ⟨j, hj, rfl⟩ := List.mem_iff_getElem.1 he
  have hj' : j < sd.stock.length := by rw [← h.st.all.len]; exact hj
  have hs := h.st.all.get j hj hj'
  refine ⟨by rw [hs.name]; exact isName_3 hs.isn, ?_⟩
  rw [hs.nd.len]
  have := h.h6 j hj
  unfold needsOf at this
  rw [List.getD_eq_getElem?_getD, List.getElem?_eq_getElem hj'] at this
  exact this
theorem SiteSame.path {sx : SiteX} {sd : SiteD} (h : SiteSame sx sd) : ∀ p ∈ sd.packs, p.of < sd.stock.length ∧ p.path.length ≤ 160 := fun p hp => by
  have h1 := path_short h.tr h.fold p hp
  have h2 := h.l40
  have h3 := h.tr.of p hp
  rw [h.st.all.len] at h3
  exact ⟨h3, by omega⟩
theorem SiteSame.pathx {sx : SiteX} {sd : SiteD} (h : SiteSame sx sd) : ∀ p ∈ sx.tree, p.path.length ≤ 900 := fun q hq => by
  obtain ⟨p, hp, rfl⟩ := (h.tr.mem q).1 hq
  have h1 := (h.path p hp).2
  have e : (toX sx.stock p).path = p.path := rfl
  rw [e]; omega
theorem SiteSame.v3 {sx : SiteX} {sd : SiteD} (h : SiteSame sx sd) : ∀ k, k < sd.stock.length → V3Ok (verOf sd.stock k) := fun k hk => by
  have hv := h.st.val k hk
  exact ⟨⟨hv.a0, hv.a1⟩, ⟨hv.b0, hv.b1⟩, ⟨hv.c0, hv.c1⟩⟩

end Hst
end Go.Proofs.YtecocheolbkneaaDoor
namespace Go.Proofs.YtecocheolbkneaaDoor
open Go.RowKit
namespace Hst
set_option maxRecDepth 100000

/-- What Look answers. -/
def lookP (t : List PkX) (path name : Tx) : Tx × Int :=
  if (!decide (path = []) && !hasAtP t path) = true then ([], 10) else if isNameR name = false then ([], 11) else match findP t name path with
  | none => ([], 3)
  | some p => (p.path, 0)
theorem lk_path {t : List PkX} {path name : Tx} (h : (!decide (path = []) && !hasAtP t path) = true) : lookP t path name = ([], 10) := by unfold lookP; rw [if_pos h]
theorem lk_name {t : List PkX} {path name : Tx} (h : (!decide (path = []) && !hasAtP t path) = false) (h' : isNameR name = false) : lookP t path name = ([], 11) := by unfold lookP; rw [if_neg (by rw [h]; simp), if_pos h']
theorem lk_find {t : List PkX} {path name : Tx} (h : (!decide (path = []) && !hasAtP t path) = false) (h' : isNameR name = true) : lookP t path name = match findP t name path with
    | none => ([], 3)
    | some p => (p.path, 0) := by unfold lookP; rw [if_neg (by rw [h]; simp), if_neg (by rw [h']; simp)]
theorem lk_short {t : List PkX} {path : Tx} (hp : ∀ q ∈ t, q.path.length ≤ 900) (h : (!decide (path = []) && !hasAtP t path) = false) : path.length ≤ 900 := by
  rw [Bool.and_eq_false_iff] at h
  rcases h with h | h
  · have : path = [] := by simpa using h
    rw [this]; simp
  · have : hasAtP t path = true := by simpa using h
    unfold hasAtP at this
    obtain ⟨q, hq, e⟩ := List.any_eq_true.1 this
    rw [← of_decide_eq_true e]
    exact hp q hq

set_option maxHeartbeats 4000000 in
theorem look_any' (b : Nat) (s : SiteX) (p n : ByteArray) (w : World) (hs : SAt w b s) (hok : SOk s) (hp : ∀ q ∈ s.tree, q.path.length ≤ 900) (hn : n.size ≤ 9223372036854775807) :
    Calls Tryd.prog 88 #[.pointer (some ⟨b, 0, none⟩), .string p, .string n] w fun e w' => e = .returned (.tuple #[.string (bs (lookP s.tree (tx p) (tx n)).1), .int .i64 (lookP s.tree (tx p) (tx n)).2]) ∧ Below w.heap.size w w' := by
  obtain ⟨v, e2, r2⟩ := hs.tree
  obtain ⟨ta, tc, rfl⟩ := r2.1.form
  have hlt := hs.lt
  have htl := hok.tr
  have HHA := hid' (hasAt_any (.slice ta s.tree.length tc) s.tree p w r2 (by omega))
  have HNM := hid' (fun w => isNameP_any n w hn)
  have HR := hid' r2
  have HFD := hid' (fun w h hs => findP_any (.slice ta s.tree.length tc) s.tree p n w h (by omega) (fun q hq => by have := hp q hq; omega) hs)
  have HL1 := hid' (lk_path (t := s.tree) (path := tx p) (name := tx n))
  have HL2 := hid' (lk_name (t := s.tree) (path := tx p) (name := tx n))
  have HL3 := hid' (lk_find (t := s.tree) (path := tx p) (name := tx n))
  have HSH := hid' (lk_short (path := tx p) hp)
  clear hs hok hp r2
  generalize lookP s.tree (tx p) (tx n) = res at *
  go_enter Tryd.func88, Tryd.ntmps88
  go_upto_region 1 with fail
  go_cut [20] (fun t wc => t = .bool (!decide (tx p = []) && !hasAtP s.tree (tx p)) ∧ Below w.heap.size w wc)
  case first =>
    by_cases h0 : tx p = []
    · have hb : (p.toList == []) = true := by rw [tx_toList, h0]; rfl
      have HE : Hid ((!decide (tx p = []) && !hasAtP s.tree (tx p)) = false) := by unfold Hid; simp [h0]
      clear h0
      go_wp2
      go_meet
      exact ⟨by rw [HE.out], Below.refl _ _⟩
    · have hb : (p.toList == []) = false := by rw [tx_toList]; exact beq_eq_false_iff_ne.2 h0
      have HE : Hid ((!decide (tx p = []) && !hasAtP s.tree (tx p)) = !hasAtP s.tree (tx p)) := by unfold Hid; simp [h0]
      clear h0
      go_wp2_with fail
      refine HHA.out.mono ?_
      rintro e w1 ⟨rfl, hb1⟩
      have HB1 := hid' hb1
      clear hb1
      go_wp2
      go_meet
      exact ⟨by rw [HE.out], HB1.out⟩
  case rest =>
    obtain ⟨rfl, hbc⟩ := hcut
    have HBC := hid' hbc
    have d2 := ((bcell hbc).1 b 2 hlt).trans e2
    have hlt2 : b < wc.heap.size := by have := hbc.size; omega
    clear hbc
    rcases hbb : (!decide (tx p = []) && !hasAtP s.tree (tx p)) with _ | _
    · have HSZ := hid' (HSH.out hbb)
      rcases hnm : isNameR (tx n) with _ | _
      · have HF := hid' (HL2.out hbb hnm)
        rw [hnm] at HNM
        clear hbb hnm HL1 HL2 HL3 HFD HHA
        go_wp2_with fail
        refine (HNM.out _).mono ?_
        rintro e w1 ⟨he, hw⟩
        subst he hw
        go_wp2
        go_ret2
        exact ⟨by rw [HF.out]; rfl, HBC.out⟩
      · have HF := hid' (HL3.out hbb hnm)
        rw [hnm] at HNM
        clear hbb hnm HL1 HL2 HL3 HHA
        have HFW := hid' (HFD.out wc (HR.out.below HBC.out) (by rw [← tx_length]; have := HSZ.out; omega))
        clear HFD
        generalize findP s.tree (tx n) (tx p) = fr at *
        go_wp2_with fail
        refine (HNM.out _).mono ?_
        rintro e w1 ⟨he, hw⟩
        subst he hw
        go_wp2_with fail
        refine HFW.out.mono ?_
        rintro e w2 ⟨x, rfl, hb2, ⟨na, nn, nc, hx⟩, hhit⟩
        obtain ⟨xp, xn, xv, xs, xd⟩ := x
        simp only at hx
        subst hx
        have HB2 := hid' (HBC.out.trans (hb2.mono (by have := HBC.out.size; omega)))
        have hz2 := HB2.out.size
        clear hb2
        rcases fr with _ | q
        · clear hhit
          go_wp2
          go_ret2
          exact ⟨by rw [HF.out]; rfl, HB2.out.alloc (by omega) _⟩
        · have hq := hhit q rfl
          subst hq
          clear hhit
          go_wp2
          go_ret2
          exact ⟨by rw [HF.out]; rfl, HB2.out.alloc (by omega) _⟩
    · have HF := hid' (HL1.out hbb)
      clear hbb HL1 HL2 HL3
      go_wp2
      go_ret2
      exact ⟨by rw [HF.out]; rfl, HBC.out⟩

end Hst
end Go.Proofs.YtecocheolbkneaaDoor
namespace Go.Proofs.YtecocheolbkneaaDoor
open Go.RowKit
namespace Hst

theorem look_same {sx : SiteX} {sd : SiteD} (h : SiteSame sx sd) (path name : Tx) : lookP sx.tree path name = lookR sd.packs path name := by
  have hc : (!decide (path = []) && !hasAtP sx.tree path) = (decide (0 < path.length) && (atR sd.packs path).isNone) := by
    rw [hasAt_same h.tr]
    have h1 : (!decide (path = [])) = decide (0 < path.length) := by
      rw [Bool.eq_iff_iff]
      simp [List.length_pos_iff]
    rw [h1]
    rcases atR sd.packs path <;> simp
  unfold lookP lookR
  rw [hc]
  by_cases h1 : (decide (0 < path.length) && (atR sd.packs path).isNone) = true
  · rw [if_pos h1, if_pos h1]
  · rw [if_neg h1, if_neg h1]
    rcases h2 : isNameR name with _ | _
    · rfl
    · rw [if_neg (by simp), if_neg (by simp), find_same h.tr (name_nosl h2) path.length path (Nat.le_refl _)]
      rcases findR sd.packs path name with _ | k
      · rfl
      · rfl

end Hst
end Go.Proofs.YtecocheolbkneaaDoor
