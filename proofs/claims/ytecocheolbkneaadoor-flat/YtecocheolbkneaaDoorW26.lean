/- Kadded, Kfound, Kzero, Kreachw -/
import Derived.Test.YtecocheolbkneaaDoorW25
import Derived.Test.YtecocheolbkneaaDoorW12
import Derived.Test.YtecocheolbkneaaDoorW13
import Derived.Laws.AppendOwnNone
import Derived.Test.YtecocheolbkneaaDoorW11
namespace Go.Proofs.YtecocheolbkneaaDoor
open Go.RowKit
namespace Hst
set_option maxRecDepth 100000

theorem aw_step {items : List ItemX} {sd : SiteD} {site l : List WantX} {k : Nat} (hk : k < l.length) (h : AddsWell items sd site (l.drop k)) :
    ((addR sd (wantT l[k])).2 = 0 → SettledK (addR sd (wantT l[k])).1 items (site ++ [l[k]]) ∧ AddsWell items (addR sd (wantT l[k])).1 (site ++ [l[k]]) (l.drop (k + 1))) ∧
    ((addR sd (wantT l[k])).2 ≠ 0 → (addR sd (wantT l[k])).1 = sd ∧ ((addR sd (wantT l[k])).2 = 8 ∨ (addR sd (wantT l[k])).2 = 9) ∧ SettledK sd items site ∧ AddsWell items sd site (l.drop (k + 1))) := by
  rw [List.drop_eq_getElem_cons hk] at h
  exact h
theorem ak_yes {sd : SiteD} {site l : List WantX} {k : Nat} (hk : k < l.length) (h : (addR sd (wantT l[k])).2 = 0) : addsK sd site (l.drop k) = addsK (addR sd (wantT l[k])).1 (site ++ [l[k]]) (l.drop (k + 1)) := by
  rw [List.drop_eq_getElem_cons hk, addsK, if_pos h]
theorem ak_no {sd : SiteD} {site l : List WantX} {k : Nat} (hk : k < l.length) (h : ¬ (addR sd (wantT l[k])).2 = 0) : addsK sd site (l.drop k) = addsK sd site (l.drop (k + 1)) := by
  rw [List.drop_eq_getElem_cons hk, addsK, if_neg h]
theorem ak_end {sd : SiteD} {site l : List WantX} {k : Nat} (hk : ¬ k < l.length) : addsK sd site (l.drop k) = (sd, site) := by
  rw [List.drop_of_length_le (by omega)]; rfl
theorem SAt.grownW {w w' : World} {base sz n b : Nat} {u : Value} {xs : List Value} {s : SiteX} (h : SAt w b s) (hg : w.grownBy w' u.ownBlock) (ho : w.ownsRow base 52 sz u n xs) : SAt w' b s := by
  have hblk := blk_grown hg ho h.lt h.tag (by decide)
  have hc : ∀ o, w'.cell? ⟨b, o, none⟩ = w.cell? ⟨b, o, none⟩ := fun o => World.cell?_of_block (w := w) hblk
  have hf : ∀ o, w'.frozen? ⟨b, o, none⟩ = w.frozen? ⟨b, o, none⟩ := fun o => World.frozen?_of_block (w := w) hblk
  obtain ⟨v0, e0, r0⟩ := h.stock
  obtain ⟨e1, r1⟩ := h.needs
  obtain ⟨v2, e2, r2⟩ := h.tree
  refine ⟨Nat.lt_of_lt_of_le h.lt hg.size, ?_, ⟨v0, by rw [hc]; exact e0, r0.1.grown hg ho (by decide), fun e he => (r0.2 e he).grown hg ho (by decide) (by decide)⟩, ⟨by rw [hc]; exact e1, r1.grown hg ho (by decide) (by decide)⟩, ⟨v2, by rw [hc]; exact e2, r2.1.grown hg ho (by decide), fun p hp => (r2.2 p hp).grown hg ho (by decide) (by decide)⟩, by rw [hf]; exact h.f1, by rw [hf]; exact h.f2⟩
  unfold tagOf
  rw [hblk]
  exact h.tag
theorem KAt.grownW {w w' : World} {base sz n b : Nat} {u : Value} {xs : List Value} {s : SiteD} (h : KAt w b s) (hg : w.grownBy w' u.ownBlock) (ho : w.ownsRow base 52 sz u n xs) : KAt w' b s := by
  obtain ⟨sx, h1, h2⟩ := h
  exact ⟨sx, h1.grownW hg ho, h2⟩
theorem KAt.tag {w : World} {b : Nat} {sd : SiteD} (h : KAt w b sd) : tagOf w b = some 98 := by
  obtain ⟨sx, h1, _⟩ := h
  exact h1.tag

theorem step_smv {α : Type} (f : α → List Value) {e k base b : Nat} {W w w1 wr : World} {v : Value} {acc : List α} {x : α} {g cap : Nat} (hbase : base = w.heap.size) (hown : wr.ownsRow base e k v acc.length (acc.flatMap f)) (hm : SMv b w wr) (hbb : b < w.heap.size) (hb4 : Below wr.heap.size wr W)
    (hown1 : w1.ownsRow base e k (.slice (some ⟨g, 0, none⟩) (acc.length + 1) cap) (acc.length + 1) (acc.flatMap f ++ f x)) (hgrow : W.grownBy w1 v.ownBlock) :
    w1.ownsRow base e k (.slice (some ⟨g, 0, none⟩) (acc.length + 1) cap) (acc ++ [x]).length ((acc ++ [x]).flatMap f) ∧ SMv b w w1 := by
  subst hbase
  have hz := hm.but.size
  refine ⟨?_, ?_⟩
  · have e1 : (acc ++ [x]).flatMap f = acc.flatMap f ++ f x := by simp
    rw [e1]
    simpa using hown1
  · have hB : Below w.heap.size wr w1 := (hb4.mono hz).grown hgrow (Nat.le_trans hz hb4.size) (fun k hk => (hown.lt k hk).1)
    refine ⟨hB.os.trans hm.os, hB.tape.trans hm.tape, hB.output.trans hm.output, Nat.le_trans hz hB.size, fun g hg hne => (hB.block g hg).trans (hm.but.block g hg hne), fun _ => ?_⟩
    rw [← hm.but.tag hbb]
    unfold tagOf
    rw [hB.block b hbb]
theorem ItemsX.off {w w' : World} {a : Option Addr} {cap b : Nat} {l : List ItemX} (h : ItemsX w a cap l) (hb : But b w w') (ht : tagOf w b = some 98) : ItemsX w' a cap l :=
  ⟨RowX.off h.row hb (by rw [ht]; decide), fun x hx => RowX.off (h.each x hx) hb (by rw [ht]; decide)⟩
theorem WantsX.r {w : World} {a : Option Addr} {cap : Nat} {l : List WantX} (h : WantsX w (.slice a l.length cap) l) : RowR w a l.length cap 4 (l.flatMap wantC) := by
  obtain ⟨a', c', e, hr, _⟩ := h
  simp at e
  obtain ⟨rfl, rfl⟩ := e
  exact hr
theorem WantsX.tag {w : World} {g o cap : Nat} {l : List WantX} (h : WantsX w (.slice (some ⟨g, o, none⟩) l.length cap) l) (h0 : 0 < l.length) : tagOf w g = some 52 := by
  obtain ⟨a', c', e, _, ht⟩ := h
  simp at e
  obtain ⟨rfl, rfl⟩ := e
  exact ht g o h0 rfl

set_option maxHeartbeats 8000000 in
theorem added_any (b : Nat) (sd : SiteD) (a : Option Addr) (cap : Nat) (items : List ItemX) (la : Option Addr) (lc : Nat) (l : List WantX) (w : World) (h : KAt w b sd) (hr : ItemsX w a cap items) (hil : items.length ≤ 1000) (hiw : ∀ x ∈ items, x.wants.length ≤ 6) (hio : ∀ x ∈ items, ItemOk x) (hlr : WantsX w (.slice la l.length lc) l) (hll : l.length ≤ 1000) (hlo : ∀ x ∈ l, WantOk x) (haw : AddsWell items sd [] l) :
    Calls Tryd.prog 20 #[.pointer (some ⟨b, 0, none⟩), .slice a items.length cap, .slice la l.length lc] w fun e w' => ∃ (sa : Option Addr) (sc : Nat), e = .returned (.tuple #[.slice sa (addsK sd [] l).2.length sc, .bool true]) ∧ WantsX w' (.slice sa (addsK sd [] l).2.length sc) (addsK sd [] l).2 ∧ KAt w' b (addsK sd [] l).1 ∧ SMv b w w' := by
  obtain ⟨i0, hi, iz0, iz1, iz2⟩ := info_parts info_want
  have HIT := hid' hr
  have HLR := hid' hlr
  have HLO := hid' hlo
  have HIO := hid' hio
  have HIW := hid' hiw
  have HK0 := hid' h
  have HB0 : Hid (SMv b w w) := SMv.of_below (Below.refl _ _)
  have HTG := hid' h.tag
  have HA0 : Hid (AddsWell items sd [] (l.drop 0)) := haw
  have HE : Hid (addsK sd [] l = addsK sd [] (l.drop 0)) := rfl
  have hbw := h.lt
  generalize addsK sd [] l = res at *
  clear hr hlr hlo hio hiw h haw
  go_enter Tryd.func20, Tryd.ntmps20
  go_wp2
  go_loopw [8, 9] (fun v i wr => ∃ (k : Nat) (s : SiteD) (site : List WantX), k ≤ l.length ∧ site.length ≤ k ∧ i = .int .i64 k ∧ wr.ownsRow w.heap.size 52 4 v site.length (site.flatMap wantC) ∧ w.heap.size ≤ wr.heap.size ∧ Hid (SMv b w wr ∧ KAt wr b s ∧ (∀ x ∈ site, WantOk x) ∧ AddsWell items s site (l.drop k) ∧ res = addsK s site (l.drop k))) (fun _ i _ => l.length - (intOf i).toNat)
  case atStart => exact ⟨0, sd, [], Nat.zero_le _, by simp, rfl, World.ownsRow_nil _ _ _ _, Nat.le_refl _, ⟨HB0.out, HK0.out, by simp, HA0.out, HE.out⟩⟩
  case round =>
    obtain ⟨k, s, site, hk, hsl, rfl, hown, hz, hall⟩ := hrel
    obtain ⟨va, vc, rfl⟩ := own_slice hown
    have HBW := hid' hall.out.1
    have HKW := hid' hall.out.2.1
    have HSO := hid' hall.out.2.2.1
    have HAW := hid' hall.out.2.2.2.1
    have HRE := hid' hall.out.2.2.2.2
    clear hall
    by_cases hlt : k < l.length
    · obtain ⟨g, o, hla, hg, hc⟩ := (WantsX.r HLR.out).wants rfl hlt
      subst hla
      have hgb : ¬ g = b := fun e => by
        have h1 := WantsX.tag HLR.out (by omega)
        rw [e, HTG.out] at h1
        exact absurd h1 (by decide)
      have HCL : Hid (∀ W : World, SMv b w W → W.cell? ⟨g, o + k * 4, none⟩ = some (.int .i64 l[k].name) ∧ W.cell? ⟨g, o + k * 4 + 1, none⟩ = some (.int .i64 l[k].sign) ∧ W.cell? ⟨g, o + k * 4 + 2, none⟩ = some (.int .i64 l[k].major) ∧ W.cell? ⟨g, o + k * 4 + 3, none⟩ = some (.int .i64 l[k].minor)) := fun W hW => by
        obtain ⟨g', o', ha', _, hc'⟩ := (WantsX.r (RowX.off HLR.out hW.but (by rw [HTG.out]; decide))).wants rfl hlt
        simp at ha'
        obtain ⟨rfl, rfl⟩ := ha'
        exact hc' k hlt
      have hxo := HLO.out l[k] (List.getElem_mem hlt)
      have HXO := hid' hxo
      have HST := hid' (aw_step hlt HAW.out)
      have HY := hid' (ak_yes (sd := s) (site := site) hlt)
      have HN := hid' (ak_no (sd := s) (site := site) hlt)
      have HNA := hid' (fun w => names_any l[k].name w hxo.name)
      have HRN := hid' (fun w => rng_any l[k] w hxo)
      have HSM : Hid (bs (nameK l[k].name) ++ bs (rngK l[k]) = bs (wantT l[k])) := bs_append _ _
      have s1 : (bs (nameK l[k].name)).size ≤ 3 := by rw [bs_size]; exact nameK_len _
      have s2 : (bs (rngK l[k])).size ≤ 9 := by rw [bs_size]; exact rngK_len _
      have HAD := hid' (fun w h => kadd_any b s (bs (wantT l[k])) w h (by rw [bs_size]; have := wantT_len l[k]; omega))
      rw [tx_bs] at HAD
      have HTR := hid' (fun w h => ktree_any b s w h)
      have HND := hid' (fun w h => kneeds_any b s w h)
      clear hxo hc HAW
      generalize addR s (wantT l[k]) = ar at *
      generalize bs (wantT l[k]) = bw at *
      generalize bs (nameK l[k].name) = b1 at *
      generalize bs (rngK l[k]) = b2 at *
      generalize l[k] = x at *
      obtain ⟨xn, xs, xa, xi⟩ := x
      simp only at HCL HNA HRN
      obtain ⟨s', ae⟩ := ar
      simp only at HST HY HN HAD
      have HSE := hid' (fun (s : SiteD) (sa : Option Addr) (sc : Nat) (st : List WantX) w h1 h2 h3 h4 h5 h6 => settled_any b s a cap items sa sc st w h1 h2 hil HIW.out HIO.out h3 h4 h5 h6)
      generalize bs (textR s.stock s.packs) = tb at *
      generalize bs (neededR s) = nb at *
      have k0 : (0 : Int) ≤ (k : Int) := by omega
      have k1 : (k : Int) < (l.length : Int) := by omega
      go_wp2_with fail
      refine (HTR.out _ HKW.out).mono ?_
      rintro e w1 ⟨rfl, hb1⟩
      have HB1 := hid' (HBW.out.trans (SMv.of_below hb1))
      have HK1 := hid' (HKW.out.below hb1)
      have hown1 := own_below hown hb1
      have hz1 := hb1.size
      clear hb1 hown
      go_wp2_with fail
      refine (HND.out _ HK1.out).mono ?_
      rintro e w2 ⟨rfl, hb2⟩
      have HB2 := hid' (HB1.out.trans (SMv.of_below hb2))
      have HK2 := hid' (HK1.out.below hb2)
      have hown2 := own_below hown1 hb2
      have hz2 := hb2.size
      clear hb2 hown1
      obtain ⟨c0, c1, c2, c3⟩ := HCL.out w2 HB2.out
      have hgw : g < w2.heap.size := by omega
      have HKD := hid' (HK2.out.below (w' := w2.drew) (Below.refl _ _).drew)
      have HBD := hid' (HB2.out.trans (SMv.of_below (w' := w2.drew) (Below.refl _ _).drew))
      go_wp2
      have m1 : ¬ (9223372036854775807 < b1.size + b2.size) := by omega
      have hsm : b1 ++ b2 = bw := HSM.out
      go_region_held3 (fun w' => w'.cell? ⟨g, o + k * 4, none⟩ = some (.int .i64 xn) ∧ w'.cell? ⟨g, o + k * 4 + 1, none⟩ = some (.int .i64 xs) ∧ w'.cell? ⟨g, o + k * 4 + 2, none⟩ = some (.int .i64 xa) ∧ w'.cell? ⟨g, o + k * 4 + 3, none⟩ = some (.int .i64 xi)) (go_keep)
        (first | (go_at_call 24; refine (HNA.out _).mono ?_; rintro e w3 ⟨rfl, hb3⟩; have hy3 := (bcell hb3).1; have hz3 := hb3.size; simp at hz3; have z0 := hy3 g (o + k * 4) (by simp; omega); have z1 := hy3 g (o + k * 4 + 1) (by simp; omega); have z2 := hy3 g (o + k * 4 + 2) (by simp; omega); have z3 := hy3 g (o + k * 4 + 3) (by simp; omega); simp at z0 z1 z2 z3) | (go_at_call 25; refine (HRN.out _).mono ?_; rintro e w4 ⟨rfl, hb4⟩; have hy4 := (bcell hb4).1; have hz4 := hb4.size; have y0 := hy4 g (o + k * 4) (by omega); have y1 := hy4 g (o + k * 4 + 1) (by omega); have y2 := hy4 g (o + k * 4 + 2) (by omega); have y3 := hy4 g (o + k * 4 + 3) (by omega)) | (go_at_call 23; refine (HAD.out _ ((HKD.out.below hb3).below hb4)).mono ?_; rintro e w5 ⟨rfl, hm5, hk5⟩; have u0 := hm5.but.cell (g := g) (o := o + k * 4) (by omega) hgb; have u1 := hm5.but.cell (g := g) (o := o + k * 4 + 1) (by omega) hgb; have u2 := hm5.but.cell (g := g) (o := o + k * 4 + 2) (by omega) hgb; have u3 := hm5.but.cell (g := g) (o := o + k * 4 + 3) (by omega) hgb))
      have f0 : w5.cell? ⟨g, o + k * 4, none⟩ = some (.int .i64 xn) := by rw [u0, y0, z0]; exact c0
      have f1 : w5.cell? ⟨g, o + k * 4 + 1, none⟩ = some (.int .i64 xs) := by rw [u1, y1, z1]; exact c1
      have f2 : w5.cell? ⟨g, o + k * 4 + 2, none⟩ = some (.int .i64 xa) := by rw [u2, y2, z2]; exact c2
      have f3 : w5.cell? ⟨g, o + k * 4 + 3, none⟩ = some (.int .i64 xi) := by rw [u3, y3, z3]; exact c3
      have hzd : w2.drew.heap.size = w2.heap.size := by simp
      have HK4 := hid' ((HKD.out.below hb3).below hb4)
      have HB4 := hid' ((HBD.out.trans (SMv.of_below hb3)).trans (SMv.of_below hb4))
      have hz5 := hm5.but.size
      have HB5 := hid' (HB4.out.trans hm5)
      have hown5 := own_bt (own_below (own_below hown2.drew hb3) hb4) hm5.but (by rw [HK4.out.tag]; decide)
      have HK5 := hid' hk5
      have hg5 : g < w5.heap.size := by omega
      clear hb3 hb4 hm5 hk5 hown2 hy3 hy4 z0 z1 z2 z3 y0 y1 y2 y3 u0 u1 u2 u3 c0 c1 c2 c3 m1
      by_cases hae : ae = 0
      · obtain ⟨hse, haw⟩ := HST.out.1 hae
        have HF := hid' (HRE.out.trans (HY.out hae))
        have HSEt := hid' hse
        have HAWt := hid' haw
        subst hae
        clear HST HY HN hse haw
        have HOX : Hid (∀ y ∈ site ++ [(⟨xn, xs, xa, xi⟩ : WantX)], WantOk y) := fun y hy => by
          rcases List.mem_append.1 hy with hy | hy
          · exact HSO.out y hy
          · rw [List.mem_singleton.1 hy]; exact HXO.out
        go_wp2_with (first | (at_builtin; refine wpList_append_lies _ rfl _ _ 39 rfl w.heap.size 52 i0 (.agg #[.int .i64 0, .int .i64 0, .int .i64 0, .int .i64 0]) 4 32 Tryd.underlying39 hi iz0 iz1 iz2 rfl (by omega) _ _ _ rfl (hown5.alloc _) ⟨w5.heap.size, 0, none⟩ 1 1 [.int .i64 xn, .int .i64 xs, .int .i64 xa, .int .i64 xi] rfl rfl (knews_4 _ _ _ _ _ _) (want_one ⟨xn, xs, xa, xi⟩) (by omega) (by unfold maxLen; omega) (by omega) (by simp; omega) (w5.heap.size + 1) (by simp) ?_; intro g6 cap6 w6 hown6 hgrow6 hat6 hlt6))
        have hal := (Below.refl w5.heap.size w5).alloc (Nat.le_refl _) (.cells #[.int .i64 xn, .int .i64 xs, .int .i64 xa, .int .i64 xi] 52)
        have R := step_smv wantC (x := ⟨xn, xs, xa, xi⟩) rfl hown5 HB5.out hbw hal hown6 hgrow6
        have HK6 := hid' ((HK5.out.below hal).grownW hgrow6 (hown5.alloc _))
        have hz6 := hgrow6.size
        simp at hz6
        have HO6 := hid' R.1
        have HB6 := hid' R.2
        have hsl1 : (site ++ [(⟨xn, xs, xa, xi⟩ : WantX)]).length = site.length + 1 := by simp
        have HSC := hid' (HSE.out s' (some ⟨g6, 0, none⟩) cap6 (site ++ [⟨xn, xs, xa, xi⟩]) w6 HK6.out (HIT.out.off HB6.out.but HTG.out).r (by rw [hsl1]; exact RowR.of_own (by have := HO6.out; rw [hsl1] at this; exact this)) (by omega) HOX.out HSEt.out)
        rw [hsl1] at HSC
        clear hown6 hgrow6 hown5 hal R
        go_wp2_with fail
        refine HSC.out.mono ?_
        rintro e w7 ⟨rfl, hb7⟩
        have HFI : Hid (SMv b w w7 ∧ KAt w7 b s' ∧ (∀ x ∈ site ++ [(⟨xn, xs, xa, xi⟩ : WantX)], WantOk x) ∧ AddsWell items s' (site ++ [⟨xn, xs, xa, xi⟩]) (l.drop (k + 1)) ∧ res = addsK s' (site ++ [⟨xn, xs, xa, xi⟩]) (l.drop (k + 1))) := ⟨HB6.out.trans (SMv.of_below hb7), HK6.out.below hb7, HOX.out, HAWt.out, HF.out⟩
        have hz7 := hb7.size
        have HO7 := hid' (own_below HO6.out hb7)
        rw [hsl1] at HO7
        clear hb7
        go_wp2
        go_roundw
        case rel => exact ⟨k + 1, s', site ++ [⟨xn, xs, xa, xi⟩], by omega, by omega, by go_num, by rw [hsl1]; exact HO7.out, by omega, HFI⟩
        case measure => simp [intOf] <;> omega
      · obtain ⟨hs', h89, hse, haw⟩ := HST.out.2 hae
        have HF := hid' (HRE.out.trans (HN.out hae))
        have HSEt := hid' hse
        have HAWt := hid' haw
        subst hs'
        clear HST HY HN hse haw f0 f1 f2 f3
        have tt : (tb.toList == tb.toList) = true := by simp
        have nn : (nb.toList == nb.toList) = true := by simp
        have e0 : (ae == 0) = false := by simp [hae]
        go_wp2_with fail
        refine (HTR.out _ HK5.out).mono ?_
        rintro e w6 ⟨rfl, hb6⟩
        have HB6 := hid' (HB5.out.trans (SMv.of_below hb6))
        have HK6 := hid' (HK5.out.below hb6)
        have hown6 := own_below hown5 hb6
        have hz6 := hb6.size
        clear hb6 hown5
        go_wp2_with fail
        refine (HND.out _ HK6.out).mono ?_
        rintro e w7 ⟨rfl, hb7⟩
        have HB7 := hid' (HB6.out.trans (SMv.of_below hb7))
        have HK7 := hid' (HK6.out.below hb7)
        have HO7 := hid' (own_below hown6 hb7)
        have hz7 := hb7.size
        have HSC := hid' (HSE.out s' va vc site w7 HK7.out (HIT.out.off HB7.out.but HTG.out).r (RowR.of_own HO7.out) (by omega) HSO.out HSEt.out)
        clear hb7 hown6
        rcases h89 with rfl | rfl
        · go_wp2_with fail
          refine HSC.out.mono ?_
          rintro e w8 ⟨rfl, hb8⟩
          have HFI : Hid (SMv b w w8 ∧ KAt w8 b s' ∧ (∀ x ∈ site, WantOk x) ∧ AddsWell items s' site (l.drop (k + 1)) ∧ res = addsK s' site (l.drop (k + 1))) := ⟨HB7.out.trans (SMv.of_below hb8), HK7.out.below hb8, HSO.out, HAWt.out, HF.out⟩
          have hz8 := hb8.size
          have HO8 := hid' (own_below HO7.out hb8)
          clear hb8
          go_wp2
          go_roundw
          case rel => exact ⟨k + 1, s', site, by omega, by omega, by go_num, HO8.out, by omega, HFI⟩
          case measure => simp [intOf] <;> omega
        · go_wp2_with fail
          refine HSC.out.mono ?_
          rintro e w8 ⟨rfl, hb8⟩
          have HFI : Hid (SMv b w w8 ∧ KAt w8 b s' ∧ (∀ x ∈ site, WantOk x) ∧ AddsWell items s' site (l.drop (k + 1)) ∧ res = addsK s' site (l.drop (k + 1))) := ⟨HB7.out.trans (SMv.of_below hb8), HK7.out.below hb8, HSO.out, HAWt.out, HF.out⟩
          have hz8 := hb8.size
          have HO8 := hid' (own_below HO7.out hb8)
          clear hb8
          go_wp2
          go_roundw
          case rel => exact ⟨k + 1, s', site, by omega, by omega, by go_num, HO8.out, by omega, HFI⟩
          case measure => simp [intOf] <;> omega
    · have HF : Hid (res = (s, site)) := by unfold Hid; rw [HRE.out, ak_end hlt]
      have HRW := hid' (show WantsX wr (.slice va site.length vc) site from RowX.of_own hown)
      clear hown
      go_wp2
      go_ret2
      refine ⟨va, vc, by rw [HF.out]; rfl, ?_, ?_, HBW.out⟩
      · rw [HF.out]; exact HRW.out
      · rw [HF.out]; exact HKW.out

end Hst
end Go.Proofs.YtecocheolbkneaaDoor
namespace Go.Proofs.YtecocheolbkneaaDoor
open Go.RowKit
namespace Hst
set_option maxRecDepth 100000

theorem ItemsX.below {w w' : World} {a : Option Addr} {cap : Nat} {l : List ItemX} (h : ItemsX w a cap l) (hb : Below w.heap.size w w') : ItemsX w' a cap l := ⟨RowX.below h.row hb, fun x hx => RowX.below (h.each x hx) hb⟩
/-- The contract of entry, without the needs turned round. -/
theorem entryF (x : ItemX) (w : World) (h : ItemIn w x) (hl : x.wants.length ≤ 1000) (hok : ItemOk x) : Calls Tryd.prog 46 #[itemV x, .bool false] w fun e w' => e = .returned (.string (bs (entryK x false))) ∧ Below w.heap.size w w' := by
  obtain ⟨va, vc, e, hr⟩ := h
  unfold itemV
  rw [e]
  exact entryf_any x va vc w hr hl hok

set_option maxHeartbeats 4000000 in
theorem found_any (a : Option Addr) (cap : Nat) (items : List ItemX) (la : Option Addr) (lc : Nat) (l : List WantX) (w : World) (hr : ItemsR w a cap items) (hn : items.length ≤ 9223372036854775807) (hwn : ∀ x ∈ items, x.wants.length ≤ 9223372036854775807) (hok : ∀ x ∈ items, ItemOk x) (hl : RowR w la l.length lc 4 (l.flatMap wantC)) (hln : l.length ≤ 9223372036854775807) (hlo : ∀ x ∈ l, WantOk x) :
    Calls Tryd.prog 6 #[.slice a items.length cap, .slice la l.length lc] w fun e w' => e = .returned (.bool true) ∧ Below w.heap.size w w' := by
  have HST := hid' (stocked_any a cap items w hr hn hwn hok)
  have HPL := hid' (fun w h => plain_any la lc l w h hln hlo)
  have HPK : Hid ((plainK l).length ≤ 6 ∧ ∀ x ∈ plainK l, WantOk x) := ⟨plainK_len l, fun x hx => hlo x (plainK_in hx)⟩
  have HL := hid' hl
  clear hr hn hwn hok hl hln hlo
  go_enter Tryd.func6, Tryd.ntmps6
  go_wp2_with fail
  refine HST.out.mono ?_
  rintro e w1 ⟨oa, oc, out, rfl, hix, hbare, h40, hio, hb1⟩
  have HIX := hid' hix
  have HW := hid' (items_well hbare h40 fun x hx => (hio x hx).2)
  have HIO := hid' hio
  have HB1 := hid' hb1
  have HSK := hid' (stock_any false entryF oa oc out 0 w1 hix.r h40 (by omega) (fun x hx => (hio x hx).2) (fun x hx => (hio x hx).1))
  rw [rotK_zero] at HSK
  have HNW := hid' (new_items false out HW.out)
  clear hix hbare hio hb1
  go_wp2_with fail
  refine HSK.out.mono ?_
  rintro e w2 ⟨rfl, hb2⟩
  have HB2 := hid' (HB1.out.trans (hb2.mono HB1.out.size))
  have HIX2 := hid' (HIX.out.below hb2)
  have HRD := hid' (ready_any (bs (stockT false true out)) _ w2 (by rw [tx_bs]; exact HNW.out))
  clear hb2
  generalize bs (stockT false true out) = tb at *
  go_wp2_with fail
  refine HRD.out.mono ?_
  rintro e w3 ⟨b, rfl, hbb, hk3, hb3⟩
  have HB3 := hid' (HB2.out.trans (hb3.mono HB2.out.size))
  have HIX3 := hid' (HIX2.out.below hb3)
  have HK3 := hid' hk3
  have HBB := hid' hbb
  have HPC := hid' (HPL.out w3 (HL.out.below HB3.out))
  clear hb3 hk3 hbb
  go_wp2_with fail
  refine HPC.out.mono ?_
  rintro e w4 ⟨pv, rfl, hown, hb4⟩
  obtain ⟨pa, pc, rfl⟩ := own_slice hown
  have HB4 := hid' (HB3.out.trans (hb4.mono HB3.out.size))
  have HK4 := hid' (HK3.out.below hb4)
  have HIX4 := hid' (HIX3.out.below hb4)
  have HWX := hid' (show WantsX w4 (.slice pa (plainK l).length pc) (plainK l) from RowX.of_own hown)
  obtain ⟨sx, hsx⟩ := HK3.out
  have HAD := hid' (adds_start HW.out hsx.2 l).1
  have HAC := hid' (added_any b _ oa oc out pa pc (plainK l) w4 HK4.out HIX4.out (by omega) (fun x hx => (HIO.out x hx).2) (fun x hx => (HIO.out x hx).1) HWX.out (by have := HPK.out.1; omega) HPK.out.2 HAD.out)
  have HZ : Hid (w.heap.size ≤ b ∧ w.heap.size ≤ w4.heap.size) := ⟨by have := HB2.out.size; have := HBB.out; omega, HB4.out.size⟩
  clear hb4 hown hsx
  generalize (addsK ⟨out.map fun x => entryD x false, [], []⟩ [] (plainK l)).2 = site at *
  generalize (addsK ⟨out.map fun x => entryD x false, [], []⟩ [] (plainK l)).1 = sd at *
  generalize plainK l = pl at *
  go_wp2_with fail
  refine HAC.out.mono ?_
  rintro e w5 ⟨sa, sc, rfl, -, -, hm⟩
  have HR := hid' (HB4.out.trans (hm.below_of HZ.out.1 HZ.out.2))
  clear hm
  go_wp2
  go_ret
  exact ⟨rfl, HR.out⟩

end Hst
end Go.Proofs.YtecocheolbkneaaDoor
namespace Go.Proofs.YtecocheolbkneaaDoor
open Go.RowKit
namespace Hst
set_option maxRecDepth 100000

theorem run_append_zero {P : Program} {w : World} (base : Nat) (t ty e : TypeId) (i : TypeInfo) (size : Nat) (ht : P.underlying t = some (.slice e)) (hi : P.info? e = some i)
    (v : Value) (n : Nat) (xs : List Value) (hown : w.ownsRow base e size v n xs) (xa : Option Addr) (xc : Nat) :
    (Builtin.append_ #[t, t] ty #[v, .slice xa 0 xc]).run P w = .ok v w := by
  rcases hown.2 with ⟨rfl, rfl⟩ | ⟨g, cap, cur, rfl, _, _, hnc, _⟩
  · cases xa <;> simp [Builtin.append_, run_underlying ht, sizeOf, typeInfo, hi, Builtin.lenOf, Builtin.firstCells, loadCells, loadCellsFrom, Result.andThen]
  · cases xa <;> simp [Builtin.append_, run_underlying ht, sizeOf, typeInfo, hi, Builtin.lenOf, Builtin.firstCells, hnc, storeCells, loadCells, loadCellsFrom, Result.andThen]

theorem wpList_append_zero {P : Program} {w : World} {ops : Array Oper} {rest : List Oper} {o : Oper} {a : Act} {Q : Exit → Act → World → Prop} (hgd : o.guard = none) (s x : Operand) (t : TypeId)
    (ho : o.op = .call { callee := .builtin .append, args := #[s, x], argTypes := #[t, t] })
    (base : Nat) (e : TypeId) (i : TypeInfo) (size : Nat) (ht : P.underlying t = some (.slice e)) (hi : P.info? e = some i)
    (v : Value) (n : Nat) (xs : List Value) (hs : a.eval s = v) (hown : w.ownsRow base e size v n xs) (xa : Option Addr) (xc : Nat) (hx : a.eval x = .slice xa 0 xc)
    (h : wpList P ops Q rest (a.put o.dst v) w) : wpList P ops Q (o :: rest) a w := by
  refine wpList_plain hgd fun K hK => ?_
  have hrun := run_append_zero (P := P) (w := w) base t o.type e i size ht hi v n xs hown xa xc
  unfold Oper.wp
  simp [execOp, ho, resolve, invoke, builtin, hs, hx, hrun, Result.andThen]
  exact hK _ _ h

end Hst
end Go.Proofs.YtecocheolbkneaaDoor
namespace Go.Proofs.YtecocheolbkneaaDoor
open Go.RowKit
namespace Hst
set_option maxRecDepth 100000

def lenK : Value → Nat
  | .slice _ n _ => n
  | _ => 0
theorem own_kept {w w' : World} {base base' e T size sz n m : Nat} {v u : Value} {xs ys : List Value} (h : w.ownsRow base e size v n xs) (hg : w.grownBy w' u.ownBlock) (ho : w.ownsRow base' T sz u m ys) (hne : T ≠ e) : w'.ownsRow base e size v n xs := by
  refine h.kept hg ?_
  rcases hv : v.ownBlock with _ | g
  · exact .inl rfl
  · right
    intro hh
    have h1 := tag_of_own h hv
    have h2 := tag_of_own ho hh.symm
    rw [h1] at h2
    exact hne (by simpa using h2.symm)
theorem below_grow {w wr W w1 : World} {base e k n : Nat} {v : Value} {xs : List Value} (hgrow : W.grownBy w1 v.ownBlock) (hown : wr.ownsRow base e k v n xs) (hbel : Below base w wr) (hle : base ≤ wr.heap.size) (hb4 : Below wr.heap.size wr W) : Below base w w1 :=
  hbel.trans ((hb4.mono hle).grown hgrow (Nat.le_trans hle hb4.size) (fun q hq => (hown.lt q hq).1))
theorem row_push {α : Type} {f : α → List Value} {size sz T base n : Nat} {t : TypeId} {w W w' : World} {v u : Value} {l : List α} {xs : List Value} (hg : W.grownBy w' u.ownBlock) (ho : W.ownsRow base T sz u n xs) (hb : Below w.heap.size w W) (h : RowX f size t w v l) (hne : T ≠ t) : RowX f size t w' v l := RowX.grown (RowX.below h hb) hg ho hne
/-- What a row shows, read from its address on. -/
theorem row_news {w : World} {g o n cap size : Nat} {cs : List Value} (h : RowR w (some ⟨g, o, none⟩) n cap size cs) (hn : 0 < n) : ∀ j u, cs[j]? = some u → w.cell? ((⟨g, o, none⟩ : Addr).add j) = some u := by
  obtain ⟨g', o', ha, _, hc⟩ := h.at' hn
  simp at ha
  obtain ⟨rfl, rfl⟩ := ha
  intro j u hu
  have hj : j < cs.length := by
    rcases Nat.lt_or_ge j cs.length with h | h
    · exact h
    · rw [List.getElem?_eq_none h] at hu; simp at hu
  have e : (⟨g, o, none⟩ : Addr).add j = ⟨g, o + j, none⟩ := by simp [Addr.add]
  rw [e, hc j (by rw [← h.len]; exact hj)]
  exact hu
theorem wants_one (l : List WantX) : ∀ u ∈ l.flatMap wantC, u.oneCell' = true := fun u hu => by
  obtain ⟨x, _, hx⟩ := List.mem_flatMap.1 hu
  exact want_one x u hx
/-- What reached answers. -/
def ReachE (o : Option (List Tx)) (e : Ending) (w' : World) : Prop := match o with
  | none => e = .returned (.tuple #[.slice none 0 0, .bool false])
  | some out => ∃ oa oc, e = .returned (.tuple #[.slice oa out.length oc, .bool true]) ∧ RowX strC 1 9 w' (.slice oa out.length oc) out
theorem rch_end {items : List ItemX} {f : Nat} {out : List Tx} {todo : List WantX} {k : Nat} (hk : ¬ k < todo.length) : reachGo items (f + 1) out (todo.drop k) = some out := by
  rw [List.drop_of_length_le (by omega)]; rfl
theorem rch_old {items : List ItemX} {f : Nat} {out : List Tx} {todo : List WantX} {k : Nat} (hk : k < todo.length) (h : hasR out (nameK todo[k].name) = true) : reachGo items (f + 1) out (todo.drop k) = reachGo items f out (todo.drop (k + 1)) := by
  rw [List.drop_eq_getElem_cons hk, reachGo, if_pos h]
theorem rch_none {items : List ItemX} {f : Nat} {out : List Tx} {todo : List WantX} {k : Nat} (hk : k < todo.length) (h : hasR out (nameK todo[k].name) = false) (hf : items.find? (isHead (nameK todo[k].name) ver1) = none) : reachGo items (f + 1) out (todo.drop k) = none := by
  rw [List.drop_eq_getElem_cons hk, reachGo, if_neg (by rw [h]; simp), hf]
theorem rch_new {items : List ItemX} {f : Nat} {out : List Tx} {todo : List WantX} {k : Nat} {it : ItemX} (hk : k < todo.length) (h : hasR out (nameK todo[k].name) = false) (hf : items.find? (isHead (nameK todo[k].name) ver1) = some it) : reachGo items (f + 1) out (todo.drop k) = reachGo items f (out ++ [nameK todo[k].name]) ((todo ++ it.wants).drop (k + 1)) := by
  rw [List.drop_eq_getElem_cons hk, reachGo, if_neg (by rw [h]; simp), hf]
  simp only
  rw [List.drop_append_of_le_length (by omega)]

set_option maxHeartbeats 8000000 in
theorem reached_any (a : Option Addr) (cap : Nat) (items : List ItemX) (la : Option Addr) (lc : Nat) (l : List WantX) (w : World) (hr : ItemsX w a cap items) (hil : items.length ≤ 40) (hok : ∀ x ∈ items, ItemOk x ∧ x.wants.length ≤ 6) (hone : OneEach items) (hl : WantsX w (.slice la l.length lc) l) (hll : l.length ≤ 6) (hlo : ∀ x ∈ l, WantOk x) :
    Calls Tryd.prog 28 #[.slice a items.length cap, .slice la l.length lc] w fun e w' => ReachE (reachedK items l) e w' ∧ Below w.heap.size w w' := by
  obtain ⟨i0, hi, iz0, iz1, iz2⟩ := info_parts info_str
  obtain ⟨j0, hj, jz0, jz1, jz2⟩ := info_parts info_want
  have HIX := hid' hr
  have HOK := hid' hok
  have HON := hid' hone
  have HL := hid' hl
  have HLO := hid' hlo
  have HR0 : Hid (RInv items l [] (l.drop 0)) := by unfold Hid; rw [List.drop_zero]; exact RInv.start items l
  have HE0 : Hid (reachedK items l = reachGo items 100 [] (l.drop 0)) := rfl
  generalize reachedK items l = res at *
  clear hr hok hone hl hlo
  go_enter Tryd.func28, Tryd.ntmps28
  go_wp2
  go_loopw [6, 7, 8] (fun ov tv i wr => ∃ (k : Nat) (out : List Tx) (todo : List WantX) (ta : Option Addr) (tc f : Nat), k ≤ todo.length ∧ i = .int .i64 k ∧ tv = .slice ta todo.length tc ∧ wr.ownsRow w.heap.size 9 1 ov out.length (out.flatMap strC) ∧ out.length ≤ 6 ∧ todo.length ≤ 6 + 6 * out.length ∧ Hid (Below w.heap.size w wr ∧ WantsX wr (.slice ta todo.length tc) todo ∧ (∀ x ∈ todo, WantOk x) ∧ RInv items l out (todo.drop k) ∧ 7 * (6 - out.length) + (todo.length - k) < f ∧ res = reachGo items f out (todo.drop k))) (fun ov tv i _ => 7 * (6 - lenK ov) + (lenK tv - (intOf i).toNat))
  case atStart => exact ⟨0, [], l, la, lc, 100, Nat.zero_le _, rfl, rfl, World.ownsRow_nil _ _ _ _, by simp, by simp; omega, Below.refl _ _, HL.out, HLO.out, HR0.out, by simp; omega, HE0.out⟩
  case round =>
    obtain ⟨k, out, todo, ta, tc, f, hk, rfl, rfl, hown, ho6, htl, hall⟩ := hrel
    obtain ⟨oa, oc, rfl⟩ := own_slice hown
    obtain ⟨hbel, hwx, hwo, hri, hf, hres⟩ := hall.out
    have HBE := hid' hbel
    have HWX := hid' hwx
    have HWO := hid' hwo
    have HRI := hid' hri
    have hz := hbel.size
    obtain ⟨f', rfl⟩ : ∃ f', f = f' + 1 := ⟨f - 1, by omega⟩
    have HF := hid' hf
    have HRE := hid' hres
    clear hall hbel hwx hwo hri hf hres
    by_cases hlt : k < todo.length
    · have klt : (k : Int) < (todo.length : Int) := by omega
      have k0 : (0 : Int) ≤ (k : Int) := by omega
      obtain ⟨g, o, hta, hg, hc⟩ := (WantsX.r HWX.out).wants rfl hlt
      subst hta
      obtain ⟨c0, -, -, -⟩ := hc k hlt
      have HXO := hid' (HWO.out todo[k] (List.getElem_mem hlt))
      have HNA := hid' (fun w => names_any todo[k].name w HXO.out.name)
      have HOL := hid' (rch_old (items := items) (f := f') (out := out) hlt)
      have HNO := hid' (rch_none (items := items) (f := f') (out := out) hlt)
      have HNE := hid' (fun it => rch_new (items := items) (f := f') (out := out) (it := it) hlt)
      have HDR : Hid (todo.drop k = todo[k] :: todo.drop (k + 1)) := List.drop_eq_getElem_cons hlt
      have HTX : Hid (tx (bs (nameK todo[k].name)) = nameK todo[k].name) := tx_bs _
      have hns : (bs (nameK todo[k].name)).size ≤ 3 := by rw [bs_size]; exact nameK_len _
      have HFD := hid' (HON.out.find (nameK todo[k].name))
      have HV1 : Hid (tx (⟨#[49, 46, 48, 46, 48]⟩ : ByteArray) = ver1) := rfl
      clear hc
      go_wp2_with fail
      refine (HNA.out _).mono ?_
      rintro e w1 ⟨rfl, hb1⟩
      have HHA := hid' (khas_any oa out.length oc out (bs (nameK todo[k].name)) w1 ⟨rfl, RowR.of_own (own_below hown hb1)⟩ (by omega))
      rw [HTX.out] at HHA
      have HB1 := hid' (HBE.out.trans (hb1.mono hz))
      have HW1 := hid' (RowX.below HWX.out hb1)
      have hown1 := own_below hown hb1
      clear hb1 hown c0
      rcases hh : hasR out (nameK todo[k].name) with _ | _
      · rw [hh] at HHA
        have HWA := hid' (wants_any a cap items (bs (nameK todo[k].name)) (⟨#[49, 46, 48, 46, 48]⟩ : ByteArray) w1 (HIX.out.below HB1.out).r (by omega) (fun x hx => (HOK.out x hx).1) (by omega) (by show 5 ≤ 100000; omega))
        rw [HTX.out, HV1.out] at HWA
        rcases HFD.out with ⟨it, hit, hin, hfi⟩ | ⟨hfi, -⟩
        · have HF2 := hid' (HRE.out.trans (HNE.out it hh hfi))
          have HRN := hid' (RInv.new HON.out (by have := HRI.out; rw [HDR.out] at this; exact this) (fun h => by have := hasR_mem.2 h; rw [hh] at this; simp at this) hit hin)
          rw [hfi] at HWA
          have HIO := hid' (HOK.out it hit)
          have HIN := hid' hit
          simp only [wantsV] at HWA
          have hs6 := HRN.out.six
          simp at hs6
          clear hh hfi hin hit HOL HNO HNE HFD
          have HIV := hid' (HIX.out.each it HIN.out)
          obtain ⟨ia, ic, hiv⟩ := RowX.form HIV.out
          rw [hiv] at HWA
          have htp : 0 < todo.length := by omega
          have hil6 := HIO.out.2
          have HTL : Hid ((todo.flatMap wantC).length = todo.length * 4) := flat_len wantC 4 wantC_len todo
          have HIL : Hid ((it.wants.flatMap wantC).length = it.wants.length * 4) := flat_len wantC 4 wantC_len it.wants
          have HWO2 : Hid (∀ x ∈ todo ++ it.wants, WantOk x) := fun x hx => by
            rcases List.mem_append.1 hx with hx | hx
            · exact HWO.out x hx
            · exact HIO.out.1.wants x hx
          have HDR2 : Hid ((todo ++ it.wants).drop (k + 1) = todo.drop (k + 1) ++ it.wants) := List.drop_append_of_le_length (by omega)
          rw [← HDR2.out] at HRN
          have HNM : Hid (strC (nameK todo[k].name) = [.string (bs (nameK todo[k].name))]) := rfl
          clear HDR2 HNA HDR HTX
          generalize nameK todo[k].name = nm at *
          generalize bs nm = nb at *
          have HIF : Hid (it.wv = .slice ia it.wants.length ic) := hiv
          clear hiv HIV
          go_wp2_with fail
          refine HHA.out.mono ?_
          rintro e w2 ⟨rfl, rfl⟩
          go_wp2_with fail
          refine HWA.out.mono ?_
          rintro e w3 ⟨rfl, hb3⟩
          have HB3 := hid' (HB1.out.trans (hb3.mono HB1.out.size))
          have hown3 := own_below hown1 hb3
          have HW3 := hid' (RowX.below HW1.out hb3)
          have hz3 : w.heap.size ≤ w3.heap.size := HB3.out.size
          clear hb3 hown1 HW1 HWX
          by_cases hw0 : 0 < it.wants.length
          · obtain ⟨ig, io, hia, -, -⟩ := (WantsX.r (by have := (HIX.out.each it HIN.out); rw [HIF.out] at this; exact this)).at' hw0
            subst hia
            have HNW6 : Hid (∀ W : World, WantsX W it.wv it.wants → ∀ j u, (it.wants.flatMap wantC)[j]? = some u → W.cell? ((⟨ig, io, none⟩ : Addr).add j) = some u) := fun W h => by
              rw [HIF.out] at h
              exact row_news (WantsX.r h) hw0
            go_wp2_with (first | (at_builtin; refine wpList_append_lies _ rfl _ _ 35 rfl w.heap.size 9 i0 (.string ByteArray.empty) 1 16 Tryd.underlying35 hi iz0 iz1 iz2 rfl (by omega) _ _ _ rfl (hown3.alloc _) ⟨w3.heap.size, 0, none⟩ 1 1 [.string nb] rfl rfl (by first | exact cell_one_new _ _ _) (one_str _) (by omega) (by unfold maxLen; omega) (by omega) (by simp; omega) (w3.heap.size + 1) (by simp) ?_; intro g5 cap5 w5 hown5 hgrow5 hat5 hlt5; have hB5 := below_grow hgrow5 hown3 HB3.out hz3 ((Below.refl _ _).alloc (Nat.le_refl _) _); have HW5 := hid' (row_push hgrow5 (hown3.alloc _) ((Below.refl _ _).alloc (Nat.le_refl _) _) HW3.out (by decide)); have hz5 := hB5.size; have hnw5 := row_news (WantsX.r HW5.out) htp; clear hgrow5) | (at_builtin; refine wpList_append_lies _ rfl _ _ 39 rfl w.heap.size 52 j0 (.agg #[.int .i64 0, .int .i64 0, .int .i64 0, .int .i64 0]) 4 32 Tryd.underlying39 hj jz0 jz1 jz2 rfl (by omega) _ _ _ rfl (World.ownsRow_nil _ _ _ _) ⟨g, o, none⟩ todo.length tc (todo.flatMap wantC) rfl HTL.out hnw5 (wants_one todo) htp (by unfold maxLen; omega) (by omega) hz5 w5.heap.size rfl ?_; intro g6 cap6 w6 hown6 hgrow6 hat6 hlt6; rw [Nat.zero_add, List.nil_append] at hown6; have hgr6 : w5.grownBy w6 none := hgrow6; have hB6 := hB5.grown hgr6 hz5 (fun q hq => by simp at hq); have hown6o := World.ownsRow.kept hown5 hgr6 (.inr (by simp [Value.ownBlock])); have hz6 := hB6.size; have HI6 := hid' ((HIX.out.below hB6).each it HIN.out); clear hgrow6 hgr6 hown5 hnw5) | (at_builtin; refine wpList_append_lies _ rfl _ _ 39 rfl w.heap.size 52 j0 (.agg #[.int .i64 0, .int .i64 0, .int .i64 0, .int .i64 0]) 4 32 Tryd.underlying39 hj jz0 jz1 jz2 rfl (by omega) _ _ _ rfl hown6 ⟨ig, io, none⟩ it.wants.length ic (it.wants.flatMap wantC) rfl HIL.out (HNW6.out _ HI6.out) (wants_one it.wants) hw0 (by unfold maxLen; omega) (by omega) hz6 w6.heap.size rfl ?_; intro g7 cap7 w7 hown7 hgrow7 hat7 hlt7; have hB7 := hB6.grown hgrow7 hz6 (fun q hq => (hown6.lt q hq).1); have hown7o := own_kept hown6o hgrow7 hown6 (by decide); clear hgrow7 hown6))
            have e1 : (todo ++ it.wants).length = todo.length + it.wants.length := by simp
            have HO7 : Hid (w7.ownsRow w.heap.size 9 1 (.slice (some ⟨g5, 0, none⟩) (out.length + 1) cap5) (out ++ [nm]).length ((out ++ [nm]).flatMap strC)) := by
              unfold Hid
              rw [List.flatMap_append, List.length_append]
              simp only [List.flatMap_cons, List.flatMap_nil, List.append_nil, List.length_cons, List.length_nil]
              rw [HNM.out]
              exact hown7o
            have HX7 : Hid (WantsX w7 (.slice (some ⟨g7, 0, none⟩) (todo ++ it.wants).length cap7) (todo ++ it.wants)) := by
              refine RowX.of_own (base := w.heap.size) ?_
              rw [e1, List.flatMap_append]
              exact hown7
            have HB7 := hid' hB7
            have HT2 : Hid ((todo ++ it.wants).length ≤ 6 + 6 * (out ++ [nm]).length) := by unfold Hid; simp; omega
            have HF3 : Hid (7 * (6 - (out ++ [nm]).length) + ((todo ++ it.wants).length - (k + 1)) < f') := by unfold Hid; have := HF.out; simp; omega
            clear hown7 hown7o hB5 hB6 hB7 hown6o hown3
            go_wp2
            go_roundw
            case rel => exact ⟨k + 1, out ++ [nm], todo ++ it.wants, _, cap7, f', by simp; omega, by go_num, by rw [e1], HO7.out, by simp; omega, HT2.out, HB7.out, HX7.out, HWO2.out, HRN.out, HF3.out, HF2.out⟩
            case measure => simp [intOf, lenK] <;> omega
          · have hw00 : it.wants.length = 0 := by omega
            have HWN : Hid (it.wants = []) := List.length_eq_zero_iff.1 hw00
            rw [hw00]
            go_wp2_with (first | (at_builtin; refine wpList_append_lies _ rfl _ _ 35 rfl w.heap.size 9 i0 (.string ByteArray.empty) 1 16 Tryd.underlying35 hi iz0 iz1 iz2 rfl (by omega) _ _ _ rfl (hown3.alloc _) ⟨w3.heap.size, 0, none⟩ 1 1 [.string nb] rfl rfl (by first | exact cell_one_new _ _ _) (one_str _) (by omega) (by unfold maxLen; omega) (by omega) (by simp; omega) (w3.heap.size + 1) (by simp) ?_; intro g5 cap5 w5 hown5 hgrow5 hat5 hlt5; have hB5 := below_grow hgrow5 hown3 HB3.out hz3 ((Below.refl _ _).alloc (Nat.le_refl _) _); have HW5 := hid' (row_push hgrow5 (hown3.alloc _) ((Below.refl _ _).alloc (Nat.le_refl _) _) HW3.out (by decide)); have hz5 := hB5.size; have hnw5 := row_news (WantsX.r HW5.out) htp; clear hgrow5) | (at_builtin; refine wpList_append_lies _ rfl _ _ 39 rfl w.heap.size 52 j0 (.agg #[.int .i64 0, .int .i64 0, .int .i64 0, .int .i64 0]) 4 32 Tryd.underlying39 hj jz0 jz1 jz2 rfl (by omega) _ _ _ rfl (World.ownsRow_nil _ _ _ _) ⟨g, o, none⟩ todo.length tc (todo.flatMap wantC) rfl HTL.out hnw5 (wants_one todo) htp (by unfold maxLen; omega) (by omega) hz5 w5.heap.size rfl ?_; intro g6 cap6 w6 hown6 hgrow6 hat6 hlt6; rw [Nat.zero_add, List.nil_append] at hown6; have hgr6 : w5.grownBy w6 none := hgrow6; have hB6 := hB5.grown hgr6 hz5 (fun q hq => by simp at hq); have hown6o := World.ownsRow.kept hown5 hgr6 (.inr (by simp [Value.ownBlock])); have hz6 := hB6.size; have HI6 := hid' ((HIX.out.below hB6).each it HIN.out); clear hgrow6 hgr6 hown5 hnw5) | (at_builtin; refine wpList_append_zero rfl _ _ 39 rfl w.heap.size 52 j0 4 Tryd.underlying39 hj _ _ _ rfl hown6 ia ic rfl ?_))
            have e1 : (todo ++ it.wants).length = todo.length := by rw [HWN.out]; simp
            have HO7 : Hid (w6.ownsRow w.heap.size 9 1 (.slice (some ⟨g5, 0, none⟩) (out.length + 1) cap5) (out ++ [nm]).length ((out ++ [nm]).flatMap strC)) := by
              unfold Hid
              rw [List.flatMap_append, List.length_append]
              simp only [List.flatMap_cons, List.flatMap_nil, List.append_nil, List.length_cons, List.length_nil]
              rw [HNM.out]
              exact hown6o
            have HX7 : Hid (WantsX w6 (.slice (some ⟨g6, 0, none⟩) (todo ++ it.wants).length cap6) (todo ++ it.wants)) := by
              refine RowX.of_own (base := w.heap.size) ?_
              rw [e1, List.flatMap_append, HWN.out]
              simp only [List.flatMap_nil, List.append_nil]
              exact hown6
            have HB7 := hid' hB6
            have HT2 : Hid ((todo ++ it.wants).length ≤ 6 + 6 * (out ++ [nm]).length) := by unfold Hid; rw [e1]; simp; omega
            have HF3 : Hid (7 * (6 - (out ++ [nm]).length) + ((todo ++ it.wants).length - (k + 1)) < f') := by unfold Hid; have := HF.out; rw [e1]; simp; omega
            clear hown6 hB5 hB6 hown6o hown3
            go_wp2
            go_roundw
            case rel => exact ⟨k + 1, out ++ [nm], todo ++ it.wants, _, cap6, f', by rw [e1]; omega, by go_num, by rw [e1], HO7.out, by simp; omega, HT2.out, HB7.out, HX7.out, HWO2.out, HRN.out, HF3.out, HF2.out⟩
            case measure => simp [intOf, lenK] <;> omega
        · have HF2 := hid' (HRE.out.trans (HNO.out hh hfi))
          rw [hfi] at HWA
          simp only [wantsV] at HWA
          clear hh hfi HOL HNO HNE HFD
          go_wp2_with fail
          refine HHA.out.mono ?_
          rintro e w2 ⟨rfl, rfl⟩
          go_wp2_with fail
          refine HWA.out.mono ?_
          rintro e w3 ⟨rfl, hb3⟩
          have HB3 := hid' (HB1.out.trans (hb3.mono HB1.out.size))
          clear hb3
          go_wp2
          go_ret2
          exact ⟨by rw [HF2.out]; rfl, HB3.out⟩
      · have HF2 := hid' (HRE.out.trans (HOL.out hh))
        have HRN := hid' (RInv.old (by have := HRI.out; rw [HDR.out] at this; exact this) (hasR_mem.1 hh))
        rw [hh] at HHA
        clear hh HOL HNO HNE HFD
        go_wp2_with fail
        refine HHA.out.mono ?_
        rintro e w2 ⟨rfl, rfl⟩
        go_wp2
        go_roundw
        case rel => exact ⟨k + 1, out, todo, _, tc, f', by omega, by go_num, rfl, hown1, ho6, htl, HB1.out, HW1.out, HWO.out, HRN.out, by have := HF.out; omega, HF2.out⟩
        case measure => simp [intOf, lenK] <;> omega
    · have HF2 := hid' (HRE.out.trans (rch_end hlt))
      have klt : ¬ (k : Int) < (todo.length : Int) := by omega
      have HSR : Hid (RowX strC 1 9 wr (.slice oa out.length oc) out) := RowX.of_own hown
      clear hown
      go_wp2
      go_ret2
      exact ⟨by rw [HF2.out]; exact ⟨oa, oc, rfl, HSR.out⟩, HBE.out⟩

end Hst
end Go.Proofs.YtecocheolbkneaaDoor
