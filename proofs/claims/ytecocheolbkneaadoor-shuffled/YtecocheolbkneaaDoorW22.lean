/- Kready, Kadded, Pldefs, Mpiece -/
import Derived.Test.YtecocheolbkneaaDoorW09
import Derived.Test.YtecocheolbkneaaDoorW21
import Derived.Test.YtecocheolbkneaaDoorW05
import Derived.Test.YtecocheolbkneaaDoorW06
import Derived.Test.YtecocheolbkneaaDoorW02
namespace Go.Proofs.YtecocheolbkneaaDoor
open Go.RowKit
namespace Hst
set_option maxRecDepth 100000

theorem first_new : newR firstT = (some firstS.stock, 0) := by kernel_rfl
theorem first_add : (addR firstS [97, 42]).2 = 0 := by kernel_rfl
theorem first_tree : textR (addR firstS [97, 42]).1.stock (addR firstS [97, 42]).1.packs = [97, 64, 49, 46, 48, 46, 48, 59, 98, 64, 49, 46, 48, 46, 48] := by kernel_rfl
theorem first_needs : neededR (addR firstS [97, 42]).1 = [97, 42] := by kernel_rfl
theorem SMv.below_of {b B : Nat} {w w' : World} (h : SMv b w w') (hb : B ≤ b) (hB : B ≤ w.heap.size) : Below B w w' :=
  ⟨h.os, h.tape, h.output, h.but.size, fun k hk => h.but.block k (by omega) (by omega)⟩

set_option maxHeartbeats 4000000 in
theorem ready_any (s : ByteArray) (ds : List EntryD) (w : World) (hn : newR (tx s) = (some ds, 0)) :
    Calls Tryd.prog 18 #[.string s] w fun e w' => ∃ b, e = .returned (.pointer (some ⟨b, 0, none⟩)) ∧ w.heap.size ≤ b ∧ KAt w' b ⟨ds, [], []⟩ ∧ Below w.heap.size w w' := by
  have HN1 := hid' (fun w => knew_any ⟨#[97, 64, 49, 46, 48, 46, 48, 58, 98, 42, 59, 98, 64, 49, 46, 48, 46, 48]⟩ w)
  have e1 : tx ⟨#[97, 64, 49, 46, 48, 46, 48, 58, 98, 42, 59, 98, 64, 49, 46, 48, 46, 48]⟩ = firstT := rfl
  rw [e1, first_new] at HN1
  have HN2 := hid' (fun w => knew_any s w)
  rw [hn] at HN2
  simp only [NewK] at HN1 HN2
  have HA := hid' (fun b w h => kadd_any b firstS ⟨#[97, 42]⟩ w h (by show 2 ≤ 9223372036854775807; omega))
  have e2 : tx ⟨#[97, 42]⟩ = [97, 42] := rfl
  rw [e2, first_add] at HA
  have HT := hid' (fun b w h => ktree_any b (addR firstS [97, 42]).1 w h)
  rw [first_tree, show bs [97, 64, 49, 46, 48, 46, 48, 59, 98, 64, 49, 46, 48, 46, 48] = (⟨#[97, 64, 49, 46, 48, 46, 48, 59, 98, 64, 49, 46, 48, 46, 48]⟩ : ByteArray) from rfl] at HT
  have HD := hid' (fun b w h => kneeds_any b (addR firstS [97, 42]).1 w h)
  rw [first_needs, show bs [97, 42] = (⟨#[97, 42]⟩ : ByteArray) from rfl] at HD
  have t1 : ((⟨#[97, 42]⟩ : ByteArray).toList == [97, 42]) = true := by rw [tx_toList]; rfl
  have t2 : ((⟨#[97, 64, 49, 46, 48, 46, 48, 59, 98, 64, 49, 46, 48, 46, 48]⟩ : ByteArray).toList == [97, 64, 49, 46, 48, 46, 48, 59, 98, 64, 49, 46, 48, 46, 48]) = true := by rw [tx_toList]; rfl
  have HF : Hid ((⟨firstS.stock, [], []⟩ : SiteD) = firstS) := rfl
  rw [HF.out] at HN1
  generalize (addR firstS [97, 42]).1 = s1 at *
  generalize firstS = s0 at *
  clear hn e1 e2 HF
  go_enter Tryd.func18, Tryd.ntmps18
  go_wp2_with fail
  refine (HN1.out _).mono ?_
  rintro e w1 ⟨p, rfl, hb1, y, rfl, hy, hk1⟩
  have HB1 := hid' hb1
  have HK1 := hid' hk1
  have hz1 := hb1.size
  clear hb1 hk1
  go_wp2_with fail
  refine (HA.out y _ HK1.out).mono ?_
  rintro e w2 ⟨rfl, hm2, hk2⟩
  have HB2 := hid' (HB1.out.trans (hm2.below_of hy (by omega)))
  have HK2 := hid' hk2
  have hz2 := HB2.out.size
  clear hm2 hk2
  go_wp2_with fail
  refine (HT.out y _ HK2.out).mono ?_
  rintro e w3 ⟨rfl, hb3⟩
  have HB3 := hid' (HB2.out.trans (hb3.mono (by omega)))
  have HK3 := hid' (HK2.out.below hb3)
  have hz3 := HB3.out.size
  clear hb3
  go_wp2_with fail
  refine (HD.out y _ HK3.out).mono ?_
  rintro e w4 ⟨rfl, hb4⟩
  have HB4 := hid' (HB3.out.trans (hb4.mono (by omega)))
  have hz4 := HB4.out.size
  clear hb4
  go_wp2_with fail
  refine (HN2.out _).mono ?_
  rintro e w5 ⟨p, rfl, hb5, x, rfl, hx, hk5⟩
  have HB5 := hid' (HB4.out.trans (hb5.mono (by omega)))
  have HK5 := hid' hk5
  clear hb5 hk5
  go_wp2
  go_ret
  exact ⟨x, rfl, by omega, HK5.out, HB5.out⟩

end Hst
end Go.Proofs.YtecocheolbkneaaDoor
namespace Go.Proofs.YtecocheolbkneaaDoor
open Go.RowKit
namespace Hst
set_option maxRecDepth 100000

theorem aw_step {items : List ItemX} {sd : SiteD} {site l : List WantX} {k : Nat} (hk : k < l.length) (h : AddsWell items sd site (l.drop k)) :
    ((addR sd (wantT l[k])).2 = 0 → SettledK (addR sd (wantT l[k])).1 items (site ++ [l[k]]) ∧ AddsWell items (addR sd (wantT l[k])).1 (site ++ [l[k]]) (l.drop (k + 1))) ∧
    ((addR sd (wantT l[k])).2 ≠ 0 → (addR sd (wantT l[k])).1 = sd ∧ ((addR sd (wantT l[k])).2 = 8 ∨ (addR sd (wantT l[k])).2 = 9) ∧ SettledK sd items site ∧ AddsWell items sd site (l.drop (k + 1))) := by
  rw [List.drop_eq_getElem_cons hk] at h
  exact h
theorem ak_yes {sd : SiteD} {site l : List WantX} {k : Nat} (hk : k < l.length) (h : (addR sd (wantT l[k])).2 = 0) : addsK sd site (l.drop k) = addsK (addR sd (wantT l[k])).1 (site ++ [l[k]]) (l.drop (k + 1)) := by
  rw [List.drop_eq_getElem_cons hk, addsK, if_pos h]
theorem ak_no {sd : SiteD} {site l : List WantX} {k : Nat} (hk : k < l.length) (h : ¬ (addR sd (wantT l[k])).2 = 0) : addsK sd site (l.drop k) = addsK sd site (l.drop (k + 1)) := by
  rw [List.drop_eq_getElem_cons hk, addsK, if_neg h]
theorem ak_end {sd : SiteD} {site l : List WantX} {k : Nat} (hk : ¬ k < l.length) : addsK sd site (l.drop k) = (sd, site) := by
  rw [List.drop_of_length_le (by omega)]; rfl
theorem SAt.grownW {w w' : World} {base sz n b : Nat} {u : Value} {xs : List Value} {s : SiteX} (h : SAt w b s) (hg : w.grownBy w' u.ownBlock) (ho : w.ownsRow base 52 sz u n xs) : SAt w' b s := by
  have hblk := blk_grown hg ho h.lt h.tag (by decide)
  have hc : ∀ o, w'.cell? ⟨b, o, none⟩ = w.cell? ⟨b, o, none⟩ := fun o => World.cell?_of_block (w := w) hblk
  have hf : ∀ o, w'.frozen? ⟨b, o, none⟩ = w.frozen? ⟨b, o, none⟩ := fun o => World.frozen?_of_block (w := w) hblk
  obtain ⟨v0, e0, r0⟩ := h.stock
  obtain ⟨e1, r1⟩ := h.needs
  obtain ⟨v2, e2, r2⟩ := h.tree
  refine ⟨Nat.lt_of_lt_of_le h.lt hg.size, ?_, ⟨v0, by rw [hc]; exact e0, r0.1.grown hg ho (by decide), fun e he => (r0.2 e he).grown hg ho (by decide) (by decide)⟩, ⟨by rw [hc]; exact e1, r1.grown hg ho (by decide) (by decide)⟩, ⟨v2, by rw [hc]; exact e2, r2.1.grown hg ho (by decide), fun p hp => (r2.2 p hp).grown hg ho (by decide) (by decide)⟩, by rw [hf]; exact h.f1, by rw [hf]; exact h.f2⟩
  unfold tagOf
  rw [hblk]
  exact h.tag
theorem KAt.grownW {w w' : World} {base sz n b : Nat} {u : Value} {xs : List Value} {s : SiteD} (h : KAt w b s) (hg : w.grownBy w' u.ownBlock) (ho : w.ownsRow base 52 sz u n xs) : KAt w' b s := by
  obtain ⟨sx, h1, h2⟩ := h
  exact ⟨sx, h1.grownW hg ho, h2⟩
theorem KAt.tag {w : World} {b : Nat} {sd : SiteD} (h : KAt w b sd) : tagOf w b = some 98 := by
  obtain ⟨sx, h1, _⟩ := h
  exact h1.tag

theorem step_smv {α : Type} (f : α → List Value) {e k base b : Nat} {W w w1 wr : World} {v : Value} {acc : List α} {x : α} {g cap : Nat} (hbase : base = w.heap.size) (hown : wr.ownsRow base e k v acc.length (acc.flatMap f)) (hm : SMv b w wr) (hbb : b < w.heap.size) (hb4 : Below wr.heap.size wr W)
    (hown1 : w1.ownsRow base e k (.slice (some ⟨g, 0, none⟩) (acc.length + 1) cap) (acc.length + 1) (acc.flatMap f ++ f x)) (hgrow : W.grownBy w1 v.ownBlock) :
    w1.ownsRow base e k (.slice (some ⟨g, 0, none⟩) (acc.length + 1) cap) (acc ++ [x]).length ((acc ++ [x]).flatMap f) ∧ SMv b w w1 := by
  subst hbase
  have hz := hm.but.size
  refine ⟨?_, ?_⟩
  · have e1 : (acc ++ [x]).flatMap f = acc.flatMap f ++ f x := by simp
    rw [e1]
    simpa using hown1
  · have hB : Below w.heap.size wr w1 := (hb4.mono hz).grown hgrow (Nat.le_trans hz hb4.size) (fun k hk => (hown.lt k hk).1)
    refine ⟨hB.os.trans hm.os, hB.tape.trans hm.tape, hB.output.trans hm.output, Nat.le_trans hz hB.size, fun g hg hne => (hB.block g hg).trans (hm.but.block g hg hne), fun _ => ?_⟩
    rw [← hm.but.tag hbb]
    unfold tagOf
    rw [hB.block b hbb]
theorem ItemsX.off {w w' : World} {a : Option Addr} {cap b : Nat} {l : List ItemX} (h : ItemsX w a cap l) (hb : But b w w') (ht : tagOf w b = some 98) : ItemsX w' a cap l :=
  ⟨RowX.off h.row hb (by rw [ht]; decide), fun x hx => RowX.off (h.each x hx) hb (by rw [ht]; decide)⟩
theorem WantsX.r {w : World} {a : Option Addr} {cap : Nat} {l : List WantX} (h : WantsX w (.slice a l.length cap) l) : RowR w a l.length cap 4 (l.flatMap wantC) := by
  obtain ⟨a', c', e, hr, _⟩ := h
  simp at e
  obtain ⟨rfl, rfl⟩ := e
  exact hr
theorem WantsX.tag {w : World} {g o cap : Nat} {l : List WantX} (h : WantsX w (.slice (some ⟨g, o, none⟩) l.length cap) l) (h0 : 0 < l.length) : tagOf w g = some 52 := by
  obtain ⟨a', c', e, _, ht⟩ := h
  simp at e
  obtain ⟨rfl, rfl⟩ := e
  exact ht g o h0 rfl

set_option maxHeartbeats 8000000 in
theorem added_any (b : Nat) (sd : SiteD) (a : Option Addr) (cap : Nat) (items : List ItemX) (la : Option Addr) (lc : Nat) (l : List WantX) (w : World) (h : KAt w b sd) (hr : ItemsX w a cap items) (hil : items.length ≤ 1000) (hiw : ∀ x ∈ items, x.wants.length ≤ 6) (hio : ∀ x ∈ items, ItemOk x) (hlr : WantsX w (.slice la l.length lc) l) (hll : l.length ≤ 1000) (hlo : ∀ x ∈ l, WantOk x) (haw : AddsWell items sd [] l) :
    Calls Tryd.prog 20 #[.pointer (some ⟨b, 0, none⟩), .slice a items.length cap, .slice la l.length lc] w fun e w' => ∃ (sa : Option Addr) (sc : Nat), e = .returned (.tuple #[.slice sa (addsK sd [] l).2.length sc, .bool true]) ∧ WantsX w' (.slice sa (addsK sd [] l).2.length sc) (addsK sd [] l).2 ∧ KAt w' b (addsK sd [] l).1 ∧ SMv b w w' := by
  obtain ⟨i0, hi, iz0, iz1, iz2⟩ := info_parts info_want
  have HIT := hid' hr
  have HLR := hid' hlr
  have HLO := hid' hlo
  have HIO := hid' hio
  have HIW := hid' hiw
  have HK0 := hid' h
  have HB0 : Hid (SMv b w w) := SMv.of_below (Below.refl _ _)
  have HTG := hid' h.tag
  have HA0 : Hid (AddsWell items sd [] (l.drop 0)) := haw
  have HE : Hid (addsK sd [] l = addsK sd [] (l.drop 0)) := rfl
  have hbw := h.lt
  generalize addsK sd [] l = res at *
  clear hr hlr hlo hio hiw h haw
  go_enter Tryd.func20, Tryd.ntmps20
  go_wp2
  go_loopw [8, 9] (fun v i wr => ∃ (k : Nat) (s : SiteD) (site : List WantX), k ≤ l.length ∧ site.length ≤ k ∧ i = .int .i64 k ∧ wr.ownsRow w.heap.size 52 4 v site.length (site.flatMap wantC) ∧ w.heap.size ≤ wr.heap.size ∧ Hid (SMv b w wr ∧ KAt wr b s ∧ (∀ x ∈ site, WantOk x) ∧ AddsWell items s site (l.drop k) ∧ res = addsK s site (l.drop k))) (fun _ i _ => l.length - (intOf i).toNat)
  case atStart => exact ⟨0, sd, [], Nat.zero_le _, by simp, rfl, World.ownsRow_nil _ _ _ _, Nat.le_refl _, ⟨HB0.out, HK0.out, by simp, HA0.out, HE.out⟩⟩
  case round =>
    obtain ⟨k, s, site, hk, hsl, rfl, hown, hz, hall⟩ := hrel
    obtain ⟨va, vc, rfl⟩ := own_slice hown
    have HBW := hid' hall.out.1
    have HKW := hid' hall.out.2.1
    have HSO := hid' hall.out.2.2.1
    have HAW := hid' hall.out.2.2.2.1
    have HRE := hid' hall.out.2.2.2.2
    clear hall
    by_cases hlt : k < l.length
    · obtain ⟨g, o, hla, hg, hc⟩ := (WantsX.r HLR.out).wants rfl hlt
      subst hla
      have hgb : ¬ g = b := fun e => by
        have h1 := WantsX.tag HLR.out (by omega)
        rw [e, HTG.out] at h1
        exact absurd h1 (by decide)
      have HCL : Hid (∀ W : World, SMv b w W → W.cell? ⟨g, o + k * 4, none⟩ = some (.int .i64 l[k].name) ∧ W.cell? ⟨g, o + k * 4 + 1, none⟩ = some (.int .i64 l[k].sign) ∧ W.cell? ⟨g, o + k * 4 + 2, none⟩ = some (.int .i64 l[k].major) ∧ W.cell? ⟨g, o + k * 4 + 3, none⟩ = some (.int .i64 l[k].minor)) := fun W hW => by
        obtain ⟨g', o', ha', _, hc'⟩ := (WantsX.r (RowX.off HLR.out hW.but (by rw [HTG.out]; decide))).wants rfl hlt
        simp at ha'
        obtain ⟨rfl, rfl⟩ := ha'
        exact hc' k hlt
      have hxo := HLO.out l[k] (List.getElem_mem hlt)
      have HXO := hid' hxo
      have HST := hid' (aw_step hlt HAW.out)
      have HY := hid' (ak_yes (sd := s) (site := site) hlt)
      have HN := hid' (ak_no (sd := s) (site := site) hlt)
      have HNA := hid' (fun w => names_any l[k].name w hxo.name)
      have HRN := hid' (fun w => rng_any l[k] w hxo)
      have HSM : Hid (bs (nameK l[k].name) ++ bs (rngK l[k]) = bs (wantT l[k])) := bs_append _ _
      have s1 : (bs (nameK l[k].name)).size ≤ 3 := by rw [bs_size]; exact nameK_len _
      have s2 : (bs (rngK l[k])).size ≤ 9 := by rw [bs_size]; exact rngK_len _
      have HAD := hid' (fun w h => kadd_any b s (bs (wantT l[k])) w h (by rw [bs_size]; have := wantT_len l[k]; omega))
      rw [tx_bs] at HAD
      have HTR := hid' (fun w h => ktree_any b s w h)
      have HND := hid' (fun w h => kneeds_any b s w h)
      clear hxo hc HAW
      generalize addR s (wantT l[k]) = ar at *
      generalize bs (wantT l[k]) = bw at *
      generalize bs (nameK l[k].name) = b1 at *
      generalize bs (rngK l[k]) = b2 at *
      generalize l[k] = x at *
      obtain ⟨xn, xs, xa, xi⟩ := x
      simp only at HCL HNA HRN
      obtain ⟨s', ae⟩ := ar
      simp only at HST HY HN HAD
      have HSE := hid' (fun (s : SiteD) (sa : Option Addr) (sc : Nat) (st : List WantX) w h1 h2 h3 h4 h5 h6 => settled_any b s a cap items sa sc st w h1 h2 hil HIW.out HIO.out h3 h4 h5 h6)
      generalize bs (textR s.stock s.packs) = tb at *
      generalize bs (neededR s) = nb at *
      have k0 : (0 : Int) ≤ (k : Int) := by omega
      have k1 : (k : Int) < (l.length : Int) := by omega
      go_wp2_with fail
      refine (HTR.out _ HKW.out).mono ?_
      rintro e w1 ⟨rfl, hb1⟩
      have HB1 := hid' (HBW.out.trans (SMv.of_below hb1))
      have HK1 := hid' (HKW.out.below hb1)
      have hown1 := own_below hown hb1
      have hz1 := hb1.size
      clear hb1 hown
      go_wp2_with fail
      refine (HND.out _ HK1.out).mono ?_
      rintro e w2 ⟨rfl, hb2⟩
      have HB2 := hid' (HB1.out.trans (SMv.of_below hb2))
      have HK2 := hid' (HK1.out.below hb2)
      have hown2 := own_below hown1 hb2
      have hz2 := hb2.size
      clear hb2 hown1
      obtain ⟨c0, c1, c2, c3⟩ := HCL.out w2 HB2.out
      have hgw : g < w2.heap.size := by omega
      have HKD := hid' (HK2.out.below (w' := w2.drew) (Below.refl _ _).drew)
      have HBD := hid' (HB2.out.trans (SMv.of_below (w' := w2.drew) (Below.refl _ _).drew))
      go_wp2
      have m1 : ¬ (9223372036854775807 < b1.size + b2.size) := by omega
      have hsm : b1 ++ b2 = bw := HSM.out
      go_region_held3 (fun w' => w'.cell? ⟨g, o + k * 4, none⟩ = some (.int .i64 xn) ∧ w'.cell? ⟨g, o + k * 4 + 1, none⟩ = some (.int .i64 xs) ∧ w'.cell? ⟨g, o + k * 4 + 2, none⟩ = some (.int .i64 xa) ∧ w'.cell? ⟨g, o + k * 4 + 3, none⟩ = some (.int .i64 xi)) (go_keep)
        (first | (go_at_call 24; refine (HNA.out _).mono ?_; rintro e w3 ⟨rfl, hb3⟩; have hy3 := (bcell hb3).1; have hz3 := hb3.size; simp at hz3; have z0 := hy3 g (o + k * 4) (by simp; omega); have z1 := hy3 g (o + k * 4 + 1) (by simp; omega); have z2 := hy3 g (o + k * 4 + 2) (by simp; omega); have z3 := hy3 g (o + k * 4 + 3) (by simp; omega); simp at z0 z1 z2 z3) | (go_at_call 25; refine (HRN.out _).mono ?_; rintro e w4 ⟨rfl, hb4⟩; have hy4 := (bcell hb4).1; have hz4 := hb4.size; have y0 := hy4 g (o + k * 4) (by omega); have y1 := hy4 g (o + k * 4 + 1) (by omega); have y2 := hy4 g (o + k * 4 + 2) (by omega); have y3 := hy4 g (o + k * 4 + 3) (by omega)) | (go_at_call 23; refine (HAD.out _ ((HKD.out.below hb3).below hb4)).mono ?_; rintro e w5 ⟨rfl, hm5, hk5⟩; have u0 := hm5.but.cell (g := g) (o := o + k * 4) (by omega) hgb; have u1 := hm5.but.cell (g := g) (o := o + k * 4 + 1) (by omega) hgb; have u2 := hm5.but.cell (g := g) (o := o + k * 4 + 2) (by omega) hgb; have u3 := hm5.but.cell (g := g) (o := o + k * 4 + 3) (by omega) hgb))
      have f0 : w5.cell? ⟨g, o + k * 4, none⟩ = some (.int .i64 xn) := by rw [u0, y0, z0]; exact c0
      have f1 : w5.cell? ⟨g, o + k * 4 + 1, none⟩ = some (.int .i64 xs) := by rw [u1, y1, z1]; exact c1
      have f2 : w5.cell? ⟨g, o + k * 4 + 2, none⟩ = some (.int .i64 xa) := by rw [u2, y2, z2]; exact c2
      have f3 : w5.cell? ⟨g, o + k * 4 + 3, none⟩ = some (.int .i64 xi) := by rw [u3, y3, z3]; exact c3
      have hzd : w2.drew.heap.size = w2.heap.size := by simp
      have HK4 := hid' ((HKD.out.below hb3).below hb4)
      have HB4 := hid' ((HBD.out.trans (SMv.of_below hb3)).trans (SMv.of_below hb4))
      have hz5 := hm5.but.size
      have HB5 := hid' (HB4.out.trans hm5)
      have hown5 := own_bt (own_below (own_below hown2.drew hb3) hb4) hm5.but (by rw [HK4.out.tag]; decide)
      have HK5 := hid' hk5
      have hg5 : g < w5.heap.size := by omega
      clear hb3 hb4 hm5 hk5 hown2 hy3 hy4 z0 z1 z2 z3 y0 y1 y2 y3 u0 u1 u2 u3 c0 c1 c2 c3 m1
      by_cases hae : ae = 0
      · obtain ⟨hse, haw⟩ := HST.out.1 hae
        have HF := hid' (HRE.out.trans (HY.out hae))
        have HSEt := hid' hse
        have HAWt := hid' haw
        subst hae
        clear HST HY HN hse haw
        have HOX : Hid (∀ y ∈ site ++ [(⟨xn, xs, xa, xi⟩ : WantX)], WantOk y) := fun y hy => by
          rcases List.mem_append.1 hy with hy | hy
          · exact HSO.out y hy
          · rw [List.mem_singleton.1 hy]; exact HXO.out
        go_wp2_with (first | (at_builtin; refine wpList_append_lies _ rfl _ _ 39 rfl w.heap.size 52 i0 (.agg #[.int .i64 0, .int .i64 0, .int .i64 0, .int .i64 0]) 4 32 Tryd.underlying39 hi iz0 iz1 iz2 rfl (by omega) _ _ _ rfl (hown5.alloc _) ⟨w5.heap.size, 0, none⟩ 1 1 [.int .i64 xn, .int .i64 xs, .int .i64 xa, .int .i64 xi] rfl rfl (knews_4 _ _ _ _ _ _) (want_one ⟨xn, xs, xa, xi⟩) (by omega) (by unfold maxLen; omega) (by omega) (by simp; omega) (w5.heap.size + 1) (by simp) ?_; intro g6 cap6 w6 hown6 hgrow6 hat6 hlt6))
        have hal := (Below.refl w5.heap.size w5).alloc (Nat.le_refl _) (.cells #[.int .i64 xn, .int .i64 xs, .int .i64 xa, .int .i64 xi] 52)
        have R := step_smv wantC (x := ⟨xn, xs, xa, xi⟩) rfl hown5 HB5.out hbw hal hown6 hgrow6
        have HK6 := hid' ((HK5.out.below hal).grownW hgrow6 (hown5.alloc _))
        have hz6 := hgrow6.size
        simp at hz6
        have HO6 := hid' R.1
        have HB6 := hid' R.2
        have hsl1 : (site ++ [(⟨xn, xs, xa, xi⟩ : WantX)]).length = site.length + 1 := by simp
        have HSC := hid' (HSE.out s' (some ⟨g6, 0, none⟩) cap6 (site ++ [⟨xn, xs, xa, xi⟩]) w6 HK6.out (HIT.out.off HB6.out.but HTG.out).r (by rw [hsl1]; exact RowR.of_own (by have := HO6.out; rw [hsl1] at this; exact this)) (by omega) HOX.out HSEt.out)
        rw [hsl1] at HSC
        clear hown6 hgrow6 hown5 hal R
        go_wp2_with fail
        refine HSC.out.mono ?_
        rintro e w7 ⟨rfl, hb7⟩
        have HFI : Hid (SMv b w w7 ∧ KAt w7 b s' ∧ (∀ x ∈ site ++ [(⟨xn, xs, xa, xi⟩ : WantX)], WantOk x) ∧ AddsWell items s' (site ++ [⟨xn, xs, xa, xi⟩]) (l.drop (k + 1)) ∧ res = addsK s' (site ++ [⟨xn, xs, xa, xi⟩]) (l.drop (k + 1))) := ⟨HB6.out.trans (SMv.of_below hb7), HK6.out.below hb7, HOX.out, HAWt.out, HF.out⟩
        have hz7 := hb7.size
        have HO7 := hid' (own_below HO6.out hb7)
        rw [hsl1] at HO7
        clear hb7
        go_wp2
        go_roundw
        case rel => exact ⟨k + 1, s', site ++ [⟨xn, xs, xa, xi⟩], by omega, by omega, by go_num, by rw [hsl1]; exact HO7.out, by omega, HFI⟩
        case measure => simp [intOf] <;> omega
      · obtain ⟨hs', h89, hse, haw⟩ := HST.out.2 hae
        have HF := hid' (HRE.out.trans (HN.out hae))
        have HSEt := hid' hse
        have HAWt := hid' haw
        subst hs'
        clear HST HY HN hse haw f0 f1 f2 f3
        have tt : (tb.toList == tb.toList) = true := by simp
        have nn : (nb.toList == nb.toList) = true := by simp
        have e0 : (ae == 0) = false := by simp [hae]
        go_wp2_with fail
        refine (HTR.out _ HK5.out).mono ?_
        rintro e w6 ⟨rfl, hb6⟩
        have HB6 := hid' (HB5.out.trans (SMv.of_below hb6))
        have HK6 := hid' (HK5.out.below hb6)
        have hown6 := own_below hown5 hb6
        have hz6 := hb6.size
        clear hb6 hown5
        go_wp2_with fail
        refine (HND.out _ HK6.out).mono ?_
        rintro e w7 ⟨rfl, hb7⟩
        have HB7 := hid' (HB6.out.trans (SMv.of_below hb7))
        have HK7 := hid' (HK6.out.below hb7)
        have HO7 := hid' (own_below hown6 hb7)
        have hz7 := hb7.size
        have HSC := hid' (HSE.out s' va vc site w7 HK7.out (HIT.out.off HB7.out.but HTG.out).r (RowR.of_own HO7.out) (by omega) HSO.out HSEt.out)
        clear hb7 hown6
        rcases h89 with rfl | rfl
        · go_wp2_with fail
          refine HSC.out.mono ?_
          rintro e w8 ⟨rfl, hb8⟩
          have HFI : Hid (SMv b w w8 ∧ KAt w8 b s' ∧ (∀ x ∈ site, WantOk x) ∧ AddsWell items s' site (l.drop (k + 1)) ∧ res = addsK s' site (l.drop (k + 1))) := ⟨HB7.out.trans (SMv.of_below hb8), HK7.out.below hb8, HSO.out, HAWt.out, HF.out⟩
          have hz8 := hb8.size
          have HO8 := hid' (own_below HO7.out hb8)
          clear hb8
          go_wp2
          go_roundw
          case rel => exact ⟨k + 1, s', site, by omega, by omega, by go_num, HO8.out, by omega, HFI⟩
          case measure => simp [intOf] <;> omega
        · go_wp2_with fail
          refine HSC.out.mono ?_
          rintro e w8 ⟨rfl, hb8⟩
          have HFI : Hid (SMv b w w8 ∧ KAt w8 b s' ∧ (∀ x ∈ site, WantOk x) ∧ AddsWell items s' site (l.drop (k + 1)) ∧ res = addsK s' site (l.drop (k + 1))) := ⟨HB7.out.trans (SMv.of_below hb8), HK7.out.below hb8, HSO.out, HAWt.out, HF.out⟩
          have hz8 := hb8.size
          have HO8 := hid' (own_below HO7.out hb8)
          clear hb8
          go_wp2
          go_roundw
          case rel => exact ⟨k + 1, s', site, by omega, by omega, by go_num, HO8.out, by omega, HFI⟩
          case measure => simp [intOf] <;> omega
    · have HF : Hid (res = (s, site)) := by unfold Hid; rw [HRE.out, ak_end hlt]
      have HRW := hid' (show WantsX wr (.slice va site.length vc) site from RowX.of_own hown)
      clear hown
      go_wp2
      go_ret2
      refine ⟨va, vc, by rw [HF.out]; rfl, ?_, ?_, HBW.out⟩
      · rw [HF.out]; exact HRW.out
      · rw [HF.out]; exact HKW.out

end Hst
end Go.Proofs.YtecocheolbkneaaDoor
namespace Go.Proofs.YtecocheolbkneaaDoor
namespace Hst

/-- The last name of a path: what stands behind the last '/' of its first i bytes, or all. -/
def nameGo (p : Tx) : Nat → Tx
  | 0 => p
  | i + 1 => if p.getD i 0 = 47 then p.drop (i + 1) else nameGo p i
def nameP (p : Tx) : Tx := nameGo p p.length
def isPathP (p : Tx) : Bool := (splitL 47 p).all isNameR
def findE (st : List EntX) (name : Tx) (v : Int) : Option EntX := st.find? fun e => decide (e.name = name) && decide (e.ver = v)
def hasFolderP (t : List PkX) (p : Tx) : Bool := decide (folderP p = []) || hasAtP t (folderP p)
/-- One piece of a tree's text. -/
def packP (st : List EntX) (piece : Tx) : Option PkX :=
  if ((cutR 64 piece).2.2 && isPathP (cutR 64 piece).1) = false then none else
  match versionP (cutR 64 piece).2.1 with
  | none => none
  | some v => match findE st (nameP (cutR 64 piece).1) v with
    | none => none
    | some e => some ⟨(cutR 64 piece).1, e⟩
/-- The pieces, one after the other: the tree so far, the last path. -/
def packsGo (st : List EntX) (t : List PkX) (last : Tx) : List Tx → Option (List PkX)
  | [] => some t
  | p :: r => match packP st p with
    | none => none
    | some x => if less last x.path = false then none else if hasFolderP t x.path = false then none else packsGo st (withP t x) x.path r
def packsP (st : List EntX) (text : Tx) : Option (List PkX) := if text = [] then some [] else if 40 < (splitL 59 text).length then none else packsGo st [] [] (splitL 59 text)
def soundP (t : List PkX) (site : List NeedX) : Bool := (site.all fun n => meetsP t [] n) && t.all fun p => p.e.nd.all fun n => meetsP t p.path n
def loadP (s : SiteX) (text : Tx) : SiteX × Int :=
  if 4000 < text.length then (s, 4) else match packsP s.stock text with
  | none => (s, 12)
  | some t => if soundP t s.needs = false then (s, 12) else if (inUseP t s.nv s.needs).length = t.length then (⟨s.stock, s.needs, s.nv, t⟩, 0) else (s, 12)

/-! ### the document's -/
/-- last: the name at a path's end, and its folder. -/
def lastR (p : Tx) : Tx × Tx := match foldersR p with
  | _ :: f :: _ => if f = [] then (p, []) else (p.drop (f.length + 1), f)
  | _ => (p, [])
def entryOfGo (name : Tx) (v : V3) (i : Nat) : List EntryD → Option Nat
  | [] => none
  | e :: r => if (decide (e.name = name) && eq3 e.v v) = true then some i else entryOfGo name v (i + 1) r
def entryOfR (st : List EntryD) (name : Tx) (v : V3) : Option Nat := entryOfGo name v 0 st
def readGo (st : List EntryD) (l : List PackD) : List Tx → List PackD
  | [] => l
  | p :: r =>
    if (versionR (cutR 64 p).2.1).2 = true then
      match entryOfR st (lastR (cutR 64 p).1).1 (versionR (cutR 64 p).2.1).1 with
      | none => readGo st l r
      | some k => readGo st (placedR l ⟨(cutR 64 p).1, k⟩) r
    else readGo st l r
def readR (st : List EntryD) (text : Tx) : List PackD := readGo st [] (splitL 59 text)
def hangsGo (l : List PackD) (i : Nat) : List PackD → Bool
  | [] => true
  | p :: r => if (!decide (atR l p.path = some i) || (decide (0 < (lastR p.path).2.length) && (atR l (lastR p.path).2).isNone)) = true then false else hangsGo l (i + 1) r
def hangsR (l : List PackD) : Bool := hangsGo l 0 l

end Hst
end Go.Proofs.YtecocheolbkneaaDoor
namespace Go.Proofs.YtecocheolbkneaaDoor
namespace Hst

/-! ### pieces -/
theorem u8_same {x s : UInt8} (h : (x.toNat : Int) = (s.toNat : Int)) : x = s := UInt8.toNat_inj.1 (by omega)
theorem splitL_mid (s : UInt8) (b : Tx) : ∀ a : Tx, splitL (s.toNat : Int) (a ++ [s] ++ b) = splitL (s.toNat : Int) a ++ splitL (s.toNat : Int) b
  | [] => by simp [splitL]
  | x :: a => by
    have ih := splitL_mid s b a
    rw [List.cons_append, List.cons_append, splitL, splitL]
    by_cases h : (x.toNat : Int) = (s.toNat : Int)
    · rw [if_pos h, if_pos h, ih]; rfl
    · rw [if_neg h, if_neg h, ih]
      rcases e : splitL (s.toNat : Int) a with _ | ⟨q, qs⟩
      · exact absurd e (splitL_ne _ _)
      · rfl
theorem splitL_one (c : Int) : ∀ a : Tx, (∀ x ∈ a, (x.toNat : Int) ≠ c) → splitL c a = [a]
  | [], _ => rfl
  | x :: a, h => by
    rw [splitL, if_neg (h x (by simp)), splitL_one c a fun y hy => h y (List.mem_cons_of_mem _ hy)]
theorem splitL_no (c : Int) : ∀ (t : Tx), ∀ p ∈ splitL c t, ∀ x ∈ p, (x.toNat : Int) ≠ c
  | [], p, hp, x, hx => by
    simp [splitL] at hp
    subst hp
    simp at hx
  | y :: t, p, hp, x, hx => by
    rw [splitL] at hp
    by_cases h : (y.toNat : Int) = c
    · rw [if_pos h] at hp
      rcases List.mem_cons.1 hp with rfl | hp
      · simp at hx
      · exact splitL_no c t p hp x hx
    · rw [if_neg h] at hp
      rcases e : splitL c t with _ | ⟨q, qs⟩
      · exact absurd e (splitL_ne _ _)
      · rw [e] at hp
        rcases List.mem_cons.1 hp with rfl | hp
        · rcases List.mem_cons.1 hx with rfl | hx
          · exact h
          · exact splitL_no c t q (by rw [e]; simp) x hx
        · exact splitL_no c t p (by rw [e]; exact List.mem_cons_of_mem _ hp) x hx
theorem join_cons (s : Tx) (x : Tx) (r : List Tx) (h : r ≠ []) : joinT s (x :: r) = x ++ s ++ joinT s r := by
  rcases r with _ | ⟨y, r⟩
  · exact absurd rfl h
  · unfold joinT
    rw [joinGo, joinGo, joinGo]
    simp
theorem join_split (s : UInt8) : ∀ t : Tx, joinT [s] (splitL (s.toNat : Int) t) = t
  | [] => rfl
  | x :: t => by
    have ih := join_split s t
    rw [splitL]
    by_cases h : (x.toNat : Int) = (s.toNat : Int)
    · rw [if_pos h, join_cons _ _ _ (splitL_ne _ _), ih, u8_same h]; rfl
    · rw [if_neg h]
      rcases e : splitL (s.toNat : Int) t with _ | ⟨q, qs⟩
      · exact absurd e (splitL_ne _ _)
      · rw [e] at ih
        simp only
        unfold joinT at ih ⊢
        rw [joinGo] at ih ⊢
        simp only [if_true] at ih ⊢
        rw [List.cons_append, ih]
theorem split_join (s : UInt8) : ∀ l : List Tx, l ≠ [] → (∀ p ∈ l, ∀ x ∈ p, x ≠ s) → splitL (s.toNat : Int) (joinT [s] l) = l
  | [], h, _ => absurd rfl h
  | [x], _, hn => by
    have : joinT [s] [x] = x := by unfold joinT; rw [joinGo, joinGo]; simp
    rw [this]
    exact splitL_one _ _ fun y hy e => hn x (by simp) y hy (u8_same e)
  | x :: y :: r, _, hn => by
    rw [join_cons _ _ _ (by simp), splitL_mid, split_join s (y :: r) (by simp) fun p hp => hn p (List.mem_cons_of_mem _ hp), splitL_one _ _ fun z hz e => hn x (by simp) z hz (u8_same e)]
    rfl
theorem cut_mid : ∀ (a b : Tx), (∀ x ∈ a, x ≠ 64) → cutR 64 (a ++ [64] ++ b) = (a, b, true)
  | [], b, _ => by simp [cutR]
  | x :: a, b, h => by
    have h1 : ¬ (x.toNat : Int) = 64 := fun e => h x (by simp) (u8_same (s := 64) (by simpa using e))
    rw [List.cons_append, List.cons_append, cutR, if_neg h1, cut_mid a b fun y hy => h y (List.mem_cons_of_mem _ hy)]
theorem cut_eq : ∀ (l h v : Tx), cutR 64 l = (h, v, true) → l = h ++ [64] ++ v ∧ ∀ x ∈ h, x ≠ 64
  | [], h, v, e => by simp [cutR] at e
  | x :: r, h, v, e => by
    rw [cutR] at e
    by_cases h1 : (x.toNat : Int) = 64
    · rw [if_pos h1] at e
      simp only [Prod.mk.injEq, and_true] at e
      obtain ⟨rfl, rfl⟩ := e
      exact ⟨by rw [u8_same (x := x) (s := 64) (by simpa using h1)]; rfl, by simp⟩
    · rw [if_neg h1] at e
      rcases hc : cutR 64 r with ⟨h2, v2, b2⟩
      rw [hc] at e
      simp only [Prod.mk.injEq] at e
      obtain ⟨rfl, rfl, rfl⟩ := e
      obtain ⟨e1, e2⟩ := cut_eq r h2 v2 hc
      refine ⟨by rw [e1]; rfl, fun y hy => ?_⟩
      rcases List.mem_cons.1 hy with rfl | hy
      · intro e; subst e; exact h1 rfl
      · exact e2 y hy
theorem cut_none : ∀ (l h v : Tx), cutR 64 l = (h, v, false) → v = []
  | [], h, v, e => by simp [cutR] at e; exact e.2
  | x :: r, h, v, e => by
    rw [cutR] at e
    by_cases h1 : (x.toNat : Int) = 64
    · rw [if_pos h1] at e; simp at e
    · rw [if_neg h1] at e
      rcases hc : cutR 64 r with ⟨h2, v2, b2⟩
      rw [hc] at e
      simp only [Prod.mk.injEq] at e
      obtain ⟨_, rfl, rfl⟩ := e
      exact cut_none r h2 v2 hc

/-! ### versions as text -/
theorem part_text {l : Tx} (h : 0 ≤ partR l) : l = numT (partR l).toNat := by
  unfold partR at h ⊢
  by_cases hc : l.length < 1 ∨ 2 < l.length ∨ (l.length = 2 ∧ l.head? = some 48)
  · rw [if_pos hc] at h; exact absurd h (by decide)
  · rw [if_neg hc] at h ⊢
    match l, hc, h with
    | [], hc, _ => exact absurd (.inl (by simp)) hc
    | [a], hc, h =>
      rw [partGoR] at h ⊢
      by_cases ha : dig a = true
      · rw [if_pos ha] at h ⊢
        rw [partGoR] at h ⊢
        unfold dig at ha
        simp only [Bool.and_eq_true, decide_eq_true_eq] at ha
        have e : (10 * 0 + ((a.toNat : Int) - 48)).toNat = a.toNat - 48 := by omega
        unfold numT
        rw [e, if_pos (by omega)]
        have e2 : (48 + (a.toNat - 48)).toUInt8 = a := by
          rw [show 48 + (a.toNat - 48) = a.toNat by omega]
          exact UInt8.ofNat_toNat
        rw [e2]
      · rw [if_neg ha] at h; exact absurd h (by decide)
    | [a, b], hc, h =>
      rw [partGoR] at h ⊢
      by_cases ha : dig a = true
      · rw [if_pos ha] at h ⊢
        rw [partGoR] at h ⊢
        by_cases hb : dig b = true
        · rw [if_pos hb] at h ⊢
          rw [partGoR] at h ⊢
          unfold dig at ha hb
          simp only [Bool.and_eq_true, decide_eq_true_eq] at ha hb
          have ha0 : a.toNat ≠ 48 := fun e => hc (.inr (.inr ⟨by simp, by
            have : a = 48 := UInt8.toNat_inj.1 (by rw [e]; rfl)
            rw [this]; rfl⟩))
          have e : (10 * (10 * 0 + ((a.toNat : Int) - 48)) + ((b.toNat : Int) - 48)).toNat = 10 * (a.toNat - 48) + (b.toNat - 48) := by omega
          unfold numT
          rw [e, if_neg (by omega)]
          have e2 : (48 + (10 * (a.toNat - 48) + (b.toNat - 48)) / 10).toUInt8 = a := by
            rw [show 48 + (10 * (a.toNat - 48) + (b.toNat - 48)) / 10 = a.toNat by omega]
            exact UInt8.ofNat_toNat
          have e3 : (48 + (10 * (a.toNat - 48) + (b.toNat - 48)) % 10).toUInt8 = b := by
            rw [show 48 + (10 * (a.toNat - 48) + (b.toNat - 48)) % 10 = b.toNat by omega]
            exact UInt8.ofNat_toNat
          rw [e2, e3]
        · rw [if_neg hb] at h; exact absurd h (by decide)
      · rw [if_neg ha] at h; exact absurd h (by decide)
    | a :: b :: c :: r, hc, _ => exact absurd (.inr (.inl (by simp))) hc
theorem version_text {l : Tx} (h : (versionR l).2 = true) : l = vtx (versionR l).1 := by
  unfold versionR at h ⊢
  by_cases h8 : 8 < l.length
  · rw [if_pos h8] at h; exact absurd h (by simp)
  · rw [if_neg h8] at h ⊢
    by_cases h3 : (splitL 46 l).length ≠ 3
    · rw [if_pos h3] at h; exact absurd h (by simp)
    · rw [if_neg h3] at h ⊢
      have hj := join_split 46 l
      have h46 : ((46 : UInt8).toNat : Int) = 46 := rfl
      rw [h46] at hj
      match e : splitL 46 l, h3 with
      | [x, y, z], _ =>
        rw [e] at h hj
        simp only [List.getD_cons_zero, List.getD_cons_succ, Bool.and_eq_true, decide_eq_true_eq] at h ⊢
        rw [join_cons _ _ _ (by simp), join_cons _ _ _ (by simp)] at hj
        have hz : joinT [46] [z] = z := by unfold joinT; rw [joinGo, joinGo]; simp
        rw [hz] at hj
        unfold vtx verT
        rw [← part_text h.1.1, ← part_text h.1.2, ← part_text h.2, ← hj]
        simp
      | [], h3 => exact absurd (by simp) h3
      | [_], h3 => exact absurd (by simp) h3
      | [_, _], h3 => exact absurd (by simp) h3
      | _ :: _ :: _ :: _ :: _, h3 => exact absurd (by simp) h3

def txtD (st : List EntryD) (p : PackD) : Tx := p.path ++ [64] ++ vtx (verOf st p.of)
theorem text_join (st : List EntryD) : ∀ (l : List PackD) (b : Bool), textGo st b l = joinGo [59] b (l.map (txtD st))
  | [], _ => rfl
  | p :: r, b => by
    rw [textGo, List.map_cons, joinGo, text_join st r false]
    unfold txtD
    rcases b <;> simp
theorem textR_join (st : List EntryD) (l : List PackD) : textR st l = joinT [59] (l.map (txtD st)) := text_join st l true

end Hst
end Go.Proofs.YtecocheolbkneaaDoor
