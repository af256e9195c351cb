/- Agree, Kmet, Ksettled, Kready -/
import Derived.Test.YtecocheolbkneaaDoorW24
import Derived.Test.YtecocheolbkneaaDoorW17
import Derived.Test.YtecocheolbkneaaDoorW04
import Derived.Test.YtecocheolbkneaaDoorW09
namespace Go.Proofs.YtecocheolbkneaaDoor
open Go.RowKit
namespace Hst
set_option maxRecDepth 100000

theorem add_agree {sx : SiteX} {sd : SiteD} (h : SiteSame sx sd) {l : Tx} {k : Int} {x : Nat} {w : World} (ha : AddAns sx l k x w) : ∃ sx', SAt w x sx' ∧ SiteSame sx' (addR sd l).1 ∧ k = (addR sd l).2 := by
  rcases ha with ⟨h1, rfl, h2⟩ | ⟨n, hn, ⟨h1, rfl, h2⟩ | ⟨h1, nv, rfl, h2⟩⟩
  · rw [add_text h1]; exact ⟨sx, h2, h, rfl⟩
  · rw [add_many h hn h1]; exact ⟨sx, h2, h, rfl⟩
  · obtain ⟨e1, e2⟩ := add_same h hn h1 nv
    exact ⟨_, h2, e2, e1.symm⟩
theorem drop_agree {sx : SiteX} {sd : SiteD} (h : SiteSame sx sd) {l : Tx} {k : Int} {x : Nat} {w : World} (ha : DropAns sx l k x w) : ∃ sx', SAt w x sx' ∧ SiteSame sx' (dropR sd l).1 ∧ k = (dropR sd l).2 := by
  rcases ha with ⟨h1, rfl, h2⟩ | ⟨h1, nv, rfl, h2⟩
  · rw [drop_none h h1]; exact ⟨sx, h2, h, rfl⟩
  · obtain ⟨e1, e2⟩ := drop_same h h1 nv
    exact ⟨_, h2, e2, e1.symm⟩
/-- The site at a block shows this plain site. -/
def KAt (w : World) (b : Nat) (sd : SiteD) : Prop := ∃ sx, SAt w b sx ∧ SiteSame sx sd
theorem KAt.below {w w' : World} {b : Nat} {sd : SiteD} (h : KAt w b sd) (hb : Below w.heap.size w w') : KAt w' b sd := by
  obtain ⟨sx, h1, h2⟩ := h
  exact ⟨sx, h1.below hb, h2⟩
theorem KAt.lt {w : World} {b : Nat} {sd : SiteD} (h : KAt w b sd) : b < w.heap.size := by
  obtain ⟨sx, h1, h2⟩ := h
  exact h1.lt
/-- What New answers. -/
def NewK (r : Option (List EntryD)) (p : Option Addr) (base : Nat) (w' : World) : Prop := match r with
  | none => p = none
  | some ds => ∃ b, p = some ⟨b, 0, none⟩ ∧ base ≤ b ∧ KAt w' b ⟨ds, [], []⟩
theorem knew_agree {l : Tx} {k : Int} {p : Option Addr} {b1 : Nat} {w1 : World} (h1 : NewAns l k p b1 w1) : k = (newR l).2 ∧ NewK (newR l).1 p b1 w1 := by
  rcases h1 with ⟨h, rfl, rfl⟩ | ⟨h, h', rfl, rfl⟩ | ⟨h, h', es, he, h40, ⟨ht, rfl, rfl⟩ | ⟨ht, rfl, x, rfl, hx, hs, _⟩⟩
  · rw [new_long h]; exact ⟨rfl, rfl⟩
  · rw [new_text h h']; exact ⟨rfl, rfl⟩
  · rw [(new_stock h h' he).1 ht]; exact ⟨rfl, rfl⟩
  · obtain ⟨ds, e, hss, h6⟩ := (new_stock h h' he).2 ht
    rw [e]
    exact ⟨rfl, x, rfl, hx, _, hs, new_site hss h6 h40 _⟩
theorem knew_any (s : ByteArray) (w : World) :
    Calls Tryd.prog 44 #[.string s] w fun e w' => ∃ p, e = .returned (.tuple #[.pointer p, .int .i64 (newR (tx s)).2]) ∧ Below w.heap.size w w' ∧ NewK (newR (tx s)).1 p w.heap.size w' :=
  (new_any' s w).mono fun e w' ⟨p, k, he, hb, ha⟩ => by
    obtain ⟨h1, h2⟩ := knew_agree ha
    subst h1
    exact ⟨p, he, hb, h2⟩
theorem kadd_any (b : Nat) (sd : SiteD) (p : ByteArray) (w : World) (h : KAt w b sd) (hp : p.size ≤ 9223372036854775807) :
    Calls Tryd.prog 23 #[.pointer (some ⟨b, 0, none⟩), .string p] w fun e w' => e = .returned (.int .i64 (addR sd (tx p)).2) ∧ SMv b w w' ∧ KAt w' b (addR sd (tx p)).1 := by
  obtain ⟨sx, h1, h2⟩ := h
  refine (add_any' b sx p w h1 h2.sok hp).mono fun e w' ⟨k, he, hm, ha⟩ => ?_
  obtain ⟨sx', g1, g2, rfl⟩ := add_agree h2 ha
  exact ⟨he, hm, sx', g1, g2⟩
theorem kupdate_any (b : Nat) (sd : SiteD) (w : World) (h : KAt w b sd) :
    Calls Tryd.prog 26 #[.pointer (some ⟨b, 0, none⟩)] w fun e w' => e = .returned (.int .i64 (updateR sd).2) ∧ SMv b w w' ∧ KAt w' b (updateR sd).1 := by
  obtain ⟨sx, h1, h2⟩ := h
  obtain ⟨g1, g2⟩ := update_same h2 sx.nv
  refine (update_any' b sx w h1 h2.sok).mono fun e w' ⟨he, hm, ha⟩ => ?_
  exact ⟨by rw [he, g1], hm, _, ha, g2⟩
theorem kneeds_any (b : Nat) (sd : SiteD) (w : World) (h : KAt w b sd) :
    Calls Tryd.prog 45 #[.pointer (some ⟨b, 0, none⟩)] w fun e w' => e = .returned (.string (bs (neededR sd))) ∧ Below w.heap.size w w' := by
  obtain ⟨sx, h1, h2⟩ := h
  have := needs_any' b sx w h1 h2.sok
  rw [needed_same h2] at this
  exact this
theorem ktree_any (b : Nat) (sd : SiteD) (w : World) (h : KAt w b sd) :
    Calls Tryd.prog 27 #[.pointer (some ⟨b, 0, none⟩)] w fun e w' => e = .returned (.string (bs (textR sd.stock sd.packs))) ∧ Below w.heap.size w w' := by
  obtain ⟨sx, h1, h2⟩ := h
  have := tree_any' b sx w h1 h2.sok h2.pathx
  rw [tree_same h2] at this
  exact this
theorem klook_any (b : Nat) (sd : SiteD) (p n : ByteArray) (w : World) (h : KAt w b sd) (hn : n.size ≤ 9223372036854775807) :
    Calls Tryd.prog 88 #[.pointer (some ⟨b, 0, none⟩), .string p, .string n] w fun e w' => e = .returned (.tuple #[.string (bs (lookR sd.packs (tx p) (tx n)).1), .int .i64 (lookR sd.packs (tx p) (tx n)).2]) ∧ Below w.heap.size w w' := by
  obtain ⟨sx, h1, h2⟩ := h
  have := look_any' b sx p n w h1 h2.sok h2.pathx hn
  rw [look_same h2] at this
  exact this
theorem own_bt {w w' : World} {base e size n c : Nat} {v : Value} {xs : List Value} (h : w.ownsRow base e size v n xs) (hb : But c w w') (ht : tagOf w c ≠ some e) : w'.ownsRow base e size v n xs := by
  obtain ⟨h1, h2⟩ := h
  refine ⟨h1, ?_⟩
  rcases h2 with h2 | ⟨g, cap, cur, hv, hg, hh, r⟩
  · exact .inl h2
  · refine .inr ⟨g, cap, cur, hv, hg, ?_, r⟩
    rw [hb.block g (lt_of_block hh) fun e => ?_]
    · exact hh
    · subst e
      exact ht (by unfold tagOf; rw [hh])
theorem blk_grown {w w' : World} {base T sz n b : Nat} {u : Value} {xs : List Value} {t : TypeId} (hg : w.grownBy w' u.ownBlock) (ho : w.ownsRow base T sz u n xs) (hb : b < w.heap.size) (ht : tagOf w b = some t) (hne : T ≠ t) : w'.heap[b]? = w.heap[b]? := by
  refine hg.block b hb fun hh => hne ?_
  have h1 := tag_of_own ho hh.symm
  rw [ht] at h1
  simpa using h1.symm

end Hst
end Go.Proofs.YtecocheolbkneaaDoor
namespace Go.Proofs.YtecocheolbkneaaDoor
open Go.RowKit
namespace Hst
set_option maxRecDepth 100000

set_option maxHeartbeats 8000000 in
theorem kmet_any (b : Nat) (sd : SiteD) (t p : ByteArray) (x : WantX) (w : World) (h : KAt w b sd) (hx : WantOk x) (ht : t.size ≤ 100000) {q : Tx} (hq : q.length ≤ 900) (hl : lookR sd.packs (tx p) (nameK x.name) = (q, 0)) (hla : lastK q = nameK x.name) (hf : fitsProg (rngK x) (atK (tx t) q) = (true, 0)) :
    Calls Tryd.prog 75 #[.pointer (some ⟨b, 0, none⟩), .string t, .string p, wantV x] w fun e w' => e = .returned (.string (bs q)) ∧ Below w.heap.size w w' := by
  have hba := (Below.refl w.heap.size w).alloc (Nat.le_refl _) (.cells #[.int .i64 x.name, .int .i64 x.sign, .int .i64 x.major, .int .i64 x.minor] 52)
  have HB := hid' hba
  have HK := hid' (h.below hba)
  have HN := hid' (fun w => names_any x.name w hx.name)
  have HLK := hid' (fun w h => klook_any b sd p (bs (nameK x.name)) w h (by rw [bs_size]; have := nameK_len x.name; omega))
  rw [tx_bs, hl] at HLK
  have HLA := hid' (fun w => klast_any (bs q) w (by rw [bs_size]; omega))
  rw [tx_bs, hla] at HLA
  have HAT := hid' (fun w => kat_any t (bs q) w ht)
  rw [tx_bs] at HAT
  have HG := hid' (fun w => rng_any x w hx)
  have HFI := hid' (fun w => pfits_any (bs (rngK x)) (bs (atK (tx t) q)) w)
  rw [tx_bs, tx_bs, hf] at HFI
  generalize bs (nameK x.name) = b1 at *
  generalize bs (atK (tx t) q) = b2 at *
  generalize bs (rngK x) = b3 at *
  generalize bs q = b4 at *
  obtain ⟨xn, xs, xa, xi⟩ := x
  simp only at HB HK HN HLK HG HFI
  clear h hba hl hla hf hx
  have hbb : (b1.toList == b1.toList) = true := by simp
  go_enter Tryd.func75, Tryd.ntmps75
  go_wp2_with fail
  refine (HN.out _).mono ?_
  rintro e w1 ⟨rfl, hb1⟩
  have hcc := (bcell hb1).1
  have c0 := hcc w.heap.size 0 (by simp)
  have c1 := hcc w.heap.size 1 (by simp)
  have c2 := hcc w.heap.size 2 (by simp)
  have c3 := hcc w.heap.size 3 (by simp)
  simp at c0 c1 c2 c3
  have hs1 : w.heap.size < w1.heap.size := by have := hb1.size; simp at this; omega
  have HB1 := hid' (HB.out.trans (hb1.mono (by simp)))
  have HK1 := hid' (HK.out.below hb1)
  clear hb1 hcc
  go_wp2_with fail
  refine (HLK.out _ HK1.out).mono ?_
  rintro e w2 ⟨rfl, hb2⟩
  have hcc := (bcell hb2).1
  have d0 := (hcc w.heap.size 0 hs1).trans c0
  have d1 := (hcc w.heap.size 1 hs1).trans c1
  have d2 := (hcc w.heap.size 2 hs1).trans c2
  have d3 := (hcc w.heap.size 3 hs1).trans c3
  have hs2 : w.heap.size < w2.heap.size := by have := hb2.size; omega
  have HB2 := hid' (HB1.out.trans (hb2.mono (by omega)))
  clear hb2 hcc c0 c1 c2 c3
  go_wp2
  go_region_held3 (fun w' => w'.cell? ⟨w.heap.size, 0, none⟩ = some (.int .i64 xn) ∧ w'.cell? ⟨w.heap.size, 1, none⟩ = some (.int .i64 xs) ∧ w'.cell? ⟨w.heap.size, 2, none⟩ = some (.int .i64 xa) ∧ w'.cell? ⟨w.heap.size, 3, none⟩ = some (.int .i64 xi)) (go_keep)
    (first | (go_at_call 77; refine (HLA.out _).mono ?_; rintro e w3 ⟨rfl, hb3⟩; have hy3 := (bcell hb3).1; have hs3 := hb3.size; simp at hs3; have z0 := hy3 w.heap.size 0 (by simp; omega); have z1 := hy3 w.heap.size 1 (by simp; omega); have z2 := hy3 w.heap.size 2 (by simp; omega); have z3 := hy3 w.heap.size 3 (by simp; omega); simp at z0 z1 z2 z3) | (go_at_call 24; refine (HN.out _).mono ?_; rintro e w4 ⟨rfl, hb4⟩; have hy4 := (bcell hb4).1; have hs4 := hb4.size; have y0 := hy4 w.heap.size 0 (by omega); have y1 := hy4 w.heap.size 1 (by omega); have y2 := hy4 w.heap.size 2 (by omega); have y3 := hy4 w.heap.size 3 (by omega)))
  have f0 : w4.cell? ⟨w.heap.size, 0, none⟩ = some (.int .i64 xn) := by rw [y0, z0]; exact d0
  have f1 : w4.cell? ⟨w.heap.size, 1, none⟩ = some (.int .i64 xs) := by rw [y1, z1]; exact d1
  have f2 : w4.cell? ⟨w.heap.size, 2, none⟩ = some (.int .i64 xa) := by rw [y2, z2]; exact d2
  have f3 : w4.cell? ⟨w.heap.size, 3, none⟩ = some (.int .i64 xi) := by rw [y3, z3]; exact d3
  have hs5 : w.heap.size < w4.heap.size := by omega
  have HB4 := hid' ((HB2.out.drew.trans (hb3.mono (by simp; omega))).trans (hb4.mono (by omega)))
  clear hb3 hb4 hy3 hy4 z0 z1 z2 z3 y0 y1 y2 y3 d0 d1 d2 d3
  go_wp2_with fail
  refine (HAT.out _).mono ?_
  rintro e w5 ⟨rfl, hb5⟩
  have hcc := (bcell hb5).1
  have g0 := (hcc w.heap.size 0 hs5).trans f0
  have g1 := (hcc w.heap.size 1 hs5).trans f1
  have g2 := (hcc w.heap.size 2 hs5).trans f2
  have g3 := (hcc w.heap.size 3 hs5).trans f3
  have hs6 : w.heap.size < w5.heap.size := by have := hb5.size; omega
  have HB5 := hid' (HB4.out.trans (hb5.mono (by omega)))
  clear hb5 hcc f0 f1 f2 f3
  go_wp2_with fail
  refine (HG.out _).mono ?_
  rintro e w6 ⟨rfl, hb6⟩
  have hs7 : w.heap.size < w6.heap.size := by have := hb6.size; omega
  have HB6 := hid' (HB5.out.trans (hb6.mono (by omega)))
  clear hb6
  go_wp2_with fail
  refine (HFI.out _).mono ?_
  rintro e w7 ⟨rfl, hb7⟩
  have HB7 := hid' (HB6.out.trans (hb7.mono (by omega)))
  clear hb7
  go_wp2
  go_ret
  exact ⟨rfl, HB7.out⟩

end Hst
end Go.Proofs.YtecocheolbkneaaDoor
namespace Go.Proofs.YtecocheolbkneaaDoor
open Go.RowKit
namespace Hst
set_option maxRecDepth 100000

theorem lastK_len (t : Tx) : (lastK t).length ≤ t.length := by
  unfold lastK
  rw [List.getLastD_eq_getLast?]
  rcases e : (splitK 47 t).getLast? with _ | x
  · simp
  · have h1 := List.mem_of_getLast? e
    have h2 := splitK_size 47 (bs t) x (by rw [tx_bs]; exact h1)
    rw [bs_size] at h2
    exact h2
theorem itemWants_len {items : List ItemX} (h : ∀ x ∈ items, x.wants.length ≤ 6) (z : Tx) {x : ItemX} (hx : itemAt items z = some x) : x ∈ items ∧ x.wants.length ≤ 6 ∧ itemWants items z = x.wants := by
  have h1 : x ∈ items := List.mem_of_find?_eq_some hx
  exact ⟨h1, h x h1, by unfold itemWants; rw [hx]⟩
theorem flat_take {α β : Type} (f : α → List β) (l : List α) (m : Nat) (h : m < l.length) : (l.take (m + 1)).flatMap f = (l.take m).flatMap f ++ f l[m] := by
  rw [List.take_succ_eq_append_getElem h, List.flatMap_append]; simp
theorem metk_any {b : Nat} {sd : SiteD} {t : ByteArray} (p : ByteArray) {x : WantX} (w : World) (h : KAt w b sd) (hx : WantOk x) (ht : tx t = textR sd.stock sd.packs) (hs : t.size ≤ 100000) (hm : MetK sd (tx p) x) :
    Calls Tryd.prog 75 #[.pointer (some ⟨b, 0, none⟩), .string t, .string p, wantV x] w fun e w' => e = .returned (.string (bs (foundAt sd.packs (tx p) x))) ∧ Below w.heap.size w w' := by
  refine kmet_any b sd t p x w h hx hs hm.short ?_ hm.last (by rw [ht]; exact hm.fits)
  have := hm.look
  unfold foundAt
  rcases e : lookR sd.packs (tx p) (nameK x.name) with ⟨q, k⟩
  rw [e] at this
  simp only at this
  rw [this]

set_option maxHeartbeats 8000000 in
theorem settled_any (b : Nat) (sd : SiteD) (a : Option Addr) (cap : Nat) (items : List ItemX) (sa : Option Addr) (sc : Nat) (site : List WantX) (w : World) (h : KAt w b sd) (hr : ItemsR w a cap items) (hil : items.length ≤ 1000) (hiw : ∀ x ∈ items, x.wants.length ≤ 6) (hio : ∀ x ∈ items, ItemOk x) (hsr : RowR w sa site.length sc 4 (site.flatMap wantC)) (hsl : site.length ≤ 1000) (hso : ∀ x ∈ site, WantOk x) (hk : SettledK sd items site) :
    Calls Tryd.prog 47 #[.pointer (some ⟨b, 0, none⟩), .slice a items.length cap, .slice sa site.length sc] w fun e w' => e = .returned (.bool true) ∧ Below w.heap.size w w' := by
  obtain ⟨i0, hi, iz0, iz1, iz2⟩ := info_parts info_str
  have HT := hid' (ktree_any b sd w h)
  have HTX : Hid (tx (bs (textR sd.stock sd.packs)) = textR sd.stock sd.packs) := tx_bs _
  have hts : (bs (textR sd.stock sd.packs)).size ≤ 100000 := by rw [bs_size]; exact hk.size
  have HSP := hid' (fun w => ksplit_any (bs (textR sd.stock sd.packs)) 59 w hts)
  rw [tx_bs] at HSP
  have HME := hid' (fun p x w h hx hm => metk_any (b := b) (sd := sd) (t := bs (textR sd.stock sd.packs)) p (x := x) w h hx (tx_bs _) hts hm)
  have HKA := hid' h
  have HIT := hid' hr
  have HSR := hid' hsr
  have HSE := hid' hk.own
  have HIM := hid' hk.item
  have HMT := hid' hk.met
  have HFO := hid' hk.found
  have hle := hk.le
  have HPZ : Hid (∀ z ∈ piecesK sd, z.length ≤ 100000) := fun z hz => by
    have := splitK_size 59 (bs (textR sd.stock sd.packs)) z (by rw [tx_bs]; exact hz)
    omega
  have HSO := hid' hso
  have HIO := hid' hio
  have HIW := hid' hiw
  change Hid (∀ w, Calls _ _ _ w fun e w' => ∃ v, e = .returned v ∧ Row w' w.heap.size v (piecesK sd) ∧ Below w.heap.size w w') at HSP
  have HFK : Hid (foundK sd items site = site.map (foundAt sd.packs []) ++ (piecesK sd).flatMap (foundOf sd items)) := rfl
  generalize bs (textR sd.stock sd.packs) = tb at *
  generalize foundK sd items site = fk at *
  generalize piecesK sd = d at *
  clear h hr hsr hk hso hio hiw HTX
  go_enter Tryd.func47, Tryd.ntmps47
  go_wp2_with fail
  refine HT.out.mono ?_
  rintro e w1 ⟨rfl, hb1⟩
  have HB1 := hid' hb1
  have hz1 := hb1.size
  clear hb1
  go_wp2_with fail
  refine (HSP.out _).mono ?_
  rintro e w2 ⟨v, rfl, hrow, hb2⟩
  obtain ⟨da, dc, rfl, hst⟩ := RowV hrow
  have HB2 := hid' (HB1.out.trans (hb2.mono hz1))
  have HST := hid' hst
  have HK2 := hid' (HKA.out.below HB2.out)
  have HI2 := hid' (HIT.out.below HB2.out)
  have HS2 := hid' (HSR.out.below HB2.out)
  have hz2 := HB2.out.size
  have hd40 : ¬ (40 : Int) < (d.length : Int) := by omega
  clear hb2 hrow hst HKA HIT HSR HSP HT
  go_wp2
  go_loopw [9, 10] (fun v i wr => ∃ (k : Nat) (acc : List Tx), k ≤ site.length ∧ acc.length ≤ k ∧ i = .int .i64 k ∧ wr.ownsRow w2.heap.size 9 1 v acc.length (acc.flatMap strC) ∧ Below w2.heap.size w2 wr ∧ Hid (acc = (site.take k).map (foundAt sd.packs []))) (fun _ i _ => site.length - (intOf i).toNat)
  case atStart => exact ⟨0, [], Nat.zero_le _, by simp, rfl, World.ownsRow_nil _ _ _ _, Below.refl _ _, rfl⟩
  case round =>
    obtain ⟨k, acc, hk, hacc, rfl, hown, hbel, hall⟩ := hrel
    have hz := hbel.size
    obtain ⟨va, vc, rfl⟩ := own_slice hown
    by_cases hlt : k < site.length
    · obtain ⟨g, o, rfl, hg, hc⟩ := (HS2.out.below hbel).wants rfl hlt
      obtain ⟨q0, q1, q2, q3⟩ := hc k hlt
      have hmem : site[k] ∈ site := List.getElem_mem hlt
      have hmk := HSE.out _ hmem
      have HCA := hid' (HME.out ByteArray.empty site[k] wr (HK2.out.below hbel) (HSO.out _ hmem) hmk)
      have HNX : Hid (acc ++ [foundAt sd.packs [] site[k]] = (site.take (k + 1)).map (foundAt sd.packs [])) := by
        unfold Hid; rw [hall.out, List.take_succ_eq_append_getElem hlt, List.map_append]; rfl
      change Hid (Calls _ _ _ wr fun e w' => e = .returned (.string (bs (foundAt sd.packs [] site[k]))) ∧ Below wr.heap.size wr w') at HCA
      have hne : ((bs (foundAt sd.packs [] site[k])).toList == []) = false := by
        rw [tx_toList, tx_bs]
        have := hmk.ne
        simp [this]
      clear hmem hmk hall hc
      generalize foundAt sd.packs [] site[k] = ft at *
      generalize hx : site[k] = x at *
      clear hx
      obtain ⟨xn, xs, xa, xi⟩ := x
      simp only at q0 q1 q2 q3 HCA
      have k0 : (0 : Int) ≤ (k : Int) := by omega
      have k1 : (k : Int) < (site.length : Int) := by omega
      go_wp2_with fail
      refine HCA.out.mono ?_
      rintro e w3 ⟨rfl, hb3⟩
      have hown3 := own_below hown hb3
      have HB3 := hid' hb3
      have hz3 := hb3.size
      clear hb3
      go_wp2_with (first | (at_builtin; refine wpList_append_lies _ rfl _ _ 35 rfl w2.heap.size 9 i0 (.string ByteArray.empty) 1 16 Tryd.underlying35 hi iz0 iz1 iz2 rfl (by omega) _ _ _ rfl (hown3.alloc _) ⟨w3.heap.size, 0, none⟩ 1 1 [.string (bs ft)] rfl rfl (by first | exact cell_one_new _ _ _) (one_str _) (by omega) (by unfold maxLen; omega) (by omega) (by simp; omega) (w3.heap.size + 1) (by simp) ?_; intro g5 cap5 w5 hown5 hgrow5 hat5 hlt5))
      have R := step_gen2 strC (x := ft) rfl hown hbel (HB3.out.alloc hz3 _) hown5 hgrow5
      clear hown5 hgrow5 hown hown3
      go_wp2
      go_roundw
      case rel => exact ⟨k + 1, _, by omega, by simp; omega, by go_num, R.1, R.2, HNX⟩
      case measure => simp [intOf] <;> omega
    · have HA1 : Hid (acc = site.map (foundAt sd.packs [])) := by unfold Hid; rw [hall.out, List.take_of_length_le (by omega)]
      have hal : acc.length ≤ 1000 := by omega
      obtain ⟨wo, rfl⟩ : ∃ wo, wo = wr := ⟨_, rfl⟩
      have HWO := hid' hown
      have HBO := hid' hbel
      clear hall hown hbel hacc
      go_wp2
      go_loopw [9, 12] (fun v i wr => ∃ (m : Nat) (ac : List Tx), m ≤ d.length ∧ ac.length ≤ 1000 + 6 * m ∧ i = .int .i64 m ∧ wr.ownsRow w2.heap.size 9 1 v ac.length (ac.flatMap strC) ∧ Below w2.heap.size w2 wr ∧ Hid (ac = acc ++ (d.take m).flatMap (foundOf sd items))) (fun _ i _ => d.length - (intOf i).toNat)
      case atStart => exact ⟨0, acc, Nat.zero_le _, by omega, rfl, HWO.out, HBO.out, by unfold Hid; simp⟩
      case round =>
        obtain ⟨m, ac, hm, hacl, rfl, hown, hbel, hall⟩ := hrel
        have hz3 := hbel.size
        obtain ⟨va2, vc2, rfl⟩ := own_slice hown
        by_cases hml : m < d.length
        · obtain ⟨g, o, rfl, hg, hc⟩ := (HST.out.below hbel).cells hml
          have c0 := hc m hml
          have hmem : d[m] ∈ d := List.getElem_mem hml
          have HAH := hid' (ahead_any (bs d[m]) 64 wr (by rw [bs_size]; have := HPZ.out _ hmem; omega))
          rw [tx_bs] at HAH
          change Hid (Calls _ _ _ wr fun e w' => e = .returned (.tuple #[.string (bs (pieceP d[m])), .string (bs (pieceV d[m]))]) ∧ Below wr.heap.size wr w') at HAH
          obtain ⟨it, hit⟩ := Option.isSome_iff_exists.1 (HIM.out _ hmem)
          obtain ⟨hin, hi6, hiw⟩ := itemWants_len HIW.out d[m] hit
          have hcl := cut_len 64 d[m]
          have hzl := HPZ.out _ hmem
          have HLA := hid' (fun w => klast_any (bs (pieceP d[m])) w (by rw [bs_size]; unfold pieceP; omega))
          rw [tx_bs] at HLA
          have HWA := hid' (fun w hr => wants_any a cap items (bs (lastK (pieceP d[m]))) (bs (pieceV d[m])) w hr hil HIO.out (by rw [bs_size]; have := lastK_len (pieceP d[m]); unfold pieceP at *; omega) (by rw [bs_size]; unfold pieceV; omega))
          rw [tx_bs, tx_bs] at HWA
          change Hid (∀ w, ItemsR w a cap items → Calls _ _ _ w fun e w' => e = .returned (wantsV (itemAt items d[m])) ∧ Below w.heap.size w w') at HWA
          rw [hit] at HWA
          obtain ⟨ma, mc, ev, hmr⟩ := HI2.out.each _ hin
          have HMR := hid' hmr
          have HWV : Hid (wantsV (some it) = .tuple #[.slice ma it.wants.length mc, .bool true]) := by unfold Hid wantsV; simp only; rw [ev]
          rw [HWV.out] at HWA
          have HMM := hid' (HMT.out _ hmem)
          rw [hiw] at HMM
          have HOI := hid' (HIO.out _ hin).wants
          have HFL : Hid (foundOf sd items d[m] = it.wants.map (foundAt sd.packs (pieceP d[m]))) := by unfold Hid foundOf; rw [hiw]
          have HTK := hid' (flat_take (foundOf sd items) d m hml)
          rw [HFL.out] at HTK
          clear hc hmem hit hin hiw hcl hzl ev hmr HWV HFL
          generalize pieceV d[m] = pv at *
          generalize pieceP d[m] = pp at *
          generalize bs d[m] = q at *
          generalize it.wants = mw at *
          have m0 : (0 : Int) ≤ (m : Int) := by omega
          have m1 : (m : Int) < (d.length : Int) := by omega
          go_wp2_with fail
          refine HAH.out.mono ?_
          rintro e w3 ⟨rfl, hb3⟩
          have HB3 := hid' (hbel.trans (hb3.mono hz3))
          have hz4 := HB3.out.size
          have hown3 := own_below hown hb3
          clear hb3 hown c0 hbel
          go_wp2_with fail
          refine (HLA.out _).mono ?_
          rintro e w4 ⟨rfl, hb4⟩
          have HB4 := hid' (HB3.out.trans (hb4.mono hz4))
          have hz5 := HB4.out.size
          have hown4 := own_below hown3 hb4
          clear hb4 hown3
          go_wp2_with fail
          refine (HWA.out _ (HI2.out.below HB4.out)).mono ?_
          rintro e w5 ⟨rfl, hb5⟩
          have HB5 := hid' (HB4.out.trans (hb5.mono hz5))
          have hz6 := HB5.out.size
          have HO5 := hid' (own_below hown4 hb5)
          clear hb5 hown4
          go_wp2
          go_loopw [9, 17] (fun v i wr => ∃ (j : Nat) (ac2 : List Tx), j ≤ mw.length ∧ ac2.length ≤ 1000 + 6 * m + j ∧ i = .int .i64 j ∧ wr.ownsRow w2.heap.size 9 1 v ac2.length (ac2.flatMap strC) ∧ Below w2.heap.size w2 wr ∧ Hid (ac2 = ac ++ (mw.take j).map (foundAt sd.packs pp))) (fun _ i _ => mw.length - (intOf i).toNat)
          case atStart => exact ⟨0, ac, Nat.zero_le _, by omega, rfl, HO5.out, HB5.out, by unfold Hid; simp⟩
          case round =>
            obtain ⟨j, ac2, hj, hal2, rfl, hown, hbel, hall2⟩ := hrel
            have hz7 := hbel.size
            obtain ⟨va3, vc3, rfl⟩ := own_slice hown
            by_cases hjl : j < mw.length
            · obtain ⟨g2, o2, rfl, hg2, hc⟩ := (HMR.out.below hbel).wants rfl hjl
              obtain ⟨q0, q1, q2, q3⟩ := hc j hjl
              have hmem : mw[j] ∈ mw := List.getElem_mem hjl
              have hmk := HMM.out _ hmem
              have HCA := hid' (HME.out (bs pp) mw[j] wr (HK2.out.below hbel) (HOI.out _ hmem) (by rw [tx_bs]; exact hmk))
              rw [tx_bs] at HCA
              have HNX : Hid (ac2 ++ [foundAt sd.packs pp mw[j]] = ac ++ (mw.take (j + 1)).map (foundAt sd.packs pp)) := by
                unfold Hid; rw [hall2.out, List.take_succ_eq_append_getElem hjl, List.map_append]; simp
              have hne : ((bs (foundAt sd.packs pp mw[j])).toList == []) = false := by
                rw [tx_toList, tx_bs]
                have := hmk.ne
                simp [this]
              clear hmem hmk hall2 hc
              generalize foundAt sd.packs pp mw[j] = ft at *
              generalize hx : mw[j] = x at *
              clear hx
              obtain ⟨xn, xs, xa, xi⟩ := x
              simp only at q0 q1 q2 q3 HCA
              have j0 : (0 : Int) ≤ (j : Int) := by omega
              have j1 : (j : Int) < (mw.length : Int) := by omega
              go_wp2_with fail
              refine HCA.out.mono ?_
              rintro e w6 ⟨rfl, hb6⟩
              have hown6 := own_below hown hb6
              have HB6 := hid' hb6
              have hz8 := hb6.size
              clear hb6
              go_wp2_with (first | (at_builtin; refine wpList_append_lies _ rfl _ _ 35 rfl w2.heap.size 9 i0 (.string ByteArray.empty) 1 16 Tryd.underlying35 hi iz0 iz1 iz2 rfl (by omega) _ _ _ rfl (hown6.alloc _) ⟨w6.heap.size, 0, none⟩ 1 1 [.string (bs ft)] rfl rfl (by first | exact cell_one_new _ _ _) (one_str _) (by omega) (by unfold maxLen; omega) (by omega) (by simp; omega) (w6.heap.size + 1) (by simp) ?_; intro g5 cap5 w7 hown7 hgrow7 hat7 hlt7))
              have R := step_gen2 strC (x := ft) rfl hown hbel (HB6.out.alloc hz8 _) hown7 hgrow7
              clear hown7 hgrow7 hown hown6
              go_wp2
              go_roundw
              case rel => exact ⟨j + 1, _, by omega, by simp; omega, by go_num, R.1, R.2, HNX⟩
              case measure => simp [intOf] <;> omega
            · have HN2 : Hid (ac2 = acc ++ (d.take (m + 1)).flatMap (foundOf sd items)) := by
                unfold Hid; rw [hall2.out, List.take_of_length_le (by omega), hall.out, HTK.out]; simp
              have hm6 : ac2.length ≤ 1000 + 6 * (m + 1) := by omega
              clear hall2
              go_wp2
              go_roundw
              case rel => exact ⟨m + 1, ac2, by omega, hm6, by go_num, hown, hbel, HN2⟩
              case measure => simp [intOf] <;> omega
        · have HAC : Hid (ac = fk) := by unfold Hid; rw [hall.out, List.take_of_length_le (by omega), HFK.out, HA1.out]
          have HSF : Hid (StrsR wr va2 ac.length vc2 ac) := ⟨rfl, RowR.of_own hown⟩
          obtain ⟨wp, rfl⟩ : ∃ wp, wp = wr := ⟨_, rfl⟩
          have HBP := hid' hbel
          clear hall hown hbel
          go_wp2
          go_loopw [19] (fun i wr => ∃ (n : Nat), n ≤ d.length ∧ i = .int .i64 n ∧ Below wp.heap.size wp wr) (fun i _ => d.length - (intOf i).toNat)
          case atStart => exact ⟨0, Nat.zero_le _, rfl, Below.refl _ _⟩
          case round =>
            obtain ⟨n, hn, rfl, hbel⟩ := hrel
            have hz4 := hbel.size
            have HBQ := hid' (HBP.out.trans (hbel.mono hz3))
            by_cases hnl : n < d.length
            · obtain ⟨g, o, rfl, hg, hc⟩ := (HST.out.below HBQ.out).cells hnl
              have c0 := hc n hnl
              have hmem : d[n] ∈ d := List.getElem_mem hnl
              have HAH := hid' (ahead_any (bs d[n]) 64 wr (by rw [bs_size]; have := HPZ.out _ hmem; omega))
              rw [tx_bs] at HAH
              change Hid (Calls _ _ _ wr fun e w' => e = .returned (.tuple #[.string (bs (pieceP d[n])), .string (bs (pieceV d[n]))]) ∧ Below wr.heap.size wr w') at HAH
              have HHA := hid' (fun w h => khas_any va2 ac.length vc2 ac (bs (pieceP d[n])) w h (by omega))
              rw [tx_bs, HAC.out, HFO.out _ hmem] at HHA
              rw [← HAC.out] at HHA
              clear hc hmem
              generalize pieceV d[n] = pv at *
              generalize pieceP d[n] = pp at *
              generalize bs d[n] = q at *
              have n0 : (0 : Int) ≤ (n : Int) := by omega
              have n1 : (n : Int) < (d.length : Int) := by omega
              go_wp2_with fail
              refine HAH.out.mono ?_
              rintro e w3 ⟨rfl, hb3⟩
              have HB3 := hid' (hbel.trans (hb3.mono hz4))
              clear hb3
              go_wp2_with fail
              refine (HHA.out _ (HSF.out.below HB3.out)).mono ?_
              rintro e w4 ⟨he, hw⟩
              subst he hw
              go_wp2
              go_roundw
              case rel => exact ⟨n + 1, by omega, by go_num, HB3.out⟩
              case measure => simp [intOf] <;> omega
            · have HFI := hid' (HB2.out.trans (HBQ.out.mono hz2))
              go_wp2
              go_ret
              exact ⟨rfl, HFI.out⟩

end Hst
end Go.Proofs.YtecocheolbkneaaDoor
namespace Go.Proofs.YtecocheolbkneaaDoor
open Go.RowKit
namespace Hst
set_option maxRecDepth 100000

theorem first_new : newR firstT = (some firstS.stock, 0) := by kernel_rfl
theorem first_add : (addR firstS [97, 42]).2 = 0 := by kernel_rfl
theorem first_tree : textR (addR firstS [97, 42]).1.stock (addR firstS [97, 42]).1.packs = [97, 64, 49, 46, 48, 46, 48, 59, 98, 64, 49, 46, 48, 46, 48] := by kernel_rfl
theorem first_needs : neededR (addR firstS [97, 42]).1 = [97, 42] := by kernel_rfl
theorem SMv.below_of {b B : Nat} {w w' : World} (h : SMv b w w') (hb : B ≤ b) (hB : B ≤ w.heap.size) : Below B w w' :=
  ⟨h.os, h.tape, h.output, h.but.size, fun k hk => h.but.block k (by omega) (by omega)⟩

set_option maxHeartbeats 4000000 in
theorem ready_any (s : ByteArray) (ds : List EntryD) (w : World) (hn : newR (tx s) = (some ds, 0)) :
    Calls Tryd.prog 18 #[.string s] w fun e w' => ∃ b, e = .returned (.pointer (some ⟨b, 0, none⟩)) ∧ w.heap.size ≤ b ∧ KAt w' b ⟨ds, [], []⟩ ∧ Below w.heap.size w w' := by
  have HN1 := hid' (fun w => knew_any ⟨#[97, 64, 49, 46, 48, 46, 48, 58, 98, 42, 59, 98, 64, 49, 46, 48, 46, 48]⟩ w)
  have e1 : tx ⟨#[97, 64, 49, 46, 48, 46, 48, 58, 98, 42, 59, 98, 64, 49, 46, 48, 46, 48]⟩ = firstT := rfl
  rw [e1, first_new] at HN1
  have HN2 := hid' (fun w => knew_any s w)
  rw [hn] at HN2
  simp only [NewK] at HN1 HN2
  have HA := hid' (fun b w h => kadd_any b firstS ⟨#[97, 42]⟩ w h (by show 2 ≤ 9223372036854775807; omega))
  have e2 : tx ⟨#[97, 42]⟩ = [97, 42] := rfl
  rw [e2, first_add] at HA
  have HT := hid' (fun b w h => ktree_any b (addR firstS [97, 42]).1 w h)
  rw [first_tree, show bs [97, 64, 49, 46, 48, 46, 48, 59, 98, 64, 49, 46, 48, 46, 48] = (⟨#[97, 64, 49, 46, 48, 46, 48, 59, 98, 64, 49, 46, 48, 46, 48]⟩ : ByteArray) from rfl] at HT
  have HD := hid' (fun b w h => kneeds_any b (addR firstS [97, 42]).1 w h)
  rw [first_needs, show bs [97, 42] = (⟨#[97, 42]⟩ : ByteArray) from rfl] at HD
  have t1 : ((⟨#[97, 42]⟩ : ByteArray).toList == [97, 42]) = true := by rw [tx_toList]; rfl
  have t2 : ((⟨#[97, 64, 49, 46, 48, 46, 48, 59, 98, 64, 49, 46, 48, 46, 48]⟩ : ByteArray).toList == [97, 64, 49, 46, 48, 46, 48, 59, 98, 64, 49, 46, 48, 46, 48]) = true := by rw [tx_toList]; rfl
  have HF : Hid ((⟨firstS.stock, [], []⟩ : SiteD) = firstS) := rfl
  rw [HF.out] at HN1
  generalize (addR firstS [97, 42]).1 = s1 at *
  generalize firstS = s0 at *
  clear hn e1 e2 HF
  go_enter Tryd.func18, Tryd.ntmps18
  go_wp2_with fail
  refine (HN1.out _).mono ?_
  rintro e w1 ⟨p, rfl, hb1, y, rfl, hy, hk1⟩
  have HB1 := hid' hb1
  have HK1 := hid' hk1
  have hz1 := hb1.size
  clear hb1 hk1
  go_wp2_with fail
  refine (HA.out y _ HK1.out).mono ?_
  rintro e w2 ⟨rfl, hm2, hk2⟩
  have HB2 := hid' (HB1.out.trans (hm2.below_of hy (by omega)))
  have HK2 := hid' hk2
  have hz2 := HB2.out.size
  clear hm2 hk2
  go_wp2_with fail
  refine (HT.out y _ HK2.out).mono ?_
  rintro e w3 ⟨rfl, hb3⟩
  have HB3 := hid' (HB2.out.trans (hb3.mono (by omega)))
  have HK3 := hid' (HK2.out.below hb3)
  have hz3 := HB3.out.size
  clear hb3
  go_wp2_with fail
  refine (HD.out y _ HK3.out).mono ?_
  rintro e w4 ⟨rfl, hb4⟩
  have HB4 := hid' (HB3.out.trans (hb4.mono (by omega)))
  have hz4 := HB4.out.size
  clear hb4
  go_wp2_with fail
  refine (HN2.out _).mono ?_
  rintro e w5 ⟨p, rfl, hb5, x, rfl, hx, hk5⟩
  have HB5 := hid' (HB4.out.trans (hb5.mono (by omega)))
  have HK5 := hid' hk5
  clear hb5 hk5
  go_wp2
  go_ret
  exact ⟨x, rfl, by omega, HK5.out, HB5.out⟩

end Hst
end Go.Proofs.YtecocheolbkneaaDoor
