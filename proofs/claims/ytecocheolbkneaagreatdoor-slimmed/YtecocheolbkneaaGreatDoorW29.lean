/- Kagain, Kagw, Kthinp, Kthin -/
import Derived.Test.YtecocheolbkneaaGreatDoorW24
import Derived.Test.YtecocheolbkneaaGreatDoorW25
import Derived.Test.YtecocheolbkneaaGreatDoorW27
import Derived.Test.YtecocheolbkneaaGreatDoorW28
import Derived.Test.YtecocheolbkneaaGreatDoorW14
namespace Go.Proofs.YtecocheolbkneaaGreatDoor
namespace Hst
set_option maxRecDepth 100000

/-! ### how long a tree's text is -/
theorem folder_ahead {p f : Tx} (hf : f ∈ foldersR p) (h0 : f ≠ []) : f = p ∨ less f p = true := by
  obtain ⟨j, _, _, rfl⟩ := (fg_mem p f h0 _).1 hf
  by_cases e : p.drop j = []
  · left
    have := List.take_append_drop j p
    rw [e, List.append_nil] at this
    exact this
  · right
    have := less_longer (p.take j) (p.drop j) e
    rw [List.take_append_drop] at this
    exact this
theorem path_at {stx : List EntX} {l : List PackD} {t : List PkX} (ht : TreeSame stx l t) (hr : Rises (fun p => p.path) l) (hf : Folded l) (k : Nat) (hk : k < l.length) : l[k].path.length ≤ 4 * (k + 1) := by
  have hp := List.getElem_mem hk
  have h1 := path_folders ht _ l[k].path (Nat.le_refl _) (hf _ hp)
  have h2 := nodup_len (foldersR l[k].path) ([] :: (l.take (k + 1)).map fun p => p.path) (folders_nodup _ _ (Nat.le_refl _)) fun f hfm => by
    rcases hf _ hp f hfm with h0 | ⟨b, hb, e⟩
    · rw [h0]; simp
    · by_cases hf0 : f = []
      · rw [hf0]; simp
      · refine List.mem_cons_of_mem _ (List.mem_map.2 ⟨b, ?_, e⟩)
        obtain ⟨j, hj, rfl⟩ := List.mem_iff_getElem.1 hb
        have hjk : j ≤ k := by
          rcases Nat.lt_or_ge k j with h | h
          · have h3 : less l[k].path l[j].path = true := List.pairwise_iff_getElem.1 hr k j hk hj h
            rcases folder_ahead hfm hf0 with h4 | h4
            · rw [e, h4, less_irr] at h3; exact absurd h3 (by simp)
            · rw [e, less_asymm h4] at h3; exact absurd h3 (by simp)
          · exact h
        rw [List.mem_take_iff_getElem]
        exact ⟨j, by omega, rfl⟩
  simp at h2
  have h3 : ((l.take (k + 1)).map fun p : PackD => p.path).length ≤ k + 1 := by simp; omega
  omega
def triN : Nat → Nat
  | 0 => 0
  | k + 1 => triN k + 4 * (k + 1) + 10
theorem triN_mono : ∀ (a b : Nat), a ≤ b → triN a ≤ triN b
  | a, 0, h => by have : a = 0 := by omega
                  subst this; exact Nat.le_refl _
  | a, b + 1, h => by
    by_cases e : a = b + 1
    · rw [e]; exact Nat.le_refl _
    · have := triN_mono a b (by omega)
      rw [triN]
      omega
theorem text_len {st : List EntryD} {l : List PackD} (h : ∀ (k : Nat) (hk : k < l.length), l[k].path.length ≤ 4 * (k + 1)) : ∀ (m k : Nat) (b : Bool), k + m = l.length → (textGo st b (l.drop k)).length + triN k ≤ triN l.length
  | 0, k, b, hk => by
    rw [txg_end st l k (by omega) b, show k = l.length by omega]
    simp
  | m + 1, k, b, hk => by
    have hlt : k < l.length := by omega
    have h1 := text_len (st := st) h m (k + 1) false (by omega)
    have h2 := h k hlt
    have h3 := verT_len (verOf st l[k].of).a.toNat (verOf st l[k].of).b.toNat (verOf st l[k].of).c.toNat
    rw [triN] at h1
    rw [txg_next st l k hlt b]
    unfold vtx
    cases b <;> simp <;> omega
theorem text_short {stx : List EntX} {st : List EntryD} {l : List PackD} {t : List PkX} (ht : TreeSame stx l t) (hr : Rises (fun p => p.path) l) (hf : Folded l) (h40 : l.length ≤ 40) : (textR st l).length ≤ 4000 := by
  have h1 := text_len (st := st) (path_at ht hr hf) l.length 0 true (by omega)
  have h2 := triN_mono l.length 40 h40
  have h3 : triN 40 = 3680 := by decide
  simp only [List.drop_zero] at h1
  unfold textR
  omega

/-! ### what is read of a tree's own text -/
theorem last_name {stx : List EntX} {l : List PackD} {t : List PkX} (ht : TreeSame stx l t) {p : PackD} (hp : p ∈ l) : (lastR p.path).1 = (stx.getD p.of zeroE).name := by
  have hw := ht.wf p hp
  have hne := tree_ne' ht hp
  by_cases h0 : folderP p.path = []
  · rw [last_out hne h0]
    rw [h0] at hw
    unfold joinR at hw
    rw [if_pos rfl] at hw
    exact hw
  · rw [last_in hne h0]
    unfold joinR at hw
    rw [if_neg h0] at hw
    have e : p.path.drop ((folderP p.path).length + 1) = (folderP p.path ++ [47] ++ (stx.getD p.of zeroE).name).drop ((folderP p.path).length + 1) := by rw [← hw]
    simp only
    rw [e]
    exact List.drop_left' (by simp)
theorem read_go {stx : List EntX} {st : List EntryD} {l : List PackD} {t : List PkX} (hs : StockSame stx st) (ht : TreeSame stx l t) (hr : Rises (fun p => p.path) l) (hsh : Shown st l) (hv : ∀ p ∈ l, versionR (vtx (verOf st p.of)) = (verOf st p.of, true)) : ∀ (l1 l0 : List PackD), l = l0 ++ l1 → readGo st l0 (l1.map (txtD st)) = l
  | [], l0, e => by rw [List.map_nil, readGo, e]; simp
  | p :: l1, l0, e => by
    have hp : p ∈ l := by rw [e]; simp
    have hk := ht.of p hp
    rw [List.map_cons, readGo, piece_cut hsh hp]
    simp only
    rw [hv p hp]
    simp only
    rw [if_pos trivial, last_name ht hp]
    have hval := (hs.at hk).val
    rcases entry_same hs (name := (stx.getD p.of zeroE).name) hval with ⟨k, e1, hk1, _, e3, e4⟩ | ⟨_, e2⟩
    · have hko : k = p.of := hs.one k p.of hk1 hk e3 (by rw [(hs.ver hk1).1, (hs.ver hk).1, e4]; rfl)
      have hvv : verOf st p.of = (st.getD p.of zeroD).v := rfl
      rw [hvv, e1, hko]
      simp only
      have hr' := hr
      rw [e] at hr'
      have hpw := List.pairwise_append.1 hr'
      have hpl : placedR l0 ⟨p.path, p.of⟩ = l0 ++ [p] := by
        rw [placedR_ins]
        exact insX_end _ _ _ fun y hy => hpw.2.2 y hy p (by simp)
      rw [hpl]
      exact read_go hs ht hr hsh hv l1 (l0 ++ [p]) (by rw [e]; simp)
    · exfalso
      have hin : stx.getD p.of zeroE ∈ stx := by
        rw [List.getD_eq_getElem?_getD, List.getElem?_eq_getElem hk]
        exact List.getElem_mem _
      have := List.find?_eq_none.1 e2 _ hin
      exact this (by rw [(hs.ver hk).1]; simp; rfl)
theorem read_text {stx : List EntX} {st : List EntryD} {l : List PackD} {t : List PkX} (hs : StockSame stx st) (ht : TreeSame stx l t) (hr : Rises (fun p => p.path) l) (hsh : Shown st l) (hv : ∀ p ∈ l, versionR (vtx (verOf st p.of)) = (verOf st p.of, true)) : readR st (textR st l) = l := by
  unfold readR
  by_cases h0 : l = []
  · subst h0
    simp [textR, textGo, splitL, readGo, cutR, versionR]
  · have h59 : ((59 : UInt8).toNat : Int) = 59 := rfl
    have := split_join 59 (l.map (txtD st)) (by simpa using h0) fun p hp x hx => by
      obtain ⟨q, hq, rfl⟩ := List.mem_map.1 hp
      exact hsh.n59 q hq x hx
    rw [h59] at this
    rw [textR_join, this]
    exact read_go hs ht hr hsh hv l [] rfl

/-! ### Load -/
theorem KInv.ver {items : List ItemX} {site : List WantX} {sd : SiteD} (h : KInv items site sd) : ∀ p ∈ sd.packs, versionR (vtx (verOf sd.stock p.of)) = (verOf sd.stock p.of, true) := fun p hp => by
  obtain ⟨y, hy, ey⟩ := h.at hp
  have hv : verOf sd.stock p.of = verK y.major y.minor := by
    have : verOf sd.stock p.of = (sd.stock.getD p.of zeroD).v := rfl
    rw [this, ey]; rfl
  rw [hv, verK_text, numberK_ver]
theorem KInv.load {items : List ItemX} {site : List WantX} {sd : SiteD} (h : KInv items site sd) : loadR sd (textR sd.stock sd.packs) = (sd, 0) := by
  obtain ⟨sx, hs⟩ := h.same
  have hr := rises_of hs.tr hs.eq
  have hrd := read_text hs.st hs.tr hr hs.shown h.ver
  have hlen := text_short (st := sd.stock) hs.tr hr hs.fold hs.l40
  have hh : hangsR sd.packs = true := hangs_of hs.tr.nd hs.fold hs.shown.ne
  have hpr : prunedR sd.stock sd.needs sd.packs = sd.packs := by
    obtain ⟨hr2, hm⟩ := prunedR_mem (st := sd.stock) (nd := sd.needs) hs.tr.nd
    refine Rises.ext hr2 hr fun p => ?_
    rw [hm p]
    exact ⟨fun h => h.1, fun hp => ⟨hp, h.good.used p hp⟩⟩
  have hu : (inUseR sd.stock sd.needs sd.packs).length = sd.packs.length := by rw [used_len hs.tr.nd, hpr]
  have h40 := hs.l40
  have hm : allMetR sd.stock sd.packs (allR sd.stock sd.needs sd.packs) = true := by
    unfold allMetR
    rw [List.all_eq_true]
    exact h.good.met
  rw [lr_good (by omega) (by rw [hrd, hh]; simp; omega) (by rw [hrd, hm, hu]; simp), hrd]
theorem spare_none {st : List EntryD} {nd : List NeedD} {l : List PackD} : ∀ (i : Nat), spareGo st nd l i = none → ∀ j, j < i → allMetR st (withoutR l (packAt l j).path) (allR st nd (withoutR l (packAt l j).path)) = false
  | 0, _, j, hj => by omega
  | i + 1, h, j, hj => by
    rw [spareGo] at h
    split at h
    · simp at h
    · rename_i hn
      by_cases e : j = i
      · rw [e]; simpa using hn
      · exact spare_none i h j (by omega)
theorem Shown.sub {st : List EntryD} {l m : List PackD} (h : Shown st l) (hn : m.Pairwise fun p q => p.path ≠ q.path) (hm : ∀ p ∈ m, p ∈ l) : Shown st m :=
  ⟨hn, fun p hp => h.n59 p (hm p hp), fun p hp => h.n64 p (hm p hp), fun p hp => h.last p (hm p hp), fun p hp => h.ne p (hm p hp)⟩
theorem textR_sub {st : List EntryD} (f : PackD → Bool) : ∀ (l : List PackD) (b : Bool), (textGo st b (l.filter f)).length ≤ (textGo st b l).length
  | [], b => by simp
  | p :: r, b => by
    have h1 := textR_sub (st := st) f r false
    have h2 := textR_sub (st := st) f r b
    have h3 : (textGo st b r).length ≤ (textGo st false r).length := by
      cases r with
      | nil => simp [textGo]
      | cons q r => rw [textGo, textGo]; cases b <;> simp
    rw [List.filter_cons]
    split
    · rw [textGo, textGo]
      cases b <;> simp <;> omega
    · rw [textGo]
      cases b <;> simp <;> omega
theorem KInv.thin {items : List ItemX} {site : List WantX} {sd : SiteD} (h : KInv items site sd) (hsp : spareR sd.stock sd.needs sd.packs = none) {p : PackD} (hp : p ∈ sd.packs) : loadR sd (textR sd.stock (withoutR sd.packs p.path)) = (sd, 12) := by
  obtain ⟨sx, hs⟩ := h.same
  have hr := rises_of hs.tr hs.eq
  have hlen := text_short (st := sd.stock) hs.tr hr hs.fold hs.l40
  have hlen2 : (textR sd.stock (withoutR sd.packs p.path)).length ≤ 4000 := by
    have := textR_sub (st := sd.stock) (fun q => !hasR (foldersR q.path) p.path) sd.packs true
    unfold textR at hlen ⊢
    unfold withoutR
    omega
  have hsub : ∀ q ∈ withoutR sd.packs p.path, q ∈ sd.packs := fun q hq => wtd_mem hq
  have ht2 := without_tree hs.tr hs.eq p.path
  have hr2 : Rises (fun p => p.path) (withoutR sd.packs p.path) := List.Pairwise.sublist List.filter_sublist hr
  have hrd := read_text hs.st ht2 hr2 (hs.shown.sub ht2.nd hsub) fun q hq => h.ver q (hsub q hq)
  have hns : allMetR sd.stock (withoutR sd.packs p.path) (allR sd.stock sd.needs (withoutR sd.packs p.path)) = false := by
    obtain ⟨k, hk, e⟩ := List.mem_iff_getElem.1 hp
    have := spare_none _ hsp k hk
    have e2 : packAt sd.packs k = p := by unfold packAt; rw [List.getD_eq_getElem?_getD, List.getElem?_eq_getElem hk]; exact e
    rw [e2] at this
    exact this
  rcases hb : (!decide (textR sd.stock (readR sd.stock (textR sd.stock (withoutR sd.packs p.path))) = textR sd.stock (withoutR sd.packs p.path)) || (!hangsR (readR sd.stock (textR sd.stock (withoutR sd.packs p.path))) || decide (40 < (readR sd.stock (textR sd.stock (withoutR sd.packs p.path))).length))) with _ | _
  · exact lr_use (by omega) hb (by rw [hrd, hns]; rfl)
  · exact lr_text (by omega) hb

/-! ### Slim -/
theorem spg_sound {st : List EntryD} {nd : List NeedD} {l m : List PackD} : ∀ i, spareGo st nd l i = some m → allMetR st m (allR st nd m) = true
  | 0, h => by simp [spareGo] at h
  | i + 1, h => by
    rw [spareGo] at h
    split at h
    · rename_i hs
      have := Option.some.inj h
      subst this
      exact hs
    · exact spg_sound i h
theorem prR_nd {st : List EntryD} {nd : List NeedD} {l : List PackD} (hl : l.Pairwise fun p q => p.path ≠ q.path) : (prunedR st nd l).Pairwise fun p q => p.path ≠ q.path := List.Pairwise.imp (fun h => less_ne h) (prunedR_mem (st := st) (nd := nd) hl).1
theorem slim_good {st : List EntryD} {nd : List NeedD} : ∀ (n : Nat) (l : List PackD), l.length ≤ n → (l.Pairwise fun p q => p.path ≠ q.path) → (∀ p ∈ l, p.path ≠ []) → Good st nd l → Good st nd (slimL st nd l) ∧ spareR st nd (slimL st nd l) = none
  | n, l, hn, hl, hne, hg => by
    rcases e : spareR st nd l with _ | m
    · rw [slim_none e]; exact ⟨hg, e⟩
    · have h1 := spare_lt e
      have h2 := prR_le st nd m
      rw [slim_some e]
      obtain ⟨j, hj, rfl⟩ := spg_some _ e
      have hsub : ∀ q ∈ withoutR l (packAt l j).path, q ∈ l := fun q hq => wtd_mem hq
      have hnd : (withoutR l (packAt l j).path).Pairwise fun p q => p.path ≠ q.path := List.Pairwise.sublist List.filter_sublist hl
      have hso := spg_sound _ e
      unfold allMetR at hso
      rw [List.all_eq_true] at hso
      match n with
      | 0 => omega
      | n + 1 => exact slim_good n _ (by omega) (prR_nd hnd) (fun p hp => hne p (hsub p (prR_sub hp))) (pruned_good hnd (fun p hp => hne p (hsub p hp)) hso)
theorem KInv.slim {items : List ItemX} {site : List WantX} {sd : SiteD} (h : KInv items site sd) (hs' : ∃ sx, SiteSame sx (slimR sd).1) : KInv items site (slimR sd).1 ∧ spareR (slimR sd).1.stock (slimR sd).1.needs (slimR sd).1.packs = none ∧ slimR (slimR sd).1 = ((slimR sd).1, 0) ∧ (slimR sd).2 = (sd.packs.length : Int) - ((slimR sd).1.packs.length : Int) := by
  obtain ⟨sx, hs⟩ := h.same
  obtain ⟨g1, g2⟩ := slim_good _ sd.packs (Nat.le_refl _) hs.tr.nd hs.shown.ne h.good
  refine ⟨⟨hs', h.well, h.stock, g1, h.needs⟩, g2, ?_, rfl⟩
  have e : slimL sd.stock sd.needs (slimL sd.stock sd.needs sd.packs) = slimL sd.stock sd.needs sd.packs := slim_none g2
  unfold slimR
  simp only
  rw [e]
  simp

/-! ### Update, Drop -/
theorem update_two {sd : SiteD} (h : (updateR sd).2 = 0) : updateR (updateR sd).1 = ((updateR sd).1, 0) := by
  unfold updateR settleR at h ⊢
  rcases e : buildR sd.stock sd.needs [] with ⟨_ | l, k⟩
  · rw [e] at h
    simp only at h
    subst h
    simp only
    rw [e]
  · simp only
    rw [e]
theorem update_needs (sd : SiteD) : (updateR sd).1.needs = sd.needs ∧ (updateR sd).1.stock = sd.stock := by
  unfold updateR settleR
  rcases buildR sd.stock sd.needs [] with ⟨_ | l, k⟩ <;> exact ⟨rfl, rfl⟩
theorem drop_last_need {sd : SiteD} {n : NeedD} (h : sd.needs = [n]) : dropR sd n.name = (⟨sd.stock, [], []⟩, 0) := by
  have hr : restR sd.needs n.name = [] := by rw [h]; simp [restR]
  unfold dropR
  rw [hr, h]
  simp only [List.length_nil, List.length_cons]
  rw [if_neg (by omega)]
  unfold settleR buildR
  have hb : buildGo sd.stock sd.packs 1000 [] [] (allR sd.stock [] []) = (some [], 0) := rfl
  rw [hb]
  simp only
  have hp : prunedR sd.stock [] [] = [] := rfl
  rw [hp]

end Hst
end Go.Proofs.YtecocheolbkneaaGreatDoor
namespace Go.Proofs.YtecocheolbkneaaGreatDoor
open Go.RowKit
namespace Hst
set_option maxRecDepth 100000

theorem addsK_sub : ∀ (l : List WantX) (sd : SiteD) (site : List WantX), ∀ x ∈ (addsK sd site l).2, x ∈ site ∨ x ∈ l
  | [], _, _, x, hx => .inl hx
  | y :: r, sd, site, x, hx => by
    rw [addsK] at hx
    split at hx
    · rcases addsK_sub r _ _ x hx with h | h
      · rcases List.mem_append.1 h with h | h
        · exact .inl h
        · simp at h; subst h; exact .inr (by simp)
      · exact .inr (List.mem_cons_of_mem _ h)
    · rcases addsK_sub r _ _ x hx with h | h
      · exact .inl h
      · exact .inr (List.mem_cons_of_mem _ h)

set_option maxHeartbeats 8000000 in
theorem again_any (a : Option Addr) (cap : Nat) (items : List ItemX) (la : Option Addr) (lc : Nat) (l : List WantX) (w : World) (hr : ItemsR w a cap items) (hn : items.length ≤ 9223372036854775807) (hwn : ∀ x ∈ items, x.wants.length ≤ 9223372036854775807) (hok : ∀ x ∈ items, ItemOk x) (hl : RowR w la l.length lc 4 (l.flatMap wantC)) (hln : l.length ≤ 9223372036854775807) (hlo : ∀ x ∈ l, WantOk x) :
    Calls Tryz.prog 5 #[.slice a items.length cap, .slice la l.length lc] w fun e w' => e = .returned (.bool true) ∧ Below w.heap.size w w' := by
  have HST := hid' (stocked_any a cap items w hr hn hwn hok)
  have HPL := hid' (fun w h => plain_any la lc l w h hln hlo)
  have HPK : Hid ((plainK l).length ≤ 6 ∧ ∀ x ∈ plainK l, WantOk x) := ⟨plainK_len l, fun x hx => hlo x (plainK_in hx)⟩
  have HL := hid' hl
  clear hr hn hwn hok hl hln hlo
  go_enter Tryz.func5, Tryz.ntmps5
  go_wp2_with fail
  refine HST.out.mono ?_
  rintro e w1 ⟨oa, oc, out, rfl, hix, hbare, h40, hio, hb1⟩
  have HIX := hid' hix
  have HW := hid' (items_well hbare h40 fun x hx => (hio x hx).2)
  have HIO := hid' hio
  have HB1 := hid' hb1
  have HSK := hid' (stock_any false entryF oa oc out 0 w1 hix.r h40 (by omega) (fun x hx => (hio x hx).2) (fun x hx => (hio x hx).1))
  rw [rotK_zero] at HSK
  have HNW := hid' (new_items false out HW.out)
  clear hix hbare hio hb1
  go_wp2_with fail
  refine HSK.out.mono ?_
  rintro e w2 ⟨rfl, hb2⟩
  have HB2 := hid' (HB1.out.trans (hb2.mono HB1.out.size))
  have HIX2 := hid' (HIX.out.below hb2)
  have HRD := hid' (ready_any (bs (stockT false true out)) _ w2 (by rw [tx_bs]; exact HNW.out))
  clear hb2
  generalize bs (stockT false true out) = tb at *
  go_wp2_with fail
  refine HRD.out.mono ?_
  rintro e w3 ⟨b, rfl, hbb, hk3, hb3⟩
  have HB3 := hid' (HB2.out.trans (hb3.mono HB2.out.size))
  have HIX3 := hid' (HIX2.out.below hb3)
  have HK3 := hid' hk3
  have HBB := hid' hbb
  have HPC := hid' (HPL.out w3 (HL.out.below HB3.out))
  clear hb3 hk3 hbb
  go_wp2_with fail
  refine HPC.out.mono ?_
  rintro e w4 ⟨pv, rfl, hown, hb4⟩
  obtain ⟨pa, pc, rfl⟩ := own_slice hown
  have HB4 := hid' (HB3.out.trans (hb4.mono HB3.out.size))
  have HK4 := hid' (HK3.out.below hb4)
  have HIX4 := hid' (HIX3.out.below hb4)
  have HWX := hid' (show WantsX w4 (.slice pa (plainK l).length pc) (plainK l) from RowX.of_own hown)
  obtain ⟨sx, hsx⟩ := HK3.out
  have HAS := hid' (adds_start HW.out hsx.2 l)
  have HAC := hid' (added_any b _ oa oc out pa pc (plainK l) w4 HK4.out HIX4.out (by omega) (fun x hx => (HIO.out x hx).2) (fun x hx => (HIO.out x hx).1) HWX.out (by have := HPK.out.1; omega) HPK.out.2 HAS.out.1)
  have HKI := hid' HAS.out.2
  have HSU : Hid (∀ x ∈ (addsK ⟨out.map fun x => entryD x false, [], []⟩ [] (plainK l)).2, x ∈ plainK l) := fun x hx => by
    rcases addsK_sub (plainK l) _ [] x hx with h | h
    · simp at h
    · exact h
  have HZ : Hid (w.heap.size ≤ b ∧ w.heap.size ≤ w4.heap.size) := ⟨by have := HB2.out.size; have := HBB.out; omega, HB4.out.size⟩
  clear hb4 hown hsx HAS
  generalize (addsK ⟨out.map fun x => entryD x false, [], []⟩ [] (plainK l)).2 = site at *
  generalize (addsK ⟨out.map fun x => entryD x false, [], []⟩ [] (plainK l)).1 = sd at *
  generalize plainK l = pl at *
  go_wp2_with fail
  refine HAC.out.mono ?_
  rintro e w5 ⟨sa, sc, rfl, hsw, hk5, hm5⟩
  have HSW := hid' hsw
  have HK5 := hid' hk5
  have HM5 := hid' hm5
  have HB5 := hid' (HB4.out.trans (hm5.below_of HZ.out.1 HZ.out.2))
  have HIX5 := hid' (HIX4.out.off hm5.but HK4.out.tag)
  have HZ5 : Hid (w.heap.size ≤ b ∧ w.heap.size ≤ w5.heap.size) := ⟨HZ.out.1, HB5.out.size⟩
  clear hsw hk5 hm5
  have HTR := hid' (fun w h => ktree_any b sd w h)
  have HLO := hid' (fun w h => kload_any b sd (bs (textR sd.stock sd.packs)) w h)
  rw [tx_bs, HKI.out.load] at HLO
  simp only at HLO
  have HUP := hid' (fun w h => kupdate_any b sd w h)
  have HND1 : Hid (∀ x, site = [x] → sd.needs = [wantN x]) := fun x hx => by
    have := HKI.out.needs
    rw [hx] at this
    exact List.perm_singleton.1 this
  have HND2 : Hid (∀ x, site = [x] → (updateR sd).1.needs = [wantN x]) := fun x hx => by rw [(update_needs sd).1]; exact HND1.out x hx
  have HU2 := hid' (update_two (sd := sd))
  have hbb0 : ((bs (textR sd.stock sd.packs)).toList == (bs (textR sd.stock sd.packs)).toList) = true := by simp
  generalize bs (textR sd.stock sd.packs) = tt at *
  go_wp2_with fail
  refine (HTR.out _ HK5.out).mono ?_
  rintro e w6 ⟨rfl, hb6⟩
  have HK6 := hid' (HK5.out.below hb6)
  have HM6 := hid' (SMv.of_below (b := b) hb6)
  clear hb6
  go_wp2_with fail
  refine (HLO.out _ HK6.out).mono ?_
  rintro e w7 ⟨rfl, hm7, hk7⟩
  have HK7 := hid' hk7
  have HM7 := hid' (HM6.out.trans hm7)
  clear hm7 hk7
  go_wp2_with fail
  refine (HTR.out _ HK7.out).mono ?_
  rintro e w8 ⟨rfl, hb8⟩
  have HK8 := hid' (HK7.out.below hb8)
  have HM8 := hid' (HM7.out.trans (SMv.of_below (b := b) hb8))
  clear hb8
  go_wp2_with fail
  refine (HUP.out _ HK8.out).mono ?_
  rintro e w9 ⟨rfl, hm9, hk9⟩
  have HK9 := hid' hk9
  have HM9 := hid' (HM8.out.trans hm9)
  clear hm9 hk9
  by_cases hu0 : (updateR sd).2 = 0
  · have HTW := hid' (HU2.out hu0)
    have HTR2 := hid' (fun w h => ktree_any b (updateR sd).1 w h)
    have HUP2 := hid' (fun w h => kupdate_any b (updateR sd).1 w h)
    rw [HTW.out] at HUP2
    simp only at HUP2
    rw [hu0]
    have hbb1 : ((bs (textR (updateR sd).1.stock (updateR sd).1.packs)).toList == (bs (textR (updateR sd).1.stock (updateR sd).1.packs)).toList) = true := by simp
    generalize bs (textR (updateR sd).1.stock (updateR sd).1.packs) = t2 at *
    clear HTW HU2 hu0
    generalize (updateR sd).1 = s1 at *
    go_wp2_with fail
    refine (HTR2.out _ HK9.out).mono ?_
    rintro e x1 ⟨rfl, hb1⟩
    have HKA := hid' (HK9.out.below hb1)
    have HMA := hid' (HM9.out.trans (SMv.of_below (b := b) hb1))
    clear hb1
    go_wp2_with fail
    refine (HUP2.out _ HKA.out).mono ?_
    rintro e x2 ⟨rfl, hm2, hk2⟩
    have HKB := hid' hk2
    have HMB := hid' (HMA.out.trans hm2)
    clear hm2 hk2
    go_wp2_with fail
    refine (HTR2.out _ HKB.out).mono ?_
    rintro e x3 ⟨rfl, hb3⟩
    have HKC := hid' (HKB.out.below hb3)
    have HMC := hid' (HMB.out.trans (SMv.of_below (b := b) hb3))
    clear hb3
    by_cases hs1 : site.length = 1
    · obtain ⟨x, hx⟩ := List.length_eq_one_iff.1 hs1
      have hi1 : (site.length : Int) = 1 := by omega
      have HWR := hid' (RowX.off HSW.out HMC.out.but (by rw [HK5.out.tag]; decide))
      obtain ⟨g, o, ha, hg, hc⟩ := (WantsX.r HWR.out).wants rfl (k := 0) (by omega)
      subst ha
      obtain ⟨c0, -, -, -⟩ := hc 0 (by omega)
      have hsx : site[0] = x := by simp [hx]
      rw [hsx] at c0
      simp only [Nat.zero_mul, Nat.add_zero] at c0
      have HXO : Hid (WantOk x) := HPK.out.2 x (HSU.out x (by rw [hx]; simp))
      have HNA := hid' (fun w => names_any x.name w HXO.out.name)
      have HND : Hid (s1.needs = [wantN x]) := HND2.out x hx
      have HDR : Hid (dropR s1 (nameK x.name) = (⟨s1.stock, [], []⟩, 0)) := drop_last_need HND.out
      have HDC := hid' (fun w h => kdrop_any b s1 (bs (nameK x.name)) w h)
      rw [tx_bs, HDR.out] at HDC
      have HTE := hid' (fun w h => ktree_any b ⟨s1.stock, [], []⟩ w h)
      have HNE := hid' (fun w h => kneeds_any b ⟨s1.stock, [], []⟩ w h)
      have et : textR s1.stock [] = [] := rfl
      have en : neededR ⟨s1.stock, [], []⟩ = [] := rfl
      have eb : bs [] = ByteArray.empty := rfl
      rw [et, eb] at HTE
      rw [en, eb] at HNE
      simp only at HDC HTE
      clear hx hsx hc et en eb hs1 HND HDR
      generalize bs (nameK x.name) = nb at *
      generalize x.name = xn at *
      go_wp2_with fail
      refine (HNA.out _).mono ?_
      rintro e u1 ⟨rfl, hu1⟩
      have HU1 := hid' (HKC.out.below hu1)
      have HV1 := hid' (HMC.out.trans (SMv.of_below (b := b) hu1))
      clear hu1 c0
      go_wp2_with fail
      refine (HDC.out _ HU1.out).mono ?_
      rintro e u2 ⟨rfl, hm2, hk2⟩
      have HU2 := hid' hk2
      have HV2 := hid' (HV1.out.trans hm2)
      clear hm2 hk2
      go_wp2_with fail
      refine (HTE.out _ HU2.out).mono ?_
      rintro e u3 ⟨rfl, hu3⟩
      have HU3 := hid' (HU2.out.below hu3)
      have HV3 := hid' (HV2.out.trans (SMv.of_below (b := b) hu3))
      clear hu3
      go_wp2_with fail
      refine (HNE.out _ HU3.out).mono ?_
      rintro e u4 ⟨rfl, hu4⟩
      have HV4 := hid' (HB5.out.trans ((HV3.out.trans (SMv.of_below (b := b) hu4)).below_of HZ5.out.1 HZ5.out.2))
      clear hu4
      go_wp2
      go_ret
      exact ⟨by simp, HV4.out⟩
    · have hi1 : ¬ (site.length : Int) = 1 := by omega
      have HV4 := hid' (HB5.out.trans (HMC.out.below_of HZ5.out.1 HZ5.out.2))
      go_wp2
      go_ret
      exact ⟨rfl, HV4.out⟩
  · have hu1 : ((updateR sd).2 == 0) = false := beq_eq_false_iff_ne.2 hu0
    generalize (updateR sd).2 = uk at *
    generalize (updateR sd).1 = s1 at *
    clear HU2 hu0
    by_cases hs1 : site.length = 1
    · obtain ⟨x, hx⟩ := List.length_eq_one_iff.1 hs1
      have hi1 : (site.length : Int) = 1 := by omega
      have HWR := hid' (RowX.off HSW.out HM9.out.but (by rw [HK5.out.tag]; decide))
      obtain ⟨g, o, ha, hg, hc⟩ := (WantsX.r HWR.out).wants rfl (k := 0) (by omega)
      subst ha
      obtain ⟨c0, -, -, -⟩ := hc 0 (by omega)
      have hsx : site[0] = x := by simp [hx]
      rw [hsx] at c0
      simp only [Nat.zero_mul, Nat.add_zero] at c0
      have HXO : Hid (WantOk x) := HPK.out.2 x (HSU.out x (by rw [hx]; simp))
      have HNA := hid' (fun w => names_any x.name w HXO.out.name)
      have HND : Hid (s1.needs = [wantN x]) := HND2.out x hx
      have HDR : Hid (dropR s1 (nameK x.name) = (⟨s1.stock, [], []⟩, 0)) := drop_last_need HND.out
      have HDC := hid' (fun w h => kdrop_any b s1 (bs (nameK x.name)) w h)
      rw [tx_bs, HDR.out] at HDC
      have HTE := hid' (fun w h => ktree_any b ⟨s1.stock, [], []⟩ w h)
      have HNE := hid' (fun w h => kneeds_any b ⟨s1.stock, [], []⟩ w h)
      have et : textR s1.stock [] = [] := rfl
      have en : neededR ⟨s1.stock, [], []⟩ = [] := rfl
      have eb : bs [] = ByteArray.empty := rfl
      rw [et, eb] at HTE
      rw [en, eb] at HNE
      simp only at HDC HTE
      clear hx hsx hc et en eb hs1 HND HDR
      generalize bs (nameK x.name) = nb at *
      generalize x.name = xn at *
      go_wp2_with fail
      refine (HNA.out _).mono ?_
      rintro e u1 ⟨rfl, hu1⟩
      have HU1 := hid' (HK9.out.below hu1)
      have HV1 := hid' (HM9.out.trans (SMv.of_below (b := b) hu1))
      clear hu1 c0
      go_wp2_with fail
      refine (HDC.out _ HU1.out).mono ?_
      rintro e u2 ⟨rfl, hm2, hk2⟩
      have HU2 := hid' hk2
      have HV2 := hid' (HV1.out.trans hm2)
      clear hm2 hk2
      go_wp2_with fail
      refine (HTE.out _ HU2.out).mono ?_
      rintro e u3 ⟨rfl, hu3⟩
      have HU3 := hid' (HU2.out.below hu3)
      have HV3 := hid' (HV2.out.trans (SMv.of_below (b := b) hu3))
      clear hu3
      go_wp2_with fail
      refine (HNE.out _ HU3.out).mono ?_
      rintro e u4 ⟨rfl, hu4⟩
      have HV4 := hid' (HB5.out.trans ((HV3.out.trans (SMv.of_below (b := b) hu4)).below_of HZ5.out.1 HZ5.out.2))
      clear hu4
      go_wp2
      go_ret
      exact ⟨by simp, HV4.out⟩
    · have hi1 : ¬ (site.length : Int) = 1 := by omega
      have HV4 := hid' (HB5.out.trans (HM9.out.below_of HZ5.out.1 HZ5.out.2))
      go_wp2
      go_ret
      exact ⟨rfl, HV4.out⟩

end Hst
end Go.Proofs.YtecocheolbkneaaGreatDoor
namespace Go.Proofs.YtecocheolbkneaaGreatDoor
namespace Hst
set_option maxRecDepth 100000

/-- At a path, or in it. -/
def inB (p path : Tx) : Bool := decide (p = path) || isUnderP p path
def thinGo (path : Tx) (s : Tx) : List Tx → Tx
  | [] => s
  | z :: r => if inB (cutR 64 z).1 path = true then thinGo path s r else thinGo path ((if s = [] then [] else s ++ [59]) ++ z) r
def thinK (tree path : Tx) : Tx := thinGo path [] (splitK 59 tree)
theorem thg_in {path s : Tx} {d : List Tx} {k : Nat} (hk : k < d.length) (h : inB (cutR 64 d[k]).1 path = true) : thinGo path s (d.drop k) = thinGo path s (d.drop (k + 1)) := by
  rw [List.drop_eq_getElem_cons hk, thinGo, if_pos h]
theorem thg_out {path s : Tx} {d : List Tx} {k : Nat} (hk : k < d.length) (h : inB (cutR 64 d[k]).1 path = false) : thinGo path s (d.drop k) = thinGo path ((if s = [] then [] else s ++ [59]) ++ d[k]) (d.drop (k + 1)) := by
  rw [List.drop_eq_getElem_cons hk, thinGo, if_neg (by rw [h]; simp)]
theorem thg_end {path s : Tx} {d : List Tx} {k : Nat} (hk : ¬ k < d.length) : thinGo path s (d.drop k) = s := by
  rw [List.drop_of_length_le (by omega)]; rfl
theorem thin_go {st : List EntryD} {path : Tx} (h0 : path ≠ []) : ∀ (l : List PackD) (s : Tx), Shown st l → thinGo path s (l.map (txtD st)) = s ++ joinGo [59] (decide (s = [])) ((withoutR l path).map (txtD st))
  | [], s, _ => by simp [thinGo, withoutR, joinGo]
  | p :: r, s, h => by
    have hr : Shown st r := h.sub (List.pairwise_cons.1 h.nd).2 fun q hq => List.mem_cons_of_mem _ hq
    have hin : inB (cutR 64 (txtD st p)).1 path = hasR (foldersR p.path) path := by
      rw [piece_cut h (p := p) (by simp), under_same p.path path h0]
      rfl
    rw [List.map_cons, thinGo, hin]
    rcases hh : hasR (foldersR p.path) path with _ | _
    · have hw : withoutR (p :: r) path = p :: withoutR r path := by
        unfold withoutR
        rw [List.filter_cons, if_pos (by rw [hh]; rfl)]
      rw [if_neg (by simp), thin_go h0 r _ hr, hw, List.map_cons, joinGo]
      have hne : (if s = [] then [] else s ++ [59]) ++ txtD st p ≠ [] := by
        unfold txtD
        simp
      rw [decide_eq_false hne]
      by_cases hs : s = []
      · subst hs; simp
      · simp [hs]
    · have hw : withoutR (p :: r) path = withoutR r path := by
        unfold withoutR
        rw [List.filter_cons, if_neg (by rw [hh]; simp)]
      rw [if_pos rfl, thin_go h0 r s hr, hw]
theorem thin_text {sd : SiteD} (h : Shown sd.stock sd.packs) {path : Tx} (h0 : path ≠ []) : thinK (textR sd.stock sd.packs) path = textR sd.stock (withoutR sd.packs path) := by
  have hp := pieces_eq h
  unfold piecesK at hp
  unfold thinK
  rw [hp, thin_go h0 _ _ h, textR_join]
  rfl

end Hst
end Go.Proofs.YtecocheolbkneaaGreatDoor
namespace Go.Proofs.YtecocheolbkneaaGreatDoor
open Go.RowKit
namespace Hst
set_option maxRecDepth 100000

theorem cut_short (n : Int) : ∀ l : Tx, (cutR n l).1.length ≤ l.length
  | [] => Nat.le_refl _
  | b :: r => by
    have := cut_short n r
    rw [cutR]
    split
    · simp
    · simp; omega

set_option maxHeartbeats 4000000 in
theorem thin_any (t p : ByteArray) (w : World) (ht : t.size ≤ 100000) (hp : p.size ≤ 100000) :
    Calls Tryz.prog 23 #[.string t, .string p] w fun e w' => e = .returned (.string (bs (thinK (tx t) (tx p)))) ∧ Below w.heap.size w w' := by
  have HS := hid' (ksplit_any t 59 w ht)
  have HLE : Hid ((splitK 59 (tx t)).length ≤ 100001 ∧ ∀ x ∈ splitK 59 (tx t), x.length ≤ 100000) := ⟨by
    unfold splitK
    split
    · simp
    · have := splitL_len 59 (tx t); have := tx_length t; omega, fun x hx => by have := splitK_size 59 t x hx; omega⟩
  have HR : Hid (thinK (tx t) (tx p) = thinGo (tx p) [] ((splitK 59 (tx t)).drop 0)) := rfl
  generalize thinK (tx t) (tx p) = res at *
  generalize splitK 59 (tx t) = d at *
  go_enter Tryz.func23, Tryz.ntmps23
  go_wp2_with fail
  refine HS.out.mono ?_
  rintro e w1 ⟨dv, rfl, hrow, hb1⟩
  obtain ⟨da, dc, rfl, hst⟩ := RowV hrow
  have HST := hid' hst
  have HB1 := hid' hb1
  have hdl := HLE.out.1
  clear hrow hst hb1
  go_wp2
  go_loopw [6, 7] (fun sv i wr => ∃ (k : Nat) (s : Tx), k ≤ d.length ∧ s.length ≤ k * 100001 ∧ sv = .string (bs s) ∧ i = .int .i64 k ∧ Below w1.heap.size w1 wr ∧ Hid (res = thinGo (tx p) s (d.drop k))) (fun _ i _ => d.length - (intOf i).toNat)
  case atStart => exact ⟨0, [], Nat.zero_le _, by simp, rfl, rfl, Below.refl _ _, HR⟩
  case round =>
    obtain ⟨k, s, hk, hsl, rfl, rfl, hbel, hall⟩ := hrel
    have hz := hbel.size
    by_cases hlt : k < d.length
    · obtain ⟨g, o, hv, hg, hc⟩ := (HST.out.below hbel).cells hlt
      subst hv
      have c0 := hc k hlt
      have hdk : d[k].length ≤ 100000 := HLE.out.2 _ (List.getElem_mem hlt)
      have HAH := hid' (fun w => ahead_any (bs d[k]) 64 w (by rw [bs_size]; omega))
      rw [tx_bs] at HAH
      have HIN := hid' (thg_in (path := tx p) (s := s) hlt)
      have HOU := hid' (thg_out (path := tx p) (s := s) hlt)
      have hcl : (cutR 64 d[k]).1.length ≤ d[k].length := cut_short 64 d[k]
      clear hc
      generalize d[k] = z at *
      have k0 : (0 : Int) ≤ (k : Int) := by omega
      have k1 : (k : Int) < (d.length : Int) := by omega
      generalize (cutR 64 z).2.1 = z2 at *
      have HPT : Hid (tx (bs (cutR 64 z).1) = (cutR 64 z).1) := tx_bs _
      generalize bs (cutR 64 z).1 = pb at *
      have hps : pb.size ≤ 100000 := by rw [← tx_length, HPT.out]; omega
      rw [← HPT.out] at HIN HOU
      clear hcl HPT
      have HLK : Hid (s.length ≤ (k + 1) * 100001 ∧ z.length ≤ (k + 1) * 100001 ∧ (s ++ [59] ++ z).length ≤ (k + 1) * 100001) := by unfold Hid; rw [Nat.add_mul]; simp; omega
      have HZ : Hid ((bs z).size = z.length) := bs_size z
      have HSZ : Hid ((bs s).size = s.length) := bs_size s
      go_wp2_with fail
      refine (HAH.out _).mono ?_
      rintro e w2 ⟨rfl, hb2⟩
      have HB2 := hid' (hbel.trans (hb2.mono hz))
      have hg2 : g < w2.heap.size := by have := hb2.size; omega
      have d0 := ((bcell hb2).1 _ _ hg).trans c0
      clear hb2 c0
      by_cases he : tx pb = tx p
      · have HE : Hid (inB (tx pb) (tx p) = true) := by unfold Hid inB; rw [decide_eq_true he]; rfl
        have hb : (pb.toList == p.toList) = true := by rw [tx_toList, tx_toList, he]; simp
        clear he
        have HF : Hid (res = thinGo (tx p) s (d.drop (k + 1))) := by unfold Hid; rw [hall.out]; exact HIN.out HE.out
        clear hall HIN HOU
        go_wp2
        go_roundw
        case rel => exact ⟨k + 1, s, by omega, HLK.out.1, rfl, by go_num, HB2.out, HF⟩
        case measure => simp [intOf] <;> omega
      · have hb : (pb.toList == p.toList) = false := by rw [tx_toList, tx_toList]; simpa using he
        have h8 := tx_length p
        have h9 := tx_length pb
        have HI : Hid (inB (tx pb) (tx p) = isUnderP (tx pb) (tx p)) := by unfold Hid inB; rw [decide_eq_false he]; rfl
        clear he
        by_cases hl : p.size < pb.size
        · have HTB : Hid (tx (p ++ (⟨#[47]⟩ : ByteArray)) = tx p ++ [47]) := by unfold Hid; have e : p ++ (⟨#[47]⟩ : ByteArray) = bs (tx p ++ [47]) := (by rw [← bs_append, bs_tx]; rfl); rw [e, tx_bs]
          have HU : Hid (isUnderP (tx pb) (tx p) = ((pb.extract 0 (p.size + 1)).toList == (p ++ (⟨#[47]⟩ : ByteArray)).toList)) := by
            unfold Hid isUnderP
            rw [tx_toList, tx_toList, tx_extract, HTB.out, List.drop_zero, tx_length]
            simp only [Nat.sub_zero]
            generalize (tx pb).take (p.size + 1) = zz
            by_cases e : zz = tx p ++ [47] <;> simp [e]
          have hl1 : (p.size : Int) < (pb.size : Int) := by omega
          have hl2 : (p.size : Int) + 1 ≤ (pb.size : Int) := by omega
          clear HTB h8 h9
          rcases hu : ((pb.extract 0 (p.size + 1)).toList == (p ++ (⟨#[47]⟩ : ByteArray)).toList) with _ | _
          · have HE : Hid (inB (tx pb) (tx p) = false) := by unfold Hid; rw [HI.out, HU.out]; exact hu
            have HF : Hid (res = thinGo (tx p) ((if s = [] then [] else s ++ [59]) ++ z) (d.drop (k + 1))) := by unfold Hid; rw [hall.out]; exact HOU.out HE.out
            clear hall HIN HOU
            by_cases hs : s = []
            · subst hs
              simp only [if_true, List.nil_append] at HF
              have e0 : bs [] = (⟨#[]⟩ : ByteArray) := rfl
              rw [e0]
              have HC : Hid ((⟨#[]⟩ : ByteArray) ++ bs z = bs z) := by unfold Hid; rw [← e0, bs_append]; rfl
              have hss2 : (bs z).size ≤ 100000 := by rw [HZ.out]; exact hdk
              clear e0 HSZ
              go_wp2
              go_roundw
              case rel => exact ⟨k + 1, z, by omega, HLK.out.2.1, by rw [HC.out], by go_num, HB2.out, HF⟩
              case measure => simp [intOf] <;> omega
            · rw [if_neg hs] at HF
              have hse : ((bs s).toList == []) = false := by rw [tx_toList, tx_bs]; simpa using hs
              have HC : Hid ((bs s ++ (⟨#[59]⟩ : ByteArray)) ++ bs z = bs (s ++ [59] ++ z)) := by unfold Hid; rw [← bs_append, ← bs_append]; rfl
              have hss : (bs s).size ≤ 20000000000 := by rw [HSZ.out]; omega
              have hss2 : (bs z).size ≤ 100000 := by rw [HZ.out]; exact hdk
              clear hs HZ HSZ HAH
              generalize bs z = zb at *
              generalize bs s = sb at *
              go_wp2
              go_roundw
              case rel => exact ⟨k + 1, _, by omega, HLK.out.2.2, by rw [HC.out], by go_num, HB2.out, HF⟩
              case measure => simp [intOf] <;> omega
          · have HE : Hid (inB (tx pb) (tx p) = true) := by unfold Hid; rw [HI.out, HU.out]; exact hu
            have HF : Hid (res = thinGo (tx p) s (d.drop (k + 1))) := by unfold Hid; rw [hall.out]; exact HIN.out HE.out
            clear hall HIN HOU
            go_wp2
            go_roundw
            case rel => exact ⟨k + 1, s, by omega, HLK.out.1, rfl, by go_num, HB2.out, HF⟩
            case measure => simp [intOf] <;> omega
        · have HE : Hid (inB (tx pb) (tx p) = false) := by
            unfold Hid
            rw [HI.out]
            unfold isUnderP
            refine decide_eq_false fun e => ?_
            have := congrArg List.length e
            rw [List.length_take] at this
            simp at this
            omega
          have hl1 : ¬ (p.size : Int) < (pb.size : Int) := by omega
          clear h8 h9
          have HF : Hid (res = thinGo (tx p) ((if s = [] then [] else s ++ [59]) ++ z) (d.drop (k + 1))) := by unfold Hid; rw [hall.out]; exact HOU.out HE.out
          clear hall HIN HOU
          by_cases hs : s = []
          · subst hs
            simp only [if_true, List.nil_append] at HF
            have e0 : bs [] = (⟨#[]⟩ : ByteArray) := rfl
            rw [e0]
            have HC : Hid ((⟨#[]⟩ : ByteArray) ++ bs z = bs z) := by unfold Hid; rw [← e0, bs_append]; rfl
            have hss2 : (bs z).size ≤ 100000 := by rw [HZ.out]; exact hdk
            clear e0 HSZ
            go_wp2
            go_roundw
            case rel => exact ⟨k + 1, z, by omega, HLK.out.2.1, by rw [HC.out], by go_num, HB2.out, HF⟩
            case measure => simp [intOf] <;> omega
          · rw [if_neg hs] at HF
            have hse : ((bs s).toList == []) = false := by rw [tx_toList, tx_bs]; simpa using hs
            have HC : Hid ((bs s ++ (⟨#[59]⟩ : ByteArray)) ++ bs z = bs (s ++ [59] ++ z)) := by unfold Hid; rw [← bs_append, ← bs_append]; rfl
            have hss : (bs s).size ≤ 20000000000 := by rw [HSZ.out]; omega
            have hss2 : (bs z).size ≤ 100000 := by rw [HZ.out]; exact hdk
            clear hs HZ HSZ HAH
            generalize bs z = zb at *
            generalize bs s = sb at *
            go_wp2
            go_roundw
            case rel => exact ⟨k + 1, _, by omega, HLK.out.2.2, by rw [HC.out], by go_num, HB2.out, HF⟩
            case measure => simp [intOf] <;> omega
    · have HF : Hid (res = s) := by unfold Hid; rw [hall.out, thg_end hlt]
      have HBE := hid' (HB1.out.trans (hbel.mono HB1.out.size))
      clear hall
      go_wp2
      go_ret
      exact ⟨by rw [HF.out]; rfl, HBE.out⟩

end Hst
end Go.Proofs.YtecocheolbkneaaGreatDoor
