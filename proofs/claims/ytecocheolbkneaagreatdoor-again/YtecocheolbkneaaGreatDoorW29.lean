/- Kagain, Kagw, Kopen, Again -/
import Derived.Test.YtecocheolbkneaaGreatDoorW24
import Derived.Test.YtecocheolbkneaaGreatDoorW25
import Derived.Test.YtecocheolbkneaaGreatDoorW27
import Derived.Test.YtecocheolbkneaaGreatDoorW28
import Derived.Test.YtecocheolbkneaaGreatDoorW10
import Derived.ProofKit
import Derived.OpenShut
import Derived.ShutString
import Derived.SizedLaws
import Derived.Carry
import Derived.Deep.Slices
import Derived.Test.YtecocheolbkneaaGreatDoorTie
import Derived.Test.YtecocheolbkneaaGreatDoorCards
import Derived.LaidMore
import Derived.Stop.Joined
import Derived.SevenTiedAt
namespace Go.Proofs.YtecocheolbkneaaGreatDoor
namespace Hst
set_option maxRecDepth 100000

/-! ### how long a tree's text is -/
theorem folder_ahead {p f : Tx} (hf : f ∈ foldersR p) (h0 : f ≠ []) : f = p ∨ less f p = true := by
  obtain ⟨j, _, _, rfl⟩ := (fg_mem p f h0 _).1 hf
  by_cases e : p.drop j = []
  · left
    have := List.take_append_drop j p
    rw [e, List.append_nil] at this
    exact this
  · right
    have := less_longer (p.take j) (p.drop j) e
    rw [List.take_append_drop] at this
    exact this
theorem path_at {stx : List EntX} {l : List PackD} {t : List PkX} (ht : TreeSame stx l t) (hr : Rises (fun p => p.path) l) (hf : Folded l) (k : Nat) (hk : k < l.length) : l[k].path.length ≤ 4 * (k + 1) := by
  have hp := List.getElem_mem hk
  have h1 := path_folders ht _ l[k].path (Nat.le_refl _) (hf _ hp)
  have h2 := nodup_len (foldersR l[k].path) ([] :: (l.take (k + 1)).map fun p => p.path) (folders_nodup _ _ (Nat.le_refl _)) fun f hfm => by
    rcases hf _ hp f hfm with h0 | ⟨b, hb, e⟩
    · rw [h0]; simp
    · by_cases hf0 : f = []
      · rw [hf0]; simp
      · refine List.mem_cons_of_mem _ (List.mem_map.2 ⟨b, ?_, e⟩)
        obtain ⟨j, hj, rfl⟩ := List.mem_iff_getElem.1 hb
        have hjk : j ≤ k := by
          rcases Nat.lt_or_ge k j with h | h
          · have h3 : less l[k].path l[j].path = true := List.pairwise_iff_getElem.1 hr k j hk hj h
            rcases folder_ahead hfm hf0 with h4 | h4
            · rw [e, h4, less_irr] at h3; exact absurd h3 (by simp)
            · rw [e, less_asymm h4] at h3; exact absurd h3 (by simp)
          · exact h
        rw [List.mem_take_iff_getElem]
        exact ⟨j, by omega, rfl⟩
  simp at h2
  have h3 : ((l.take (k + 1)).map fun p : PackD => p.path).length ≤ k + 1 := by simp; omega
  omega
def triN : Nat → Nat
  | 0 => 0
  | k + 1 => triN k + 4 * (k + 1) + 10
theorem triN_mono : ∀ (a b : Nat), a ≤ b → triN a ≤ triN b
  | a, 0, h => by have : a = 0 := by omega
                  subst this; exact Nat.le_refl _
  | a, b + 1, h => by
    by_cases e : a = b + 1
    · rw [e]; exact Nat.le_refl _
    · have := triN_mono a b (by omega)
      rw [triN]
      omega
theorem text_len {st : List EntryD} {l : List PackD} (h : ∀ (k : Nat) (hk : k < l.length), l[k].path.length ≤ 4 * (k + 1)) : ∀ (m k : Nat) (b : Bool), k + m = l.length → (textGo st b (l.drop k)).length + triN k ≤ triN l.length
  | 0, k, b, hk => by
    rw [txg_end st l k (by omega) b, show k = l.length by omega]
    simp
  | m + 1, k, b, hk => by
    have hlt : k < l.length := by omega
    have h1 := text_len (st := st) h m (k + 1) false (by omega)
    have h2 := h k hlt
    have h3 := verT_len (verOf st l[k].of).a.toNat (verOf st l[k].of).b.toNat (verOf st l[k].of).c.toNat
    rw [triN] at h1
    rw [txg_next st l k hlt b]
    unfold vtx
    cases b <;> simp <;> omega
theorem text_short {stx : List EntX} {st : List EntryD} {l : List PackD} {t : List PkX} (ht : TreeSame stx l t) (hr : Rises (fun p => p.path) l) (hf : Folded l) (h40 : l.length ≤ 40) : (textR st l).length ≤ 4000 := by
  have h1 := text_len (st := st) (path_at ht hr hf) l.length 0 true (by omega)
  have h2 := triN_mono l.length 40 h40
  have h3 : triN 40 = 3680 := by decide
  simp only [List.drop_zero] at h1
  unfold textR
  omega

/-! ### what is read of a tree's own text -/
theorem last_name {stx : List EntX} {l : List PackD} {t : List PkX} (ht : TreeSame stx l t) {p : PackD} (hp : p ∈ l) : (lastR p.path).1 = (stx.getD p.of zeroE).name := by
  have hw := ht.wf p hp
  have hne := tree_ne' ht hp
  by_cases h0 : folderP p.path = []
  · rw [last_out hne h0]
    rw [h0] at hw
    unfold joinR at hw
    rw [if_pos rfl] at hw
    exact hw
  · rw [last_in hne h0]
    unfold joinR at hw
    rw [if_neg h0] at hw
    have e : p.path.drop ((folderP p.path).length + 1) = (folderP p.path ++ [47] ++ (stx.getD p.of zeroE).name).drop ((folderP p.path).length + 1) := by rw [← hw]
    simp only
    rw [e]
    exact List.drop_left' (by simp)
theorem read_go {stx : List EntX} {st : List EntryD} {l : List PackD} {t : List PkX} (hs : StockSame stx st) (ht : TreeSame stx l t) (hr : Rises (fun p => p.path) l) (hsh : Shown st l) (hv : ∀ p ∈ l, versionR (vtx (verOf st p.of)) = (verOf st p.of, true)) : ∀ (l1 l0 : List PackD), l = l0 ++ l1 → readGo st l0 (l1.map (txtD st)) = l
  | [], l0, e => by rw [List.map_nil, readGo, e]; simp
  | p :: l1, l0, e => by
    have hp : p ∈ l := by rw [e]; simp
    have hk := ht.of p hp
    rw [List.map_cons, readGo, piece_cut hsh hp]
    simp only
    rw [hv p hp]
    simp only
    rw [if_pos trivial, last_name ht hp]
    have hval := (hs.at hk).val
    rcases entry_same hs (name := (stx.getD p.of zeroE).name) hval with ⟨k, e1, hk1, _, e3, e4⟩ | ⟨_, e2⟩
    · have hko : k = p.of := hs.one k p.of hk1 hk e3 (by rw [(hs.ver hk1).1, (hs.ver hk).1, e4]; rfl)
      have hvv : verOf st p.of = (st.getD p.of zeroD).v := rfl
      rw [hvv, e1, hko]
      simp only
      have hr' := hr
      rw [e] at hr'
      have hpw := List.pairwise_append.1 hr'
      have hpl : placedR l0 ⟨p.path, p.of⟩ = l0 ++ [p] := by
        rw [placedR_ins]
        exact insX_end _ _ _ fun y hy => hpw.2.2 y hy p (by simp)
      rw [hpl]
      exact read_go hs ht hr hsh hv l1 (l0 ++ [p]) (by rw [e]; simp)
    · exfalso
      have hin : stx.getD p.of zeroE ∈ stx := by
        rw [List.getD_eq_getElem?_getD, List.getElem?_eq_getElem hk]
        exact List.getElem_mem _
      have := List.find?_eq_none.1 e2 _ hin
      exact this (by rw [(hs.ver hk).1]; simp; rfl)
theorem read_text {stx : List EntX} {st : List EntryD} {l : List PackD} {t : List PkX} (hs : StockSame stx st) (ht : TreeSame stx l t) (hr : Rises (fun p => p.path) l) (hsh : Shown st l) (hv : ∀ p ∈ l, versionR (vtx (verOf st p.of)) = (verOf st p.of, true)) : readR st (textR st l) = l := by
  unfold readR
  by_cases h0 : l = []
  · subst h0
    simp [textR, textGo, splitL, readGo, cutR, versionR]
  · have h59 : ((59 : UInt8).toNat : Int) = 59 := rfl
    have := split_join 59 (l.map (txtD st)) (by simpa using h0) fun p hp x hx => by
      obtain ⟨q, hq, rfl⟩ := List.mem_map.1 hp
      exact hsh.n59 q hq x hx
    rw [h59] at this
    rw [textR_join, this]
    exact read_go hs ht hr hsh hv l [] rfl

/-! ### Load -/
theorem KInv.ver {items : List ItemX} {site : List WantX} {sd : SiteD} (h : KInv items site sd) : ∀ p ∈ sd.packs, versionR (vtx (verOf sd.stock p.of)) = (verOf sd.stock p.of, true) := fun p hp => by
  obtain ⟨y, hy, ey⟩ := h.at hp
  have hv : verOf sd.stock p.of = verK y.major y.minor := by
    have : verOf sd.stock p.of = (sd.stock.getD p.of zeroD).v := rfl
    rw [this, ey]; rfl
  rw [hv, verK_text, numberK_ver]
theorem KInv.load {items : List ItemX} {site : List WantX} {sd : SiteD} (h : KInv items site sd) : loadR sd (textR sd.stock sd.packs) = (sd, 0) := by
  obtain ⟨sx, hs⟩ := h.same
  have hr := rises_of hs.tr hs.eq
  have hrd := read_text hs.st hs.tr hr hs.shown h.ver
  have hlen := text_short (st := sd.stock) hs.tr hr hs.fold hs.l40
  have hh : hangsR sd.packs = true := hangs_of hs.tr.nd hs.fold hs.shown.ne
  have hpr : prunedR sd.stock sd.needs sd.packs = sd.packs := by
    obtain ⟨hr2, hm⟩ := prunedR_mem (st := sd.stock) (nd := sd.needs) hs.tr.nd
    refine Rises.ext hr2 hr fun p => ?_
    rw [hm p]
    exact ⟨fun h => h.1, fun hp => ⟨hp, h.good.used p hp⟩⟩
  have hu : (inUseR sd.stock sd.needs sd.packs).length = sd.packs.length := by rw [used_len hs.tr.nd, hpr]
  have h40 := hs.l40
  have hm : allMetR sd.stock sd.packs (allR sd.stock sd.needs sd.packs) = true := by
    unfold allMetR
    rw [List.all_eq_true]
    exact h.good.met
  rw [lr_good (by omega) (by rw [hrd, hh]; simp; omega) (by rw [hrd, hm, hu]; simp), hrd]
theorem spare_none {st : List EntryD} {nd : List NeedD} {l : List PackD} : ∀ (i : Nat), spareGo st nd l i = none → ∀ j, j < i → allMetR st (withoutR l (packAt l j).path) (allR st nd (withoutR l (packAt l j).path)) = false
  | 0, _, j, hj => by omega
  | i + 1, h, j, hj => by
    rw [spareGo] at h
    split at h
    · simp at h
    · rename_i hn
      by_cases e : j = i
      · rw [e]; simpa using hn
      · exact spare_none i h j (by omega)
theorem Shown.sub {st : List EntryD} {l m : List PackD} (h : Shown st l) (hn : m.Pairwise fun p q => p.path ≠ q.path) (hm : ∀ p ∈ m, p ∈ l) : Shown st m :=
  ⟨hn, fun p hp => h.n59 p (hm p hp), fun p hp => h.n64 p (hm p hp), fun p hp => h.last p (hm p hp), fun p hp => h.ne p (hm p hp)⟩
theorem textR_sub {st : List EntryD} (f : PackD → Bool) : ∀ (l : List PackD) (b : Bool), (textGo st b (l.filter f)).length ≤ (textGo st b l).length
  | [], b => by simp
  | p :: r, b => by
    have h1 := textR_sub (st := st) f r false
    have h2 := textR_sub (st := st) f r b
    have h3 : (textGo st b r).length ≤ (textGo st false r).length := by
      cases r with
      | nil => simp [textGo]
      | cons q r => rw [textGo, textGo]; cases b <;> simp
    rw [List.filter_cons]
    split
    · rw [textGo, textGo]
      cases b <;> simp <;> omega
    · rw [textGo]
      cases b <;> simp <;> omega
theorem KInv.thin {items : List ItemX} {site : List WantX} {sd : SiteD} (h : KInv items site sd) (hsp : spareR sd.stock sd.needs sd.packs = none) {p : PackD} (hp : p ∈ sd.packs) : loadR sd (textR sd.stock (withoutR sd.packs p.path)) = (sd, 12) := by
  obtain ⟨sx, hs⟩ := h.same
  have hr := rises_of hs.tr hs.eq
  have hlen := text_short (st := sd.stock) hs.tr hr hs.fold hs.l40
  have hlen2 : (textR sd.stock (withoutR sd.packs p.path)).length ≤ 4000 := by
    have := textR_sub (st := sd.stock) (fun q => !hasR (foldersR q.path) p.path) sd.packs true
    unfold textR at hlen ⊢
    unfold withoutR
    omega
  have hsub : ∀ q ∈ withoutR sd.packs p.path, q ∈ sd.packs := fun q hq => wtd_mem hq
  have ht2 := without_tree hs.tr hs.eq p.path
  have hr2 : Rises (fun p => p.path) (withoutR sd.packs p.path) := List.Pairwise.sublist List.filter_sublist hr
  have hrd := read_text hs.st ht2 hr2 (hs.shown.sub ht2.nd hsub) fun q hq => h.ver q (hsub q hq)
  have hns : allMetR sd.stock (withoutR sd.packs p.path) (allR sd.stock sd.needs (withoutR sd.packs p.path)) = false := by
    obtain ⟨k, hk, e⟩ := List.mem_iff_getElem.1 hp
    have := spare_none _ hsp k hk
    have e2 : packAt sd.packs k = p := by unfold packAt; rw [List.getD_eq_getElem?_getD, List.getElem?_eq_getElem hk]; exact e
    rw [e2] at this
    exact this
  rcases hb : (!decide (textR sd.stock (readR sd.stock (textR sd.stock (withoutR sd.packs p.path))) = textR sd.stock (withoutR sd.packs p.path)) || (!hangsR (readR sd.stock (textR sd.stock (withoutR sd.packs p.path))) || decide (40 < (readR sd.stock (textR sd.stock (withoutR sd.packs p.path))).length))) with _ | _
  · exact lr_use (by omega) hb (by rw [hrd, hns]; rfl)
  · exact lr_text (by omega) hb

/-! ### Slim -/
theorem spg_sound {st : List EntryD} {nd : List NeedD} {l m : List PackD} : ∀ i, spareGo st nd l i = some m → allMetR st m (allR st nd m) = true
  | 0, h => by simp [spareGo] at h
  | i + 1, h => by
    rw [spareGo] at h
    split at h
    · rename_i hs
      have := Option.some.inj h
      subst this
      exact hs
    · exact spg_sound i h
theorem prR_nd {st : List EntryD} {nd : List NeedD} {l : List PackD} (hl : l.Pairwise fun p q => p.path ≠ q.path) : (prunedR st nd l).Pairwise fun p q => p.path ≠ q.path := List.Pairwise.imp (fun h => less_ne h) (prunedR_mem (st := st) (nd := nd) hl).1
theorem slim_good {st : List EntryD} {nd : List NeedD} : ∀ (n : Nat) (l : List PackD), l.length ≤ n → (l.Pairwise fun p q => p.path ≠ q.path) → (∀ p ∈ l, p.path ≠ []) → Good st nd l → Good st nd (slimL st nd l) ∧ spareR st nd (slimL st nd l) = none
  | n, l, hn, hl, hne, hg => by
    rcases e : spareR st nd l with _ | m
    · rw [slim_none e]; exact ⟨hg, e⟩
    · have h1 := spare_lt e
      have h2 := prR_le st nd m
      rw [slim_some e]
      obtain ⟨j, hj, rfl⟩ := spg_some _ e
      have hsub : ∀ q ∈ withoutR l (packAt l j).path, q ∈ l := fun q hq => wtd_mem hq
      have hnd : (withoutR l (packAt l j).path).Pairwise fun p q => p.path ≠ q.path := List.Pairwise.sublist List.filter_sublist hl
      have hso := spg_sound _ e
      unfold allMetR at hso
      rw [List.all_eq_true] at hso
      match n with
      | 0 => omega
      | n + 1 => exact slim_good n _ (by omega) (prR_nd hnd) (fun p hp => hne p (hsub p (prR_sub hp))) (pruned_good hnd (fun p hp => hne p (hsub p hp)) hso)
theorem KInv.slim {items : List ItemX} {site : List WantX} {sd : SiteD} (h : KInv items site sd) (hs' : ∃ sx, SiteSame sx (slimR sd).1) : KInv items site (slimR sd).1 ∧ spareR (slimR sd).1.stock (slimR sd).1.needs (slimR sd).1.packs = none ∧ slimR (slimR sd).1 = ((slimR sd).1, 0) ∧ (slimR sd).2 = (sd.packs.length : Int) - ((slimR sd).1.packs.length : Int) := by
  obtain ⟨sx, hs⟩ := h.same
  obtain ⟨g1, g2⟩ := slim_good _ sd.packs (Nat.le_refl _) hs.tr.nd hs.shown.ne h.good
  refine ⟨⟨hs', h.well, h.stock, g1, h.needs⟩, g2, ?_, rfl⟩
  have e : slimL sd.stock sd.needs (slimL sd.stock sd.needs sd.packs) = slimL sd.stock sd.needs sd.packs := slim_none g2
  unfold slimR
  simp only
  rw [e]
  simp

/-! ### Update, Drop -/
theorem update_two {sd : SiteD} (h : (updateR sd).2 = 0) : updateR (updateR sd).1 = ((updateR sd).1, 0) := by
  unfold updateR settleR at h ⊢
  rcases e : buildR sd.stock sd.needs [] with ⟨_ | l, k⟩
  · rw [e] at h
    simp only at h
    subst h
    simp only
    rw [e]
  · simp only
    rw [e]
theorem update_needs (sd : SiteD) : (updateR sd).1.needs = sd.needs ∧ (updateR sd).1.stock = sd.stock := by
  unfold updateR settleR
  rcases buildR sd.stock sd.needs [] with ⟨_ | l, k⟩ <;> exact ⟨rfl, rfl⟩
theorem drop_last_need {sd : SiteD} {n : NeedD} (h : sd.needs = [n]) : dropR sd n.name = (⟨sd.stock, [], []⟩, 0) := by
  have hr : restR sd.needs n.name = [] := by rw [h]; simp [restR]
  unfold dropR
  rw [hr, h]
  simp only [List.length_nil, List.length_cons]
  rw [if_neg (by omega)]
  unfold settleR buildR
  have hb : buildGo sd.stock sd.packs 1000 [] [] (allR sd.stock [] []) = (some [], 0) := rfl
  rw [hb]
  simp only
  have hp : prunedR sd.stock [] [] = [] := rfl
  rw [hp]

end Hst
end Go.Proofs.YtecocheolbkneaaGreatDoor
namespace Go.Proofs.YtecocheolbkneaaGreatDoor
open Go.RowKit
namespace Hst
set_option maxRecDepth 100000

theorem addsK_sub : ∀ (l : List WantX) (sd : SiteD) (site : List WantX), ∀ x ∈ (addsK sd site l).2, x ∈ site ∨ x ∈ l
  | [], _, _, x, hx => .inl hx
  | y :: r, sd, site, x, hx => by
    rw [addsK] at hx
    split at hx
    · rcases addsK_sub r _ _ x hx with h | h
      · rcases List.mem_append.1 h with h | h
        · exact .inl h
        · simp at h; subst h; exact .inr (by simp)
      · exact .inr (List.mem_cons_of_mem _ h)
    · rcases addsK_sub r _ _ x hx with h | h
      · exact .inl h
      · exact .inr (List.mem_cons_of_mem _ h)

set_option maxHeartbeats 8000000 in
theorem again_any (a : Option Addr) (cap : Nat) (items : List ItemX) (la : Option Addr) (lc : Nat) (l : List WantX) (w : World) (hr : ItemsR w a cap items) (hn : items.length ≤ 9223372036854775807) (hwn : ∀ x ∈ items, x.wants.length ≤ 9223372036854775807) (hok : ∀ x ∈ items, ItemOk x) (hl : RowR w la l.length lc 4 (l.flatMap wantC)) (hln : l.length ≤ 9223372036854775807) (hlo : ∀ x ∈ l, WantOk x) :
    Calls Tryz.prog 5 #[.slice a items.length cap, .slice la l.length lc] w fun e w' => e = .returned (.bool true) ∧ Below w.heap.size w w' := by
  have HST := hid' (stocked_any a cap items w hr hn hwn hok)
  have HPL := hid' (fun w h => plain_any la lc l w h hln hlo)
  have HPK : Hid ((plainK l).length ≤ 6 ∧ ∀ x ∈ plainK l, WantOk x) := ⟨plainK_len l, fun x hx => hlo x (plainK_in hx)⟩
  have HL := hid' hl
  clear hr hn hwn hok hl hln hlo
  go_enter Tryz.func5, Tryz.ntmps5
  go_wp2_with fail
  refine HST.out.mono ?_
  rintro e w1 ⟨oa, oc, out, rfl, hix, hbare, h40, hio, hb1⟩
  have HIX := hid' hix
  have HW := hid' (items_well hbare h40 fun x hx => (hio x hx).2)
  have HIO := hid' hio
  have HB1 := hid' hb1
  have HSK := hid' (stock_any false entryF oa oc out 0 w1 hix.r h40 (by omega) (fun x hx => (hio x hx).2) (fun x hx => (hio x hx).1))
  rw [rotK_zero] at HSK
  have HNW := hid' (new_items false out HW.out)
  clear hix hbare hio hb1
  go_wp2_with fail
  refine HSK.out.mono ?_
  rintro e w2 ⟨rfl, hb2⟩
  have HB2 := hid' (HB1.out.trans (hb2.mono HB1.out.size))
  have HIX2 := hid' (HIX.out.below hb2)
  have HRD := hid' (ready_any (bs (stockT false true out)) _ w2 (by rw [tx_bs]; exact HNW.out))
  clear hb2
  generalize bs (stockT false true out) = tb at *
  go_wp2_with fail
  refine HRD.out.mono ?_
  rintro e w3 ⟨b, rfl, hbb, hk3, hb3⟩
  have HB3 := hid' (HB2.out.trans (hb3.mono HB2.out.size))
  have HIX3 := hid' (HIX2.out.below hb3)
  have HK3 := hid' hk3
  have HBB := hid' hbb
  have HPC := hid' (HPL.out w3 (HL.out.below HB3.out))
  clear hb3 hk3 hbb
  go_wp2_with fail
  refine HPC.out.mono ?_
  rintro e w4 ⟨pv, rfl, hown, hb4⟩
  obtain ⟨pa, pc, rfl⟩ := own_slice hown
  have HB4 := hid' (HB3.out.trans (hb4.mono HB3.out.size))
  have HK4 := hid' (HK3.out.below hb4)
  have HIX4 := hid' (HIX3.out.below hb4)
  have HWX := hid' (show WantsX w4 (.slice pa (plainK l).length pc) (plainK l) from RowX.of_own hown)
  obtain ⟨sx, hsx⟩ := HK3.out
  have HAS := hid' (adds_start HW.out hsx.2 l)
  have HAC := hid' (added_any b _ oa oc out pa pc (plainK l) w4 HK4.out HIX4.out (by omega) (fun x hx => (HIO.out x hx).2) (fun x hx => (HIO.out x hx).1) HWX.out (by have := HPK.out.1; omega) HPK.out.2 HAS.out.1)
  have HKI := hid' HAS.out.2
  have HSU : Hid (∀ x ∈ (addsK ⟨out.map fun x => entryD x false, [], []⟩ [] (plainK l)).2, x ∈ plainK l) := fun x hx => by
    rcases addsK_sub (plainK l) _ [] x hx with h | h
    · simp at h
    · exact h
  have HZ : Hid (w.heap.size ≤ b ∧ w.heap.size ≤ w4.heap.size) := ⟨by have := HB2.out.size; have := HBB.out; omega, HB4.out.size⟩
  clear hb4 hown hsx HAS
  generalize (addsK ⟨out.map fun x => entryD x false, [], []⟩ [] (plainK l)).2 = site at *
  generalize (addsK ⟨out.map fun x => entryD x false, [], []⟩ [] (plainK l)).1 = sd at *
  generalize plainK l = pl at *
  go_wp2_with fail
  refine HAC.out.mono ?_
  rintro e w5 ⟨sa, sc, rfl, hsw, hk5, hm5⟩
  have HSW := hid' hsw
  have HK5 := hid' hk5
  have HM5 := hid' hm5
  have HB5 := hid' (HB4.out.trans (hm5.below_of HZ.out.1 HZ.out.2))
  have HIX5 := hid' (HIX4.out.off hm5.but HK4.out.tag)
  have HZ5 : Hid (w.heap.size ≤ b ∧ w.heap.size ≤ w5.heap.size) := ⟨HZ.out.1, HB5.out.size⟩
  clear hsw hk5 hm5
  have HTR := hid' (fun w h => ktree_any b sd w h)
  have HLO := hid' (fun w h => kload_any b sd (bs (textR sd.stock sd.packs)) w h)
  rw [tx_bs, HKI.out.load] at HLO
  simp only at HLO
  have HUP := hid' (fun w h => kupdate_any b sd w h)
  have HND1 : Hid (∀ x, site = [x] → sd.needs = [wantN x]) := fun x hx => by
    have := HKI.out.needs
    rw [hx] at this
    exact List.perm_singleton.1 this
  have HND2 : Hid (∀ x, site = [x] → (updateR sd).1.needs = [wantN x]) := fun x hx => by rw [(update_needs sd).1]; exact HND1.out x hx
  have HU2 := hid' (update_two (sd := sd))
  have hbb0 : ((bs (textR sd.stock sd.packs)).toList == (bs (textR sd.stock sd.packs)).toList) = true := by simp
  generalize bs (textR sd.stock sd.packs) = tt at *
  go_wp2_with fail
  refine (HTR.out _ HK5.out).mono ?_
  rintro e w6 ⟨rfl, hb6⟩
  have HK6 := hid' (HK5.out.below hb6)
  have HM6 := hid' (SMv.of_below (b := b) hb6)
  clear hb6
  go_wp2_with fail
  refine (HLO.out _ HK6.out).mono ?_
  rintro e w7 ⟨rfl, hm7, hk7⟩
  have HK7 := hid' hk7
  have HM7 := hid' (HM6.out.trans hm7)
  clear hm7 hk7
  go_wp2_with fail
  refine (HTR.out _ HK7.out).mono ?_
  rintro e w8 ⟨rfl, hb8⟩
  have HK8 := hid' (HK7.out.below hb8)
  have HM8 := hid' (HM7.out.trans (SMv.of_below (b := b) hb8))
  clear hb8
  go_wp2_with fail
  refine (HUP.out _ HK8.out).mono ?_
  rintro e w9 ⟨rfl, hm9, hk9⟩
  have HK9 := hid' hk9
  have HM9 := hid' (HM8.out.trans hm9)
  clear hm9 hk9
  by_cases hu0 : (updateR sd).2 = 0
  · have HTW := hid' (HU2.out hu0)
    have HTR2 := hid' (fun w h => ktree_any b (updateR sd).1 w h)
    have HUP2 := hid' (fun w h => kupdate_any b (updateR sd).1 w h)
    rw [HTW.out] at HUP2
    simp only at HUP2
    rw [hu0]
    have hbb1 : ((bs (textR (updateR sd).1.stock (updateR sd).1.packs)).toList == (bs (textR (updateR sd).1.stock (updateR sd).1.packs)).toList) = true := by simp
    generalize bs (textR (updateR sd).1.stock (updateR sd).1.packs) = t2 at *
    clear HTW HU2 hu0
    generalize (updateR sd).1 = s1 at *
    go_wp2_with fail
    refine (HTR2.out _ HK9.out).mono ?_
    rintro e x1 ⟨rfl, hb1⟩
    have HKA := hid' (HK9.out.below hb1)
    have HMA := hid' (HM9.out.trans (SMv.of_below (b := b) hb1))
    clear hb1
    go_wp2_with fail
    refine (HUP2.out _ HKA.out).mono ?_
    rintro e x2 ⟨rfl, hm2, hk2⟩
    have HKB := hid' hk2
    have HMB := hid' (HMA.out.trans hm2)
    clear hm2 hk2
    go_wp2_with fail
    refine (HTR2.out _ HKB.out).mono ?_
    rintro e x3 ⟨rfl, hb3⟩
    have HKC := hid' (HKB.out.below hb3)
    have HMC := hid' (HMB.out.trans (SMv.of_below (b := b) hb3))
    clear hb3
    by_cases hs1 : site.length = 1
    · obtain ⟨x, hx⟩ := List.length_eq_one_iff.1 hs1
      have hi1 : (site.length : Int) = 1 := by omega
      have HWR := hid' (RowX.off HSW.out HMC.out.but (by rw [HK5.out.tag]; decide))
      obtain ⟨g, o, ha, hg, hc⟩ := (WantsX.r HWR.out).wants rfl (k := 0) (by omega)
      subst ha
      obtain ⟨c0, -, -, -⟩ := hc 0 (by omega)
      have hsx : site[0] = x := by simp [hx]
      rw [hsx] at c0
      simp only [Nat.zero_mul, Nat.add_zero] at c0
      have HXO : Hid (WantOk x) := HPK.out.2 x (HSU.out x (by rw [hx]; simp))
      have HNA := hid' (fun w => names_any x.name w HXO.out.name)
      have HND : Hid (s1.needs = [wantN x]) := HND2.out x hx
      have HDR : Hid (dropR s1 (nameK x.name) = (⟨s1.stock, [], []⟩, 0)) := drop_last_need HND.out
      have HDC := hid' (fun w h => kdrop_any b s1 (bs (nameK x.name)) w h)
      rw [tx_bs, HDR.out] at HDC
      have HTE := hid' (fun w h => ktree_any b ⟨s1.stock, [], []⟩ w h)
      have HNE := hid' (fun w h => kneeds_any b ⟨s1.stock, [], []⟩ w h)
      have et : textR s1.stock [] = [] := rfl
      have en : neededR ⟨s1.stock, [], []⟩ = [] := rfl
      have eb : bs [] = ByteArray.empty := rfl
      rw [et, eb] at HTE
      rw [en, eb] at HNE
      simp only at HDC HTE
      clear hx hsx hc et en eb hs1 HND HDR
      generalize bs (nameK x.name) = nb at *
      generalize x.name = xn at *
      go_wp2_with fail
      refine (HNA.out _).mono ?_
      rintro e u1 ⟨rfl, hu1⟩
      have HU1 := hid' (HKC.out.below hu1)
      have HV1 := hid' (HMC.out.trans (SMv.of_below (b := b) hu1))
      clear hu1 c0
      go_wp2_with fail
      refine (HDC.out _ HU1.out).mono ?_
      rintro e u2 ⟨rfl, hm2, hk2⟩
      have HU2 := hid' hk2
      have HV2 := hid' (HV1.out.trans hm2)
      clear hm2 hk2
      go_wp2_with fail
      refine (HTE.out _ HU2.out).mono ?_
      rintro e u3 ⟨rfl, hu3⟩
      have HU3 := hid' (HU2.out.below hu3)
      have HV3 := hid' (HV2.out.trans (SMv.of_below (b := b) hu3))
      clear hu3
      go_wp2_with fail
      refine (HNE.out _ HU3.out).mono ?_
      rintro e u4 ⟨rfl, hu4⟩
      have HV4 := hid' (HB5.out.trans ((HV3.out.trans (SMv.of_below (b := b) hu4)).below_of HZ5.out.1 HZ5.out.2))
      clear hu4
      go_wp2
      go_ret
      exact ⟨by simp, HV4.out⟩
    · have hi1 : ¬ (site.length : Int) = 1 := by omega
      have HV4 := hid' (HB5.out.trans (HMC.out.below_of HZ5.out.1 HZ5.out.2))
      go_wp2
      go_ret
      exact ⟨rfl, HV4.out⟩
  · have hu1 : ((updateR sd).2 == 0) = false := beq_eq_false_iff_ne.2 hu0
    generalize (updateR sd).2 = uk at *
    generalize (updateR sd).1 = s1 at *
    clear HU2 hu0
    by_cases hs1 : site.length = 1
    · obtain ⟨x, hx⟩ := List.length_eq_one_iff.1 hs1
      have hi1 : (site.length : Int) = 1 := by omega
      have HWR := hid' (RowX.off HSW.out HM9.out.but (by rw [HK5.out.tag]; decide))
      obtain ⟨g, o, ha, hg, hc⟩ := (WantsX.r HWR.out).wants rfl (k := 0) (by omega)
      subst ha
      obtain ⟨c0, -, -, -⟩ := hc 0 (by omega)
      have hsx : site[0] = x := by simp [hx]
      rw [hsx] at c0
      simp only [Nat.zero_mul, Nat.add_zero] at c0
      have HXO : Hid (WantOk x) := HPK.out.2 x (HSU.out x (by rw [hx]; simp))
      have HNA := hid' (fun w => names_any x.name w HXO.out.name)
      have HND : Hid (s1.needs = [wantN x]) := HND2.out x hx
      have HDR : Hid (dropR s1 (nameK x.name) = (⟨s1.stock, [], []⟩, 0)) := drop_last_need HND.out
      have HDC := hid' (fun w h => kdrop_any b s1 (bs (nameK x.name)) w h)
      rw [tx_bs, HDR.out] at HDC
      have HTE := hid' (fun w h => ktree_any b ⟨s1.stock, [], []⟩ w h)
      have HNE := hid' (fun w h => kneeds_any b ⟨s1.stock, [], []⟩ w h)
      have et : textR s1.stock [] = [] := rfl
      have en : neededR ⟨s1.stock, [], []⟩ = [] := rfl
      have eb : bs [] = ByteArray.empty := rfl
      rw [et, eb] at HTE
      rw [en, eb] at HNE
      simp only at HDC HTE
      clear hx hsx hc et en eb hs1 HND HDR
      generalize bs (nameK x.name) = nb at *
      generalize x.name = xn at *
      go_wp2_with fail
      refine (HNA.out _).mono ?_
      rintro e u1 ⟨rfl, hu1⟩
      have HU1 := hid' (HK9.out.below hu1)
      have HV1 := hid' (HM9.out.trans (SMv.of_below (b := b) hu1))
      clear hu1 c0
      go_wp2_with fail
      refine (HDC.out _ HU1.out).mono ?_
      rintro e u2 ⟨rfl, hm2, hk2⟩
      have HU2 := hid' hk2
      have HV2 := hid' (HV1.out.trans hm2)
      clear hm2 hk2
      go_wp2_with fail
      refine (HTE.out _ HU2.out).mono ?_
      rintro e u3 ⟨rfl, hu3⟩
      have HU3 := hid' (HU2.out.below hu3)
      have HV3 := hid' (HV2.out.trans (SMv.of_below (b := b) hu3))
      clear hu3
      go_wp2_with fail
      refine (HNE.out _ HU3.out).mono ?_
      rintro e u4 ⟨rfl, hu4⟩
      have HV4 := hid' (HB5.out.trans ((HV3.out.trans (SMv.of_below (b := b) hu4)).below_of HZ5.out.1 HZ5.out.2))
      clear hu4
      go_wp2
      go_ret
      exact ⟨by simp, HV4.out⟩
    · have hi1 : ¬ (site.length : Int) = 1 := by omega
      have HV4 := hid' (HB5.out.trans (HM9.out.below_of HZ5.out.1 HZ5.out.2))
      go_wp2
      go_ret
      exact ⟨rfl, HV4.out⟩

end Hst
end Go.Proofs.YtecocheolbkneaaGreatDoor
namespace Go.Proofs.YtecocheolbkneaaGreatDoor
open Go.ChangeShapes Go.WideShapes Go.ChangeAt Go.RowKit Go.Deep
namespace Hst
set_option maxRecDepth 100000

theorem kcells_want : Tryz.prog.cellsOf 40 = 4 := by kernel_rfl
theorem kcells_item : Tryz.prog.cellsOf 62 = 4 := by kernel_rfl
theorem kcells_int : Tryz.prog.cellsOf 3 = 1 := by kernel_rfl
theorem kcells_wants : Tryz.prog.cellsOf 26 = 1 := by kernel_rfl
theorem klaidOut : laidOutB Tryz.prog = true := by kernel_rfl

section
variable {H : Type} {enc : TypeId × Value → H}
/-- One want, off its four cells. -/
theorem open_want {W : World} {sp : Nat → Bool} {n : Nat} {cs : List Value} {y : DataW H × List MemPlace} (h : DataW.trod enc Tryz.prog W 0 sp true n 40 cs = some y) : ∃ o : WantX, cs = wantC o ∧ WantOk o := by
  obtain ⟨xs, k, hk, hxy, hcl, hxl, hf⟩ := DataW.trod_struct Tryz.underlying40 h
  rw [kcells_want] at hcl
  match xs, hxl, cs, hcl with
  | [y0, y1, y2, y3], _, [v0, v1, v2, v3], _ =>
    have g0 := hf 0 _ rfl
    have g1 := hf 1 _ rfl
    have g2 := hf 2 _ rfl
    have g3 := hf 3 _ rfl
    simp [kcells_int] at g0 g1 g2 g3
    obtain ⟨a, ha, _, wa⟩ := DataW.trod_int Tryz.underlying3 g0
    obtain ⟨b, hb, _, wb⟩ := DataW.trod_int Tryz.underlying3 g1
    obtain ⟨c, hc, _, wc⟩ := DataW.trod_int Tryz.underlying3 g2
    obtain ⟨d, hd, _, wd⟩ := DataW.trod_int Tryz.underlying3 g3
    simp only [List.cons.injEq, and_true] at ha hb hc hd
    subst ha hb hc hd
    exact ⟨⟨a, b, c, d⟩, rfl, bounds_i64 wa, bounds_i64 wb, bounds_i64 wc, bounds_i64 wd⟩
/-- Rows of elements of four cells. -/
theorem row_of4 {α : Type} {W : World} {a : Addr} {len cap : Nat} (f : α → List Value) (hf : ∀ x, (f x).length = 4) (q : Nat → α) (hl : len ≤ cap) (hq : ∀ i, i < len → ∀ j, j < 4 → W.cell? (a.add (i * 4 + j)) = (f (q i))[j]?) : RowR W (some a) len cap 4 (((List.range len).map q).flatMap f) := by
  have hlen : ((List.range len).map q).length = len := by simp
  refine ⟨by rw [flat_len f 4 hf, hlen], hl, fun h0 => ?_⟩
  have hc0 := hq 0 h0 0 (by omega)
  simp only [Nat.zero_mul, Nat.add_zero] at hc0
  have hc0' : W.cell? (a.add 0) = some ((f (q 0))[0]'(by rw [hf]; omega)) := by rw [hc0, List.getElem?_eq_getElem]
  have hsp := World.cell?_spot hc0'
  have hbl := World.block_lt_of_cell? W _ hc0'
  obtain ⟨g, o, spot⟩ := a
  have hspot : spot = none := by simpa [Addr.add] using hsp
  subst hspot
  refine ⟨g, o, rfl, by simpa [Addr.add] using hbl, fun i hi => ?_⟩
  have hd : i / 4 < len := by omega
  have e1 : i = i / 4 * 4 + i % 4 := by omega
  have hc := hq (i / 4) hd (i % 4) (by omega)
  have hfl := flat_at f 4 hf ((List.range len).map q) (i / 4) (i % 4) (by rw [hlen]; exact hd) (by omega)
  rw [← e1] at hc hfl
  rw [hfl]
  have e2 : ((List.range len).map q)[i / 4]'(by rw [hlen]; exact hd) = q (i / 4) := by simp
  rw [e2, ← hc, add_plain]
/-- The wants. -/
theorem open_wants {W : World} {fuel : Nat} {cs : List Value} {x : DataW H × List MemPlace} (h : DataW.trod enc Tryz.prog W 0 (fun _ => true) true fuel 26 cs = some x) :
    ∃ (a : Option Addr) (cap : Nat) (l : List WantX), cs = [.slice a l.length cap] ∧ RowR W a l.length cap 4 (l.flatMap wantC) ∧ (∀ o ∈ l, WantOk o) ∧ l.length ≤ 9223372036854775807 := by
  rcases open_slice Tryz.underlying26 h with ⟨rfl, rfl⟩ | ⟨a, len, cap, m, n, D, Pl, rfl, _, hl, hm, hmm, rfl, hx⟩
  · exact ⟨none, 0, [], rfl, ⟨by simp, by simp, fun h => absurd h (by simp)⟩, by simp, by simp⟩
  · simp only [if_true] at hmm
    have each : ∀ i, i < len → ∃ o : WantX, WantOk o ∧ ∀ j, j < 4 → W.cell? (a.add (i * 4 + j)) = (wantC o)[j]? := fun i hi => by
      obtain ⟨cs', h1, h2⟩ := hx i (by omega)
      rw [kcells_want] at h1
      obtain ⟨_, _, hcell⟩ := World.cells?_some h1
      obtain ⟨o, rfl, hok⟩ := open_want h2
      exact ⟨o, hok, fun j hj => by have := hcell j hj; rw [add_add] at this; exact this⟩
    have hin : Inhabited WantX := ⟨⟨0, 0, 0, 0⟩⟩
    obtain ⟨q, hq⟩ := choose_lt each
    have hlen : ((List.range len).map q).length = len := by simp
    refine ⟨some a, cap, (List.range len).map q, by rw [hlen], ?_, fun o ho => ?_, ?_⟩
    · rw [hlen]
      exact row_of4 wantC wantC_len q hl fun i hi => (hq i hi).2
    · obtain ⟨i, hi, rfl⟩ := List.mem_map.1 ho
      exact (hq i (List.mem_range.1 hi)).1
    · rw [hlen]
      unfold maxLen at hm
      omega
/-- One item, off its four cells. -/
theorem open_item {W : World} {n : Nat} {cs : List Value} {y : DataW H × List MemPlace} (h : DataW.trod enc Tryz.prog W 0 (fun _ => true) true n 62 cs = some y) : ∃ o : ItemX, cs = itemC o ∧ ItemOk o ∧ ItemIn W o ∧ o.wants.length ≤ 9223372036854775807 := by
  obtain ⟨xs, k, hk, hxy, hcl, hxl, hf⟩ := DataW.trod_struct Tryz.underlying62 h
  rw [kcells_item] at hcl
  match xs, hxl, cs, hcl with
  | [y0, y1, y2, y3], _, [v0, v1, v2, v3], _ =>
    have g0 := hf 0 _ rfl
    have g1 := hf 1 _ rfl
    have g2 := hf 2 _ rfl
    have g3 := hf 3 _ rfl
    simp [kcells_int, kcells_wants] at g0 g1 g2 g3
    obtain ⟨a, ha, _, wa⟩ := DataW.trod_int Tryz.underlying3 g0
    obtain ⟨b, hb, _, wb⟩ := DataW.trod_int Tryz.underlying3 g1
    obtain ⟨c, hc, _, wc⟩ := DataW.trod_int Tryz.underlying3 g2
    obtain ⟨va, vc, l, hd, hrow, hok, hle⟩ := open_wants g3
    simp only [List.cons.injEq, and_true] at ha hb hc hd
    subst ha hb hc hd
    exact ⟨⟨a, b, c, .slice va l.length vc, l⟩, rfl, ⟨bounds_i64 wa, bounds_i64 wb, bounds_i64 wc, hok⟩, ⟨va, vc, rfl, hrow⟩, hle⟩
/-- The items. -/
theorem open_items {W : World} {fuel : Nat} {cs : List Value} {x : DataW H × List MemPlace} (h : DataW.trod enc Tryz.prog W 0 (fun _ => true) true fuel 25 cs = some x) :
    ∃ (a : Option Addr) (cap : Nat) (l : List ItemX), cs = [.slice a l.length cap] ∧ ItemsR W a cap l ∧ (∀ o ∈ l, ItemOk o) ∧ l.length ≤ 9223372036854775807 ∧ ∀ o ∈ l, o.wants.length ≤ 9223372036854775807 := by
  rcases open_slice Tryz.underlying25 h with ⟨rfl, rfl⟩ | ⟨a, len, cap, m, n, D, Pl, rfl, _, hl, hm, hmm, rfl, hx⟩
  · exact ⟨none, 0, [], rfl, ⟨⟨by simp, by simp, fun h => absurd h (by simp)⟩, by simp⟩, by simp, by simp, by simp⟩
  · simp only [if_true] at hmm
    have each : ∀ i, i < len → ∃ o : ItemX, (ItemOk o ∧ ItemIn W o ∧ o.wants.length ≤ 9223372036854775807) ∧ ∀ j, j < 4 → W.cell? (a.add (i * 4 + j)) = (itemC o)[j]? := fun i hi => by
      obtain ⟨cs', h1, h2⟩ := hx i (by omega)
      rw [kcells_item] at h1
      obtain ⟨_, _, hcell⟩ := World.cells?_some h1
      obtain ⟨o, rfl, hok⟩ := open_item h2
      exact ⟨o, hok, fun j hj => by have := hcell j hj; rw [add_add] at this; exact this⟩
    have hin : Inhabited ItemX := ⟨⟨0, 0, 0, .slice none 0 0, []⟩⟩
    obtain ⟨q, hq⟩ := choose_lt each
    have hlen : ((List.range len).map q).length = len := by simp
    have hmem : ∀ o ∈ (List.range len).map q, ItemOk o ∧ ItemIn W o ∧ o.wants.length ≤ 9223372036854775807 := fun o ho => by
      obtain ⟨i, hi, rfl⟩ := List.mem_map.1 ho
      exact (hq i (List.mem_range.1 hi)).1
    refine ⟨some a, cap, (List.range len).map q, by rw [hlen], ⟨?_, fun o ho => (hmem o ho).2.1⟩, fun o ho => (hmem o ho).1, ?_, fun o ho => (hmem o ho).2.2⟩
    · rw [hlen]
      exact row_of4 itemC itemC_len q hl fun i hi => (hq i hi).2
    · rw [hlen]
      unfold maxLen at hm
      omega
end

end Hst
end Go.Proofs.YtecocheolbkneaaGreatDoor
namespace Go.Proofs.YtecocheolbkneaaGreatDoor
namespace AgainRow
open Go.ChangeShapes Go.WideShapes Go.ChangeAt Go.RowKit
set_option linter.unusedVariables false

theorem own : ownKnob Tryz.prog.godebug = none := by kernel_rfl
theorem door_met (os : Os) (args : Array Value) : laidMetH Tryz.prog Rows.againRow.laid ((World.doorLaid Tryz.prog 4000 os).forCall (fun _ _ => 0) ⟨#[], args, []⟩).memory :=
  laidMetH_of_parts3 (fuel := 8) (laidMet_of_run' 8 (by kernel_rfl) (by kernel_rfl)) (by kernel_rfl) (by kernel_rfl)

set_option maxRecDepth 100000 in
theorem lifted (os : Os) (started : os.Started) (H : Type) (enc : TypeId × Value → H) :
    ReturnsInHanded {} Tryz.checked os 5 .any (fun w args => (Rows.againSpec.pre enc Tryz.prog Tryz.f5 [] false w args ∧ laidMetH Tryz.prog Rows.againRow.laid w) ∧ sizedMet enc Tryz.prog Tryz.f5 (OpenSpec.ofChange Rows.againSpec) false w args)
      (Rows.againSpec.post enc Tryz.prog Tryz.f5 false true false false) := by
  refine returnsInHanded_of_change_and (C := Tryz.checked) (X := fun w _ => laidMetH Tryz.prog Rows.againRow.laid w) (fun _ _ _ hh h => h.of_heap hh) own started (by kernel_rfl) Tryz.func5
    (ChangeSpec.witness_shaped (enc := enc) (C := Tryz.checked) (os := os) (X := fun w _ => laidMetH Tryz.prog Rows.againRow.laid w) false (World.doorLaid Tryz.prog 4000 os) #[.slice none 0 0, .slice none 0 0] 8 rfl (World.shaped_of_RefB (by kernel_rfl) (by kernel_rfl)) (by kernel_rfl) (by kernel_rfl) (by kernel_rfl) (door_met os _)) ?_
  intro W base args ds gs before hval0 hW _ hsz0 hL _
  have hval : ∀ (j : Nat) t v, Tryz.f5.params[j]? = some t → args[j]? = some v → Value.okWide Tryz.prog W .any base t v := hval0
  have hW' := hW
  obtain ⟨p, q, hA0, hV, rfl, hfz, hnd⟩ := hW
  have hA : DataW.TrodAll enc Tryz.prog W 0 (fun _ => true) true Tryz.f5.params.toList args.toList ds p := hA0
  rw [Tryz.params5] at hA hval
  obtain ⟨v0, v1, d0, d1, p0, p1, rfl, rfl, rfl, h0, h1⟩ := trodAll_two hA
  obtain ⟨rfl, rfl⟩ := trodVars_none hV
  have h0k := h0
  have h1k := h1
  obtain ⟨fuel, hf⟩ := h0
  obtain ⟨fuel1, hf1⟩ := h1
  clear hA0 hval0 hsz0
  simp only [List.append_nil] at hW'
  have hlt0 : ∀ x ∈ p0, x.block < W.heap.size := fun x hx => by simpa using hW'.lt x (by simp [hx])
  have hlt1 : ∀ x ∈ p1, x.block < W.heap.size := fun x hx => by simpa using hW'.lt x (by simp [hx])
  obtain ⟨a0, len, cap, rfl⟩ := okWide_slice Tryz.underlying25 (hval 0 25 v0 rfl rfl)
  obtain ⟨a1, len1, cap1, rfl⟩ := okWide_slice Tryz.underlying26 (hval 1 26 v1 rfl rfl)
  obtain ⟨a, cap', items, hcs, hrow, hok, hn, hwn⟩ := Hst.open_items hf
  obtain ⟨a', cap1', l, hcs1, hrow1, hok1, hn1⟩ := Hst.open_wants hf1
  have hcs' : Value.slice a0 len cap = .slice a items.length cap' := by simpa [Value.cells] using hcs
  have hcs1' : Value.slice a1 len1 cap1 = .slice a' l.length cap1' := by simpa [Value.cells] using hcs1
  rw [hcs'] at h0k ⊢
  rw [hcs1'] at h1k ⊢
  refine (Hst.again_any a cap' items a' cap1' l W hrow hn hwn hok hrow1 hn1 hok1).mono fun e W' ⟨he, bel⟩ => ?_
  subst he
  rw [hcs', hcs1'] at hW'
  exact ⟨_, rfl, _, _, _, [], _, [], hW', trodAll_mk1 (shut_bool Tryz.underlying4 _), trodAll_mk2 (Below.trod Hst.klaidOut (by kernel_rfl) (of_decide_eq_true (by kernel_rfl)) h0k bel hlt0) (Below.trod Hst.klaidOut (by kernel_rfl) (of_decide_eq_true (by kernel_rfl)) h1k bel hlt1), rfl, bel.frame _, fun h => by cases h⟩

theorem over : Rows.AgainSaid :=
  OpenClaim.holds_of_wide 5 Tryz.f5 rfl rfl rfl rfl rfl rfl rfl ⟨rfl, rfl, rfl, rfl, rfl⟩ rfl rfl rfl rfl rfl (by kernel_rfl) Tryz.func5 (by kernel_rfl)
    (of_decide_eq_true (by kernel_rfl)) (by unfold Func.isWrapper; first | (rw [if_pos (by decide +kernel)]; kernel_rfl) | (rw [if_neg (by decide +kernel)]; exact ⟨rfl, rfl⟩))
    (fun os started H enc _ => lifted os started H enc)
end AgainRow

theorem again_card : Rows.AgainCardSaid :=
  Claim7.holds_tied_plain_at .later [] [.data, .data, .data] true (true, "01bd52512ddeda93910ca64f7734339120873d78affce1afc02667bb3a607191") false
    AgainRow.over (fun _ h => by cases h) (by kernel_rfl) (fun _ h => by cases h) again_row_tie rfl ⟨rfl, rfl⟩ (by kernel_rfl) rfl
    (fun f fn hf hfn => by
      obtain rfl : f = 5 := Option.some.inj ((show Tryz.prog.funcNamed "hoist/hoistkeep.Again" = some 5 by kernel_rfl).symm.trans hf) |>.symm
      obtain rfl : fn = Tryz.f5 := (Option.some.inj (Tryz.func5.symm.trans hfn)).symm
      exact ⟨by kernel_rfl, fun j t ht => by
        rw [Tryz.params5] at ht
        have hm : t ∈ [25, 26] := by simpa using Array.mem_of_getElem? ht
        have hall : ([25, 26].all fun u => !Tryz.prog.wantsStandIn u) = true := by kernel_rfl
        exact (show Tryz.prog.wantsStandIn t = false by simpa using List.all_eq_true.1 hall t hm)⟩)
    (by kernel_rfl)
#print axioms again_card
end Go.Proofs.YtecocheolbkneaaGreatDoor
