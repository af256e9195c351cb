/- Sitea, Siteb, Sitec -/
import Derived.Test.YtecocheolbkneaaGreatDoorW19
namespace Go.Proofs.YtecocheolbkneaaGreatDoor
open Go.RowKit
namespace Hst
set_option maxRecDepth 100000

/-- A slice of needs. -/
def NeedsR (w : World) (a : Option Addr) (n cap : Nat) (l : List NeedD) : Prop := n = l.length ∧ RowR w a n cap 2 (l.flatMap needC)
theorem needC_len (p : NeedD) : (needC p).length = 2 := rfl
theorem NeedsR.below {w w' : World} {a : Option Addr} {n cap : Nat} {l : List NeedD} (h : NeedsR w a n cap l) (hb : Below w.heap.size w w') : NeedsR w' a n cap l := ⟨h.1, h.2.below hb⟩
theorem NeedsR.cells {w : World} {a : Option Addr} {n cap : Nat} {l : List NeedD} (h : NeedsR w a n cap l) {k : Nat} (hk : k < l.length) :
    ∃ g o, a = some ⟨g, o, none⟩ ∧ g < w.heap.size ∧ ∀ (j : Nat) (hj : j < l.length), w.cell? ⟨g, o + j * 2, none⟩ = some (.string (bs l[j].name)) ∧ w.cell? ⟨g, o + j * 2 + 1, none⟩ = some (.string (bs l[j].rng)) := by
  obtain ⟨rfl, hr⟩ := h
  obtain ⟨g, o, ha, hg, hc⟩ := hr.at' (by omega)
  refine ⟨g, o, ha, hg, fun j hj => ⟨?_, ?_⟩⟩
  · have := hc (j * 2 + 0) (by omega)
    rw [flat_at needC 2 needC_len l j 0 hj (by omega)] at this
    exact this
  · have := hc (j * 2 + 1) (by omega)
    rw [flat_at needC 2 needC_len l j 1 hj (by omega)] at this
    exact this
/-- The cells of an entry, its needs' slice beside it. -/
def entC (z : EntryD × Value) : List Value := [.string (bs z.1.name), .int .i64 z.1.v.a, .int .i64 z.1.v.b, .int .i64 z.1.v.c, z.2]
theorem entC_len (z : EntryD × Value) : (entC z).length = 5 := rfl
/-- A slice of entries. -/
def StockR (w : World) (a : Option Addr) (n cap : Nat) (st : List EntryD) : Prop :=
  ∃ zs : List (EntryD × Value), zs.map Prod.fst = st ∧ n = zs.length ∧ RowR w a n cap 5 (zs.flatMap entC) ∧ ∀ z ∈ zs, ∃ a n cap, z.2 = .slice a n cap ∧ NeedsR w a n cap z.1.needs
theorem StockR.below {w w' : World} {a : Option Addr} {n cap : Nat} {st : List EntryD} (h : StockR w a n cap st) (hb : Below w.heap.size w w') : StockR w' a n cap st := by
  obtain ⟨zs, h1, h2, h3, h4⟩ := h
  exact ⟨zs, h1, h2, h3.below hb, fun z hz => by obtain ⟨a, n, c, e, hn⟩ := h4 z hz; exact ⟨a, n, c, e, hn.below hb⟩⟩
theorem StockR.len {w : World} {a : Option Addr} {n cap : Nat} {st : List EntryD} (h : StockR w a n cap st) : n = st.length := by
  obtain ⟨zs, h1, h2, _⟩ := h
  rw [← h1, List.length_map]; exact h2
theorem StockR.cells {w : World} {a : Option Addr} {n cap : Nat} {st : List EntryD} (h : StockR w a n cap st) {k : Nat} (hk : k < st.length) :
    ∃ g o, a = some ⟨g, o, none⟩ ∧ g < w.heap.size ∧ ∀ (j : Nat) (hj : j < st.length), w.cell? ⟨g, o + j * 5, none⟩ = some (.string (bs st[j].name)) ∧ w.cell? ⟨g, o + j * 5 + 1, none⟩ = some (.int .i64 st[j].v.a) ∧
      w.cell? ⟨g, o + j * 5 + 2, none⟩ = some (.int .i64 st[j].v.b) ∧ w.cell? ⟨g, o + j * 5 + 3, none⟩ = some (.int .i64 st[j].v.c) ∧ ∃ na nn nc, w.cell? ⟨g, o + j * 5 + 4, none⟩ = some (.slice na nn nc) ∧ NeedsR w na nn nc st[j].needs := by
  obtain ⟨zs, rfl, rfl, hr, hz⟩ := h
  rw [List.length_map] at hk
  obtain ⟨g, o, ha, hg, hc⟩ := hr.at' (by omega)
  refine ⟨g, o, ha, hg, fun j hj => ?_⟩
  rw [List.length_map] at hj
  have e : (zs.map Prod.fst)[j]'(by simpa using hj) = zs[j].1 := by simp
  rw [e]
  have get : ∀ i, i < 5 → w.cell? ⟨g, o + (j * 5 + i), none⟩ = (entC zs[j])[i]? := fun i hi => by
    rw [hc (j * 5 + i) (by omega), flat_at entC 5 entC_len zs j i hj hi]
  obtain ⟨na, nn, nc, e2, hn⟩ := hz zs[j] (List.getElem_mem hj)
  refine ⟨get 0 (by omega), get 1 (by omega), get 2 (by omega), get 3 (by omega), na, nn, nc, ?_, hn⟩
  have := get 4 (by omega)
  rw [← e2]
  exact this

/-- A site of the document's answer, at block b. -/
structure SiteAt (w : World) (b : Nat) (s : SiteD) : Prop where
  lt : b < w.heap.size
  stock : ∃ a n cap, w.cell? ⟨b, 0, none⟩ = some (.slice a n cap) ∧ StockR w a n cap s.stock
  needs : ∃ a n cap, w.cell? ⟨b, 1, none⟩ = some (.slice a n cap) ∧ NeedsR w a n cap s.needs
  packs : ∃ a n cap, w.cell? ⟨b, 2, none⟩ = some (.slice a n cap) ∧ PacksR w a n cap s.packs
  f1 : w.frozen? ⟨b, 1, none⟩ = false
  f2 : w.frozen? ⟨b, 2, none⟩ = false
theorem SiteAt.below {w w' : World} {b : Nat} {s : SiteD} (h : SiteAt w b s) (hb : Below w.heap.size w w') : SiteAt w' b s := by
  obtain ⟨hc, hf⟩ := bcell hb
  obtain ⟨a0, n0, c0, e0, r0⟩ := h.stock
  obtain ⟨a1, n1, c1, e1, r1⟩ := h.needs
  obtain ⟨a2, n2, c2, e2, r2⟩ := h.packs
  exact ⟨Nat.lt_of_lt_of_le h.lt hb.size, ⟨a0, n0, c0, by rw [hc _ _ h.lt]; exact e0, r0.below hb⟩, ⟨a1, n1, c1, by rw [hc _ _ h.lt]; exact e1, r1.below hb⟩, ⟨a2, n2, c2, by rw [hc _ _ h.lt]; exact e2, r2.below hb⟩,
    by rw [hf _ _ h.lt]; exact h.f1, by rw [hf _ _ h.lt]; exact h.f2⟩

abbrev whoV (x : WhoD) : Value := .agg #[.string (bs x.path), .string (bs x.n.name), .string (bs x.n.rng)]
theorem met_none {st : List EntryD} {l : List PackD} {x : WhoD} (h : findR l x.path x.n.name = none) : metR st l x = false := by simp [metR, h]
theorem met_some {st : List EntryD} {l : List PackD} {x : WhoD} {k : Nat} (h : findR l x.path x.n.name = some k) : metR st l x = fitR x.n.rng (verOf st (packAt l k).of) := by simp [metR, h]
theorem atGo_lt (path : Tx) : ∀ (l : List PackD) (i k : Nat), atGo path i l = some k → i ≤ k ∧ k < i + l.length
  | [], i, k, h => by simp [atGo] at h
  | p :: r, i, k, h => by
    simp only [atGo] at h
    split at h
    · simp at h; subst h; simp
    · have := atGo_lt path r (i + 1) k h
      simp; omega
theorem atR_lt {l : List PackD} {path : Tx} {k : Nat} (h : atR l path = some k) : k < l.length := by have := atGo_lt path l 0 k h; omega
theorem findGo_lt (l : List PackD) (name : Tx) : ∀ (f : List Tx) (k : Nat), findGo l name f = some k → k < l.length
  | [], k, h => by simp [findGo] at h
  | x :: r, k, h => by
    simp only [findGo] at h
    rcases ha : atR l (joinR x name) with _ | j
    · rw [ha] at h; exact findGo_lt l name r k h
    · rw [ha] at h; simp at h; subst h; exact atR_lt ha
theorem findR_lt {l : List PackD} {path name : Tx} {k : Nat} (h : findR l path name = some k) : k < l.length := findGo_lt l name _ k h

attribute [local go_sem ↓] Go.wp_at_zero Go.wp_at_succ

set_option maxHeartbeats 4000000 in
theorem met_any (b : Nat) (s : SiteD) (a : Option Addr) (n cap : Nat) (l : List PackD) (x : WhoD) (w : World) (hs : SiteAt w b s) (hl : PacksR w a n cap l) (hn : n ≤ 100000) (hp : x.path.length ≤ 50000) (hq : x.n.name.length ≤ 50000) (hr : x.n.rng.length ≤ 60)
    (hof : ∀ p ∈ l, p.of < s.stock.length) :
    Calls Tryz.prog 138 #[.pointer (some ⟨b, 0, none⟩), .slice a n cap, whoV x] w fun e w' => e = .returned (.bool (metR s.stock l x)) ∧ Below w.heap.size w w' := by
  obtain ⟨path, name, rng⟩ := x
  simp only at hp hq hr
  have hbw := (Below.refl w.heap.size w).alloc (Nat.le_refl _) (.cells #[.string (bs path), .string (bs name), .string (bs rng)] 200)
  have HFD := hid' (fun (w : World) hl => find_any a n cap l (bs path) (bs name) w hl hn (by rw [bs_size]; exact hp) (by rw [bs_size]; exact hq))
  rw [tx_bs, tx_bs] at HFD
  have HL1 := hid' (hl.below hbw)
  have HS1 := hid' (hs.below hbw)
  have HB1 := hid' hbw
  have HNL := hid' hl.1
  clear hbw hs hl
  rcases hf : findR l path name with _ | k
  · rw [met_none (by exact hf)]
    rw [hf] at HFD
    clear hf
    go_enter Tryz.func138, Tryz.ntmps138
    go_wp2_with fail
    refine (HFD.out _ HL1.out).mono ?_
    rintro e w1 ⟨rfl, hb1⟩
    simp only [idx]
    have HB2 := hid' (HB1.out.trans (hb1.mono (by simp)))
    clear hb1
    go_wp2
    go_ret
    exact ⟨rfl, HB2.out⟩
  · rw [met_some (by exact hf)]
    rw [hf] at HFD
    have hkl := findR_lt hf
    have hofk := hof l[k] (List.getElem_mem hkl)
    have epk : packAt l k = l[k] := by unfold packAt; rw [List.getD_eq_getElem?_getD, List.getElem?_eq_getElem hkl]; rfl
    have ev : verOf s.stock (packAt l k).of = s.stock[l[k].of].v := by
      rw [epk]; unfold verOf; rw [List.getD_eq_getElem?_getD, List.getElem?_eq_getElem hofk]; rfl
    rw [ev]
    have HFT := hid' (fun w => fit_any (bs rng) s.stock[l[k].of].v.a s.stock[l[k].of].v.b s.stock[l[k].of].v.c w (by rw [bs_size]; exact hr))
    rw [tx_bs] at HFT
    clear hf ev epk
    go_enter Tryz.func138, Tryz.ntmps138
    go_wp2_with fail
    refine (HFD.out _ HL1.out).mono ?_
    rintro e w1 ⟨rfl, hb1⟩
    simp only [idx]
    obtain ⟨g, o, rfl, hg, hc⟩ := (HL1.out.below hb1).cells hkl
    obtain ⟨sa, sn, sc, es, hsr⟩ := (HS1.out.below hb1).stock
    have HSL := hid' hsr.len
    obtain ⟨gs, os, rfl, hgs, hcs⟩ := hsr.cells hofk
    have p1 := (hc k hkl).2
    obtain ⟨_, q1, q2, q3, _⟩ := hcs l[k].of hofk
    have hlt := (HS1.out.below hb1).lt
    have d0 := (bcell hb1).1 w.heap.size 0 (by simp)
    have d1 := (bcell hb1).1 w.heap.size 1 (by simp)
    have d2 := (bcell hb1).1 w.heap.size 2 (by simp)
    simp at d0 d1 d2
    have hz1 := hb1.size
    simp at hz1
    have HB2 := hid' (HB1.out.trans (hb1.mono (by simp)))
    clear hb1 hc hcs hsr
    generalize hvv : s.stock[l[k].of].v = vv at *
    obtain ⟨va, vb, vc⟩ := vv
    simp only at q1 q2 q3 HFT
    have HV := hid' hvv
    clear hvv
    generalize l[k].of = m at p1 q1 q2 q3 hofk
    have i0 : (0 : Int) ≤ (k : Int) := by omega
    have i1 : (k : Int) < (n : Int) := by have := HNL.out; omega
    have i2 : (0 : Int) ≤ (m : Int) := by omega
    have i3 : (m : Int) < (sn : Int) := by have := HSL.out; omega
    have hwl : w.heap.size < w1.heap.size := by omega
    go_wp2
    go_region_held3 (fun w' => w'.cell? ⟨w.heap.size, 2, none⟩ = some (.string (bs rng)) ∧ w'.cell? ⟨b, 0, none⟩ = some (.slice (some ⟨gs, os, none⟩) sn sc) ∧ w'.cell? ⟨g, o + k * 2 + 1, none⟩ = some (.int .i64 m) ∧ w'.cell? ⟨gs, os + m * 5 + 1, none⟩ = some (.int .i64 va) ∧ w'.cell? ⟨gs, os + m * 5 + 2, none⟩ = some (.int .i64 vb) ∧ w'.cell? ⟨gs, os + m * 5 + 3, none⟩ = some (.int .i64 vc)) (go_keep)
      (first | (go_at_call 123; refine (HFT.out _).mono ?_; rintro e w2 ⟨rfl, hb2⟩; have hz2 := (bcell hb2).1; simp at hz2))
    have HB3 := hid' (HB2.out.drew.trans (hb2.mono (by simp; omega)))
    clear hb2
    go_wp2
    go_ret
    exact ⟨ret_bool (by rw [HV.out]), HB3.out⟩

end Hst
end Go.Proofs.YtecocheolbkneaaGreatDoor
namespace Go.Proofs.YtecocheolbkneaaGreatDoor
open Go.RowKit
namespace Hst
set_option maxRecDepth 100000

/-- A slice of those who need. -/
def WhosR (w : World) (a : Option Addr) (n cap : Nat) (l : List WhoD) : Prop := n = l.length ∧ RowR w a n cap 3 (l.flatMap whoC)
theorem whoC_len (p : WhoD) : (whoC p).length = 3 := rfl
theorem WhosR.below {w w' : World} {a : Option Addr} {n cap : Nat} {l : List WhoD} (h : WhosR w a n cap l) (hb : Below w.heap.size w w') : WhosR w' a n cap l := ⟨h.1, h.2.below hb⟩
theorem WhosR.cells {w : World} {a : Option Addr} {n cap : Nat} {l : List WhoD} (h : WhosR w a n cap l) {k : Nat} (hk : k < l.length) :
    ∃ g o, a = some ⟨g, o, none⟩ ∧ g < w.heap.size ∧ ∀ (j : Nat) (hj : j < l.length), w.cell? ⟨g, o + j * 3, none⟩ = some (.string (bs l[j].path)) ∧ w.cell? ⟨g, o + j * 3 + 1, none⟩ = some (.string (bs l[j].n.name)) ∧ w.cell? ⟨g, o + j * 3 + 2, none⟩ = some (.string (bs l[j].n.rng)) := by
  obtain ⟨rfl, hr⟩ := h
  obtain ⟨g, o, ha, hg, hc⟩ := hr.at' (by omega)
  have get : ∀ j (hj : j < l.length) i, i < 3 → w.cell? ⟨g, o + (j * 3 + i), none⟩ = (whoC l[j])[i]? := fun j hj i hi => by
    rw [hc (j * 3 + i) (by omega), flat_at whoC 3 whoC_len l j i hj hi]
  exact ⟨g, o, ha, hg, fun j hj => ⟨get j hj 0 (by omega), get j hj 1 (by omega), get j hj 2 (by omega)⟩⟩

/-- What bounds a need, and somebody who needs. -/
def NeedOk (n : NeedD) : Prop := n.name.length ≤ 3 ∧ n.rng.length ≤ 60
def WhoOk (x : WhoD) : Prop := x.path.length ≤ 50000 ∧ NeedOk x.n

theorem am_yes (st : List EntryD) (l : List PackD) (who : List WhoD) (k : Nat) (hk : k < who.length) (h : metR st l who[k] = true) : allMetR st l (who.drop k) = allMetR st l (who.drop (k + 1)) := by
  rw [List.drop_eq_getElem_cons hk]; unfold allMetR; rw [List.all_cons, h, Bool.true_and]
theorem am_no (st : List EntryD) (l : List PackD) (who : List WhoD) (k : Nat) (hk : k < who.length) (h : metR st l who[k] = false) : allMetR st l (who.drop k) = false := by
  rw [List.drop_eq_getElem_cons hk]; unfold allMetR; rw [List.all_cons, h, Bool.false_and]
theorem am_end (st : List EntryD) (l : List PackD) (who : List WhoD) (k : Nat) (hk : ¬ k < who.length) : allMetR st l (who.drop k) = true := by
  rw [List.drop_of_length_le (by omega)]; rfl

set_option maxHeartbeats 1000000 in
theorem allMet_any (b : Nat) (s : SiteD) (a : Option Addr) (n cap : Nat) (l : List PackD) (a' : Option Addr) (n' cap' : Nat) (who : List WhoD) (w : World) (hs : SiteAt w b s) (hl : PacksR w a n cap l) (hn : n ≤ 100000) (hw : WhosR w a' n' cap' who) (hn' : n' ≤ 100000)
    (hwo : ∀ x ∈ who, WhoOk x) (hof : ∀ p ∈ l, p.of < s.stock.length) :
    Calls Tryz.prog 98 #[.pointer (some ⟨b, 0, none⟩), .slice a n cap, .slice a' n' cap'] w fun e w' => e = .returned (.bool (allMetR s.stock l who)) ∧ Below w.heap.size w w' := by
  have HS := hid' hs; have HL := hid' hl; have HW := hid' hw; have HO := hid' hwo; have HN := hid' hw.1; have HOF := hid' hof
  clear hs hl hw hwo hof
  go_enter Tryz.func98, Tryz.ntmps98
  go_wp2
  go_loopw [7] (fun i wr => ∃ k : Nat, k ≤ n' ∧ i = .int .i64 k ∧ Below w.heap.size w wr ∧ Hid (allMetR s.stock l who = allMetR s.stock l (who.drop k))) (fun i _ => n' - (intOf i).toNat)
  case atStart => exact ⟨0, Nat.zero_le _, rfl, Below.refl _ _, rfl⟩
  case round =>
    obtain ⟨k, hk, rfl, hbel, hall⟩ := hrel
    have hz := hbel.size
    by_cases hlt : k < n'
    · have hkl : k < who.length := by have := HN.out; omega
      obtain ⟨g, o, rfl, hg, hc⟩ := (HW.out.below hbel).cells hkl
      obtain ⟨c0, c1, c2⟩ := hc k hkl
      have hok := HO.out who[k] (List.getElem_mem hkl)
      have HM := hid' (met_any b s a n cap l who[k] wr (HS.out.below hbel) (HL.out.below hbel) hn hok.1 (by have := hok.2.1; omega) hok.2.2 HOF.out)
      have HY := hid' (am_yes s.stock l who k hkl)
      have HX := hid' (am_no s.stock l who k hkl)
      clear hc hok
      generalize metR s.stock l who[k] = mt at *
      generalize who[k] = x at *
      cases mt
      · have HF : Hid (allMetR s.stock l who = false) := by unfold Hid; rw [hall.out, HX.out rfl]
        clear hall HY HX
        go_wp2_with fail
        refine HM.out.mono ?_
        rintro e w1 ⟨rfl, hb1⟩
        have HB := hid' (hbel.trans (hb1.mono hz))
        clear hb1
        go_wp2
        go_ret
        exact ⟨ret_bool (by rw [HF.out]), HB.out⟩
      · have HF : Hid (allMetR s.stock l who = allMetR s.stock l (who.drop (k + 1))) := by unfold Hid; rw [hall.out, HY.out rfl]
        clear hall HY HX
        go_wp2_with fail
        refine HM.out.mono ?_
        rintro e w1 ⟨rfl, hb1⟩
        have HB := hid' (hbel.trans (hb1.mono hz))
        clear hb1
        go_wp2
        go_roundw
        case rel => exact ⟨k + 1, by omega, by go_num, HB.out, HF⟩
        case measure => simp [intOf] <;> omega
    · have HF : Hid (allMetR s.stock l who = true) := by unfold Hid; rw [hall.out, am_end s.stock l who k (by have := HN.out; omega)]
      go_wp2
      go_ret
      exact ⟨ret_bool (by rw [HF.out]), hbel⟩

theorem fv_yes (l : List PackD) (m k : Nat) (hk : k < l.length) (h : l[k].of = m) : favouredR (l.drop k) m = true := by
  rw [List.drop_eq_getElem_cons hk]; unfold favouredR; rw [List.any_cons]; simp [h]
theorem fv_no (l : List PackD) (m k : Nat) (hk : k < l.length) (h : ¬ l[k].of = m) : favouredR (l.drop k) m = favouredR (l.drop (k + 1)) m := by
  rw [List.drop_eq_getElem_cons hk]; unfold favouredR; rw [List.any_cons]; simp [h]
theorem fv_end (l : List PackD) (m k : Nat) (hk : ¬ k < l.length) : favouredR (l.drop k) m = false := by
  rw [List.drop_of_length_le (by omega)]; rfl

set_option maxHeartbeats 1000000 in
theorem favoured_any (a : Option Addr) (n cap : Nat) (l : List PackD) (m : Nat) (w : World) (hl : PacksR w a n cap l) (hn : n ≤ 100000) :
    Calls Tryz.prog 180 #[.slice a n cap, .int .i64 m] w fun e w' => e = .returned (.bool (favouredR l m)) ∧ w' = w := by
  have HN := hid' hl.1
  have HL := hid' hl
  clear hl
  go_enter Tryz.func180, Tryz.ntmps180
  go_wp2
  go_loop [5] (fun i => ∃ k : Nat, k ≤ n ∧ i = .int .i64 k ∧ Hid (favouredR l m = favouredR (l.drop k) m)) (fun i => n - (intOf i).toNat)
  case atStart => exact ⟨0, Nat.zero_le _, rfl, rfl⟩
  case round =>
    obtain ⟨k, hk, rfl, hall⟩ := hrel
    by_cases hlt : k < n
    · have hkl : k < l.length := by have := HN.out; omega
      obtain ⟨g, o, rfl, hg, hc⟩ := HL.out.cells hkl
      have c0 := (hc k hkl).2
      clear hc
      by_cases he : l[k].of = m
      · have HF : Hid (favouredR l m = true) := by unfold Hid; rw [hall.out, fv_yes l m k hkl he]
        have hb : ((l[k].of : Int) == (m : Int)) = true := by simp [he]
        generalize l[k].of = q at *
        clear he hall
        go_wp2
        go_ret
        exact ⟨ret_bool (by rw [HF.out]), rfl⟩
      · have HF : Hid (favouredR l m = favouredR (l.drop (k + 1)) m) := by unfold Hid; rw [hall.out, fv_no l m k hkl he]
        have hb : ((l[k].of : Int) == (m : Int)) = false := beq_eq_false_iff_ne.2 (by omega)
        generalize l[k].of = q at *
        clear he hall
        go_wp2
        go_round
        case rel => exact ⟨k + 1, by omega, by go_num, HF⟩
        case measure => simp [intOf] <;> omega
    · have HF : Hid (favouredR l m = false) := by unfold Hid; rw [hall.out, fv_end l m k (by have := HN.out; omega)]
      go_wp2
      go_ret
      exact ⟨ret_bool (by rw [HF.out]), rfl⟩

/-- One element more, whatever its kind. -/
theorem step_gen {α : Type} (f : α → List Value) {e k : Nat} {W w w1 wr : World} {v : Value} {acc : List α} {x : α} {g cap : Nat} (hown : wr.ownsRow w.heap.size e k v acc.length (acc.flatMap f)) (hbel : Below w.heap.size w wr) (hb4 : Below wr.heap.size wr W)
    (hown1 : w1.ownsRow w.heap.size e k (.slice (some ⟨g, 0, none⟩) (acc.length + 1) cap) (acc.length + 1) (acc.flatMap f ++ f x)) (hgrow : W.grownBy w1 v.ownBlock) :
    w1.ownsRow w.heap.size e k (.slice (some ⟨g, 0, none⟩) (acc.length + 1) cap) (acc ++ [x]).length ((acc ++ [x]).flatMap f) ∧ Below w.heap.size w w1 := by
  have hz := hbel.size
  refine ⟨?_, ?_⟩
  · have e1 : (acc ++ [x]).flatMap f = acc.flatMap f ++ f x := by simp
    rw [e1]
    simpa using hown1
  · exact (hbel.trans (hb4.mono hz)).grown hgrow (Nat.le_trans hz hb4.size) (fun k hk => (hown.lt k hk).1)
theorem info_need : (Tryz.prog.info? 135).map (fun i => (i.zero, i.size, i.bytes)) = some (some (.agg #[.string ByteArray.empty, .string ByteArray.empty]), 2, 32) := by kernel_rfl
theorem need_one (n : NeedD) : ∀ u ∈ needC n, u.oneCell' = true := by intro u hu; simp [needC] at hu; rcases hu with rfl | rfl <;> rfl
theorem news_one (w : World) (x y : Value) (t : TypeId) : ∀ j u, [x, y][j]? = some u → (w.alloc (.cells #[x, y] t)).cell? ((⟨w.heap.size, 0, none⟩ : Addr).add j) = some u := by
  intro j u hu
  exact World.news_of_block (heap_alloc_new w (.cells #[x, y] t)) j u (by simpa using hu)
theorem rs_no (l : List NeedD) (name : Tx) (k : Nat) (hk : k < l.length) (h : l[k].name = name) : restR (l.drop k) name = restR (l.drop (k + 1)) name := by
  rw [List.drop_eq_getElem_cons hk]; unfold restR; rw [List.filter_cons]; simp [h]
theorem rs_yes (l : List NeedD) (name : Tx) (k : Nat) (hk : k < l.length) (h : ¬ l[k].name = name) : restR (l.drop k) name = l[k] :: restR (l.drop (k + 1)) name := by
  rw [List.drop_eq_getElem_cons hk]; unfold restR; rw [List.filter_cons]; simp [h]
theorem rs_end (l : List NeedD) (name : Tx) (k : Nat) (hk : ¬ k < l.length) : restR (l.drop k) name = [] := by
  rw [List.drop_of_length_le (by omega)]; rfl

set_option maxHeartbeats 1000000 in
theorem rest_any (a : Option Addr) (n cap : Nat) (l : List NeedD) (p : ByteArray) (w : World) (hl : NeedsR w a n cap l) (hn : n ≤ 100000) :
    Calls Tryz.prog 85 #[.slice a n cap, .string p] w fun e w' => ∃ v, e = .returned v ∧ w'.ownsRow w.heap.size 135 2 v (restR l (tx p)).length ((restR l (tx p)).flatMap needC) ∧ Below w.heap.size w w' := by
  obtain ⟨i0, hi, hz0, hz1, hz2⟩ := info_parts info_need
  have HN := hid' hl.1
  have HL := hid' hl
  clear hl
  go_enter Tryz.func85, Tryz.ntmps85
  go_wp2
  go_loopw [5, 6] (fun v i wr => ∃ (k : Nat) (acc : List NeedD), k ≤ n ∧ acc.length ≤ k ∧ i = .int .i64 k ∧ wr.ownsRow w.heap.size 135 2 v acc.length (acc.flatMap needC) ∧ Below w.heap.size w wr ∧ Hid (restR l (tx p) = acc ++ restR (l.drop k) (tx p))) (fun _ i _ => n - (intOf i).toNat)
  case atStart => exact ⟨0, [], Nat.zero_le _, by simp, rfl, World.ownsRow_nil _ _ _ _, Below.refl _ _, rfl⟩
  case round =>
    obtain ⟨k, acc, hk, hacc, rfl, hown, hbel, hall⟩ := hrel
    have hz := hbel.size
    by_cases hlt : k < n
    · have hkl : k < l.length := by have := HN.out; omega
      obtain ⟨g, o, rfl, hg, hc⟩ := (HL.out.below hbel).cells hkl
      obtain ⟨c0, c1⟩ := hc k hkl
      clear hc
      by_cases he : l[k].name = tx p
      · have HF : Hid (restR l (tx p) = acc ++ restR (l.drop (k + 1)) (tx p)) := by unfold Hid; rw [hall.out, rs_no l (tx p) k hkl he]
        have hb : ((bs l[k].name).toList == p.toList) = true := by rw [he, bs_tx]; simp
        generalize bs l[k].name = q1 at *
        generalize bs l[k].rng = q2 at *
        clear he hall
        go_wp2
        go_roundw
        case rel => exact ⟨k + 1, acc, by omega, by omega, by go_num, hown, hbel, HF⟩
        case measure => simp [intOf] <;> omega
      · have HF : Hid (restR l (tx p) = (acc ++ [l[k]]) ++ restR (l.drop (k + 1)) (tx p)) := by unfold Hid; rw [hall.out, rs_yes l (tx p) k hkl he]; simp
        have hb : ((bs l[k].name).toList == p.toList) = false := by rw [tx_toList, tx_toList, tx_bs]; simp [he]
        generalize l[k] = x at *
        clear he hall
        go_wp2_with (first
          | (at_builtin; refine wpList_append_lies _ rfl _ _ 126 rfl w.heap.size 135 i0 (.agg #[.string ByteArray.empty, .string ByteArray.empty]) 2 32 Tryz.underlying126 hi hz0 hz1 hz2 rfl (by omega) _ _ _ rfl (hown.alloc _) ⟨wr.heap.size, 0, none⟩ 1 1 [.string (bs x.name), .string (bs x.rng)] rfl rfl (news_one _ _ _ _) (need_one x) (by omega) (by unfold maxLen; omega) (by omega) (by simp; omega) (wr.heap.size + 1) (by simp) ?_; intro g1 cap1 w1 hown1 hgrow hat hlt1))
        have R := step_gen needC (x := x) hown hbel ((Below.refl _ _).alloc (Nat.le_refl _) _) hown1 hgrow
        clear hown1 hgrow hown
        go_wp2
        go_roundw
        case rel => exact ⟨k + 1, _, by omega, by simp; omega, by go_num, R.1, R.2, HF⟩
        case measure => simp [intOf] <;> omega
    · have HF : Hid (restR l (tx p) = acc) := by unfold Hid; rw [hall.out, rs_end l (tx p) k (by have := HN.out; omega)]; simp
      have HR := hid' (And.intro hown hbel)
      clear hown hbel hall
      go_wp2
      go_ret
      exact ⟨_, rfl, by rw [HF.out]; exact HR.out.1, HR.out.2⟩

end Hst
end Go.Proofs.YtecocheolbkneaaGreatDoor
namespace Go.Proofs.YtecocheolbkneaaGreatDoor
open Go.RowKit
namespace Hst
set_option maxRecDepth 100000

theorem info_who : (Tryz.prog.info? 200).map (fun i => (i.zero, i.size, i.bytes)) = some (some (.agg #[.string ByteArray.empty, .string ByteArray.empty, .string ByteArray.empty]), 3, 48) := by kernel_rfl
theorem who_one (x : WhoD) : ∀ u ∈ whoC x, u.oneCell' = true := by intro u hu; simp [whoC] at hu; rcases hu with rfl | rfl | rfl <;> rfl
theorem news_three (w : World) (x y z : Value) (t : TypeId) : ∀ j u, [x, y, z][j]? = some u → (w.alloc (.cells #[x, y, z] t)).cell? ((⟨w.heap.size, 0, none⟩ : Addr).add j) = some u := by
  intro j u hu
  exact World.news_of_block (heap_alloc_new w (.cells #[x, y, z] t)) j u (by simpa using hu)
/-- What a package adds. -/
def addsR (st : List EntryD) (p : PackD) : List WhoD := (needsOf st p.of).map fun n => ⟨p.path, n⟩
theorem allR_eq (st : List EntryD) (nd : List NeedD) (l : List PackD) : allR st nd l = (nd.map fun n => (⟨[], n⟩ : WhoD)) ++ l.flatMap (addsR st) := rfl

attribute [local go_sem ↓] Go.wp_at_zero Go.wp_at_succ

set_option maxHeartbeats 4000000 in
theorem all_any (b : Nat) (s : SiteD) (a : Option Addr) (n cap : Nat) (nd : List NeedD) (a' : Option Addr) (n' cap' : Nat) (l : List PackD) (w : World) (hs : SiteAt w b s) (hd : NeedsR w a n cap nd) (hn : n ≤ 1000) (hl : PacksR w a' n' cap' l) (hn' : n' ≤ 1000)
    (hof : ∀ p ∈ l, p.of < s.stock.length) (hnd : ∀ e ∈ s.stock, e.needs.length ≤ 1000) :
    Calls Tryz.prog 97 #[.pointer (some ⟨b, 0, none⟩), .slice a n cap, .slice a' n' cap'] w fun e w' => ∃ v, e = .returned v ∧ w'.ownsRow w.heap.size 200 3 v (allR s.stock nd l).length ((allR s.stock nd l).flatMap whoC) ∧ Below w.heap.size w w' := by
  obtain ⟨i0, hi, hz0, hz1, hz2⟩ := info_parts info_who
  have HS := hid' hs; have HL := hid' hl; have HD := hid' hd; have HN := hid' hd.1; have HN' := hid' hl.1; have HOF := hid' hof; have HND := hid' hnd
  clear hs hl hd hof hnd
  go_enter Tryz.func97, Tryz.ntmps97
  go_wp2
  go_loopw [7, 8] (fun v i wr => ∃ (k : Nat) (acc : List WhoD), k ≤ n ∧ acc.length ≤ k ∧ i = .int .i64 k ∧ wr.ownsRow w.heap.size 200 3 v acc.length (acc.flatMap whoC) ∧ Below w.heap.size w wr ∧ Hid (allR s.stock nd l = acc ++ (((nd.drop k).map fun n => (⟨[], n⟩ : WhoD)) ++ l.flatMap (addsR s.stock)))) (fun _ i _ => n - (intOf i).toNat)
  case atStart => exact ⟨0, [], Nat.zero_le _, by simp, rfl, World.ownsRow_nil _ _ _ _, Below.refl _ _, rfl⟩
  case round =>
    obtain ⟨k, acc, hk, hacc, rfl, hown, hbel, hall⟩ := hrel
    have hz := hbel.size
    by_cases hlt : k < n
    · have hkl : k < nd.length := by have := HN.out; omega
      obtain ⟨g, o, rfl, hg, hc⟩ := (HD.out.below hbel).cells hkl
      obtain ⟨c0, c1⟩ := hc k hkl
      clear hc
      have HF : Hid (allR s.stock nd l = (acc ++ [⟨[], nd[k]⟩]) ++ (((nd.drop (k + 1)).map fun n => (⟨[], n⟩ : WhoD)) ++ l.flatMap (addsR s.stock))) := by
        unfold Hid; rw [hall.out, List.drop_eq_getElem_cons hkl, List.map_cons]; simp only [List.append_assoc, List.cons_append, List.nil_append]
      generalize nd[k] = x at *
      clear hall
      go_wp2_with (first
        | (at_builtin; refine wpList_append_lies _ rfl _ _ 150 rfl w.heap.size 200 i0 (.agg #[.string ByteArray.empty, .string ByteArray.empty, .string ByteArray.empty]) 3 48 Tryz.underlying150 hi hz0 hz1 hz2 rfl (by omega) _ _ _ rfl (hown.alloc _) ⟨wr.heap.size, 0, none⟩ 1 1 [.string ⟨#[]⟩, .string (bs x.name), .string (bs x.rng)] rfl rfl (news_three _ _ _ _ _) (who_one ⟨[], x⟩) (by omega) (by unfold maxLen; omega) (by omega) (by simp; omega) (wr.heap.size + 1) (by simp) ?_; intro g1 cap1 w1 hown1 hgrow hat hlt1))
      have R := step_gen whoC (x := ⟨[], x⟩) hown hbel ((Below.refl _ _).alloc (Nat.le_refl _) _) hown1 hgrow
      clear hown1 hgrow hown
      go_wp2
      go_roundw
      case rel => exact ⟨k + 1, _, by omega, by simp; omega, by go_num, R.1, R.2, HF⟩
      case measure => simp [intOf] <;> omega
    · have HF : Hid (allR s.stock nd l = acc ++ l.flatMap (addsR s.stock)) := by
        unfold Hid; rw [hall.out, List.drop_of_length_le (by have := HN.out; omega)]; simp
      clear hall
      go_wp2
      go_loopw [7, 9] (fun v i wr => ∃ (k : Nat) (acc : List WhoD), k ≤ n' ∧ acc.length ≤ 1000 + 1000 * k ∧ i = .int .i64 k ∧ wr.ownsRow w.heap.size 200 3 v acc.length (acc.flatMap whoC) ∧ Below w.heap.size w wr ∧ Hid (allR s.stock nd l = acc ++ (l.drop k).flatMap (addsR s.stock))) (fun _ i _ => n' - (intOf i).toNat)
      case atStart => exact ⟨0, acc, Nat.zero_le _, by omega, rfl, hown, hbel, HF⟩
      case round =>
        clear HF hown hbel hz
        obtain ⟨k2, ac, hk2, hac, rfl, hown, hbel, hall⟩ := hrel
        have hz := hbel.size
        by_cases hlt2 : k2 < n'
        · have hkl : k2 < l.length := by have := HN'.out; omega
          obtain ⟨g, o, rfl, hg, hc⟩ := HL.out.cells hkl
          obtain ⟨c0, c1⟩ := hc k2 hkl
          obtain ⟨sa, sn, sc, es, hsr⟩ := HS.out.stock
          have hofk := HOF.out l[k2] (List.getElem_mem hkl)
          have HSL := hid' hsr.len
          obtain ⟨gs, os, rfl, hgs, hcs⟩ := hsr.cells hofk
          obtain ⟨na, nn, nc, q4, hnr⟩ := (hcs l[k2].of hofk).2.2.2.2
          have hnl := HND.out s.stock[l[k2].of] (List.getElem_mem hofk)
          have HA : Hid (allR s.stock nd l = ac ++ ((s.stock[l[k2].of].needs.map fun n => (⟨l[k2].path, n⟩ : WhoD)) ++ (l.drop (k2 + 1)).flatMap (addsR s.stock))) := by
            unfold Hid
            rw [hall.out, List.drop_eq_getElem_cons hkl, List.flatMap_cons]
            have e : addsR s.stock l[k2] = s.stock[l[k2].of].needs.map fun n => (⟨l[k2].path, n⟩ : WhoD) := by
              unfold addsR needsOf
              rw [List.getD_eq_getElem?_getD, List.getElem?_eq_getElem hofk]; rfl
            rw [e]
          clear hc hcs hsr hall
          generalize s.stock[l[k2].of].needs = m at *
          generalize l[k2].path = pt at *
          generalize l[k2].of = mo at *
          have j0 : (0 : Int) ≤ (k2 : Int) := by omega
          have j1 : (k2 : Int) < (n' : Int) := by omega
          have j2 : (0 : Int) ≤ (mo : Int) := by omega
          have j3 : (mo : Int) < (sn : Int) := by have h1 := HSL.out; omega
          have HNR := hid' hnr
          have HNL := hid' hnr.1
          have hnn : nn ≤ 1000 := by have := hnr.1; omega
          have d1 := (hbel.cell (p := ⟨g, o + k2 * 2 + 1, none⟩) hg).trans c1
          have d2 := (hbel.cell (p := ⟨b, 0, none⟩) HS.out.lt).trans es
          have d3 := (hbel.cell (p := ⟨gs, os + mo * 5 + 4, none⟩) hgs).trans q4
          have HC0 := hid' c0
          clear hnr c0 c1 es q4
          obtain ⟨wo, rfl⟩ : ∃ wo, wo = wr := ⟨_, rfl⟩
          go_wp2
          go_region_held3 (fun w' => w'.cell? ⟨b, 0, none⟩ = some (.slice (some ⟨gs, os, none⟩) sn sc) ∧ w'.cell? ⟨g, o + k2 * 2 + 1, none⟩ = some (.int .i64 mo) ∧ w'.cell? ⟨gs, os + mo * 5 + 4, none⟩ = some (.slice na nn nc)) (go_keep) (fail)
          clear d1 d2 d3
          go_wp2
          go_loopw [7, 11] (fun v i wr => ∃ (j : Nat) (a3 : List WhoD), j ≤ nn ∧ a3.length ≤ 1000 + 1000 * k2 + j ∧ i = .int .i64 j ∧ wr.ownsRow w.heap.size 200 3 v a3.length (a3.flatMap whoC) ∧ Below w.heap.size w wr ∧ Hid (allR s.stock nd l = a3 ++ (((m.drop j).map fun n => (⟨pt, n⟩ : WhoD)) ++ (l.drop (k2 + 1)).flatMap (addsR s.stock)))) (fun _ i _ => nn - (intOf i).toNat)
          case atStart => exact ⟨0, ac, Nat.zero_le _, by omega, rfl, hown.drew, hbel.drew, HA⟩
          case round =>
            clear hown hbel hz HA
            obtain ⟨j, a3, hj, ha3, rfl, hown, hbel, hall⟩ := hrel
            have hz := hbel.size
            by_cases hlt3 : j < nn
            · have hjl : j < m.length := by have := HNL.out; omega
              obtain ⟨gn, on, rfl, hgn, hcn⟩ := HNR.out.cells hjl
              obtain ⟨n0, n1⟩ := hcn j hjl
              have e0 := (hbel.cell (p := ⟨g, o + k2 * 2, none⟩) hg).trans HC0.out
              have e1 := (hbel.cell (p := ⟨gn, on + j * 2, none⟩) hgn).trans n0
              have e2 := (hbel.cell (p := ⟨gn, on + j * 2 + 1, none⟩) hgn).trans n1
              have HF : Hid (allR s.stock nd l = (a3 ++ [⟨pt, m[j]⟩]) ++ (((m.drop (j + 1)).map fun n => (⟨pt, n⟩ : WhoD)) ++ (l.drop (k2 + 1)).flatMap (addsR s.stock))) := by
                unfold Hid; rw [hall.out, List.drop_eq_getElem_cons hjl, List.map_cons]; simp only [List.append_assoc, List.cons_append, List.nil_append]
              generalize m[j] = x at *
              have y0 : (0 : Int) ≤ (j : Int) := by omega
              have y1 : (j : Int) < (nn : Int) := by omega
              have hg2 : g < wr.heap.size := by omega
              have hgn2 : gn < wr.heap.size := by omega
              clear hall n0 n1 hcn
              go_wp2
              go_region_held3 (fun w' => w'.cell? ⟨g, o + k2 * 2, none⟩ = some (.string (bs pt)) ∧ w'.cell? ⟨gn, on + j * 2, none⟩ = some (.string (bs x.name)) ∧ w'.cell? ⟨gn, on + j * 2 + 1, none⟩ = some (.string (bs x.rng))) (first | (go_keep; done) | (go_split_ands; refine ⟨?_, ?_, ?_⟩ <;> (rw [hgrow.cell_far _ (by simp; omega) (by intro h; have := hown.lt _ h.symm; simp at this; omega)]; simp [*, go_sem])))
                ((refine step_append_lies _ (by rfl) _ _ 150 (by rfl) w.heap.size 200 i0 (.agg #[.string ByteArray.empty, .string ByteArray.empty, .string ByteArray.empty]) 3 48 Tryz.underlying150 hi hz0 hz1 hz2 (by rfl) (by omega) _ _ _ (by rfl) (by first | exact (hown.alloc _).drew | exact hown.drew.alloc _) ⟨wr.heap.size, 0, none⟩ 1 1 [.string (bs pt), .string (bs x.name), .string (bs x.rng)] (by rfl) (by rfl) (by first | exact news_three _ _ _ _ _) (who_one ⟨pt, x⟩) (by omega) (by unfold maxLen; omega) (by omega) (by simp; omega) (wr.heap.size + 1) (by simp) ?_; intro g1 cap1 w1 hown1 hgrow hat hlt1))
              have R := step_gen whoC (x := ⟨pt, x⟩) hown hbel (by first | exact ((Below.refl _ _).alloc (Nat.le_refl _) _).drew | exact (Below.refl _ _).drew.alloc (by simp) _) hown1 hgrow
              clear hown1 hgrow hown
              go_wp2
              go_roundw
              case rel => exact ⟨j + 1, _, by omega, by simp; omega, by go_num, R.1, R.2, HF⟩
              case measure => simp [intOf] <;> omega
            · have HF : Hid (allR s.stock nd l = a3 ++ (l.drop (k2 + 1)).flatMap (addsR s.stock)) := by
                unfold Hid; rw [hall.out, List.drop_of_length_le (by have := HNL.out; omega)]; simp only [List.map_nil, List.nil_append]
              clear hall
              go_wp2
              go_roundw
              case rel => exact ⟨k2 + 1, a3, by omega, by omega, by go_num, hown, hbel, HF⟩
              case measure => simp [intOf] <;> omega
        · have HF : Hid (allR s.stock nd l = ac) := by
            unfold Hid; rw [hall.out, List.drop_of_length_le (by have := HN'.out; omega)]; simp only [List.flatMap_nil, List.append_nil]
          have HR := hid' (And.intro hown hbel)
          clear hown hbel hall
          go_wp2
          go_ret
          exact ⟨_, rfl, by rw [HF.out]; exact HR.out.1, HR.out.2⟩

end Hst
end Go.Proofs.YtecocheolbkneaaGreatDoor
