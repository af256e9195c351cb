/- Dsettle, Dsorted, Dneeds, Dentry -/
import Derived.Test.YtecocheolbkneaaGreatDoorW23
import Derived.Test.YtecocheolbkneaaGreatDoorW18
import Derived.Test.YtecocheolbkneaaGreatDoorW21
import Derived.Laws.AppendOwnNone
import Derived.Deep.DeepFit
import Derived.Test.YtecocheolbkneaaGreatDoorW11
namespace Go.Proofs.YtecocheolbkneaaGreatDoor
open Go.RowKit
namespace Hst
set_option maxRecDepth 100000

theorem DAt.keep {w w' : World} {b c : Nat} {s : SiteD} (h : DAt w b s) (hm : But c w w') (hne : b ≠ c) {t : TypeId} (ht : tagOf w c = some t) (h1 : t ≠ 135) (h2 : t ≠ 179) (h3 : t ≠ 146) : DAt w' b s := by
  obtain ⟨v0, zs, e0, r0, z0⟩ := h.stock
  obtain ⟨v1, e1, r1⟩ := h.needs
  obtain ⟨v2, e2, r2⟩ := h.packs
  have ne : ∀ u : TypeId, t ≠ u → tagOf w c ≠ some u := fun u hu => by rw [ht]; simpa using hu
  exact ⟨Nat.lt_of_lt_of_le h.lt hm.size, by rw [hm.tags h.lt]; exact h.tag, ⟨v0, zs, by rw [hm.cell h.lt hne]; exact e0, ⟨RowX.off r0.1 hm (ne _ h2), fun z hz => RowX.off (r0.2 z hz) hm (ne _ h1)⟩, z0⟩, ⟨v1, by rw [hm.cell h.lt hne]; exact e1, RowX.off r1 hm (ne _ h1)⟩, ⟨v2, by rw [hm.cell h.lt hne]; exact e2, RowX.off r2 hm (ne _ h3)⟩, by rw [hm.froz h.lt hne]; exact h.f1, by rw [hm.froz h.lt hne]; exact h.f2⟩
theorem DAt.set {w : World} {b : Nat} {s : SiteD} (h : DAt w b s) {nv pv : Value} {nd : List NeedD} {l : List PackD} (hn : NeedsI w nv nd) (hl : PacksI w pv l) :
    DAt ((w.setCell ⟨b, 1, none⟩ nv).setCell ⟨b, 2, none⟩ pv) b ⟨s.stock, nd, l⟩ := by
  have hbut := (But.set w b 1 nv).trans (But.set _ b 2 pv)
  have ne : ∀ u : TypeId, 129 ≠ u → tagOf w b ≠ some u := fun u hu => by rw [h.tag]; simpa using hu
  obtain ⟨v0, zs, e0, r0, z0⟩ := h.stock
  obtain ⟨v1, e1, r1⟩ := h.needs
  obtain ⟨v2, e2, r2⟩ := h.packs
  have f1 := h.f1; have f2 := h.f2
  have g0 : ((w.setCell ⟨b, 1, none⟩ nv).setCell ⟨b, 2, none⟩ pv).cell? ⟨b, 0, none⟩ = some v0 := by simp [go_sem, *]
  have g1 : ((w.setCell ⟨b, 1, none⟩ nv).setCell ⟨b, 2, none⟩ pv).cell? ⟨b, 1, none⟩ = some nv := by simp [go_sem, *]
  have g2 : ((w.setCell ⟨b, 1, none⟩ nv).setCell ⟨b, 2, none⟩ pv).cell? ⟨b, 2, none⟩ = some pv := by simp [go_sem, *]
  exact ⟨by simpa using h.lt, by rw [tag_set, tag_set]; exact h.tag, ⟨v0, zs, g0, ⟨RowX.off r0.1 hbut (ne _ (by decide)), fun z hz => RowX.off (r0.2 z hz) hbut (ne _ (by decide))⟩, z0⟩, ⟨nv, g1, RowX.off hn hbut (ne _ (by decide))⟩, ⟨pv, g2, RowX.off hl hbut (ne _ (by decide))⟩, by simp [go_sem, *], by simp [go_sem, *]⟩
theorem buildGo_two (st : List EntryD) (tree : List PackD) : ∀ (f : Nat) (l : List PackD) (d t : List WhoD), (∃ e, ¬ e = 0 ∧ buildGo st tree f l d t = (none, e)) ∨ ∃ l', buildGo st tree f l d t = (some l', 0)
  | 0, _, _, _ => .inl ⟨9, by simp, by simp [buildGo]⟩
  | f + 1, l, d, [] => .inr ⟨l, by simp [buildGo]⟩
  | f + 1, l, d, x :: r => by
    rw [buildGo]
    by_cases hm : metR st l x = true
    · rw [if_pos hm]; exact buildGo_two st tree f l _ r
    · rw [if_neg hm]
      rcases chooseR st x.n tree with _ | k
      · exact .inl ⟨8, by simp, rfl⟩
      · simp only
        by_cases h40 : 40 ≤ l.length
        · rw [if_pos h40]; exact .inl ⟨9, by simp, rfl⟩
        · rw [if_neg h40]; exact buildGo_two st tree f _ _ _
theorem buildR_two (st : List EntryD) (nd : List NeedD) (tree : List PackD) : (∃ e, ¬ e = 0 ∧ buildR st nd tree = (none, e)) ∨ ∃ l, buildR st nd tree = (some l, 0) := by
  unfold buildR
  rcases buildGo_two st tree 1000 [] [] (allR st nd []) with ⟨e, he, h⟩ | ⟨l, h⟩
  · exact .inl ⟨e, he, by rw [h]⟩
  · exact .inr ⟨_, by rw [h]⟩
/-- What bounds a site of the document. -/
structure DOk (s : SiteD) : Prop where
  st : StD s.stock
  nl : s.needs.length ≤ 6
  no : ∀ n ∈ s.needs, NeedOk n
  pl : s.packs.length ≤ 1000

set_option maxHeartbeats 4000000 in
theorem settleD_any (b : Nat) (s : SiteD) (nv : Value) (nd : List NeedD) (tv : Value) (tree : List PackD) (w : World) (hs : DAt w b s) (hn : NeedsI w nv nd) (ht : PacksI w tv tree) (hst : StD s.stock) (hnl : nd.length ≤ 6) (hno : ∀ n ∈ nd, NeedOk n) (htl : tree.length ≤ 1000) (hlw : LaysWell s.stock tree nd) :
    Calls Tryz.prog 87 #[.pointer (some ⟨b, 0, none⟩), nv, tv] w fun e w' => e = .returned (.int .i64 (settleR s nd tree).2) ∧ SMv b w w' ∧ DAt w' b (settleR s nd tree).1 := by
  have HBD := hid' (buildD_any b s nv nd tv tree w hs hn ht hst hnl hno htl hlw)
  obtain ⟨na, nc, rfl⟩ := RowX.form hn
  obtain ⟨ta, tc, rfl⟩ := RowX.form ht
  have HTW := hid' (buildR_two s.stock nd tree)
  have HSE : Hid (settleR s nd tree = match buildR s.stock nd tree with | (none, e) => (s, e) | (some l, _) => (⟨s.stock, nd, l⟩, 0)) := rfl
  have HS := hid' hs; have HN := hid' hn
  have hlt := hs.lt
  generalize buildR s.stock nd tree = res at *
  generalize settleR s nd tree = sr at *
  clear hs hn ht hlw hno hst
  go_enter Tryz.func87, Tryz.ntmps87
  go_wp2_with fail
  refine HBD.out.mono ?_
  rintro e w1 ⟨ra, rn, rc, rfl, hb1, hin⟩
  have HS1 := hid' (HS.out.below hb1)
  have HN1 := hid' (RowX.below HN.out hb1)
  have HM1 := hid' (SMv.of_below (b := b) hb1)
  have hlt1 := HS1.out.lt
  obtain ⟨v1, t1, _⟩ := HS1.out.needs
  obtain ⟨v2, t2, _⟩ := HS1.out.packs
  have f1 := HS1.out.f1
  have f2 := HS1.out.f2
  clear hb1
  rcases HTW.out with ⟨e, he, hres⟩ | ⟨l, hres⟩
  · have HSR : Hid (sr = (s, e)) := by unfold Hid; rw [HSE.out, hres]
    rw [hres]
    clear hres HTW hin
    simp only
    have hbn : (e == 0) = false := beq_eq_false_iff_ne.2 he
    go_wp2
    go_ret
    refine ⟨ret_int (by rw [HSR.out]), HM1.out, ?_⟩
    rw [HSR.out]; exact HS1.out
  · have HSR : Hid (sr = (⟨s.stock, nd, l⟩, 0)) := by unfold Hid; rw [HSE.out, hres]
    have HI := hid' (hin l (by rw [hres]))
    rw [hres]
    clear hres HTW hin
    simp only
    have HSS := hid' (HS1.out.set HN1.out HI.out)
    go_wp2
    go_ret
    refine ⟨ret_int (by rw [HSR.out]), HM1.out.trans ((SMv.set _ b 1 _).trans (SMv.set _ b 2 _)), ?_⟩
    rw [HSR.out]; exact HSS.out

set_option maxHeartbeats 4000000 in
theorem updateD_any (b : Nat) (s : SiteD) (w : World) (hs : DAt w b s) (hok : DOk s) (hlw : LaysWell s.stock [] s.needs) :
    Calls Tryz.prog 57 #[.pointer (some ⟨b, 0, none⟩)] w fun e w' => e = .returned (.int .i64 (updateR s).2) ∧ SMv b w w' ∧ DAt w' b (updateR s).1 := by
  obtain ⟨v1, e1, r1⟩ := hs.needs
  obtain ⟨na, nc, rfl⟩ := RowX.form r1
  have hlt := hs.lt
  have HB := hid' (settleD_any b s (.slice na s.needs.length nc) s.needs (.slice none 0 0) [] w hs r1 (RowX.nil _ _ _ _) hok.st hok.nl hok.no (by simp) hlw)
  have HU : Hid (updateR s = settleR s s.needs []) := rfl
  generalize updateR s = ur at *
  generalize settleR s s.needs [] = sr at *
  clear hs r1 hok hlw
  go_enter Tryz.func57, Tryz.ntmps57
  go_wp2_with fail
  refine HB.out.mono ?_
  rintro e w1 ⟨rfl, hm, hs1⟩
  have HR := hid' (And.intro hm hs1)
  clear hm hs1
  go_wp2
  go_ret
  refine ⟨ret_int (by rw [HU.out]), HR.out.1, ?_⟩
  rw [HU.out]; exact HR.out.2

theorem restR_len (l : List NeedD) (n : Tx) : (restR l n).length ≤ l.length := List.length_filter_le _ _
theorem dr_none {s : SiteD} {n : Tx} (h : (restR s.needs n).length = s.needs.length) : dropR s n = (s, 3) := by unfold dropR; rw [if_pos h]
theorem dr_some {s : SiteD} {n : Tx} (h : ¬ (restR s.needs n).length = s.needs.length) : dropR s n = settleR s (restR s.needs n) s.packs := by unfold dropR; rw [if_neg h]

set_option maxHeartbeats 4000000 in
theorem dropD_any (b : Nat) (s : SiteD) (p : ByteArray) (w : World) (hs : DAt w b s) (hok : DOk s) (hlw : LaysWell s.stock s.packs (restR s.needs (tx p))) :
    Calls Tryz.prog 56 #[.pointer (some ⟨b, 0, none⟩), .string p] w fun e w' => e = .returned (.int .i64 (dropR s (tx p)).2) ∧ SMv b w w' ∧ DAt w' b (dropR s (tx p)).1 := by
  obtain ⟨v1, e1, r1⟩ := hs.needs
  obtain ⟨na, nc, rfl⟩ := RowX.form r1
  have hlt := hs.lt
  have hnl := hok.nl
  have HRS := hid' (rest_any na s.needs.length nc s.needs p w (NeedsI.r r1) (by omega))
  have D1 := hid' (dr_none (s := s) (n := tx p))
  have D2 := hid' (dr_some (s := s) (n := tx p))
  have HRL := hid' (restR_len s.needs (tx p))
  have HRM : Hid (∀ n ∈ restR s.needs (tx p), NeedOk n) := fun n hn => hok.no n (List.mem_filter.1 hn).1
  have HST := hid' (fun nv tv w h1 h2 h3 => settleD_any b s nv (restR s.needs (tx p)) tv s.packs w h1 h2 h3 hok.st (by have := restR_len s.needs (tx p); omega) (fun n hn => hok.no n (List.mem_filter.1 hn).1) hok.pl hlw)
  have HS := hid' hs
  generalize dropR s (tx p) = dr at *
  generalize hrr : restR s.needs (tx p) = rr at *
  clear hs r1 hok hlw hrr
  go_enter Tryz.func56, Tryz.ntmps56
  go_wp2_with fail
  refine HRS.out.mono ?_
  rintro e w1 ⟨rv, rfl, hown, hb1⟩
  obtain ⟨ra, rc, rfl⟩ := own_slice hown
  have HRI := hid' (show NeedsI w1 (.slice ra rr.length rc) rr from RowX.of_own hown)
  have HS1 := hid' (HS.out.below hb1)
  have HM1 := hid' (SMv.of_below (b := b) hb1)
  have f1 := ((bcell hb1).1 b 1 hlt).trans e1
  have hlt1 := HS1.out.lt
  obtain ⟨v2, t2, r2⟩ := HS1.out.packs
  obtain ⟨pa, pc, rfl⟩ := RowX.form r2
  have HP1 := hid' r2
  clear hb1 hown e1 r2
  by_cases hl : rr.length = s.needs.length
  · have HF := hid' (D1.out hl)
    have hb : ((rr.length : Int) == (s.needs.length : Int)) = true := by simp [hl]
    generalize s.needs.length = nl at *
    generalize rr.length = rl at *
    clear hl D1 D2
    go_wp2
    go_ret
    refine ⟨ret_int (by rw [HF.out]), HM1.out, ?_⟩
    rw [HF.out]; exact HS1.out
  · have HF := hid' (D2.out hl)
    have hb : ((rr.length : Int) == (s.needs.length : Int)) = false := beq_eq_false_iff_ne.2 (by omega)
    have HSB := hid' (HST.out (.slice ra rr.length rc) (.slice pa s.packs.length pc) w1 HS1.out HRI.out HP1.out)
    generalize settleR s rr s.packs = sr at *
    clear hl D1 D2
    go_wp2_with fail
    refine HSB.out.mono ?_
    rintro e w2 ⟨rfl, hm, hs2⟩
    have HR := hid' (And.intro (HM1.out.trans hm) hs2)
    clear hm hs2
    go_wp2
    go_ret
    refine ⟨ret_int (by rw [HF.out]), HR.out.1, ?_⟩
    rw [HF.out]; exact HR.out.2

end Hst
end Go.Proofs.YtecocheolbkneaaGreatDoor
namespace Go.Proofs.YtecocheolbkneaaGreatDoor
open Go.RowKit
namespace Hst
set_option maxRecDepth 100000

theorem insPos_le (x : NeedD) (out : List NeedD) : ∀ k, insPos x out k ≤ k
  | 0 => Nat.le_refl _
  | k + 1 => by
    have := insPos_le x out k
    rw [insPos]; split <;> omega
theorem sg_step (out l : List NeedD) (i : Nat) (hi : i < l.length) : sortGo out (l.drop i) = sortGo (insR l[i] out) (l.drop (i + 1)) := by
  rw [List.drop_eq_getElem_cons hi, sortGo]
theorem sg_end (out l : List NeedD) (i : Nat) (hi : ¬ i < l.length) : sortGo out (l.drop i) = out := by
  rw [List.drop_of_length_le (by omega)]; rfl
theorem RowX.needD {w : World} {v : Value} {l : List NeedD} (h : RowX needC 2 135 w v l) {k : Nat} (hk : k < l.length) :
    ∃ g o cap, v = .slice (some ⟨g, o, none⟩) l.length cap ∧ g < w.heap.size ∧ ∀ (j : Nat) (hj : j < l.length), w.cell? ⟨g, o + j * 2, none⟩ = some (.string (bs l[j].name)) ∧ w.cell? ⟨g, o + j * 2 + 1, none⟩ = some (.string (bs l[j].rng)) := by
  obtain ⟨g, o, cap, hv, hg, hc⟩ := h.cells needC_len hk
  exact ⟨g, o, cap, hv, hg, fun j hj => ⟨hc j hj 0 (by omega), hc j hj 1 (by omega)⟩⟩

def ipB (x : NeedD) (out : List NeedD) : Nat → Bool
  | 0 => false
  | k + 1 => less x.name (out.getD k ⟨[], []⟩).name
theorem ip_step (x : NeedD) (out : List NeedD) (j : Nat) (h : ipB x out j = true) : insPos x out j = insPos x out (j - 1) := by
  cases j with
  | zero => simp [ipB] at h
  | succ k => rw [insPos]; exact if_pos h
theorem ip_stop (x : NeedD) (out : List NeedD) (j : Nat) (h : ipB x out j = false) : insPos x out j = j := by
  cases j with
  | zero => rfl
  | succ k => rw [insPos]; exact if_neg (by have h' : less x.name (out.getD k ⟨[], []⟩).name = false := h; rw [h']; simp)

theorem own_cap {w : World} {base e size n cap : Nat} {a : Option Addr} {xs : List Value} (h : w.ownsRow base e size (.slice a n cap) n xs) : n ≤ cap := by
  rcases h.2 with ⟨h', h0⟩ | ⟨g', cap', cur, h', _, _, hc, _⟩
  · omega
  · simp at h'
    omega
theorem take_cells {w : World} {base e n g cap j : Nat} {xs : List Value} (h : w.ownsRow base e 2 (.slice (some ⟨g, 0, none⟩) n cap) n xs) (hj : j ≤ n) : ∀ i u, (xs.take (j * 2))[i]? = some u → w.cell? ((⟨g, 0, none⟩ : Addr).add i) = some u := by
  intro i u hu
  rw [List.getElem?_take] at hu
  split at hu
  · next hi =>
    have := h.cellAt i (by omega)
    rw [hu] at this
    by_cases h0 : i = 0
    · subst h0; simpa [Addr.add] using this
    · simpa [Addr.add, h0] using this
  · simp at hu
theorem drop_cells {w : World} {base e n g cap j : Nat} {xs : List Value} (h : w.ownsRow base e 2 (.slice (some ⟨g, 0, none⟩) n cap) n xs) : ∀ i u, (xs.drop (j * 2))[i]? = some u → w.cell? ((⟨g, j * 2, none⟩ : Addr).add i) = some u := by
  intro i u hu
  rw [List.getElem?_drop] at hu
  have hl := h.1
  have hi : j * 2 + i < xs.length := by
    rcases Nat.lt_or_ge (j * 2 + i) xs.length with h' | h'
    · exact h'
    · rw [List.getElem?_eq_none h'] at hu; simp at hu
  have := h.cellAt (j * 2 + i) (by omega)
  rw [hu] at this
  by_cases h0 : i = 0
  · subst h0; simpa [Addr.add] using this
  · simpa [Addr.add, h0] using this
theorem fm_take : ∀ (l : List NeedD) (j : Nat), (l.take j).flatMap needC = (l.flatMap needC).take (j * 2)
  | [], j => by simp
  | a :: r, 0 => by simp
  | a :: r, j + 1 => by
    have e : (j + 1) * 2 = j * 2 + 1 + 1 := by omega
    rw [List.take_succ_cons, List.flatMap_cons, List.flatMap_cons, fm_take r j, e]
    simp [needC]
theorem fm_drop : ∀ (l : List NeedD) (j : Nat), (l.drop j).flatMap needC = (l.flatMap needC).drop (j * 2)
  | [], j => by simp
  | a :: r, 0 => by simp
  | a :: r, j + 1 => by
    have e : (j + 1) * 2 = j * 2 + 1 + 1 := by omega
    rw [List.drop_succ_cons, List.flatMap_cons, fm_drop r j, e]
    simp [needC]
theorem ins_len (x : NeedD) (out : List NeedD) : (insR x out).length = out.length + 1 := by
  have := insPos_le x out out.length
  simp [insR]; omega
theorem ins_own {w : World} {base e n j : Nat} {v : Value} {xs : List Value} {x : NeedD} {out : List NeedD} (hp : insPos x out out.length = j) (hn : n = out.length + 1) (hx : xs = (out.flatMap needC).take (j * 2) ++ needC x ++ (out.flatMap needC).drop (j * 2)) (h : w.ownsRow base e 2 v n xs) : w.ownsRow base e 2 v (insR x out).length ((insR x out).flatMap needC) := by
  have e1 : (insR x out).flatMap needC = xs := by
    rw [hx]; unfold insR; rw [hp, List.flatMap_append, List.flatMap_append, fm_take, fm_drop]; simp
  rw [ins_len, e1, ← hn]; exact h
theorem need_ones (l : List NeedD) : ∀ u ∈ l.flatMap needC, u.oneCell' = true := by
  intro u hu
  obtain ⟨n, _, hn⟩ := List.mem_flatMap.1 hu
  exact need_one n u hn

attribute [local go_sem ↓] Go.wp_at_zero Go.wp_at_succ

set_option maxHeartbeats 8000000 in
theorem sorted_any (v : Value) (l : List NeedD) (w : World) (hl : NeedsI w v l) (hn : l.length ≤ 10000) :
    Calls Tryz.prog 86 #[v] w fun e w' => ∃ v', e = .returned v' ∧ w'.ownsRow w.heap.size 135 2 v' (sortedR l).length ((sortedR l).flatMap needC) ∧ Below w.heap.size w w' := by
  obtain ⟨i0, hi, iz0, iz1, iz2⟩ := info_parts info_need
  obtain ⟨a, cap, rfl⟩ := RowX.form hl
  have HL := hid' hl
  have HSO : Hid (sortedR l = sortGo [] (l.drop 0)) := rfl
  generalize sortedR l = res at *
  clear hl
  go_enter Tryz.func86, Tryz.ntmps86
  go_wp2
  go_loopw [3, 4] (fun v i wr => ∃ (k : Nat) (out : List NeedD), k ≤ l.length ∧ out.length = k ∧ i = .int .i64 k ∧ wr.ownsRow w.heap.size 135 2 v out.length (out.flatMap needC) ∧ Below w.heap.size w wr ∧ Hid ((out = [] → v = .slice none 0 0) ∧ res = sortGo out (l.drop k))) (fun _ i _ => l.length - (intOf i).toNat)
  case atStart => exact ⟨0, [], Nat.zero_le _, rfl, rfl, World.ownsRow_nil _ _ _ _, Below.refl _ _, ⟨fun _ => rfl, HSO.out⟩⟩
  case round =>
    obtain ⟨k, out, hk, hok, rfl, hown, hbel, hall⟩ := hrel
    have hz := hbel.size
    have HOK := hid' hok
    have HRE := hid' hall.out.2
    have HNI := hid' hall.out.1
    have hol : out.length ≤ 10000 := by omega
    obtain ⟨oa, oc, rfl⟩ := own_slice hown
    clear hall hok
    by_cases hlt : k < l.length
    · obtain ⟨g, o, cap', hv, hg, hc⟩ := (RowX.below HL.out hbel).needD hlt
      simp at hv
      obtain ⟨rfl, rfl⟩ := hv
      obtain ⟨c0, c1⟩ := hc k hlt
      have HST := hid' (sg_step out l k hlt)
      have k0 : (0 : Int) ≤ (k : Int) := by omega
      have k1 : (k : Int) < (l.length : Int) := by omega
      clear hc
      generalize l[k] = x at *
      have HOW := hid' hown
      have HBL := hid' hbel
      obtain ⟨wo, rfl⟩ : ∃ wo, wo = wr := ⟨_, rfl⟩
      clear hown hbel
      go_wp2
      go_loopw [5] (fun i wr => ∃ j : Nat, j ≤ out.length ∧ i = .int .i64 j ∧ Below wo.heap.size wo wr ∧ Hid (insPos x out out.length = insPos x out j)) (fun i _ => (intOf i).toNat)
      case atStart => exact ⟨out.length, Nat.le_refl _, rfl, Below.refl _ _, rfl⟩
      case round =>
        obtain ⟨j, hj, rfl, hbel, hall⟩ := hrel
        have hz2 := hbel.size
        have d0 := (hbel.cell (p := ⟨g, o + k * 2, none⟩) hg).trans c0
        have d1 := (hbel.cell (p := ⟨g, o + k * 2 + 1, none⟩) hg).trans c1
        have hg2 : g < wr.heap.size := by omega
        have HIS := hid' (ip_step x out j)
        have HIN := hid' (ip_stop x out j)
        go_wp2
        go_cut [30] (fun t wc => t = .bool (ipB x out j) ∧ Below wr.heap.size wr wc)
        case first =>
          by_cases h0 : j = 0
          · subst h0
            go_region
            go_wp2
            go_meet
            exact ⟨rfl, (Below.refl _ _).drew⟩
          · obtain ⟨j, rfl⟩ : ∃ i, j = i + 1 := ⟨j - 1, by omega⟩
            have hjo : j < out.length := by omega
            obtain ⟨g3, o3, cap3, hv3, hg3, hc3⟩ := (RowX.below (RowX.of_own HOW.out) hbel).needD (k := j) hjo
            simp at hv3
            obtain ⟨rfl, rfl⟩ := hv3
            have f0 := (hc3 j hjo).1
            have HC : Hid (ipB x out (j + 1) = Op.bytesLess x.name out[j].name) := by
              unfold Hid ipB; simp [less, List.getD_eq_getElem?_getD, List.getElem?_eq_getElem hjo]
            clear hc3
            have j0 : (0 : Int) ≤ (j : Int) := by omega
            have j1 : (j : Int) < (out.length : Int) := by omega
            have i2 : IntKind.i64.wrap ((j : Int) + 1 - 1) = (j : Int) := by rw [IntKind.wrap_i64]; omega
            have i6 : IntKind.i64.wrap (j : Int) = (j : Int) := by rw [IntKind.wrap_i64]; omega
            have HTL : Hid (Op.bytesLess (bs x.name).toList (bs out[j].name).toList = Op.bytesLess x.name out[j].name) := by unfold Hid; rw [tx_toList, tx_toList, tx_bs, tx_bs]
            go_region_held3 (fun w' => w'.cell? ⟨g, o + k * 2, none⟩ = some (.string (bs x.name)) ∧ w'.cell? ⟨g3, o3 + j * 2, none⟩ = some (.string (bs out[j].name))) (go_keep) (fail)
            go_wp2
            go_meet
            exact ⟨by rw [HC.out, ← HTL.out], (Below.refl _ _).drew⟩
        case rest =>
          obtain ⟨rfl, hbc⟩ := hcut
          have hb3 := hbel.trans (hbc.mono hz2)
          cases hcc : ipB x out j
          · have HF : Hid (insPos x out out.length = j) := by unfold Hid; rw [hall.out]; exact HIN.out hcc
            have HBL3 := hid' hb3
            clear hcc HIS HIN hall hbel hbc d0 d1
            by_cases ho : out = []
            · have hv0 := HNI.out ho
              simp at hv0
              obtain ⟨rfl, -, rfl⟩ := hv0
              subst ho
              have hj0 : j = 0 := by simpa using hj
              subst hj0
              have e0 := (HBL3.out.cell (p := ⟨g, o + k * 2, none⟩) hg).trans c0
              have e1 := (HBL3.out.cell (p := ⟨g, o + k * 2 + 1, none⟩) hg).trans c1
              have hz4 := HBL3.out.size
              have hg4 : g < wc.heap.size := by omega
              clear c0 c1
              have hnil := World.ownsRow_nil wc wc.heap.size 135 2
              have HBA := hid' ((Below.refl wc.heap.size wc).alloc (Nat.le_refl _) (.cells #[.string (bs x.name), .string (bs x.rng)] 135))
              go_wp2_with (first
                | (at_builtin; refine wpList_append_own_none rfl _ _ 126 rfl wc.heap.size 135 i0 2 Tryz.underlying126 hi _ _ _ rfl hnil rfl ?_)
                | (at_builtin; refine wpList_append_lies _ rfl _ _ 126 rfl wc.heap.size 135 i0 (.agg #[.string ByteArray.empty, .string ByteArray.empty]) 2 32 Tryz.underlying126 hi iz0 iz1 iz2 rfl (by omega) _ _ _ rfl (hnil.alloc _) ⟨wc.heap.size, 0, none⟩ 1 1 [.string (bs x.name), .string (bs x.rng)] rfl rfl (news_one _ _ _ _) (need_one x) (by omega) (by unfold maxLen; omega) (by omega) (by simp) (wc.heap.size + 1) (by simp) ?_; intro g1 cap1 w2 hown1 hgrow hat hlt1)
                | (at_builtin; refine wpList_append_own_none rfl _ _ 126 rfl wc.heap.size 135 i0 2 Tryz.underlying126 hi _ _ _ rfl hown1 rfl ?_))
              have HB5 := hid' ((HBL.out.trans ((HBL3.out.mono hz).trans (HBA.out.mono (by omega)))).grown hgrow (by simp; omega) (fun q hq => by have := (hnil.lt q hq).1; omega))
              have hk0 : k = 0 := HOK.out.symm
              go_roundw
              case rel => exact ⟨k + 1, [x], by omega, by simp [hk0], by go_num, own_mono hown1 (by omega), HB5.out, ⟨by simp, by rw [HRE.out, HST.out]; rfl⟩⟩
              case measure => simp [intOf] <;> omega
            · obtain ⟨g3, cap3, hv3, hbg3, hg3⟩ := HOW.out.form (List.length_pos_iff.2 ho)
              simp at hv3
              obtain ⟨rfl, rfl⟩ := hv3
              have HOC := hid' (own_below HOW.out HBL3.out)
              have j0 : (0 : Int) ≤ (j : Int) := by omega
              have j1 : (j : Int) ≤ (out.length : Int) := by omega
              have hcp := own_cap HOW.out
              have j3 : (j : Int) ≤ (oc : Int) := by omega
              have j4 : (out.length : Int) ≤ (oc : Int) := by omega
              have e0 := (HBL3.out.cell (p := ⟨g, o + k * 2, none⟩) hg).trans c0
              have e1 := (HBL3.out.cell (p := ⟨g, o + k * 2 + 1, none⟩) hg).trans c1
              have hz4 := HBL3.out.size
              have hg4 : g < wc.heap.size := by omega
              clear c0 c1 HNI
              have hnil := World.ownsRow_nil wc wc.heap.size 135 2
              have HNT := hid' (take_cells HOC.out (j := j) (by omega))
              have hlen : ((out.flatMap needC).take (j * 2)).length = j * 2 := by rw [List.length_take, HOC.out.1]; omega
              have HON := hid' (need_ones out)
              have hlen2 : ((out.flatMap needC).drop (j * 2)).length = (out.length - j) * 2 := by rw [List.length_drop, HOC.out.1]; omega
              by_cases hoc : oc = j
              · have hoc' := hoc.symm
                subst hoc'
                go_wp2_with (first
                  | (at_builtin; refine wpList_append_own _ rfl _ _ 126 rfl wc.heap.size 135 i0 (.agg #[.string ByteArray.empty, .string ByteArray.empty]) 2 32 Tryz.underlying126 hi iz0 iz1 iz2 rfl (by omega) _ _ _ rfl hnil ⟨g3, 0, none⟩ j j ((out.flatMap needC).take (j * 2)) rfl hlen HNT.out (fun u hu => HON.out u (List.mem_of_mem_take hu)) (by unfold maxLen; omega) (by omega) (by omega) ?_; intro v1 w1 ho1 hg1 hn1; rw [Nat.zero_add] at ho1; have hB1 := (Below.refl wc.heap.size wc).grown hg1 (Nat.le_refl _) (fun q hq => (hnil.lt q hq).1); have f0 := (hB1.cell (p := ⟨g, o + k * 2, none⟩) hg4).trans e0; have f1 := (hB1.cell (p := ⟨g, o + k * 2 + 1, none⟩) hg4).trans e1; have hz5 := hB1.size)
                  | (at_builtin; refine wpList_append_lies _ rfl _ _ 126 rfl wc.heap.size 135 i0 (.agg #[.string ByteArray.empty, .string ByteArray.empty]) 2 32 Tryz.underlying126 hi iz0 iz1 iz2 rfl (by omega) _ _ _ rfl (ho1.alloc _) ⟨w1.heap.size, 0, none⟩ 1 1 [.string (bs x.name), .string (bs x.rng)] rfl rfl (news_one _ _ _ _) (need_one x) (by omega) (by unfold maxLen; omega) (by omega) (by simp; omega) (w1.heap.size + 1) (by simp) ?_; intro g2 cap2 w2 hown2 hgrow2 hat2 hlt2; have hB2 := (hB1.alloc hz5 (.cells #[.string (bs x.name), .string (bs x.rng)] 135)).grown hgrow2 (by simp; omega) (fun q hq => (ho1.lt q hq).1); have hz6 := hB2.size; have HD2 := hid' (drop_cells (j := j) (own_below HOC.out hB2)))
                  | (at_builtin; go_must (refine wpList_append_own _ rfl _ _ 126 rfl wc.heap.size 135 i0 (.agg #[.string ByteArray.empty, .string ByteArray.empty]) 2 32 Tryz.underlying126 hi iz0 iz1 iz2 rfl (by omega) _ _ _ rfl hown2 _ _ _ [] rfl (by first | rfl | (simp; omega)) (fun i u hu => by simp at hu) (fun u hu => by simp at hu) (by unfold maxLen; omega) (by omega) (by omega) ?_); intro v3 w3 ho3 hg3' hn3))
                have HB5 := hid' ((HBL.out.trans ((HBL3.out.mono hz).trans (hB2.mono (by omega)))).grown hg3' (by omega) (fun q hq => by have := (hown2.lt q hq).1; omega))
                have R := ins_own HF.out (by omega) (by rw [List.drop_of_length_le (l := out.flatMap needC) (by rw [HOC.out.1]; omega)]; simp [needC]) (own_mono ho3 (base' := w.heap.size) (by omega))
                have hil := ins_len x out
                have HIL := hid' hil
                clear hil
                go_roundw
                case rel => exact ⟨k + 1, insR x out, by omega, by rw [HIL.out, HOK.out], by go_num, R, HB5.out, ⟨by intro h; have := HIL.out; rw [h] at this; simp at this, by rw [HRE.out, HST.out]⟩⟩
                case measure => simp [intOf] <;> omega
              · have hoc2 : ¬ oc ≤ j := by omega
                go_wp2_with (first
                  | (at_builtin; refine wpList_append_own _ rfl _ _ 126 rfl wc.heap.size 135 i0 (.agg #[.string ByteArray.empty, .string ByteArray.empty]) 2 32 Tryz.underlying126 hi iz0 iz1 iz2 rfl (by omega) _ _ _ rfl hnil ⟨g3, 0, none⟩ j oc ((out.flatMap needC).take (j * 2)) rfl hlen HNT.out (fun u hu => HON.out u (List.mem_of_mem_take hu)) (by unfold maxLen; omega) (by omega) (by omega) ?_; intro v1 w1 ho1 hg1 hn1; rw [Nat.zero_add] at ho1; have hB1 := (Below.refl wc.heap.size wc).grown hg1 (Nat.le_refl _) (fun q hq => (hnil.lt q hq).1); have f0 := (hB1.cell (p := ⟨g, o + k * 2, none⟩) hg4).trans e0; have f1 := (hB1.cell (p := ⟨g, o + k * 2 + 1, none⟩) hg4).trans e1; have hz5 := hB1.size)
                  | (at_builtin; refine wpList_append_lies _ rfl _ _ 126 rfl wc.heap.size 135 i0 (.agg #[.string ByteArray.empty, .string ByteArray.empty]) 2 32 Tryz.underlying126 hi iz0 iz1 iz2 rfl (by omega) _ _ _ rfl (ho1.alloc _) ⟨w1.heap.size, 0, none⟩ 1 1 [.string (bs x.name), .string (bs x.rng)] rfl rfl (news_one _ _ _ _) (need_one x) (by omega) (by unfold maxLen; omega) (by omega) (by simp; omega) (w1.heap.size + 1) (by simp) ?_; intro g2 cap2 w2 hown2 hgrow2 hat2 hlt2; have hB2 := (hB1.alloc hz5 (.cells #[.string (bs x.name), .string (bs x.rng)] 135)).grown hgrow2 (by simp; omega) (fun q hq => (ho1.lt q hq).1); have hz6 := hB2.size; have HD2 := hid' (drop_cells (j := j) (own_below HOC.out hB2)))
                  | (at_builtin; go_must (refine wpList_append_own _ rfl _ _ 126 rfl wc.heap.size 135 i0 (.agg #[.string ByteArray.empty, .string ByteArray.empty]) 2 32 Tryz.underlying126 hi iz0 iz1 iz2 rfl (by omega) _ _ _ rfl hown2 ⟨g3, j * 2, none⟩ (out.length - j) (oc - j) ((out.flatMap needC).drop (j * 2)) rfl hlen2 HD2.out (fun u hu => HON.out u (List.mem_of_mem_drop hu)) (by unfold maxLen; omega) (by omega) (by omega) ?_); intro v3 w3 ho3 hg3' hn3))
                have HB5 := hid' ((HBL.out.trans ((HBL3.out.mono hz).trans (hB2.mono (by omega)))).grown hg3' (by omega) (fun q hq => by have := (hown2.lt q hq).1; omega))
                have R := ins_own HF.out (by omega) (by simp [needC]) (own_mono ho3 (base' := w.heap.size) (by omega))
                have hil := ins_len x out
                have HIL := hid' hil
                clear hil
                go_roundw
                case rel => exact ⟨k + 1, insR x out, by omega, by rw [HIL.out, HOK.out], by go_num, R, HB5.out, ⟨by intro h; have := HIL.out; rw [h] at this; simp at this, by rw [HRE.out, HST.out]⟩⟩
                case measure => simp [intOf] <;> omega
          · have hj0 : 0 < j := by
              rcases Nat.eq_zero_or_pos j with h | h
              · subst h; simp [ipB] at hcc
              · exact h
            have HF : Hid (insPos x out out.length = insPos x out (j - 1)) := by unfold Hid; rw [hall.out]; exact HIS.out hcc
            clear hcc HIS HIN hall
            go_wp2
            go_roundw
            case rel => exact ⟨j - 1, by omega, by go_num, hb3, HF⟩
            case measure => simp [intOf] <;> omega
    · have HF : Hid (res = out) := by unfold Hid; rw [HRE.out, sg_end out l k hlt]
      have HO := hid' hown
      have HB := hid' hbel
      clear hown hbel
      go_wp2
      go_ret
      refine ⟨_, rfl, ?_, HB.out⟩
      rw [HF.out]; exact HO.out

end Hst
end Go.Proofs.YtecocheolbkneaaGreatDoor
namespace Go.Proofs.YtecocheolbkneaaGreatDoor
open Go.RowKit
namespace Hst
set_option maxRecDepth 100000

/-- The needs of the first k pieces. -/
def ndK (d : List Tx) (k : Nat) : List NeedD := (d.take k).map fun t => (needR t).1
theorem ndK_succ (d : List Tx) (k : Nat) (hk : k < d.length) : ndK d (k + 1) = ndK d k ++ [(needR d[k]).1] := by
  unfold ndK
  rw [List.take_succ_eq_append_getElem hk, List.map_append]; rfl
theorem ndK_len (d : List Tx) (k : Nat) (hk : k ≤ d.length) : (ndK d k).length = k := by
  unfold ndK
  rw [List.length_map, List.length_take]; omega
theorem ng_yes (d : List Tx) (k : Nat) (hk : k < d.length) (h : (needR d[k]).2 = true) : needsGo (ndK d k) (d.drop k) = needsGo (ndK d (k + 1)) (d.drop (k + 1)) := by
  rw [List.drop_eq_getElem_cons hk, needsGo, if_pos h, ndK_succ d k hk]
theorem ng_no (d : List Tx) (k : Nat) (hk : k < d.length) (h : (needR d[k]).2 = false) : needsGo (ndK d k) (d.drop k) = none := by
  rw [List.drop_eq_getElem_cons hk, needsGo, if_neg (by rw [h]; simp)]
theorem ng_end (d : List Tx) (k : Nat) (hk : ¬ k < d.length) : needsGo (ndK d k) (d.drop k) = some (ndK d k) := by
  rw [List.drop_of_length_le (by omega), needsGo]
theorem tail_none {s : Tx} (h : needsR s = none) : tailR s = ([], false) := by unfold tailR; rw [h]
theorem tail_some {s : Tx} {l : List NeedD} (h : needsR s = some l) : tailR s = (sortedR l, decide (l.length ≤ 6)) := by unfold tailR; rw [h]

set_option maxHeartbeats 2000000 in
theorem needsD_any (s : ByteArray) (w : World) (hs : s.size ≤ 5000) :
    Calls Tryz.prog 152 #[.string s] w fun e w' => ∃ a n c, e = .returned (.tuple #[.slice a n c, .bool (tailR (tx s)).2]) ∧ NeedsI w' (.slice a n c) (tailR (tx s)).1 ∧ Below w.heap.size w w' := by
  obtain ⟨i0, hi, hz0, hz1, hz2⟩ := info_parts info_need
  have HPS : Hid (∀ j (hj : j < (splitL 44 (tx s)).length), (bs (splitL 44 (tx s))[j]).size ≤ 5000) := fun j hj => by have := piece_size 44 s j hj; omega
  have HDL : Hid ((splitL 44 (tx s)).length ≤ 5001) := by unfold Hid; have := splitL_len 44 (tx s); rw [tx_length] at this; omega
  have HTN := hid' (tail_none (s := tx s))
  have HTS := hid' (fun l => tail_some (s := tx s) (l := l))
  have HNR : Hid (needsR (tx s) = needsGo (ndK (splitL 44 (tx s)) 0) ((splitL 44 (tx s)).drop 0)) := rfl
  go_enter Tryz.func152, Tryz.ntmps152
  go_wp2_with fail
  refine (rsplit_any s 44 _ (by omega)).mono ?_
  rintro e w1 ⟨v, rfl, hrow, hb1⟩
  have hrx := hrow.rowx
  obtain ⟨ta, tc, rfl⟩ := hrx.form
  have HRX := hid' hrx
  have HB1 := hid' hb1
  have hz1' := hb1.size
  clear hrow hrx hb1
  generalize splitL 44 (tx s) = d at *
  go_wp2
  go_loopw [5, 6] (fun v i wr => ∃ (k : Nat), k ≤ d.length ∧ i = .int .i64 k ∧ wr.ownsRow w1.heap.size 135 2 v (ndK d k).length ((ndK d k).flatMap needC) ∧ Below w1.heap.size w1 wr ∧ Hid (needsR (tx s) = needsGo (ndK d k) (d.drop k))) (fun _ i _ => d.length - (intOf i).toNat)
  case atStart => exact ⟨0, Nat.zero_le _, rfl, World.ownsRow_nil _ _ _ _, Below.refl _ _, HNR⟩
  case round =>
    obtain ⟨k, hk, rfl, hown, hbel, hall⟩ := hrel
    have hz := hbel.size
    have HKL := hid' (ndK_len d k hk)
    have hdl := HDL.out
    by_cases hlt : k < d.length
    · obtain ⟨g, o, cap', hv, hg, hc⟩ := (HRX.out.below hbel).strs hlt
      simp at hv
      obtain ⟨rfl, rfl⟩ := hv
      have c0 := hc k hlt
      have HP := hid' (fun w => need_any (bs d[k]) w (by have := HPS.out k hlt; omega))
      rw [tx_bs] at HP
      clear hc
      rcases hok : (needR d[k]).2 with _ | _
      · have HF : Hid (tailR (tx s) = ([], false)) := HTN.out (by rw [hall.out, ng_no d k hlt hok])
        rw [hok] at HP
        clear hok hall
        generalize (needR d[k]).1 = y at *
        generalize bs d[k] = q at *
        go_wp2_with fail
        refine (HP.out _).mono ?_
        rintro e w2 ⟨rfl, hb2⟩
        have hz2' := hb2.size
        have HB := hid' (HB1.out.trans ((hbel.trans (hb2.mono hz)).mono hz1'))
        clear hb2 hbel
        go_wp2
        go_ret2
        exact ⟨none, 0, 0, by rw [HF.out]; rfl, by rw [HF.out]; exact RowX.nil _ _ _ _, HB.out.alloc (by omega) _⟩
      · have HF : Hid (needsR (tx s) = needsGo (ndK d (k + 1)) (d.drop (k + 1))) := by unfold Hid; rw [hall.out, ng_yes d k hlt hok]
        have HS := hid' (ndK_succ d k hlt)
        rw [hok] at HP
        clear hok hall
        generalize (needR d[k]).1 = y at *
        generalize bs d[k] = q at *
        go_wp2_with fail
        refine (HP.out _).mono ?_
        rintro e w2 ⟨rfl, hb2⟩
        have hz2' := hb2.size
        have hown2 := own_below hown hb2
        have HB2 := hid' hb2
        clear hb2
        have hal : (ndK d k).length ≤ 5001 := by have := HKL.out; omega
        generalize ndK d k = acc at *
        go_wp2_with (first | (at_builtin; refine wpList_append_lies _ rfl _ _ 126 rfl w1.heap.size 135 i0 (.agg #[.string ByteArray.empty, .string ByteArray.empty]) 2 32 Tryz.underlying126 hi hz0 hz1 hz2 rfl (by omega) _ _ _ rfl ((hown2.alloc _).alloc _) ⟨w2.heap.size + 1, 0, none⟩ 1 1 [.string (bs y.name), .string (bs y.rng)] rfl rfl (news_span _ _ _ _ _) (need_one y) (by omega) (by unfold maxLen; omega) (by omega) (by simp; omega) (w2.heap.size + 2) (by simp) ?_; intro g1 cap1 w3 hown3 hgrow hat hlt1))
        have hba := (HB2.out.alloc hz2' (.cells #[.string (bs y.name), .string (bs y.rng)] 135)).alloc (by simp; omega) (.cells #[.string (bs y.name), .string (bs y.rng)] 135)
        have R := step_gen2 needC (x := y) rfl hown hbel hba hown3 hgrow
        rw [← HS.out] at R
        clear hown3 hgrow hown hown2 hba
        go_wp2
        go_roundw
        case rel => exact ⟨k + 1, by omega, by go_num, R.1, R.2, HF⟩
        case measure => simp [intOf] <;> omega
    · have HF : Hid (tailR (tx s) = (sortedR (ndK d k), decide ((ndK d k).length ≤ 6))) := HTS.out _ (by rw [hall.out, ng_end d k hlt])
      have HB := hid' (HB1.out.trans (hbel.mono hz1'))
      have hrx := RowX.of_own hown
      obtain ⟨va, vc, rfl⟩ := own_slice hown
      have HSO := hid' (sorted_any _ (ndK d k) wr hrx (by have := HKL.out; omega))
      clear hall hbel hown hrx HKL
      generalize ndK d k = acc at *
      go_wp2_with fail
      refine HSO.out.mono ?_
      rintro e w2 ⟨v2, rfl, hown2, hb2⟩
      have hrx2 := RowX.of_own hown2
      obtain ⟨va2, vc2, rfl⟩ := own_slice hown2
      have HR := hid' (And.intro hrx2 (HB.out.trans (hb2.mono (by omega))))
      clear hrx2 hb2 hown2
      go_wp2
      go_ret2
      refine ⟨va2, _, vc2, ?_, by rw [HF.out]; exact HR.out.1, HR.out.2⟩
      rw [HF.out]
      go_num

end Hst
end Go.Proofs.YtecocheolbkneaaGreatDoor
namespace Go.Proofs.YtecocheolbkneaaGreatDoor
open Go.RowKit
namespace Hst
set_option maxRecDepth 100000

theorem en_plain {s hd tl nm vr : Tx} {b t k : Bool} {v : V3} (h1 : cutR 58 s = (hd, tl, b)) (h2 : cutR 64 hd = (nm, vr, t)) (h3 : versionR vr = (v, k)) (hb : b = false) : entryR s = (⟨nm, v, []⟩, t && k && isNameR nm) := by
  unfold entryR
  simp only [h1, h2, h3, hb]
  rfl
theorem en_needs {s hd tl nm vr : Tx} {b t k : Bool} {v : V3} (h1 : cutR 58 s = (hd, tl, b)) (h2 : cutR 64 hd = (nm, vr, t)) (h3 : versionR vr = (v, k)) (hb : b = true) : entryR s = (⟨nm, v, (tailR tl).1⟩, t && k && (isNameR nm && (tailR tl).2)) := by
  unfold entryR
  simp only [h1, h2, h3, hb]
  rfl

theorem NeedsI.set {w : World} {v : Value} {l : List NeedD} (h : NeedsI w v l) {b o : Nat} {u : Value} (ht : tagOf w b ≠ some 135) : NeedsI (w.setCell ⟨b, o, none⟩ u) v l := RowX.off h (But.set w b o u) ht

set_option maxHeartbeats 4000000 in
theorem entryD_any (s : ByteArray) (w : World) (hs : s.size ≤ 5000) :
    Calls Tryz.prog 120 #[.string s] w fun e w' => ∃ a n c, e = .returned (.tuple #[.agg #[.string (bs (entryR (tx s)).1.name), .int .i64 (entryR (tx s)).1.v.a, .int .i64 (entryR (tx s)).1.v.b, .int .i64 (entryR (tx s)).1.v.c, .slice a n c], .bool (entryR (tx s)).2]) ∧ NeedsI w' (.slice a n c) (entryR (tx s)).1.needs ∧ Below w.heap.size w w' := by
  have hl1 := cut_len 58 (tx s)
  rw [tx_length] at hl1
  have HC1 := hid' (fun w => cut_any s 58 w (by omega))
  rcases h1 : cutR 58 (tx s) with ⟨hd, tl, b⟩
  rw [h1] at hl1 HC1
  simp only at hl1
  have HC2 := hid' (fun w => cut_any (bs hd) 64 w (by rw [bs_size]; omega))
  rw [tx_bs] at HC2
  have hl2 := cut_len 64 hd
  rcases h2 : cutR 64 hd with ⟨nm, vr, t⟩
  rw [h2] at hl2 HC2
  simp only at hl2
  have HV := hid' (fun w => version_any (bs vr) w)
  rw [tx_bs] at HV
  rcases h3 : versionR vr with ⟨⟨va, vb, vc⟩, k⟩
  rw [h3] at HV
  have HI := hid' (fun w => isName_any (bs nm) w (by rw [bs_size]; omega))
  rw [tx_bs] at HI
  have HN := hid' (fun w => needsD_any (bs tl) w (by rw [bs_size]; omega))
  rw [tx_bs] at HN
  have HP := hid' (en_plain h1 h2 h3)
  have HQ := hid' (en_needs h1 h2 h3)
  clear h1 h2 h3 hl1 hl2
  generalize entryR (tx s) = res at *
  generalize isNameR nm = inm at *
  generalize hres : tailR tl = tr at *
  clear hres
  go_enter Tryz.func120, Tryz.ntmps120
  go_wp2_with fail
  refine (HC1.out _).mono ?_
  rintro e w1 ⟨rfl, hb1⟩
  have hb1' := ((Below.refl _ _).alloc (Nat.le_refl _) _).trans (hb1.mono (by simp)) (B := w.heap.size) (a := w)
  go_wp2_with fail
  refine (HC2.out _).mono ?_
  rintro e w2 ⟨rfl, hb2⟩
  have hs1 : w.heap.size < w1.heap.size := by have := hb1.size; simp at this; omega
  go_wp2_with fail
  refine (HV.out _).mono ?_
  rintro e w3 ⟨rfl, hb3⟩
  have hs2 : w.heap.size < w2.heap.size := by have := hb2.size; omega
  have hs3 : w.heap.size < w3.heap.size := by have := hb3.size; omega
  have c := fun i => (((bcell hb3).1 w.heap.size i hs2).trans ((bcell hb2).1 w.heap.size i hs1)).trans ((bcell hb1).1 w.heap.size i (by simp))
  have f := fun i => (((bcell hb3).2 w.heap.size i hs2).trans ((bcell hb2).2 w.heap.size i hs1)).trans ((bcell hb1).2 w.heap.size i (by simp))
  have HT3 : Hid (tagOf w3 w.heap.size = some 179) := by
    unfold Hid
    rw [tagOf_below hb3 hs2, tagOf_below hb2 hs1, tagOf_below hb1 (by simp)]
    exact tag_new _ _ _
  have HB3 := hid' ((hb1'.trans (hb2.mono (by omega))).trans (hb3.mono (by omega)))
  clear hb1 hb2 hb3 hb1'
  have c0 := c 0; have c1 := c 1; have c2 := c 2; have c3 := c 3; have c4 := c 4
  have f0 := f 0; have f1 := f 1; have f2 := f 2; have f3 := f 3; have f4 := f 4
  simp at c0 c1 c2 c3 c4 f0 f1 f2 f3 f4
  clear c f
  go_wp2_with fail
  refine (HI.out _).mono ?_
  rintro e w4 ⟨rfl, rfl⟩
  cases b
  · have HF := hid' (HP.out rfl)
    clear HP HQ HN HI HV HC1 HC2
    go_wp2
    all_goals
      refine bodyPost_ret (v := .tuple #[.agg #[.string (bs nm), .int .i64 va, .int .i64 vb, .int .i64 vc, .slice none 0 0], .bool (t && k && inm)]) (by simp [results, Tryz.results120, go_sem, *]; try rfl) rfl ⟨none, 0, 0, by rw [HF.out], by rw [HF.out]; exact RowX.nil _ _ _ _, ?_⟩
      exact ((((((HB3.out.setCell (Nat.le_refl _) _).setCell (Nat.le_refl _) _).setCell (Nat.le_refl _) _).setCell (Nat.le_refl _) _).setCell (Nat.le_refl _) _).alloc (by simp; omega) _).alloc (by simp; omega) _
  · have HF := hid' (HQ.out rfl)
    clear HP HQ HI HV HC1 HC2
    go_wp2_with fail
    refine (HN.out _).mono ?_
    rintro e w5 ⟨na, nn, nc, rfl, hnd, hb5⟩
    have hs5 : w3.heap.size + 2 ≤ w5.heap.size := by have := hb5.size; simp at this; omega
    have hbA := (((Below.refl w3.heap.size w3).alloc (Nat.le_refl _) (.cells #[.int .i64 va, .int .i64 vb, .int .i64 vc] 177)).alloc (by simp) (.cells #[.string (bs nm), .int .i64 va, .int .i64 vb, .int .i64 vc, .slice none 0 0] 179)).trans (hb5.mono (by simp; omega))
    have c := fun i => (bcell hbA).1 w.heap.size i hs3
    have f := fun i => (bcell hbA).2 w.heap.size i hs3
    have d := fun i => (bcell hb5).1 (w3.heap.size + 1) i (by simp)
    have h := fun i => (bcell hb5).2 (w3.heap.size + 1) i (by simp)
    have e0 := c 0; have e1 := c 1; have e2 := c 2; have e3 := c 3; have e4 := c 4
    have g0 := f 0; have g1 := f 1; have g2 := f 2; have g3 := f 3; have g4 := f 4
    have d0 := d 0; have d1 := d 1; have d2 := d 2; have d3 := d 3; have d4 := d 4
    have h0 := h 0; have h1 := h 1; have h2 := h 2; have h3 := h 3; have h4 := h 4
    rw [c0] at e0; rw [c1] at e1; rw [c2] at e2; rw [c3] at e3; rw [c4] at e4
    rw [f0] at g0; rw [f1] at g1; rw [f2] at g2; rw [f3] at g3; rw [f4] at g4
    simp at d0 d1 d2 d3 d4 h0 h1 h2 h3 h4
    have t1 : tagOf w5 (w3.heap.size + 1) = some 179 := by
      rw [tagOf_below hb5 (by simp)]
      have := tag_new (w3.alloc (.cells #[.int .i64 va, .int .i64 vb, .int .i64 vc] 177)) #[.string (bs nm), .int .i64 va, .int .i64 vb, .int .i64 vc, .slice none 0 0] 179
      simpa using this
    have t0 : tagOf w5 w.heap.size = some 179 := by rw [tagOf_below hbA hs3]; exact HT3.out
    have HNI : Hid (∀ y x0 x1 x2 x3 x4, NeedsI ((((((w5.setCell ⟨w3.heap.size + 1, 4, none⟩ y).setCell ⟨w.heap.size, 0, none⟩ x0).setCell ⟨w.heap.size, 1, none⟩ x1).setCell ⟨w.heap.size, 2, none⟩ x2).setCell ⟨w.heap.size, 3, none⟩ x3).setCell ⟨w.heap.size, 4, none⟩ x4) (.slice na nn nc) tr.1) := fun y x0 x1 x2 x3 x4 => by
      have ne : ∀ W b, tagOf W b = some 179 → tagOf W b ≠ some 135 := fun W b h => by rw [h]; decide
      refine NeedsI.set (NeedsI.set (NeedsI.set (NeedsI.set (NeedsI.set (NeedsI.set hnd (ne _ _ t1)) (ne _ _ ?_)) (ne _ _ ?_)) (ne _ _ ?_)) (ne _ _ ?_)) (ne _ _ ?_) <;> simp only [tag_set] <;> exact t0
    have HB5 := hid' (HB3.out.trans (hbA.mono (by omega)))
    have hsz : w.heap.size ≠ w3.heap.size + 1 := by omega
    have hsz2 : w3.heap.size + 1 ≠ w.heap.size := by omega
    have hs6 : w3.heap.size + 1 < w5.heap.size := by omega
    have hs7 : w.heap.size < w5.heap.size := by omega
    clear c f d h c0 c1 c2 c3 c4 f0 f1 f2 f3 f4 hb5 hbA hnd t0 t1 HT3
    obtain ⟨trn, trb⟩ := tr
    simp only at HF HNI ⊢
    go_wp2
    all_goals
      refine bodyPost_ret (v := .tuple #[.agg #[.string (bs nm), .int .i64 va, .int .i64 vb, .int .i64 vc, .slice na nn nc], .bool (t && k && (inm && trb))]) (by simp [results, Tryz.results120, go_sem, *]; try rfl) rfl ⟨na, nn, nc, by rw [HF.out], by rw [HF.out]; exact HNI.out _ _ _ _ _ _, ?_⟩
      exact (((((HB5.out.setCell (by simp only; omega) _).setCell (Nat.le_refl _) _).setCell (Nat.le_refl _) _).setCell (Nat.le_refl _) _).setCell (Nat.le_refl _) _).setCell (Nat.le_refl _) _

end Hst
end Go.Proofs.YtecocheolbkneaaGreatDoor
