/- Dallnil, Dbuildw -/
import Derived.Test.YtecocheolbkneaaGreatDoorW21
import Derived.Test.YtecocheolbkneaaGreatDoorW22
import Derived.Laws.AppendOwnNone
namespace Go.Proofs.YtecocheolbkneaaGreatDoor
open Go.RowKit
namespace Hst
set_option maxRecDepth 100000

attribute [local go_sem ↓] Go.wp_at_zero Go.wp_at_succ

set_option maxHeartbeats 4000000 in
theorem all_nil_any (b : Nat) (s : SiteD) (a' : Option Addr) (cap' : Nat) (p : PackD) (w : World) (hs : SiteAt w b s) (hl : PacksR w a' 1 cap' [p]) (hof : p.of < s.stock.length) (hne : s.stock[p.of].needs = []) :
    Calls Tryz.prog 97 #[.pointer (some ⟨b, 0, none⟩), .slice none 0 0, .slice a' 1 cap'] w fun e w' => e = .returned (.slice none 0 0) ∧ Below w.heap.size w w' := by
  have HS := hid' hs; have HL := hid' hl
  clear hs hl
  go_enter Tryz.func97, Tryz.ntmps97
  go_wp2
  go_loopw [7, 8] (fun v i wr => v = .slice none 0 0 ∧ i = .int .i64 0 ∧ Below w.heap.size w wr) (fun _ _ _ => 0)
  case atStart => exact ⟨rfl, rfl, Below.refl _ _⟩
  case round =>
    obtain ⟨rfl, rfl, hbel⟩ := hrel
    go_wp2
    go_loopw [7, 9] (fun v i wr => ∃ k : Nat, k ≤ 1 ∧ v = .slice none 0 0 ∧ i = .int .i64 k ∧ Below w.heap.size w wr) (fun _ i _ => 1 - (intOf i).toNat)
    case atStart => exact ⟨0, by omega, rfl, rfl, hbel⟩
    case round =>
      clear hbel
      obtain ⟨k2, hk2, rfl, rfl, hbel⟩ := hrel
      have hz := hbel.size
      by_cases hlt2 : k2 < 1
      · obtain rfl : k2 = 0 := by omega
        obtain ⟨g, o, rfl, hg, hc⟩ := HL.out.cells (k := 0) (by simp)
        obtain ⟨c0, c1⟩ := hc 0 (by simp)
        simp only [List.getElem_cons_zero, Nat.zero_mul, Nat.add_zero] at c0 c1
        obtain ⟨sa, sn, sc, es, hsr⟩ := HS.out.stock
        have HSL := hid' hsr.len
        obtain ⟨gs, os, rfl, hgs, hcs⟩ := hsr.cells hof
        obtain ⟨na, nn, nc, q4, hnr⟩ := (hcs p.of hof).2.2.2.2
        have hnn : nn = 0 := by have := hnr.1; rw [hne] at this; simpa using this
        subst hnn
        have hpo := hof
        generalize p.of = mo at *
        have j2 : (0 : Int) ≤ (mo : Int) := by omega
        have j3 : (mo : Int) < (sn : Int) := by have h1 := HSL.out; omega
        have d1 := (hbel.cell (p := ⟨g, o + 1, none⟩) hg).trans c1
        have d2 := (hbel.cell (p := ⟨b, 0, none⟩) HS.out.lt).trans es
        have d3 := (hbel.cell (p := ⟨gs, os + mo * 5 + 4, none⟩) hgs).trans q4
        clear hnr c0 c1 es q4 hcs hsr hc
        go_wp2
        go_region_held3 (fun w' => w'.cell? ⟨b, 0, none⟩ = some (.slice (some ⟨gs, os, none⟩) sn sc) ∧ w'.cell? ⟨g, o + 1, none⟩ = some (.int .i64 mo) ∧ w'.cell? ⟨gs, os + mo * 5 + 4, none⟩ = some (.slice na 0 nc)) (go_keep) (fail)
        clear d1 d2 d3
        go_wp2
        go_loopw [7, 11] (fun v i wr => v = .slice none 0 0 ∧ i = .int .i64 0 ∧ Below w.heap.size w wr) (fun _ _ _ => 0)
        case atStart => exact ⟨rfl, rfl, hbel.drew⟩
        case round =>
          clear hbel hz
          obtain ⟨rfl, rfl, hbel⟩ := hrel
          go_wp2
          go_roundw
          case rel => exact ⟨1, by omega, rfl, by go_num, hbel⟩
          case measure => simp [intOf]
      · obtain rfl : k2 = 1 := by omega
        go_wp2
        go_ret
        exact ⟨rfl, hbel⟩

end Hst
end Go.Proofs.YtecocheolbkneaaGreatDoor
namespace Go.Proofs.YtecocheolbkneaaGreatDoor
open Go.RowKit
namespace Hst
set_option maxRecDepth 100000

theorem bi_end {st : List EntryD} {tree : List PackD} {f i : Nat} {l : List PackD} {done todo : List WhoD} (h : ¬ i < todo.length) : buildI st tree (f + 1) i l done todo = (some l, 0) := by rw [buildI, List.getElem?_eq_none (by omega)]
theorem bi_step {st : List EntryD} {tree : List PackD} {f i : Nat} {l : List PackD} {done todo : List WhoD} (h : i < todo.length) (h0 : (stepD st tree l done todo todo[i]).2 = 0) : buildI st tree (f + 1) i l done todo = buildI st tree f (i + 1) (stepD st tree l done todo todo[i]).1.1 (stepD st tree l done todo todo[i]).1.2.1 (stepD st tree l done todo todo[i]).1.2.2 := by
  rw [buildI, List.getElem?_eq_getElem h]; simp only; rw [if_pos h0]
theorem bi_err {st : List EntryD} {tree : List PackD} {f i : Nat} {l : List PackD} {done todo : List WhoD} (h : i < todo.length) (h0 : ¬ (stepD st tree l done todo todo[i]).2 = 0) : buildI st tree (f + 1) i l done todo = (none, (stepD st tree l done todo todo[i]).2) := by
  rw [buildI, List.getElem?_eq_getElem h]; simp only; rw [if_neg h0]
theorem br_ok {st : List EntryD} {nd : List NeedD} {tree l : List PackD} (h : buildI st tree 1000 0 [] [] (allR st nd []) = (some l, 0)) : buildR st nd tree = (some (prunedR st nd l), 0) := by
  unfold buildR; rw [buildI_go st tree 1000 0 [] [] _ (by omega)] at h; simp only [List.drop_zero] at h; rw [h]
theorem br_err {st : List EntryD} {nd : List NeedD} {tree : List PackD} {e : Int} (h : buildI st tree 1000 0 [] [] (allR st nd []) = (none, e)) : buildR st nd tree = (none, e) := by
  unfold buildR; rw [buildI_go st tree 1000 0 [] [] _ (by omega)] at h; simp only [List.drop_zero] at h; rw [h]
theorem st_met {st : List EntryD} {tree l : List PackD} {d t : List WhoD} {x : WhoD} (h : metR st l x = true) : stepD st tree l d t x = ((l, d ++ [x], t), 0) := by unfold stepD; rw [if_pos h]
theorem st_none {st : List EntryD} {tree l : List PackD} {d t : List WhoD} {x : WhoD} (h : metR st l x = false) (hc : chooseR st x.n tree = none) : stepD st tree l d t x = ((l, d, t), 8) := by unfold stepD; rw [if_neg (by rw [h]; simp), hc]
theorem st_full {st : List EntryD} {tree l : List PackD} {d t : List WhoD} {x : WhoD} {k : Nat} (h : metR st l x = false) (hc : chooseR st x.n tree = some k) (h40 : 40 ≤ l.length) : stepD st tree l d t x = ((l, d, t), 9) := by unfold stepD; rw [if_neg (by rw [h]; simp), hc]; simp only; rw [if_pos h40]
theorem st_lay {st : List EntryD} {tree l : List PackD} {d t : List WhoD} {x : WhoD} {k : Nat} (h : metR st l x = false) (hc : chooseR st x.n tree = some k) (h40 : ¬ 40 ≤ l.length) : stepD st tree l d t x = ((layR st l x k d, d ++ [x], t ++ allR st [] ((layR st l x k d).drop ((layR st l x k d).length - 1))), 0) := by unfold stepD; rw [if_neg (by rw [h]; simp), hc]; simp only; rw [if_neg h40]
theorem adds_ok {st : List EntryD} (hs : StD st) {p : PackD} (h : p.of < st.length) : (addsR st p).length ≤ 6 ∧ ∀ x ∈ addsR st p, x.path = p.path ∧ NeedOk x.n := by
  have e : addsR st p = (st[p.of]).needs.map fun n => (⟨p.path, n⟩ : WhoD) := by
    unfold addsR needsOf
    rw [List.getD_eq_getElem?_getD, List.getElem?_eq_getElem h]; rfl
  have hen := hs.2 st[p.of] (List.getElem_mem h)
  rw [e]
  refine ⟨by simpa using hen.1, fun x hx => ?_⟩
  simp only [List.mem_map] at hx
  obtain ⟨n, hn, rfl⟩ := hx
  exact ⟨rfl, hen.2 n hn⟩
theorem allR_ok {st : List EntryD} {nd : List NeedD} {l : List PackD} (hs : StD st) (hno : ∀ n ∈ nd, NeedOk n) (hl : ∀ p ∈ l, p.of < st.length ∧ p.path.length ≤ 50000) : ∀ x ∈ allR st nd l, WhoOk x := by
  intro x hx
  rw [allR_eq] at hx
  simp only [List.mem_append, List.mem_map, List.mem_flatMap] at hx
  rcases hx with ⟨n, hn, rfl⟩ | ⟨p, hp, hx⟩
  · exact ⟨by simp, hno n hn⟩
  · obtain ⟨h1, h2⟩ := (adds_ok hs (hl p hp).1).2 x hx
    exact ⟨by rw [h1]; exact (hl p hp).2, h2⟩
theorem flat_le {st : List EntryD} (hs : StD st) : ∀ l : List PackD, (∀ p ∈ l, p.of < st.length) → (l.flatMap (addsR st)).length ≤ 6 * l.length
  | [], _ => by simp
  | p :: r, h => by
    have h1 := (adds_ok hs (h p (by simp))).1
    have h2 := flat_le hs r (fun q hq => h q (by simp [hq]))
    simp only [List.flatMap_cons, List.length_append, List.length_cons]; omega
theorem allR_len {st : List EntryD} {nd : List NeedD} {l : List PackD} (hs : StD st) (hl : ∀ p ∈ l, p.of < st.length) : (allR st nd l).length ≤ nd.length + 6 * l.length := by
  rw [allR_eq, List.length_append, List.length_map]
  have := flat_le hs l hl
  omega
theorem packs_last {w : World} {g o n c c' : Nat} {l : List PackD} {p : PackD} (h : PacksI w (.slice (some ⟨g, o, none⟩) n c) (l ++ [p])) (hc : 1 ≤ c') : PacksR w (some ⟨g, o + l.length * 2, none⟩) 1 c' [p] := by
  obtain ⟨a', cp, e, hr, _⟩ := h
  simp at e
  obtain ⟨rfl, e2, rfl⟩ := e
  obtain ⟨g', o', e', hg, hcl⟩ := hr.at' (by simp)
  simp at e'
  obtain ⟨rfl, rfl⟩ := e'
  refine ⟨rfl, by simp [packC], hc, fun _ => ⟨g, o + l.length * 2, rfl, hg, fun i hi => ?_⟩⟩
  have h1 := hcl (l.length * 2 + i) (by simp; omega)
  have h2 : ((l ++ [p]).flatMap packC)[l.length * 2 + i]? = ([p].flatMap packC)[i]? := by
    rw [List.flatMap_append, List.getElem?_append_right (by rw [flat_len packC 2 packC_len l]; omega), flat_len packC 2 packC_len l]
    congr 1; omega
  rw [h2] at h1
  rw [← h1]
  congr 2
  omega
theorem whos_one (l : List WhoD) : ∀ u ∈ l.flatMap whoC, u.oneCell' = true := by
  intro u hu
  simp only [List.mem_flatMap] at hu
  obtain ⟨p, _, hu⟩ := hu
  exact who_one p u hu
theorem own_news {w : World} {base n g c : Nat} {xs : List Value} (h : w.ownsRow base 200 3 (.slice (some ⟨g, 0, none⟩) n c) n xs) : ∀ j u, xs[j]? = some u → w.cell? ((⟨g, 0, none⟩ : Addr).add j) = some u := by
  intro j u hu
  have hj : j < n * 3 := by
    have h1 := h.1
    obtain ⟨h3, _⟩ := List.getElem?_eq_some_iff.1 hu
    omega
  have e2 : (⟨g, 0, none⟩ : Addr).add j = ⟨g, j, none⟩ := by unfold Addr.add; by_cases h : j = 0 <;> simp [h]
  rw [e2, World.ownsRow.cellAt h j hj, hu]
/-- The three rows of a state, in memory. -/
structure QAt (w : World) (B : Nat) (v8 v9 v10 : Value) (q : List PackD × List WhoD × List WhoD) : Prop where
  l : PacksI w v8 q.1
  l0 : q.1 = [] → v8 = .slice none 0 0
  d : w.ownsRow B 200 3 v9 q.2.1.length (q.2.1.flatMap whoC)
  t : w.ownsRow B 200 3 v10 q.2.2.length (q.2.2.flatMap whoC)
  ne : ∀ z, v9.ownBlock = some z → v10.ownBlock ≠ some z
theorem QAt.below {w w' : World} {B : Nat} {v8 v9 v10 : Value} {q : List PackD × List WhoD × List WhoD} (h : QAt w B v8 v9 v10 q) (hb : Below w.heap.size w w') : QAt w' B v8 v9 v10 q :=
  ⟨RowX.below h.l hb, h.l0, own_below h.d hb, own_below h.t hb, h.ne⟩

attribute [local go_sem ↓] Go.wp_at_zero Go.wp_at_succ

set_option maxHeartbeats 8000000 in
theorem buildD_any (b : Nat) (s : SiteD) (nv : Value) (nd : List NeedD) (tv : Value) (tree : List PackD) (w : World) (hs : DAt w b s) (hn : NeedsI w nv nd) (ht : PacksI w tv tree) (hst : StD s.stock) (hnl : nd.length ≤ 6) (hno : ∀ n ∈ nd, NeedOk n) (htl : tree.length ≤ 1000) (hlw : LaysWell s.stock tree nd) :
    Calls Tryz.prog 129 #[.pointer (some ⟨b, 0, none⟩), nv, tv] w fun e w' => ∃ a n c, e = .returned (.tuple #[.slice a n c, .int .i64 (buildR s.stock nd tree).2]) ∧ Below w.heap.size w w' ∧ (∀ l, (buildR s.stock nd tree).1 = some l → PacksI w' (.slice a n c) l) := by
  obtain ⟨i0, hi, iz0, iz1, iz2⟩ := info_parts info_who
  obtain ⟨na, nc, rfl⟩ := RowX.form hn
  obtain ⟨ta, tc, rfl⟩ := RowX.form ht
  have HAL := hid' (all_any b s na nd.length nc nd none 0 0 [] w (DAt.site hs) (NeedsI.r hn) (by omega) ⟨rfl, by simp, Nat.le_refl _, fun h => absurd h (Nat.lt_irrefl _)⟩ (by omega) (by simp) (fun e he => by have := (hst.2 e he).1; omega))
  have HS := hid' hs; have HN := hid' hn; have HT := hid' ht; have HST := hid' hst; have HLW := hid' hlw
  have BO := hid' (fun l => br_ok (st := s.stock) (nd := nd) (tree := tree) (l := l))
  have BE := hid' (fun e => br_err (st := s.stock) (nd := nd) (tree := tree) (e := e))
  have HQ0 : Hid (QOk s.stock ([], [], allR s.stock nd [])) := by
    refine ⟨by simp, by simp, ?_, fun x hx => ?_, by simp⟩
    · simp [allR]; omega
    · simp only [allR, List.flatMap_nil, List.append_nil, List.mem_map] at hx
      obtain ⟨n, hn', rfl⟩ := hx
      exact ⟨by simp, hno n hn'⟩
  have HR0 : Hid (runD s.stock tree nd 0 = some ([], [], allR s.stock nd [])) := rfl
  generalize buildR s.stock nd tree = res at *
  generalize hal : allR s.stock nd [] = al at *
  have HALL := hid' hal
  clear hs hn ht hst hlw hal
  go_enter Tryz.func129, Tryz.ntmps129
  go_wp2_with fail
  refine HAL.out.mono ?_
  rintro e w1 ⟨wv, rfl, hown1, hb1⟩
  have HB1 := hid' hb1
  have HO1 := hid' hown1
  clear hown1 hb1
  go_wp2
  go_loopw [8, 9, 10, 11] (fun v8 v9 v10 v11 wr => ∃ (i : Nat) (q : List PackD × List WhoD × List WhoD), i ≤ q.2.2.length ∧ q.2.2.length ≤ 246 ∧ v11 = .int .i64 i ∧ Below w.heap.size w wr ∧ Hid (QAt wr w.heap.size v8 v9 v10 q ∧ QOk s.stock q ∧ runD s.stock tree nd i = some q ∧ buildI s.stock tree 1000 0 [] [] al = buildI s.stock tree (1000 - i) i q.1 q.2.1 q.2.2 ∧ q.2.1.length ≤ i)) (fun _ _ _ i _ => 1000 - (intOf i).toNat)
  case atStart => exact ⟨0, ([], [], al), Nat.zero_le _, by have := HQ0.out.todo; simp at this ⊢; omega, rfl, HB1.out, ⟨⟨RowX.nil _ _ _ _, fun _ => rfl, World.ownsRow_nil _ _ _ _, HO1.out, fun z hz => by simp [Value.ownBlock] at hz⟩, HQ0.out, HR0.out, rfl, by simp⟩⟩
  case round =>
    obtain ⟨i, q, hiq, hq2, rfl, hbel, hall⟩ := hrel
    obtain ⟨l, done, todo⟩ := q
    simp only at hiq hq2
    have HQA := hid' hall.out.1; have HQO := hid' hall.out.2.1; have HRU := hid' hall.out.2.2.1; have HEQ := hid' hall.out.2.2.2.1; have HDL := hid' hall.out.2.2.2.2
    simp only at HEQ HDL
    have hz := hbel.size
    obtain ⟨la, lc, rfl⟩ := RowX.form HQA.out.l
    obtain ⟨da, dc, rfl⟩ := own_slice HQA.out.d
    obtain ⟨oa, oc, rfl⟩ := own_slice HQA.out.t
    have hlen : l.length ≤ 40 := HQO.out.len
    clear hall
    by_cases hlt : i < todo.length
    · have hk : 1000 - i = (999 - i) + 1 := by omega
      obtain ⟨g, o, cap', hv, hg, hc⟩ := (RowX.of_own (f := whoC) HQA.out.t).whoD hlt
      simp at hv
      obtain ⟨rfl, rfl⟩ := hv
      obtain ⟨c0, c1, c2⟩ := hc i hlt
      have hxt := HQO.out.tw todo[i] (List.getElem_mem hlt)
      have HXM := hid' (List.getElem_mem hlt)
      have HXI : Hid (todo[i]? = some todo[i]) := List.getElem?_eq_getElem hlt
      have S1 := hid' (bi_step (st := s.stock) (tree := tree) (f := 999 - i) (l := l) (done := done) hlt)
      have S2 := hid' (bi_err (st := s.stock) (tree := tree) (f := 999 - i) (l := l) (done := done) hlt)
      rw [hk] at HEQ
      have hba := (Below.refl wr.heap.size wr).alloc (Nat.le_refl _) (.cells #[.string (bs todo[i].path), .string (bs todo[i].n.name), .string (bs todo[i].n.rng)] 200)
      have HSB := hid' ((HS.out.below hbel).below hba)
      have HQB := hid' (HQA.out.below hba)
      have HBB := hid' (hbel.trans (hba.mono hz))
      have HTB := hid' (RowX.below (RowX.below HT.out hbel) hba)
      have HMT := hid' (met_any b s la l.length lc l todo[i] _ (DAt.site HSB.out) (PacksI.r HQB.out.l) (by omega) (by have := hxt.1; simp only at this; omega) (by have := hxt.2.1; omega) hxt.2.2 (fun p hp => (HQO.out.of p hp).1))
      have hxw : WhoOk todo[i] := ⟨by have := hxt.1; simp only at this; omega, hxt.2⟩
      have HXW := hid' hxw
      clear hc hba hxt hxw hk
      generalize todo[i] = x at *
      obtain ⟨xp, xn, xr⟩ := x
      simp only at c0 c1 c2 HSB HQB HBB HTB HMT
      have q0 : (wr.alloc (.cells #[.string (bs xp), .string (bs xn), .string (bs xr)] 200)).cell? ⟨wr.heap.size, 0, none⟩ = some (.string (bs xp)) := by simp
      have q1 : (wr.alloc (.cells #[.string (bs xp), .string (bs xn), .string (bs xr)] 200)).cell? ⟨wr.heap.size, 1, none⟩ = some (.string (bs xn)) := by simp
      have q2 : (wr.alloc (.cells #[.string (bs xp), .string (bs xn), .string (bs xr)] 200)).cell? ⟨wr.heap.size, 2, none⟩ = some (.string (bs xr)) := by simp
      have hsz : (wr.alloc (.cells #[.string (bs xp), .string (bs xn), .string (bs xr)] 200)).heap.size = wr.heap.size + 1 := by simp
      go_wp2_with fail
      refine HMT.out.mono ?_
      rintro e w2 ⟨rfl, hb2⟩
      have hcc := (bcell hb2).1
      have p0 := (hcc wr.heap.size 0 (by simp)).trans q0
      have p1 := (hcc wr.heap.size 1 (by simp)).trans q1
      have p2 := (hcc wr.heap.size 2 (by simp)).trans q2
      have hz2 : wr.heap.size < w2.heap.size := by have := hb2.size; simp at this; omega
      have HS2 := hid' (HSB.out.below hb2)
      have HQ2 := hid' (HQB.out.below hb2)
      have HB2 := hid' (HBB.out.trans (hb2.mono (by simp; omega)))
      have HT2 := hid' (RowX.below HTB.out hb2)
      clear hb2 hcc q0 q1 q2 hsz c0 c1 c2
      generalize hmt : metR s.stock l ⟨xp, xn, xr⟩ = mt
      have HMT2 := hid' hmt
      clear hmt HMT
      go_upto_if 35 with fail
      go_cut [8, 10] (fun v8 v10 wc => ∃ (l' : List PackD) (t' : List WhoD) (a8 : Option Addr) (n8 c8 : Nat) (a10 : Option Addr) (n10 c10 : Nat), v8 = .slice a8 n8 c8 ∧ v10 = .slice a10 n10 c10 ∧ Below w.heap.size w wc ∧ wr.heap.size < wc.heap.size ∧ wc.cell? ⟨wr.heap.size, 0, none⟩ = some (.string (bs xp)) ∧ wc.cell? ⟨wr.heap.size, 1, none⟩ = some (.string (bs xn)) ∧ wc.cell? ⟨wr.heap.size, 2, none⟩ = some (.string (bs xr)) ∧ Hid (QAt wc w.heap.size (.slice a8 n8 c8) (.slice da done.length dc) (.slice a10 n10 c10) (l', done, t') ∧ stepD s.stock tree l done todo ⟨xp, xn, xr⟩ = ((l', done ++ [⟨xp, xn, xr⟩], t'), 0) ∧ todo.length ≤ t'.length))
      case first =>
        cases mt
        · have hmt := HMT2.out
          have HCH := hid' (chooseD_any b s ⟨xn, xr⟩ (.slice ta tree.length tc) tree w2 HS2.out HT2.out htl (by have := HST.out.1; omega) HXW.out.2)
          rcases hch : chooseR s.stock ⟨xn, xr⟩ tree with _ | kk
          · have h1 := st_none (d := done) (t := todo) (x := ⟨xp, xn, xr⟩) hmt hch
            have HR : Hid (res = (none, 8)) := by
              unfold Hid
              refine BE.out 8 ?_
              rw [HEQ.out, S2.out (by rw [h1]; simp), h1]
            rw [hch] at HCH
            clear hmt hch h1 S1 S2
            simp only [Bool.not_false]
            go_wp2_with fail
            refine HCH.out.mono ?_
            rintro e w3 ⟨rfl, hb3⟩
            have HB3 := hid' (HB2.out.trans (hb3.mono (by omega)))
            clear hb3
            simp only [idx]
            go_wp2
            go_ret2
            exact ⟨none, 0, 0, by rw [HR.out]; rfl, HB3.out, fun l' h => by rw [HR.out] at h; simp at h⟩
          · rw [hch] at HCH
            simp only [Bool.not_false]
            go_wp2_with fail
            refine HCH.out.mono ?_
            rintro e w3 ⟨rfl, hb3⟩
            have hcc := (bcell hb3).1
            have r0 := (hcc wr.heap.size 0 hz2).trans p0
            have r1 := (hcc wr.heap.size 1 hz2).trans p1
            have r2 := (hcc wr.heap.size 2 hz2).trans p2
            have hz3 : wr.heap.size < w3.heap.size := by have := hb3.size; omega
            have HS3 := hid' (HS2.out.below hb3)
            have HQ3 := hid' (HQ2.out.below hb3)
            have HB3 := hid' (HB2.out.trans (hb3.mono (by omega)))
            have hk0 : ¬ (kk : Int) < 0 := by omega
            clear hb3 hcc p0 p1 p2
            simp only [idx]
            by_cases h40 : 40 ≤ l.length
            · have h1 := st_full (d := done) (t := todo) (x := ⟨xp, xn, xr⟩) hmt hch h40
              have HR : Hid (res = (none, 9)) := by
                unfold Hid
                refine BE.out 9 ?_
                rw [HEQ.out, S2.out (by rw [h1]; simp), h1]
              have h40' : (40 : Int) ≤ (l.length : Int) := by omega
              clear hmt hch h1 S1 S2
              go_wp2
              go_ret2
              exact ⟨none, 0, 0, by rw [HR.out]; rfl, HB3.out, fun l' h => by rw [HR.out] at h; simp at h⟩
            · have h1 := st_lay (d := done) (t := todo) (x := ⟨xp, xn, xr⟩) hmt hch h40
              have hlw := HLW.out i _ _ kk HRU.out HXI.out hmt hch h40
              simp only at hlw
              have h40' : ¬ (40 : Int) ≤ (l.length : Int) := by omega
              have hkl := chooseR_lt hch
              have HLY := hid' (layD_any b s (.slice la l.length lc) l ⟨xp, xn, xr⟩ kk (.slice da done.length dc) done w3 HS3.out HQ3.out.l HQ3.out.l0 (by omega) (RowX.of_own HQ3.out.d) (by have := HDL.out; omega) HXW.out HQO.out.dw hkl (fun p hp => (HQO.out.of p hp).1) (by have h2 := foldersR_len xp; have h3 := HXW.out.1; simp only at h3 ⊢; omega))
              have HSTP := hid' h1
              have HLL := hid' hlw
              have HKL := hid' hkl
              clear hmt hch h1 hlw hkl S1 S2
              go_wp2_with fail
              refine HLY.out.mono ?_
              rintro e w4 ⟨v4, rfl, hin4, hb4⟩
              obtain ⟨pa, pc, hpf⟩ := RowX.form hin4
              rw [HLL.out] at hpf
              subst hpf
              obtain ⟨f, hf, el, ed⟩ := lay_last HLL.out
              have HED := hid' ed
              have hin4' := hin4
              rw [el] at hin4'
              have hpos : l.length < (l ++ [(⟨joinR f xn, kk⟩ : PackD)]).length := by simp
              obtain ⟨g4, o4, c4, hv4, hg4, _⟩ := RowX.packs hin4' hpos
              simp at hv4
              obtain ⟨rfl, rfl⟩ := hv4
              have hcap4 : l.length + 1 ≤ pc := by
                obtain ⟨a', cp, e', hr, _⟩ := hin4'
                simp at e'
                obtain ⟨_, rfl⟩ := e'
                have := hr.cap
                simpa using this
              have HS4 := hid' (HS3.out.below hb4)
              have HQ4 := hid' (HQ3.out.below hb4)
              have HB4 := hid' (HB3.out.trans (hb4.mono (by omega)))
              have hcc := (bcell hb4).1
              have s0 := (hcc wr.heap.size 0 hz3).trans r0
              have s1 := (hcc wr.heap.size 1 hz3).trans r1
              have s2 := (hcc wr.heap.size 2 hz3).trans r2
              have hz4 : wr.heap.size < w4.heap.size := by have := hb4.size; omega
              have HAL4 := hid' (fun c' hc' => all_any b s none 0 0 [] (some ⟨g4, o4 + l.length * 2, none⟩) 1 c' [⟨joinR f xn, kk⟩] w4 (DAt.site HS4.out) ⟨rfl, by simp, Nat.le_refl _, fun h => absurd h (Nat.lt_irrefl _)⟩ (by omega) (packs_last hin4' hc') (by omega) (fun p hp => by simp only [List.mem_singleton] at hp; subst hp; exact HKL.out) (fun e he => by have := (HST.out.2 e he).1; omega))
              have HNIL := hid' (fun c' hc' hne => all_nil_any b s (some ⟨g4, o4 + l.length * 2, none⟩) c' ⟨joinR f xn, kk⟩ w4 (DAt.site HS4.out) (packs_last hin4' hc') HKL.out hne)
              have HONE := hid' (allR_one (st := s.stock) (p := ⟨joinR f xn, kk⟩) HKL.out)
              have HI4 := hid' hin4
              have HMR : Hid (stepD s.stock tree l done todo ⟨xp, xn, xr⟩ = ((layR s.stock l ⟨xp, xn, xr⟩ kk done, done ++ [⟨xp, xn, xr⟩], todo ++ allR s.stock [] [⟨joinR f xn, kk⟩]), 0)) := by unfold Hid; rw [HSTP.out, ed]
              have HML := hid' (allR_len (nd := []) HST.out (fun p (hp : p ∈ [(⟨joinR f xn, kk⟩ : PackD)]) => by simp only [List.mem_singleton] at hp; subst hp; exact HKL.out))
              have HN0 : Hid (layR s.stock l ⟨xp, xn, xr⟩ kk done ≠ []) := by unfold Hid; rw [el]; simp
              generalize allR s.stock [] [⟨joinR f xn, kk⟩] = mr at *
              have i2 : IntKind.i64.wrap ((l.length : Int) + 1 - 1) = (l.length : Int) := by rw [IntKind.wrap_i64]; omega
              have i6 : IntKind.i64.wrap (l.length : Int) = (l.length : Int) := by rw [IntKind.wrap_i64]; omega
              have i7 : (0 : Int) ≤ (l.length : Int) := by omega
              have i8 : (l.length : Int) ≤ (l.length : Int) + 1 := by omega
              have i9 : (l.length : Int) + 1 ≤ (pc : Int) := by omega
              clear hin4 hin4' hb4 hcc el ed hf hpos r0 r1 r2
              by_cases hnn : s.stock[kk]'HKL.out = s.stock[kk]'HKL.out ∧ (s.stock[kk]'HKL.out).needs = []
              · have HNL := hid' (HNIL.out (pc - l.length) (by omega) hnn.2)
                have hmr : mr = [] := by rw [HONE.out]; simp [hnn.2]
                clear hnn
                go_wp2_with fail
                refine HNL.out.mono ?_
                rintro e w5 ⟨rfl, hb5⟩
                have HQ5 := hid' (HQ4.out.below hb5)
                have HI5 := hid' (RowX.below HI4.out hb5)
                have HB5 := hid' (HB4.out.trans (hb5.mono (by omega)))
                have hcc := (bcell hb5).1
                have t0 := (hcc wr.heap.size 0 hz4).trans s0
                have t1 := (hcc wr.heap.size 1 hz4).trans s1
                have t2 := (hcc wr.heap.size 2 hz4).trans s2
                have hz5 : wr.heap.size < w5.heap.size := by have := hb5.size; omega
                have hB5 := HB5.out.size
                have hml := HML.out
                simp only [List.length_nil, List.length_singleton] at hml
                clear hb5 hcc s0 s1 s2
                subst hmr
                have HQ6 : Hid (QAt w5 w.heap.size (.slice (some ⟨g4, o4, none⟩) (l.length + 1) pc) (.slice da done.length dc) (.slice (some ⟨g, o, none⟩) todo.length oc) (layR s.stock l ⟨xp, xn, xr⟩ kk done, done, todo ++ [])) := ⟨HI5.out, fun h => absurd h HN0.out, HQ5.out.d, by rw [List.append_nil]; exact HQ5.out.t, HQ5.out.ne⟩
                have hown5 := HQ5.out.t
                simp only at hown5
                go_wp2_with (first | (at_builtin; refine wpList_append_own_none rfl _ _ 150 rfl w.heap.size 200 i0 3 Tryz.underlying150 hi _ _ _ rfl hown5 rfl ?_))
                go_meet
                exact ⟨layR s.stock l ⟨xp, xn, xr⟩ kk done, todo ++ [], some ⟨g4, o4, none⟩, l.length + 1, pc, some ⟨g, o, none⟩, todo.length, oc, rfl, rfl, HB5.out, hz5, t0, t1, t2, ⟨HQ6.out, HMR.out, by simp⟩⟩
              · have hmr : mr ≠ [] := by
                  rw [HONE.out]
                  intro h
                  exact hnn ⟨rfl, by simpa using h⟩
                clear hnn
                go_wp2_with fail
                refine (HAL4.out (pc - l.length) (by omega)).mono ?_
                rintro e w5 ⟨mv, rfl, hownm, hb5⟩
                obtain ⟨ma, mc, rfl⟩ := own_slice hownm
                have HQ5 := hid' (HQ4.out.below hb5)
                have HI5 := hid' (RowX.below HI4.out hb5)
                have HB5 := hid' (HB4.out.trans (hb5.mono (by omega)))
                have hcc := (bcell hb5).1
                have t0 := (hcc wr.heap.size 0 hz4).trans s0
                have t1 := (hcc wr.heap.size 1 hz4).trans s1
                have t2 := (hcc wr.heap.size 2 hz4).trans s2
                have hz5 : wr.heap.size < w5.heap.size := by have := hb5.size; omega
                have hB5 := HB5.out.size
                have hml := HML.out
                simp only [List.length_nil, List.length_singleton] at hml
                clear hb5 hcc s0 s1 s2
                have hmp : 0 < mr.length := List.length_pos_iff.2 hmr
                obtain ⟨gm, cm, hvm, hgm1, hgm2⟩ := form_any hownm hmp
                simp at hvm
                obtain ⟨rfl, rfl⟩ := hvm
                have hown5 := HQ5.out.t
                simp only at hown5
                go_wp2_with (first | (at_builtin; refine wpList_append_lies _ rfl _ _ 150 rfl w.heap.size 200 i0 (.agg #[.string ByteArray.empty, .string ByteArray.empty, .string ByteArray.empty]) 3 48 Tryz.underlying150 hi iz0 iz1 iz2 rfl (by omega) _ _ _ rfl hown5 ⟨gm, 0, none⟩ mr.length mc (mr.flatMap whoC) rfl (flat_len whoC 3 whoC_len mr) (own_news hownm) (whos_one mr) hmp (by unfold maxLen; omega) (by omega) (by omega) w5.heap.size rfl ?_; intro g6 cap6 w6 hown6 hgrow6 hat6 hlt6))
                have hba0 := hownm
                have HL6 := hid' (RowX.grown HI5.out hgrow6 hown5 (by decide))
                have HD6 := hid' (HQ5.out.d.kept hgrow6 (by
                  rcases ho : (Value.slice da done.length dc).ownBlock with _ | z
                  · exact .inl rfl
                  · exact .inr (HQ5.out.ne z ho).symm))
                have hne6 : ∀ z, (Value.slice da done.length dc).ownBlock = some z → (Value.slice (some ⟨g6, 0, none⟩) (todo.length + mr.length) cap6).ownBlock ≠ some z := by
                  intro z hz' e'
                  simp [Value.ownBlock] at e'
                  subst e'
                  rcases hat6 with h | h
                  · exact HQ5.out.ne g6 hz' h
                  · have := (HQ5.out.d.lt _ hz').2; omega
                have et1 : (todo ++ mr).flatMap whoC = todo.flatMap whoC ++ mr.flatMap whoC := by simp
                have et2 : (todo ++ mr).length = todo.length + mr.length := by simp
                have HT6 : Hid (w6.ownsRow w.heap.size 200 3 (.slice (some ⟨g6, 0, none⟩) (todo.length + mr.length) cap6) (todo ++ mr).length ((todo ++ mr).flatMap whoC)) := by unfold Hid; rw [et1, et2]; exact hown6
                have HQ6 : Hid (QAt w6 w.heap.size (.slice (some ⟨g4, o4, none⟩) (l.length + 1) pc) (.slice da done.length dc) (.slice (some ⟨g6, 0, none⟩) (todo.length + mr.length) cap6) (layR s.stock l ⟨xp, xn, xr⟩ kk done, done, todo ++ mr)) := ⟨HL6.out, fun h => absurd h HN0.out, HD6.out, HT6.out, hne6⟩
                have HB6 := hid' (HB5.out.grown hgrow6 hB5 (fun z hz' => (HQ5.out.t.lt z hz').1))
                have hfar := grow_far hgrow6 (b := wr.heap.size) hz5 (fun z hz' => by have h1 : some g = some z := hz'; simp at h1; omega)
                have u0 := (hfar 0).trans t0
                have u1 := (hfar 1).trans t1
                have u2 := (hfar 2).trans t2
                have hz6 : wr.heap.size < w6.heap.size := by have := hgrow6.size; omega
                clear hown6 hgrow6 hat6 hne6 et1 et2 hfar hown5 hba0 hownm
                go_meet
                exact ⟨layR s.stock l ⟨xp, xn, xr⟩ kk done, todo ++ mr, some ⟨g4, o4, none⟩, l.length + 1, pc, some ⟨g6, 0, none⟩, todo.length + mr.length, cap6, rfl, rfl, HB6.out, hz6, u0, u1, u2, ⟨HQ6.out, HMR.out, by simp⟩⟩
        · have hmt := HMT2.out
          have h1 := st_met (tree := tree) (d := done) (t := todo) hmt
          have HH := hid' h1
          clear hmt h1
          simp only [Bool.not_true]
          go_wp2
          go_meet
          exact ⟨l, todo, la, l.length, lc, some ⟨g, o, none⟩, todo.length, oc, rfl, rfl, HB2.out, hz2, p0, p1, p2, ⟨HQ2.out, HH.out, Nat.le_refl _⟩⟩
      case rest =>
        obtain ⟨l', t', a8, n8, c8, a10, n10, c10, rfl, rfl, hb5, hz5, d0, d1, d2, hh⟩ := hcut
        obtain ⟨X5, rfl⟩ : ∃ X5, X5 = wc := ⟨_, rfl⟩
        have HQ5 := hid' hh.out.1
        have HST5 := hid' hh.out.2.1
        have HTL5 := hid' hh.out.2.2
        have hown5 := HQ5.out.d
        simp only at hown5
        have hdl := HDL.out
        have hb5z := hb5.size
        clear hh
        go_wp2_with (first | (at_builtin; refine wpList_append_lies _ rfl _ _ 150 rfl w.heap.size 200 i0 (.agg #[.string ByteArray.empty, .string ByteArray.empty, .string ByteArray.empty]) 3 48 Tryz.underlying150 hi iz0 iz1 iz2 rfl (by omega) _ _ _ rfl (hown5.alloc _) ⟨X5.heap.size, 0, none⟩ 1 1 [.string (bs xp), .string (bs xn), .string (bs xr)] rfl rfl (by first | exact news_three _ _ _ _ _) (who_one ⟨xp, xn, xr⟩) (by omega) (by unfold maxLen; omega) (by omega) (by simp; omega) (X5.heap.size + 1) (by simp) ?_; intro g6 cap6 w6 hown6 hgrow6 hat6 hlt6))
        have R := step_gen2 whoC (x := ⟨xp, xn, xr⟩) rfl hown5 hb5 ((Below.refl _ _).alloc (Nat.le_refl _) _) hown6 hgrow6
        have hba6 := (Below.refl X5.heap.size X5).alloc (Nat.le_refl _) (.cells #[.string (bs xp), .string (bs xn), .string (bs xr)] 200)
        have hne6 : ∀ z, (Value.slice (some ⟨g6, 0, none⟩) (done.length + 1) cap6).ownBlock = some z → (Value.slice a10 n10 c10).ownBlock ≠ some z := by
          intro z hz' e'
          simp [Value.ownBlock] at hz'
          subst hz'
          rcases hat6 with h | h
          · exact HQ5.out.ne g6 h e'
          · have := (HQ5.out.t.lt _ e').2; omega
        have HT6 := hid' ((own_below HQ5.out.t hba6).kept hgrow6 (by
          rcases ho : (Value.slice a10 n10 c10).ownBlock with _ | z
          · exact .inl rfl
          · exact .inr (fun h => HQ5.out.ne z h.symm ho)))
        have HL6 := hid' (RowX.grown (RowX.below HQ5.out.l hba6) hgrow6 (own_below hown5 hba6) (by decide))
        have HQ6 : Hid (QAt w6 w.heap.size (.slice a8 n8 c8) (.slice (some ⟨g6, 0, none⟩) (done.length + 1) cap6) (.slice a10 n10 c10) (l', done ++ [⟨xp, xn, xr⟩], t')) := ⟨HL6.out, HQ5.out.l0, R.1, HT6.out, hne6⟩
        have HB6 := hid' R.2
        have h00 : (stepD s.stock tree l done todo ⟨xp, xn, xr⟩).2 = 0 := by rw [HST5.out]
        have HQO6 := hid' (QOk.step (tree := tree) HST.out HQO.out HXM.out h00 (fun hm k hc h40 => HLW.out i _ _ k HRU.out HXI.out hm hc h40))
        have HRU6 := hid' (runD_succ HRU.out HXI.out h00)
        have HEQ6 : Hid (buildI s.stock tree 1000 0 [] [] al = buildI s.stock tree (1000 - (i + 1)) (i + 1) l' (done ++ [⟨xp, xn, xr⟩]) t') := by
          have h1 := S1.out h00
          rw [HST5.out] at h1
          have e1 : 1000 - (i + 1) = 999 - i := by omega
          unfold Hid
          rw [HEQ.out, h1, e1]
        simp only at HQO6 HRU6
        rw [HST5.out] at HQO6 HRU6
        have hlt' : i + 1 ≤ t'.length := by have := HTL5.out; omega
        have hlt2' : t'.length ≤ 246 := by have h1 := HQO6.out.todo; have h2 := HQO6.out.len; simp only at h1 h2; omega
        have hdl' : (done ++ [(⟨xp, xn, xr⟩ : WhoD)]).length ≤ i + 1 := by rw [List.length_append, List.length_singleton]; omega
        have HDL' := hid' hdl'
        clear R hown6 hgrow6 hat6 hba6 hne6 hown5 h00 hdl hdl'
        go_wp2
        go_roundw
        case rel => exact ⟨i + 1, (l', done ++ [⟨xp, xn, xr⟩], t'), hlt', hlt2', by go_num, HB6.out, ⟨HQ6.out, HQO6.out, HRU6.out, HEQ6.out, HDL'.out⟩⟩
        case measure => simp [intOf] <;> omega
    · have hk : 1000 - i = (999 - i) + 1 := by omega
      have HR : Hid (res = (some (prunedR s.stock nd l), 0)) := by
        unfold Hid
        refine BO.out l ?_
        rw [HEQ.out, hk]; exact bi_end hlt
      have HWA : Hid (∀ x ∈ allR s.stock nd l, WhoOk x) := allR_ok HST.out hno (fun p hp => ⟨(HQO.out.of p hp).1, by have h1 := (HQO.out.of p hp).2; simp only at h1; omega⟩)
      have HPR := hid' (prunedD_any b s (.slice na nd.length nc) nd (.slice la l.length lc) l wr (HS.out.below hbel) (RowX.below HN.out hbel) HQA.out.l (by omega) (by omega) (fun p hp => (HQO.out.of p hp).1) (fun e he => by have := (HST.out.2 e he).1; omega) HWA.out (by have := allR_len (nd := nd) HST.out (fun p hp => (HQO.out.of p hp).1); simp only at this; omega))
      clear hk
      go_wp2_with fail
      refine HPR.out.mono ?_
      rintro e w2 ⟨pv, rfl, hin2, hb2⟩
      obtain ⟨pa, pc, rfl⟩ := RowX.form hin2
      have HB2 := hid' (hbel.trans (hb2.mono hz))
      have HI2 := hid' hin2
      clear hb2 hin2
      go_wp2
      go_ret2
      refine ⟨pa, _, pc, by rw [HR.out]; rfl, HB2.out, fun l' h => ?_⟩
      rw [HR.out] at h
      simp at h
      subst h
      exact HI2.out

end Hst
end Go.Proofs.YtecocheolbkneaaGreatDoor
