/- Ptreeb, Ptreed, Pwork, Pwill, Pset -/
import Derived.Test.YtecocheolbkneaaDoorW17
import Derived.Test.YtecocheolbkneaaDoorW18
import Derived.Deep.DeepCutAuto
namespace Go.Proofs.YtecocheolbkneaaDoor
open Go.RowKit
namespace Hst
set_option maxRecDepth 100000

theorem ip_yes (l : List PkX) (f n : Tx) (k : Nat) (hk : k < l.length) (h : l[k].e.name = n) (h' : folderP l[k].path = f) : inP (l.drop k) f n = some l[k] := by
  rw [List.drop_eq_getElem_cons hk]; unfold inP; rw [List.find?_cons]; simp [h, h']
theorem ip_no (l : List PkX) (f n : Tx) (k : Nat) (hk : k < l.length) (h : ¬ (l[k].e.name = n ∧ folderP l[k].path = f)) : inP (l.drop k) f n = inP (l.drop (k + 1)) f n := by
  rw [List.drop_eq_getElem_cons hk]; unfold inP; rw [List.find?_cons]
  have : (decide (l[k].e.name = n) && decide (folderP l[k].path = f)) = false := by
    simp only [Bool.and_eq_false_iff, decide_eq_false_iff_not]
    by_cases h1 : l[k].e.name = n
    · exact .inr fun h2 => h ⟨h1, h2⟩
    · exact .inl h1
  rw [this]
theorem ip_end (l : List PkX) (f n : Tx) (k : Nat) (hk : ¬ k < l.length) : inP (l.drop k) f n = none := by
  rw [List.drop_of_length_le (by omega)]; rfl
def zeroP : PkX := ⟨[], zeroE⟩
/-- What in and Find answer: the package where there is one. -/
def Hit (o : Option PkX) (x : PkX) : Prop := (∃ a n c, x.e.needs = .slice a n c) ∧ ∀ p, o = some p → x = p
def PathsOk (l : List PkX) : Prop := ∀ p ∈ l, p.path.length ≤ 50000

set_option maxHeartbeats 2000000 in
theorem inP_any (v : Value) (l : List PkX) (f n : ByteArray) (w : World) (hl : PksIn w v l) (hn : l.length ≤ 100000) (hp : PathsOk l) :
    Calls Tryd.prog 114 #[.agg #[v], .string f, .string n] w fun e w' => ∃ x, e = .returned (.tuple #[pkXV x, .bool (inP l (tx f) (tx n)).isSome]) ∧ Below w.heap.size w w' ∧ Hit (inP l (tx f) (tx n)) x := by
  obtain ⟨a, cap, rfl⟩ := hl.1.form
  have HL := hid' hl
  have HPO := hid' hp
  clear hl hp
  go_enter Tryd.func114, Tryd.ntmps114
  go_wp2
  have hbw := ((Below.refl w.heap.size w).alloc (Nat.le_refl _) (.cells #[.slice a l.length cap] 96)).alloc (by simp) (.cells #[.string ⟨#[]⟩, .string ⟨#[]⟩, .int .i64 0, .slice none 0 0] 130)
  have e := fun i => (show ((w.alloc (.cells #[.slice a l.length cap] 96)).alloc (.cells #[.string ⟨#[]⟩, .string ⟨#[]⟩, .int .i64 0, .slice none 0 0] 130)).cell? ⟨w.heap.size + 1, i, none⟩ = #[Value.string ⟨#[]⟩, .string ⟨#[]⟩, .int .i64 0, .slice none 0 0][i]? by simp)
  have ef := fun i => (show ((w.alloc (.cells #[.slice a l.length cap] 96)).alloc (.cells #[.string ⟨#[]⟩, .string ⟨#[]⟩, .int .i64 0, .slice none 0 0] 130)).frozen? ⟨w.heap.size + 1, i, none⟩ = false by simp)
  have hsz : ((w.alloc (.cells #[.slice a l.length cap] 96)).alloc (.cells #[.string ⟨#[]⟩, .string ⟨#[]⟩, .int .i64 0, .slice none 0 0] 130)).heap.size = w.heap.size + 2 := by simp
  generalize (w.alloc (.cells #[.slice a l.length cap] 96)).alloc (.cells #[.string ⟨#[]⟩, .string ⟨#[]⟩, .int .i64 0, .slice none 0 0] 130) = W at *
  have HW := hid' hbw
  have HL1 := hid' (HL.out.below hbw)
  have HS := hid' hsz
  have HE := hid' e
  have HEF := hid' ef
  clear hbw hsz e ef
  go_loopw [13] (fun i wr => ∃ k : Nat, k ≤ l.length ∧ i = .int .i64 k ∧ Below W.heap.size W wr ∧ Hid (inP l (tx f) (tx n) = inP (l.drop k) (tx f) (tx n))) (fun i _ => l.length - (intOf i).toNat)
  case atStart => exact ⟨0, Nat.zero_le _, rfl, Below.refl _ _, rfl⟩
  case round =>
    obtain ⟨k, hk, rfl, hbel, hall⟩ := hrel
    have hz := hbel.size
    have hwz : w.heap.size + 1 < W.heap.size := by have := HS.out; omega
    have hwr : w.heap.size + 1 < wr.heap.size := by omega
    obtain ⟨hcc, hff⟩ := bcell hbel
    have d0 := (hcc (w.heap.size + 1) 0 hwz).trans (HE.out 0)
    have d1 := (hcc (w.heap.size + 1) 1 hwz).trans (HE.out 1)
    have d2 := (hcc (w.heap.size + 1) 2 hwz).trans (HE.out 2)
    have d3 := (hcc (w.heap.size + 1) 3 hwz).trans (HE.out 3)
    have g0 := (hff (w.heap.size + 1) 0 hwz).trans (HEF.out 0)
    have g1 := (hff (w.heap.size + 1) 1 hwz).trans (HEF.out 1)
    have g2 := (hff (w.heap.size + 1) 2 hwz).trans (HEF.out 2)
    have g3 := (hff (w.heap.size + 1) 3 hwz).trans (HEF.out 3)
    simp at d0 d1 d2 d3
    have HB := hid' (HW.out.trans (hbel.mono (by omega)))
    clear hcc hff
    by_cases hlt : k < l.length
    · obtain ⟨g, o, cap', hv, hg, hc⟩ := (HL1.out.below hbel).1.pks hlt
      simp at hv
      obtain ⟨rfl, rfl⟩ := hv
      obtain ⟨c0, c1, c2, c3⟩ := hc k hlt
      obtain ⟨sa, sc, hsp⟩ := (HL.out.2 l[k] (List.getElem_mem hlt)).form'
      have HFO := hid' (fun w => folder_any (bs l[k].path) w (by rw [bs_size]; have := HPO.out l[k] (List.getElem_mem hlt); omega))
      rw [tx_bs] at HFO
      clear hc
      by_cases he : l[k].e.name = tx n
      · have hb : ((bs l[k].e.name).toList == n.toList) = true := by rw [he, bs_tx]; simp
        by_cases hf : folderP l[k].path = tx f
        · have HF : Hid (inP l (tx f) (tx n) = some l[k]) := by unfold Hid; rw [hall.out, ip_yes l (tx f) (tx n) k hlt he hf]
          have hb2 : ((bs (folderP l[k].path)).toList == f.toList) = true := by rw [hf, bs_tx]; simp
          clear he hall hf
          generalize bs (folderP l[k].path) = fq at *
          generalize l[k] = x at *
          obtain ⟨xp, xn, xv, xs, xd⟩ := x
          simp only at hsp c0 c1 c2 c3 hb HFO
          subst hsp
          go_wp2_with fail
          refine (HFO.out _).mono ?_
          rintro e w1 ⟨rfl, rfl⟩
          go_wp2
          refine bodyPost_ret (v := .tuple #[.agg #[.string (bs xp), .string (bs xn), .int .i64 xv, .slice sa xd.length sc], .bool true]) (by simp [results, Tryd.results114, go_sem, *]) rfl ⟨⟨xp, xn, xv, .slice sa xd.length sc, xd⟩, by rw [HF.out]; rfl, ?_, ⟨_, _, _, rfl⟩, fun p h => by rw [HF.out] at h; simpa using h⟩
          exact ((((HB.out.setCell (by simp) _).setCell (by simp) _).setCell (by simp) _).setCell (by simp) _).alloc (by simp; omega) _
        · have HF : Hid (inP l (tx f) (tx n) = inP (l.drop (k + 1)) (tx f) (tx n)) := by unfold Hid; rw [hall.out, ip_no l (tx f) (tx n) k hlt (fun h => hf h.2)]
          have hb2 : ((bs (folderP l[k].path)).toList == f.toList) = false := by rw [tx_toList, tx_toList, tx_bs]; simp [hf]
          clear he hall hf
          generalize bs (folderP l[k].path) = fq at *
          generalize l[k] = x at *
          go_wp2_with fail
          refine (HFO.out _).mono ?_
          rintro e w1 ⟨rfl, rfl⟩
          go_wp2
          go_roundw
          case rel => exact ⟨k + 1, by omega, by go_num, hbel.alloc hz _, HF⟩
          case measure => simp [intOf] <;> omega
      · have HF : Hid (inP l (tx f) (tx n) = inP (l.drop (k + 1)) (tx f) (tx n)) := by unfold Hid; rw [hall.out, ip_no l (tx f) (tx n) k hlt (fun h => he h.1)]
        have hb : ((bs l[k].e.name).toList == n.toList) = false := by rw [tx_toList, tx_toList, tx_bs]; simp [he]
        clear he hall
        generalize l[k] = x at *
        go_wp2
        go_roundw
        case rel => exact ⟨k + 1, by omega, by go_num, hbel.alloc hz _, HF⟩
        case measure => simp [intOf] <;> omega
    · have HF : Hid (inP l (tx f) (tx n) = none) := by unfold Hid; rw [hall.out, ip_end l (tx f) (tx n) k hlt]
      go_wp2
      refine bodyPost_ret (v := .tuple #[.agg #[.string ByteArray.empty, .string ByteArray.empty, .int .i64 0, .slice none 0 0], .bool false]) (by simp [results, Tryd.results114, go_sem, *]; rfl) rfl ⟨zeroP, by rw [HF.out]; rfl, ?_, ⟨none, 0, 0, rfl⟩, fun p h => by rw [HF.out] at h; simp at h⟩
      exact (((HB.out.setCell (by simp) _).setCell (by simp) _).setCell (by simp) _).setCell (by simp) _

end Hst
end Go.Proofs.YtecocheolbkneaaDoor
namespace Go.Proofs.YtecocheolbkneaaDoor
open Go.RowKit
namespace Hst
set_option maxRecDepth 100000

theorem findP_nil (l : List PkX) (n : Tx) : findP l n [] = inP l [] n := by rw [findP_eq]; simp
theorem findP_some (l : List PkX) (n f : Tx) (h : f ≠ []) {p : PkX} (hp : inP l f n = some p) : findP l n f = some p := by
  rw [findP_eq, dif_neg h, hp]
theorem findP_none (l : List PkX) (n f : Tx) (h : f ≠ []) (hp : inP l f n = none) : findP l n f = findP l n (folderP f) := by
  rw [findP_eq, dif_neg h, hp]
def strSize : Value → Nat
  | .string s => s.size
  | _ => 0
theorem folderP_le (p : Tx) : (folderP p).length ≤ p.length := by
  by_cases h : p = []
  · subst h; simp [folderP, folderGo]
  · exact Nat.le_of_lt (folderP_lt h)

set_option maxHeartbeats 2000000 in
theorem findP_any (v : Value) (l : List PkX) (f n : ByteArray) (w : World) (hl : PksIn w v l) (hn : l.length ≤ 100000) (hp : PathsOk l) (hf : f.size ≤ 50000) :
    Calls Tryd.prog 101 #[.agg #[v], .string f, .string n] w fun e w' => ∃ x, e = .returned (.tuple #[pkXV x, .bool (findP l (tx n) (tx f)).isSome]) ∧ Below w.heap.size w w' ∧ Hit (findP l (tx n) (tx f)) x := by
  obtain ⟨a, cap, rfl⟩ := hl.1.form
  have HL := hid' hl
  have HPO := hid' hp
  clear hl hp
  go_enter Tryd.func101, Tryd.ntmps101
  go_wp2
  have hbw := ((Below.refl w.heap.size w).alloc (Nat.le_refl _) (.cells #[.slice a l.length cap] 96)).alloc (by simp) (.cells #[.string ⟨#[]⟩, .string ⟨#[]⟩, .int .i64 0, .slice none 0 0] 130)
  have e := fun i => (show ((w.alloc (.cells #[.slice a l.length cap] 96)).alloc (.cells #[.string ⟨#[]⟩, .string ⟨#[]⟩, .int .i64 0, .slice none 0 0] 130)).cell? ⟨w.heap.size + 1, i, none⟩ = #[Value.string ⟨#[]⟩, .string ⟨#[]⟩, .int .i64 0, .slice none 0 0][i]? by simp)
  have et := (show ((w.alloc (.cells #[.slice a l.length cap] 96)).alloc (.cells #[.string ⟨#[]⟩, .string ⟨#[]⟩, .int .i64 0, .slice none 0 0] 130)).cell? ⟨w.heap.size, 0, none⟩ = some (.slice a l.length cap) by simp)
  have ef := fun i => (show ((w.alloc (.cells #[.slice a l.length cap] 96)).alloc (.cells #[.string ⟨#[]⟩, .string ⟨#[]⟩, .int .i64 0, .slice none 0 0] 130)).frozen? ⟨w.heap.size + 1, i, none⟩ = false by simp)
  have hsz : ((w.alloc (.cells #[.slice a l.length cap] 96)).alloc (.cells #[.string ⟨#[]⟩, .string ⟨#[]⟩, .int .i64 0, .slice none 0 0] 130)).heap.size = w.heap.size + 2 := by simp
  generalize (w.alloc (.cells #[.slice a l.length cap] 96)).alloc (.cells #[.string ⟨#[]⟩, .string ⟨#[]⟩, .int .i64 0, .slice none 0 0] 130) = W at *
  have HW := hid' hbw
  have HL1 := hid' (HL.out.below hbw)
  have HS := hid' hsz
  have HE := hid' e
  have HET := hid' et
  have HEF := hid' ef
  clear hbw hsz e ef et
  go_loopw [8] (fun q wr => ∃ t : ByteArray, t.size ≤ f.size ∧ q = .string t ∧ Below W.heap.size W wr ∧ Hid (findP l (tx n) (tx f) = findP l (tx n) (tx t))) (fun q _ => strSize q)
  case atStart => exact ⟨f, Nat.le_refl _, rfl, Below.refl _ _, rfl⟩
  case round =>
    obtain ⟨t, ht, rfl, hbel, hall⟩ := hrel
    have hz := hbel.size
    have hwz : w.heap.size + 1 < W.heap.size := by have := HS.out; omega
    have hwr : w.heap.size + 1 < wr.heap.size := by omega
    have et := ((bcell hbel).1 w.heap.size 0 (by omega)).trans HET.out
    have hwr0 : w.heap.size < wr.heap.size := by omega
    have HIN := hid' (fun w hl => inP_any (.slice a l.length cap) l t n w hl hn HPO.out)
    have HBL := hid' hbel
    by_cases h0 : tx t = []
    · have hb : (t.toList == []) = true := by rw [tx_toList, h0]; rfl
      have hte : t = ⟨#[]⟩ := by have := bs_tx t; rw [h0] at this; exact this.symm
      have HF : Hid (findP l (tx n) (tx f) = inP l [] (tx n)) := by unfold Hid; rw [hall.out, h0, findP_nil]
      have HI := hid' (fun w hl => inP_any (.slice a l.length cap) l ⟨#[]⟩ n w hl hn HPO.out)
      have htx : tx (⟨#[]⟩ : ByteArray) = [] := rfl
      rw [htx] at HI
      clear hall h0 hte htx HIN
      go_wp2_with fail
      refine (HI.out _ (HL1.out.below hbel)).mono ?_
      rintro e w1 ⟨x, rfl, hb1, ⟨sa, sn, sc, hsp⟩, hx⟩
      obtain ⟨hcc, hff⟩ := bcell (hbel.trans (hb1.mono hz))
      have d0 := (hcc (w.heap.size + 1) 0 hwz).trans (HE.out 0)
      have d1 := (hcc (w.heap.size + 1) 1 hwz).trans (HE.out 1)
      have d2 := (hcc (w.heap.size + 1) 2 hwz).trans (HE.out 2)
      have d3 := (hcc (w.heap.size + 1) 3 hwz).trans (HE.out 3)
      have g0 := (hff (w.heap.size + 1) 0 hwz).trans (HEF.out 0)
      have g1 := (hff (w.heap.size + 1) 1 hwz).trans (HEF.out 1)
      have g2 := (hff (w.heap.size + 1) 2 hwz).trans (HEF.out 2)
      have g3 := (hff (w.heap.size + 1) 3 hwz).trans (HEF.out 3)
      simp at d0 d1 d2 d3
      have HX := hid' hx
      have HB := hid' (HW.out.trans ((hbel.trans (hb1.mono hz)).mono (by omega)))
      have hz1 : w.heap.size + 1 < w1.heap.size := by have := hb1.size; omega
      clear hcc hff hb1 hbel hx HBL
      obtain ⟨xp, xn, xv, xs, xd⟩ := x
      simp only at hsp
      subst hsp
      generalize hio : inP l [] (tx n) = io at *
      generalize hib : io.isSome = ib at *
      go_wp2
      refine bodyPost_ret (v := .tuple #[.agg #[.string (bs xp), .string (bs xn), .int .i64 xv, .slice sa sn sc], .bool ib]) (by simp [results, Tryd.results101, go_sem, *]) rfl ⟨⟨xp, xn, xv, .slice sa sn sc, xd⟩, by rw [HF.out, hib], ?_, ⟨_, _, _, rfl⟩, fun p h => HX.out p (by rw [HF.out] at h; exact h)⟩
      exact (((HB.out.setCell (by simp) _).setCell (by simp) _).setCell (by simp) _).setCell (by simp) _
    · have hb : (t.toList == []) = false := by rw [tx_toList]; exact beq_eq_false_iff_ne.2 h0
      have HFO := hid' (fun w => folder_any t w (by omega))
      have hfl := folderP_lt h0
      have hfs : (bs (folderP (tx t))).size < t.size := by rw [bs_size, ← tx_length t]; exact hfl
      rcases hin : inP l (tx t) (tx n) with _ | p
      · have HF : Hid (findP l (tx n) (tx f) = findP l (tx n) (tx (bs (folderP (tx t))))) := by unfold Hid; rw [hall.out, findP_none l (tx n) (tx t) h0 hin, tx_bs]
        rw [hin] at HIN
        clear hall h0 hfl hin
        generalize bs (folderP (tx t)) = t2 at *
        go_wp2_with fail
        refine (HIN.out _ (HL1.out.below hbel)).mono ?_
        rintro e w1 ⟨x, rfl, hb1, ⟨sa, sn, sc, hsp⟩, hx⟩
        obtain ⟨xp, xn, xv, xs, xd⟩ := x
        simp only at hsp
        subst hsp
        have HB1 := hid' (hbel.trans (hb1.mono hz))
        have hz1 := hb1.size
        clear hb1 hbel hx
        simp only [Option.isSome]
        go_wp2_with fail
        refine (HFO.out _).mono ?_
        rintro e w2 ⟨rfl, rfl⟩
        go_wp2
        go_roundw
        case rel => exact ⟨t2, by omega, rfl, HB1.out.alloc (by omega) _, HF⟩
        case measure => simp [strSize]; omega
      · have HF : Hid (findP l (tx n) (tx f) = some p) := by unfold Hid; rw [hall.out, findP_some l (tx n) (tx t) h0 hin]
        rw [hin] at HIN
        clear hall h0 hfl hin hfs HFO
        go_wp2_with fail
        refine (HIN.out _ (HL1.out.below hbel)).mono ?_
        rintro e w1 ⟨x, rfl, hb1, ⟨sa, sn, sc, hsp⟩, hx⟩
        have hxp := hx p rfl
        subst hxp
        obtain ⟨hcc, hff⟩ := bcell (hbel.trans (hb1.mono hz))
        have d0 := (hcc (w.heap.size + 1) 0 hwz).trans (HE.out 0)
        have d1 := (hcc (w.heap.size + 1) 1 hwz).trans (HE.out 1)
        have d2 := (hcc (w.heap.size + 1) 2 hwz).trans (HE.out 2)
        have d3 := (hcc (w.heap.size + 1) 3 hwz).trans (HE.out 3)
        have g0 := (hff (w.heap.size + 1) 0 hwz).trans (HEF.out 0)
        have g1 := (hff (w.heap.size + 1) 1 hwz).trans (HEF.out 1)
        have g2 := (hff (w.heap.size + 1) 2 hwz).trans (HEF.out 2)
        have g3 := (hff (w.heap.size + 1) 3 hwz).trans (HEF.out 3)
        simp at d0 d1 d2 d3
        have HB := hid' (HW.out.trans ((hbel.trans (hb1.mono hz)).mono (by omega)))
        have hz1 : w.heap.size + 1 < w1.heap.size := by have := hb1.size; omega
        clear hcc hff hb1 hbel hx HBL
        obtain ⟨xp, xn, xv, xs, xd⟩ := x
        simp only at hsp
        subst hsp
        simp only [Option.isSome]
        go_wp2
        refine bodyPost_ret (v := .tuple #[.agg #[.string (bs xp), .string (bs xn), .int .i64 xv, .slice sa sn sc], .bool true]) (by simp [results, Tryd.results101, go_sem, *]) rfl ⟨⟨xp, xn, xv, .slice sa sn sc, xd⟩, by rw [HF.out]; rfl, ?_, ⟨_, _, _, rfl⟩, fun p h => by rw [HF.out] at h; simpa using h⟩
        exact ((((HB.out.setCell (by simp) _).setCell (by simp) _).setCell (by simp) _).setCell (by simp) _).alloc (by simp; omega) _

theorem mt_none {l : List PkX} {path : Tx} {n : NeedX} (h : findP l n.name path = none) : meetsP l path n = false := by simp [meetsP, h]
theorem mt_some {l : List PkX} {path : Tx} {n : NeedX} {p : PkX} (h : findP l n.name path = some p) : meetsP l path n = fitsP n.spans p.e.ver := by simp [meetsP, h]

set_option maxHeartbeats 2000000 in
theorem meets_any (v : Value) (l : List PkX) (f : ByteArray) (x : NeedX) (w : World) (hl : PksIn w v l) (hn : l.length ≤ 100000) (hp : PathsOk l) (hf : f.size ≤ 50000) (hx : NeedIn w x) :
    Calls Tryd.prog 102 #[.agg #[v], .string f, needXV x] w fun e w' => e = .returned (.bool (meetsP l (tx f) x)) ∧ Below w.heap.size w w' := by
  obtain ⟨a, cap, rfl⟩ := hl.1.form
  obtain ⟨xa, xc, hxf⟩ := hx.form
  have HFD := hid' (fun w hl => findP_any (.slice a l.length cap) l f (bs x.name) w hl hn hp hf)
  rw [tx_bs] at HFD
  have HM1 := hid' (mt_none (l := l) (path := tx f) (n := x))
  have HM2 := hid' (fun p => mt_some (l := l) (path := tx f) (n := x) (p := p))
  have HL := hid' hl
  have HX := hid' hx
  clear hl hp hx
  obtain ⟨xn, xsp, xs, xt⟩ := x
  simp only at hxf HFD HM1 HM2
  subst hxf
  have hbw := ((Below.refl w.heap.size w).alloc (Nat.le_refl _) (.cells #[.slice a l.length cap] 96)).alloc (by simp) (.cells #[.string (bs xn), .slice xa xs.length xc, .string (bs xt)] 86)
  have HL1 := hid' (HL.out.below hbw)
  have HX1 := hid' (HX.out.below hbw)
  have HW := hid' hbw
  clear hbw
  go_enter Tryd.func102, Tryd.ntmps102
  go_wp2_with fail
  refine (HFD.out _ HL1.out).mono ?_
  rintro e w1 ⟨y, rfl, hb1, ⟨sa, sn, sc, hsp⟩, hy⟩
  have c1 := (bcell hb1).1 (w.heap.size + 1) 1 (by simp)
  simp at c1
  have hz1 := hb1.size
  simp at hz1
  have hz1' : w.heap.size + 1 < w1.heap.size := by omega
  have HB1 := hid' (HW.out.trans (hb1.mono (by simp; omega)))
  have HXX := hid' (HX1.out.below hb1)
  clear hb1
  rcases hfd : findP l xn (tx f) with _ | p
  · have HF := hid' (HM1.out hfd)
    rw [hfd] at hy
    clear hfd hy
    obtain ⟨yp, yn, yv, ys, yd⟩ := y
    simp only at hsp
    subst hsp
    simp only [Option.isSome]
    go_wp2
    go_ret
    exact ⟨ret_bool (by rw [HF.out]), HB1.out.alloc (by omega) _⟩
  · have HF := hid' (HM2.out p hfd)
    have hyp := hy p hfd
    subst hyp
    clear hfd hy
    obtain ⟨yp, yn, yv, ys, yd⟩ := y
    simp only at hsp
    subst hsp
    have hal := (Below.refl w1.heap.size w1).alloc (Nat.le_refl _) (.cells #[.string (bs yp), .string (bs yn), .int .i64 yv, .slice sa sn sc] 130)
    have HFT := hid' (fitsX_any (.slice xa xs.length xc) yv xs _ ((HXX.out.below hal).sp) HXX.out.ne (by have := HXX.out.le; simp only at this; omega))
    have HBA := hid' (HB1.out.alloc (by omega) (.cells #[.string (bs yp), .string (bs yn), .int .i64 yv, .slice sa sn sc] 130))
    clear hal
    simp only [Option.isSome]
    go_wp2_with fail
    refine HFT.out.mono ?_
    rintro e w2 ⟨rfl, hb2⟩
    have HB2 := hid' (HBA.out.trans (hb2.mono (by simp; omega)))
    clear hb2
    go_wp2
    go_ret
    exact ⟨ret_bool (by rw [HF.out]), HB2.out⟩

end Hst
end Go.Proofs.YtecocheolbkneaaDoor
namespace Go.Proofs.YtecocheolbkneaaDoor
open Go.RowKit
namespace Hst

theorem PksIn.off {w w' : World} {b : Nat} {t : TypeId} {v : Value} {l : List PkX} (h : PksIn w v l) (hb : But b w w') (ht : tagOf w b = some t) (h1 : t ≠ 86) (h2 : t ≠ 106) (h3 : t ≠ 130) : PksIn w' v l :=
  ⟨RowX.off h.1 hb (by rw [ht]; simpa using h3), fun e he => (h.2 e he).off hb (odd_of ht h1 h2)⟩
theorem own_but {base e size n b : Nat} {w w' : World} {v : Value} {xs : List Value} (h : w.ownsRow base e size v n xs) (hb : But b w w') (hlt : b < base ∨ tagOf w b ≠ some e) : w'.ownsRow base e size v n xs := by
  have ht := fun c => tag_of_own (b := c) h
  obtain ⟨h1, h2⟩ := h
  refine ⟨h1, ?_⟩
  rcases h2 with h2 | ⟨g, cap, cur, rfl, hg, hh, r⟩
  · exact .inl h2
  · have hgb : g ≠ b := by
      intro e
      subst e
      rcases hlt with h | h
      · omega
      · exact h (ht g rfl)
    exact .inr ⟨g, cap, cur, rfl, hg, by rw [hb.block g (lt_of_block hh) hgb]; exact hh, r⟩
theorem EntsIn.drew {w : World} {v : Value} {l : List EntX} (h : EntsIn w v l) : EntsIn w.drew v l := h.below (Below.refl _ _).drew
theorem PksIn.drew {w : World} {v : Value} {l : List PkX} (h : PksIn w v l) : PksIn w.drew v l := h.below (Below.refl _ _).drew
theorem NeedIn.drew {w : World} {n : NeedX} (h : NeedIn w n) : NeedIn w.drew n := h.below (Below.refl _ _).drew

/-- A work at block b: what it is built from, and how far it is. -/
structure WorkAt (w : World) (b B : Nat) (st : List EntX) (fav : List PkX) (k : WorkX) : Prop where
  lt : b < w.heap.size
  tag : tagOf w b = some 143
  stock : ∃ v, w.cell? ⟨b, 0, none⟩ = some v ∧ EntsIn w v st
  fav : ∃ v, w.cell? ⟨b, 1, none⟩ = some v ∧ PksIn w v fav
  tree : ∃ v, w.cell? ⟨b, 2, none⟩ = some v ∧ PksIn w v k.tree
  list : ∃ v, w.cell? ⟨b, 3, none⟩ = some v ∧ w.ownsRow B 145 2 v k.list.length (k.list.flatMap whXC) ∧ ∀ x ∈ k.list, NeedsIn w x.needs x.nd
  gone : ∃ v, w.cell? ⟨b, 4, none⟩ = some v ∧ w.ownsRow B 164 4 v k.gone.length (k.gone.flatMap asXC) ∧ ∀ x ∈ k.gone, NeedIn w x.n
  f2 : w.frozen? ⟨b, 2, none⟩ = false
  f3 : w.frozen? ⟨b, 3, none⟩ = false
  f4 : w.frozen? ⟨b, 4, none⟩ = false
theorem WorkAt.below {w w' : World} {b B : Nat} {st : List EntX} {fav : List PkX} {k : WorkX} (h : WorkAt w b B st fav k) (hb : Below w.heap.size w w') : WorkAt w' b B st fav k := by
  obtain ⟨hc, hf⟩ := bcell hb
  obtain ⟨v0, e0, r0⟩ := h.stock
  obtain ⟨v1, e1, r1⟩ := h.fav
  obtain ⟨v2, e2, r2⟩ := h.tree
  obtain ⟨v3, e3, r3, q3⟩ := h.list
  obtain ⟨v4, e4, r4, q4⟩ := h.gone
  exact ⟨Nat.lt_of_lt_of_le h.lt hb.size, by rw [tagOf_below hb h.lt]; exact h.tag, ⟨v0, by rw [hc _ _ h.lt]; exact e0, r0.below hb⟩, ⟨v1, by rw [hc _ _ h.lt]; exact e1, r1.below hb⟩,
    ⟨v2, by rw [hc _ _ h.lt]; exact e2, r2.below hb⟩, ⟨v3, by rw [hc _ _ h.lt]; exact e3, own_below r3 hb, fun x hx => (q3 x hx).below hb⟩,
    ⟨v4, by rw [hc _ _ h.lt]; exact e4, own_below r4 hb, fun x hx => (q4 x hx).below hb⟩, by rw [hf _ _ h.lt]; exact h.f2, by rw [hf _ _ h.lt]; exact h.f3, by rw [hf _ _ h.lt]; exact h.f4⟩

end Hst
end Go.Proofs.YtecocheolbkneaaDoor
namespace Go.Proofs.YtecocheolbkneaaDoor
open Go.RowKit
namespace Hst
set_option maxRecDepth 100000

def goneOk (l : List PkX) (gone : List AsX) : Bool := gone.all fun a => meetsP l a.path a.n
theorem wd_at {l : List PkX} {gone : List AsX} {path : Tx} {p : PkX} (h : hasAtP l p.path = true) : willDoP l gone path p = false := by simp [willDoP, h]
theorem wd_none {l : List PkX} {gone : List AsX} {path : Tx} {p : PkX} (h : findP (withP l p) p.e.name path = none) : willDoP l gone path p = false := by simp [willDoP, h]
theorem wd_far {l : List PkX} {gone : List AsX} {path : Tx} {p q : PkX} (h : findP (withP l p) p.e.name path = some q) (h' : ¬ q.path = p.path) : willDoP l gone path p = false := by simp [willDoP, h, h']
theorem wd_go {l : List PkX} {gone : List AsX} {path : Tx} {p q : PkX} (h0 : hasAtP l p.path = false) (h : findP (withP l p) p.e.name path = some q) (h' : q.path = p.path) : willDoP l gone path p = goneOk (withP l p) gone := by simp [willDoP, h, h', h0, goneOk]
theorem go_yes (l : List PkX) (g : List AsX) (k : Nat) (hk : k < g.length) (h : meetsP l g[k].path g[k].n = true) : goneOk l (g.drop k) = goneOk l (g.drop (k + 1)) := by
  rw [List.drop_eq_getElem_cons hk]; unfold goneOk; rw [List.all_cons, h, Bool.true_and]
theorem go_no (l : List PkX) (g : List AsX) (k : Nat) (hk : k < g.length) (h : meetsP l g[k].path g[k].n = false) : goneOk l (g.drop k) = false := by
  rw [List.drop_eq_getElem_cons hk]; unfold goneOk; rw [List.all_cons, h, Bool.false_and]
theorem go_end (l : List PkX) (g : List AsX) (k : Nat) (hk : ¬ k < g.length) : goneOk l (g.drop k) = true := by
  rw [List.drop_of_length_le (by omega)]; rfl
theorem RowX.ass {w : World} {v : Value} {l : List AsX} (h : RowX asXC 4 164 w v l) {k : Nat} (hk : k < l.length) :
    ∃ g o cap, v = .slice (some ⟨g, o, none⟩) l.length cap ∧ g < w.heap.size ∧ ∀ (j : Nat) (hj : j < l.length), w.cell? ⟨g, o + j * 4, none⟩ = some (.string (bs l[j].path)) ∧ w.cell? ⟨g, o + j * 4 + 1, none⟩ = some (.string (bs l[j].n.name)) ∧ w.cell? ⟨g, o + j * 4 + 2, none⟩ = some l[j].n.sp ∧ w.cell? ⟨g, o + j * 4 + 3, none⟩ = some (.string (bs l[j].n.text)) := by
  obtain ⟨g, o, cap, hv, hg, hc⟩ := h.cells asXC_len hk
  exact ⟨g, o, cap, hv, hg, fun j hj => ⟨hc j hj 0 (by omega), hc j hj 1 (by omega), hc j hj 2 (by omega), hc j hj 3 (by omega)⟩⟩
theorem pathsOk_with {l : List PkX} {p : PkX} (h : PathsOk l) (hp : p.path.length ≤ 50000) : PathsOk (withP l p) := by
  intro q hq
  rcases insG_mem _ p l false q hq with rfl | hq
  · exact hp
  · exact h q hq

attribute [local go_sem ↓] Go.wp_at_zero Go.wp_at_succ

set_option maxHeartbeats 4000000 in
theorem willDo_any (b B : Nat) (st : List EntX) (fav : List PkX) (kk : WorkX) (p : ByteArray) (x : PkX) (w : World) (hw : WorkAt w b B st fav kk) (hx : EntIn w x.e) (hp : p.size ≤ 50000) (hxp : x.path.length ≤ 50000) (htl : kk.tree.length ≤ 1000) (hpo : PathsOk kk.tree) (hgl : kk.gone.length ≤ 100000) (hgp : ∀ a ∈ kk.gone, a.path.length ≤ 50000) :
    Calls Tryd.prog 125 #[.pointer (some ⟨b, 0, none⟩), .string p, pkXV x] w fun e w' => e = .returned (.bool (willDoP kk.tree kk.gone (tx p) x)) ∧ Below w.heap.size w w' := by
  obtain ⟨xa, xc, hxf⟩ := hx.form'
  obtain ⟨tv, ht0, ht1⟩ := hw.tree
  obtain ⟨ta, tc, rfl⟩ := ht1.1.form
  obtain ⟨gv, hg0, hg1, hg2⟩ := hw.gone
  obtain ⟨ga, gc, rfl⟩ := own_slice hg1
  have hlt := hw.lt
  have HHA := hid' (fun w h => hasAt_any (.slice ta kk.tree.length tc) kk.tree (bs x.path) w h (by omega))
  rw [tx_bs] at HHA
  have HWP := hid' (fun w h h' => withP_any (.slice ta kk.tree.length tc) kk.tree x w h h' (by omega))
  have HFD := hid' (fun v w h => findP_any v (withP kk.tree x) p (bs x.e.name) w h (by rw [withP_len]; omega) (pathsOk_with hpo hxp) hp)
  rw [tx_bs] at HFD
  have HMT := hid' (fun v f n w h hf hn => meets_any v (withP kk.tree x) f n w h (by rw [withP_len]; omega) (pathsOk_with hpo hxp) hf hn)
  have W1 := hid' (wd_at (l := kk.tree) (gone := kk.gone) (path := tx p) (p := x))
  have W2 := hid' (wd_none (l := kk.tree) (gone := kk.gone) (path := tx p) (p := x))
  have W3 := hid' (fun q => wd_far (l := kk.tree) (gone := kk.gone) (path := tx p) (p := x) (q := q))
  have W4 := hid' (fun q => wd_go (l := kk.tree) (gone := kk.gone) (path := tx p) (p := x) (q := q))
  have HX := hid' hx
  have HT1 := hid' ht1
  have HG1 := hid' hg1
  have HG2 := hid' hg2
  have HGP := hid' hgp
  have HWL := hid' (withP_len kk.tree x)
  generalize willDoP kk.tree kk.gone (tx p) x = res at *
  generalize withP kk.tree x = tr at *
  generalize kk.gone = gn at *
  generalize kk.tree = tt at *
  obtain ⟨xp, xn, xv, xsp, xd⟩ := x
  simp only at hxf HX HHA HFD W1 W2 W3 W4
  subst hxf
  clear hx ht1 hg1 hg2 hw hgp
  go_enter Tryd.func125, Tryd.ntmps125
  go_wp2
  have hbw := (Below.refl w.heap.size w).alloc (Nat.le_refl _) (.cells #[.string (bs xp), .string (bs xn), .int .i64 xv, .slice xa xd.length xc] 130)
  have e0 : (w.alloc (.cells #[.string (bs xp), .string (bs xn), .int .i64 xv, .slice xa xd.length xc] 130)).cell? ⟨w.heap.size, 0, none⟩ = some (.string (bs xp)) := by simp
  have e1 : (w.alloc (.cells #[.string (bs xp), .string (bs xn), .int .i64 xv, .slice xa xd.length xc] 130)).cell? ⟨w.heap.size, 1, none⟩ = some (.string (bs xn)) := by simp
  have e2 : (w.alloc (.cells #[.string (bs xp), .string (bs xn), .int .i64 xv, .slice xa xd.length xc] 130)).cell? ⟨w.heap.size, 2, none⟩ = some (.int .i64 xv) := by simp
  have e3 : (w.alloc (.cells #[.string (bs xp), .string (bs xn), .int .i64 xv, .slice xa xd.length xc] 130)).cell? ⟨w.heap.size, 3, none⟩ = some (.slice xa xd.length xc) := by simp
  have hsz : (w.alloc (.cells #[.string (bs xp), .string (bs xn), .int .i64 xv, .slice xa xd.length xc] 130)).heap.size = w.heap.size + 1 := by simp
  have et := ((bcell hbw).1 b 2 hlt).trans ht0
  have eg := ((bcell hbw).1 b 4 hlt).trans hg0
  generalize w.alloc (.cells #[.string (bs xp), .string (bs xn), .int .i64 xv, .slice xa xd.length xc] 130) = W at *
  have HW := hid' hbw
  have HT2 := hid' (HT1.out.below hbw)
  have HX2 := hid' (HX.out.below hbw)
  have HG3 := hid' (own_below HG1.out hbw)
  have HG4 : Hid (∀ x ∈ gn, NeedIn W x.n) := fun x hx => (HG2.out x hx).below hbw
  have hwz : w.heap.size < W.heap.size := by omega
  have hbz : b < W.heap.size := by omega
  clear hbw hsz HT1 HX HG1 HG2 ht0 hg0
  go_region_held3 (fun w' => w'.cell? ⟨b, 2, none⟩ = some (.slice ta tt.length tc) ∧ w'.cell? ⟨w.heap.size, 0, none⟩ = some (.string (bs xp))) (go_keep)
    (first | (go_at_call 100; refine (HHA.out _ (by first | exact HT2.out | exact HT2.out.drew)).mono ?_; rintro e w1 ⟨rfl, hb1⟩; have hz1 := (bcell hb1).1; simp at hz1))
  have HB1 := hid' (HW.out.trans ((Below.refl w.heap.size W).drew.trans (hb1.mono (by simp; omega))))
  have hcc := (bcell hb1).1
  simp at hcc
  have hw1 : W.heap.size ≤ w1.heap.size := by have := hb1.size; simpa using this
  have HT3 := hid' (HT2.out.drew.below hb1)
  have HX3 := hid' ((HX2.out.below (Below.refl _ _).drew).below hb1)
  have HG5 := hid' (own_below (own_below HG3.out (Below.refl _ _).drew) hb1)
  have HG6 : Hid (∀ x ∈ gn, NeedIn w1 x.n) := fun x hx => ((HG4.out x hx).drew).below hb1
  have e0' := (hcc w.heap.size 0 hwz).trans e0
  have e1' := (hcc w.heap.size 1 hwz).trans e1
  have e2' := (hcc w.heap.size 2 hwz).trans e2
  have e3' := (hcc w.heap.size 3 hwz).trans e3
  have et' := (hcc b 2 hbz).trans et
  have eg' := (hcc b 4 hbz).trans eg
  clear hb1 hcc hz1 HT2 HX2 HG3 HG4 e0 e1 e2 e3 et eg
  have hwz1 : w.heap.size < w1.heap.size := by omega
  have hbz1 : b < w1.heap.size := by omega
  rcases hha : hasAtP tt xp with _ | _
  · have HA := hid' hha
    clear hha
    have hbz2 : b < w1.heap.size + 1 := by omega
    have hwz2 : w.heap.size < w1.heap.size + 1 := by omega
    have n1 : b ≠ w1.heap.size := by omega
    have n2 : w.heap.size ≠ w1.heap.size := by omega
    have n3 : w1.heap.size ≠ b := by omega
    have n4 : w1.heap.size ≠ w.heap.size := by omega
    go_wp2
    go_cut [7] (fun t wc => ∃ (c : Nat) (na : Option Addr) (nc : Nat), t = .pointer (some ⟨c, 0, none⟩) ∧ w1.heap.size ≤ c ∧ c < wc.heap.size ∧ wc.cell? ⟨c, 0, none⟩ = some (.slice na tr.length nc) ∧ Below w1.heap.size w1 wc ∧ Hid (PksIn wc (.slice na tr.length nc) tr))
    case first =>
      go_region_held3 (fun w' => w'.cell? ⟨b, 2, none⟩ = some (.slice ta tt.length tc) ∧ w'.cell? ⟨w.heap.size, 0, none⟩ = some (.string (bs xp)) ∧ w'.cell? ⟨w.heap.size, 1, none⟩ = some (.string (bs xn)) ∧ w'.cell? ⟨w.heap.size, 2, none⟩ = some (.int .i64 xv) ∧ w'.cell? ⟨w.heap.size, 3, none⟩ = some (.slice xa xd.length xc)) (go_keep)
        (first | (go_at_call 104; refine (HWP.out _ (by first | exact HT3.out.drew | exact HT3.out.below ((Below.refl _ _).alloc (Nat.le_refl _) _).drew) (by first | exact HX3.out.below (Below.refl _ _).drew | exact HX3.out.below ((Below.refl _ _).alloc (Nat.le_refl _) _).drew)).mono ?_; rintro e w2 ⟨v2, rfl, hin2, hb2⟩; obtain ⟨na, nc, rfl⟩ := hin2.1.form; have hz2 := (bcell hb2).1; have hz3 := (bcell hb2).2; simp at hz2 hz3))
      · have hb2' := (((Below.refl w1.heap.size w1).drew.trans (hb2.mono (by simp))).alloc (by have := hb2.size; simpa using this) (.cells #[.slice na tr.length nc] 96))
        have hin3 := hin2.below ((Below.refl _ _).alloc (Nat.le_refl _) (.cells #[.slice na tr.length nc] 96))
        have HZ : Hid (w1.heap.size ≤ w2.heap.size) := by unfold Hid; have := hb2.size; simpa using this
        go_wp2_with fail
        go_meet
        exact ⟨w2.heap.size, na, nc, rfl, HZ.out, by simp, by simp, hb2', hin3⟩
      · have hb2' := ((((Below.refl w1.heap.size w1).alloc (Nat.le_refl _) (.cells #[.slice none 0 0] 96)).drew.trans (hb2.mono (by simp))).setCell (p := ⟨w1.heap.size, 0, none⟩) (Nat.le_refl _) (.slice na tr.length nc))
        have htg : tagOf w2 w1.heap.size = some 96 := by
          rw [tagOf_below hb2 (by simp)]
          exact tag_new w1 #[.slice none 0 0] 96
        have hin3 := hin2.off (But.set w2 w1.heap.size 0 (.slice na tr.length nc)) htg (by decide) (by decide) (by decide)
        have HZ : Hid (w1.heap.size < w2.heap.size) := by unfold Hid; have := hb2.size; simp at this; omega
        have hc0 := hz2 w1.heap.size 0 (by omega)
        simp at hc0
        go_wp2_with fail
        go_meet
        exact ⟨w1.heap.size, na, nc, rfl, Nat.le_refl _, by simpa using HZ.out, by simp [go_sem, hc0], hb2', hin3⟩
    case rest =>
      obtain ⟨c, na, nc, rfl, hc1, hc2, hc3, hb2, HIN2⟩ := hcut
      have hcc := (bcell hb2).1
      have e0'' := (hcc w.heap.size 0 hwz1).trans e0'
      have e1'' := (hcc w.heap.size 1 hwz1).trans e1'
      have eg'' := (hcc b 4 hbz1).trans eg'
      have HG7 := hid' (own_below HG5.out hb2)
      have HG8 : Hid (∀ x ∈ gn, NeedIn wc x.n) := fun x hx => (HG6.out x hx).below hb2
      have hw2 := hb2.size
      have HB2 := hid' (HB1.out.trans (hb2.mono (by omega)))
      have hwzc : w.heap.size < wc.heap.size := by omega
      have hbzc : b < wc.heap.size := by omega
      clear hb2 hcc e0' e1' e2' e3' et' eg' HT3 HX3 HG5 HG6 n1 n2 n3 n4
      go_wp2_with fail
      refine (HFD.out _ _ HIN2.out).mono ?_
      rintro e w3 ⟨y, rfl, hb3, ⟨ya, yl, yc, hyf⟩, hy⟩
      obtain ⟨hcc, -⟩ := bcell hb3
      have k0 := (hcc w.heap.size 0 hwzc).trans e0''
      have kg := (hcc b 4 hbzc).trans eg''
      have kc := (hcc c 0 hc2).trans hc3
      have hw3 := hb3.size
      have HG9 := hid' (own_below HG7.out hb3)
      have HG10 : Hid (∀ x ∈ gn, NeedIn w3 x.n) := fun x hx => (HG8.out x hx).below hb3
      have HIN3 := hid' (HIN2.out.below hb3)
      have HB3 := hid' (HB2.out.trans (hb3.mono (by omega)))
      have hwz3 : w.heap.size < w3.heap.size := by omega
      have hbz3 : b < w3.heap.size := by omega
      have hcz3 : c < w3.heap.size := by omega
      clear hb3 hcc e0'' e1'' eg'' hc3 HG7 HG8 HIN2
      rcases hfd : findP tr xn (tx p) with _ | q
      · have HF := hid' (W2.out hfd)
        clear hfd hy
        obtain ⟨yp, yn, yv, ys, yd⟩ := y
        simp only at hyf
        subst hyf
        simp only [Option.isSome]
        go_wp2
        go_ret
        exact ⟨ret_bool (by rw [HF.out]), HB3.out.alloc (by omega) _⟩
      · have hyq := hy q hfd
        subst hyq
        have W3' := hid' (W3.out y hfd)
        have W4' := hid' (W4.out y HA.out hfd)
        clear hfd hy W1 W2 W3 W4
        obtain ⟨yp, yn, yv, ys, yd⟩ := y
        simp only at hyf W3' W4'
        subst hyf
        simp only [Option.isSome]
        by_cases hpe : yp = xp
        · have HF := hid' (W4'.out hpe)
          have hbe : ((bs yp).toList == (bs xp).toList) = true := by rw [hpe]; simp
          have hbn : ((bs yp).toList != (bs xp).toList) = false := by simp [bne, hbe]
          have hba := (Below.refl w3.heap.size w3).alloc (Nat.le_refl _) (.cells #[.string (bs yp), .string (bs yn), .int .i64 yv, .slice ya yl yc] 130)
          have kc2 := ((bcell hba).1 c 0 hcz3).trans kc
          have HG11 := hid' (own_below HG9.out hba)
          have HG12 : Hid (∀ x ∈ gn, NeedIn (w3.alloc (.cells #[.string (bs yp), .string (bs yn), .int .i64 yv, .slice ya yl yc] 130)) x.n) := fun x hx => (HG10.out x hx).below hba
          have HIN4 := hid' (HIN3.out.below hba)
          have HB4 := hid' (HB3.out.trans (hba.mono (by omega)))
          have hsz : (w3.alloc (.cells #[.string (bs yp), .string (bs yn), .int .i64 yv, .slice ya yl yc] 130)).heap.size = w3.heap.size + 1 := by simp
          clear hpe W3' W4' hba
          go_wp2
          generalize w3.alloc (.cells #[.string (bs yp), .string (bs yn), .int .i64 yv, .slice ya yl yc] 130) = V at *
          have hcV : c < V.heap.size := by omega
          have hwV : w.heap.size ≤ V.heap.size := by omega
          clear hsz kc k0 kg
          go_loopw [48] (fun i wr => ∃ k : Nat, k ≤ gn.length ∧ i = .int .i64 k ∧ Below V.heap.size V wr ∧ Hid (res = goneOk tr (gn.drop k))) (fun i _ => gn.length - (intOf i).toNat)
          case atStart => exact ⟨0, Nat.zero_le _, rfl, Below.refl _ _, HF⟩
          case round =>
            obtain ⟨k, hk, rfl, hbel, hall⟩ := hrel
            have hz := hbel.size
            by_cases hlt2 : k < gn.length
            · have hown := own_below HG11.out hbel
              obtain ⟨g, o, cap', hv, hg, hc⟩ := (RowX.of_own (f := asXC) hown).ass hlt2
              simp at hv
              obtain ⟨rfl, rfl⟩ := hv
              obtain ⟨c0, c1, c2, c3⟩ := hc k hlt2
              have hni := (HG12.out gn[k] (List.getElem_mem hlt2)).below hbel
              obtain ⟨za, zc, hzf⟩ := hni.form
              have kc3 := ((bcell hbel).1 c 0 hcV).trans kc2
              have hcr : c < wr.heap.size := by omega
              have hba := (Below.refl wr.heap.size wr).alloc (Nat.le_refl _) (.cells #[.string (bs gn[k].path), .string (bs gn[k].n.name), gn[k].n.sp, .string (bs gn[k].n.text)] 164)
              have HMM := hid' (HMT.out (.slice na tr.length nc) (bs gn[k].path) gn[k].n _ ((HIN4.out.below hbel).below hba) (by rw [bs_size]; exact HGP.out gn[k] (List.getElem_mem hlt2)) (hni.below hba))
              rw [tx_bs] at HMM
              have HBA := hid' (hbel.trans (hba.mono hz))
              have GY := hid' (go_yes tr gn k hlt2)
              have GN := hid' (go_no tr gn k hlt2)
              clear hc hown hni hba
              rcases hmt : meetsP tr gn[k].path gn[k].n with _ | _
              · have HF2 : Hid (res = false) := by unfold Hid; rw [hall.out]; exact GN.out hmt
                rw [hmt] at HMM
                clear hmt hall GY GN
                generalize gn[k] = z at *
                obtain ⟨zp, zn, zsp, zs, zt⟩ := z
                simp only at hzf c0 c1 c2 c3 HMM HBA
                subst hzf
                go_wp2_with fail
                refine HMM.out.mono ?_
                rintro e w5 ⟨rfl, hb5⟩
                have HB5 := hid' (HB4.out.trans ((HBA.out.trans (hb5.mono (by simp; omega))).mono hwV))
                clear hb5
                go_wp2
                go_ret
                exact ⟨ret_bool (by rw [HF2.out]), HB5.out⟩
              · have HF2 : Hid (res = goneOk tr (gn.drop (k + 1))) := by unfold Hid; rw [hall.out]; exact GY.out hmt
                rw [hmt] at HMM
                clear hmt hall GY GN
                generalize gn[k] = z at *
                obtain ⟨zp, zn, zsp, zs, zt⟩ := z
                simp only at hzf c0 c1 c2 c3 HMM HBA
                subst hzf
                go_wp2_with fail
                refine HMM.out.mono ?_
                rintro e w5 ⟨rfl, hb5⟩
                have HB5 := hid' (HBA.out.trans (hb5.mono (by simp; omega)))
                clear hb5
                go_wp2
                go_roundw
                case rel => exact ⟨k + 1, by omega, by go_num, HB5.out, HF2⟩
                case measure => simp [intOf] <;> omega
            · have HF2 : Hid (res = true) := by unfold Hid; rw [hall.out, go_end tr gn k hlt2]
              have HB5 := hid' (HB4.out.trans (hbel.mono hwV))
              clear hall
              go_wp2
              go_ret
              exact ⟨ret_bool (by rw [HF2.out]), HB5.out⟩
        · have HF := hid' (W3'.out hpe)
          have hbe : ((bs yp).toList == (bs xp).toList) = false := by rw [tx_toList, tx_toList, tx_bs, tx_bs]; simp [hpe]
          have hbn : ((bs yp).toList != (bs xp).toList) = true := by simp [bne, hbe]
          clear hpe W3' W4'
          go_wp2
          go_ret
          exact ⟨ret_bool (by rw [HF.out]), HB3.out.alloc (by omega) _⟩
  · have HF := hid' (W1.out hha)
    clear hha
    go_wp2
    go_ret
    exact ⟨ret_bool (by rw [HF.out]), HB1.out⟩

end Hst
end Go.Proofs.YtecocheolbkneaaDoor
namespace Go.Proofs.YtecocheolbkneaaDoor
open Go.RowKit
namespace Hst
/-- What stands in a block of three cells that were set. -/
def stored (w : World) (b : Nat) (x y z : Value) : Prop :=
  (((w.setCell ⟨b, 0, none⟩ x).setCell ⟨b, 1, none⟩ y).setCell ⟨b, 2, none⟩ z).cell? ⟨b, 0, none⟩ = some x ∧
  (((w.setCell ⟨b, 0, none⟩ x).setCell ⟨b, 1, none⟩ y).setCell ⟨b, 2, none⟩ z).cell? ⟨b, 1, none⟩ = some y ∧
  (((w.setCell ⟨b, 0, none⟩ x).setCell ⟨b, 1, none⟩ y).setCell ⟨b, 2, none⟩ z).cell? ⟨b, 2, none⟩ = some z ∧
  ∀ i, (((w.setCell ⟨b, 0, none⟩ x).setCell ⟨b, 1, none⟩ y).setCell ⟨b, 2, none⟩ z).frozen? ⟨b, i, none⟩ = false
theorem stored_of (w : World) (b : Nat) (x y z x' y' z' : Value) (h0 : w.cell? ⟨b, 0, none⟩ = some x') (h1 : w.cell? ⟨b, 1, none⟩ = some y') (h2 : w.cell? ⟨b, 2, none⟩ = some z') (hf : ∀ i, w.frozen? ⟨b, i, none⟩ = false) : stored w b x y z := by
  refine ⟨?_, ?_, ?_, fun i => ?_⟩
  · simp [go_sem, *]
  · simp [go_sem, *]
  · simp [go_sem, *]
  · simp [go_sem, *]
/-- What stands in a block of four cells that were set. -/
def stored4 (w : World) (b : Nat) (x y z u : Value) : Prop :=
  ((((w.setCell ⟨b, 0, none⟩ x).setCell ⟨b, 1, none⟩ y).setCell ⟨b, 2, none⟩ z).setCell ⟨b, 3, none⟩ u).cell? ⟨b, 0, none⟩ = some x ∧
  ((((w.setCell ⟨b, 0, none⟩ x).setCell ⟨b, 1, none⟩ y).setCell ⟨b, 2, none⟩ z).setCell ⟨b, 3, none⟩ u).cell? ⟨b, 1, none⟩ = some y ∧
  ((((w.setCell ⟨b, 0, none⟩ x).setCell ⟨b, 1, none⟩ y).setCell ⟨b, 2, none⟩ z).setCell ⟨b, 3, none⟩ u).cell? ⟨b, 2, none⟩ = some z ∧
  ((((w.setCell ⟨b, 0, none⟩ x).setCell ⟨b, 1, none⟩ y).setCell ⟨b, 2, none⟩ z).setCell ⟨b, 3, none⟩ u).cell? ⟨b, 3, none⟩ = some u ∧
  ∀ i, ((((w.setCell ⟨b, 0, none⟩ x).setCell ⟨b, 1, none⟩ y).setCell ⟨b, 2, none⟩ z).setCell ⟨b, 3, none⟩ u).frozen? ⟨b, i, none⟩ = false
theorem stored4_of (w : World) (b : Nat) (x y z u x' y' z' u' : Value) (h0 : w.cell? ⟨b, 0, none⟩ = some x') (h1 : w.cell? ⟨b, 1, none⟩ = some y') (h2 : w.cell? ⟨b, 2, none⟩ = some z') (h3 : w.cell? ⟨b, 3, none⟩ = some u') (hf : ∀ i, w.frozen? ⟨b, i, none⟩ = false) : stored4 w b x y z u := by
  refine ⟨?_, ?_, ?_, ?_, fun i => ?_⟩
  · simp [go_sem, *]
  · simp [go_sem, *]
  · simp [go_sem, *]
  · simp [go_sem, *]
  · simp [go_sem, *]
end Hst
end Go.Proofs.YtecocheolbkneaaDoor
