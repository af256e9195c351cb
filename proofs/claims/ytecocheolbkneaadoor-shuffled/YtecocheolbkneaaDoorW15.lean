/- Ptreec, Ptreeb, Ptreed, Pwork -/
import Derived.Test.YtecocheolbkneaaDoorW14
import Derived.Test.YtecocheolbkneaaDoorW12
namespace Go.Proofs.YtecocheolbkneaaDoor
open Go.RowKit
namespace Hst
set_option maxRecDepth 100000

theorem info_pkX : (Tryd.prog.info? 130).map (fun i => (i.zero, i.size, i.bytes)) = some (some (.agg #[.string ByteArray.empty, .string ByteArray.empty, .int .i64 0, .slice none 0 0]), 4, 64) := by kernel_rfl
theorem pkX_one (p : PkX) {a : Option Addr} {m c : Nat} (h : p.e.needs = .slice a m c) : ∀ u ∈ pkXC p, u.oneCell' = true := by
  intro u hu; simp [pkXC, h] at hu; rcases hu with rfl | rfl | rfl | rfl <;> rfl
theorem news_4 (w : World) (x y z q : Value) (t : TypeId) : ∀ j u, [x, y, z, q][j]? = some u → (w.alloc (.cells #[x, y, z, q] t)).cell? ((⟨w.heap.size, 0, none⟩ : Addr).add j) = some u := by
  intro j u hu
  exact World.news_of_block (heap_alloc_new w (.cells #[x, y, z, q] t)) j u (by simpa using hu)
theorem news_4b (w : World) (o1 : Obj) (x y z q : Value) (t : TypeId) : ∀ j u, [x, y, z, q][j]? = some u → ((w.alloc o1).alloc (.cells #[x, y, z, q] t)).cell? ((⟨w.heap.size + 1, 0, none⟩ : Addr).add j) = some u := by
  intro j u hu
  have := news_4 (w.alloc o1) x y z q t j u hu
  simpa using this
theorem withP_len (l : List PkX) (x : PkX) : (withP l x).length = l.length + 1 := insG_len _ x l false

set_option maxHeartbeats 2000000 in
theorem withP_any (v : Value) (l : List PkX) (x : PkX) (w : World) (hl : PksIn w v l) (hx : EntIn w x.e) (hn : l.length ≤ 100000) :
    Calls Tryd.prog 104 #[.agg #[v], pkXV x] w fun e w' => ∃ v', e = .returned (.agg #[v']) ∧ PksIn w' v' (withP l x) ∧ Below w.heap.size w w' := by
  obtain ⟨i0, hi, hz0, hz1, hz2⟩ := info_parts info_pkX
  obtain ⟨a, cap, rfl⟩ := hl.1.form
  obtain ⟨xa, xc, hxf⟩ := hx.form'
  have HL := hid' hl
  have HX := hid' hx
  obtain ⟨xp, xn, xv, xsp, xd⟩ := x
  simp only at hxf HX
  subst hxf
  clear hl hx
  have HP : Hid (withP l ⟨xp, xn, xv, .slice xa xd.length xc, xd⟩ = [] ++ insG (fun n => n.path) ⟨xp, xn, xv, .slice xa xd.length xc, xd⟩ false (l.drop 0)) := rfl
  go_enter Tryd.func104, Tryd.ntmps104
  go_wp2
  have hbw := (((Below.refl w.heap.size w).alloc (Nat.le_refl _) (.cells #[.slice a l.length cap] 96)).alloc (by simp) (.cells #[.string (bs xp), .string (bs xn), .int .i64 xv, .slice xa xd.length xc] 130)).alloc (by simp; omega) (.cells #[.slice none 0 0] 96)
  have e0 : (((w.alloc (.cells #[.slice a l.length cap] 96)).alloc (.cells #[.string (bs xp), .string (bs xn), .int .i64 xv, .slice xa xd.length xc] 130)).alloc (.cells #[.slice none 0 0] 96)).cell? ⟨w.heap.size + 1, 0, none⟩ = some (.string (bs xp)) := by simp [go_sem]
  have e1 : (((w.alloc (.cells #[.slice a l.length cap] 96)).alloc (.cells #[.string (bs xp), .string (bs xn), .int .i64 xv, .slice xa xd.length xc] 130)).alloc (.cells #[.slice none 0 0] 96)).cell? ⟨w.heap.size + 1, 1, none⟩ = some (.string (bs xn)) := by simp [go_sem]
  have e2 : (((w.alloc (.cells #[.slice a l.length cap] 96)).alloc (.cells #[.string (bs xp), .string (bs xn), .int .i64 xv, .slice xa xd.length xc] 130)).alloc (.cells #[.slice none 0 0] 96)).cell? ⟨w.heap.size + 1, 2, none⟩ = some (.int .i64 xv) := by simp [go_sem]
  have e3 : (((w.alloc (.cells #[.slice a l.length cap] 96)).alloc (.cells #[.string (bs xp), .string (bs xn), .int .i64 xv, .slice xa xd.length xc] 130)).alloc (.cells #[.slice none 0 0] 96)).cell? ⟨w.heap.size + 1, 3, none⟩ = some (.slice xa xd.length xc) := by simp [go_sem]
  have e4 : (((w.alloc (.cells #[.slice a l.length cap] 96)).alloc (.cells #[.string (bs xp), .string (bs xn), .int .i64 xv, .slice xa xd.length xc] 130)).alloc (.cells #[.slice none 0 0] 96)).cell? ⟨w.heap.size + 2, 0, none⟩ = some (.slice none 0 0) := by simp [go_sem]
  have e5 : (((w.alloc (.cells #[.slice a l.length cap] 96)).alloc (.cells #[.string (bs xp), .string (bs xn), .int .i64 xv, .slice xa xd.length xc] 130)).alloc (.cells #[.slice none 0 0] 96)).frozen? ⟨w.heap.size + 2, 0, none⟩ = false := by simp [go_sem]
  have hsz : (((w.alloc (.cells #[.slice a l.length cap] 96)).alloc (.cells #[.string (bs xp), .string (bs xn), .int .i64 xv, .slice xa xd.length xc] 130)).alloc (.cells #[.slice none 0 0] 96)).heap.size = w.heap.size + 3 := by simp
  generalize ((w.alloc (.cells #[.slice a l.length cap] 96)).alloc (.cells #[.string (bs xp), .string (bs xn), .int .i64 xv, .slice xa xd.length xc] 130)).alloc (.cells #[.slice none 0 0] 96) = W at *
  have HW := hid' hbw
  have HL1 := hid' (HL.out.below hbw)
  have HS := hid' hsz
  clear hbw
  generalize hx0 : (⟨xp, xn, xv, .slice xa xd.length xc, xd⟩ : PkX) = x0 at *
  have HX0 := hid' hx0
  clear hx0
  go_loopw [5, 6, 12] (fun v b i wr => ∃ (k : Nat) (pl : Bool) (acc : List PkX), k ≤ l.length ∧ acc.length ≤ 2 * k ∧ b = .bool pl ∧ i = .int .i64 k ∧ wr.ownsRow W.heap.size 130 4 v acc.length (acc.flatMap pkXC) ∧ Below W.heap.size W wr ∧ Hid (withP l x0 = acc ++ insG (fun n => n.path) x0 pl (l.drop k))) (fun _ _ i _ => l.length - (intOf i).toNat)
  case atStart => exact ⟨0, false, [], Nat.zero_le _, by simp, rfl, rfl, World.ownsRow_nil _ _ _ _, Below.refl _ _, HP⟩
  case round =>
    obtain ⟨k, pl, acc, hk, hacc, rfl, rfl, hown, hbel, hall⟩ := hrel
    have hz := hbel.size
    have hwz : w.heap.size + 2 < W.heap.size := by have := HS.out; omega
    have hwr : w.heap.size + 2 < wr.heap.size := by omega
    have hwr1 : w.heap.size + 1 < wr.heap.size := by omega
    obtain ⟨hcc, hff⟩ := bcell hbel
    have d0 := (hcc (w.heap.size + 1) 0 (by omega)).trans e0
    have d1 := (hcc (w.heap.size + 1) 1 (by omega)).trans e1
    have d2 := (hcc (w.heap.size + 1) 2 (by omega)).trans e2
    have d3 := (hcc (w.heap.size + 1) 3 (by omega)).trans e3
    clear hcc hff HP
    by_cases hlt : k < l.length
    · obtain ⟨g, o, cap', hv, hg, hc⟩ := (HL1.out.below hbel).1.pks hlt
      simp at hv
      obtain ⟨rfl, rfl⟩ := hv
      obtain ⟨c0, c1, c2, c3⟩ := hc k hlt
      obtain ⟨sa, sc, hsp⟩ := (HL.out.2 l[k] (List.getElem_mem hlt)).form'
      clear hc
      cases pl
      · by_cases hlo : less x0.path l[k].path = true
        · have HF : Hid (withP l x0 = ((acc ++ [x0]) ++ [l[k]]) ++ insG (fun n => n.path) x0 true (l.drop (k + 1))) := by unfold Hid; rw [hall.out, ig_put _ x0 l k hlt hlo]; simp
          have hb : Op.bytesLess (bs xp).toList (bs l[k].path).toList = true := by rw [tx_toList, tx_toList, tx_bs, tx_bs]; rw [← HX0.out] at hlo; exact hlo
          clear hlo hall
          generalize l[k] = y at *
          obtain ⟨yp, yn, yv, ysp, yd⟩ := y
          simp only at hsp c0 c1 c2 c3 hb
          subst hsp
          go_wp2_with (first
            | (at_builtin; refine wpList_append_lies _ rfl _ _ 94 rfl W.heap.size 130 i0 (.agg #[.string ByteArray.empty, .string ByteArray.empty, .int .i64 0, .slice none 0 0]) 4 64 Tryd.underlying94 hi hz0 hz1 hz2 rfl (by omega) _ _ _ rfl ((hown.alloc _).alloc _) ⟨wr.heap.size + 1, 0, none⟩ 1 1 [.string (bs xp), .string (bs xn), .int .i64 xv, .slice xa xd.length xc] rfl rfl (news_4b _ _ _ _ _ _ _) (pkX_one ⟨xp, xn, xv, _, xd⟩ rfl) (by omega) (by unfold maxLen; omega) (by omega) (by simp; omega) (wr.heap.size + 2) (by simp) ?_; intro g1 cap1 w1 hown1 hgrow hat hlt1; have R := step_gen2 pkXC (x := ⟨xp, xn, xv, .slice xa xd.length xc, xd⟩) rfl hown hbel (((Below.refl _ _).alloc (Nat.le_refl _) _).alloc (by simp) _) hown1 hgrow; have hfar := grow_far hgrow (b := wr.heap.size) (by simp <;> omega) (fun q hq => by have := (hown.lt q hq).2; omega); have f0 := hfar 0; have f1 := hfar 1; have f2 := hfar 2; have f3 := hfar 3; simp at f0 f1 f2 f3; have hw1 : wr.heap.size < w1.heap.size := (by have := hgrow.size; simp at this; omega); clear hown1 hgrow hown hfar; obtain ⟨hown2, hbel2⟩ := R; have hzz := hbel2.size; have hlen2 : (acc ++ [(⟨xp, xn, xv, .slice xa xd.length xc, xd⟩ : PkX)]).length = acc.length + 1 := List.length_append)
            | (at_builtin; refine wpList_append_lies _ rfl _ _ 94 rfl W.heap.size 130 i0 (.agg #[.string ByteArray.empty, .string ByteArray.empty, .int .i64 0, .slice none 0 0]) 4 64 Tryd.underlying94 hi hz0 hz1 hz2 rfl (by omega) _ _ _ rfl (hown2.alloc _) ⟨w1.heap.size, 0, none⟩ 1 1 [.string (bs yp), .string (bs yn), .int .i64 yv, .slice sa yd.length sc] rfl rfl (news_4 _ _ _ _ _ _) (pkX_one ⟨yp, yn, yv, _, yd⟩ rfl) (by omega) (by unfold maxLen; omega) (by omega) (by simp; omega) (w1.heap.size + 1) (by simp) ?_; intro g3 cap3 w3 hown3 hgrow3 hat3 hlt3))
          have R := step_gen2 pkXC (x := ⟨yp, yn, yv, .slice sa yd.length sc, yd⟩) rfl hown2 hbel2 ((Below.refl _ _).alloc (Nat.le_refl _) _) hown3 hgrow3
          clear hown3 hgrow3 hown2
          rw [← HX0.out] at HF
          go_wp2
          go_roundw
          case rel => exact ⟨k + 1, true, acc ++ [⟨xp, xn, xv, .slice xa xd.length xc, xd⟩] ++ [⟨yp, yn, yv, .slice sa yd.length sc, yd⟩], by omega, by simp; omega, rfl, by go_num, by have h := R.1; rw [hlen2] at h; exact h, R.2, by rw [← HX0.out]; exact HF⟩
          case measure => simp [intOf] <;> omega
        · have hlo : less x0.path l[k].path = false := by simpa using hlo
          have HF : Hid (withP l x0 = (acc ++ [l[k]]) ++ insG (fun n => n.path) x0 false (l.drop (k + 1))) := by unfold Hid; rw [hall.out, ig_no _ x0 l k hlt hlo]; simp
          have hb : Op.bytesLess (bs xp).toList (bs l[k].path).toList = false := by rw [tx_toList, tx_toList, tx_bs, tx_bs]; rw [← HX0.out] at hlo; exact hlo
          clear hlo hall
          generalize l[k] = y at *
          obtain ⟨yp, yn, yv, ysp, yd⟩ := y
          simp only at hsp c0 c1 c2 c3 hb
          subst hsp
          go_wp2_with (first | (at_builtin; refine wpList_append_lies _ rfl _ _ 94 rfl W.heap.size 130 i0 (.agg #[.string ByteArray.empty, .string ByteArray.empty, .int .i64 0, .slice none 0 0]) 4 64 Tryd.underlying94 hi hz0 hz1 hz2 rfl (by omega) _ _ _ rfl ((hown.alloc _).alloc _) ⟨wr.heap.size + 1, 0, none⟩ 1 1 [.string (bs yp), .string (bs yn), .int .i64 yv, .slice sa yd.length sc] rfl rfl (news_4b _ _ _ _ _ _ _) (pkX_one ⟨yp, yn, yv, _, yd⟩ rfl) (by omega) (by unfold maxLen; omega) (by omega) (by simp; omega) (wr.heap.size + 2) (by simp) ?_; intro g1 cap1 w1 hown1 hgrow hat hlt1))
          have R := step_gen2 pkXC (x := ⟨yp, yn, yv, .slice sa yd.length sc, yd⟩) rfl hown hbel (((Below.refl _ _).alloc (Nat.le_refl _) _).alloc (by simp) _) hown1 hgrow
          clear hown1 hgrow hown
          go_wp2
          go_roundw
          case rel => exact ⟨k + 1, false, _, by omega, by simp; omega, rfl, by go_num, R.1, R.2, HF⟩
          case measure => simp [intOf] <;> omega
      · have HF : Hid (withP l x0 = (acc ++ [l[k]]) ++ insG (fun n => n.path) x0 true (l.drop (k + 1))) := by unfold Hid; rw [hall.out, ig_on _ x0 l k hlt]; simp
        clear hall
        generalize l[k] = y at *
        obtain ⟨yp, yn, yv, ysp, yd⟩ := y
        simp only at hsp c0 c1 c2 c3
        subst hsp
        go_wp2_with (first | (at_builtin; refine wpList_append_lies _ rfl _ _ 94 rfl W.heap.size 130 i0 (.agg #[.string ByteArray.empty, .string ByteArray.empty, .int .i64 0, .slice none 0 0]) 4 64 Tryd.underlying94 hi hz0 hz1 hz2 rfl (by omega) _ _ _ rfl ((hown.alloc _).alloc _) ⟨wr.heap.size + 1, 0, none⟩ 1 1 [.string (bs yp), .string (bs yn), .int .i64 yv, .slice sa yd.length sc] rfl rfl (news_4b _ _ _ _ _ _ _) (pkX_one ⟨yp, yn, yv, _, yd⟩ rfl) (by omega) (by unfold maxLen; omega) (by omega) (by simp; omega) (wr.heap.size + 2) (by simp) ?_; intro g1 cap1 w1 hown1 hgrow hat hlt1))
        have R := step_gen2 pkXC (x := ⟨yp, yn, yv, .slice sa yd.length sc, yd⟩) rfl hown hbel (((Below.refl _ _).alloc (Nat.le_refl _) _).alloc (by simp) _) hown1 hgrow
        clear hown1 hgrow hown
        go_wp2
        go_roundw
        case rel => exact ⟨k + 1, true, _, by omega, by simp; omega, rfl, by go_num, R.1, R.2, HF⟩
        case measure => simp [intOf] <;> omega
    · have hfin := ig_end (fun n : PkX => n.path) x0 l k hlt pl
      have HM := hid' (insG_mem (fun n : PkX => n.path) x0 l false)
      have HIN : ∀ (w' : World), Below w.heap.size w w' → ∀ n ∈ withP l x0, EntIn w' n.e := by
        intro w' hb n hn
        rcases HM.out n hn with rfl | h
        · rw [← HX0.out]; exact HX.out.below hb
        · exact (HL.out.2 n h).below hb
      have HI := hid' HIN
      clear HIN HM
      have h4 := ((bcell hbel).1 (w.heap.size + 2) 0 hwz).trans e4
      have h5 := ((bcell hbel).2 (w.heap.size + 2) 0 hwz).trans e5
      cases pl
      · have HF : Hid (withP l x0 = acc ++ [x0]) := by unfold Hid; rw [hall.out, hfin]; simp
        clear hall hfin
        go_wp2_with (first | (at_builtin; refine wpList_append_lies _ rfl _ _ 94 rfl W.heap.size 130 i0 (.agg #[.string ByteArray.empty, .string ByteArray.empty, .int .i64 0, .slice none 0 0]) 4 64 Tryd.underlying94 hi hz0 hz1 hz2 rfl (by omega) _ _ _ rfl (hown.alloc _) ⟨wr.heap.size, 0, none⟩ 1 1 [.string (bs xp), .string (bs xn), .int .i64 xv, .slice xa xd.length xc] rfl rfl (news_4 _ _ _ _ _ _) (pkX_one ⟨xp, xn, xv, _, xd⟩ rfl) (by omega) (by unfold maxLen; omega) (by omega) (by simp; omega) (wr.heap.size + 1) (by simp) ?_; intro g1 cap1 w1 hown1 hgrow hat hlt1; have R := step_gen2 pkXC (x := ⟨xp, xn, xv, .slice xa xd.length xc, xd⟩) rfl hown hbel ((Below.refl _ _).alloc (Nat.le_refl _) _) hown1 hgrow; have q4 := ((bcell R.2).1 (w.heap.size + 2) 0 hwz).trans e4; have q5 := ((bcell R.2).2 (w.heap.size + 2) 0 hwz).trans e5; have hw1 : w.heap.size + 2 < w1.heap.size := (by have := R.2.size; omega); clear hown1 hgrow hown))
        have HR := hid' R
        have HB := hid' (HW.out.trans (R.2.mono (by omega)))
        clear R hbel
        refine bodyPost_ret (v := .agg #[.slice (some ⟨g1, 0, none⟩) (acc.length + 1) cap1]) (by simp [results, Tryd.results104, go_sem, *]) rfl ⟨_, rfl, ⟨?_, ?_⟩, HB.out.setCell (show w.heap.size ≤ w.heap.size + 2 by omega) _⟩
        · rw [HX0.out, HF.out, ← HX0.out]
          exact RowX.of_own (ownsRow_setCell_below HR.out.1 hwz _)
        · rw [HX0.out]
          exact HI.out _ (HB.out.setCell (show w.heap.size ≤ w.heap.size + 2 by omega) _)
      · have HF : Hid (withP l x0 = acc) := by unfold Hid; rw [hall.out, hfin]; simp
        obtain ⟨va, vc, rfl⟩ := own_slice hown
        have HR := hid' (And.intro hown hbel)
        have HB := hid' (HW.out.trans (hbel.mono (by omega)))
        clear hown hbel hall
        go_wp2
        refine bodyPost_ret (v := .agg #[.slice va acc.length vc]) (by simp [results, Tryd.results104, go_sem, *]) rfl ⟨_, rfl, ⟨?_, ?_⟩, HB.out.setCell (show w.heap.size ≤ w.heap.size + 2 by omega) _⟩
        · rw [HX0.out, HF.out]
          exact RowX.of_own (ownsRow_setCell_below HR.out.1 hwz _)
        · rw [HX0.out]
          exact HI.out _ (HB.out.setCell (show w.heap.size ≤ w.heap.size + 2 by omega) _)

end Hst
end Go.Proofs.YtecocheolbkneaaDoor
namespace Go.Proofs.YtecocheolbkneaaDoor
open Go.RowKit
namespace Hst
set_option maxRecDepth 100000

theorem ip_yes (l : List PkX) (f n : Tx) (k : Nat) (hk : k < l.length) (h : l[k].e.name = n) (h' : folderP l[k].path = f) : inP (l.drop k) f n = some l[k] := by
  rw [List.drop_eq_getElem_cons hk]; unfold inP; rw [List.find?_cons]; simp [h, h']
theorem ip_no (l : List PkX) (f n : Tx) (k : Nat) (hk : k < l.length) (h : ¬ (l[k].e.name = n ∧ folderP l[k].path = f)) : inP (l.drop k) f n = inP (l.drop (k + 1)) f n := by
  rw [List.drop_eq_getElem_cons hk]; unfold inP; rw [List.find?_cons]
  have : (decide (l[k].e.name = n) && decide (folderP l[k].path = f)) = false := by
    simp only [Bool.and_eq_false_iff, decide_eq_false_iff_not]
    by_cases h1 : l[k].e.name = n
    · exact .inr fun h2 => h ⟨h1, h2⟩
    · exact .inl h1
  rw [this]
theorem ip_end (l : List PkX) (f n : Tx) (k : Nat) (hk : ¬ k < l.length) : inP (l.drop k) f n = none := by
  rw [List.drop_of_length_le (by omega)]; rfl
def zeroP : PkX := ⟨[], zeroE⟩
/-- What in and Find answer: the package where there is one. -/
def Hit (o : Option PkX) (x : PkX) : Prop := (∃ a n c, x.e.needs = .slice a n c) ∧ ∀ p, o = some p → x = p
def PathsOk (l : List PkX) : Prop := ∀ p ∈ l, p.path.length ≤ 50000

set_option maxHeartbeats 2000000 in
theorem inP_any (v : Value) (l : List PkX) (f n : ByteArray) (w : World) (hl : PksIn w v l) (hn : l.length ≤ 100000) (hp : PathsOk l) :
    Calls Tryd.prog 114 #[.agg #[v], .string f, .string n] w fun e w' => ∃ x, e = .returned (.tuple #[pkXV x, .bool (inP l (tx f) (tx n)).isSome]) ∧ Below w.heap.size w w' ∧ Hit (inP l (tx f) (tx n)) x := by
  obtain ⟨a, cap, rfl⟩ := hl.1.form
  have HL := hid' hl
  have HPO := hid' hp
  clear hl hp
  go_enter Tryd.func114, Tryd.ntmps114
  go_wp2
  have hbw := ((Below.refl w.heap.size w).alloc (Nat.le_refl _) (.cells #[.slice a l.length cap] 96)).alloc (by simp) (.cells #[.string ⟨#[]⟩, .string ⟨#[]⟩, .int .i64 0, .slice none 0 0] 130)
  have e := fun i => (show ((w.alloc (.cells #[.slice a l.length cap] 96)).alloc (.cells #[.string ⟨#[]⟩, .string ⟨#[]⟩, .int .i64 0, .slice none 0 0] 130)).cell? ⟨w.heap.size + 1, i, none⟩ = #[Value.string ⟨#[]⟩, .string ⟨#[]⟩, .int .i64 0, .slice none 0 0][i]? by simp)
  have ef := fun i => (show ((w.alloc (.cells #[.slice a l.length cap] 96)).alloc (.cells #[.string ⟨#[]⟩, .string ⟨#[]⟩, .int .i64 0, .slice none 0 0] 130)).frozen? ⟨w.heap.size + 1, i, none⟩ = false by simp)
  have hsz : ((w.alloc (.cells #[.slice a l.length cap] 96)).alloc (.cells #[.string ⟨#[]⟩, .string ⟨#[]⟩, .int .i64 0, .slice none 0 0] 130)).heap.size = w.heap.size + 2 := by simp
  generalize (w.alloc (.cells #[.slice a l.length cap] 96)).alloc (.cells #[.string ⟨#[]⟩, .string ⟨#[]⟩, .int .i64 0, .slice none 0 0] 130) = W at *
  have HW := hid' hbw
  have HL1 := hid' (HL.out.below hbw)
  have HS := hid' hsz
  have HE := hid' e
  have HEF := hid' ef
  clear hbw hsz e ef
  go_loopw [13] (fun i wr => ∃ k : Nat, k ≤ l.length ∧ i = .int .i64 k ∧ Below W.heap.size W wr ∧ Hid (inP l (tx f) (tx n) = inP (l.drop k) (tx f) (tx n))) (fun i _ => l.length - (intOf i).toNat)
  case atStart => exact ⟨0, Nat.zero_le _, rfl, Below.refl _ _, rfl⟩
  case round =>
    obtain ⟨k, hk, rfl, hbel, hall⟩ := hrel
    have hz := hbel.size
    have hwz : w.heap.size + 1 < W.heap.size := by have := HS.out; omega
    have hwr : w.heap.size + 1 < wr.heap.size := by omega
    obtain ⟨hcc, hff⟩ := bcell hbel
    have d0 := (hcc (w.heap.size + 1) 0 hwz).trans (HE.out 0)
    have d1 := (hcc (w.heap.size + 1) 1 hwz).trans (HE.out 1)
    have d2 := (hcc (w.heap.size + 1) 2 hwz).trans (HE.out 2)
    have d3 := (hcc (w.heap.size + 1) 3 hwz).trans (HE.out 3)
    have g0 := (hff (w.heap.size + 1) 0 hwz).trans (HEF.out 0)
    have g1 := (hff (w.heap.size + 1) 1 hwz).trans (HEF.out 1)
    have g2 := (hff (w.heap.size + 1) 2 hwz).trans (HEF.out 2)
    have g3 := (hff (w.heap.size + 1) 3 hwz).trans (HEF.out 3)
    simp at d0 d1 d2 d3
    have HB := hid' (HW.out.trans (hbel.mono (by omega)))
    clear hcc hff
    by_cases hlt : k < l.length
    · obtain ⟨g, o, cap', hv, hg, hc⟩ := (HL1.out.below hbel).1.pks hlt
      simp at hv
      obtain ⟨rfl, rfl⟩ := hv
      obtain ⟨c0, c1, c2, c3⟩ := hc k hlt
      obtain ⟨sa, sc, hsp⟩ := (HL.out.2 l[k] (List.getElem_mem hlt)).form'
      have HFO := hid' (fun w => folder_any (bs l[k].path) w (by rw [bs_size]; have := HPO.out l[k] (List.getElem_mem hlt); omega))
      rw [tx_bs] at HFO
      clear hc
      by_cases he : l[k].e.name = tx n
      · have hb : ((bs l[k].e.name).toList == n.toList) = true := by rw [he, bs_tx]; simp
        by_cases hf : folderP l[k].path = tx f
        · have HF : Hid (inP l (tx f) (tx n) = some l[k]) := by unfold Hid; rw [hall.out, ip_yes l (tx f) (tx n) k hlt he hf]
          have hb2 : ((bs (folderP l[k].path)).toList == f.toList) = true := by rw [hf, bs_tx]; simp
          clear he hall hf
          generalize bs (folderP l[k].path) = fq at *
          generalize l[k] = x at *
          obtain ⟨xp, xn, xv, xs, xd⟩ := x
          simp only at hsp c0 c1 c2 c3 hb HFO
          subst hsp
          go_wp2_with fail
          refine (HFO.out _).mono ?_
          rintro e w1 ⟨rfl, rfl⟩
          go_wp2
          refine bodyPost_ret (v := .tuple #[.agg #[.string (bs xp), .string (bs xn), .int .i64 xv, .slice sa xd.length sc], .bool true]) (by simp [results, Tryd.results114, go_sem, *]) rfl ⟨⟨xp, xn, xv, .slice sa xd.length sc, xd⟩, by rw [HF.out]; rfl, ?_, ⟨_, _, _, rfl⟩, fun p h => by rw [HF.out] at h; simpa using h⟩
          exact ((((HB.out.setCell (by simp) _).setCell (by simp) _).setCell (by simp) _).setCell (by simp) _).alloc (by simp; omega) _
        · have HF : Hid (inP l (tx f) (tx n) = inP (l.drop (k + 1)) (tx f) (tx n)) := by unfold Hid; rw [hall.out, ip_no l (tx f) (tx n) k hlt (fun h => hf h.2)]
          have hb2 : ((bs (folderP l[k].path)).toList == f.toList) = false := by rw [tx_toList, tx_toList, tx_bs]; simp [hf]
          clear he hall hf
          generalize bs (folderP l[k].path) = fq at *
          generalize l[k] = x at *
          go_wp2_with fail
          refine (HFO.out _).mono ?_
          rintro e w1 ⟨rfl, rfl⟩
          go_wp2
          go_roundw
          case rel => exact ⟨k + 1, by omega, by go_num, hbel.alloc hz _, HF⟩
          case measure => simp [intOf] <;> omega
      · have HF : Hid (inP l (tx f) (tx n) = inP (l.drop (k + 1)) (tx f) (tx n)) := by unfold Hid; rw [hall.out, ip_no l (tx f) (tx n) k hlt (fun h => he h.1)]
        have hb : ((bs l[k].e.name).toList == n.toList) = false := by rw [tx_toList, tx_toList, tx_bs]; simp [he]
        clear he hall
        generalize l[k] = x at *
        go_wp2
        go_roundw
        case rel => exact ⟨k + 1, by omega, by go_num, hbel.alloc hz _, HF⟩
        case measure => simp [intOf] <;> omega
    · have HF : Hid (inP l (tx f) (tx n) = none) := by unfold Hid; rw [hall.out, ip_end l (tx f) (tx n) k hlt]
      go_wp2
      refine bodyPost_ret (v := .tuple #[.agg #[.string ByteArray.empty, .string ByteArray.empty, .int .i64 0, .slice none 0 0], .bool false]) (by simp [results, Tryd.results114, go_sem, *]; rfl) rfl ⟨zeroP, by rw [HF.out]; rfl, ?_, ⟨none, 0, 0, rfl⟩, fun p h => by rw [HF.out] at h; simp at h⟩
      exact (((HB.out.setCell (by simp) _).setCell (by simp) _).setCell (by simp) _).setCell (by simp) _

end Hst
end Go.Proofs.YtecocheolbkneaaDoor
namespace Go.Proofs.YtecocheolbkneaaDoor
open Go.RowKit
namespace Hst
set_option maxRecDepth 100000

theorem findP_nil (l : List PkX) (n : Tx) : findP l n [] = inP l [] n := by rw [findP_eq]; simp
theorem findP_some (l : List PkX) (n f : Tx) (h : f ≠ []) {p : PkX} (hp : inP l f n = some p) : findP l n f = some p := by
  rw [findP_eq, dif_neg h, hp]
theorem findP_none (l : List PkX) (n f : Tx) (h : f ≠ []) (hp : inP l f n = none) : findP l n f = findP l n (folderP f) := by
  rw [findP_eq, dif_neg h, hp]
def strSize : Value → Nat
  | .string s => s.size
  | _ => 0
theorem folderP_le (p : Tx) : (folderP p).length ≤ p.length := by
  by_cases h : p = []
  · subst h; simp [folderP, folderGo]
  · exact Nat.le_of_lt (folderP_lt h)

set_option maxHeartbeats 2000000 in
theorem findP_any (v : Value) (l : List PkX) (f n : ByteArray) (w : World) (hl : PksIn w v l) (hn : l.length ≤ 100000) (hp : PathsOk l) (hf : f.size ≤ 50000) :
    Calls Tryd.prog 101 #[.agg #[v], .string f, .string n] w fun e w' => ∃ x, e = .returned (.tuple #[pkXV x, .bool (findP l (tx n) (tx f)).isSome]) ∧ Below w.heap.size w w' ∧ Hit (findP l (tx n) (tx f)) x := by
  obtain ⟨a, cap, rfl⟩ := hl.1.form
  have HL := hid' hl
  have HPO := hid' hp
  clear hl hp
  go_enter Tryd.func101, Tryd.ntmps101
  go_wp2
  have hbw := ((Below.refl w.heap.size w).alloc (Nat.le_refl _) (.cells #[.slice a l.length cap] 96)).alloc (by simp) (.cells #[.string ⟨#[]⟩, .string ⟨#[]⟩, .int .i64 0, .slice none 0 0] 130)
  have e := fun i => (show ((w.alloc (.cells #[.slice a l.length cap] 96)).alloc (.cells #[.string ⟨#[]⟩, .string ⟨#[]⟩, .int .i64 0, .slice none 0 0] 130)).cell? ⟨w.heap.size + 1, i, none⟩ = #[Value.string ⟨#[]⟩, .string ⟨#[]⟩, .int .i64 0, .slice none 0 0][i]? by simp)
  have et := (show ((w.alloc (.cells #[.slice a l.length cap] 96)).alloc (.cells #[.string ⟨#[]⟩, .string ⟨#[]⟩, .int .i64 0, .slice none 0 0] 130)).cell? ⟨w.heap.size, 0, none⟩ = some (.slice a l.length cap) by simp)
  have ef := fun i => (show ((w.alloc (.cells #[.slice a l.length cap] 96)).alloc (.cells #[.string ⟨#[]⟩, .string ⟨#[]⟩, .int .i64 0, .slice none 0 0] 130)).frozen? ⟨w.heap.size + 1, i, none⟩ = false by simp)
  have hsz : ((w.alloc (.cells #[.slice a l.length cap] 96)).alloc (.cells #[.string ⟨#[]⟩, .string ⟨#[]⟩, .int .i64 0, .slice none 0 0] 130)).heap.size = w.heap.size + 2 := by simp
  generalize (w.alloc (.cells #[.slice a l.length cap] 96)).alloc (.cells #[.string ⟨#[]⟩, .string ⟨#[]⟩, .int .i64 0, .slice none 0 0] 130) = W at *
  have HW := hid' hbw
  have HL1 := hid' (HL.out.below hbw)
  have HS := hid' hsz
  have HE := hid' e
  have HET := hid' et
  have HEF := hid' ef
  clear hbw hsz e ef et
  go_loopw [8] (fun q wr => ∃ t : ByteArray, t.size ≤ f.size ∧ q = .string t ∧ Below W.heap.size W wr ∧ Hid (findP l (tx n) (tx f) = findP l (tx n) (tx t))) (fun q _ => strSize q)
  case atStart => exact ⟨f, Nat.le_refl _, rfl, Below.refl _ _, rfl⟩
  case round =>
    obtain ⟨t, ht, rfl, hbel, hall⟩ := hrel
    have hz := hbel.size
    have hwz : w.heap.size + 1 < W.heap.size := by have := HS.out; omega
    have hwr : w.heap.size + 1 < wr.heap.size := by omega
    have et := ((bcell hbel).1 w.heap.size 0 (by omega)).trans HET.out
    have hwr0 : w.heap.size < wr.heap.size := by omega
    have HIN := hid' (fun w hl => inP_any (.slice a l.length cap) l t n w hl hn HPO.out)
    have HBL := hid' hbel
    by_cases h0 : tx t = []
    · have hb : (t.toList == []) = true := by rw [tx_toList, h0]; rfl
      have hte : t = ⟨#[]⟩ := by have := bs_tx t; rw [h0] at this; exact this.symm
      have HF : Hid (findP l (tx n) (tx f) = inP l [] (tx n)) := by unfold Hid; rw [hall.out, h0, findP_nil]
      have HI := hid' (fun w hl => inP_any (.slice a l.length cap) l ⟨#[]⟩ n w hl hn HPO.out)
      have htx : tx (⟨#[]⟩ : ByteArray) = [] := rfl
      rw [htx] at HI
      clear hall h0 hte htx HIN
      go_wp2_with fail
      refine (HI.out _ (HL1.out.below hbel)).mono ?_
      rintro e w1 ⟨x, rfl, hb1, ⟨sa, sn, sc, hsp⟩, hx⟩
      obtain ⟨hcc, hff⟩ := bcell (hbel.trans (hb1.mono hz))
      have d0 := (hcc (w.heap.size + 1) 0 hwz).trans (HE.out 0)
      have d1 := (hcc (w.heap.size + 1) 1 hwz).trans (HE.out 1)
      have d2 := (hcc (w.heap.size + 1) 2 hwz).trans (HE.out 2)
      have d3 := (hcc (w.heap.size + 1) 3 hwz).trans (HE.out 3)
      have g0 := (hff (w.heap.size + 1) 0 hwz).trans (HEF.out 0)
      have g1 := (hff (w.heap.size + 1) 1 hwz).trans (HEF.out 1)
      have g2 := (hff (w.heap.size + 1) 2 hwz).trans (HEF.out 2)
      have g3 := (hff (w.heap.size + 1) 3 hwz).trans (HEF.out 3)
      simp at d0 d1 d2 d3
      have HX := hid' hx
      have HB := hid' (HW.out.trans ((hbel.trans (hb1.mono hz)).mono (by omega)))
      have hz1 : w.heap.size + 1 < w1.heap.size := by have := hb1.size; omega
      clear hcc hff hb1 hbel hx HBL
      obtain ⟨xp, xn, xv, xs, xd⟩ := x
      simp only at hsp
      subst hsp
      generalize hio : inP l [] (tx n) = io at *
      generalize hib : io.isSome = ib at *
      go_wp2
      refine bodyPost_ret (v := .tuple #[.agg #[.string (bs xp), .string (bs xn), .int .i64 xv, .slice sa sn sc], .bool ib]) (by simp [results, Tryd.results101, go_sem, *]) rfl ⟨⟨xp, xn, xv, .slice sa sn sc, xd⟩, by rw [HF.out, hib], ?_, ⟨_, _, _, rfl⟩, fun p h => HX.out p (by rw [HF.out] at h; exact h)⟩
      exact (((HB.out.setCell (by simp) _).setCell (by simp) _).setCell (by simp) _).setCell (by simp) _
    · have hb : (t.toList == []) = false := by rw [tx_toList]; exact beq_eq_false_iff_ne.2 h0
      have HFO := hid' (fun w => folder_any t w (by omega))
      have hfl := folderP_lt h0
      have hfs : (bs (folderP (tx t))).size < t.size := by rw [bs_size, ← tx_length t]; exact hfl
      rcases hin : inP l (tx t) (tx n) with _ | p
      · have HF : Hid (findP l (tx n) (tx f) = findP l (tx n) (tx (bs (folderP (tx t))))) := by unfold Hid; rw [hall.out, findP_none l (tx n) (tx t) h0 hin, tx_bs]
        rw [hin] at HIN
        clear hall h0 hfl hin
        generalize bs (folderP (tx t)) = t2 at *
        go_wp2_with fail
        refine (HIN.out _ (HL1.out.below hbel)).mono ?_
        rintro e w1 ⟨x, rfl, hb1, ⟨sa, sn, sc, hsp⟩, hx⟩
        obtain ⟨xp, xn, xv, xs, xd⟩ := x
        simp only at hsp
        subst hsp
        have HB1 := hid' (hbel.trans (hb1.mono hz))
        have hz1 := hb1.size
        clear hb1 hbel hx
        simp only [Option.isSome]
        go_wp2_with fail
        refine (HFO.out _).mono ?_
        rintro e w2 ⟨rfl, rfl⟩
        go_wp2
        go_roundw
        case rel => exact ⟨t2, by omega, rfl, HB1.out.alloc (by omega) _, HF⟩
        case measure => simp [strSize]; omega
      · have HF : Hid (findP l (tx n) (tx f) = some p) := by unfold Hid; rw [hall.out, findP_some l (tx n) (tx t) h0 hin]
        rw [hin] at HIN
        clear hall h0 hfl hin hfs HFO
        go_wp2_with fail
        refine (HIN.out _ (HL1.out.below hbel)).mono ?_
        rintro e w1 ⟨x, rfl, hb1, ⟨sa, sn, sc, hsp⟩, hx⟩
        have hxp := hx p rfl
        subst hxp
        obtain ⟨hcc, hff⟩ := bcell (hbel.trans (hb1.mono hz))
        have d0 := (hcc (w.heap.size + 1) 0 hwz).trans (HE.out 0)
        have d1 := (hcc (w.heap.size + 1) 1 hwz).trans (HE.out 1)
        have d2 := (hcc (w.heap.size + 1) 2 hwz).trans (HE.out 2)
        have d3 := (hcc (w.heap.size + 1) 3 hwz).trans (HE.out 3)
        have g0 := (hff (w.heap.size + 1) 0 hwz).trans (HEF.out 0)
        have g1 := (hff (w.heap.size + 1) 1 hwz).trans (HEF.out 1)
        have g2 := (hff (w.heap.size + 1) 2 hwz).trans (HEF.out 2)
        have g3 := (hff (w.heap.size + 1) 3 hwz).trans (HEF.out 3)
        simp at d0 d1 d2 d3
        have HB := hid' (HW.out.trans ((hbel.trans (hb1.mono hz)).mono (by omega)))
        have hz1 : w.heap.size + 1 < w1.heap.size := by have := hb1.size; omega
        clear hcc hff hb1 hbel hx HBL
        obtain ⟨xp, xn, xv, xs, xd⟩ := x
        simp only at hsp
        subst hsp
        simp only [Option.isSome]
        go_wp2
        refine bodyPost_ret (v := .tuple #[.agg #[.string (bs xp), .string (bs xn), .int .i64 xv, .slice sa sn sc], .bool true]) (by simp [results, Tryd.results101, go_sem, *]) rfl ⟨⟨xp, xn, xv, .slice sa sn sc, xd⟩, by rw [HF.out]; rfl, ?_, ⟨_, _, _, rfl⟩, fun p h => by rw [HF.out] at h; simpa using h⟩
        exact ((((HB.out.setCell (by simp) _).setCell (by simp) _).setCell (by simp) _).setCell (by simp) _).alloc (by simp; omega) _

theorem mt_none {l : List PkX} {path : Tx} {n : NeedX} (h : findP l n.name path = none) : meetsP l path n = false := by simp [meetsP, h]
theorem mt_some {l : List PkX} {path : Tx} {n : NeedX} {p : PkX} (h : findP l n.name path = some p) : meetsP l path n = fitsP n.spans p.e.ver := by simp [meetsP, h]

set_option maxHeartbeats 2000000 in
theorem meets_any (v : Value) (l : List PkX) (f : ByteArray) (x : NeedX) (w : World) (hl : PksIn w v l) (hn : l.length ≤ 100000) (hp : PathsOk l) (hf : f.size ≤ 50000) (hx : NeedIn w x) :
    Calls Tryd.prog 102 #[.agg #[v], .string f, needXV x] w fun e w' => e = .returned (.bool (meetsP l (tx f) x)) ∧ Below w.heap.size w w' := by
  obtain ⟨a, cap, rfl⟩ := hl.1.form
  obtain ⟨xa, xc, hxf⟩ := hx.form
  have HFD := hid' (fun w hl => findP_any (.slice a l.length cap) l f (bs x.name) w hl hn hp hf)
  rw [tx_bs] at HFD
  have HM1 := hid' (mt_none (l := l) (path := tx f) (n := x))
  have HM2 := hid' (fun p => mt_some (l := l) (path := tx f) (n := x) (p := p))
  have HL := hid' hl
  have HX := hid' hx
  clear hl hp hx
  obtain ⟨xn, xsp, xs, xt⟩ := x
  simp only at hxf HFD HM1 HM2
  subst hxf
  have hbw := ((Below.refl w.heap.size w).alloc (Nat.le_refl _) (.cells #[.slice a l.length cap] 96)).alloc (by simp) (.cells #[.string (bs xn), .slice xa xs.length xc, .string (bs xt)] 86)
  have HL1 := hid' (HL.out.below hbw)
  have HX1 := hid' (HX.out.below hbw)
  have HW := hid' hbw
  clear hbw
  go_enter Tryd.func102, Tryd.ntmps102
  go_wp2_with fail
  refine (HFD.out _ HL1.out).mono ?_
  rintro e w1 ⟨y, rfl, hb1, ⟨sa, sn, sc, hsp⟩, hy⟩
  have c1 := (bcell hb1).1 (w.heap.size + 1) 1 (by simp)
  simp at c1
  have hz1 := hb1.size
  simp at hz1
  have hz1' : w.heap.size + 1 < w1.heap.size := by omega
  have HB1 := hid' (HW.out.trans (hb1.mono (by simp; omega)))
  have HXX := hid' (HX1.out.below hb1)
  clear hb1
  rcases hfd : findP l xn (tx f) with _ | p
  · have HF := hid' (HM1.out hfd)
    rw [hfd] at hy
    clear hfd hy
    obtain ⟨yp, yn, yv, ys, yd⟩ := y
    simp only at hsp
    subst hsp
    simp only [Option.isSome]
    go_wp2
    go_ret
    exact ⟨ret_bool (by rw [HF.out]), HB1.out.alloc (by omega) _⟩
  · have HF := hid' (HM2.out p hfd)
    have hyp := hy p hfd
    subst hyp
    clear hfd hy
    obtain ⟨yp, yn, yv, ys, yd⟩ := y
    simp only at hsp
    subst hsp
    have hal := (Below.refl w1.heap.size w1).alloc (Nat.le_refl _) (.cells #[.string (bs yp), .string (bs yn), .int .i64 yv, .slice sa sn sc] 130)
    have HFT := hid' (fitsX_any (.slice xa xs.length xc) yv xs _ ((HXX.out.below hal).sp) HXX.out.ne (by have := HXX.out.le; simp only at this; omega))
    have HBA := hid' (HB1.out.alloc (by omega) (.cells #[.string (bs yp), .string (bs yn), .int .i64 yv, .slice sa sn sc] 130))
    clear hal
    simp only [Option.isSome]
    go_wp2_with fail
    refine HFT.out.mono ?_
    rintro e w2 ⟨rfl, hb2⟩
    have HB2 := hid' (HBA.out.trans (hb2.mono (by simp; omega)))
    clear hb2
    go_wp2
    go_ret
    exact ⟨ret_bool (by rw [HF.out]), HB2.out⟩

end Hst
end Go.Proofs.YtecocheolbkneaaDoor
namespace Go.Proofs.YtecocheolbkneaaDoor
open Go.RowKit
namespace Hst

theorem PksIn.off {w w' : World} {b : Nat} {t : TypeId} {v : Value} {l : List PkX} (h : PksIn w v l) (hb : But b w w') (ht : tagOf w b = some t) (h1 : t ≠ 86) (h2 : t ≠ 106) (h3 : t ≠ 130) : PksIn w' v l :=
  ⟨RowX.off h.1 hb (by rw [ht]; simpa using h3), fun e he => (h.2 e he).off hb (odd_of ht h1 h2)⟩
theorem own_but {base e size n b : Nat} {w w' : World} {v : Value} {xs : List Value} (h : w.ownsRow base e size v n xs) (hb : But b w w') (hlt : b < base ∨ tagOf w b ≠ some e) : w'.ownsRow base e size v n xs := by
  have ht := fun c => tag_of_own (b := c) h
  obtain ⟨h1, h2⟩ := h
  refine ⟨h1, ?_⟩
  rcases h2 with h2 | ⟨g, cap, cur, rfl, hg, hh, r⟩
  · exact .inl h2
  · have hgb : g ≠ b := by
      intro e
      subst e
      rcases hlt with h | h
      · omega
      · exact h (ht g rfl)
    exact .inr ⟨g, cap, cur, rfl, hg, by rw [hb.block g (lt_of_block hh) hgb]; exact hh, r⟩
theorem EntsIn.drew {w : World} {v : Value} {l : List EntX} (h : EntsIn w v l) : EntsIn w.drew v l := h.below (Below.refl _ _).drew
theorem PksIn.drew {w : World} {v : Value} {l : List PkX} (h : PksIn w v l) : PksIn w.drew v l := h.below (Below.refl _ _).drew
theorem NeedIn.drew {w : World} {n : NeedX} (h : NeedIn w n) : NeedIn w.drew n := h.below (Below.refl _ _).drew

/-- A work at block b: what it is built from, and how far it is. -/
structure WorkAt (w : World) (b B : Nat) (st : List EntX) (fav : List PkX) (k : WorkX) : Prop where
  lt : b < w.heap.size
  tag : tagOf w b = some 143
  stock : ∃ v, w.cell? ⟨b, 0, none⟩ = some v ∧ EntsIn w v st
  fav : ∃ v, w.cell? ⟨b, 1, none⟩ = some v ∧ PksIn w v fav
  tree : ∃ v, w.cell? ⟨b, 2, none⟩ = some v ∧ PksIn w v k.tree
  list : ∃ v, w.cell? ⟨b, 3, none⟩ = some v ∧ w.ownsRow B 145 2 v k.list.length (k.list.flatMap whXC) ∧ ∀ x ∈ k.list, NeedsIn w x.needs x.nd
  gone : ∃ v, w.cell? ⟨b, 4, none⟩ = some v ∧ w.ownsRow B 164 4 v k.gone.length (k.gone.flatMap asXC) ∧ ∀ x ∈ k.gone, NeedIn w x.n
  f2 : w.frozen? ⟨b, 2, none⟩ = false
  f3 : w.frozen? ⟨b, 3, none⟩ = false
  f4 : w.frozen? ⟨b, 4, none⟩ = false
theorem WorkAt.below {w w' : World} {b B : Nat} {st : List EntX} {fav : List PkX} {k : WorkX} (h : WorkAt w b B st fav k) (hb : Below w.heap.size w w') : WorkAt w' b B st fav k := by
  obtain ⟨hc, hf⟩ := bcell hb
  obtain ⟨v0, e0, r0⟩ := h.stock
  obtain ⟨v1, e1, r1⟩ := h.fav
  obtain ⟨v2, e2, r2⟩ := h.tree
  obtain ⟨v3, e3, r3, q3⟩ := h.list
  obtain ⟨v4, e4, r4, q4⟩ := h.gone
  exact ⟨Nat.lt_of_lt_of_le h.lt hb.size, by rw [tagOf_below hb h.lt]; exact h.tag, ⟨v0, by rw [hc _ _ h.lt]; exact e0, r0.below hb⟩, ⟨v1, by rw [hc _ _ h.lt]; exact e1, r1.below hb⟩,
    ⟨v2, by rw [hc _ _ h.lt]; exact e2, r2.below hb⟩, ⟨v3, by rw [hc _ _ h.lt]; exact e3, own_below r3 hb, fun x hx => (q3 x hx).below hb⟩,
    ⟨v4, by rw [hc _ _ h.lt]; exact e4, own_below r4 hb, fun x hx => (q4 x hx).below hb⟩, by rw [hf _ _ h.lt]; exact h.f2, by rw [hf _ _ h.lt]; exact h.f3, by rw [hf _ _ h.lt]; exact h.f4⟩

end Hst
end Go.Proofs.YtecocheolbkneaaDoor
