/- Ptext, Itoa, Ptextb, Tdefs, Mtexts, Treeb, Rfit -/
import Derived.Test.YtecocheolbkneaaGreatDoorW18
import Derived.Test.YtecocheolbkneaaGreatDoorW09
import Derived.Test.YtecocheolbkneaaGreatDoorW01
import Derived.ShutString
import Derived.Test.YtecocheolbkneaaGreatDoorW08
import Derived.Test.YtecocheolbkneaaGreatDoorW10
import Derived.Deep.DrawnRows
namespace Go.Proofs.YtecocheolbkneaaGreatDoor
open Go.RowKit
namespace Hst
set_option maxRecDepth 100000

theorem strs_snoc' (d : List Tx) (p : Tx) : (d ++ [p]).flatMap strC = d.flatMap strC ++ [Value.string (bs p)] := by simp [strC]

set_option maxHeartbeats 2000000 in
theorem ntext_any (v : Value) (l : List NeedX) (w : World) (hl : NeedsIn w v l) (hn : l.length ≤ 1000) :
    Calls Tryz.prog 43 #[v] w fun e w' => e = .returned (.string (bs (needsT l))) ∧ Below w.heap.size w w' := by
  obtain ⟨i0, hi, iz0, iz1, iz2⟩ := info_parts info_str
  obtain ⟨a, cap, rfl⟩ := hl.1.form
  have HL := hid' hl
  have HNT : Hid (needsT l = joinT [44] (l.map fun n => n.text)) := rfl
  clear hl
  go_enter Tryz.func43, Tryz.ntmps43
  go_wp2
  go_loopw [3, 8] (fun v i wr => ∃ (k : Nat) (d : List Tx), k ≤ l.length ∧ d.length ≤ k ∧ i = .int .i64 k ∧ wr.ownsRow w.heap.size 9 1 v d.length (d.flatMap strC) ∧ Below w.heap.size w wr ∧ Hid (d = (l.take k).map fun n => n.text)) (fun _ i _ => l.length - (intOf i).toNat)
  case atStart => exact ⟨0, [], Nat.zero_le _, by simp, rfl, World.ownsRow_nil _ _ _ _, Below.refl _ _, by simp [Hid]⟩
  case round =>
    obtain ⟨k, d, hk, hd, rfl, hown, hbel, hall⟩ := hrel
    have hz := hbel.size
    by_cases hlt : k < l.length
    · obtain ⟨g, o, cap', hv, hg, hc⟩ := (HL.out.below hbel).1.needs hlt
      simp at hv
      obtain ⟨rfl, rfl⟩ := hv
      obtain ⟨c0, c1, c2⟩ := hc k hlt
      obtain ⟨sa, sc, hsp⟩ := (HL.out.2 l[k] (List.getElem_mem hlt)).form
      have HF : Hid (d ++ [l[k].text] = (l.take (k + 1)).map fun n => n.text) := by unfold Hid; rw [hall.out, List.take_succ_eq_append_getElem hlt, List.map_append]; rfl
      clear hc hall
      generalize l[k] = x at *
      obtain ⟨xn, xsp, xs, xt⟩ := x
      simp only at hsp c0 c1 c2 HF
      subst hsp
      go_wp2_with (first | (at_builtin; refine wpList_append_lies _ rfl _ _ 42 rfl w.heap.size 9 i0 (.string ByteArray.empty) 1 16 Tryz.underlying42 hi iz0 iz1 iz2 rfl (by omega) _ _ _ rfl ((hown.alloc _).alloc _) ⟨wr.heap.size + 1, 0, none⟩ 1 1 [.string (bs xt)] rfl rfl (by have := cell_one_new (wr.alloc (.cells #[.string (bs xn), .slice sa xs.length sc, .string (bs xt)] 105)) (.string (bs xt)) 9; simpa using this) (one_str _) (by omega) (by unfold maxLen; omega) (by omega) (by simp; omega) (wr.heap.size + 2) (by simp) ?_; intro g1 cap1 w1 hown1 hgrow hat hlt1))
      have R := step_gen2 strC (x := xt) rfl hown hbel (((Below.refl _ _).alloc (Nat.le_refl _) _).alloc (by simp) _) hown1 hgrow
      clear hown1 hgrow hown
      go_wp2
      go_roundw
      case rel => exact ⟨k + 1, _, by omega, by simp; omega, by go_num, R.1, R.2, HF⟩
      case measure => simp [intOf] <;> omega
    · have HF : Hid (d = l.map fun n => n.text) := by unfold Hid; rw [hall.out, List.take_of_length_le (by omega)]
      have hrx := RowX.of_own (f := strC) hown
      have HJ := hid' (join_all _ d ⟨#[44]⟩ wr hrx (by omega) (by show 1 ≤ 1000; omega) (fun x hx => by
        have h := HF.out
        rw [h] at hx
        simp only [List.mem_map] at hx
        obtain ⟨n, hn', rfl⟩ := hx
        have := (HL.out.2 n hn').tx; omega))
      obtain ⟨da, dc, rfl⟩ := own_slice hown
      have HB := hid' hbel
      clear hall hown hrx hbel
      go_wp2_with fail
      refine HJ.out.mono ?_
      rintro e w1 ⟨rfl, hb1⟩
      have HB1 := hid' (HB.out.trans (hb1.mono hz))
      clear hb1
      go_wp2
      go_ret
      exact ⟨ret_str (by rw [HNT.out, HF.out]; rfl), HB1.out⟩

set_option maxHeartbeats 2000000 in
theorem needs_any' (b : Nat) (s : SiteX) (w : World) (hs : SAt w b s) (hok : SOk s) :
    Calls Tryz.prog 18 #[.pointer (some ⟨b, 0, none⟩)] w fun e w' => e = .returned (.string (bs (needsT s.needs))) ∧ Below w.heap.size w w' := by
  obtain ⟨e1, r1⟩ := hs.needs
  have hlt := hs.lt
  have HT := hid' (ntext_any s.nv s.needs w r1 (by have := hok.nd; omega))
  generalize s.nv = nv at *
  generalize needsT s.needs = tt at *
  clear hs hok r1
  go_enter Tryz.func18, Tryz.ntmps18
  go_wp2_with fail
  refine HT.out.mono ?_
  rintro e w1 ⟨rfl, hb1⟩
  have HB := hid' hb1
  clear hb1
  go_wp2
  go_ret
  exact ⟨rfl, HB.out⟩

end Hst
end Go.Proofs.YtecocheolbkneaaGreatDoor
namespace Go.Proofs.YtecocheolbkneaaGreatDoor
open Go.RowKit
namespace Hst
set_option maxRecDepth 100000

theorem all_one (C : ByteArray) (hC : ∀ m, m < 10 → C.extract m (m + 1) = bs (numT m)) (n : Nat) (h : n < 10) : C.extract n (n + 1) = bs (numT n) := hC n h
theorem all_two (C : ByteArray) (hC : ∀ m, m < 100 → ¬ m < 10 → C.extract (m * 2) (m * 2 + 2) = bs (numT m)) (n : Nat) (h : n < 100) (h10 : ¬ n < 10) : C.extract (n * 2) (n * 2 + 2) = bs (numT n) := hC n h h10

set_option maxRecDepth 100000 in
set_option maxHeartbeats 1000000 in
theorem small_any (n : Nat) (w : World) (h : n < 100) :
    Calls Tryz.prog 170 #[.int .i64 n] w fun e w' => e = .returned (.string (bs (numT n))) ∧ w' = w := by
  by_cases h10 : n < 10
  · go_enter Tryz.func170, Tryz.ntmps170
    go_wp2
    go_ret
    refine ⟨ret_str (all_one _ ?_ n h10), rfl⟩
    decide +kernel
  · go_enter Tryz.func170, Tryz.ntmps170
    go_wp2
    go_ret
    refine ⟨ret_str (all_two _ ?_ n h h10), rfl⟩
    decide +kernel

set_option maxHeartbeats 1000000 in
theorem formatInt_any (n : Nat) (w : World) (h : n < 100) :
    Calls Tryz.prog 163 #[.int .i64 n, .int .i64 10] w fun e w' => e = .returned (.string (bs (numT n))) ∧ w' = w := by
  go_enter Tryz.func163, Tryz.ntmps163
  go_wp2_with (go_at_call 170; refine (small_any n _ h).mono ?_; rintro e w' ⟨rfl, rfl⟩)
  go_ret
  exact ⟨rfl, rfl⟩
set_option maxHeartbeats 1000000 in
theorem iitoa_any (n : Nat) (w : World) (h : n < 100) :
    Calls Tryz.prog 141 #[.int .i64 n] w fun e w' => e = .returned (.string (bs (numT n))) ∧ w' = w := by
  go_enter Tryz.func141, Tryz.ntmps141
  go_wp2_with (go_at_call 163; refine (formatInt_any n _ h).mono ?_; rintro e w' ⟨rfl, rfl⟩)
  go_ret
  exact ⟨rfl, rfl⟩
set_option maxHeartbeats 1000000 in
theorem itoa_nat (n : Nat) (w : World) (h : n < 100) :
    Calls Tryz.prog 102 #[.int .i64 n] w fun e w' => e = .returned (.string (bs (numT n))) ∧ w' = w := by
  go_enter Tryz.func102, Tryz.ntmps102
  go_wp2_with (go_at_call 141; refine (iitoa_any n _ h).mono ?_; rintro e w' ⟨rfl, rfl⟩)
  go_ret
  exact ⟨rfl, rfl⟩
theorem itoa_any (n : Int) (w : World) (h0 : 0 ≤ n) (h : n < 100) :
    Calls Tryz.prog 102 #[.int .i64 n] w fun e w' => e = .returned (.string (bs (numT n.toNat))) ∧ w' = w := by
  obtain ⟨m, rfl⟩ := Int.eq_ofNat_of_zero_le h0
  exact itoa_nat m w (by omega)

set_option maxHeartbeats 1000000 in
theorem third_any (n : Int) (w : World) (h0 : 0 ≤ n) (h1 : n ≤ 999999) :
    Calls Tryz.prog 109 #[.int .i64 n] w fun e w' => e = .returned (.int .i64 (n % 100)) ∧ w' = w := by
  go_enter Tryz.func109, Tryz.ntmps109
  go_wp2
  go_ret
  exact ⟨rfl, rfl⟩

set_option maxHeartbeats 1000000 in
theorem text_any (n : Int) (w : World) (h0 : 0 ≤ n) (h1 : n ≤ 999999) :
    Calls Tryz.prog 68 #[.int .i64 n] w fun e w' => e = .returned (.string (bs (verT (n / 10000).toNat (n / 100 % 100).toNat (n % 100).toNat))) ∧ w' = w := by
  have HI1 := hid' (fun w => itoa_any (n / 10000) w (by omega) (by omega))
  have HI2 := hid' (fun w => itoa_any (n / 100 % 100) w (by omega) (by omega))
  have HI3 := hid' (fun w => itoa_any (n % 100) w (by omega) (by omega))
  have HE : Hid (bs (numT (n / 10000).toNat) ++ bs [46] ++ bs (numT (n / 100 % 100).toNat) ++ bs [46] ++ bs (numT (n % 100).toNat) = bs (verT (n / 10000).toNat (n / 100 % 100).toNat (n % 100).toNat)) := by
    unfold Hid; rw [bs_append, bs_append, bs_append, bs_append]; rfl
  have l1 : (bs (numT (n / 10000).toNat)).size ≤ 2 := by rw [bs_size]; exact numT_len _
  have l2 : (bs (numT (n / 100 % 100).toNat)).size ≤ 2 := by rw [bs_size]; exact numT_len _
  have l3 : (bs (numT (n % 100).toNat)).size ≤ 2 := by rw [bs_size]; exact numT_len _
  generalize bs (verT (n / 10000).toNat (n / 100 % 100).toNat (n % 100).toNat) = q at *
  generalize bs (numT (n / 10000).toNat) = q1 at *
  generalize bs (numT (n / 100 % 100).toNat) = q2 at *
  generalize bs (numT (n % 100).toNat) = q3 at *
  go_enter Tryz.func68, Tryz.ntmps68
  go_wp2_with fail
  refine (first_any _ _ h0 h1).mono ?_
  rintro e w' ⟨rfl, rfl⟩
  go_wp2_with fail
  refine (HI1.out _).mono ?_
  rintro e w' ⟨rfl, rfl⟩
  go_wp2_with fail
  refine (second_any _ _ h0 h1).mono ?_
  rintro e w' ⟨rfl, rfl⟩
  go_wp2_with fail
  refine (HI2.out _).mono ?_
  rintro e w' ⟨rfl, rfl⟩
  go_wp2_with fail
  refine (third_any _ _ h0 h1).mono ?_
  rintro e w' ⟨rfl, rfl⟩
  go_wp2_with fail
  refine (HI3.out _).mono ?_
  rintro e w' ⟨rfl, rfl⟩
  go_wp2
  go_ret
  exact ⟨ret_str HE.out, rfl⟩

end Hst
end Go.Proofs.YtecocheolbkneaaGreatDoor
namespace Go.Proofs.YtecocheolbkneaaGreatDoor
open Go.RowKit
namespace Hst
set_option maxRecDepth 100000

/-- A version's place as text. -/
def verP (n : Int) : Tx := verT (n / 10000).toNat (n / 100 % 100).toNat (n % 100).toNat
def pkT (p : PkX) : Tx := p.path ++ [64] ++ verP p.e.ver
def treeT (l : List PkX) : Tx := joinT [59] (l.map pkT)

set_option maxHeartbeats 2000000 in
theorem ttext_any (v : Value) (l : List PkX) (w : World) (hl : PksIn w v l) (hn : l.length ≤ 1000) (hp : ∀ p ∈ l, p.path.length ≤ 900) :
    Calls Tryz.prog 35 #[.agg #[v]] w fun e w' => e = .returned (.string (bs (treeT l))) ∧ Below w.heap.size w w' := by
  obtain ⟨i0, hi, iz0, iz1, iz2⟩ := info_parts info_str
  obtain ⟨a, cap, rfl⟩ := hl.1.form
  have hbw := (Below.refl w.heap.size w).alloc (Nat.le_refl _) (.cells #[.slice a l.length cap] 73)
  have HL := hid' (hl.below hbw)
  have HBW := hid' hbw
  have HP := hid' hp
  have HNT : Hid (treeT l = joinT [59] (l.map pkT)) := rfl
  have hsz : (w.alloc (.cells #[.slice a l.length cap] 73)).heap.size = w.heap.size + 1 := by simp
  clear hl hbw hp
  go_enter Tryz.func35, Tryz.ntmps35
  go_wp2
  generalize w.alloc (.cells #[.slice a l.length cap] 73) = W at *
  have HSZ := hid' hsz
  clear hsz
  go_loopw [3, 10] (fun v i wr => ∃ (k : Nat) (d : List Tx), k ≤ l.length ∧ d.length ≤ k ∧ i = .int .i64 k ∧ wr.ownsRow W.heap.size 9 1 v d.length (d.flatMap strC) ∧ Below W.heap.size W wr ∧ Hid (d = (l.take k).map pkT)) (fun _ i _ => l.length - (intOf i).toNat)
  case atStart => exact ⟨0, [], Nat.zero_le _, by simp, rfl, World.ownsRow_nil _ _ _ _, Below.refl _ _, by simp [Hid]⟩
  case round =>
    obtain ⟨k, d, hk, hd, rfl, hown, hbel, hall⟩ := hrel
    have hz := hbel.size
    by_cases hlt : k < l.length
    · obtain ⟨g, o, cap', hv, hg, hc⟩ := (HL.out.below hbel).1.pks hlt
      simp at hv
      obtain ⟨rfl, rfl⟩ := hv
      obtain ⟨c0, c1, c2, c3⟩ := hc k hlt
      have hin := HL.out.2 l[k] (List.getElem_mem hlt)
      obtain ⟨sa, sc, hsp⟩ := hin.form'
      have HTX := hid' (fun w => text_any l[k].e.ver w hin.2.2.2.1 hin.2.2.2.2)
      have hpl := HP.out l[k] (List.getElem_mem hlt)
      have HF : Hid (d ++ [pkT l[k]] = (l.take (k + 1)).map pkT) := by unfold Hid; rw [hall.out, List.take_succ_eq_append_getElem hlt, List.map_append]; rfl
      have hpb : (bs l[k].path).size ≤ 900 := by rw [bs_size]; exact hpl
      have hvl : (bs (verT (l[k].e.ver / 10000).toNat (l[k].e.ver / 100 % 100).toNat (l[k].e.ver % 100).toNat)).size ≤ 8 := by rw [bs_size]; exact verT_len _ _ _
      have HCA : Hid (bs l[k].path ++ ⟨#[64]⟩ ++ bs (verT (l[k].e.ver / 10000).toNat (l[k].e.ver / 100 % 100).toNat (l[k].e.ver % 100).toNat) = bs (pkT l[k])) := by
        unfold Hid pkT verP
        rw [← bs_append, ← bs_append]; rfl
      clear hc hall hin hpl
      generalize l[k] = x at *
      obtain ⟨xp, xn, xv, xsp, xd⟩ := x
      simp only at hsp c0 c1 c2 c3 HTX hpb hvl HCA
      subst hsp
      generalize bs (verT (xv / 10000).toNat (xv / 100 % 100).toNat (xv % 100).toNat) = vb at *
      generalize bs xp = pb at *
      go_wp2_with fail
      refine (HTX.out _).mono ?_
      rintro e w1 ⟨rfl, rfl⟩
      have hown2 := (hown.alloc (.cells #[.string pb, .string (bs xn), .int .i64 xv, .slice sa xd.length sc] 113))
      go_wp2_with (first | (at_builtin; refine wpList_append_lies _ rfl _ _ 42 rfl W.heap.size 9 i0 (.string ByteArray.empty) 1 16 Tryz.underlying42 hi iz0 iz1 iz2 rfl (by omega) _ _ _ rfl (hown2.alloc _) ⟨wr.heap.size + 1, 0, none⟩ 1 1 [.string (pb ++ ⟨#[64]⟩ ++ vb)] rfl rfl (by have := cell_one_new (wr.alloc (.cells #[.string pb, .string (bs xn), .int .i64 xv, .slice sa xd.length sc] 113)) (.string (pb ++ ⟨#[64]⟩ ++ vb)) 9; simpa using this) (one_str _) (by omega) (by unfold maxLen; omega) (by omega) (by simp; omega) (wr.heap.size + 2) (by simp) ?_; intro g1 cap1 w2 hown1 hgrow hat hlt1))
      rw [HCA.out] at hown1
      have R := step_gen2 strC (x := pkT ⟨xp, xn, xv, .slice sa xd.length sc, xd⟩) rfl hown hbel (((Below.refl _ _).alloc (Nat.le_refl _) _).alloc (by simp) _) hown1 hgrow
      clear hown1 hgrow hown hown2
      go_wp2
      go_roundw
      case rel => exact ⟨k + 1, _, by omega, by simp; omega, by go_num, R.1, R.2, HF⟩
      case measure => simp [intOf] <;> omega
    · have HF : Hid (d = l.map pkT) := by unfold Hid; rw [hall.out, List.take_of_length_le (by omega)]
      have hrx := RowX.of_own (f := strC) hown
      have HJ := hid' (join_all _ d ⟨#[59]⟩ wr hrx (by omega) (by show 1 ≤ 1000; omega) (fun x hx => by
        have h := HF.out
        rw [h] at hx
        simp only [List.mem_map] at hx
        obtain ⟨p, hp', rfl⟩ := hx
        have h1 := HP.out p hp'
        have h2 := verT_len (p.e.ver / 10000).toNat (p.e.ver / 100 % 100).toNat (p.e.ver % 100).toNat
        unfold pkT verP; simp; omega))
      obtain ⟨da, dc, rfl⟩ := own_slice hown
      have HB := hid' (HBW.out.trans (hbel.mono (by have := HSZ.out; omega)))
      have hzw : w.heap.size ≤ wr.heap.size := by have := HSZ.out; omega
      clear hall hown hrx hbel
      go_wp2_with fail
      refine HJ.out.mono ?_
      rintro e w1 ⟨rfl, hb1⟩
      have HB1 := hid' (HB.out.trans (hb1.mono hzw))
      clear hb1
      go_wp2
      go_ret
      exact ⟨ret_str (by rw [HNT.out, HF.out]; rfl), HB1.out⟩

set_option maxHeartbeats 2000000 in
theorem tree_any' (b : Nat) (s : SiteX) (w : World) (hs : SAt w b s) (hok : SOk s) (hp : ∀ p ∈ s.tree, p.path.length ≤ 900) :
    Calls Tryz.prog 13 #[.pointer (some ⟨b, 0, none⟩)] w fun e w' => e = .returned (.string (bs (treeT s.tree))) ∧ Below w.heap.size w w' := by
  obtain ⟨v, e1, r1⟩ := hs.tree
  obtain ⟨ta, tc, rfl⟩ := r1.1.form
  have hlt := hs.lt
  have HT := hid' (ttext_any (.slice ta s.tree.length tc) s.tree w r1 hok.tr hp)
  generalize treeT s.tree = tt at *
  clear hs hok r1 hp
  go_enter Tryz.func13, Tryz.ntmps13
  go_wp2_with fail
  refine HT.out.mono ?_
  rintro e w1 ⟨rfl, hb1⟩
  have HB := hid' hb1
  clear hb1
  go_wp2
  go_ret
  exact ⟨rfl, HB.out⟩

end Hst
end Go.Proofs.YtecocheolbkneaaGreatDoor
namespace Go.Proofs.YtecocheolbkneaaGreatDoor
namespace Hst
set_option maxRecDepth 100000

def vtx (v : V3) : Tx := verT v.a.toNat v.b.toNat v.c.toNat
def textGo (st : List EntryD) : Bool → List PackD → Tx
  | _, [] => []
  | first, p :: r => (if first = true then [] else [59]) ++ p.path ++ [64] ++ vtx (verOf st p.of) ++ textGo st false r
def textR (st : List EntryD) (l : List PackD) : Tx := textGo st true l
theorem txg_next (st : List EntryD) (l : List PackD) (k : Nat) (h : k < l.length) (b : Bool) : textGo st b (l.drop k) = (if b = true then [] else [59]) ++ l[k].path ++ [64] ++ vtx (verOf st l[k].of) ++ textGo st false (l.drop (k + 1)) := by
  rw [List.drop_eq_getElem_cons h]; rfl
theorem txg_end (st : List EntryD) (l : List PackD) (k : Nat) (h : ¬ k < l.length) (b : Bool) : textGo st b (l.drop k) = [] := by
  rw [List.drop_of_length_le (by omega)]; cases b <;> rfl
def V3Ok (v : V3) : Prop := (0 ≤ v.a ∧ v.a ≤ 99) ∧ (0 ≤ v.b ∧ v.b ≤ 99) ∧ (0 ≤ v.c ∧ v.c ≤ 99)
/-- What Look answers, by the document. -/
def lookR (l : List PackD) (path name : Tx) : Tx × Int :=
  if (decide (0 < path.length) && (atR l path).isNone) = true then ([], 10) else if isNameR name = false then ([], 11) else match findR l path name with
  | none => ([], 3)
  | some k => ((packAt l k).path, 0)
theorem lkd_path {l : List PackD} {path name : Tx} (h0 : 0 < path.length) (h : atR l path = none) : lookR l path name = ([], 10) := by unfold lookR; rw [if_pos (by simp [h0, h])]
theorem lkd_name {l : List PackD} {path name : Tx} (h : (decide (0 < path.length) && (atR l path).isNone) = false) (h' : isNameR name = false) : lookR l path name = ([], 11) := by unfold lookR; rw [if_neg (by rw [h]; simp), if_pos h']
theorem lkd_find {l : List PackD} {path name : Tx} (h : (decide (0 < path.length) && (atR l path).isNone) = false) (h' : isNameR name = true) : lookR l path name = match findR l path name with
    | none => ([], 3)
    | some k => ((packAt l k).path, 0) := by unfold lookR; rw [if_neg (by rw [h]; simp), if_neg (by rw [h']; simp)]

end Hst
end Go.Proofs.YtecocheolbkneaaGreatDoor
namespace Go.Proofs.YtecocheolbkneaaGreatDoor
open Go.RowKit
namespace Hst

theorem ver_same {v : V3} (h : Valid v) : verP (place v) = vtx v := by
  obtain ⟨h1, h2, h3, _⟩ := place_parts h
  unfold verP vtx
  rw [h1, h2, h3]
theorem text_go {stx : List EntX} {st : List EntryD} (hs : StockSame stx st) : ∀ (l : List PackD) (b : Bool), (∀ p ∈ l, p.of < stx.length) → joinGo [59] b ((l.map (toX stx)).map pkT) = textGo st b l
  | [], b, _ => rfl
  | p :: r, b, ho => by
    obtain ⟨h1, h2⟩ := hs.ver (ho p (by simp))
    rw [List.map_cons, List.map_cons, joinGo, textGo, text_go hs r false fun q hq => ho q (List.mem_cons_of_mem _ hq)]
    have e : pkT (toX stx p) = p.path ++ [64] ++ vtx (verOf st p.of) := by
      unfold pkT toX
      simp only
      rw [h1, ver_same h2]
    rw [e]
    rcases b <;> simp
theorem tree_same {sx : SiteX} {sd : SiteD} (h : SiteSame sx sd) : treeT sx.tree = textR sd.stock sd.packs := by
  unfold treeT textR joinT
  rw [h.eq]
  exact text_go h.st _ true h.tr.of
theorem SiteSame.sok {sx : SiteX} {sd : SiteD} (h : SiteSame sx sd) : SOk sx := by
  refine ⟨⟨h.s40, fun e he => ?_⟩, by rw [h.nd.len]; exact h.n6, by have := h.tr.len; have := h.l40; omega⟩
  obtain ⟨j, hj, rfl⟩ := List.mem_iff_getElem.1 he
  have hj' : j < sd.stock.length := by rw [← h.st.all.len]; exact hj
  have hs := h.st.all.get j hj hj'
  refine ⟨by rw [hs.name]; exact isName_3 hs.isn, ?_⟩
  rw [hs.nd.len]
  have := h.h6 j hj
  unfold needsOf at this
  rw [List.getD_eq_getElem?_getD, List.getElem?_eq_getElem hj'] at this
  exact this
theorem SiteSame.path {sx : SiteX} {sd : SiteD} (h : SiteSame sx sd) : ∀ p ∈ sd.packs, p.of < sd.stock.length ∧ p.path.length ≤ 160 := fun p hp => by
  have h1 := path_short h.tr h.fold p hp
  have h2 := h.l40
  have h3 := h.tr.of p hp
  rw [h.st.all.len] at h3
  exact ⟨h3, by omega⟩
theorem SiteSame.pathx {sx : SiteX} {sd : SiteD} (h : SiteSame sx sd) : ∀ p ∈ sx.tree, p.path.length ≤ 900 := fun q hq => by
  obtain ⟨p, hp, rfl⟩ := (h.tr.mem q).1 hq
  have h1 := (h.path p hp).2
  have e : (toX sx.stock p).path = p.path := rfl
  rw [e]; omega
theorem SiteSame.v3 {sx : SiteX} {sd : SiteD} (h : SiteSame sx sd) : ∀ k, k < sd.stock.length → V3Ok (verOf sd.stock k) := fun k hk => by
  have hv := h.st.val k hk
  exact ⟨⟨hv.a0, hv.a1⟩, ⟨hv.b0, hv.b1⟩, ⟨hv.c0, hv.c1⟩⟩

end Hst
end Go.Proofs.YtecocheolbkneaaGreatDoor
namespace Go.Proofs.YtecocheolbkneaaGreatDoor
open Go.RowKit
namespace Hst
set_option maxRecDepth 100000

theorem foldersGo_len (p : Tx) : ∀ i, (foldersGo p i).length ≤ i + 1
  | 0 => by simp only [foldersGo]; split <;> simp
  | i + 1 => by
    have := foldersGo_len p i
    simp only [foldersGo]
    split
    · simp; omega
    · omega
/-- What is still to come when the counter stands at i (an int: -1 at the end). -/
def foldersTo (p : Tx) (i : Int) : List Tx := if i < 0 then [] else foldersGo p i.toNat
theorem to_yes (p : Tx) (i : Nat) (h : isEnd p i = true) : foldersTo p i = p.take i :: foldersTo p ((i : Int) - 1) := by
  unfold foldersTo
  rw [if_neg (by omega)]
  cases i with
  | zero => simp [foldersGo, h]
  | succ k =>
    rw [if_neg (by omega)]
    have e : (((k + 1 : Nat) : Int) - 1).toNat = k := by omega
    rw [e]; simp [foldersGo, h]
theorem to_no (p : Tx) (i : Nat) (h : isEnd p i = false) : foldersTo p i = foldersTo p ((i : Int) - 1) := by
  unfold foldersTo
  rw [if_neg (by omega)]
  cases i with
  | zero => simp [isEnd] at h
  | succ k =>
    rw [if_neg (by omega)]
    have e : (((k + 1 : Nat) : Int) - 1).toNat = k := by omega
    rw [e]; simp [foldersGo, h]
theorem end_of {s : ByteArray} {i : Nat} (h : i < s.size) : isEnd (tx s) i = (decide (i = 0) || decide (s[i] = 47)) := by
  have hl := tx_length s
  unfold isEnd
  have e : (tx s).getD i 0 = s[i] := by
    rw [List.getD_eq_getElem?_getD, List.getElem?_eq_getElem (by omega)]; rfl
  rw [e, hl]
  have : decide (i = s.size) = false := by simp; omega
  rw [this, Bool.false_or]

set_option maxHeartbeats 1000000 in
theorem folders_any (s : ByteArray) (w : World) (hs : s.size ≤ 100000) :
    Calls Tryz.prog 132 #[.string s] w fun e w' => ∃ v, e = .returned v ∧ Row w' w.heap.size v (foldersR (tx s)) ∧ Below w.heap.size w w' := by
  obtain ⟨i0, hi, hz0, hz1, hz2⟩ := info_parts info_str
  have HP : Hid (foldersR (tx s) = [] ++ foldersTo (tx s) s.size) := by
    unfold Hid foldersR foldersTo; rw [if_neg (by omega), tx_length]; simp
  go_enter Tryz.func132, Tryz.ntmps132
  go_wp2
  go_loopw [3, 4] (fun v i wr => ∃ (k : Int) (d : List Tx), -1 ≤ k ∧ k ≤ s.size ∧ (d.length : Int) ≤ s.size - k ∧ i = .int .i64 k ∧ wr.ownsRow w.heap.size 9 1 v d.length (strs d) ∧ Below w.heap.size w wr ∧ Hid (foldersR (tx s) = d ++ foldersTo (tx s) k)) (fun _ i _ => (intOf i + 1).toNat)
  case atStart => exact ⟨s.size, [], by omega, by omega, by simp, rfl, World.ownsRow_nil _ _ _ _, Below.refl _ _, HP⟩
  case round =>
    obtain ⟨k, d, hk0, hk1, hd, rfl, hown, hbel, hall⟩ := hrel
    have hsz := hbel.size
    clear HP
    by_cases hlt : 0 ≤ k
    · obtain ⟨i, rfl⟩ := Int.eq_ofNat_of_zero_le hlt
      have hiz : i ≤ s.size := by omega
      have hway : ((((i : Int) == (s.size : Int)) = true ∧ isEnd (tx s) i = true) ∨ (((i : Int) == (s.size : Int)) = false ∧ ((i : Int) == 0) = true ∧ isEnd (tx s) i = true) ∨
          (∃ h : i < s.size, ((i : Int) == (s.size : Int)) = false ∧ ((i : Int) == 0) = false ∧ (((s[i]'h).toNat : Int) == 47) = true ∧ isEnd (tx s) i = true)) ∨
          (∃ h : i < s.size, ((i : Int) == (s.size : Int)) = false ∧ ((i : Int) == 0) = false ∧ (((s[i]'h).toNat : Int) == 47) = false ∧ isEnd (tx s) i = false) := by
        by_cases e1 : i = s.size
        · exact .inl (.inl ⟨by simp [e1], by unfold isEnd; rw [tx_length]; simp [e1]⟩)
        · have b1 : ((i : Int) == (s.size : Int)) = false := beq_eq_false_iff_ne.2 (by omega)
          have h : i < s.size := by omega
          have he := end_of h
          by_cases e2 : i = 0
          · exact .inl (.inr (.inl ⟨b1, by simp [e2], by rw [he]; simp [e2]⟩))
          · have b2 : ((i : Int) == 0) = false := beq_eq_false_iff_ne.2 (by omega)
            by_cases e3 : s[i] = 47
            · exact .inl (.inr (.inr ⟨h, b1, b2, by rw [e3]; rfl, by rw [he]; simp [e3]⟩))
            · refine .inr ⟨h, b1, b2, ?_, by rw [he]; simp [e2, e3]⟩
              exact beq_eq_false_iff_ne.2 (fun hh => e3 (UInt8.toNat_inj.1 (by simp; omega)))
      rcases hway with hw | ⟨hin, b1, b2, b3, he⟩
      · have he : isEnd (tx s) i = true := by rcases hw with ⟨_, h⟩ | ⟨_, _, h⟩ | ⟨_, _, _, _, h⟩ <;> exact h
        have HN : Hid (foldersR (tx s) = (d ++ [(tx s).take i]) ++ foldersTo (tx s) ((i : Int) - 1)) := by
          unfold Hid; rw [hall.out, to_yes (tx s) i he]; simp
        have hx := ext_to s i
        have HX := hid' hx
        clear he hall hx
        rcases hw with ⟨b1, _⟩ | ⟨b1, b2, _⟩ | ⟨hin, b1, b2, b3, _⟩
        all_goals
          go_wp2_with (first
            | (at_builtin; refine wpList_append_lies _ rfl _ _ 42 rfl w.heap.size 9 i0 (.string ByteArray.empty) 1 16 Tryz.underlying42 hi hz0 hz1 hz2 rfl (by omega) _ _ _ rfl (hown.alloc _) ⟨wr.heap.size, 0, none⟩ 1 1 [.string (s.extract 0 i)] rfl rfl (cell_one_new _ _ _) (one_str _) (by omega) (by unfold maxLen; omega) (by omega) (by simp; omega) (wr.heap.size + 1) (by simp) ?_; intro g cap w1 hown1 hgrow hat hlt1))
          have R := step_own HX.out hown hbel hown1 hgrow
          clear hown1 hgrow hown
          go_wp2
          go_roundw
          case rel => exact ⟨(i : Int) - 1, _, by omega, by omega, by simp; omega, by go_num, R.1, R.2, HN⟩
          case measure => simp [intOf] <;> omega
      · have HN : Hid (foldersR (tx s) = d ++ foldersTo (tx s) ((i : Int) - 1)) := by
          unfold Hid; rw [hall.out, to_no (tx s) i he]
        clear he hall
        go_wp2
        go_roundw
        case rel => exact ⟨(i : Int) - 1, d, by omega, by omega, by omega, by go_num, hown, hbel, HN⟩
        case measure => simp [intOf] <;> omega
    · have HN : Hid (foldersR (tx s) = d) := by
        unfold Hid; rw [hall.out]; unfold foldersTo; rw [if_pos (by omega)]; simp
      have HR := hid' (row_of hown HN.out hbel)
      clear hown hbel hall HN
      go_wp2
      go_ret
      exact ⟨_, rfl, HR.out.1, HR.out.2⟩


theorem RowV {w : World} {base : Nat} {v : Value} {d : List Tx} (h : Row w base v d) : ∃ a cap, v = .slice a d.length cap ∧ StrsR w a d.length cap d := by
  obtain ⟨a, cap, rfl⟩ := own_slice h
  exact ⟨a, cap, rfl, StrsR.of_row h rfl⟩
theorem foldersGo_mem (p : Tx) : ∀ (i : Nat), ∀ x ∈ foldersGo p i, x.length ≤ p.length
  | 0, x, h => by
    simp only [foldersGo] at h
    split at h
    · simp at h; subst h; simp
    · simp at h
  | i + 1, x, h => by
    simp only [foldersGo] at h
    split at h
    · simp only [List.mem_cons] at h
      rcases h with rfl | h
      · simp; exact Nat.min_le_right _ _
      · exact foldersGo_mem p i x h
    · exact foldersGo_mem p i x h
theorem foldersR_mem {p x : Tx} (h : x ∈ foldersR p) : x.length ≤ p.length := foldersGo_mem p _ x h
theorem foldersR_len (p : Tx) : (foldersR p).length ≤ p.length + 1 := foldersGo_len p _
theorem fg_yes (l : List PackD) (name : Tx) (f : List Tx) (k j : Nat) (hk : k < f.length) (h : atR l (joinR f[k] name) = some j) : findGo l name (f.drop k) = some j := by
  rw [List.drop_eq_getElem_cons hk]; simp [findGo, h]
theorem fg_no (l : List PackD) (name : Tx) (f : List Tx) (k : Nat) (hk : k < f.length) (h : atR l (joinR f[k] name) = none) : findGo l name (f.drop k) = findGo l name (f.drop (k + 1)) := by
  rw [List.drop_eq_getElem_cons hk]; simp [findGo, h]
theorem fg_end (l : List PackD) (name : Tx) (f : List Tx) (k : Nat) (hk : ¬ k < f.length) : findGo l name (f.drop k) = none := by
  rw [List.drop_of_length_le (by omega)]; rfl

set_option maxHeartbeats 1000000 in
theorem find_any (a : Option Addr) (n cap : Nat) (l : List PackD) (p q : ByteArray) (w : World) (hl : PacksR w a n cap l) (hn : n ≤ 100000) (hp : p.size ≤ 50000) (hq : q.size ≤ 50000) :
    Calls Tryz.prog 93 #[.slice a n cap, .string p, .string q] w fun e w' => e = .returned (.int .i64 (idx (findR l (tx p) (tx q)))) ∧ Below w.heap.size w w' := by
  have HP : Hid (findR l (tx p) (tx q) = findGo l (tx q) (foldersR (tx p))) := rfl
  have HL := hid' hl
  have hfl := foldersR_len (tx p)
  have HM := hid' (fun x (h : x ∈ foldersR (tx p)) => foldersR_mem h)
  rw [tx_length] at hfl
  clear hl
  go_enter Tryz.func93, Tryz.ntmps93
  go_wp2_with fail
  refine (folders_any p _ (by omega)).mono ?_
  rintro e w1 ⟨v, rfl, hrow, hb1⟩
  obtain ⟨b, cb, rfl, hst⟩ := RowV hrow
  generalize foldersR (tx p) = f at *
  have HST := hid' hst
  have HL1 := hid' (HL.out.below hb1)
  have HB1 := hid' hb1
  clear hrow hst hb1 HL
  go_wp2
  go_loop [8] (fun i => ∃ k : Nat, k ≤ f.length ∧ i = .int .i64 k ∧ Hid (findR l (tx p) (tx q) = findGo l (tx q) (f.drop k))) (fun i => f.length - (intOf i).toNat)
  case atStart => exact ⟨0, Nat.zero_le _, rfl, HP⟩
  case round =>
    obtain ⟨k, hk, rfl, hall⟩ := hrel
    clear HP
    by_cases hlt : k < f.length
    · obtain ⟨g, o, rfl, hg, hc⟩ := HST.out.cells hlt
      have c0 := hc k hlt
      have hfk : (bs f[k]).size ≤ 50000 := by
        have := HM.out f[k] (List.getElem_mem hlt)
        rw [tx_length] at this
        rw [bs_size]; omega
      have HJ := hid' (fun w => join_any (bs f[k]) q w (by omega) (by omega))
      rw [tx_bs] at HJ
      have HA := hid' (fun (w : World) hl => at_any a n cap l (bs (joinR f[k] (tx q))) w hl hn)
      rw [tx_bs] at HA
      clear hc
      rcases hat : atR l (joinR f[k] (tx q)) with _ | j
      · have HF : Hid (findR l (tx p) (tx q) = findGo l (tx q) (f.drop (k + 1))) := by unfold Hid; rw [hall.out, fg_no l (tx q) f k hlt hat]
        rw [hat] at HA
        generalize bs (joinR f[k] (tx q)) = jn at *
        generalize bs f[k] = fk at *
        clear hat hall
        go_wp2_with fail
        refine (HJ.out _).mono ?_
        rintro e w2 ⟨rfl, rfl⟩
        go_wp2_with fail
        refine (HA.out _ HL1.out).mono ?_
        rintro e w3 ⟨rfl, rfl⟩
        simp only [idx]
        go_wp2
        go_round
        case rel => exact ⟨k + 1, by omega, by go_num, HF⟩
        case measure => simp [intOf] <;> omega
      · have HF : Hid (findR l (tx p) (tx q) = some j) := by unfold Hid; rw [hall.out, fg_yes l (tx q) f k j hlt hat]
        rw [hat] at HA
        generalize bs (joinR f[k] (tx q)) = jn at *
        generalize bs f[k] = fk at *
        clear hat hall
        go_wp2_with fail
        refine (HJ.out _).mono ?_
        rintro e w2 ⟨rfl, rfl⟩
        go_wp2_with fail
        refine (HA.out _ HL1.out).mono ?_
        rintro e w3 ⟨rfl, rfl⟩
        simp only [idx]
        go_wp2
        go_ret
        exact ⟨ret_int (by rw [HF.out]; rfl), HB1.out⟩
    · have HF : Hid (findR l (tx p) (tx q) = none) := by unfold Hid; rw [hall.out, fg_end l (tx q) f k hlt]
      go_wp2
      go_ret
      exact ⟨ret_int (by rw [HF.out]; rfl), HB1.out⟩

end Hst
end Go.Proofs.YtecocheolbkneaaGreatDoor
namespace Go.Proofs.YtecocheolbkneaaGreatDoor
open Go.RowKit
namespace Hst
set_option maxRecDepth 100000

theorem an_yes (f : Tx → Bool) (d : List Tx) (k : Nat) (hk : k < d.length) (h : f d[k] = true) : (d.drop k).any f = true := by
  rw [List.drop_eq_getElem_cons hk, List.any_cons, h, Bool.true_or]
theorem an_no (f : Tx → Bool) (d : List Tx) (k : Nat) (hk : k < d.length) (h : f d[k] = false) : (d.drop k).any f = (d.drop (k + 1)).any f := by
  rw [List.drop_eq_getElem_cons hk, List.any_cons, h, Bool.false_or]
theorem an_end (f : Tx → Bool) (d : List Tx) (k : Nat) (hk : ¬ k < d.length) : (d.drop k).any f = false := by
  rw [List.drop_of_length_le (by omega)]; rfl

/-- What is known of an alternative in the midst of its conditions. -/
def AltSt (alt bl : Bool) (m : List Tx) (v : V3) : Prop := (bl = true → alt = m.all (fun x => holdsR x v)) ∧ (bl = false → alt = false)

attribute [local go_sem ↓] Go.wp_at_zero Go.wp_at_succ

set_option maxHeartbeats 2000000 in
theorem fit_any (s : ByteArray) (a b c : Int) (w : World) (h60 : s.size ≤ 60) :
    Calls Tryz.prog 123 #[.string s, verV a b c] w fun e w' => e = .returned (.bool (fitR (tx s) ⟨a, b, c⟩)) ∧ Below w.heap.size w w' := by
  have HP : Hid (fitR (tx s) ⟨a, b, c⟩ = (splitL 124 (tx s)).any (fun x => altFitR x ⟨a, b, c⟩)) := rfl
  go_enter Tryz.func123, Tryz.ntmps123
  go_wp2_with fail
  refine (rsplit_any s 124 _ (by omega)).mono ?_
  rintro e w1 ⟨v, rfl, hrow, hb1⟩
  obtain ⟨g, cap, rfl, hg1, hg2, hcell⟩ := hrow.form (splitL_ne _ _)
  have HS := hid (piece_mem (n := 124) h60)
  have hlen := splitL_len 124 (tx s)
  rw [tx_length] at hlen
  generalize splitL 124 (tx s) = d at *
  have HC := hid hcell
  have hz1 := hb1.size
  simp at hz1
  have v0 := (bcell hb1).1 w.heap.size 0 (by simp)
  have v1 := (bcell hb1).1 w.heap.size 1 (by simp)
  have v2 := (bcell hb1).1 w.heap.size 2 (by simp)
  simp at v0 v1 v2
  have HB1 := hid (((Below.refl _ _).alloc (Nat.le_refl _) _).trans (hb1.mono (by simp)) : Below w.heap.size w w1)
  clear hcell hrow hb1
  go_wp2
  go_loopw [6] (fun i wr => ∃ (k : Nat), k ≤ d.length ∧ i = .int .i64 k ∧ Below w1.heap.size w1 wr ∧ Hid (fitR (tx s) ⟨a, b, c⟩ = (d.drop k).any (fun x => altFitR x ⟨a, b, c⟩))) (fun i _ => d.length - (intOf i).toNat)
  case atStart => exact ⟨0, by omega, rfl, Below.refl _ _, by unfold Hid; rw [HP.out]; rfl⟩
  case round =>
    obtain ⟨k, hk, rfl, hbel, hall⟩ := hrel
    clear HP
    have hz := hbel.size
    by_cases hlt : k < d.length
    · have hc := (hbel.cell (p := ⟨g, k, none⟩) hg2).trans (HC.out k hlt)
      have hps := HS.out k hlt
      have HA : Hid (altFitR d[k] ⟨a, b, c⟩ = (splitL 38 (tx (bs d[k]))).all (fun x => holdsR x ⟨a, b, c⟩)) := by unfold Hid; rw [tx_bs]; rfl
      have HY := hid (an_yes (fun x => altFitR x ⟨a, b, c⟩) d k hlt)
      have HN := hid (an_no (fun x => altFitR x ⟨a, b, c⟩) d k hlt)
      generalize altFitR d[k] ⟨a, b, c⟩ = alt at *
      generalize bs d[k] = q at *
      go_wp2_with fail
      refine (rsplit_any q 38 _ (by omega)).mono ?_
      rintro e w2 ⟨v, rfl, hrow, hb2⟩
      obtain ⟨g2, cap2, rfl, hg3, hg4, hcell2⟩ := hrow.form (splitL_ne _ _)
      have HS2 := hid (piece_mem (n := 38) hps)
      have hlen2 := splitL_len 38 (tx q)
      rw [tx_length] at hlen2
      generalize splitL 38 (tx q) = m at *
      have HC2 := hid hcell2
      have hz2 := hb2.size
      have HB2 := hid (hbel.trans (hb2.mono hz))
      have hB2 := HB2.out
      have u0 := (hB2.cell (p := ⟨w.heap.size, 0, none⟩) (by show w.heap.size < _; omega)).trans v0
      have u1 := (hB2.cell (p := ⟨w.heap.size, 1, none⟩) (by show w.heap.size < _; omega)).trans v1
      have u2 := (hB2.cell (p := ⟨w.heap.size, 2, none⟩) (by show w.heap.size < _; omega)).trans v2
      clear hcell2 hrow hc hB2 v0 v1 v2
      go_wp2
      go_loopw [8, 9] (fun al i wq => ∃ (j : Nat) (bl : Bool), j ≤ m.length ∧ al = .bool bl ∧ i = .int .i64 j ∧ Below w2.heap.size w2 wq ∧ AltSt alt bl (m.drop j) ⟨a, b, c⟩) (fun _ i _ => m.length - (intOf i).toNat)
      case atStart => exact ⟨0, true, by omega, rfl, rfl, Below.refl _ _, ⟨fun _ => by rw [HA.out]; rfl, fun h => by cases h⟩⟩
      case round =>
        obtain ⟨j, bl, hj, rfl, rfl, hbel2, hall2⟩ := hrel
        clear HA
        have hz4 := hbel2.size
        have HB := hid (HB2.out.trans (hbel2.mono (by omega)))
        have HBw := hid (HB1.out.trans (HB.out.mono (by omega)))
        cases bl
        · -- the alternative does not fit
          have HF : Hid (alt = false) := hall2.2 rfl
          have HF2 : Hid (fitR (tx s) ⟨a, b, c⟩ = (d.drop (k + 1)).any (fun x => altFitR x ⟨a, b, c⟩)) := by unfold Hid; rw [hall.out, HN.out HF.out]
          by_cases hjl : j < m.length
          all_goals
            go_wp2
            go_roundw
            case rel => exact ⟨k + 1, by omega, by go_num, HB.out, HF2⟩
            case measure => simp [intOf]; omega
        · by_cases hjl : j < m.length
          · have hc2 := (hbel2.cell (p := ⟨g2, j, none⟩) hg4).trans (HC2.out j hjl)
            have hh := fun w => holds_any (bs m[j]) a b c w
            rw [tx_bs] at hh
            have HH := hid hh
            have t0 := (hbel2.cell (p := ⟨w.heap.size, 0, none⟩) (by show w.heap.size < _; omega)).trans u0
            have t1 := (hbel2.cell (p := ⟨w.heap.size, 1, none⟩) (by show w.heap.size < _; omega)).trans u1
            have t2 := (hbel2.cell (p := ⟨w.heap.size, 2, none⟩) (by show w.heap.size < _; omega)).trans u2
            have HY2 := hid (al_yes (fun x => holdsR x ⟨a, b, c⟩) m j hjl)
            have HN2 := hid (al_no (fun x => holdsR x ⟨a, b, c⟩) m j hjl)
            generalize holdsR m[j] ⟨a, b, c⟩ = cnd at *
            generalize bs m[j] = q2 at *
            clear hh u0 u1 u2
            have HF : AltSt alt cnd (m.drop (j + 1)) ⟨a, b, c⟩ := ⟨fun h => by rw [hall2.1 rfl, HY2.out h], fun h => by rw [hall2.1 rfl, HN2.out h]⟩
            have hgq : g2 < wr.heap.size := by omega
            have hwq : w.heap.size < wr.heap.size := by omega
            have hj0 : (0 : Int) ≤ (j : Int) := by omega
            have hj1 : (j : Int) < (m.length : Int) := by omega
            go_wp2
            go_region_held3 (fun w' => w'.cell? ⟨g2, j, none⟩ = some (.string q2) ∧ w'.cell? ⟨w.heap.size, 0, none⟩ = some (.int .i64 a) ∧ w'.cell? ⟨w.heap.size, 1, none⟩ = some (.int .i64 b) ∧ w'.cell? ⟨w.heap.size, 2, none⟩ = some (.int .i64 c)) (go_keep)
              (first | (go_at_call 155; refine (HH.out _).mono ?_; rintro e w3 ⟨rfl, hb3⟩; have hz3 := (bcell hb3).1; simp at hz3))
            have HB3 := hid (hbel2.drew.trans (hb3.mono hz4))
            clear hb3
            go_wp2
            go_roundw
            case rel => exact ⟨j + 1, cnd, by omega, rfl, by go_num, HB3.out, HF⟩
            case measure => simp [intOf]; omega
          · have HF : Hid (fitR (tx s) ⟨a, b, c⟩ = true) := by unfold Hid; rw [hall.out, HY.out (by rw [hall2.1 rfl, al_end _ m j hjl])]
            go_wp2
            go_ret
            exact ⟨ret_bool (by rw [HF.out]), HBw.out⟩
    · have HF : Hid (fitR (tx s) ⟨a, b, c⟩ = false) := by unfold Hid; rw [hall.out, an_end _ d k hlt]
      have HB := hid (HB1.out.trans (hbel.mono (by omega)))
      go_wp2
      go_ret
      exact ⟨ret_bool (by rw [HF.out]), HB.out⟩

end Hst
end Go.Proofs.YtecocheolbkneaaGreatDoor
