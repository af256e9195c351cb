/- Twinc, Twind, Pldefs, Mpiece, Tload, Mpaths -/
import Derived.Test.YtecocheolbkneabGreatDoorW26
import Derived.Test.YtecocheolbkneabGreatDoorW04
import Derived.Test.YtecocheolbkneabGreatDoorW05
import Derived.Test.YtecocheolbkneabGreatDoorW19
namespace Go.Proofs.YtecocheolbkneabGreatDoor
open Go.RowKit
namespace Hst
set_option maxRecDepth 100000

/-- What a call of both sites changes. -/
def TMv (x d : Nat) (w w' : World) : Prop := ∃ wa, SMv x w wa ∧ SMv d wa w'
abbrev opV (k on : Int) (S T : ByteArray) : Value := .agg #[.int .i64 k, .int .i64 on, .string S, .string T]
/-- The world with the two arguments laid down. -/
abbrev opW (w : World) (x d : Nat) (k on : Int) (S T : ByteArray) : World := (w.alloc (.cells #[ptV x, ptV d] 31)).alloc (.cells #[.int .i64 k, .int .i64 on, .string S, .string T] 27)
theorem opW_below (w : World) (x d : Nat) (k on : Int) (S T : ByteArray) : Below w.heap.size w (opW w x d k on S T) := ((Below.refl w.heap.size w).alloc (Nat.le_refl _) _).alloc (by simp) _
theorem opW_1 (w : World) (x d : Nat) (k on : Int) (S T : ByteArray) : (opW w x d k on S T).cell? ⟨w.heap.size, 1, none⟩ = some (ptV d) ∧ (opW w x d k on S T).cell? ⟨w.heap.size + 1, 2, none⟩ = some (.string S) ∧ (opW w x d k on S T).heap.size = w.heap.size + 2 := by
  refine ⟨?_, ?_, by simp⟩
  · simp [go_sem]
  · simp [go_sem]

set_option maxHeartbeats 4000000 in
theorem done5 (x d : Nat) (on : Int) (S T : ByteArray) (w : World) (h : TwinAt w x d) (hS : S.size ≤ 9223372036854775807) :
    Calls Tryz.prog 8 #[twV x d, opV 5 on S T] w fun e w' => e = .returned (.bool true) ∧ TMv x d w w' ∧ TwinAt w' x d := by
  obtain ⟨hx, hd, hxd⟩ := h.lt
  obtain ⟨sx, sd, h1, h2, h3⟩ := h
  have hba := opW_below w x d 5 on S T
  have HA := hid' (add_any' x sx S _ (h1.below hba) h3.sok hS)
  have HD := hid' (fun w h => addD_any d sd S w h h3.dok hS (fun _ hl => h3.lw_add hl))
  have HG := hid' (fun k w => add_agree h3 (l := tx S) (k := k) (x := x) (w := w))
  have H2 := hid' (h2.below hba)
  have HT := hid' (h1.below hba).tag
  have HTD := hid' (h2.below hba).tag
  have HM := hid' (SMv.of_below (b := x) hba)
  have HC := hid' (opW_1 w x d 5 on S T)
  generalize addR sd (tx S) = ar at *
  clear h1 h2 h3 hba
  go_enter Tryz.func8, Tryz.ntmps8
  go_wp2_with fail
  refine HA.out.mono ?_
  rintro e w1 ⟨k, rfl, hm1, hans⟩
  obtain ⟨sx', hs1, hss, rfl⟩ := HG.out k w1 hans
  obtain ⟨q1, q2, q3⟩ := HC.out
  have c1 := (hm1.but.cell (g := w.heap.size) (o := 1) (by omega) (by omega)).trans q1
  have c2 := (hm1.but.cell (g := w.heap.size + 1) (o := 2) (by omega) (by omega)).trans q2
  have hsz : w.heap.size + 2 ≤ w1.heap.size := by have := hm1.but.size; omega
  have hsa : w.heap.size < w1.heap.size := by omega
  have hsb : w.heap.size + 1 < w1.heap.size := by omega
  have HDA := hid' (H2.out.keep hm1.but (by omega) HT.out (by decide) (by decide) (by decide))
  have HM1 := hid' (HM.out.trans hm1)
  have HS1 := hid' hs1
  have HSS := hid' hss
  have HTD1 : Hid (tagOf w1 d = some 72) := HDA.out.tag
  clear hm1 hans hs1 hss q1 q2 q3
  go_wp2_with fail
  refine (HD.out _ HDA.out).mono ?_
  rintro e w2 ⟨rfl, hm2, hd2⟩
  have HR : Hid (TMv x d w w2 ∧ TwinAt w2 x d) := ⟨⟨w1, HM1.out, hm2⟩, sx', ar.1, HS1.out.other hm2.but hxd (.inr HTD1.out), hd2, HSS.out⟩
  clear hm2 hd2
  go_wp2_with fail
  refine (num_any _ _).mono ?_
  rintro e w3 ⟨rfl, rfl⟩
  go_wp2
  go_ret
  exact ⟨by simp, HR.out⟩

set_option maxHeartbeats 4000000 in
theorem done6 (x d : Nat) (on : Int) (S T : ByteArray) (w : World) (h : TwinAt w x d) :
    Calls Tryz.prog 8 #[twV x d, opV 6 on S T] w fun e w' => e = .returned (.bool true) ∧ TMv x d w w' ∧ TwinAt w' x d := by
  obtain ⟨hx, hd, hxd⟩ := h.lt
  obtain ⟨sx, sd, h1, h2, h3⟩ := h
  have hba := opW_below w x d 6 on S T
  have HA := hid' (drop_any' x sx S _ (h1.below hba) h3.sok)
  have HD := hid' (fun w h => dropD_any d sd S w h h3.dok (h3.lw_drop _))
  have HG := hid' (fun k w => drop_agree h3 (l := tx S) (k := k) (x := x) (w := w))
  have H2 := hid' (h2.below hba)
  have HT := hid' (h1.below hba).tag
  have HTD := hid' (h2.below hba).tag
  have HM := hid' (SMv.of_below (b := x) hba)
  have HC := hid' (opW_1 w x d 6 on S T)
  generalize dropR sd (tx S) = ar at *
  clear h1 h2 h3 hba
  go_enter Tryz.func8, Tryz.ntmps8
  go_wp2_with fail
  refine HA.out.mono ?_
  rintro e w1 ⟨k, rfl, hm1, hans⟩
  obtain ⟨sx', hs1, hss, rfl⟩ := HG.out k w1 hans
  obtain ⟨q1, q2, q3⟩ := HC.out
  have c1 := (hm1.but.cell (g := w.heap.size) (o := 1) (by omega) (by omega)).trans q1
  have c2 := (hm1.but.cell (g := w.heap.size + 1) (o := 2) (by omega) (by omega)).trans q2
  have hsz : w.heap.size + 2 ≤ w1.heap.size := by have := hm1.but.size; omega
  have hsa : w.heap.size < w1.heap.size := by omega
  have hsb : w.heap.size + 1 < w1.heap.size := by omega
  have HDA := hid' (H2.out.keep hm1.but (by omega) HT.out (by decide) (by decide) (by decide))
  have HM1 := hid' (HM.out.trans hm1)
  have HS1 := hid' hs1
  have HSS := hid' hss
  have HTD1 : Hid (tagOf w1 d = some 72) := HDA.out.tag
  clear hm1 hans hs1 hss q1 q2 q3
  go_wp2_with fail
  refine (HD.out _ HDA.out).mono ?_
  rintro e w2 ⟨rfl, hm2, hd2⟩
  have HR : Hid (TMv x d w w2 ∧ TwinAt w2 x d) := ⟨⟨w1, HM1.out, hm2⟩, sx', ar.1, HS1.out.other hm2.but hxd (.inr HTD1.out), hd2, HSS.out⟩
  clear hm2 hd2
  go_wp2_with fail
  refine (num_any _ _).mono ?_
  rintro e w3 ⟨rfl, rfl⟩
  go_wp2
  go_ret
  exact ⟨by simp, HR.out⟩

set_option maxHeartbeats 4000000 in
theorem done7 (x d : Nat) (on : Int) (S T : ByteArray) (w : World) (h : TwinAt w x d) :
    Calls Tryz.prog 8 #[twV x d, opV 7 on S T] w fun e w' => e = .returned (.bool true) ∧ TMv x d w w' ∧ TwinAt w' x d := by
  obtain ⟨hx, hd, hxd⟩ := h.lt
  obtain ⟨sx, sd, h1, h2, h3⟩ := h
  have hba := opW_below w x d 7 on S T
  have HA := hid' (update_any' x sx _ (h1.below hba) h3.sok)
  have HD := hid' (fun w h => updateD_any d sd w h h3.dok h3.lw_update)
  have HG := hid' (update_same h3 sx.nv)
  have H2 := hid' (h2.below hba)
  have HT := hid' (h1.below hba).tag
  have HTD := hid' (h2.below hba).tag
  have HM := hid' (SMv.of_below (b := x) hba)
  have HC := hid' (opW_1 w x d 7 on S T)
  generalize updateR sd = ar at *
  clear h1 h2 h3 hba
  go_enter Tryz.func8, Tryz.ntmps8
  go_wp2_with fail
  refine HA.out.mono ?_
  rintro e w1 ⟨rfl, hm1, hs1⟩
  have hss := HG.out.2
  rw [← HG.out.1]
  obtain ⟨q1, q2, q3⟩ := HC.out
  have c1 := (hm1.but.cell (g := w.heap.size) (o := 1) (by omega) (by omega)).trans q1
  have c2 := (hm1.but.cell (g := w.heap.size + 1) (o := 2) (by omega) (by omega)).trans q2
  have hsz : w.heap.size + 2 ≤ w1.heap.size := by have := hm1.but.size; omega
  have hsa : w.heap.size < w1.heap.size := by omega
  have hsb : w.heap.size + 1 < w1.heap.size := by omega
  have HDA := hid' (H2.out.keep hm1.but (by omega) HT.out (by decide) (by decide) (by decide))
  have HM1 := hid' (HM.out.trans hm1)
  have HS1 := hid' hs1
  have HSS := hid' hss
  have HTD1 : Hid (tagOf w1 d = some 72) := HDA.out.tag
  clear hm1 hs1 hss q1 q2 q3
  go_wp2_with fail
  refine (HD.out _ HDA.out).mono ?_
  rintro e w2 ⟨rfl, hm2, hd2⟩
  have HR : Hid (TMv x d w w2 ∧ TwinAt w2 x d) := ⟨⟨w1, HM1.out, hm2⟩, _, ar.1, HS1.out.other hm2.but hxd (.inr HTD1.out), hd2, HSS.out⟩
  clear hm2 hd2
  go_wp2_with fail
  refine (num_any _ _).mono ?_
  rintro e w3 ⟨rfl, rfl⟩
  go_wp2
  go_ret
  exact ⟨by simp, HR.out⟩

set_option maxHeartbeats 4000000 in
theorem done8 (x d : Nat) (on : Int) (S T : ByteArray) (w : World) (h : TwinAt w x d) :
    Calls Tryz.prog 8 #[twV x d, opV 8 on S T] w fun e w' => e = .returned (.bool true) ∧ TMv x d w w' ∧ TwinAt w' x d := by
  have hba := opW_below w x d 8 on S T
  have HN := hid' (tneeds_any x d _ (h.below hba))
  have HH := hid' (h.below hba)
  have HB := hid' hba
  clear h hba
  go_enter Tryz.func8, Tryz.ntmps8
  go_wp2_with fail
  refine HN.out.mono ?_
  rintro e w1 ⟨rfl, hb1⟩
  have HR : Hid (TMv x d w w1 ∧ TwinAt w1 x d) := ⟨⟨_, SMv.of_below HB.out, SMv.of_below hb1⟩, HH.out.below hb1⟩
  clear hb1
  go_wp2
  go_ret
  exact ⟨rfl, HR.out⟩

set_option maxHeartbeats 4000000 in
theorem done9 (x d : Nat) (on : Int) (S T : ByteArray) (w : World) (h : TwinAt w x d) :
    Calls Tryz.prog 8 #[twV x d, opV 9 on S T] w fun e w' => e = .returned (.bool true) ∧ TMv x d w w' ∧ TwinAt w' x d := by
  have hba := opW_below w x d 9 on S T
  have HN := hid' (ttree_any x d _ (h.below hba))
  have HH := hid' (h.below hba)
  have HB := hid' hba
  clear h hba
  go_enter Tryz.func8, Tryz.ntmps8
  go_wp2_with fail
  refine HN.out.mono ?_
  rintro e w1 ⟨rfl, hb1⟩
  have HR : Hid (TMv x d w w1 ∧ TwinAt w1 x d) := ⟨⟨_, SMv.of_below HB.out, SMv.of_below hb1⟩, HH.out.below hb1⟩
  clear hb1
  go_wp2
  go_ret
  exact ⟨rfl, HR.out⟩

/-- A call of a twin that Sites plays. -/
theorem done_any (x d : Nat) (k on : Int) (S T : ByteArray) (w : World) (h : TwinAt w x d) (hS : S.size ≤ 9223372036854775807) (h5 : 5 ≤ k) (h9 : k ≤ 9) :
    Calls Tryz.prog 8 #[twV x d, opV k on S T] w fun e w' => e = .returned (.bool true) ∧ TMv x d w w' ∧ TwinAt w' x d := by
  have hk : k = 5 ∨ k = 6 ∨ k = 7 ∨ k = 8 ∨ k = 9 := by omega
  rcases hk with rfl | rfl | rfl | rfl | rfl
  · exact done5 x d on S T w h hS
  · exact done6 x d on S T w h
  · exact done7 x d on S T w h
  · exact done8 x d on S T w h
  · exact done9 x d on S T w h

set_option maxHeartbeats 1000000 in
theorem pick_any (c : Int) (n : Nat) (w : World) (h0 : -9223372036854775808 ≤ c) (h1 : c ≤ 9223372036854775807) (hn : 0 < n) (hn2 : n ≤ 9223372036854775807) :
    Calls Tryz.prog 7 #[.int .i64 c, .int .i64 n] w fun e w' => ∃ k : Nat, e = .returned (.int .i64 k) ∧ k < n ∧ w' = w := by
  by_cases hc : c < 0
  · go_enter Tryz.func7, Tryz.ntmps7
    go_wp2
    go_ret
    have e : -((c + 1).tmod (n : Int)) = (-(c + 1)) % (n : Int) := by rw [← Int.neg_tmod, Int.tmod_eq_emod_of_nonneg (by omega)]
    have b0 := Int.emod_nonneg (-(c + 1)) (b := (n : Int)) (by omega)
    have b1 := Int.emod_lt_of_pos (-(c + 1)) (b := (n : Int)) (by omega)
    refine ⟨((-(c + 1)) % (n : Int)).toNat, ret_int ?_, by omega, rfl⟩
    rw [Int.toNat_of_nonneg b0]
    exact e
  · go_enter Tryz.func7, Tryz.ntmps7
    go_wp2
    go_ret
    have b0 := Int.emod_nonneg c (b := (n : Int)) (by omega)
    have b1 := Int.emod_lt_of_pos c (b := (n : Int)) (by omega)
    refine ⟨(c % (n : Int)).toNat, ret_int ?_, by omega, rfl⟩
    rw [Int.toNat_of_nonneg b0]

end Hst
end Go.Proofs.YtecocheolbkneabGreatDoor
namespace Go.Proofs.YtecocheolbkneabGreatDoor
open Go.RowKit
namespace Hst
set_option maxRecDepth 100000

theorem SMv.to_below {b B : Nat} {w w' : World} (h : SMv b w w') (hb : B ≤ b) (hB : B ≤ w.heap.size) : Below B w w' :=
  ⟨h.os, h.tape, h.output, h.but.size, fun k hk => h.but.block k (by omega) (by omega)⟩
theorem TMv.to_below {x d B : Nat} {w w' : World} (h : TMv x d w w') (hx : B ≤ x) (hd : B ≤ d) (hB : B ≤ w.heap.size) : Below B w w' := by
  obtain ⟨wa, h1, h2⟩ := h
  exact (h1.to_below hx hB).trans (h2.to_below hd (Nat.le_trans hB h1.but.size))
theorem SAt.grown {w w' : World} {base sz n b : Nat} {u : Value} {xs : List Value} {s : SiteX} (h : SAt w b s) (hg : w.grownBy w' u.ownBlock) (ho : w.ownsRow base 31 sz u n xs) : SAt w' b s := by
  have hblk := blk_grown hg ho h.lt h.tag (by decide)
  have hc : ∀ o, w'.cell? ⟨b, o, none⟩ = w.cell? ⟨b, o, none⟩ := fun o => World.cell?_of_block (w := w) hblk
  have hf : ∀ o, w'.frozen? ⟨b, o, none⟩ = w.frozen? ⟨b, o, none⟩ := fun o => World.frozen?_of_block (w := w) hblk
  obtain ⟨v0, e0, r0⟩ := h.stock
  obtain ⟨e1, r1⟩ := h.needs
  obtain ⟨v2, e2, r2⟩ := h.tree
  refine ⟨Nat.lt_of_lt_of_le h.lt hg.size, ?_, ⟨v0, by rw [hc]; exact e0, r0.1.grown hg ho (by decide), fun e he => (r0.2 e he).grown hg ho (by decide) (by decide)⟩, ⟨by rw [hc]; exact e1, r1.grown hg ho (by decide) (by decide)⟩, ⟨v2, by rw [hc]; exact e2, r2.1.grown hg ho (by decide), fun p hp => (r2.2 p hp).grown hg ho (by decide) (by decide)⟩, by rw [hf]; exact h.f1, by rw [hf]; exact h.f2⟩
  unfold tagOf
  rw [hblk]
  exact h.tag
theorem DAt.grown {w w' : World} {base sz n b : Nat} {u : Value} {xs : List Value} {s : SiteD} (h : DAt w b s) (hg : w.grownBy w' u.ownBlock) (ho : w.ownsRow base 31 sz u n xs) : DAt w' b s := by
  have hblk := blk_grown hg ho h.lt h.tag (by decide)
  have hc : ∀ o, w'.cell? ⟨b, o, none⟩ = w.cell? ⟨b, o, none⟩ := fun o => World.cell?_of_block (w := w) hblk
  have hf : ∀ o, w'.frozen? ⟨b, o, none⟩ = w.frozen? ⟨b, o, none⟩ := fun o => World.frozen?_of_block (w := w) hblk
  obtain ⟨v0, zs, e0, r0, z0⟩ := h.stock
  obtain ⟨v1, e1, r1⟩ := h.needs
  obtain ⟨v2, e2, r2⟩ := h.packs
  refine ⟨Nat.lt_of_lt_of_le h.lt hg.size, ?_, ⟨v0, zs, by rw [hc]; exact e0, ⟨RowX.grown r0.1 hg ho (by decide), fun z hz => RowX.grown (r0.2 z hz) hg ho (by decide)⟩, z0⟩, ⟨v1, by rw [hc]; exact e1, RowX.grown r1 hg ho (by decide)⟩, ⟨v2, by rw [hc]; exact e2, RowX.grown r2 hg ho (by decide)⟩, by rw [hf]; exact h.f1, by rw [hf]; exact h.f2⟩
  unfold tagOf
  rw [hblk]
  exact h.tag
theorem TwinAt.grown {w w' : World} {base sz n x d : Nat} {u : Value} {xs : List Value} (h : TwinAt w x d) (hg : w.grownBy w' u.ownBlock) (ho : w.ownsRow base 31 sz u n xs) : TwinAt w' x d := by
  obtain ⟨sx, sd, h1, h2, h3⟩ := h
  exact ⟨sx, sd, h1.grown hg ho, h2.grown hg ho, h3⟩
theorem TwinAt.tag {w : World} {x d : Nat} (h : TwinAt w x d) : tagOf w x = some 64 ∧ tagOf w d = some 72 := by
  obtain ⟨sx, sd, h1, h2, _⟩ := h
  exact ⟨h1.tag, h2.tag⟩

/-! ### the twins of a script -/
structure TwinsAt (B : Nat) (w : World) (ts : List (Nat × Nat)) : Prop where
  each : ∀ t ∈ ts, TwinAt w t.1 t.2 ∧ B ≤ t.1 ∧ B ≤ t.2
  two : ts.Pairwise fun s t => s.1 ≠ t.1 ∧ s.2 ≠ t.2
theorem pw_ne {ts : List (Nat × Nat)} (h : ts.Pairwise fun s t => s.1 ≠ t.1 ∧ s.2 ≠ t.2) : ∀ s ∈ ts, ∀ t ∈ ts, s ≠ t → s.1 ≠ t.1 ∧ s.2 ≠ t.2 := by
  induction ts with
  | nil => intro s hs; simp at hs
  | cons a r ih =>
    have h' := List.pairwise_cons.1 h
    intro s hs t ht hne
    rcases List.mem_cons.1 hs with h1 | h1
    · rcases List.mem_cons.1 ht with h2 | h2
      · exact absurd (h1.trans h2.symm) hne
      · rw [h1]; exact h'.1 t h2
    · rcases List.mem_cons.1 ht with h2 | h2
      · have := h'.1 s h1
        rw [h2]
        exact ⟨fun e => this.1 e.symm, fun e => this.2 e.symm⟩
      · exact ih h'.2 s h1 t h2 hne
theorem TwinsAt.nil (B : Nat) (w : World) : TwinsAt B w [] := ⟨by simp, .nil⟩
theorem TwinsAt.below {B : Nat} {w w' : World} {ts : List (Nat × Nat)} (h : TwinsAt B w ts) (hb : Below w.heap.size w w') : TwinsAt B w' ts := ⟨fun t ht => ⟨(h.each t ht).1.below hb, (h.each t ht).2⟩, h.two⟩
theorem TwinsAt.tmv {B : Nat} {w w' : World} {ts : List (Nat × Nat)} (h : TwinsAt B w ts) {t : Nat × Nat} (ht : t ∈ ts) (hm : TMv t.1 t.2 w w') (hw : TwinAt w' t.1 t.2) : TwinsAt B w' ts := by
  refine ⟨fun s hs => ⟨?_, (h.each s hs).2⟩, h.two⟩
  by_cases e : s = t
  · rw [e]; exact hw
  · obtain ⟨n1, n2⟩ := pw_ne h.two s hs t ht e
    obtain ⟨wa, m1, m2⟩ := hm
    have hs0 := (h.each s hs).1
    have ht0 := (h.each t ht).1
    obtain ⟨a1, a2⟩ := hs0.tag
    obtain ⟨b1, b2⟩ := ht0.tag
    have x1 : s.2 ≠ t.1 := fun e => by rw [e, b1] at a2; exact absurd a2 (by decide)
    have x2 : s.1 ≠ t.2 := fun e => by rw [e, b2] at a1; exact absurd a1 (by decide)
    have hs1 := hs0.ms m1.but n1 x1 (.inl b1)
    exact hs1.ms m2.but x2 n2 (.inr (by rw [m1.but.tags ht0.lt.2.1]; exact b2))
theorem own_tmv {w w' : World} {base size n x d : Nat} {v : Value} {xs : List Value} (h : w.ownsRow base 31 size v n xs) (ht : TwinAt w x d) (hm : TMv x d w w') : w'.ownsRow base 31 size v n xs := by
  obtain ⟨wa, m1, m2⟩ := hm
  obtain ⟨b1, b2⟩ := ht.tag
  refine own_bt (own_bt h m1.but (by rw [b1]; decide)) m2.but ?_
  rw [m1.but.tags ht.lt.2.1, b2]
  decide
theorem TwinsAt.grown {B : Nat} {w w' : World} {base sz n : Nat} {u : Value} {xs : List Value} {ts : List (Nat × Nat)} (h : TwinsAt B w ts) (hg : w.grownBy w' u.ownBlock) (ho : w.ownsRow base 31 sz u n xs) : TwinsAt B w' ts := ⟨fun t ht => ⟨(h.each t ht).1.grown hg ho, (h.each t ht).2⟩, h.two⟩
theorem TwinsAt.push {B : Nat} {w : World} {ts : List (Nat × Nat)} (h : TwinsAt B w ts) {x d N : Nat} (hw : TwinAt w x d) (hx : N ≤ x) (hd : N ≤ d) (hB : B ≤ N) (hl : ∀ t ∈ ts, t.1 < N ∧ t.2 < N) : TwinsAt B w (ts ++ [(x, d)]) := by
  refine ⟨fun t ht => ?_, ?_⟩
  · rcases List.mem_append.1 ht with ht | ht
    · exact h.each t ht
    · rw [List.mem_singleton.1 ht]
      exact ⟨hw, by simp only; omega, by simp only; omega⟩
  · rw [List.pairwise_append]
    refine ⟨h.two, by simp, fun a ha b hb => ?_⟩
    rw [List.mem_singleton.1 hb]
    have := hl a ha
    exact ⟨by simp only; omega, by simp only; omega⟩

/-! ### a script -/
structure OpX where
  k : Int
  on : Int
  S : ByteArray
  T : ByteArray
def opC (o : OpX) : List Value := [.int .i64 o.k, .int .i64 o.on, .string o.S, .string o.T]
theorem opC_len (o : OpX) : (opC o).length = 4 := rfl
def twC (t : Nat × Nat) : List Value := [.pointer (some ⟨t.1, 0, none⟩), .pointer (some ⟨t.2, 0, none⟩)]
theorem twC_len (t : Nat × Nat) : (twC t).length = 2 := rfl
theorem tw_one (t : Nat × Nat) : ∀ u ∈ twC t, u.oneCell' = true := by intro u hu; simp [twC] at hu; rcases hu with rfl | rfl <;> rfl
theorem RowR.ops {w : World} {a : Option Addr} {n cap : Nat} {l : List OpX} (h : RowR w a n cap 4 (l.flatMap opC)) (hn : n = l.length) {k : Nat} (hk : k < l.length) :
    ∃ g o, a = some ⟨g, o, none⟩ ∧ g < w.heap.size ∧ w.cell? ⟨g, o + k * 4, none⟩ = some (.int .i64 l[k].k) ∧ w.cell? ⟨g, o + k * 4 + 1, none⟩ = some (.int .i64 l[k].on) ∧ w.cell? ⟨g, o + k * 4 + 2, none⟩ = some (.string l[k].S) ∧ w.cell? ⟨g, o + k * 4 + 3, none⟩ = some (.string l[k].T) := by
  obtain ⟨g, o, ha, hg, hc⟩ := h.at' (by omega)
  have key : ∀ i, i < 4 → w.cell? ⟨g, o + (k * 4 + i), none⟩ = (opC l[k])[i]? := fun i hi => by
    rw [hc (k * 4 + i) (by omega), flat_at opC 4 opC_len l k i hk hi]
  exact ⟨g, o, ha, hg, key 0 (by omega), key 1 (by omega), key 2 (by omega), key 3 (by omega)⟩
theorem own_twins {w : World} {base n : Nat} {v : Value} {ts : List (Nat × Nat)} (h : w.ownsRow base 31 2 v n (ts.flatMap twC)) (hn : n = ts.length) {k : Nat} (hk : k < ts.length) :
    ∃ g o cap, v = .slice (some ⟨g, o, none⟩) n cap ∧ g < w.heap.size ∧ w.cell? ⟨g, o + k * 2, none⟩ = some (ptV ts[k].1) ∧ w.cell? ⟨g, o + k * 2 + 1, none⟩ = some (ptV ts[k].2) := by
  subst hn
  have hr : RowX twC 2 31 w v ts := RowX.of_own h
  obtain ⟨g, o, cap, hv, hg, hc⟩ := hr.cells twC_len hk
  exact ⟨g, o, cap, hv, hg, hc k hk 0 (by omega), hc k hk 1 (by omega)⟩

end Hst
end Go.Proofs.YtecocheolbkneabGreatDoor
namespace Go.Proofs.YtecocheolbkneabGreatDoor
namespace Hst

/-- The last name of a path: what stands behind the last '/' of its first i bytes, or all. -/
def nameGo (p : Tx) : Nat → Tx
  | 0 => p
  | i + 1 => if p.getD i 0 = 47 then p.drop (i + 1) else nameGo p i
def nameP (p : Tx) : Tx := nameGo p p.length
def isPathP (p : Tx) : Bool := (splitL 47 p).all isNameR
def findE (st : List EntX) (name : Tx) (v : Int) : Option EntX := st.find? fun e => decide (e.name = name) && decide (e.ver = v)
def hasFolderP (t : List PkX) (p : Tx) : Bool := decide (folderP p = []) || hasAtP t (folderP p)
/-- One piece of a tree's text. -/
def packP (st : List EntX) (piece : Tx) : Option PkX :=
  if ((cutR 64 piece).2.2 && isPathP (cutR 64 piece).1) = false then none else
  match versionP (cutR 64 piece).2.1 with
  | none => none
  | some v => match findE st (nameP (cutR 64 piece).1) v with
    | none => none
    | some e => some ⟨(cutR 64 piece).1, e⟩
/-- The pieces, one after the other: the tree so far, the last path. -/
def packsGo (st : List EntX) (t : List PkX) (last : Tx) : List Tx → Option (List PkX)
  | [] => some t
  | p :: r => match packP st p with
    | none => none
    | some x => if less last x.path = false then none else if hasFolderP t x.path = false then none else packsGo st (withP t x) x.path r
def packsP (st : List EntX) (text : Tx) : Option (List PkX) := if text = [] then some [] else if 40 < (splitL 59 text).length then none else packsGo st [] [] (splitL 59 text)
def soundP (t : List PkX) (site : List NeedX) : Bool := (site.all fun n => meetsP t [] n) && t.all fun p => p.e.nd.all fun n => meetsP t p.path n
def loadP (s : SiteX) (text : Tx) : SiteX × Int :=
  if 4000 < text.length then (s, 4) else match packsP s.stock text with
  | none => (s, 12)
  | some t => if soundP t s.needs = false then (s, 12) else if (inUseP t s.nv s.needs).length = t.length then (⟨s.stock, s.needs, s.nv, t⟩, 0) else (s, 12)

/-! ### the document's -/
/-- last: the name at a path's end, and its folder. -/
def lastR (p : Tx) : Tx × Tx := match foldersR p with
  | _ :: f :: _ => if f = [] then (p, []) else (p.drop (f.length + 1), f)
  | _ => (p, [])
def entryOfGo (name : Tx) (v : V3) (i : Nat) : List EntryD → Option Nat
  | [] => none
  | e :: r => if (decide (e.name = name) && eq3 e.v v) = true then some i else entryOfGo name v (i + 1) r
def entryOfR (st : List EntryD) (name : Tx) (v : V3) : Option Nat := entryOfGo name v 0 st
def readGo (st : List EntryD) (l : List PackD) : List Tx → List PackD
  | [] => l
  | p :: r =>
    if (versionR (cutR 64 p).2.1).2 = true then
      match entryOfR st (lastR (cutR 64 p).1).1 (versionR (cutR 64 p).2.1).1 with
      | none => readGo st l r
      | some k => readGo st (placedR l ⟨(cutR 64 p).1, k⟩) r
    else readGo st l r
def readR (st : List EntryD) (text : Tx) : List PackD := readGo st [] (splitL 59 text)
def hangsGo (l : List PackD) (i : Nat) : List PackD → Bool
  | [] => true
  | p :: r => if (!decide (atR l p.path = some i) || (decide (0 < (lastR p.path).2.length) && (atR l (lastR p.path).2).isNone)) = true then false else hangsGo l (i + 1) r
def hangsR (l : List PackD) : Bool := hangsGo l 0 l

end Hst
end Go.Proofs.YtecocheolbkneabGreatDoor
namespace Go.Proofs.YtecocheolbkneabGreatDoor
namespace Hst

/-! ### pieces -/
theorem u8_same {x s : UInt8} (h : (x.toNat : Int) = (s.toNat : Int)) : x = s := UInt8.toNat_inj.1 (by omega)
theorem splitL_mid (s : UInt8) (b : Tx) : ∀ a : Tx, splitL (s.toNat : Int) (a ++ [s] ++ b) = splitL (s.toNat : Int) a ++ splitL (s.toNat : Int) b
  | [] => by simp [splitL]
  | x :: a => by
    have ih := splitL_mid s b a
    rw [List.cons_append, List.cons_append, splitL, splitL]
    by_cases h : (x.toNat : Int) = (s.toNat : Int)
    · rw [if_pos h, if_pos h, ih]; rfl
    · rw [if_neg h, if_neg h, ih]
      rcases e : splitL (s.toNat : Int) a with _ | ⟨q, qs⟩
      · exact absurd e (splitL_ne _ _)
      · rfl
theorem splitL_one (c : Int) : ∀ a : Tx, (∀ x ∈ a, (x.toNat : Int) ≠ c) → splitL c a = [a]
  | [], _ => rfl
  | x :: a, h => by
    rw [splitL, if_neg (h x (by simp)), splitL_one c a fun y hy => h y (List.mem_cons_of_mem _ hy)]
theorem splitL_no (c : Int) : ∀ (t : Tx), ∀ p ∈ splitL c t, ∀ x ∈ p, (x.toNat : Int) ≠ c
  | [], p, hp, x, hx => by
    simp [splitL] at hp
    subst hp
    simp at hx
  | y :: t, p, hp, x, hx => by
    rw [splitL] at hp
    by_cases h : (y.toNat : Int) = c
    · rw [if_pos h] at hp
      rcases List.mem_cons.1 hp with rfl | hp
      · simp at hx
      · exact splitL_no c t p hp x hx
    · rw [if_neg h] at hp
      rcases e : splitL c t with _ | ⟨q, qs⟩
      · exact absurd e (splitL_ne _ _)
      · rw [e] at hp
        rcases List.mem_cons.1 hp with rfl | hp
        · rcases List.mem_cons.1 hx with rfl | hx
          · exact h
          · exact splitL_no c t q (by rw [e]; simp) x hx
        · exact splitL_no c t p (by rw [e]; exact List.mem_cons_of_mem _ hp) x hx
theorem join_cons (s : Tx) (x : Tx) (r : List Tx) (h : r ≠ []) : joinT s (x :: r) = x ++ s ++ joinT s r := by
  rcases r with _ | ⟨y, r⟩
  · exact absurd rfl h
  · unfold joinT
    rw [joinGo, joinGo, joinGo]
    simp
theorem join_split (s : UInt8) : ∀ t : Tx, joinT [s] (splitL (s.toNat : Int) t) = t
  | [] => rfl
  | x :: t => by
    have ih := join_split s t
    rw [splitL]
    by_cases h : (x.toNat : Int) = (s.toNat : Int)
    · rw [if_pos h, join_cons _ _ _ (splitL_ne _ _), ih, u8_same h]; rfl
    · rw [if_neg h]
      rcases e : splitL (s.toNat : Int) t with _ | ⟨q, qs⟩
      · exact absurd e (splitL_ne _ _)
      · rw [e] at ih
        simp only
        unfold joinT at ih ⊢
        rw [joinGo] at ih ⊢
        simp only [if_true] at ih ⊢
        rw [List.cons_append, ih]
theorem split_join (s : UInt8) : ∀ l : List Tx, l ≠ [] → (∀ p ∈ l, ∀ x ∈ p, x ≠ s) → splitL (s.toNat : Int) (joinT [s] l) = l
  | [], h, _ => absurd rfl h
  | [x], _, hn => by
    have : joinT [s] [x] = x := by unfold joinT; rw [joinGo, joinGo]; simp
    rw [this]
    exact splitL_one _ _ fun y hy e => hn x (by simp) y hy (u8_same e)
  | x :: y :: r, _, hn => by
    rw [join_cons _ _ _ (by simp), splitL_mid, split_join s (y :: r) (by simp) fun p hp => hn p (List.mem_cons_of_mem _ hp), splitL_one _ _ fun z hz e => hn x (by simp) z hz (u8_same e)]
    rfl
theorem cut_mid : ∀ (a b : Tx), (∀ x ∈ a, x ≠ 64) → cutR 64 (a ++ [64] ++ b) = (a, b, true)
  | [], b, _ => by simp [cutR]
  | x :: a, b, h => by
    have h1 : ¬ (x.toNat : Int) = 64 := fun e => h x (by simp) (u8_same (s := 64) (by simpa using e))
    rw [List.cons_append, List.cons_append, cutR, if_neg h1, cut_mid a b fun y hy => h y (List.mem_cons_of_mem _ hy)]
theorem cut_eq : ∀ (l h v : Tx), cutR 64 l = (h, v, true) → l = h ++ [64] ++ v ∧ ∀ x ∈ h, x ≠ 64
  | [], h, v, e => by simp [cutR] at e
  | x :: r, h, v, e => by
    rw [cutR] at e
    by_cases h1 : (x.toNat : Int) = 64
    · rw [if_pos h1] at e
      simp only [Prod.mk.injEq, and_true] at e
      obtain ⟨rfl, rfl⟩ := e
      exact ⟨by rw [u8_same (x := x) (s := 64) (by simpa using h1)]; rfl, by simp⟩
    · rw [if_neg h1] at e
      rcases hc : cutR 64 r with ⟨h2, v2, b2⟩
      rw [hc] at e
      simp only [Prod.mk.injEq] at e
      obtain ⟨rfl, rfl, rfl⟩ := e
      obtain ⟨e1, e2⟩ := cut_eq r h2 v2 hc
      refine ⟨by rw [e1]; rfl, fun y hy => ?_⟩
      rcases List.mem_cons.1 hy with rfl | hy
      · intro e; subst e; exact h1 rfl
      · exact e2 y hy
theorem cut_none : ∀ (l h v : Tx), cutR 64 l = (h, v, false) → v = []
  | [], h, v, e => by simp [cutR] at e; exact e.2
  | x :: r, h, v, e => by
    rw [cutR] at e
    by_cases h1 : (x.toNat : Int) = 64
    · rw [if_pos h1] at e; simp at e
    · rw [if_neg h1] at e
      rcases hc : cutR 64 r with ⟨h2, v2, b2⟩
      rw [hc] at e
      simp only [Prod.mk.injEq] at e
      obtain ⟨_, rfl, rfl⟩ := e
      exact cut_none r h2 v2 hc

/-! ### versions as text -/
theorem part_text {l : Tx} (h : 0 ≤ partR l) : l = numT (partR l).toNat := by
  unfold partR at h ⊢
  by_cases hc : l.length < 1 ∨ 2 < l.length ∨ (l.length = 2 ∧ l.head? = some 48)
  · rw [if_pos hc] at h; exact absurd h (by decide)
  · rw [if_neg hc] at h ⊢
    match l, hc, h with
    | [], hc, _ => exact absurd (.inl (by simp)) hc
    | [a], hc, h =>
      rw [partGoR] at h ⊢
      by_cases ha : dig a = true
      · rw [if_pos ha] at h ⊢
        rw [partGoR] at h ⊢
        unfold dig at ha
        simp only [Bool.and_eq_true, decide_eq_true_eq] at ha
        have e : (10 * 0 + ((a.toNat : Int) - 48)).toNat = a.toNat - 48 := by omega
        unfold numT
        rw [e, if_pos (by omega)]
        have e2 : (48 + (a.toNat - 48)).toUInt8 = a := by
          rw [show 48 + (a.toNat - 48) = a.toNat by omega]
          exact UInt8.ofNat_toNat
        rw [e2]
      · rw [if_neg ha] at h; exact absurd h (by decide)
    | [a, b], hc, h =>
      rw [partGoR] at h ⊢
      by_cases ha : dig a = true
      · rw [if_pos ha] at h ⊢
        rw [partGoR] at h ⊢
        by_cases hb : dig b = true
        · rw [if_pos hb] at h ⊢
          rw [partGoR] at h ⊢
          unfold dig at ha hb
          simp only [Bool.and_eq_true, decide_eq_true_eq] at ha hb
          have ha0 : a.toNat ≠ 48 := fun e => hc (.inr (.inr ⟨by simp, by
            have : a = 48 := UInt8.toNat_inj.1 (by rw [e]; rfl)
            rw [this]; rfl⟩))
          have e : (10 * (10 * 0 + ((a.toNat : Int) - 48)) + ((b.toNat : Int) - 48)).toNat = 10 * (a.toNat - 48) + (b.toNat - 48) := by omega
          unfold numT
          rw [e, if_neg (by omega)]
          have e2 : (48 + (10 * (a.toNat - 48) + (b.toNat - 48)) / 10).toUInt8 = a := by
            rw [show 48 + (10 * (a.toNat - 48) + (b.toNat - 48)) / 10 = a.toNat by omega]
            exact UInt8.ofNat_toNat
          have e3 : (48 + (10 * (a.toNat - 48) + (b.toNat - 48)) % 10).toUInt8 = b := by
            rw [show 48 + (10 * (a.toNat - 48) + (b.toNat - 48)) % 10 = b.toNat by omega]
            exact UInt8.ofNat_toNat
          rw [e2, e3]
        · rw [if_neg hb] at h; exact absurd h (by decide)
      · rw [if_neg ha] at h; exact absurd h (by decide)
    | a :: b :: c :: r, hc, _ => exact absurd (.inr (.inl (by simp))) hc
theorem version_text {l : Tx} (h : (versionR l).2 = true) : l = vtx (versionR l).1 := by
  unfold versionR at h ⊢
  by_cases h8 : 8 < l.length
  · rw [if_pos h8] at h; exact absurd h (by simp)
  · rw [if_neg h8] at h ⊢
    by_cases h3 : (splitL 46 l).length ≠ 3
    · rw [if_pos h3] at h; exact absurd h (by simp)
    · rw [if_neg h3] at h ⊢
      have hj := join_split 46 l
      have h46 : ((46 : UInt8).toNat : Int) = 46 := rfl
      rw [h46] at hj
      match e : splitL 46 l, h3 with
      | [x, y, z], _ =>
        rw [e] at h hj
        simp only [List.getD_cons_zero, List.getD_cons_succ, Bool.and_eq_true, decide_eq_true_eq] at h ⊢
        rw [join_cons _ _ _ (by simp), join_cons _ _ _ (by simp)] at hj
        have hz : joinT [46] [z] = z := by unfold joinT; rw [joinGo, joinGo]; simp
        rw [hz] at hj
        unfold vtx verT
        rw [← part_text h.1.1, ← part_text h.1.2, ← part_text h.2, ← hj]
        simp
      | [], h3 => exact absurd (by simp) h3
      | [_], h3 => exact absurd (by simp) h3
      | [_, _], h3 => exact absurd (by simp) h3
      | _ :: _ :: _ :: _ :: _, h3 => exact absurd (by simp) h3

def txtD (st : List EntryD) (p : PackD) : Tx := p.path ++ [64] ++ vtx (verOf st p.of)
theorem text_join (st : List EntryD) : ∀ (l : List PackD) (b : Bool), textGo st b l = joinGo [59] b (l.map (txtD st))
  | [], _ => rfl
  | p :: r, b => by
    rw [textGo, List.map_cons, joinGo, text_join st r false]
    unfold txtD
    rcases b <;> simp
theorem textR_join (st : List EntryD) (l : List PackD) : textR st l = joinT [59] (l.map (txtD st)) := text_join st l true

end Hst
end Go.Proofs.YtecocheolbkneabGreatDoor
namespace Go.Proofs.YtecocheolbkneabGreatDoor
namespace Hst
set_option maxRecDepth 100000

theorem folders_two (p : Tx) (h : p ≠ []) : ∃ r, foldersR p = p :: folderP p :: r := by
  rw [foldersR_cons p h]
  by_cases h0 : folderP p = []
  · rw [h0, foldersR_nil]; exact ⟨[], rfl⟩
  · rw [foldersR_cons _ h0]; exact ⟨_, rfl⟩
theorem last_nil : lastR [] = ([], []) := by unfold lastR; rw [foldersR_nil]
theorem last_out {p : Tx} (h : p ≠ []) (h0 : folderP p = []) : lastR p = (p, []) := by
  obtain ⟨r, e⟩ := folders_two p h
  unfold lastR; rw [e]; simp only; rw [if_pos h0]
theorem last_in {p : Tx} (h : p ≠ []) (h0 : folderP p ≠ []) : lastR p = (p.drop ((folderP p).length + 1), folderP p) := by
  obtain ⟨r, e⟩ := folders_two p h
  unfold lastR; rw [e]; simp only; rw [if_neg h0]
/-- What Load does, by the document. -/
def loadR (s : SiteD) (t : Tx) : SiteD × Int :=
  if 4000 < t.length then (s, 4) else
  if (!decide (textR s.stock (readR s.stock t) = t) || (!hangsR (readR s.stock t) || decide (40 < (readR s.stock t).length))) = true then (s, 12) else
  if (!allMetR s.stock (readR s.stock t) (allR s.stock s.needs (readR s.stock t)) || !decide ((inUseR s.stock s.needs (readR s.stock t)).length = (readR s.stock t).length)) = true then (s, 12) else
  (⟨s.stock, s.needs, readR s.stock t⟩, 0)
theorem lr_long {s : SiteD} {t : Tx} (h : 4000 < t.length) : loadR s t = (s, 4) := by unfold loadR; rw [if_pos h]
theorem lr_text {s : SiteD} {t : Tx} (h : ¬ 4000 < t.length) (h1 : (!decide (textR s.stock (readR s.stock t) = t) || (!hangsR (readR s.stock t) || decide (40 < (readR s.stock t).length))) = true) : loadR s t = (s, 12) := by unfold loadR; rw [if_neg h, if_pos h1]
theorem lr_use {s : SiteD} {t : Tx} (h : ¬ 4000 < t.length) (h1 : (!decide (textR s.stock (readR s.stock t) = t) || (!hangsR (readR s.stock t) || decide (40 < (readR s.stock t).length))) = false) (h2 : (!allMetR s.stock (readR s.stock t) (allR s.stock s.needs (readR s.stock t)) || !decide ((inUseR s.stock s.needs (readR s.stock t)).length = (readR s.stock t).length)) = true) : loadR s t = (s, 12) := by unfold loadR; rw [if_neg h, if_neg (by rw [h1]; simp), if_pos h2]
theorem lr_good {s : SiteD} {t : Tx} (h : ¬ 4000 < t.length) (h1 : (!decide (textR s.stock (readR s.stock t) = t) || (!hangsR (readR s.stock t) || decide (40 < (readR s.stock t).length))) = false) (h2 : (!allMetR s.stock (readR s.stock t) (allR s.stock s.needs (readR s.stock t)) || !decide ((inUseR s.stock s.needs (readR s.stock t)).length = (readR s.stock t).length)) = false) : loadR s t = (⟨s.stock, s.needs, readR s.stock t⟩, 0) := by unfold loadR; rw [if_neg h, if_neg (by rw [h1]; simp), if_neg (by rw [h2]; simp)]

end Hst
end Go.Proofs.YtecocheolbkneabGreatDoor
namespace Go.Proofs.YtecocheolbkneabGreatDoor
namespace Hst

/-- A path's last '/'. -/
theorem path_cases (p : Tx) : ∀ i, i ≤ p.length → (∀ j, i ≤ j → j < p.length → p.getD j 0 ≠ 47) → ((∀ j, j < p.length → p.getD j 0 ≠ 47) ∧ folderGo p i = [] ∧ nameGo p i = p) ∨ ∃ f n, p = f ++ [47] ++ n ∧ NoSl n ∧ folderGo p i = f ∧ nameGo p i = n
  | 0, _, h => .inl ⟨fun j hj => h j (Nat.zero_le _) hj, rfl, rfl⟩
  | i + 1, hi, h => by
    rw [folderGo, nameGo]
    by_cases h47 : p.getD i 0 = 47
    · rw [if_pos h47, if_pos h47]
      right
      have hlt : i < p.length := by omega
      have hg : p[i] = 47 := by rw [List.getD_eq_getElem?_getD, List.getElem?_eq_getElem hlt] at h47; exact h47
      refine ⟨p.take i, p.drop (i + 1), ?_, fun b hb => ?_, rfl, rfl⟩
      · rw [← hg, ← List.take_succ_eq_append_getElem hlt, List.take_append_drop]
      · obtain ⟨j, hj, e⟩ := List.mem_iff_getElem.1 hb
        rw [List.getElem_drop] at e
        simp at hj
        have := h (i + 1 + j) (by omega) (by omega)
        rw [List.getD_eq_getElem?_getD, List.getElem?_eq_getElem (by omega)] at this
        rw [← e]
        exact this
    · rw [if_neg h47, if_neg h47]
      refine path_cases p i (by omega) fun j hj hl => ?_
      by_cases e : j = i
      · subst e; exact h47
      · exact h j (by omega) hl
theorem path_two (p : Tx) : (NoSl p ∧ folderP p = [] ∧ nameP p = p) ∨ ∃ f n, p = f ++ [47] ++ n ∧ NoSl n ∧ folderP p = f ∧ nameP p = n := by
  rcases path_cases p p.length (Nat.le_refl _) (fun j h1 h2 => by omega) with ⟨h1, h2, h3⟩ | h
  · refine .inl ⟨fun b hb e => ?_, h2, h3⟩
    obtain ⟨j, hj, e2⟩ := List.mem_iff_getElem.1 hb
    have := h1 j hj
    rw [List.getD_eq_getElem?_getD, List.getElem?_eq_getElem hj] at this
    exact this (by rw [← e, ← e2]; rfl)
  · exact .inr h
theorem isPath_one {p : Tx} (h : NoSl p) : isPathP p = isNameR p := by
  unfold isPathP
  rw [splitL_one 47 p fun x hx e => h x hx (u8_same (s := 47) (by simpa using e))]
  simp
theorem isPath_two {f n : Tx} (h : NoSl n) : isPathP (f ++ [47] ++ n) = (isPathP f && isNameR n) := by
  unfold isPathP
  have h47 : ((47 : UInt8).toNat : Int) = 47 := rfl
  rw [← h47, splitL_mid, h47, splitL_one 47 n fun x hx e => h x hx (u8_same (s := 47) (by simpa using e)), List.all_append]
  simp
/-- A path of names: its last name, and its folder. -/
theorem path_last {p : Tx} (h : isPathP p = true) : p ≠ [] ∧ isNameR (nameP p) = true ∧ p = joinR (folderP p) (nameP p) ∧ lastR p = (nameP p, folderP p) := by
  rcases path_two p with ⟨h1, h2, h3⟩ | ⟨f, n, e, h1, h2, h3⟩
  · rw [isPath_one h1] at h
    have h0 := name_ne h
    refine ⟨h0, by rw [h3]; exact h, ?_, ?_⟩
    · rw [h2, h3]; unfold joinR; rw [if_pos rfl]
    · rw [last_out h0 h2, h2, h3]
  · have h' := h
    rw [e, isPath_two h1, Bool.and_eq_true] at h'
    have h0 : p ≠ [] := by rw [e]; simp
    have hf : f ≠ [] := by
      rintro rfl
      have := h'.1
      unfold isPathP at this
      simp [splitL, isNameR] at this
    refine ⟨h0, by rw [h3]; exact h'.2, ?_, ?_⟩
    · rw [h2, h3]; unfold joinR; rw [if_neg hf]; exact e
    · rw [last_in h0 (by rw [h2]; exact hf), h2, h3]
      congr 1
      rw [e]
      simp
/-- A path whose last name is a name, in a folder that is a path. -/
theorem last_path {p : Tx} (hn : isNameR (lastR p).1 = true) (hf : (lastR p).2 = [] ∨ isPathP (lastR p).2 = true) : isPathP p = true := by
  by_cases h0 : p = []
  · rw [h0, last_nil] at hn; simp [isNameR] at hn
  · by_cases hfo : folderP p = []
    · rw [last_out h0 hfo] at hn
      rw [isPath_one (name_nosl hn)]; exact hn
    · rw [last_in h0 hfo] at hn hf
      simp only at hn hf
      rcases path_two p with ⟨h1, h2, h3⟩ | ⟨f, n, e, h1, h2, h3⟩
      · exact absurd h2 hfo
      · rw [h2] at hn hf hfo
        have en : p.drop (f.length + 1) = n := by rw [e]; simp
        rw [en] at hn
        rw [e, isPath_two h1, hn]
        rcases hf with hf | hf
        · exact absurd hf hfo
        · rw [hf]; rfl

end Hst
end Go.Proofs.YtecocheolbkneabGreatDoor
