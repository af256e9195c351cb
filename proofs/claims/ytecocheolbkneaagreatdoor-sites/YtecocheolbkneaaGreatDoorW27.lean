/- Twinc, Twind, Played, Script, Sitesw, Sites -/
import Derived.Test.YtecocheolbkneaaGreatDoorW26
import Derived.ProofKit
import Derived.OpenShut
import Derived.ShutString
import Derived.SizedLaws
import Derived.Carry
import Derived.Deep.Slices
import Derived.Test.YtecocheolbkneaaGreatDoorTie
import Derived.Test.YtecocheolbkneaaGreatDoorCards
import Derived.LaidMore
import Derived.Stop.Joined
import Derived.SevenTiedAt
namespace Go.Proofs.YtecocheolbkneaaGreatDoor
open Go.RowKit
namespace Hst
set_option maxRecDepth 100000

/-- What a call of both sites changes. -/
def TMv (x d : Nat) (w w' : World) : Prop := ∃ wa, SMv x w wa ∧ SMv d wa w'
abbrev opV (k on : Int) (S T : ByteArray) : Value := .agg #[.int .i64 k, .int .i64 on, .string S, .string T]
/-- The world with the two arguments laid down. -/
abbrev opW (w : World) (x d : Nat) (k on : Int) (S T : ByteArray) : World := (w.alloc (.cells #[ptV x, ptV d] 54)).alloc (.cells #[.int .i64 k, .int .i64 on, .string S, .string T] 51)
theorem opW_below (w : World) (x d : Nat) (k on : Int) (S T : ByteArray) : Below w.heap.size w (opW w x d k on S T) := ((Below.refl w.heap.size w).alloc (Nat.le_refl _) _).alloc (by simp) _
theorem opW_1 (w : World) (x d : Nat) (k on : Int) (S T : ByteArray) : (opW w x d k on S T).cell? ⟨w.heap.size, 1, none⟩ = some (ptV d) ∧ (opW w x d k on S T).cell? ⟨w.heap.size + 1, 2, none⟩ = some (.string S) ∧ (opW w x d k on S T).heap.size = w.heap.size + 2 := by
  refine ⟨?_, ?_, by simp⟩
  · simp [go_sem]
  · simp [go_sem]

set_option maxHeartbeats 4000000 in
theorem done5 (x d : Nat) (on : Int) (S T : ByteArray) (w : World) (h : TwinAt w x d) (hS : S.size ≤ 9223372036854775807) :
    Calls Tryz.prog 27 #[twV x d, opV 5 on S T] w fun e w' => e = .returned (.bool true) ∧ TMv x d w w' ∧ TwinAt w' x d := by
  obtain ⟨hx, hd, hxd⟩ := h.lt
  obtain ⟨sx, sd, h1, h2, h3⟩ := h
  have hba := opW_below w x d 5 on S T
  have HA := hid' (add_any' x sx S _ (h1.below hba) h3.sok hS)
  have HD := hid' (fun w h => addD_any d sd S w h h3.dok hS (fun _ hl => h3.lw_add hl))
  have HG := hid' (fun k w => add_agree h3 (l := tx S) (k := k) (x := x) (w := w))
  have H2 := hid' (h2.below hba)
  have HT := hid' (h1.below hba).tag
  have HTD := hid' (h2.below hba).tag
  have HM := hid' (SMv.of_below (b := x) hba)
  have HC := hid' (opW_1 w x d 5 on S T)
  generalize addR sd (tx S) = ar at *
  clear h1 h2 h3 hba
  go_enter Tryz.func27, Tryz.ntmps27
  go_wp2_with fail
  refine HA.out.mono ?_
  rintro e w1 ⟨k, rfl, hm1, hans⟩
  obtain ⟨sx', hs1, hss, rfl⟩ := HG.out k w1 hans
  obtain ⟨q1, q2, q3⟩ := HC.out
  have c1 := (hm1.but.cell (g := w.heap.size) (o := 1) (by omega) (by omega)).trans q1
  have c2 := (hm1.but.cell (g := w.heap.size + 1) (o := 2) (by omega) (by omega)).trans q2
  have hsz : w.heap.size + 2 ≤ w1.heap.size := by have := hm1.but.size; omega
  have hsa : w.heap.size < w1.heap.size := by omega
  have hsb : w.heap.size + 1 < w1.heap.size := by omega
  have HDA := hid' (H2.out.keep hm1.but (by omega) HT.out (by decide) (by decide) (by decide))
  have HM1 := hid' (HM.out.trans hm1)
  have HS1 := hid' hs1
  have HSS := hid' hss
  have HTD1 : Hid (tagOf w1 d = some 129) := HDA.out.tag
  clear hm1 hans hs1 hss q1 q2 q3
  go_wp2_with fail
  refine (HD.out _ HDA.out).mono ?_
  rintro e w2 ⟨rfl, hm2, hd2⟩
  have HR : Hid (TMv x d w w2 ∧ TwinAt w2 x d) := ⟨⟨w1, HM1.out, hm2⟩, sx', ar.1, HS1.out.other hm2.but hxd (.inr HTD1.out), hd2, HSS.out⟩
  clear hm2 hd2
  go_wp2_with fail
  refine (num_any _ _).mono ?_
  rintro e w3 ⟨rfl, rfl⟩
  go_wp2
  go_ret
  exact ⟨by simp, HR.out⟩

set_option maxHeartbeats 4000000 in
theorem done6 (x d : Nat) (on : Int) (S T : ByteArray) (w : World) (h : TwinAt w x d) :
    Calls Tryz.prog 27 #[twV x d, opV 6 on S T] w fun e w' => e = .returned (.bool true) ∧ TMv x d w w' ∧ TwinAt w' x d := by
  obtain ⟨hx, hd, hxd⟩ := h.lt
  obtain ⟨sx, sd, h1, h2, h3⟩ := h
  have hba := opW_below w x d 6 on S T
  have HA := hid' (drop_any' x sx S _ (h1.below hba) h3.sok)
  have HD := hid' (fun w h => dropD_any d sd S w h h3.dok (h3.lw_drop _))
  have HG := hid' (fun k w => drop_agree h3 (l := tx S) (k := k) (x := x) (w := w))
  have H2 := hid' (h2.below hba)
  have HT := hid' (h1.below hba).tag
  have HTD := hid' (h2.below hba).tag
  have HM := hid' (SMv.of_below (b := x) hba)
  have HC := hid' (opW_1 w x d 6 on S T)
  generalize dropR sd (tx S) = ar at *
  clear h1 h2 h3 hba
  go_enter Tryz.func27, Tryz.ntmps27
  go_wp2_with fail
  refine HA.out.mono ?_
  rintro e w1 ⟨k, rfl, hm1, hans⟩
  obtain ⟨sx', hs1, hss, rfl⟩ := HG.out k w1 hans
  obtain ⟨q1, q2, q3⟩ := HC.out
  have c1 := (hm1.but.cell (g := w.heap.size) (o := 1) (by omega) (by omega)).trans q1
  have c2 := (hm1.but.cell (g := w.heap.size + 1) (o := 2) (by omega) (by omega)).trans q2
  have hsz : w.heap.size + 2 ≤ w1.heap.size := by have := hm1.but.size; omega
  have hsa : w.heap.size < w1.heap.size := by omega
  have hsb : w.heap.size + 1 < w1.heap.size := by omega
  have HDA := hid' (H2.out.keep hm1.but (by omega) HT.out (by decide) (by decide) (by decide))
  have HM1 := hid' (HM.out.trans hm1)
  have HS1 := hid' hs1
  have HSS := hid' hss
  have HTD1 : Hid (tagOf w1 d = some 129) := HDA.out.tag
  clear hm1 hans hs1 hss q1 q2 q3
  go_wp2_with fail
  refine (HD.out _ HDA.out).mono ?_
  rintro e w2 ⟨rfl, hm2, hd2⟩
  have HR : Hid (TMv x d w w2 ∧ TwinAt w2 x d) := ⟨⟨w1, HM1.out, hm2⟩, sx', ar.1, HS1.out.other hm2.but hxd (.inr HTD1.out), hd2, HSS.out⟩
  clear hm2 hd2
  go_wp2_with fail
  refine (num_any _ _).mono ?_
  rintro e w3 ⟨rfl, rfl⟩
  go_wp2
  go_ret
  exact ⟨by simp, HR.out⟩

set_option maxHeartbeats 4000000 in
theorem done7 (x d : Nat) (on : Int) (S T : ByteArray) (w : World) (h : TwinAt w x d) :
    Calls Tryz.prog 27 #[twV x d, opV 7 on S T] w fun e w' => e = .returned (.bool true) ∧ TMv x d w w' ∧ TwinAt w' x d := by
  obtain ⟨hx, hd, hxd⟩ := h.lt
  obtain ⟨sx, sd, h1, h2, h3⟩ := h
  have hba := opW_below w x d 7 on S T
  have HA := hid' (update_any' x sx _ (h1.below hba) h3.sok)
  have HD := hid' (fun w h => updateD_any d sd w h h3.dok h3.lw_update)
  have HG := hid' (update_same h3 sx.nv)
  have H2 := hid' (h2.below hba)
  have HT := hid' (h1.below hba).tag
  have HTD := hid' (h2.below hba).tag
  have HM := hid' (SMv.of_below (b := x) hba)
  have HC := hid' (opW_1 w x d 7 on S T)
  generalize updateR sd = ar at *
  clear h1 h2 h3 hba
  go_enter Tryz.func27, Tryz.ntmps27
  go_wp2_with fail
  refine HA.out.mono ?_
  rintro e w1 ⟨rfl, hm1, hs1⟩
  have hss := HG.out.2
  rw [← HG.out.1]
  obtain ⟨q1, q2, q3⟩ := HC.out
  have c1 := (hm1.but.cell (g := w.heap.size) (o := 1) (by omega) (by omega)).trans q1
  have c2 := (hm1.but.cell (g := w.heap.size + 1) (o := 2) (by omega) (by omega)).trans q2
  have hsz : w.heap.size + 2 ≤ w1.heap.size := by have := hm1.but.size; omega
  have hsa : w.heap.size < w1.heap.size := by omega
  have hsb : w.heap.size + 1 < w1.heap.size := by omega
  have HDA := hid' (H2.out.keep hm1.but (by omega) HT.out (by decide) (by decide) (by decide))
  have HM1 := hid' (HM.out.trans hm1)
  have HS1 := hid' hs1
  have HSS := hid' hss
  have HTD1 : Hid (tagOf w1 d = some 129) := HDA.out.tag
  clear hm1 hs1 hss q1 q2 q3
  go_wp2_with fail
  refine (HD.out _ HDA.out).mono ?_
  rintro e w2 ⟨rfl, hm2, hd2⟩
  have HR : Hid (TMv x d w w2 ∧ TwinAt w2 x d) := ⟨⟨w1, HM1.out, hm2⟩, _, ar.1, HS1.out.other hm2.but hxd (.inr HTD1.out), hd2, HSS.out⟩
  clear hm2 hd2
  go_wp2_with fail
  refine (num_any _ _).mono ?_
  rintro e w3 ⟨rfl, rfl⟩
  go_wp2
  go_ret
  exact ⟨by simp, HR.out⟩

set_option maxHeartbeats 4000000 in
theorem done8 (x d : Nat) (on : Int) (S T : ByteArray) (w : World) (h : TwinAt w x d) :
    Calls Tryz.prog 27 #[twV x d, opV 8 on S T] w fun e w' => e = .returned (.bool true) ∧ TMv x d w w' ∧ TwinAt w' x d := by
  have hba := opW_below w x d 8 on S T
  have HN := hid' (tneeds_any x d _ (h.below hba))
  have HH := hid' (h.below hba)
  have HB := hid' hba
  clear h hba
  go_enter Tryz.func27, Tryz.ntmps27
  go_wp2_with fail
  refine HN.out.mono ?_
  rintro e w1 ⟨rfl, hb1⟩
  have HR : Hid (TMv x d w w1 ∧ TwinAt w1 x d) := ⟨⟨_, SMv.of_below HB.out, SMv.of_below hb1⟩, HH.out.below hb1⟩
  clear hb1
  go_wp2
  go_ret
  exact ⟨rfl, HR.out⟩

set_option maxHeartbeats 4000000 in
theorem done9 (x d : Nat) (on : Int) (S T : ByteArray) (w : World) (h : TwinAt w x d) :
    Calls Tryz.prog 27 #[twV x d, opV 9 on S T] w fun e w' => e = .returned (.bool true) ∧ TMv x d w w' ∧ TwinAt w' x d := by
  have hba := opW_below w x d 9 on S T
  have HN := hid' (ttree_any x d _ (h.below hba))
  have HH := hid' (h.below hba)
  have HB := hid' hba
  clear h hba
  go_enter Tryz.func27, Tryz.ntmps27
  go_wp2_with fail
  refine HN.out.mono ?_
  rintro e w1 ⟨rfl, hb1⟩
  have HR : Hid (TMv x d w w1 ∧ TwinAt w1 x d) := ⟨⟨_, SMv.of_below HB.out, SMv.of_below hb1⟩, HH.out.below hb1⟩
  clear hb1
  go_wp2
  go_ret
  exact ⟨rfl, HR.out⟩

/-- A call of a twin that Sites plays. -/
theorem done_any (x d : Nat) (k on : Int) (S T : ByteArray) (w : World) (h : TwinAt w x d) (hS : S.size ≤ 9223372036854775807) (h5 : 5 ≤ k) (h9 : k ≤ 9) :
    Calls Tryz.prog 27 #[twV x d, opV k on S T] w fun e w' => e = .returned (.bool true) ∧ TMv x d w w' ∧ TwinAt w' x d := by
  have hk : k = 5 ∨ k = 6 ∨ k = 7 ∨ k = 8 ∨ k = 9 := by omega
  rcases hk with rfl | rfl | rfl | rfl | rfl
  · exact done5 x d on S T w h hS
  · exact done6 x d on S T w h
  · exact done7 x d on S T w h
  · exact done8 x d on S T w h
  · exact done9 x d on S T w h

set_option maxHeartbeats 1000000 in
theorem pick_any (c : Int) (n : Nat) (w : World) (h0 : -9223372036854775808 ≤ c) (h1 : c ≤ 9223372036854775807) (hn : 0 < n) (hn2 : n ≤ 9223372036854775807) :
    Calls Tryz.prog 26 #[.int .i64 c, .int .i64 n] w fun e w' => ∃ k : Nat, e = .returned (.int .i64 k) ∧ k < n ∧ w' = w := by
  by_cases hc : c < 0
  · go_enter Tryz.func26, Tryz.ntmps26
    go_wp2
    go_ret
    have e : -((c + 1).tmod (n : Int)) = (-(c + 1)) % (n : Int) := by rw [← Int.neg_tmod, Int.tmod_eq_emod_of_nonneg (by omega)]
    have b0 := Int.emod_nonneg (-(c + 1)) (b := (n : Int)) (by omega)
    have b1 := Int.emod_lt_of_pos (-(c + 1)) (b := (n : Int)) (by omega)
    refine ⟨((-(c + 1)) % (n : Int)).toNat, ret_int ?_, by omega, rfl⟩
    rw [Int.toNat_of_nonneg b0]
    exact e
  · go_enter Tryz.func26, Tryz.ntmps26
    go_wp2
    go_ret
    have b0 := Int.emod_nonneg c (b := (n : Int)) (by omega)
    have b1 := Int.emod_lt_of_pos c (b := (n : Int)) (by omega)
    refine ⟨(c % (n : Int)).toNat, ret_int ?_, by omega, rfl⟩
    rw [Int.toNat_of_nonneg b0]

end Hst
end Go.Proofs.YtecocheolbkneaaGreatDoor
namespace Go.Proofs.YtecocheolbkneaaGreatDoor
open Go.RowKit
namespace Hst
set_option maxRecDepth 100000

theorem SMv.to_below {b B : Nat} {w w' : World} (h : SMv b w w') (hb : B ≤ b) (hB : B ≤ w.heap.size) : Below B w w' :=
  ⟨h.os, h.tape, h.output, h.but.size, fun k hk => h.but.block k (by omega) (by omega)⟩
theorem TMv.to_below {x d B : Nat} {w w' : World} (h : TMv x d w w') (hx : B ≤ x) (hd : B ≤ d) (hB : B ≤ w.heap.size) : Below B w w' := by
  obtain ⟨wa, h1, h2⟩ := h
  exact (h1.to_below hx hB).trans (h2.to_below hd (Nat.le_trans hB h1.but.size))
theorem SAt.grown {w w' : World} {base sz n b : Nat} {u : Value} {xs : List Value} {s : SiteX} (h : SAt w b s) (hg : w.grownBy w' u.ownBlock) (ho : w.ownsRow base 54 sz u n xs) : SAt w' b s := by
  have hblk := blk_grown hg ho h.lt h.tag (by decide)
  have hc : ∀ o, w'.cell? ⟨b, o, none⟩ = w.cell? ⟨b, o, none⟩ := fun o => World.cell?_of_block (w := w) hblk
  have hf : ∀ o, w'.frozen? ⟨b, o, none⟩ = w.frozen? ⟨b, o, none⟩ := fun o => World.frozen?_of_block (w := w) hblk
  obtain ⟨v0, e0, r0⟩ := h.stock
  obtain ⟨e1, r1⟩ := h.needs
  obtain ⟨v2, e2, r2⟩ := h.tree
  refine ⟨Nat.lt_of_lt_of_le h.lt hg.size, ?_, ⟨v0, by rw [hc]; exact e0, r0.1.grown hg ho (by decide), fun e he => (r0.2 e he).grown hg ho (by decide) (by decide)⟩, ⟨by rw [hc]; exact e1, r1.grown hg ho (by decide) (by decide)⟩, ⟨v2, by rw [hc]; exact e2, r2.1.grown hg ho (by decide), fun p hp => (r2.2 p hp).grown hg ho (by decide) (by decide)⟩, by rw [hf]; exact h.f1, by rw [hf]; exact h.f2⟩
  unfold tagOf
  rw [hblk]
  exact h.tag
theorem DAt.grown {w w' : World} {base sz n b : Nat} {u : Value} {xs : List Value} {s : SiteD} (h : DAt w b s) (hg : w.grownBy w' u.ownBlock) (ho : w.ownsRow base 54 sz u n xs) : DAt w' b s := by
  have hblk := blk_grown hg ho h.lt h.tag (by decide)
  have hc : ∀ o, w'.cell? ⟨b, o, none⟩ = w.cell? ⟨b, o, none⟩ := fun o => World.cell?_of_block (w := w) hblk
  have hf : ∀ o, w'.frozen? ⟨b, o, none⟩ = w.frozen? ⟨b, o, none⟩ := fun o => World.frozen?_of_block (w := w) hblk
  obtain ⟨v0, zs, e0, r0, z0⟩ := h.stock
  obtain ⟨v1, e1, r1⟩ := h.needs
  obtain ⟨v2, e2, r2⟩ := h.packs
  refine ⟨Nat.lt_of_lt_of_le h.lt hg.size, ?_, ⟨v0, zs, by rw [hc]; exact e0, ⟨RowX.grown r0.1 hg ho (by decide), fun z hz => RowX.grown (r0.2 z hz) hg ho (by decide)⟩, z0⟩, ⟨v1, by rw [hc]; exact e1, RowX.grown r1 hg ho (by decide)⟩, ⟨v2, by rw [hc]; exact e2, RowX.grown r2 hg ho (by decide)⟩, by rw [hf]; exact h.f1, by rw [hf]; exact h.f2⟩
  unfold tagOf
  rw [hblk]
  exact h.tag
theorem TwinAt.grown {w w' : World} {base sz n x d : Nat} {u : Value} {xs : List Value} (h : TwinAt w x d) (hg : w.grownBy w' u.ownBlock) (ho : w.ownsRow base 54 sz u n xs) : TwinAt w' x d := by
  obtain ⟨sx, sd, h1, h2, h3⟩ := h
  exact ⟨sx, sd, h1.grown hg ho, h2.grown hg ho, h3⟩
theorem TwinAt.tag {w : World} {x d : Nat} (h : TwinAt w x d) : tagOf w x = some 75 ∧ tagOf w d = some 129 := by
  obtain ⟨sx, sd, h1, h2, _⟩ := h
  exact ⟨h1.tag, h2.tag⟩

/-! ### the twins of a script -/
structure TwinsAt (B : Nat) (w : World) (ts : List (Nat × Nat)) : Prop where
  each : ∀ t ∈ ts, TwinAt w t.1 t.2 ∧ B ≤ t.1 ∧ B ≤ t.2
  two : ts.Pairwise fun s t => s.1 ≠ t.1 ∧ s.2 ≠ t.2
theorem pw_ne {ts : List (Nat × Nat)} (h : ts.Pairwise fun s t => s.1 ≠ t.1 ∧ s.2 ≠ t.2) : ∀ s ∈ ts, ∀ t ∈ ts, s ≠ t → s.1 ≠ t.1 ∧ s.2 ≠ t.2 := by
  induction ts with
  | nil => intro s hs; simp at hs
  | cons a r ih =>
    have h' := List.pairwise_cons.1 h
    intro s hs t ht hne
    rcases List.mem_cons.1 hs with h1 | h1
    · rcases List.mem_cons.1 ht with h2 | h2
      · exact absurd (h1.trans h2.symm) hne
      · rw [h1]; exact h'.1 t h2
    · rcases List.mem_cons.1 ht with h2 | h2
      · have := h'.1 s h1
        rw [h2]
        exact ⟨fun e => this.1 e.symm, fun e => this.2 e.symm⟩
      · exact ih h'.2 s h1 t h2 hne
theorem TwinsAt.nil (B : Nat) (w : World) : TwinsAt B w [] := ⟨by simp, .nil⟩
theorem TwinsAt.below {B : Nat} {w w' : World} {ts : List (Nat × Nat)} (h : TwinsAt B w ts) (hb : Below w.heap.size w w') : TwinsAt B w' ts := ⟨fun t ht => ⟨(h.each t ht).1.below hb, (h.each t ht).2⟩, h.two⟩
theorem TwinsAt.tmv {B : Nat} {w w' : World} {ts : List (Nat × Nat)} (h : TwinsAt B w ts) {t : Nat × Nat} (ht : t ∈ ts) (hm : TMv t.1 t.2 w w') (hw : TwinAt w' t.1 t.2) : TwinsAt B w' ts := by
  refine ⟨fun s hs => ⟨?_, (h.each s hs).2⟩, h.two⟩
  by_cases e : s = t
  · rw [e]; exact hw
  · obtain ⟨n1, n2⟩ := pw_ne h.two s hs t ht e
    obtain ⟨wa, m1, m2⟩ := hm
    have hs0 := (h.each s hs).1
    have ht0 := (h.each t ht).1
    obtain ⟨a1, a2⟩ := hs0.tag
    obtain ⟨b1, b2⟩ := ht0.tag
    have x1 : s.2 ≠ t.1 := fun e => by rw [e, b1] at a2; exact absurd a2 (by decide)
    have x2 : s.1 ≠ t.2 := fun e => by rw [e, b2] at a1; exact absurd a1 (by decide)
    have hs1 := hs0.ms m1.but n1 x1 (.inl b1)
    exact hs1.ms m2.but x2 n2 (.inr (by rw [m1.but.tags ht0.lt.2.1]; exact b2))
theorem own_tmv {w w' : World} {base size n x d : Nat} {v : Value} {xs : List Value} (h : w.ownsRow base 54 size v n xs) (ht : TwinAt w x d) (hm : TMv x d w w') : w'.ownsRow base 54 size v n xs := by
  obtain ⟨wa, m1, m2⟩ := hm
  obtain ⟨b1, b2⟩ := ht.tag
  refine own_bt (own_bt h m1.but (by rw [b1]; decide)) m2.but ?_
  rw [m1.but.tags ht.lt.2.1, b2]
  decide
theorem TwinsAt.grown {B : Nat} {w w' : World} {base sz n : Nat} {u : Value} {xs : List Value} {ts : List (Nat × Nat)} (h : TwinsAt B w ts) (hg : w.grownBy w' u.ownBlock) (ho : w.ownsRow base 54 sz u n xs) : TwinsAt B w' ts := ⟨fun t ht => ⟨(h.each t ht).1.grown hg ho, (h.each t ht).2⟩, h.two⟩
theorem TwinsAt.push {B : Nat} {w : World} {ts : List (Nat × Nat)} (h : TwinsAt B w ts) {x d N : Nat} (hw : TwinAt w x d) (hx : N ≤ x) (hd : N ≤ d) (hB : B ≤ N) (hl : ∀ t ∈ ts, t.1 < N ∧ t.2 < N) : TwinsAt B w (ts ++ [(x, d)]) := by
  refine ⟨fun t ht => ?_, ?_⟩
  · rcases List.mem_append.1 ht with ht | ht
    · exact h.each t ht
    · rw [List.mem_singleton.1 ht]
      exact ⟨hw, by simp only; omega, by simp only; omega⟩
  · rw [List.pairwise_append]
    refine ⟨h.two, by simp, fun a ha b hb => ?_⟩
    rw [List.mem_singleton.1 hb]
    have := hl a ha
    exact ⟨by simp only; omega, by simp only; omega⟩

/-! ### a script -/
structure OpX where
  k : Int
  on : Int
  S : ByteArray
  T : ByteArray
def opC (o : OpX) : List Value := [.int .i64 o.k, .int .i64 o.on, .string o.S, .string o.T]
theorem opC_len (o : OpX) : (opC o).length = 4 := rfl
def twC (t : Nat × Nat) : List Value := [.pointer (some ⟨t.1, 0, none⟩), .pointer (some ⟨t.2, 0, none⟩)]
theorem twC_len (t : Nat × Nat) : (twC t).length = 2 := rfl
theorem tw_one (t : Nat × Nat) : ∀ u ∈ twC t, u.oneCell' = true := by intro u hu; simp [twC] at hu; rcases hu with rfl | rfl <;> rfl
theorem RowR.ops {w : World} {a : Option Addr} {n cap : Nat} {l : List OpX} (h : RowR w a n cap 4 (l.flatMap opC)) (hn : n = l.length) {k : Nat} (hk : k < l.length) :
    ∃ g o, a = some ⟨g, o, none⟩ ∧ g < w.heap.size ∧ w.cell? ⟨g, o + k * 4, none⟩ = some (.int .i64 l[k].k) ∧ w.cell? ⟨g, o + k * 4 + 1, none⟩ = some (.int .i64 l[k].on) ∧ w.cell? ⟨g, o + k * 4 + 2, none⟩ = some (.string l[k].S) ∧ w.cell? ⟨g, o + k * 4 + 3, none⟩ = some (.string l[k].T) := by
  obtain ⟨g, o, ha, hg, hc⟩ := h.at' (by omega)
  have key : ∀ i, i < 4 → w.cell? ⟨g, o + (k * 4 + i), none⟩ = (opC l[k])[i]? := fun i hi => by
    rw [hc (k * 4 + i) (by omega), flat_at opC 4 opC_len l k i hk hi]
  exact ⟨g, o, ha, hg, key 0 (by omega), key 1 (by omega), key 2 (by omega), key 3 (by omega)⟩
theorem own_twins {w : World} {base n : Nat} {v : Value} {ts : List (Nat × Nat)} (h : w.ownsRow base 54 2 v n (ts.flatMap twC)) (hn : n = ts.length) {k : Nat} (hk : k < ts.length) :
    ∃ g o cap, v = .slice (some ⟨g, o, none⟩) n cap ∧ g < w.heap.size ∧ w.cell? ⟨g, o + k * 2, none⟩ = some (ptV ts[k].1) ∧ w.cell? ⟨g, o + k * 2 + 1, none⟩ = some (ptV ts[k].2) := by
  subst hn
  have hr : RowX twC 2 54 w v ts := RowX.of_own h
  obtain ⟨g, o, cap, hv, hg, hc⟩ := hr.cells twC_len hk
  exact ⟨g, o, cap, hv, hg, hc k hk 0 (by omega), hc k hk 1 (by omega)⟩

end Hst
end Go.Proofs.YtecocheolbkneaaGreatDoor
namespace Go.Proofs.YtecocheolbkneaaGreatDoor
open Go.RowKit
namespace Hst
set_option maxRecDepth 100000

theorem info_twin : (Tryz.prog.info? 54).map (fun i => (i.zero, i.size, i.bytes)) = some (some (.agg #[.pointer none, .pointer none]), 2, 16) := by kernel_rfl
/-- What a call's step of a script keeps to. -/
def OpOk (o : OpX) : Prop := (-9223372036854775808 ≤ o.k ∧ o.k ≤ 9223372036854775807) ∧ (-9223372036854775808 ≤ o.on ∧ o.on ≤ 9223372036854775807) ∧ o.S.size ≤ 9223372036854775807 ∧ o.T.size ≤ 9223372036854775807

set_option maxHeartbeats 8000000 in
theorem played_any (first : Bool) (most : Int) (hdn : ∀ (x d : Nat) (k on : Int) (S T : ByteArray) (w : World), TwinAt w x d → OpOk ⟨k, on, S, T⟩ → 5 ≤ k → k ≤ most → Calls Tryz.prog 27 #[twV x d, opV k on S T] w fun e w' => e = .returned (.bool true) ∧ TMv x d w w' ∧ TwinAt w' x d)
    (hrg : first = true → ∀ (k on : Int) (S T : ByteArray) (w : World), OpOk ⟨k, on, S, T⟩ → k < 4 → Calls Tryz.prog 25 #[opV k on S T] w fun e w' => e = .returned (.bool true) ∧ Below w.heap.size w w')
    (a : Option Addr) (cap : Nat) (ops : List OpX) (w : World) (hr : RowR w a ops.length cap 4 (ops.flatMap opC)) (hn : ops.length ≤ 4000000000000) (ho : ∀ o ∈ ops, OpOk o) :
    Calls Tryz.prog 7 #[.slice a ops.length cap, .bool first, .int .i64 most] w fun e w' => e = .returned (.bool true) ∧ Below w.heap.size w w' := by
  obtain ⟨i0, hi, iz0, iz1, iz2⟩ := info_parts info_twin
  have HR := hid' hr
  have HO := hid' ho
  have HDO := hid' hdn
  have HRG := hid' hrg
  clear hr ho hdn hrg
  go_enter Tryz.func7, Tryz.ntmps7
  go_wp2
  go_loopw [7, 8] (fun v i wr => ∃ (k : Nat) (ts : List (Nat × Nat)), k ≤ ops.length ∧ i = .int .i64 k ∧ wr.ownsRow w.heap.size 54 2 v ts.length (ts.flatMap twC) ∧ Below w.heap.size w wr ∧ Hid (ts.length ≤ k ∧ TwinsAt w.heap.size wr ts)) (fun _ i _ => ops.length - (intOf i).toNat)
  case atStart => exact ⟨0, [], Nat.zero_le _, rfl, World.ownsRow_nil _ _ _ _, Below.refl _ _, Nat.le_refl _, TwinsAt.nil _ _⟩
  case round =>
    obtain ⟨k, ts, hk, rfl, hown, hbel, hall⟩ := hrel
    have hz := hbel.size
    obtain ⟨va, vc, rfl⟩ := own_slice hown
    have htl : ts.length ≤ k := hall.out.1
    have HT := hid' hall.out.2
    clear hall
    by_cases hlt : k < ops.length
    · obtain ⟨g, o, rfl, hg, c0, c1, c2, c3⟩ := (HR.out.below hbel).ops rfl hlt
      have hok := HO.out ops[k] (List.getElem_mem hlt)
      generalize ops[k] = op at *
      obtain ⟨kd, on, S, T⟩ := op
      simp only at c0 c1 c2 c3
      have hok1 := hok.1
      have hok2 := hok.2.1
      have HS := hid' hok
      simp only at hok1 hok2
      clear hok
      have k0 : (0 : Int) ≤ (k : Int) := by omega
      have k1 : (k : Int) < (ops.length : Int) := by omega
      have hba := (Below.refl wr.heap.size wr).alloc (Nat.le_refl _) (.cells #[.int .i64 kd, .int .i64 on, .string S, .string T] 51)
      have HBA := hid' hba
      have HTA := hid' (HT.out.below hba)
      have HOA := hid' (own_below hown hba)
      have HBW := hid' (hbel.trans (hba.mono hz))
      clear hba
      by_cases h4 : kd = 4
      · subst h4
        have HMK := hid' (fun w => made_any S w)
        go_wp2_with fail
        refine (HMK.out _).mono ?_
        rintro e w2 ⟨p, q, rfl, hb2, hpq⟩
        have HT2 := hid' (HTA.out.below hb2)
        have HO2 := hid' (own_below HOA.out hb2)
        have hs2 : wr.heap.size < w2.heap.size := by have := hb2.size; simp at this; omega
        have HB2 := hid' (HBW.out.trans (hb2.mono (by simp; omega)))
        have hlts : Hid (∀ t ∈ ts, t.1 < wr.heap.size + 1 ∧ t.2 < wr.heap.size + 1) := fun t ht => by
          have := (HTA.out.each t ht).1.lt
          simp at this
          exact ⟨this.1, this.2.1⟩
        rcases hpq with ⟨rfl, rfl⟩ | ⟨x, d, rfl, rfl, hx, hd, htw⟩
        · have hba := (Below.refl w2.heap.size w2).alloc (Nat.le_refl _) (.cells #[.pointer none, .pointer none] 54)
          have HRL : Hid (ts.length ≤ k + 1 ∧ TwinsAt w.heap.size (w2.alloc (.cells #[.pointer none, .pointer none] 54)) ts) := ⟨by omega, HT2.out.below hba⟩
          have HRO := hid' (own_below HO2.out hba)
          have HRB := hid' (HB2.out.trans (hba.mono (by omega)))
          clear hba hb2 hown hbel
          go_wp2
          go_roundw
          case rel => exact ⟨k + 1, ts, by omega, by go_num, HRO.out, HRB.out, HRL⟩
          case measure => simp [intOf] <;> omega
        · have HTW := hid' htw
          simp at hx hd
          clear hb2 htw
          have hown2 := HO2.out
          go_wp2_with (first
            | (at_builtin; refine wpList_append_lies _ rfl _ _ 49 rfl w.heap.size 54 i0 (.agg #[.pointer none, .pointer none]) 2 16 Tryz.underlying49 hi iz0 iz1 iz2 rfl (by omega) _ _ _ rfl ((hown2.alloc _).alloc _) ⟨w2.heap.size + 1, 0, none⟩ 1 1 [.pointer (some ⟨x, 0, none⟩), .pointer (some ⟨d, 0, none⟩)] rfl rfl (news_span _ _ _ _ _) (tw_one (x, d)) (by omega) (by unfold maxLen; omega) (by omega) (by simp; omega) (w2.heap.size + 2) (by simp) ?_; intro g1 cap1 w3 hown3 hgrow hat hlt1))
          have hba2 := ((Below.refl w2.heap.size w2).alloc (Nat.le_refl _) (.cells #[.pointer (some ⟨x, 0, none⟩), .pointer (some ⟨d, 0, none⟩)] 54)).alloc (by simp) (.cells #[.pointer (some ⟨x, 0, none⟩), .pointer (some ⟨d, 0, none⟩)] 54)
          have R := step_gen2 twC (x := (x, d)) rfl HO2.out HB2.out hba2 hown3 hgrow
          have HRL : Hid ((ts ++ [(x, d)]).length ≤ k + 1 ∧ TwinsAt w.heap.size w3 (ts ++ [(x, d)])) := ⟨by simp; omega, ((HT2.out.below hba2).grown hgrow ((hown2.alloc _).alloc _)).push ((HTW.out.below hba2).grown hgrow ((hown2.alloc _).alloc _)) (N := wr.heap.size + 1) (by omega) (by omega) (by omega) hlts.out⟩
          clear hown3 hgrow hown hown2 hba2 hbel
          go_wp2
          go_roundw
          case rel => exact ⟨k + 1, ts ++ [(x, d)], by omega, by go_num, R.1, R.2, HRL⟩
          case measure => simp [intOf] <;> omega
      · by_cases h3 : kd < 4
        · have hb4 : (kd == 4) = false := by simp; omega
          cases first
          · have HRL : Hid (ts.length ≤ k + 1 ∧ TwinsAt w.heap.size (wr.alloc (.cells #[.int .i64 kd, .int .i64 on, .string S, .string T] 51)) ts) := ⟨by omega, HTA.out⟩
            clear hown hbel
            go_wp2
            go_roundw
            case rel => exact ⟨k + 1, ts, by omega, by go_num, HOA.out, HBW.out, HRL⟩
            case measure => simp [intOf] <;> omega
          · have HRC := hid' (fun w => HRG.out rfl kd on S T w HS.out h3)
            clear hown hbel
            go_wp2_with fail
            refine (HRC.out _).mono ?_
            rintro e w2 ⟨rfl, hb2⟩
            have HRL : Hid (ts.length ≤ k + 1 ∧ TwinsAt w.heap.size w2 ts) := ⟨by omega, HTA.out.below hb2⟩
            have HRO := hid' (own_below HOA.out hb2)
            have HRB := hid' (HBW.out.trans (hb2.mono (by simp; omega)))
            clear hb2
            go_wp2
            go_roundw
            case rel => exact ⟨k + 1, ts, by omega, by go_num, HRO.out, HRB.out, HRL⟩
            case measure => simp [intOf] <;> omega
        · have hb4 : (kd == 4) = false := by simp; omega
          by_cases h0 : 0 < ts.length
          · have hb0 : (0 : Int) < (ts.length : Int) := by omega
            by_cases h9 : kd ≤ most
            · obtain ⟨gt, ct, hv, hgt, hgt2⟩ := form_any HOA.out h0
              simp at hv
              obtain ⟨rfl, rfl⟩ := hv
              have HPK := hid' (fun w => pick_any on ts.length w hok2.1 hok2.2 h0 (by omega))
              go_wp2_with fail
              refine (HPK.out _).mono ?_
              rintro e w2 ⟨j, rfl, hj, hw2⟩
              subst hw2
              obtain ⟨gt', ot, ct', hv, hgt3, e0, e1⟩ := own_twins HOA.out rfl hj
              simp at hv
              obtain ⟨⟨rfl, rfl⟩, rfl⟩ := hv
              have hmem : ts[j] ∈ ts := List.getElem_mem hj
              generalize ts[j] = t at *
              obtain ⟨x, d⟩ := t
              simp only [Nat.zero_add] at e0 e1
              have j0 : (0 : Int) ≤ (j : Int) := by omega
              have j1 : (j : Int) < (ts.length : Int) := by omega
              have hba2 := (Below.refl _ (wr.alloc (.cells #[.int .i64 kd, .int .i64 on, .string S, .string T] 51))).alloc (Nat.le_refl _) (.cells #[ptV x, ptV d] 54)
              have HT2 := hid' (HTA.out.below hba2)
              have HO2 := hid' (own_below HOA.out hba2)
              have HB2 := hid' (HBW.out.trans (hba2.mono (by simp; omega)))
              have HDN := hid' (HDO.out x d kd on S T _ (HT2.out.each (x, d) hmem).1 HS.out (by omega) h9)
              have HMEM := hid' hmem
              clear hba2 hmem hown hbel
              go_wp2_with fail
              refine HDN.out.mono ?_
              rintro e w3 ⟨rfl, hm3, htw3⟩
              have hx := (HT2.out.each (x, d) HMEM.out).2
              have HRL : Hid (ts.length ≤ k + 1 ∧ TwinsAt w.heap.size w3 ts) := ⟨by omega, HT2.out.tmv HMEM.out hm3 htw3⟩
              have HRO := hid' (own_tmv HO2.out (HT2.out.each (x, d) HMEM.out).1 hm3)
              have HRB := hid' (HB2.out.trans (hm3.to_below hx.1 hx.2 (by simp; omega)))
              clear hm3 htw3
              go_wp2
              go_roundw
              case rel => exact ⟨k + 1, ts, by omega, by go_num, HRO.out, HRB.out, HRL⟩
              case measure => simp [intOf] <;> omega
            · have HRL : Hid (ts.length ≤ k + 1 ∧ TwinsAt w.heap.size (wr.alloc (.cells #[.int .i64 kd, .int .i64 on, .string S, .string T] 51)) ts) := ⟨by omega, HTA.out⟩
              clear hown hbel
              go_wp2
              go_roundw
              case rel => exact ⟨k + 1, ts, by omega, by go_num, HOA.out, HBW.out, HRL⟩
              case measure => simp [intOf] <;> omega
          · have hb0 : ¬ (0 : Int) < (ts.length : Int) := by omega
            have HRL : Hid (ts.length ≤ k + 1 ∧ TwinsAt w.heap.size (wr.alloc (.cells #[.int .i64 kd, .int .i64 on, .string S, .string T] 51)) ts) := ⟨by omega, HTA.out⟩
            clear hown hbel
            go_wp2
            go_roundw
            case rel => exact ⟨k + 1, ts, by omega, by go_num, HOA.out, HBW.out, HRL⟩
            case measure => simp [intOf] <;> omega
    · have hts : ts.length ≤ 4000000000000 := by omega
      have HOW := hid' hown
      obtain ⟨wo, rfl⟩ : ∃ wo, wo = wr := ⟨_, rfl⟩
      have HBW := hid' hbel
      clear hown hbel htl
      go_wp2
      go_loopw [14] (fun i wr => ∃ (m : Nat), m ≤ ts.length ∧ i = .int .i64 m ∧ Below wo.heap.size wo wr) (fun i _ => ts.length - (intOf i).toNat)
      case atStart => exact ⟨0, Nat.zero_le _, rfl, Below.refl _ _⟩
      case round =>
        obtain ⟨m, hm, rfl, hbel2⟩ := hrel
        have hz2 := hbel2.size
        by_cases hml : m < ts.length
        · have hown2 := own_below HOW.out hbel2
          obtain ⟨gt, ot, ct, hv, hgt, e0, e1⟩ := own_twins hown2 rfl hml
          simp at hv
          obtain ⟨rfl, rfl⟩ := hv
          have HT2 := hid' ((HT.out.each ts[m] (List.getElem_mem hml)).1.below hbel2)
          generalize ts[m] = t at *
          obtain ⟨x, d⟩ := t
          simp only at e0 e1 HT2
          have m0 : (0 : Int) ≤ (m : Int) := by omega
          have m1 : (m : Int) < (ts.length : Int) := by omega
          have hba := (Below.refl wr.heap.size wr).alloc (Nat.le_refl _) (.cells #[ptV x, ptV d] 54)
          have HTR := hid' (ttree_any x d _ (HT2.out.below hba))
          have HT3 := hid' (HT2.out.below hba)
          have HB3 := hid' (hbel2.trans (hba.mono hz2))
          clear hba hown2 hbel2
          go_wp2_with fail
          refine HTR.out.mono ?_
          rintro e w2 ⟨rfl, hb2⟩
          have q0 := (bcell hb2).1 wr.heap.size 0 (by simp)
          have q1 := (bcell hb2).1 wr.heap.size 1 (by simp)
          simp at q0 q1
          have hs2 : wr.heap.size < w2.heap.size := by have := hb2.size; simp at this; omega
          have HND := hid' (tneeds_any x d _ (HT3.out.below hb2))
          have HB4 := hid' (HB3.out.trans (hb2.mono (by simp; omega)))
          clear hb2
          go_wp2_with fail
          refine HND.out.mono ?_
          rintro e w3 ⟨rfl, hb3⟩
          have HB5 := hid' (HB4.out.trans (hb3.mono (by omega)))
          clear hb3
          go_wp2
          go_roundw
          case rel => exact ⟨m + 1, by omega, by go_num, HB5.out⟩
          case measure => simp [intOf] <;> omega
        · have HB := hid' (HBW.out.trans (hbel2.mono hz))
          clear hbel2
          go_wp2
          go_ret
          exact ⟨rfl, HB.out⟩

end Hst
end Go.Proofs.YtecocheolbkneaaGreatDoor
namespace Go.Proofs.YtecocheolbkneaaGreatDoor
open Go.ChangeShapes Go.WideShapes Go.ChangeAt Go.RowKit Go.Deep
namespace Hst
set_option maxRecDepth 100000

theorem cells_op : Tryz.prog.cellsOf 51 = 4 := by kernel_rfl
theorem cells_int : Tryz.prog.cellsOf 3 = 1 := by kernel_rfl
theorem cells_str : Tryz.prog.cellsOf 9 = 1 := by kernel_rfl
theorem bytes_op : Tryz.prog.bytesOf 51 = 48 := by kernel_rfl
theorem laidOut : laidOutB Tryz.prog = true := by kernel_rfl

section
variable {H : Type} {enc : TypeId × Value → H}
/-- One step, off its four cells. -/
theorem open_op {W : World} {sp : Nat → Bool} {n : Nat} {cs : List Value} {y : DataW H × List MemPlace} (h : DataW.trod enc Tryz.prog W 0 sp true n 51 cs = some y) : ∃ o : OpX, cs = opC o ∧ OpOk o := by
  obtain ⟨xs, k, hk, hxy, hcl, hxl, hf⟩ := DataW.trod_struct Tryz.underlying51 h
  rw [cells_op] at hcl
  match xs, hxl, cs, hcl with
  | [y0, y1, y2, y3], _, [v0, v1, v2, v3], _ =>
    have g0 := hf 0 _ rfl
    have g1 := hf 1 _ rfl
    have g2 := hf 2 _ rfl
    have g3 := hf 3 _ rfl
    simp [cells_int, cells_str] at g0 g1 g2 g3
    obtain ⟨a, ha, _, wa⟩ := DataW.trod_int Tryz.underlying3 g0
    obtain ⟨b, hb, _, wb⟩ := DataW.trod_int Tryz.underlying3 g1
    obtain ⟨c, hc, _, wc⟩ := DataW.trod_string Tryz.underlying9 g2
    obtain ⟨d, hd, _, wd⟩ := DataW.trod_string Tryz.underlying9 g3
    simp only [List.cons.injEq, and_true] at ha hb hc hd
    subst ha hb hc hd
    have ka := bounds_i64 wa
    have kb := bounds_i64 wb
    refine ⟨⟨a, b, c, d⟩, rfl, ⟨ka.1, ka.2⟩, ⟨kb.1, kb.2⟩, ?_⟩
    unfold maxLen at wc wd
    simp only
    omega
/-- The script. -/
theorem open_ops {W : World} {fuel : Nat} {cs : List Value} {x : DataW H × List MemPlace} (h : DataW.trod enc Tryz.prog W 0 (fun _ => true) true fuel 22 cs = some x) :
    ∃ (a : Option Addr) (cap : Nat) (ops : List OpX), cs = [.slice a ops.length cap] ∧ RowR W a ops.length cap 4 (ops.flatMap opC) ∧ (∀ o ∈ ops, OpOk o) ∧
      ((ops = [] ∧ x.1 = .nil) ∨ ∃ elems spare, x.1 = .slice elems spare ∧ elems.length = ops.length) := by
  rcases open_slice Tryz.underlying22 h with ⟨rfl, rfl⟩ | ⟨a, len, cap, m, n, D, Pl, rfl, _, hl, hm, hmm, rfl, hx⟩
  · exact ⟨none, 0, [], rfl, ⟨by simp, by simp, fun h => absurd h (by simp)⟩, by simp, .inl ⟨rfl, rfl⟩⟩
  · simp only [if_true] at hmm
    have each : ∀ i, i < len → ∃ o : OpX, OpOk o ∧ ∀ j, j < 4 → W.cell? (a.add (i * 4 + j)) = (opC o)[j]? := fun i hi => by
      obtain ⟨cs', h1, h2⟩ := hx i (by omega)
      rw [cells_op] at h1
      obtain ⟨_, _, hcell⟩ := World.cells?_some h1
      obtain ⟨o, rfl, hok⟩ := open_op h2
      exact ⟨o, hok, fun j hj => by have := hcell j hj; rw [add_add] at this; exact this⟩
    have hin : Inhabited OpX := ⟨⟨0, 0, ByteArray.empty, ByteArray.empty⟩⟩
    obtain ⟨q, hq⟩ := choose_lt each
    have hlen : ((List.range len).map q).length = len := by simp
    refine ⟨some a, cap, (List.range len).map q, by rw [hlen], ?_, fun o ho => ?_, .inr ⟨_, _, rfl, by simp⟩⟩
    · rw [hlen]
      refine ⟨by rw [flat_len opC 4 opC_len, hlen], hl, fun h0 => ?_⟩
      have hc0 := (hq 0 h0).2 0 (by omega)
      simp only [Nat.zero_mul, Nat.add_zero] at hc0
      have hc0' : W.cell? (a.add 0) = some (.int .i64 (q 0).k) := hc0
      have hsp := World.cell?_spot hc0'
      have hbl := World.block_lt_of_cell? W _ hc0'
      obtain ⟨g, o, spot⟩ := a
      have hspot : spot = none := by simpa [Addr.add] using hsp
      subst hspot
      refine ⟨g, o, rfl, by simpa [Addr.add] using hbl, fun i hi => ?_⟩
      have hd : i / 4 < len := by omega
      have e1 : i = i / 4 * 4 + i % 4 := by omega
      have hc := (hq (i / 4) hd).2 (i % 4) (by omega)
      have hfl := flat_at opC 4 opC_len ((List.range len).map q) (i / 4) (i % 4) (by rw [hlen]; exact hd) (by omega)
      rw [← e1] at hc hfl
      rw [hfl]
      have e2 : ((List.range len).map q)[i / 4]'(by rw [hlen]; exact hd) = q (i / 4) := by simp
      rw [e2, ← hc, add_plain]
    · obtain ⟨i, hi, rfl⟩ := List.mem_map.1 ho
      exact (hq i (List.mem_range.1 hi)).1
end

end Hst
end Go.Proofs.YtecocheolbkneaaGreatDoor
namespace Go.Proofs.YtecocheolbkneaaGreatDoor
open Go.RowKit
namespace Hst
set_option maxRecDepth 100000

set_option maxHeartbeats 1000000 in
theorem sites_any (a : Option Addr) (cap : Nat) (ops : List OpX) (w : World) (hr : RowR w a ops.length cap 4 (ops.flatMap opC)) (hn : ops.length ≤ 4000000000000) (ho : ∀ o ∈ ops, OpOk o) :
    Calls Tryz.prog 3 #[.slice a ops.length cap] w fun e w' => e = .returned (.bool true) ∧ Below w.heap.size w w' := by
  have HP := hid' (played_any false 9 (fun x d k on S T w h hk h5 h9 => done_any x d k on S T w h hk.2.2.1 h5 h9) (fun h => absurd h (by simp)) a cap ops w hr hn ho)
  clear hr hn ho
  go_enter Tryz.func3, Tryz.ntmps3
  go_wp2_with fail
  refine HP.out.mono ?_
  rintro e w1 ⟨rfl, hb1⟩
  go_wp2
  go_ret
  exact ⟨rfl, hb1⟩

end Hst
end Go.Proofs.YtecocheolbkneaaGreatDoor
namespace Go.Proofs.YtecocheolbkneaaGreatDoor
namespace SitesRow
open Go.ChangeShapes Go.WideShapes Go.ChangeAt Go.RowKit
set_option linter.unusedVariables false

theorem own : ownKnob Tryz.prog.godebug = none := by kernel_rfl
theorem door_met (os : Os) (args : Array Value) : laidMetH Tryz.prog Rows.sitesRow.laid ((World.doorLaid Tryz.prog 4000 os).forCall (fun _ _ => 0) ⟨#[], args, []⟩).memory :=
  laidMetH_of_parts3 (fuel := 8) (laidMet_of_run' 8 (by kernel_rfl) (by kernel_rfl)) (by kernel_rfl) (by kernel_rfl)

set_option maxRecDepth 100000 in
theorem lifted (os : Os) (started : os.Started) (H : Type) (enc : TypeId × Value → H) :
    ReturnsInHanded {} Tryz.checked os 3 .any (fun w args => (Rows.sitesSpec.pre enc Tryz.prog Tryz.f3 [] false w args ∧ laidMetH Tryz.prog Rows.sitesRow.laid w) ∧ sizedMet enc Tryz.prog Tryz.f3 (OpenSpec.ofChange Rows.sitesSpec) false w args)
      (Rows.sitesSpec.post enc Tryz.prog Tryz.f3 false true false false) := by
  refine returnsInHanded_of_change_and (C := Tryz.checked) (X := fun w _ => laidMetH Tryz.prog Rows.sitesRow.laid w) (fun _ _ _ hh h => h.of_heap hh) own started (by kernel_rfl) Tryz.func3
    (ChangeSpec.witness_shaped (enc := enc) (C := Tryz.checked) (os := os) (X := fun w _ => laidMetH Tryz.prog Rows.sitesRow.laid w) false (World.doorLaid Tryz.prog 4000 os) #[.slice none 0 0] 8 rfl (World.shaped_of_RefB (by kernel_rfl) (by kernel_rfl)) (by kernel_rfl) (by kernel_rfl) (by kernel_rfl) (door_met os _)) ?_
  intro W base args ds gs before hval0 hW _ hsz0 hL _
  have hsz : (DataW.weightsEach Tryz.prog (Tryz.f3.params.toList ++ Rows.sitesSpec.plain.varTypes Tryz.prog) (ds ++ gs)).all (· ≤ reachBytes) = true := hsz0
  have hval : ∀ (j : Nat) t v, Tryz.f3.params[j]? = some t → args[j]? = some v → Value.okWide Tryz.prog W .any base t v := hval0
  have hW' := hW
  obtain ⟨p, q, hA0, hV, rfl, hfz, hnd⟩ := hW
  have hA : DataW.TrodAll enc Tryz.prog W 0 (fun _ => true) true Tryz.f3.params.toList args.toList ds p := hA0
  rw [Tryz.params3] at hA hval hsz
  obtain ⟨v0, d0, rfl, rfl, h0⟩ := trodAll_one hA
  obtain ⟨rfl, rfl⟩ := trodVars_none hV
  have h0k := h0
  obtain ⟨fuel, hf⟩ := h0
  clear hA0 hval0 hsz0
  simp only [List.append_nil] at hW'
  have hlt : ∀ x ∈ p, x.block < W.heap.size := fun x hx => by simpa using hW'.lt x hx
  obtain ⟨a0, len, cap, rfl⟩ := okWide_slice Tryz.underlying22 (hval 0 22 v0 rfl rfl)
  obtain ⟨a, cap', ops, hcs, hrow, hops, hx⟩ := Hst.open_ops hf
  have hcs' : Value.slice a0 len cap = .slice a ops.length cap' := by simpa [Value.cells] using hcs
  have hn : ops.length ≤ 4000000000000 := by
    rcases hx with ⟨rfl, _⟩ | ⟨elems, spare, hx, hel⟩
    · simp
    · simp only at hx
      subst hx
      have := sized_slice hsz (j := 0) (t := 22) (elems := elems) (spare := spare) rfl rfl Tryz.underlying22
      rw [Hst.bytes_op] at this
      unfold reachBytes at this
      omega
  rw [hcs'] at h0k ⊢
  refine (Hst.sites_any a cap' ops W hrow hn hops).mono fun e W' ⟨he, bel⟩ => ?_
  subst he
  rw [hcs'] at hW'
  exact ⟨_, rfl, _, _, _, [], _, [], hW', trodAll_mk1 (shut_bool Tryz.underlying4 _), trodAll_mk1 (Below.trod Hst.laidOut (by kernel_rfl) (of_decide_eq_true (by kernel_rfl)) h0k bel hlt), rfl, bel.frame _, fun h => by cases h⟩

theorem over : Rows.SitesSaid :=
  OpenClaim.holds_of_wide 3 Tryz.f3 rfl rfl rfl rfl rfl rfl rfl ⟨rfl, rfl, rfl, rfl, rfl⟩ rfl rfl rfl rfl rfl (by kernel_rfl) Tryz.func3 (by kernel_rfl)
    (of_decide_eq_true (by kernel_rfl)) (by unfold Func.isWrapper; first | (rw [if_pos (by decide +kernel)]; kernel_rfl) | (rw [if_neg (by decide +kernel)]; exact ⟨rfl, rfl⟩))
    (fun os started H enc _ => lifted os started H enc)
end SitesRow

theorem sites_card : Rows.SitesCardSaid :=
  Claim7.holds_tied_plain_at .later [] [.data, .data, .data] true (true, "01bd52512ddeda93910ca64f7734339120873d78affce1afc02667bb3a607191") false
    SitesRow.over (fun _ h => by cases h) (by kernel_rfl) (fun _ h => by cases h) sites_row_tie rfl ⟨rfl, rfl⟩ (by kernel_rfl) rfl
    (fun f fn hf hfn => by
      obtain rfl : f = 3 := Option.some.inj ((show Tryz.prog.funcNamed "hoist/hoistlaw.Sites" = some 3 by kernel_rfl).symm.trans hf) |>.symm
      obtain rfl : fn = Tryz.f3 := (Option.some.inj (Tryz.func3.symm.trans hfn)).symm
      exact ⟨by kernel_rfl, fun j t ht => by
        rw [Tryz.params3] at ht
        have hm : t ∈ [22] := by simpa using Array.mem_of_getElem? ht
        have hall : ([22].all fun u => !Tryz.prog.wantsStandIn u) = true := by kernel_rfl
        exact (show Tryz.prog.wantsStandIn t = false by simpa using List.all_eq_true.1 hall t hm)⟩)
    (by kernel_rfl)
#print axioms sites_card
end Go.Proofs.YtecocheolbkneaaGreatDoor
