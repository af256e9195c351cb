/- Points, Rfit, Rmeet, Mathm -/
import Derived.Test.YtecocheolbkneaaW03
import Derived.Test.YtecocheolbkneaaW04
import Derived.Deep.DrawnRows
namespace Go.Proofs.Ytecocheolbkneaa
open Go.RowKit
namespace Hst
set_option maxRecDepth 100000

theorem info_ver : (Try.prog.info? 40).map (fun i => (i.zero, i.size, i.bytes)) = some (some (.agg #[.int .i64 0, .int .i64 0, .int .i64 0]), 3, 24) := by kernel_rfl

/-- The cells of some versions. -/
def vers (p : List V3) : List Value := p.flatMap fun v => [Value.int .i64 v.a, Value.int .i64 v.b, Value.int .i64 v.c]
theorem vers_append (p q : List V3) : vers p ++ vers q = vers (p ++ q) := by simp [vers]
theorem vers_len : ∀ p : List V3, (vers p).length = p.length * 3
  | [] => rfl
  | v :: r => by
    have := vers_len r
    simp only [vers, List.flatMap_cons, List.length_append, List.length_cons, List.length_nil] at this ⊢
    omega
theorem vers_at : ∀ (p : List V3) (j : Nat) (hj : j < p.length), (vers p)[j * 3]? = some (Value.int .i64 p[j].a) ∧ (vers p)[j * 3 + 1]? = some (Value.int .i64 p[j].b) ∧ (vers p)[j * 3 + 2]? = some (Value.int .i64 p[j].c)
  | [], j, hj => by simp at hj
  | v :: r, 0, _ => by simp [vers]
  | v :: r, j + 1, hj => by
    have ih := vers_at r j (by simpa using hj)
    have e1 : (j + 1) * 3 = j * 3 + 1 + 1 + 1 := by omega
    have e2 : (j + 1) * 3 + 1 = j * 3 + 1 + 1 + 1 + 1 := by omega
    have e3 : (j + 1) * 3 + 2 = j * 3 + 2 + 1 + 1 + 1 := by omega
    rw [e3, e2, e1]
    simp only [vers, List.flatMap_cons, List.cons_append, List.nil_append, List.getElem?_cons_succ, List.getElem_cons_succ] at ih ⊢
    exact ih
/-- The row of versions that a call has made. -/
def VerRow (w : World) (base : Nat) (v : Value) (p : List V3) : Prop := w.ownsRow base 40 3 v p.length (vers p)
theorem VerRow.below {w w' : World} {base : Nat} {v : Value} {p : List V3} (h : VerRow w base v p) (hb : Below w.heap.size w w') : VerRow w' base v p := own_below h hb
theorem VerRow.form {w : World} {base : Nat} {v : Value} {p : List V3} (h : VerRow w base v p) (hd : p ≠ []) : ∃ g cap, v = .slice (some ⟨g, 0, none⟩) p.length cap ∧ base ≤ g ∧ g < w.heap.size ∧ ∀ (j : Nat) (hj : j < p.length), w.cell? ⟨g, j * 3, none⟩ = some (.int .i64 p[j].a) ∧ w.cell? ⟨g, j * 3 + 1, none⟩ = some (.int .i64 p[j].b) ∧ w.cell? ⟨g, j * 3 + 2, none⟩ = some (.int .i64 p[j].c) := by
  have hn : 0 < p.length := List.length_pos_iff.2 hd
  obtain ⟨g, cap, rfl, h1, h2⟩ := form_any h hn
  refine ⟨g, cap, rfl, h1, h2, fun j hj => ?_⟩
  rw [World.ownsRow.cellAt h (j * 3) (by omega), World.ownsRow.cellAt h (j * 3 + 1) (by omega), World.ownsRow.cellAt h (j * 3 + 2) (by omega)]
  exact vers_at p j hj
/-- A row of texts lies at block g. -/
def RowAt (w : World) (g : Nat) (d : List Tx) : Prop := g < w.heap.size ∧ ∀ (j : Nat) (hj : j < d.length), w.cell? ⟨g, j, none⟩ = some (.string (bs d[j]))
theorem RowAt.below {w w' : World} {g : Nat} {d : List Tx} (h : RowAt w g d) (hb : Below w.heap.size w w') : RowAt w' g d :=
  ⟨Nat.lt_of_lt_of_le h.1 hb.size, fun j hj => by rw [(bcell hb).1 _ _ h.1]; exact h.2 j hj⟩
theorem RowAt.grown {w w' : World} {g b : Nat} {d : List Tx} (h : RowAt w g d) (hg : w.grownBy w' (some b)) (hne : b ≠ g) : RowAt w' g d :=
  ⟨Nat.lt_of_lt_of_le h.1 hg.size, fun j hj => hg.cell (h.2 j hj) (by simp; exact fun e => hne e.symm)⟩
theorem three_ints (a b c : Int) : ∀ u ∈ [Value.int .i64 a, Value.int .i64 b, Value.int .i64 c], u.oneCell' = true := by intro u hu; simp at hu; rcases hu with rfl | rfl | rfl <;> rfl

/-- What points has in hand: the row 'out' at block b, the row of the alternatives at g. -/
structure PtInv (w wr : World) (g b cap : Nat) (d : List Tx) (acc : List V3) : Prop where
  bel : Below w.heap.size w wr
  own : wr.ownsRow w.heap.size 40 3 (.slice (some ⟨b, 0, none⟩) acc.length cap) acc.length (vers acc)
  row : RowAt wr g d
  ne : b ≠ g
theorem PtInv.lt {w wr : World} {g b cap : Nat} {d : List Tx} {acc : List V3} (h : PtInv w wr g b cap d acc) : w.heap.size ≤ b ∧ b < wr.heap.size := h.own.lt b rfl
theorem PtInv.step {w wr w2 : World} {g b cap : Nat} {d : List Tx} {acc : List V3} (h : PtInv w wr g b cap d acc) (hb : Below wr.heap.size wr w2) : PtInv w w2 g b cap d acc :=
  ⟨h.bel.trans (hb.mono h.bel.size), own_below h.own hb, h.row.below hb, h.ne⟩
/-- One version more. -/
theorem PtInv.more {w wr w5 : World} {g b cap b' cap' : Nat} {d : List Tx} {acc : List V3} (p : V3) (h : PtInv w wr g b cap d acc)
    (hown : w5.ownsRow w.heap.size 40 3 (.slice (some ⟨b', 0, none⟩) (acc.length + 1) cap') (acc.length + 1) (vers acc ++ [Value.int .i64 p.a, Value.int .i64 p.b, Value.int .i64 p.c])) (hgrow : wr.grownBy w5 (some b)) (hat : b' = b ∨ wr.heap.size ≤ b') : PtInv w w5 g b' cap' d (acc ++ [p]) := by
  have hl := h.lt
  refine ⟨h.bel.grown hgrow h.bel.size (fun k hk => by simp at hk; omega), ?_, h.row.grown hgrow h.ne, ?_⟩
  · have e : vers acc ++ [Value.int .i64 p.a, Value.int .i64 p.b, Value.int .i64 p.c] = vers (acc ++ [p]) := by simp [vers]
    rw [e] at hown
    simpa using hown
  · rcases hat with rfl | hat
    · exact h.ne
    · have := h.row.1; omega

theorem news_ver (w : World) (o1 : Obj) (a b c : Value) (t : TypeId) : ∀ j u, [a, b, c][j]? = some u → ((w.alloc o1).alloc (.cells #[a, b, c] t)).cell? ((⟨w.heap.size + 1, 0, none⟩ : Addr).add j) = some u := by
  intro j u hu
  have h := World.news_of_block (heap_alloc_new (w.alloc o1) (.cells #[a, b, c] t)) j u (by simpa using hu)
  simpa using h
theorem news_ver1 (w : World) (a b c : Value) (t : TypeId) : ∀ j u, [a, b, c][j]? = some u → (w.alloc (.cells #[a, b, c] t)).cell? ((⟨w.heap.size, 0, none⟩ : Addr).add j) = some u := by
  intro j u hu
  exact World.news_of_block (heap_alloc_new w (.cells #[a, b, c] t)) j u (by simpa using hu)

theorem box_kept {w4 w5 : World} {x y z : Value} {o2 : Obj} {b : Nat} {t : TypeId} (hgrow : ((w4.alloc (.cells #[x, y, z] t)).alloc o2).grownBy w5 (some b)) (hb : b < w4.heap.size) :
    w5.cell? ⟨w4.heap.size, 0, none⟩ = some x ∧ w5.cell? ⟨w4.heap.size, 1, none⟩ = some y ∧ w5.cell? ⟨w4.heap.size, 2, none⟩ = some z := by
  refine ⟨hgrow.cell ?_ ?_, hgrow.cell ?_ ?_, hgrow.cell ?_ ?_⟩
  all_goals first | (rw [World.cell?_alloc_past _ _ _ (by simp)]; simp; done) | (simp; omega)

theorem start_own (w : World) : (w.alloc (.cells #[.int .i64 0, .int .i64 0, .int .i64 0] 40)).ownsRow w.heap.size 40 3 (.slice (some ⟨w.heap.size, 0, none⟩) 1 1) 1 (vers [⟨0, 0, 0⟩]) := by
  have := World.ownsRow_lit (base := w.heap.size) (size := 3) (e := 40) w #[.int .i64 0, .int .i64 0, .int .i64 0] 1 (Nat.le_refl _) (by unfold maxLen; omega) rfl
  exact this

set_option maxHeartbeats 2000000 in
theorem points_any (s : ByteArray) (w : World) (h60 : s.size ≤ 60) :
    Calls Try.prog 17 #[.string s] w fun e w' => ∃ v, e = .returned v ∧ VerRow w' w.heap.size v (pointsR (tx s)) ∧ (pointsR (tx s)).length ≤ 8000 ∧ Below w.heap.size w w' := by
  obtain ⟨i0, hi, hz0, hz1, hz2⟩ := info_parts info_ver
  have HP : Hid (pointsR (tx s) = [⟨0, 0, 0⟩] ++ (splitL 124 (tx s)).flatMap ptsA) := rfl
  go_enter Try.func17, Try.ntmps17
  go_wp2_with fail
  refine (rsplit_any s 124 _ (by omega)).mono ?_
  rintro e w1 ⟨v, rfl, hrow, hb1⟩
  obtain ⟨g, cap, rfl, hg1, hg2, hcell⟩ := hrow.form (splitL_ne _ _)
  have HS := hid (piece_mem (n := 124) h60)
  have hlen := splitL_len 124 (tx s)
  rw [tx_length] at hlen
  generalize splitL 124 (tx s) = d at *
  have INV : PtInv w w1 g w.heap.size 1 d [⟨0, 0, 0⟩] := ⟨((Below.refl _ _).alloc (Nat.le_refl _) _).trans (hb1.mono (by simp)), own_below (start_own w) hb1, ⟨hg2, hcell⟩, by simp at hg1; omega⟩
  have HI := hid INV
  clear hcell hrow hb1 INV
  go_wp2
  go_loopw [3, 5] (fun v i wr => ∃ (k b cp : Nat) (acc : List V3), k ≤ d.length ∧ acc.length ≤ 1 + 122 * k ∧ v = .slice (some ⟨b, 0, none⟩) acc.length cp ∧ i = .int .i64 k ∧ PtInv w wr g b cp d acc ∧ Hid (pointsR (tx s) = acc ++ (d.drop k).flatMap ptsA)) (fun _ i _ => d.length - (intOf i).toNat)
  case atStart => exact ⟨0, _, 1, [⟨0, 0, 0⟩], by omega, by simp, rfl, rfl, HI.out, HP⟩
  case round =>
    obtain ⟨k, b, cp, acc, hk, hacc, rfl, rfl, hinv, hall⟩ := hrel
    clear HP HI
    by_cases hlt : k < d.length
    · have hc := hinv.row.2 k hlt
      have hps := HS.out k hlt
      have HA : Hid (pointsR (tx s) = acc ++ ((splitL 38 (tx (bs d[k]))).flatMap ptsC ++ (d.drop (k + 1)).flatMap ptsA)) := by
        unfold Hid
        rw [hall.out, List.drop_eq_getElem_cons hlt, List.flatMap_cons, tx_bs]
        rfl
      generalize bs d[k] = q at *
      have HI := hid hinv
      clear hall hinv
      obtain ⟨wo, rfl⟩ : ∃ wo, wo = wr := ⟨_, rfl⟩
      go_wp2_with fail
      refine (rsplit_any q 38 _ (by omega)).mono ?_
      rintro e w2 ⟨v, rfl, hrow, hb2⟩
      obtain ⟨g2, cap2, rfl, hg3, hg4, hcell2⟩ := hrow.form (splitL_ne _ _)
      have HS2 := hid (piece_mem (n := 38) hps)
      have hlen2 := splitL_len 38 (tx q)
      rw [tx_length] at hlen2
      generalize splitL 38 (tx q) = m at *
      have hbne : b ≠ g2 := by have := HI.out.lt; omega
      have HR2 := hid (⟨hg4, hcell2⟩ : RowAt w2 g2 m)
      have HI2 := hid (HI.out.step hb2)
      clear hcell2 hrow hc hb2 HI
      go_wp2
      go_loopw [3, 7] (fun v i wq => ∃ (j b cp : Nat) (ac : List V3), j ≤ m.length ∧ ac.length ≤ 1 + 122 * k + 2 * j ∧ v = .slice (some ⟨b, 0, none⟩) ac.length cp ∧ i = .int .i64 j ∧ PtInv w wq g b cp d ac ∧ RowAt wq g2 m ∧ b ≠ g2 ∧ Hid (pointsR (tx s) = ac ++ ((m.drop j).flatMap ptsC ++ (d.drop (k + 1)).flatMap ptsA))) (fun _ i _ => m.length - (intOf i).toNat)
      case atStart => exact ⟨0, b, cp, acc, by omega, by omega, rfl, rfl, HI2.out, HR2.out, hbne, HA⟩
      case round =>
        obtain ⟨j, b, cp, ac, hj, hac, rfl, rfl, hinv, hr2, hbne, hall⟩ := hrel
        by_cases hjl : j < m.length
        · have hc2 := hr2.2 j hjl
          have HSG := hid (fun w => signed_any (bs m[j]) w)
          rw [tx_bs] at HSG
          have HV := hid (fun w => version_any (bs (signedR m[j]).2) w)
          rw [tx_bs] at HV
          have HA2 : Hid (pointsR (tx s) = ac ++ (ptsC m[j] ++ ((m.drop (j + 1)).flatMap ptsC ++ (d.drop (k + 1)).flatMap ptsA))) := by
            unfold Hid
            rw [hall.out, List.drop_eq_getElem_cons hjl, List.flatMap_cons, List.append_assoc]
          have HPT : Hid (ptsC m[j] = if (versionR (signedR m[j]).2).2 = true then (versionR (signedR m[j]).2).1 :: (if (afterR (versionR (signedR m[j]).2).1).2 = true then [(afterR (versionR (signedR m[j]).2).1).1] else []) else []) := rfl
          have HVV := hid (versionR_valid (signedR m[j]).2)
          generalize versionR (signedR m[j]).2 = vr at *
          generalize (signedR m[j]).2 = rs at *
          generalize (signedR m[j]).1 = sg at *
          generalize ptsC m[j] = pm at *
          generalize bs m[j] = q2 at *
          obtain ⟨⟨x, y, z⟩, ok⟩ := vr
          generalize hrest : (m.drop (j + 1)).flatMap ptsC ++ (d.drop (k + 1)).flatMap ptsA = rest at HA2
          have HREST := hid hrest
          clear hrest
          have HI := hid hinv; have HR := hid hr2
          have hbl := hinv.lt
          have hbz := hinv.bel.size
          clear hall hinv hr2 HR2 HI2 HA
          go_wp2_with fail
          refine (HSG.out _).mono ?_
          rintro e w3 ⟨rfl, hb3⟩
          go_wp2_with fail
          refine (HV.out _).mono ?_
          rintro e w4 ⟨rfl, hb4⟩
          have hb34 := hb3.trans (hb4.mono hb3.size)
          have hz34 := hb34.size
          have HI4 := hid (HI.out.step hb34)
          have HR4 := hid (HR.out.below hb34)
          clear hb3 hb4 hb34
          have hb4 : b < w4.heap.size := by omega
          cases ok
          · have HF : Hid (pointsR (tx s) = ac ++ rest) := by
              unfold Hid
              rw [HA2.out, HPT.out]; simp
            have HI5 := hid (HI4.out.step ((Below.refl _ _).alloc (Nat.le_refl _) (.cells #[.int .i64 x, .int .i64 y, .int .i64 z] 40)))
            have HR5 := hid (HR4.out.below ((Below.refl _ _).alloc (Nat.le_refl _) (.cells #[.int .i64 x, .int .i64 y, .int .i64 z] 40)))
            go_wp2
            go_roundw
            case rel => exact ⟨j + 1, b, cp, ac, by omega, by omega, rfl, by go_num, HI5.out, HR5.out, hbne, by rw [HREST.out]; exact HF.out⟩
            case measure => simp [intOf]; omega
          · have hval := HVV.out rfl
            obtain ⟨va0, va1, vb0, vb1, vc0, vc1⟩ := hval
            simp only at va0 va1 vb0 vb1 vc0 vc1
            have hown4 := HI4.out.own
            go_wp2_with (first | (at_builtin; refine wpList_append_lies _ rfl _ _ 45 rfl w.heap.size 40 i0 (.agg #[.int .i64 0, .int .i64 0, .int .i64 0]) 3 24 Try.underlying45 hi hz0 hz1 hz2 rfl (by omega) _ _ _ rfl ((hown4.alloc _).alloc _) ⟨w4.heap.size + 1, 0, none⟩ 1 1 [.int .i64 (x), .int .i64 (y), .int .i64 (z)] rfl rfl (news_ver _ _ _ _ _ _) (three_ints _ _ _) (by omega) (by unfold maxLen; omega) (by omega) (by simp; omega) (w4.heap.size + 2) (by simp) ?_; intro b5 cp5 w5 hown5 hgrow hat hlt5; obtain ⟨k0, k1, k2⟩ := box_kept hgrow hb4))
            have hat5 : b5 = b ∨ w4.heap.size + 2 ≤ b5 := by
              rcases hat with h | h
              · have h' : some b = some b5 := h
                simp at h'
                exact .inl h'.symm
              · exact .inr (by omega)
            have HI5 := hid (PtInv.more ⟨x, y, z⟩ (HI4.out.step (((Below.refl _ _).alloc (Nat.le_refl _) _).alloc (by simp) _)) hown5 hgrow (by simpa using hat5))
            have HR5 := hid ((HR4.out.below (((Below.refl _ _).alloc (Nat.le_refl _) _).alloc (by simp) _)).grown hgrow hbne)
            have hbne5 : b5 ≠ g2 := by
              have h1 := HR4.out.1
              rcases hat5 with h | h <;> omega
            have hl5 := HI5.out.lt
            have hz5 := HI5.out.bel.size
            have HAF := hid (fun w => after_any x y z w va0 va1 vb0 vb1 vc0 vc1)
            have HPT2 : Hid (pm = ⟨x, y, z⟩ :: (if (afterR ⟨x, y, z⟩).2 = true then [(afterR ⟨x, y, z⟩).1] else [])) := by unfold Hid; rw [HPT.out]; simp
            generalize afterR ⟨x, y, z⟩ = af at *
            obtain ⟨⟨x', y', z'⟩, more⟩ := af
            clear hown5 hgrow hat hown4 HPT
            refine (HAF.out _).mono ?_
            rintro e w6 ⟨rfl, hb6⟩
            have hz6 := hb6.size
            have HI6 := hid (HI5.out.step hb6)
            have HR6 := hid (HR5.out.below hb6)
            have hb56 : b5 < w6.heap.size := by omega
            clear hb6 k0 k1 k2
            cases more
            · have HF : Hid (pointsR (tx s) = (ac ++ [⟨x, y, z⟩]) ++ rest) := by
                unfold Hid
                rw [HA2.out, HPT2.out]; simp
              have HI7 := hid (HI6.out.step ((Below.refl _ _).alloc (Nat.le_refl _) (.cells #[.int .i64 x', .int .i64 y', .int .i64 z'] 40)))
              have HR7 := hid (HR6.out.below ((Below.refl _ _).alloc (Nat.le_refl _) (.cells #[.int .i64 x', .int .i64 y', .int .i64 z'] 40)))
              go_wp2
              go_roundw
              case rel => exact ⟨j + 1, b5, cp5, _, by omega, by simp; omega, by simp, by go_num, HI7.out, HR7.out, hbne5, by rw [HREST.out]; exact HF.out⟩
              case measure => simp [intOf]; omega
            · have HF : Hid (pointsR (tx s) = ((ac ++ [⟨x, y, z⟩]) ++ [⟨x', y', z'⟩]) ++ rest) := by
                unfold Hid
                rw [HA2.out, HPT2.out]; simp
              have hown6 := HI6.out.own
              have hacl : (ac ++ [(⟨x, y, z⟩ : V3)]).length = ac.length + 1 := by simp
              rw [hacl] at hown6
              go_wp2_with (first | (at_builtin; refine wpList_append_lies _ rfl _ _ 45 rfl w.heap.size 40 i0 (.agg #[.int .i64 0, .int .i64 0, .int .i64 0]) 3 24 Try.underlying45 hi hz0 hz1 hz2 rfl (by omega) _ _ _ rfl ((hown6.alloc _).alloc _) ⟨w6.heap.size + 1, 0, none⟩ 1 1 [.int .i64 (x'), .int .i64 (y'), .int .i64 (z')] rfl rfl (news_ver _ _ _ _ _ _) (three_ints _ _ _) (by omega) (by unfold maxLen; omega) (by omega) (by simp; omega) (w6.heap.size + 2) (by simp) ?_; intro b8 cp8 w8 hown8 hgrow8 hat8 hlt8))
              have hat9 : b8 = b5 ∨ w6.heap.size + 2 ≤ b8 := by
                rcases hat8 with h | h
                · have h' : some b5 = some b8 := h
                  simp at h'
                  exact .inl h'.symm
                · exact .inr (by omega)
              have HI8 := hid (PtInv.more ⟨x', y', z'⟩ (HI6.out.step (((Below.refl _ _).alloc (Nat.le_refl _) _).alloc (by simp) _)) (by rw [hacl]; exact hown8) hgrow8 (by simpa using hat9))
              have HR8 := hid ((HR6.out.below (((Below.refl _ _).alloc (Nat.le_refl _) _).alloc (by simp) _)).grown hgrow8 hbne5)
              have hbne8 : b8 ≠ g2 := by
                have h1 := HR6.out.1
                rcases hat9 with h | h <;> omega
              clear hown8 hgrow8 hat8 hown6
              go_wp2
              go_roundw
              case rel => exact ⟨j + 1, b8, cp8, _, by omega, by simp; omega, by simp, by go_num, HI8.out, HR8.out, hbne8, by rw [HREST.out]; exact HF.out⟩
              case measure => simp [intOf]; omega
        · have HF : Hid (pointsR (tx s) = ac ++ (d.drop (k + 1)).flatMap ptsA) := by
            unfold Hid
            rw [hall.out, List.drop_of_length_le (by omega)]; rfl
          have HI := hid hinv
          clear hinv hr2 HR2 HI2 HA hall
          go_wp2
          go_roundw
          case rel => exact ⟨k + 1, b, cp, ac, by omega, by omega, rfl, by go_num, HI.out, HF⟩
          case measure => simp [intOf]; omega
    · have HF : Hid (pointsR (tx s) = acc) := by
        unfold Hid
        rw [hall.out, List.drop_of_length_le (by omega)]; simp
      have HV : Hid (VerRow wr w.heap.size (.slice (some ⟨b, 0, none⟩) acc.length cp) acc) := hinv.own
      have HB := hid hinv.bel
      clear hinv
      go_wp2
      go_ret
      exact ⟨_, rfl, by rw [HF.out]; exact HV.out, by rw [HF.out]; omega, HB.out⟩

end Hst
end Go.Proofs.Ytecocheolbkneaa
namespace Go.Proofs.Ytecocheolbkneaa
open Go.RowKit
namespace Hst
set_option maxRecDepth 100000

theorem an_yes (f : Tx → Bool) (d : List Tx) (k : Nat) (hk : k < d.length) (h : f d[k] = true) : (d.drop k).any f = true := by
  rw [List.drop_eq_getElem_cons hk, List.any_cons, h, Bool.true_or]
theorem an_no (f : Tx → Bool) (d : List Tx) (k : Nat) (hk : k < d.length) (h : f d[k] = false) : (d.drop k).any f = (d.drop (k + 1)).any f := by
  rw [List.drop_eq_getElem_cons hk, List.any_cons, h, Bool.false_or]
theorem an_end (f : Tx → Bool) (d : List Tx) (k : Nat) (hk : ¬ k < d.length) : (d.drop k).any f = false := by
  rw [List.drop_of_length_le (by omega)]; rfl

/-- What is known of an alternative in the midst of its conditions. -/
def AltSt (alt bl : Bool) (m : List Tx) (v : V3) : Prop := (bl = true → alt = m.all (fun x => holdsR x v)) ∧ (bl = false → alt = false)

attribute [local go_sem ↓] Go.wp_at_zero Go.wp_at_succ

set_option maxHeartbeats 2000000 in
theorem fit_any (s : ByteArray) (a b c : Int) (w : World) (h60 : s.size ≤ 60) :
    Calls Try.prog 15 #[.string s, verV a b c] w fun e w' => e = .returned (.bool (fitR (tx s) ⟨a, b, c⟩)) ∧ Below w.heap.size w w' := by
  have HP : Hid (fitR (tx s) ⟨a, b, c⟩ = (splitL 124 (tx s)).any (fun x => altFitR x ⟨a, b, c⟩)) := rfl
  go_enter Try.func15, Try.ntmps15
  go_wp2_with fail
  refine (rsplit_any s 124 _ (by omega)).mono ?_
  rintro e w1 ⟨v, rfl, hrow, hb1⟩
  obtain ⟨g, cap, rfl, hg1, hg2, hcell⟩ := hrow.form (splitL_ne _ _)
  have HS := hid (piece_mem (n := 124) h60)
  have hlen := splitL_len 124 (tx s)
  rw [tx_length] at hlen
  generalize splitL 124 (tx s) = d at *
  have HC := hid hcell
  have hz1 := hb1.size
  simp at hz1
  have v0 := (bcell hb1).1 w.heap.size 0 (by simp)
  have v1 := (bcell hb1).1 w.heap.size 1 (by simp)
  have v2 := (bcell hb1).1 w.heap.size 2 (by simp)
  simp at v0 v1 v2
  have HB1 := hid (((Below.refl _ _).alloc (Nat.le_refl _) _).trans (hb1.mono (by simp)) : Below w.heap.size w w1)
  clear hcell hrow hb1
  go_wp2
  go_loopw [6] (fun i wr => ∃ (k : Nat), k ≤ d.length ∧ i = .int .i64 k ∧ Below w1.heap.size w1 wr ∧ Hid (fitR (tx s) ⟨a, b, c⟩ = (d.drop k).any (fun x => altFitR x ⟨a, b, c⟩))) (fun i _ => d.length - (intOf i).toNat)
  case atStart => exact ⟨0, by omega, rfl, Below.refl _ _, by unfold Hid; rw [HP.out]; rfl⟩
  case round =>
    obtain ⟨k, hk, rfl, hbel, hall⟩ := hrel
    clear HP
    have hz := hbel.size
    by_cases hlt : k < d.length
    · have hc := (hbel.cell (p := ⟨g, k, none⟩) hg2).trans (HC.out k hlt)
      have hps := HS.out k hlt
      have HA : Hid (altFitR d[k] ⟨a, b, c⟩ = (splitL 38 (tx (bs d[k]))).all (fun x => holdsR x ⟨a, b, c⟩)) := by unfold Hid; rw [tx_bs]; rfl
      have HY := hid (an_yes (fun x => altFitR x ⟨a, b, c⟩) d k hlt)
      have HN := hid (an_no (fun x => altFitR x ⟨a, b, c⟩) d k hlt)
      generalize altFitR d[k] ⟨a, b, c⟩ = alt at *
      generalize bs d[k] = q at *
      go_wp2_with fail
      refine (rsplit_any q 38 _ (by omega)).mono ?_
      rintro e w2 ⟨v, rfl, hrow, hb2⟩
      obtain ⟨g2, cap2, rfl, hg3, hg4, hcell2⟩ := hrow.form (splitL_ne _ _)
      have HS2 := hid (piece_mem (n := 38) hps)
      have hlen2 := splitL_len 38 (tx q)
      rw [tx_length] at hlen2
      generalize splitL 38 (tx q) = m at *
      have HC2 := hid hcell2
      have hz2 := hb2.size
      have HB2 := hid (hbel.trans (hb2.mono hz))
      have hB2 := HB2.out
      have u0 := (hB2.cell (p := ⟨w.heap.size, 0, none⟩) (by show w.heap.size < _; omega)).trans v0
      have u1 := (hB2.cell (p := ⟨w.heap.size, 1, none⟩) (by show w.heap.size < _; omega)).trans v1
      have u2 := (hB2.cell (p := ⟨w.heap.size, 2, none⟩) (by show w.heap.size < _; omega)).trans v2
      clear hcell2 hrow hc hB2 v0 v1 v2
      go_wp2
      go_loopw [8, 9] (fun al i wq => ∃ (j : Nat) (bl : Bool), j ≤ m.length ∧ al = .bool bl ∧ i = .int .i64 j ∧ Below w2.heap.size w2 wq ∧ AltSt alt bl (m.drop j) ⟨a, b, c⟩) (fun _ i _ => m.length - (intOf i).toNat)
      case atStart => exact ⟨0, true, by omega, rfl, rfl, Below.refl _ _, ⟨fun _ => by rw [HA.out]; rfl, fun h => by cases h⟩⟩
      case round =>
        obtain ⟨j, bl, hj, rfl, rfl, hbel2, hall2⟩ := hrel
        clear HA
        have hz4 := hbel2.size
        have HB := hid (HB2.out.trans (hbel2.mono (by omega)))
        have HBw := hid (HB1.out.trans (HB.out.mono (by omega)))
        cases bl
        · -- the alternative does not fit
          have HF : Hid (alt = false) := hall2.2 rfl
          have HF2 : Hid (fitR (tx s) ⟨a, b, c⟩ = (d.drop (k + 1)).any (fun x => altFitR x ⟨a, b, c⟩)) := by unfold Hid; rw [hall.out, HN.out HF.out]
          by_cases hjl : j < m.length
          all_goals
            go_wp2
            go_roundw
            case rel => exact ⟨k + 1, by omega, by go_num, HB.out, HF2⟩
            case measure => simp [intOf]; omega
        · by_cases hjl : j < m.length
          · have hc2 := (hbel2.cell (p := ⟨g2, j, none⟩) hg4).trans (HC2.out j hjl)
            have hh := fun w => holds_any (bs m[j]) a b c w
            rw [tx_bs] at hh
            have HH := hid hh
            have t0 := (hbel2.cell (p := ⟨w.heap.size, 0, none⟩) (by show w.heap.size < _; omega)).trans u0
            have t1 := (hbel2.cell (p := ⟨w.heap.size, 1, none⟩) (by show w.heap.size < _; omega)).trans u1
            have t2 := (hbel2.cell (p := ⟨w.heap.size, 2, none⟩) (by show w.heap.size < _; omega)).trans u2
            have HY2 := hid (al_yes (fun x => holdsR x ⟨a, b, c⟩) m j hjl)
            have HN2 := hid (al_no (fun x => holdsR x ⟨a, b, c⟩) m j hjl)
            generalize holdsR m[j] ⟨a, b, c⟩ = cnd at *
            generalize bs m[j] = q2 at *
            clear hh u0 u1 u2
            have HF : AltSt alt cnd (m.drop (j + 1)) ⟨a, b, c⟩ := ⟨fun h => by rw [hall2.1 rfl, HY2.out h], fun h => by rw [hall2.1 rfl, HN2.out h]⟩
            have hgq : g2 < wr.heap.size := by omega
            have hwq : w.heap.size < wr.heap.size := by omega
            have hj0 : (0 : Int) ≤ (j : Int) := by omega
            have hj1 : (j : Int) < (m.length : Int) := by omega
            go_wp2
            go_region_held3 (fun w' => w'.cell? ⟨g2, j, none⟩ = some (.string q2) ∧ w'.cell? ⟨w.heap.size, 0, none⟩ = some (.int .i64 a) ∧ w'.cell? ⟨w.heap.size, 1, none⟩ = some (.int .i64 b) ∧ w'.cell? ⟨w.heap.size, 2, none⟩ = some (.int .i64 c)) (go_keep)
              (first | (go_at_call 24; refine (HH.out _).mono ?_; rintro e w3 ⟨rfl, hb3⟩; have hz3 := (bcell hb3).1; simp at hz3))
            have HB3 := hid (hbel2.drew.trans (hb3.mono hz4))
            clear hb3
            go_wp2
            go_roundw
            case rel => exact ⟨j + 1, cnd, by omega, rfl, by go_num, HB3.out, HF⟩
            case measure => simp [intOf]; omega
          · have HF : Hid (fitR (tx s) ⟨a, b, c⟩ = true) := by unfold Hid; rw [hall.out, HY.out (by rw [hall2.1 rfl, al_end _ m j hjl])]
            go_wp2
            go_ret
            exact ⟨ret_bool (by rw [HF.out]), HBw.out⟩
    · have HF : Hid (fitR (tx s) ⟨a, b, c⟩ = false) := by unfold Hid; rw [hall.out, an_end _ d k hlt]
      have HB := hid (HB1.out.trans (hbel.mono (by omega)))
      go_wp2
      go_ret
      exact ⟨ret_bool (by rw [HF.out]), HB.out⟩

end Hst
end Go.Proofs.Ytecocheolbkneaa
namespace Go.Proofs.Ytecocheolbkneaa
open Go.RowKit
namespace Hst
set_option maxRecDepth 100000

theorem anyV_yes {f : V3 → Bool} (d : List V3) (k : Nat) (hk : k < d.length) (h : f d[k] = true) : (d.drop k).any f = true := by
  rw [List.drop_eq_getElem_cons hk, List.any_cons, h, Bool.true_or]
theorem anyV_no {f : V3 → Bool} (d : List V3) (k : Nat) (hk : k < d.length) (h : f d[k] = false) : (d.drop k).any f = (d.drop (k + 1)).any f := by
  rw [List.drop_eq_getElem_cons hk, List.any_cons, h, Bool.false_or]
theorem anyV_end {f : V3 → Bool} (d : List V3) (k : Nat) (hk : ¬ k < d.length) : (d.drop k).any f = false := by
  rw [List.drop_of_length_le (by omega)]; rfl
theorem vers_one (p : List V3) : ∀ u ∈ vers p, u.oneCell' = true := by
  intro u hu
  simp [vers] at hu
  obtain ⟨v, _, rfl | rfl | rfl⟩ := hu <;> rfl
theorem pointsR_ne (l : Tx) : pointsR l ≠ [] := by simp [pointsR]

theorem ver_cells {w : World} {base g n cap : Nat} {p : List V3} (h : w.ownsRow base 40 3 (.slice (some ⟨g, 0, none⟩) n cap) n (vers p)) (hn : p.length = n) : ∀ (j : Nat) (hj : j < p.length), w.cell? ⟨g, j * 3, none⟩ = some (.int .i64 p[j].a) ∧ w.cell? ⟨g, j * 3 + 1, none⟩ = some (.int .i64 p[j].b) ∧ w.cell? ⟨g, j * 3 + 2, none⟩ = some (.int .i64 p[j].c) := by
  intro j hj
  rw [World.ownsRow.cellAt h (j * 3) (by omega), World.ownsRow.cellAt h (j * 3 + 1) (by omega), World.ownsRow.cellAt h (j * 3 + 2) (by omega)]
  exact vers_at p j hj

/-- Meet of the document: its answer and its error. -/
def meetRef (r s : Tx) : Bool × Int := if isRangeR r = false ∨ isRangeR s = false then (false, 1) else (meetR r s, 0)
theorem meetRef1 {r s : Tx} (h : isRangeR r = false ∨ isRangeR s = false) : meetRef r s = (false, 1) := by simp [meetRef, h]
theorem meetRef2 {r s : Tx} (h : isRangeR r = true) (h' : isRangeR s = true) : meetRef r s = (meetR r s, 0) := by simp [meetRef, h, h']
theorem short_of {r : ByteArray} (hr : isRangeR (tx r) = true) : r.size ≤ 60 := by
  by_cases h : r.size ≤ 60
  · exact h
  · rw [isRangeR_long r h] at hr; simp at hr

set_option maxHeartbeats 2000000 in
theorem rmeetf_any (r s : ByteArray) (w : World) :
    Calls Try.prog 9 #[.string r, .string s] w fun e w' => e = .returned (.tuple #[.bool (meetRef (tx r) (tx s)).1, .int .i64 (meetRef (tx r) (tx s)).2]) ∧ Below w.heap.size w w' := by
  have HR := hid (fun w => isRange_any r w)
  have HV := hid (fun w => isRange_any s w)
  rcases hr : isRangeR (tx r) with _ | _
  · rw [meetRef1 (.inl hr)]
    rw [hr] at HR
    generalize isRangeR (tx s) = b2 at *
    clear hr
    go_enter Try.func9, Try.ntmps9
    go_wp2_with fail
    refine (HR.out _).mono ?_
    rintro e w1 ⟨rfl, hb1⟩
    go_wp2_with fail
    refine (HV.out _).mono ?_
    rintro e w2 ⟨rfl, hb2⟩
    have HB := hid (hb1.trans (hb2.mono hb1.size))
    clear hb1 hb2
    go_wp2
    go_ret2
    exact ⟨rfl, HB.out⟩
  · rcases hs : isRangeR (tx s) with _ | _
    · rw [meetRef1 (.inr hs)]
      rw [hr] at HR
      rw [hs] at HV
      clear hr hs
      go_enter Try.func9, Try.ntmps9
      go_wp2_with fail
      refine (HR.out _).mono ?_
      rintro e w1 ⟨rfl, hb1⟩
      go_wp2_with fail
      refine (HV.out _).mono ?_
      rintro e w2 ⟨rfl, hb2⟩
      have HB := hid (hb1.trans (hb2.mono hb1.size))
      clear hb1 hb2
      go_wp2
      go_ret2
      exact ⟨rfl, HB.out⟩
    · rw [meetRef2 hr hs]
      have h60 := short_of hr
      have h60' := short_of hs
      rw [hr] at HR
      rw [hs] at HV
      clear hr hs
      have HPR := hid (fun w => points_any r w h60)
      have HPS := hid (fun w => points_any s w h60')
      have HM : Hid (meetR (tx r) (tx s) = (pointsR (tx r) ++ pointsR (tx s)).any fun p => fitR (tx r) p && fitR (tx s) p) := rfl
      have hnr := pointsR_ne (tx r)
      have hns := pointsR_ne (tx s)
      obtain ⟨i0, hi, hz0, hz1, hz2⟩ := info_parts info_ver
      generalize pointsR (tx r) = P at *
      generalize pointsR (tx s) = Q at *
      go_enter Try.func9, Try.ntmps9
      go_wp2_with fail
      refine (HR.out _).mono ?_
      rintro e w1 ⟨rfl, hb1⟩
      go_wp2_with fail
      refine (HV.out _).mono ?_
      rintro e w2 ⟨rfl, hb2⟩
      have HB := hid (hb1.trans (hb2.mono hb1.size))
      clear hb1 hb2
      go_wp2_with fail
      refine (HPR.out _).mono ?_
      rintro e w3 ⟨vp, rfl, hvp, hlp, hb3⟩
      obtain ⟨gp, cp, rfl, hgp1, hgp2, hcp⟩ := hvp.form hnr
      clear hcp
      go_wp2_with fail
      refine (HPS.out _).mono ?_
      rintro e w4 ⟨vq, rfl, hvq, hlq, hb4⟩
      obtain ⟨gq, cq, rfl, hgq1, hgq2, hcq⟩ := hvq.form hns
      clear hcq
      have hz3 := hb3.size
      have hz4 := hb4.size
      have hvp4 : w4.ownsRow w2.heap.size 40 3 (.slice (some ⟨gp, 0, none⟩) P.length cp) P.length (vers P) := own_below hvp hb4
      have hB24 := hb3.trans (hb4.mono hz3)
      have hQ := List.length_pos_iff.2 hns
      have HNS := hid (hvq.cells (g := gq) rfl)
      have hql := vers_len Q
      have HQL := hid hql
      clear hql hb3 hb4 hvp hns hnr
      go_wp2_with (first | (at_builtin; refine wpList_append_lies _ rfl _ _ 45 rfl w2.heap.size 40 i0 (.agg #[.int .i64 0, .int .i64 0, .int .i64 0]) 3 24 Try.underlying45 hi hz0 hz1 hz2 rfl (by omega) _ _ _ rfl hvp4 ⟨gq, 0, none⟩ Q.length cq (vers Q) rfl HQL.out HNS.out (vers_one _) hQ (by unfold maxLen; omega) (by omega) (by omega) w4.heap.size rfl ?_; intro g5 c5 w5 hown5 hgrow hat hlt5))
      rw [vers_append] at hown5
      have hRL : (P ++ Q).length = P.length + Q.length := List.length_append
      generalize P ++ Q = R at *
      have HC := hid (ver_cells hown5 hRL)
      have hb5 := hB24.grown hgrow (by omega) (fun k hk => by have h' : some gp = some k := hk; simp at h'; omega)
      have HB5 := hid (HB.out.trans (hb5.mono HB.out.size))
      have HL := hid hRL
      clear hown5 hgrow hat hRL hvp4 hB24 hb5 HNS HQL hvq
      go_loopw [10] (fun i wr => ∃ (k : Nat), k ≤ P.length + Q.length ∧ i = .int .i64 k ∧ Below w5.heap.size w5 wr ∧ Hid (meetR (tx r) (tx s) = (R.drop k).any fun p => fitR (tx r) p && fitR (tx s) p)) (fun i _ => P.length + Q.length - (intOf i).toNat)
      case atStart => exact ⟨0, by omega, rfl, Below.refl _ _, HM⟩
      case round =>
        obtain ⟨k, hk, rfl, hbel, hall⟩ := hrel
        clear HM
        have hz := hbel.size
        have HBw := hid (HB5.out.trans (hbel.mono HB5.out.size))
        by_cases hlt : k < P.length + Q.length
        · have hkR : k < R.length := by have := HL.out; omega
          obtain ⟨c0, c1, c2⟩ := HC.out k hkR
          have d0 := (hbel.cell (p := ⟨g5, k * 3, none⟩) hlt5).trans c0
          have d1 := (hbel.cell (p := ⟨g5, k * 3 + 1, none⟩) hlt5).trans c1
          have d2 := (hbel.cell (p := ⟨g5, k * 3 + 2, none⟩) hlt5).trans c2
          have HY := hid (anyV_yes (f := fun p => fitR (tx r) p && fitR (tx s) p) R k hkR)
          have HN := hid (anyV_no (f := fun p => fitR (tx r) p && fitR (tx s) p) R k hkR)
          have HF1 := hid (fun w => fit_any r R[k].a R[k].b R[k].c w h60)
          have HF2 := hid (fun w => fit_any s R[k].a R[k].b R[k].c w h60')
          generalize R[k] = v at *
          obtain ⟨a, b, c⟩ := v
          simp only at d0 d1 d2
          generalize fitR (tx r) ⟨a, b, c⟩ = f1 at *
          generalize fitR (tx s) ⟨a, b, c⟩ = f2 at *
          have hg6 : g5 < wr.heap.size := by omega
          clear c0 c1 c2
          go_wp2_with fail
          refine (HF1.out _).mono ?_
          rintro e w6 ⟨rfl, hb6⟩
          have hz6 := hb6.size
          have e0 := (hb6.cell (p := ⟨g5, k * 3, none⟩) hg6).trans d0
          have e1 := (hb6.cell (p := ⟨g5, k * 3 + 1, none⟩) hg6).trans d1
          have e2 := (hb6.cell (p := ⟨g5, k * 3 + 2, none⟩) hg6).trans d2
          clear d0 d1 d2
          go_wp2_with fail
          refine (HF2.out _).mono ?_
          rintro e w7 ⟨rfl, hb7⟩
          have HB7 := hid (hb6.trans (hb7.mono hz6))
          have HBx := hid (HBw.out.trans (HB7.out.mono HBw.out.size))
          have HBr := hid (hbel.trans (HB7.out.mono hz))
          clear hb6 hb7 e0 e1 e2
          cases f1
          · have HF : Hid (meetR (tx r) (tx s) = (R.drop (k + 1)).any fun p => fitR (tx r) p && fitR (tx s) p) := by unfold Hid; rw [hall.out, HN.out rfl]
            clear hall HY HN
            go_wp2
            go_roundw
            case rel => exact ⟨k + 1, by omega, by go_num, HBr.out, HF⟩
            case measure => simp [intOf]; omega
          · cases f2
            · have HF : Hid (meetR (tx r) (tx s) = (R.drop (k + 1)).any fun p => fitR (tx r) p && fitR (tx s) p) := by unfold Hid; rw [hall.out, HN.out rfl]
              clear hall HY HN
              go_wp2
              go_roundw
              case rel => exact ⟨k + 1, by omega, by go_num, HBr.out, HF⟩
              case measure => simp [intOf]; omega
            · have HF : Hid (meetR (tx r) (tx s) = true) := by unfold Hid; rw [hall.out, HY.out rfl]
              clear hall HY HN
              go_wp2
              go_ret2
              exact ⟨ret_bool_int (by rw [HF.out]) rfl, HBx.out⟩
        · have HF : Hid (meetR (tx r) (tx s) = false) := by unfold Hid; rw [hall.out, anyV_end R k (by have := HL.out; omega)]
          go_wp2
          go_ret2
          exact ⟨ret_bool_int (by rw [HF.out]) rfl, HBw.out⟩

end Hst
end Go.Proofs.Ytecocheolbkneaa
namespace Go.Proofs.Ytecocheolbkneaa
namespace Hst

theorem after_yes {v : V3} (h : Valid v) (hm : (afterR v).2 = true) : Valid (afterR v).1 ∧ place (afterR v).1 = place v + 1 := by
  obtain ⟨h1, h2, h3, h4, h5, h6⟩ := h
  unfold afterR at hm ⊢
  by_cases c1 : v.c < 99
  · rw [if_pos c1]
    exact ⟨⟨h1, h2, h3, h4, by simp; omega, by simp; omega⟩, by simp only [place]; omega⟩
  · by_cases c2 : v.b < 99
    · rw [if_neg c1, if_pos c2]
      exact ⟨⟨h1, h2, by simp; omega, by simp; omega, by simp, by simp⟩, by simp only [place]; omega⟩
    · by_cases c3 : v.a < 99
      · rw [if_neg c1, if_neg c2, if_pos c3]
        exact ⟨⟨by simp; omega, by simp; omega, by simp, by simp, by simp, by simp⟩, by simp only [place]; omega⟩
      · rw [if_neg c1, if_neg c2, if_neg c3] at hm
        simp at hm
theorem after_no {v : V3} (h : Valid v) (hm : (afterR v).2 = false) : place v = 999999 := by
  obtain ⟨h1, h2, h3, h4, h5, h6⟩ := h
  unfold afterR at hm
  by_cases c1 : v.c < 99
  · rw [if_pos c1] at hm; simp at hm
  · by_cases c2 : v.b < 99
    · rw [if_neg c1, if_pos c2] at hm; simp at hm
    · by_cases c3 : v.a < 99
      · rw [if_neg c1, if_neg c2, if_pos c3] at hm; simp at hm
      · unfold place; omega
theorem ptsC_valid {c : Tx} {p : V3} (h : p ∈ ptsC c) : Valid p := by
  unfold ptsC at h
  split at h
  · rename_i hv
    have hw := versionR_valid _ hv
    simp only [List.mem_cons] at h
    rcases h with rfl | h
    · exact hw
    · split at h
      · rename_i hm
        simp at h
        subst h
        exact (after_yes hw hm).1
      · simp at h
  · simp at h
theorem zero_valid : Valid ⟨0, 0, 0⟩ := ⟨by simp, by simp, by simp, by simp, by simp, by simp⟩
theorem pointsR_valid {l : Tx} {p : V3} (h : p ∈ pointsR l) : Valid p := by
  unfold pointsR at h
  simp only [List.mem_append, List.mem_singleton, List.mem_flatMap] at h
  rcases h with rfl | ⟨a, _, h⟩
  · exact zero_valid
  · unfold ptsA at h
    simp only [List.mem_flatMap] at h
    obtain ⟨c, _, h⟩ := h
    exact ptsC_valid h

theorem pts_self {c sg rest : Tx} (hd : signedR c = (sg, rest)) (hv : (versionR rest).2 = true) : (versionR rest).1 ∈ ptsC c := by
  unfold ptsC
  rw [hd, if_pos hv]
  simp
theorem pts_next {c sg rest : Tx} (hd : signedR c = (sg, rest)) (hv : (versionR rest).2 = true) (hm : (afterR (versionR rest).1).2 = true) : (afterR (versionR rest).1).1 ∈ ptsC c := by
  unfold ptsC
  rw [hd, if_pos hv, if_pos hm]
  simp

theorem cond_low {c : Tx} {s : Int × Int} (h : condP c = some s) (hs : s.1 ≤ 999999) : s.1 = 0 ∨ ∃ p ∈ ptsC c, place p = s.1 := by
  by_cases h42 : c = [42]
  · subst h42
    simp [condP] at h
    subst h
    exact .inl rfl
  · obtain ⟨sg, rest, n, hc⟩ := condIs_of_span h42 h
    obtain ⟨hv, rfl⟩ := versionP_some hc.ver
    have hw := versionR_valid rest hv
    have hd := hc.signed
    rw [hc.condP] at h
    have same : s.1 = place (versionR rest).1 → s.1 = 0 ∨ ∃ p ∈ ptsC c, place p = s.1 := fun e => .inr ⟨_, pts_self hd hv, e.symm⟩
    rcases hc.sign with e | e | e | e | e | e | e <;> subst e <;> simp [spanOfP] at h <;> subst h
    · exact same rfl
    · simp only at hs ⊢
      rcases hm : (afterR (versionR rest).1).2 with _ | _
      · have := after_no hw hm; omega
      · exact .inr ⟨_, pts_next hd hv hm, (after_yes hw hm).2⟩
    · exact same rfl
    · exact .inl rfl
    · exact .inl rfl
    · exact same rfl
    · exact same rfl

theorem alt_low : ∀ (d : List Tx) (lo hi : Int) (s : Int × Int), altGo lo hi d = some s → (s.1 = lo ∨ ∃ c ∈ d, ∃ x, condP c = some x ∧ x.1 = s.1) ∧ s.2 ≤ hi
  | [], lo, hi, s, h => by simp [altGo] at h; subst h; exact ⟨.inl rfl, Int.le_refl _⟩
  | c :: r, lo, hi, s, h => by
    simp only [altGo] at h
    rcases hc : condP c with _ | x
    · rw [hc] at h; simp at h
    · rw [hc] at h
      have ih := alt_low r _ _ s h
      refine ⟨?_, ?_⟩
      · rcases ih.1 with e | ⟨c', h1, x', h2, h3⟩
        · unfold mx at e
          split at e
          · exact .inr ⟨c, by simp, x, hc, e.symm⟩
          · exact .inl e
        · exact .inr ⟨c', by simp [h1], x', h2, h3⟩
      · exact ((le_mn hi x.2 s.2).1 ih.2).1
theorem altP_low {l : Tx} {s : Int × Int} (h : altP l = some s) : s.2 ≤ 999999 ∧ (s.1 ≤ 999999 → s.1 = 0 ∨ ∃ p ∈ ptsA l, place p = s.1) := by
  have hl := alt_low _ _ _ _ h
  refine ⟨hl.2, fun hs => ?_⟩
  rcases hl.1 with e | ⟨c, h1, x, h2, h3⟩
  · exact .inl e
  · rcases cond_low h2 (by omega) with e | ⟨p, hp, e⟩
    · exact .inl (by omega)
    · refine .inr ⟨p, ?_, by omega⟩
      unfold ptsA
      exact List.mem_flatMap.2 ⟨c, h1, hp⟩
theorem range_low : ∀ (d : List Tx) (acc sp : List (Int × Int)), rangeGo acc d = some sp → ∀ s ∈ sp, s ∈ acc ∨ ∃ a ∈ d, altP a = some s
  | [], acc, sp, h, s, hs => by simp [rangeGo] at h; subst h; exact .inl hs
  | a :: r, acc, sp, h, s, hs => by
    simp only [rangeGo] at h
    rcases ha : altP a with _ | x
    · rw [ha] at h; simp at h
    · rw [ha] at h
      rcases range_low r _ sp h s hs with e | ⟨b, h1, h2⟩
      · simp at e
        rcases e with e | rfl
        · exact .inl e
        · exact .inr ⟨a, by simp, ha⟩
      · exact .inr ⟨b, by simp [h1], h2⟩
/-- Where a span of a range begins there is a point. -/
theorem rangeP_low {l : Tx} {sp : List (Int × Int)} (h : rangeP l = some sp) {s : Int × Int} (hs : s ∈ sp) : s.2 ≤ 999999 ∧ (s.1 ≤ 999999 → ∃ p ∈ pointsR l, place p = s.1) := by
  unfold rangeP at h
  split at h
  · simp at h
  · rcases range_low _ _ _ h s hs with e | ⟨a, h1, h2⟩
    · simp at e
    · have hl := altP_low h2
      refine ⟨hl.1, fun hs => ?_⟩
      rcases hl.2 hs with e | ⟨p, hp, e⟩
      · exact ⟨⟨0, 0, 0⟩, by simp [pointsR], by rw [e]; rfl⟩
      · refine ⟨p, ?_, e⟩
        unfold pointsR
        simp only [List.mem_append, List.mem_flatMap]
        exact .inr ⟨a, h1, hp⟩

theorem fitsP_of {sp : List (Int × Int)} {s : Int × Int} {p : Int} (hs : s ∈ sp) (h1 : s.1 ≤ p) (h2 : p ≤ s.2) : fitsP sp p = true := by
  unfold fitsP
  rw [List.any_eq_true]
  exact ⟨s, hs, by simp [h1, h2]⟩
theorem of_fitsP {sp : List (Int × Int)} {p : Int} (h : fitsP sp p = true) : ∃ s ∈ sp, s.1 ≤ p ∧ p ≤ s.2 := by
  unfold fitsP at h
  rw [List.any_eq_true] at h
  obtain ⟨s, hs, h⟩ := h
  simp at h
  exact ⟨s, hs, h⟩

theorem meet_law {r s : Tx} {sp sq : List (Int × Int)} (h1 : rangeP r = some sp) (h2 : rangeP s = some sq) (f1 : ∀ v, Valid v → fitR r v = fitsP sp (place v)) (f2 : ∀ v, Valid v → fitR s v = fitsP sq (place v)) : meetR r s = meetP sp sq := by
  rw [Bool.eq_iff_iff]
  constructor
  · intro h
    unfold meetR at h
    rw [List.any_eq_true] at h
    obtain ⟨p, hp, h⟩ := h
    have hv : Valid p := by
      simp only [List.mem_append] at hp
      rcases hp with hp | hp <;> exact pointsR_valid hp
    rw [Bool.and_eq_true, f1 p hv, f2 p hv] at h
    obtain ⟨x, hx, a1, a2⟩ := of_fitsP h.1
    obtain ⟨y, hy, b1, b2⟩ := of_fitsP h.2
    unfold meetP
    rw [List.any_eq_true]
    refine ⟨x, hx, ?_⟩
    rw [List.any_eq_true]
    refine ⟨y, hy, ?_⟩
    have e1 := (mx_le x.1 y.1 (place p)).2 ⟨a1, b1⟩
    have e2 := (le_mn x.2 y.2 (place p)).2 ⟨a2, b2⟩
    simp
    omega
  · intro h
    unfold meetP at h
    rw [List.any_eq_true] at h
    obtain ⟨x, hx, h⟩ := h
    rw [List.any_eq_true] at h
    obtain ⟨y, hy, h⟩ := h
    simp at h
    have e1 := (mx_le x.1 y.1 (mx x.1 y.1)).1 (Int.le_refl _)
    have e2 := (le_mn x.2 y.2 (mn x.2 y.2)).1 (Int.le_refl _)
    have l1 := rangeP_low h1 hx
    have l2 := rangeP_low h2 hy
    have key : ∃ p, p ∈ pointsR r ++ pointsR s ∧ Valid p ∧ place p = mx x.1 y.1 := by
      have hm : mx x.1 y.1 = x.1 ∨ mx x.1 y.1 = y.1 := by unfold mx; split <;> simp
      rcases hm with hm | hm
      · obtain ⟨p, hp, e⟩ := l1.2 (by omega)
        exact ⟨p, List.mem_append.2 (.inl hp), pointsR_valid hp, by omega⟩
      · obtain ⟨p, hp, e⟩ := l2.2 (by omega)
        exact ⟨p, List.mem_append.2 (.inr hp), pointsR_valid hp, by omega⟩
    obtain ⟨p, hp, hv, e⟩ := key
    unfold meetR
    rw [List.any_eq_true]
    refine ⟨p, hp, ?_⟩
    rw [Bool.and_eq_true, f1 p hv, f2 p hv]
    exact ⟨fitsP_of hx (by omega) (by omega), fitsP_of hy (by omega) (by omega)⟩

end Hst
end Go.Proofs.Ytecocheolbkneaa
