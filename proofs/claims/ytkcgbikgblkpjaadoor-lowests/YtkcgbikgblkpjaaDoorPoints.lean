/- hoistref.points. -/
import Derived.Test.YtkcgbikgblkpjaaDoorAfter
import Derived.Test.YtkcgbikgblkpjaaDoorRrange
import Derived.Test.YtkcgbikgblkpjaaDoorMath
import Derived.Test.YtkcgbikgblkpjaaDoorRparse
namespace Go.Proofs.YtkcgbikgblkpjaaDoor
open Go.RowKit
namespace Hst

theorem info_ver : (Tryd.prog.info? 51).map (fun i => (i.zero, i.size, i.bytes)) = some (some (.agg #[.int .i64 0, .int .i64 0, .int .i64 0]), 3, 24) := by kernel_rfl

/-- The cells of some versions. -/
def vers (p : List V3) : List Value := p.flatMap fun v => [Value.int .i64 v.a, Value.int .i64 v.b, Value.int .i64 v.c]
theorem vers_append (p q : List V3) : vers p ++ vers q = vers (p ++ q) := by simp [vers]
theorem vers_len : ∀ p : List V3, (vers p).length = p.length * 3
  | [] => rfl
  | v :: r => by
    have := vers_len r
    simp only [vers, List.flatMap_cons, List.length_append, List.length_cons, List.length_nil] at this ⊢
    omega
theorem vers_at : ∀ (p : List V3) (j : Nat) (hj : j < p.length), (vers p)[j * 3]? = some (Value.int .i64 p[j].a) ∧ (vers p)[j * 3 + 1]? = some (Value.int .i64 p[j].b) ∧ (vers p)[j * 3 + 2]? = some (Value.int .i64 p[j].c)
  | [], j, hj => by simp at hj
  | v :: r, 0, _ => by simp [vers]
  | v :: r, j + 1, hj => by
    have ih := vers_at r j (by simpa using hj)
    have e1 : (j + 1) * 3 = j * 3 + 1 + 1 + 1 := by omega
    have e2 : (j + 1) * 3 + 1 = j * 3 + 1 + 1 + 1 + 1 := by omega
    have e3 : (j + 1) * 3 + 2 = j * 3 + 2 + 1 + 1 + 1 := by omega
    rw [e3, e2, e1]
    simp only [vers, List.flatMap_cons, List.cons_append, List.nil_append, List.getElem?_cons_succ, List.getElem_cons_succ] at ih ⊢
    exact ih
/-- The row of versions that a call has made. -/
def VerRow (w : World) (base : Nat) (v : Value) (p : List V3) : Prop := w.ownsRow base 51 3 v p.length (vers p)
theorem VerRow.below {w w' : World} {base : Nat} {v : Value} {p : List V3} (h : VerRow w base v p) (hb : Below w.heap.size w w') : VerRow w' base v p := own_below h hb
theorem VerRow.form {w : World} {base : Nat} {v : Value} {p : List V3} (h : VerRow w base v p) (hd : p ≠ []) : ∃ g cap, v = .slice (some ⟨g, 0, none⟩) p.length cap ∧ base ≤ g ∧ g < w.heap.size ∧ ∀ (j : Nat) (hj : j < p.length), w.cell? ⟨g, j * 3, none⟩ = some (.int .i64 p[j].a) ∧ w.cell? ⟨g, j * 3 + 1, none⟩ = some (.int .i64 p[j].b) ∧ w.cell? ⟨g, j * 3 + 2, none⟩ = some (.int .i64 p[j].c) := by
  have hn : 0 < p.length := List.length_pos_iff.2 hd
  obtain ⟨g, cap, rfl, h1, h2⟩ := form_any h hn
  refine ⟨g, cap, rfl, h1, h2, fun j hj => ?_⟩
  rw [World.ownsRow.cellAt h (j * 3) (by omega), World.ownsRow.cellAt h (j * 3 + 1) (by omega), World.ownsRow.cellAt h (j * 3 + 2) (by omega)]
  exact vers_at p j hj
/-- A row of texts lies at block g. -/
def RowAt (w : World) (g : Nat) (d : List Tx) : Prop := g < w.heap.size ∧ ∀ (j : Nat) (hj : j < d.length), w.cell? ⟨g, j, none⟩ = some (.string (bs d[j]))
theorem RowAt.below {w w' : World} {g : Nat} {d : List Tx} (h : RowAt w g d) (hb : Below w.heap.size w w') : RowAt w' g d :=
  ⟨Nat.lt_of_lt_of_le h.1 hb.size, fun j hj => by rw [(bcell hb).1 _ _ h.1]; exact h.2 j hj⟩
theorem RowAt.grown {w w' : World} {g b : Nat} {d : List Tx} (h : RowAt w g d) (hg : w.grownBy w' (some b)) (hne : b ≠ g) : RowAt w' g d :=
  ⟨Nat.lt_of_lt_of_le h.1 hg.size, fun j hj => hg.cell (h.2 j hj) (by simp; exact fun e => hne e.symm)⟩
theorem three_ints (a b c : Int) : ∀ u ∈ [Value.int .i64 a, Value.int .i64 b, Value.int .i64 c], u.oneCell' = true := by intro u hu; simp at hu; rcases hu with rfl | rfl | rfl <;> rfl

/-- What points has in hand: the row 'out' at block b, the row of the alternatives at g. -/
structure PtInv (w wr : World) (g b cap : Nat) (d : List Tx) (acc : List V3) : Prop where
  bel : Below w.heap.size w wr
  own : wr.ownsRow w.heap.size 51 3 (.slice (some ⟨b, 0, none⟩) acc.length cap) acc.length (vers acc)
  row : RowAt wr g d
  ne : b ≠ g
theorem PtInv.lt {w wr : World} {g b cap : Nat} {d : List Tx} {acc : List V3} (h : PtInv w wr g b cap d acc) : w.heap.size ≤ b ∧ b < wr.heap.size := h.own.lt b rfl
theorem PtInv.step {w wr w2 : World} {g b cap : Nat} {d : List Tx} {acc : List V3} (h : PtInv w wr g b cap d acc) (hb : Below wr.heap.size wr w2) : PtInv w w2 g b cap d acc :=
  ⟨h.bel.trans (hb.mono h.bel.size), own_below h.own hb, h.row.below hb, h.ne⟩
/-- One version more. -/
theorem PtInv.more {w wr w5 : World} {g b cap b' cap' : Nat} {d : List Tx} {acc : List V3} (p : V3) (h : PtInv w wr g b cap d acc)
    (hown : w5.ownsRow w.heap.size 51 3 (.slice (some ⟨b', 0, none⟩) (acc.length + 1) cap') (acc.length + 1) (vers acc ++ [Value.int .i64 p.a, Value.int .i64 p.b, Value.int .i64 p.c])) (hgrow : wr.grownBy w5 (some b)) (hat : b' = b ∨ wr.heap.size ≤ b') : PtInv w w5 g b' cap' d (acc ++ [p]) := by
  have hl := h.lt
  refine ⟨h.bel.grown hgrow h.bel.size (fun k hk => by simp at hk; omega), ?_, h.row.grown hgrow h.ne, ?_⟩
  · have e : vers acc ++ [Value.int .i64 p.a, Value.int .i64 p.b, Value.int .i64 p.c] = vers (acc ++ [p]) := by simp [vers]
    rw [e] at hown
    simpa using hown
  · rcases hat with rfl | hat
    · exact h.ne
    · have := h.row.1; omega

theorem news_ver (w : World) (o1 : Obj) (a b c : Value) (t : TypeId) : ∀ j u, [a, b, c][j]? = some u → ((w.alloc o1).alloc (.cells #[a, b, c] t)).cell? ((⟨w.heap.size + 1, 0, none⟩ : Addr).add j) = some u := by
  intro j u hu
  have h := World.news_of_block (heap_alloc_new (w.alloc o1) (.cells #[a, b, c] t)) j u (by simpa using hu)
  simpa using h
theorem news_ver1 (w : World) (a b c : Value) (t : TypeId) : ∀ j u, [a, b, c][j]? = some u → (w.alloc (.cells #[a, b, c] t)).cell? ((⟨w.heap.size, 0, none⟩ : Addr).add j) = some u := by
  intro j u hu
  exact World.news_of_block (heap_alloc_new w (.cells #[a, b, c] t)) j u (by simpa using hu)

theorem box_kept {w4 w5 : World} {x y z : Value} {o2 : Obj} {b : Nat} {t : TypeId} (hgrow : ((w4.alloc (.cells #[x, y, z] t)).alloc o2).grownBy w5 (some b)) (hb : b < w4.heap.size) :
    w5.cell? ⟨w4.heap.size, 0, none⟩ = some x ∧ w5.cell? ⟨w4.heap.size, 1, none⟩ = some y ∧ w5.cell? ⟨w4.heap.size, 2, none⟩ = some z := by
  refine ⟨hgrow.cell ?_ ?_, hgrow.cell ?_ ?_, hgrow.cell ?_ ?_⟩
  all_goals first | (rw [World.cell?_alloc_past _ _ _ (by simp)]; simp; done) | (simp; omega)

theorem start_own (w : World) : (w.alloc (.cells #[.int .i64 0, .int .i64 0, .int .i64 0] 51)).ownsRow w.heap.size 51 3 (.slice (some ⟨w.heap.size, 0, none⟩) 1 1) 1 (vers [⟨0, 0, 0⟩]) := by
  have := World.ownsRow_lit (base := w.heap.size) (size := 3) (e := 51) w #[.int .i64 0, .int .i64 0, .int .i64 0] 1 (Nat.le_refl _) (by unfold maxLen; omega) rfl
  exact this

set_option maxHeartbeats 2000000 in
theorem points_any (s : ByteArray) (w : World) (h60 : s.size ≤ 60) :
    Calls Tryd.prog 18 #[.string s] w fun e w' => ∃ v, e = .returned v ∧ VerRow w' w.heap.size v (pointsR (tx s)) ∧ (pointsR (tx s)).length ≤ 8000 ∧ Below w.heap.size w w' := by
  obtain ⟨i0, hi, hz0, hz1, hz2⟩ := info_parts info_ver
  have HP : Hid (pointsR (tx s) = [⟨0, 0, 0⟩] ++ (splitL 124 (tx s)).flatMap ptsA) := rfl
  go_enter Tryd.func18, Tryd.ntmps18
  go_wp2_with fail
  refine (rsplit_any s 124 _ (by omega)).mono ?_
  rintro e w1 ⟨v, rfl, hrow, hb1⟩
  obtain ⟨g, cap, rfl, hg1, hg2, hcell⟩ := hrow.form (splitL_ne _ _)
  have HS := hid (piece_mem (n := 124) h60)
  have hlen := splitL_len 124 (tx s)
  rw [tx_length] at hlen
  generalize splitL 124 (tx s) = d at *
  have INV : PtInv w w1 g w.heap.size 1 d [⟨0, 0, 0⟩] := ⟨((Below.refl _ _).alloc (Nat.le_refl _) _).trans (hb1.mono (by simp)), own_below (start_own w) hb1, ⟨hg2, hcell⟩, by simp at hg1; omega⟩
  have HI := hid INV
  clear hcell hrow hb1 INV
  go_wp2
  go_loopw [3, 5] (fun v i wr => ∃ (k b cp : Nat) (acc : List V3), k ≤ d.length ∧ acc.length ≤ 1 + 122 * k ∧ v = .slice (some ⟨b, 0, none⟩) acc.length cp ∧ i = .int .i64 k ∧ PtInv w wr g b cp d acc ∧ Hid (pointsR (tx s) = acc ++ (d.drop k).flatMap ptsA)) (fun _ i _ => d.length - (intOf i).toNat)
  case atStart => exact ⟨0, _, 1, [⟨0, 0, 0⟩], by omega, by simp, rfl, rfl, HI.out, HP⟩
  case round =>
    obtain ⟨k, b, cp, acc, hk, hacc, rfl, rfl, hinv, hall⟩ := hrel
    clear HP HI
    by_cases hlt : k < d.length
    · have hc := hinv.row.2 k hlt
      have hps := HS.out k hlt
      have HA : Hid (pointsR (tx s) = acc ++ ((splitL 38 (tx (bs d[k]))).flatMap ptsC ++ (d.drop (k + 1)).flatMap ptsA)) := by
        unfold Hid
        rw [hall.out, List.drop_eq_getElem_cons hlt, List.flatMap_cons, tx_bs]
        rfl
      generalize bs d[k] = q at *
      have HI := hid hinv
      clear hall hinv
      obtain ⟨wo, rfl⟩ : ∃ wo, wo = wr := ⟨_, rfl⟩
      go_wp2_with fail
      refine (rsplit_any q 38 _ (by omega)).mono ?_
      rintro e w2 ⟨v, rfl, hrow, hb2⟩
      obtain ⟨g2, cap2, rfl, hg3, hg4, hcell2⟩ := hrow.form (splitL_ne _ _)
      have HS2 := hid (piece_mem (n := 38) hps)
      have hlen2 := splitL_len 38 (tx q)
      rw [tx_length] at hlen2
      generalize splitL 38 (tx q) = m at *
      have hbne : b ≠ g2 := by have := HI.out.lt; omega
      have HR2 := hid (⟨hg4, hcell2⟩ : RowAt w2 g2 m)
      have HI2 := hid (HI.out.step hb2)
      clear hcell2 hrow hc hb2 HI
      go_wp2
      go_loopw [3, 7] (fun v i wq => ∃ (j b cp : Nat) (ac : List V3), j ≤ m.length ∧ ac.length ≤ 1 + 122 * k + 2 * j ∧ v = .slice (some ⟨b, 0, none⟩) ac.length cp ∧ i = .int .i64 j ∧ PtInv w wq g b cp d ac ∧ RowAt wq g2 m ∧ b ≠ g2 ∧ Hid (pointsR (tx s) = ac ++ ((m.drop j).flatMap ptsC ++ (d.drop (k + 1)).flatMap ptsA))) (fun _ i _ => m.length - (intOf i).toNat)
      case atStart => exact ⟨0, b, cp, acc, by omega, by omega, rfl, rfl, HI2.out, HR2.out, hbne, HA⟩
      case round =>
        obtain ⟨j, b, cp, ac, hj, hac, rfl, rfl, hinv, hr2, hbne, hall⟩ := hrel
        by_cases hjl : j < m.length
        · have hc2 := hr2.2 j hjl
          have HSG := hid (fun w => signed_any (bs m[j]) w)
          rw [tx_bs] at HSG
          have HV := hid (fun w => version_any (bs (signedR m[j]).2) w)
          rw [tx_bs] at HV
          have HA2 : Hid (pointsR (tx s) = ac ++ (ptsC m[j] ++ ((m.drop (j + 1)).flatMap ptsC ++ (d.drop (k + 1)).flatMap ptsA))) := by
            unfold Hid
            rw [hall.out, List.drop_eq_getElem_cons hjl, List.flatMap_cons, List.append_assoc]
          have HPT : Hid (ptsC m[j] = if (versionR (signedR m[j]).2).2 = true then (versionR (signedR m[j]).2).1 :: (if (afterR (versionR (signedR m[j]).2).1).2 = true then [(afterR (versionR (signedR m[j]).2).1).1] else []) else []) := rfl
          have HVV := hid (versionR_valid (signedR m[j]).2)
          generalize versionR (signedR m[j]).2 = vr at *
          generalize (signedR m[j]).2 = rs at *
          generalize (signedR m[j]).1 = sg at *
          generalize ptsC m[j] = pm at *
          generalize bs m[j] = q2 at *
          obtain ⟨⟨x, y, z⟩, ok⟩ := vr
          generalize hrest : (m.drop (j + 1)).flatMap ptsC ++ (d.drop (k + 1)).flatMap ptsA = rest at HA2
          have HREST := hid hrest
          clear hrest
          have HI := hid hinv; have HR := hid hr2
          have hbl := hinv.lt
          have hbz := hinv.bel.size
          clear hall hinv hr2 HR2 HI2 HA
          go_wp2_with fail
          refine (HSG.out _).mono ?_
          rintro e w3 ⟨rfl, hb3⟩
          go_wp2_with fail
          refine (HV.out _).mono ?_
          rintro e w4 ⟨rfl, hb4⟩
          have hb34 := hb3.trans (hb4.mono hb3.size)
          have hz34 := hb34.size
          have HI4 := hid (HI.out.step hb34)
          have HR4 := hid (HR.out.below hb34)
          clear hb3 hb4 hb34
          have hb4 : b < w4.heap.size := by omega
          cases ok
          · have HF : Hid (pointsR (tx s) = ac ++ rest) := by
              unfold Hid
              rw [HA2.out, HPT.out]; simp
            have HI5 := hid (HI4.out.step ((Below.refl _ _).alloc (Nat.le_refl _) (.cells #[.int .i64 x, .int .i64 y, .int .i64 z] 51)))
            have HR5 := hid (HR4.out.below ((Below.refl _ _).alloc (Nat.le_refl _) (.cells #[.int .i64 x, .int .i64 y, .int .i64 z] 51)))
            go_wp2
            go_roundw
            case rel => exact ⟨j + 1, b, cp, ac, by omega, by omega, rfl, by go_num, HI5.out, HR5.out, hbne, by rw [HREST.out]; exact HF.out⟩
            case measure => simp [intOf]; omega
          · have hval := HVV.out rfl
            obtain ⟨va0, va1, vb0, vb1, vc0, vc1⟩ := hval
            simp only at va0 va1 vb0 vb1 vc0 vc1
            have hown4 := HI4.out.own
            go_wp2_with (first | (at_builtin; refine wpList_append_lies _ rfl _ _ 47 rfl w.heap.size 51 i0 (.agg #[.int .i64 0, .int .i64 0, .int .i64 0]) 3 24 Tryd.underlying47 hi hz0 hz1 hz2 rfl (by omega) _ _ _ rfl ((hown4.alloc _).alloc _) ⟨w4.heap.size + 1, 0, none⟩ 1 1 [.int .i64 (x), .int .i64 (y), .int .i64 (z)] rfl rfl (news_ver _ _ _ _ _ _) (three_ints _ _ _) (by omega) (by unfold maxLen; omega) (by omega) (by simp; omega) (w4.heap.size + 2) (by simp) ?_; intro b5 cp5 w5 hown5 hgrow hat hlt5; obtain ⟨k0, k1, k2⟩ := box_kept hgrow hb4))
            have hat5 : b5 = b ∨ w4.heap.size + 2 ≤ b5 := by
              rcases hat with h | h
              · have h' : some b = some b5 := h
                simp at h'
                exact .inl h'.symm
              · exact .inr (by omega)
            have HI5 := hid (PtInv.more ⟨x, y, z⟩ (HI4.out.step (((Below.refl _ _).alloc (Nat.le_refl _) _).alloc (by simp) _)) hown5 hgrow (by simpa using hat5))
            have HR5 := hid ((HR4.out.below (((Below.refl _ _).alloc (Nat.le_refl _) _).alloc (by simp) _)).grown hgrow hbne)
            have hbne5 : b5 ≠ g2 := by
              have h1 := HR4.out.1
              rcases hat5 with h | h <;> omega
            have hl5 := HI5.out.lt
            have hz5 := HI5.out.bel.size
            have HAF := hid (fun w => after_any x y z w va0 va1 vb0 vb1 vc0 vc1)
            have HPT2 : Hid (pm = ⟨x, y, z⟩ :: (if (afterR ⟨x, y, z⟩).2 = true then [(afterR ⟨x, y, z⟩).1] else [])) := by unfold Hid; rw [HPT.out]; simp
            generalize afterR ⟨x, y, z⟩ = af at *
            obtain ⟨⟨x', y', z'⟩, more⟩ := af
            clear hown5 hgrow hat hown4 HPT
            refine (HAF.out _).mono ?_
            rintro e w6 ⟨rfl, hb6⟩
            have hz6 := hb6.size
            have HI6 := hid (HI5.out.step hb6)
            have HR6 := hid (HR5.out.below hb6)
            have hb56 : b5 < w6.heap.size := by omega
            clear hb6 k0 k1 k2
            cases more
            · have HF : Hid (pointsR (tx s) = (ac ++ [⟨x, y, z⟩]) ++ rest) := by
                unfold Hid
                rw [HA2.out, HPT2.out]; simp
              have HI7 := hid (HI6.out.step ((Below.refl _ _).alloc (Nat.le_refl _) (.cells #[.int .i64 x', .int .i64 y', .int .i64 z'] 51)))
              have HR7 := hid (HR6.out.below ((Below.refl _ _).alloc (Nat.le_refl _) (.cells #[.int .i64 x', .int .i64 y', .int .i64 z'] 51)))
              go_wp2
              go_roundw
              case rel => exact ⟨j + 1, b5, cp5, _, by omega, by simp; omega, by simp, by go_num, HI7.out, HR7.out, hbne5, by rw [HREST.out]; exact HF.out⟩
              case measure => simp [intOf]; omega
            · have HF : Hid (pointsR (tx s) = ((ac ++ [⟨x, y, z⟩]) ++ [⟨x', y', z'⟩]) ++ rest) := by
                unfold Hid
                rw [HA2.out, HPT2.out]; simp
              have hown6 := HI6.out.own
              have hacl : (ac ++ [(⟨x, y, z⟩ : V3)]).length = ac.length + 1 := by simp
              rw [hacl] at hown6
              go_wp2_with (first | (at_builtin; refine wpList_append_lies _ rfl _ _ 47 rfl w.heap.size 51 i0 (.agg #[.int .i64 0, .int .i64 0, .int .i64 0]) 3 24 Tryd.underlying47 hi hz0 hz1 hz2 rfl (by omega) _ _ _ rfl ((hown6.alloc _).alloc _) ⟨w6.heap.size + 1, 0, none⟩ 1 1 [.int .i64 (x'), .int .i64 (y'), .int .i64 (z')] rfl rfl (news_ver _ _ _ _ _ _) (three_ints _ _ _) (by omega) (by unfold maxLen; omega) (by omega) (by simp; omega) (w6.heap.size + 2) (by simp) ?_; intro b8 cp8 w8 hown8 hgrow8 hat8 hlt8))
              have hat9 : b8 = b5 ∨ w6.heap.size + 2 ≤ b8 := by
                rcases hat8 with h | h
                · have h' : some b5 = some b8 := h
                  simp at h'
                  exact .inl h'.symm
                · exact .inr (by omega)
              have HI8 := hid (PtInv.more ⟨x', y', z'⟩ (HI6.out.step (((Below.refl _ _).alloc (Nat.le_refl _) _).alloc (by simp) _)) (by rw [hacl]; exact hown8) hgrow8 (by simpa using hat9))
              have HR8 := hid ((HR6.out.below (((Below.refl _ _).alloc (Nat.le_refl _) _).alloc (by simp) _)).grown hgrow8 hbne5)
              have hbne8 : b8 ≠ g2 := by
                have h1 := HR6.out.1
                rcases hat9 with h | h <;> omega
              clear hown8 hgrow8 hat8 hown6
              go_wp2
              go_roundw
              case rel => exact ⟨j + 1, b8, cp8, _, by omega, by simp; omega, by simp, by go_num, HI8.out, HR8.out, hbne8, by rw [HREST.out]; exact HF.out⟩
              case measure => simp [intOf]; omega
        · have HF : Hid (pointsR (tx s) = ac ++ (d.drop (k + 1)).flatMap ptsA) := by
            unfold Hid
            rw [hall.out, List.drop_of_length_le (by omega)]; rfl
          have HI := hid hinv
          clear hinv hr2 HR2 HI2 HA hall
          go_wp2
          go_roundw
          case rel => exact ⟨k + 1, b, cp, ac, by omega, by omega, rfl, by go_num, HI.out, HF⟩
          case measure => simp [intOf]; omega
    · have HF : Hid (pointsR (tx s) = acc) := by
        unfold Hid
        rw [hall.out, List.drop_of_length_le (by omega)]; simp
      have HV : Hid (VerRow wr w.heap.size (.slice (some ⟨b, 0, none⟩) acc.length cp) acc) := hinv.own
      have HB := hid hinv.bel
      clear hinv
      go_wp2
      go_ret
      exact ⟨_, rfl, by rw [HF.out]; exact HV.out, by rw [HF.out]; omega, HB.out⟩

end Hst
end Go.Proofs.YtkcgbikgblkpjaaDoor
