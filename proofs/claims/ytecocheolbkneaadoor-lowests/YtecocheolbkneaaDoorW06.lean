/- Points, Rfit, Written, Rlowest, Lowestsw -/
import Derived.Test.YtecocheolbkneaaDoorW05
import Derived.Test.YtecocheolbkneaaDoorW04
import Derived.Test.YtecocheolbkneaaDoorW03
import Derived.Deep.DrawnRows
import Derived.Laws.IdiomStrings
import Derived.Test.YtecocheolbkneaaDoorW02
namespace Go.Proofs.YtecocheolbkneaaDoor
open Go.RowKit
namespace Hst
set_option maxRecDepth 100000

theorem info_ver : (Tryd.prog.info? 74).map (fun i => (i.zero, i.size, i.bytes)) = some (some (.agg #[.int .i64 0, .int .i64 0, .int .i64 0]), 3, 24) := by kernel_rfl

/-- The cells of some versions. -/
def vers (p : List V3) : List Value := p.flatMap fun v => [Value.int .i64 v.a, Value.int .i64 v.b, Value.int .i64 v.c]
theorem vers_append (p q : List V3) : vers p ++ vers q = vers (p ++ q) := by simp [vers]
theorem vers_len : ∀ p : List V3, (vers p).length = p.length * 3
  | [] => rfl
  | v :: r => by
    have := vers_len r
    simp only [vers, List.flatMap_cons, List.length_append, List.length_cons, List.length_nil] at this ⊢
    omega
theorem vers_at : ∀ (p : List V3) (j : Nat) (hj : j < p.length), (vers p)[j * 3]? = some (Value.int .i64 p[j].a) ∧ (vers p)[j * 3 + 1]? = some (Value.int .i64 p[j].b) ∧ (vers p)[j * 3 + 2]? = some (Value.int .i64 p[j].c)
  | [], j, hj => by simp at hj
  | v :: r, 0, _ => by simp [vers]
  | v :: r, j + 1, hj => by
    have ih := vers_at r j (by simpa using hj)
    have e1 : (j + 1) * 3 = j * 3 + 1 + 1 + 1 := by omega
    have e2 : (j + 1) * 3 + 1 = j * 3 + 1 + 1 + 1 + 1 := by omega
    have e3 : (j + 1) * 3 + 2 = j * 3 + 2 + 1 + 1 + 1 := by omega
    rw [e3, e2, e1]
    simp only [vers, List.flatMap_cons, List.cons_append, List.nil_append, List.getElem?_cons_succ, List.getElem_cons_succ] at ih ⊢
    exact ih
/-- The row of versions that a call has made. -/
def VerRow (w : World) (base : Nat) (v : Value) (p : List V3) : Prop := w.ownsRow base 74 3 v p.length (vers p)
theorem VerRow.below {w w' : World} {base : Nat} {v : Value} {p : List V3} (h : VerRow w base v p) (hb : Below w.heap.size w w') : VerRow w' base v p := own_below h hb
theorem VerRow.form {w : World} {base : Nat} {v : Value} {p : List V3} (h : VerRow w base v p) (hd : p ≠ []) : ∃ g cap, v = .slice (some ⟨g, 0, none⟩) p.length cap ∧ base ≤ g ∧ g < w.heap.size ∧ ∀ (j : Nat) (hj : j < p.length), w.cell? ⟨g, j * 3, none⟩ = some (.int .i64 p[j].a) ∧ w.cell? ⟨g, j * 3 + 1, none⟩ = some (.int .i64 p[j].b) ∧ w.cell? ⟨g, j * 3 + 2, none⟩ = some (.int .i64 p[j].c) := by
  have hn : 0 < p.length := List.length_pos_iff.2 hd
  obtain ⟨g, cap, rfl, h1, h2⟩ := form_any h hn
  refine ⟨g, cap, rfl, h1, h2, fun j hj => ?_⟩
  rw [World.ownsRow.cellAt h (j * 3) (by omega), World.ownsRow.cellAt h (j * 3 + 1) (by omega), World.ownsRow.cellAt h (j * 3 + 2) (by omega)]
  exact vers_at p j hj
/-- A row of texts lies at block g. -/
def RowAt (w : World) (g : Nat) (d : List Tx) : Prop := g < w.heap.size ∧ ∀ (j : Nat) (hj : j < d.length), w.cell? ⟨g, j, none⟩ = some (.string (bs d[j]))
theorem RowAt.below {w w' : World} {g : Nat} {d : List Tx} (h : RowAt w g d) (hb : Below w.heap.size w w') : RowAt w' g d :=
  ⟨Nat.lt_of_lt_of_le h.1 hb.size, fun j hj => by rw [(bcell hb).1 _ _ h.1]; exact h.2 j hj⟩
theorem RowAt.grown {w w' : World} {g b : Nat} {d : List Tx} (h : RowAt w g d) (hg : w.grownBy w' (some b)) (hne : b ≠ g) : RowAt w' g d :=
  ⟨Nat.lt_of_lt_of_le h.1 hg.size, fun j hj => hg.cell (h.2 j hj) (by simp; exact fun e => hne e.symm)⟩
theorem three_ints (a b c : Int) : ∀ u ∈ [Value.int .i64 a, Value.int .i64 b, Value.int .i64 c], u.oneCell' = true := by intro u hu; simp at hu; rcases hu with rfl | rfl | rfl <;> rfl

/-- What points has in hand: the row 'out' at block b, the row of the alternatives at g. -/
structure PtInv (w wr : World) (g b cap : Nat) (d : List Tx) (acc : List V3) : Prop where
  bel : Below w.heap.size w wr
  own : wr.ownsRow w.heap.size 74 3 (.slice (some ⟨b, 0, none⟩) acc.length cap) acc.length (vers acc)
  row : RowAt wr g d
  ne : b ≠ g
theorem PtInv.lt {w wr : World} {g b cap : Nat} {d : List Tx} {acc : List V3} (h : PtInv w wr g b cap d acc) : w.heap.size ≤ b ∧ b < wr.heap.size := h.own.lt b rfl
theorem PtInv.step {w wr w2 : World} {g b cap : Nat} {d : List Tx} {acc : List V3} (h : PtInv w wr g b cap d acc) (hb : Below wr.heap.size wr w2) : PtInv w w2 g b cap d acc :=
  ⟨h.bel.trans (hb.mono h.bel.size), own_below h.own hb, h.row.below hb, h.ne⟩
/-- One version more. -/
theorem PtInv.more {w wr w5 : World} {g b cap b' cap' : Nat} {d : List Tx} {acc : List V3} (p : V3) (h : PtInv w wr g b cap d acc)
    (hown : w5.ownsRow w.heap.size 74 3 (.slice (some ⟨b', 0, none⟩) (acc.length + 1) cap') (acc.length + 1) (vers acc ++ [Value.int .i64 p.a, Value.int .i64 p.b, Value.int .i64 p.c])) (hgrow : wr.grownBy w5 (some b)) (hat : b' = b ∨ wr.heap.size ≤ b') : PtInv w w5 g b' cap' d (acc ++ [p]) := by
  have hl := h.lt
  refine ⟨h.bel.grown hgrow h.bel.size (fun k hk => by simp at hk; omega), ?_, h.row.grown hgrow h.ne, ?_⟩
  · have e : vers acc ++ [Value.int .i64 p.a, Value.int .i64 p.b, Value.int .i64 p.c] = vers (acc ++ [p]) := by simp [vers]
    rw [e] at hown
    simpa using hown
  · rcases hat with rfl | hat
    · exact h.ne
    · have := h.row.1; omega

theorem news_ver (w : World) (o1 : Obj) (a b c : Value) (t : TypeId) : ∀ j u, [a, b, c][j]? = some u → ((w.alloc o1).alloc (.cells #[a, b, c] t)).cell? ((⟨w.heap.size + 1, 0, none⟩ : Addr).add j) = some u := by
  intro j u hu
  have h := World.news_of_block (heap_alloc_new (w.alloc o1) (.cells #[a, b, c] t)) j u (by simpa using hu)
  simpa using h
theorem news_ver1 (w : World) (a b c : Value) (t : TypeId) : ∀ j u, [a, b, c][j]? = some u → (w.alloc (.cells #[a, b, c] t)).cell? ((⟨w.heap.size, 0, none⟩ : Addr).add j) = some u := by
  intro j u hu
  exact World.news_of_block (heap_alloc_new w (.cells #[a, b, c] t)) j u (by simpa using hu)

theorem box_kept {w4 w5 : World} {x y z : Value} {o2 : Obj} {b : Nat} {t : TypeId} (hgrow : ((w4.alloc (.cells #[x, y, z] t)).alloc o2).grownBy w5 (some b)) (hb : b < w4.heap.size) :
    w5.cell? ⟨w4.heap.size, 0, none⟩ = some x ∧ w5.cell? ⟨w4.heap.size, 1, none⟩ = some y ∧ w5.cell? ⟨w4.heap.size, 2, none⟩ = some z := by
  refine ⟨hgrow.cell ?_ ?_, hgrow.cell ?_ ?_, hgrow.cell ?_ ?_⟩
  all_goals first | (rw [World.cell?_alloc_past _ _ _ (by simp)]; simp; done) | (simp; omega)

theorem start_own (w : World) : (w.alloc (.cells #[.int .i64 0, .int .i64 0, .int .i64 0] 74)).ownsRow w.heap.size 74 3 (.slice (some ⟨w.heap.size, 0, none⟩) 1 1) 1 (vers [⟨0, 0, 0⟩]) := by
  have := World.ownsRow_lit (base := w.heap.size) (size := 3) (e := 74) w #[.int .i64 0, .int .i64 0, .int .i64 0] 1 (Nat.le_refl _) (by unfold maxLen; omega) rfl
  exact this

set_option maxHeartbeats 2000000 in
theorem points_any (s : ByteArray) (w : World) (h60 : s.size ≤ 60) :
    Calls Tryd.prog 35 #[.string s] w fun e w' => ∃ v, e = .returned v ∧ VerRow w' w.heap.size v (pointsR (tx s)) ∧ (pointsR (tx s)).length ≤ 8000 ∧ Below w.heap.size w w' := by
  obtain ⟨i0, hi, hz0, hz1, hz2⟩ := info_parts info_ver
  have HP : Hid (pointsR (tx s) = [⟨0, 0, 0⟩] ++ (splitL 124 (tx s)).flatMap ptsA) := rfl
  go_enter Tryd.func35, Tryd.ntmps35
  go_wp2_with fail
  refine (rsplit_any s 124 _ (by omega)).mono ?_
  rintro e w1 ⟨v, rfl, hrow, hb1⟩
  obtain ⟨g, cap, rfl, hg1, hg2, hcell⟩ := hrow.form (splitL_ne _ _)
  have HS := hid (piece_mem (n := 124) h60)
  have hlen := splitL_len 124 (tx s)
  rw [tx_length] at hlen
  generalize splitL 124 (tx s) = d at *
  have INV : PtInv w w1 g w.heap.size 1 d [⟨0, 0, 0⟩] := ⟨((Below.refl _ _).alloc (Nat.le_refl _) _).trans (hb1.mono (by simp)), own_below (start_own w) hb1, ⟨hg2, hcell⟩, by simp at hg1; omega⟩
  have HI := hid INV
  clear hcell hrow hb1 INV
  go_wp2
  go_loopw [3, 5] (fun v i wr => ∃ (k b cp : Nat) (acc : List V3), k ≤ d.length ∧ acc.length ≤ 1 + 122 * k ∧ v = .slice (some ⟨b, 0, none⟩) acc.length cp ∧ i = .int .i64 k ∧ PtInv w wr g b cp d acc ∧ Hid (pointsR (tx s) = acc ++ (d.drop k).flatMap ptsA)) (fun _ i _ => d.length - (intOf i).toNat)
  case atStart => exact ⟨0, _, 1, [⟨0, 0, 0⟩], by omega, by simp, rfl, rfl, HI.out, HP⟩
  case round =>
    obtain ⟨k, b, cp, acc, hk, hacc, rfl, rfl, hinv, hall⟩ := hrel
    clear HP HI
    by_cases hlt : k < d.length
    · have hc := hinv.row.2 k hlt
      have hps := HS.out k hlt
      have HA : Hid (pointsR (tx s) = acc ++ ((splitL 38 (tx (bs d[k]))).flatMap ptsC ++ (d.drop (k + 1)).flatMap ptsA)) := by
        unfold Hid
        rw [hall.out, List.drop_eq_getElem_cons hlt, List.flatMap_cons, tx_bs]
        rfl
      generalize bs d[k] = q at *
      have HI := hid hinv
      clear hall hinv
      obtain ⟨wo, rfl⟩ : ∃ wo, wo = wr := ⟨_, rfl⟩
      go_wp2_with fail
      refine (rsplit_any q 38 _ (by omega)).mono ?_
      rintro e w2 ⟨v, rfl, hrow, hb2⟩
      obtain ⟨g2, cap2, rfl, hg3, hg4, hcell2⟩ := hrow.form (splitL_ne _ _)
      have HS2 := hid (piece_mem (n := 38) hps)
      have hlen2 := splitL_len 38 (tx q)
      rw [tx_length] at hlen2
      generalize splitL 38 (tx q) = m at *
      have hbne : b ≠ g2 := by have := HI.out.lt; omega
      have HR2 := hid (⟨hg4, hcell2⟩ : RowAt w2 g2 m)
      have HI2 := hid (HI.out.step hb2)
      clear hcell2 hrow hc hb2 HI
      go_wp2
      go_loopw [3, 7] (fun v i wq => ∃ (j b cp : Nat) (ac : List V3), j ≤ m.length ∧ ac.length ≤ 1 + 122 * k + 2 * j ∧ v = .slice (some ⟨b, 0, none⟩) ac.length cp ∧ i = .int .i64 j ∧ PtInv w wq g b cp d ac ∧ RowAt wq g2 m ∧ b ≠ g2 ∧ Hid (pointsR (tx s) = ac ++ ((m.drop j).flatMap ptsC ++ (d.drop (k + 1)).flatMap ptsA))) (fun _ i _ => m.length - (intOf i).toNat)
      case atStart => exact ⟨0, b, cp, acc, by omega, by omega, rfl, rfl, HI2.out, HR2.out, hbne, HA⟩
      case round =>
        obtain ⟨j, b, cp, ac, hj, hac, rfl, rfl, hinv, hr2, hbne, hall⟩ := hrel
        by_cases hjl : j < m.length
        · have hc2 := hr2.2 j hjl
          have HSG := hid (fun w => signed_any (bs m[j]) w)
          rw [tx_bs] at HSG
          have HV := hid (fun w => version_any (bs (signedR m[j]).2) w)
          rw [tx_bs] at HV
          have HA2 : Hid (pointsR (tx s) = ac ++ (ptsC m[j] ++ ((m.drop (j + 1)).flatMap ptsC ++ (d.drop (k + 1)).flatMap ptsA))) := by
            unfold Hid
            rw [hall.out, List.drop_eq_getElem_cons hjl, List.flatMap_cons, List.append_assoc]
          have HPT : Hid (ptsC m[j] = if (versionR (signedR m[j]).2).2 = true then (versionR (signedR m[j]).2).1 :: (if (afterR (versionR (signedR m[j]).2).1).2 = true then [(afterR (versionR (signedR m[j]).2).1).1] else []) else []) := rfl
          have HVV := hid (versionR_valid (signedR m[j]).2)
          generalize versionR (signedR m[j]).2 = vr at *
          generalize (signedR m[j]).2 = rs at *
          generalize (signedR m[j]).1 = sg at *
          generalize ptsC m[j] = pm at *
          generalize bs m[j] = q2 at *
          obtain ⟨⟨x, y, z⟩, ok⟩ := vr
          generalize hrest : (m.drop (j + 1)).flatMap ptsC ++ (d.drop (k + 1)).flatMap ptsA = rest at HA2
          have HREST := hid hrest
          clear hrest
          have HI := hid hinv; have HR := hid hr2
          have hbl := hinv.lt
          have hbz := hinv.bel.size
          clear hall hinv hr2 HR2 HI2 HA
          go_wp2_with fail
          refine (HSG.out _).mono ?_
          rintro e w3 ⟨rfl, hb3⟩
          go_wp2_with fail
          refine (HV.out _).mono ?_
          rintro e w4 ⟨rfl, hb4⟩
          have hb34 := hb3.trans (hb4.mono hb3.size)
          have hz34 := hb34.size
          have HI4 := hid (HI.out.step hb34)
          have HR4 := hid (HR.out.below hb34)
          clear hb3 hb4 hb34
          have hb4 : b < w4.heap.size := by omega
          cases ok
          · have HF : Hid (pointsR (tx s) = ac ++ rest) := by
              unfold Hid
              rw [HA2.out, HPT.out]; simp
            have HI5 := hid (HI4.out.step ((Below.refl _ _).alloc (Nat.le_refl _) (.cells #[.int .i64 x, .int .i64 y, .int .i64 z] 74)))
            have HR5 := hid (HR4.out.below ((Below.refl _ _).alloc (Nat.le_refl _) (.cells #[.int .i64 x, .int .i64 y, .int .i64 z] 74)))
            go_wp2
            go_roundw
            case rel => exact ⟨j + 1, b, cp, ac, by omega, by omega, rfl, by go_num, HI5.out, HR5.out, hbne, by rw [HREST.out]; exact HF.out⟩
            case measure => simp [intOf]; omega
          · have hval := HVV.out rfl
            obtain ⟨va0, va1, vb0, vb1, vc0, vc1⟩ := hval
            simp only at va0 va1 vb0 vb1 vc0 vc1
            have hown4 := HI4.out.own
            go_wp2_with (first | (at_builtin; refine wpList_append_lies _ rfl _ _ 70 rfl w.heap.size 74 i0 (.agg #[.int .i64 0, .int .i64 0, .int .i64 0]) 3 24 Tryd.underlying70 hi hz0 hz1 hz2 rfl (by omega) _ _ _ rfl ((hown4.alloc _).alloc _) ⟨w4.heap.size + 1, 0, none⟩ 1 1 [.int .i64 (x), .int .i64 (y), .int .i64 (z)] rfl rfl (news_ver _ _ _ _ _ _) (three_ints _ _ _) (by omega) (by unfold maxLen; omega) (by omega) (by simp; omega) (w4.heap.size + 2) (by simp) ?_; intro b5 cp5 w5 hown5 hgrow hat hlt5; obtain ⟨k0, k1, k2⟩ := box_kept hgrow hb4))
            have hat5 : b5 = b ∨ w4.heap.size + 2 ≤ b5 := by
              rcases hat with h | h
              · have h' : some b = some b5 := h
                simp at h'
                exact .inl h'.symm
              · exact .inr (by omega)
            have HI5 := hid (PtInv.more ⟨x, y, z⟩ (HI4.out.step (((Below.refl _ _).alloc (Nat.le_refl _) _).alloc (by simp) _)) hown5 hgrow (by simpa using hat5))
            have HR5 := hid ((HR4.out.below (((Below.refl _ _).alloc (Nat.le_refl _) _).alloc (by simp) _)).grown hgrow hbne)
            have hbne5 : b5 ≠ g2 := by
              have h1 := HR4.out.1
              rcases hat5 with h | h <;> omega
            have hl5 := HI5.out.lt
            have hz5 := HI5.out.bel.size
            have HAF := hid (fun w => after_any x y z w va0 va1 vb0 vb1 vc0 vc1)
            have HPT2 : Hid (pm = ⟨x, y, z⟩ :: (if (afterR ⟨x, y, z⟩).2 = true then [(afterR ⟨x, y, z⟩).1] else [])) := by unfold Hid; rw [HPT.out]; simp
            generalize afterR ⟨x, y, z⟩ = af at *
            obtain ⟨⟨x', y', z'⟩, more⟩ := af
            clear hown5 hgrow hat hown4 HPT
            refine (HAF.out _).mono ?_
            rintro e w6 ⟨rfl, hb6⟩
            have hz6 := hb6.size
            have HI6 := hid (HI5.out.step hb6)
            have HR6 := hid (HR5.out.below hb6)
            have hb56 : b5 < w6.heap.size := by omega
            clear hb6 k0 k1 k2
            cases more
            · have HF : Hid (pointsR (tx s) = (ac ++ [⟨x, y, z⟩]) ++ rest) := by
                unfold Hid
                rw [HA2.out, HPT2.out]; simp
              have HI7 := hid (HI6.out.step ((Below.refl _ _).alloc (Nat.le_refl _) (.cells #[.int .i64 x', .int .i64 y', .int .i64 z'] 74)))
              have HR7 := hid (HR6.out.below ((Below.refl _ _).alloc (Nat.le_refl _) (.cells #[.int .i64 x', .int .i64 y', .int .i64 z'] 74)))
              go_wp2
              go_roundw
              case rel => exact ⟨j + 1, b5, cp5, _, by omega, by simp; omega, by simp, by go_num, HI7.out, HR7.out, hbne5, by rw [HREST.out]; exact HF.out⟩
              case measure => simp [intOf]; omega
            · have HF : Hid (pointsR (tx s) = ((ac ++ [⟨x, y, z⟩]) ++ [⟨x', y', z'⟩]) ++ rest) := by
                unfold Hid
                rw [HA2.out, HPT2.out]; simp
              have hown6 := HI6.out.own
              have hacl : (ac ++ [(⟨x, y, z⟩ : V3)]).length = ac.length + 1 := by simp
              rw [hacl] at hown6
              go_wp2_with (first | (at_builtin; refine wpList_append_lies _ rfl _ _ 70 rfl w.heap.size 74 i0 (.agg #[.int .i64 0, .int .i64 0, .int .i64 0]) 3 24 Tryd.underlying70 hi hz0 hz1 hz2 rfl (by omega) _ _ _ rfl ((hown6.alloc _).alloc _) ⟨w6.heap.size + 1, 0, none⟩ 1 1 [.int .i64 (x'), .int .i64 (y'), .int .i64 (z')] rfl rfl (news_ver _ _ _ _ _ _) (three_ints _ _ _) (by omega) (by unfold maxLen; omega) (by omega) (by simp; omega) (w6.heap.size + 2) (by simp) ?_; intro b8 cp8 w8 hown8 hgrow8 hat8 hlt8))
              have hat9 : b8 = b5 ∨ w6.heap.size + 2 ≤ b8 := by
                rcases hat8 with h | h
                · have h' : some b5 = some b8 := h
                  simp at h'
                  exact .inl h'.symm
                · exact .inr (by omega)
              have HI8 := hid (PtInv.more ⟨x', y', z'⟩ (HI6.out.step (((Below.refl _ _).alloc (Nat.le_refl _) _).alloc (by simp) _)) (by rw [hacl]; exact hown8) hgrow8 (by simpa using hat9))
              have HR8 := hid ((HR6.out.below (((Below.refl _ _).alloc (Nat.le_refl _) _).alloc (by simp) _)).grown hgrow8 hbne5)
              have hbne8 : b8 ≠ g2 := by
                have h1 := HR6.out.1
                rcases hat9 with h | h <;> omega
              clear hown8 hgrow8 hat8 hown6
              go_wp2
              go_roundw
              case rel => exact ⟨j + 1, b8, cp8, _, by omega, by simp; omega, by simp, by go_num, HI8.out, HR8.out, hbne8, by rw [HREST.out]; exact HF.out⟩
              case measure => simp [intOf]; omega
        · have HF : Hid (pointsR (tx s) = ac ++ (d.drop (k + 1)).flatMap ptsA) := by
            unfold Hid
            rw [hall.out, List.drop_of_length_le (by omega)]; rfl
          have HI := hid hinv
          clear hinv hr2 HR2 HI2 HA hall
          go_wp2
          go_roundw
          case rel => exact ⟨k + 1, b, cp, ac, by omega, by omega, rfl, by go_num, HI.out, HF⟩
          case measure => simp [intOf]; omega
    · have HF : Hid (pointsR (tx s) = acc) := by
        unfold Hid
        rw [hall.out, List.drop_of_length_le (by omega)]; simp
      have HV : Hid (VerRow wr w.heap.size (.slice (some ⟨b, 0, none⟩) acc.length cp) acc) := hinv.own
      have HB := hid hinv.bel
      clear hinv
      go_wp2
      go_ret
      exact ⟨_, rfl, by rw [HF.out]; exact HV.out, by rw [HF.out]; omega, HB.out⟩

end Hst
end Go.Proofs.YtecocheolbkneaaDoor
namespace Go.Proofs.YtecocheolbkneaaDoor
open Go.RowKit
namespace Hst
set_option maxRecDepth 100000

theorem an_yes (f : Tx → Bool) (d : List Tx) (k : Nat) (hk : k < d.length) (h : f d[k] = true) : (d.drop k).any f = true := by
  rw [List.drop_eq_getElem_cons hk, List.any_cons, h, Bool.true_or]
theorem an_no (f : Tx → Bool) (d : List Tx) (k : Nat) (hk : k < d.length) (h : f d[k] = false) : (d.drop k).any f = (d.drop (k + 1)).any f := by
  rw [List.drop_eq_getElem_cons hk, List.any_cons, h, Bool.false_or]
theorem an_end (f : Tx → Bool) (d : List Tx) (k : Nat) (hk : ¬ k < d.length) : (d.drop k).any f = false := by
  rw [List.drop_of_length_le (by omega)]; rfl

/-- What is known of an alternative in the midst of its conditions. -/
def AltSt (alt bl : Bool) (m : List Tx) (v : V3) : Prop := (bl = true → alt = m.all (fun x => holdsR x v)) ∧ (bl = false → alt = false)

attribute [local go_sem ↓] Go.wp_at_zero Go.wp_at_succ

set_option maxHeartbeats 2000000 in
theorem fit_any (s : ByteArray) (a b c : Int) (w : World) (h60 : s.size ≤ 60) :
    Calls Tryd.prog 36 #[.string s, verV a b c] w fun e w' => e = .returned (.bool (fitR (tx s) ⟨a, b, c⟩)) ∧ Below w.heap.size w w' := by
  have HP : Hid (fitR (tx s) ⟨a, b, c⟩ = (splitL 124 (tx s)).any (fun x => altFitR x ⟨a, b, c⟩)) := rfl
  go_enter Tryd.func36, Tryd.ntmps36
  go_wp2_with fail
  refine (rsplit_any s 124 _ (by omega)).mono ?_
  rintro e w1 ⟨v, rfl, hrow, hb1⟩
  obtain ⟨g, cap, rfl, hg1, hg2, hcell⟩ := hrow.form (splitL_ne _ _)
  have HS := hid (piece_mem (n := 124) h60)
  have hlen := splitL_len 124 (tx s)
  rw [tx_length] at hlen
  generalize splitL 124 (tx s) = d at *
  have HC := hid hcell
  have hz1 := hb1.size
  simp at hz1
  have v0 := (bcell hb1).1 w.heap.size 0 (by simp)
  have v1 := (bcell hb1).1 w.heap.size 1 (by simp)
  have v2 := (bcell hb1).1 w.heap.size 2 (by simp)
  simp at v0 v1 v2
  have HB1 := hid (((Below.refl _ _).alloc (Nat.le_refl _) _).trans (hb1.mono (by simp)) : Below w.heap.size w w1)
  clear hcell hrow hb1
  go_wp2
  go_loopw [6] (fun i wr => ∃ (k : Nat), k ≤ d.length ∧ i = .int .i64 k ∧ Below w1.heap.size w1 wr ∧ Hid (fitR (tx s) ⟨a, b, c⟩ = (d.drop k).any (fun x => altFitR x ⟨a, b, c⟩))) (fun i _ => d.length - (intOf i).toNat)
  case atStart => exact ⟨0, by omega, rfl, Below.refl _ _, by unfold Hid; rw [HP.out]; rfl⟩
  case round =>
    obtain ⟨k, hk, rfl, hbel, hall⟩ := hrel
    clear HP
    have hz := hbel.size
    by_cases hlt : k < d.length
    · have hc := (hbel.cell (p := ⟨g, k, none⟩) hg2).trans (HC.out k hlt)
      have hps := HS.out k hlt
      have HA : Hid (altFitR d[k] ⟨a, b, c⟩ = (splitL 38 (tx (bs d[k]))).all (fun x => holdsR x ⟨a, b, c⟩)) := by unfold Hid; rw [tx_bs]; rfl
      have HY := hid (an_yes (fun x => altFitR x ⟨a, b, c⟩) d k hlt)
      have HN := hid (an_no (fun x => altFitR x ⟨a, b, c⟩) d k hlt)
      generalize altFitR d[k] ⟨a, b, c⟩ = alt at *
      generalize bs d[k] = q at *
      go_wp2_with fail
      refine (rsplit_any q 38 _ (by omega)).mono ?_
      rintro e w2 ⟨v, rfl, hrow, hb2⟩
      obtain ⟨g2, cap2, rfl, hg3, hg4, hcell2⟩ := hrow.form (splitL_ne _ _)
      have HS2 := hid (piece_mem (n := 38) hps)
      have hlen2 := splitL_len 38 (tx q)
      rw [tx_length] at hlen2
      generalize splitL 38 (tx q) = m at *
      have HC2 := hid hcell2
      have hz2 := hb2.size
      have HB2 := hid (hbel.trans (hb2.mono hz))
      have hB2 := HB2.out
      have u0 := (hB2.cell (p := ⟨w.heap.size, 0, none⟩) (by show w.heap.size < _; omega)).trans v0
      have u1 := (hB2.cell (p := ⟨w.heap.size, 1, none⟩) (by show w.heap.size < _; omega)).trans v1
      have u2 := (hB2.cell (p := ⟨w.heap.size, 2, none⟩) (by show w.heap.size < _; omega)).trans v2
      clear hcell2 hrow hc hB2 v0 v1 v2
      go_wp2
      go_loopw [8, 9] (fun al i wq => ∃ (j : Nat) (bl : Bool), j ≤ m.length ∧ al = .bool bl ∧ i = .int .i64 j ∧ Below w2.heap.size w2 wq ∧ AltSt alt bl (m.drop j) ⟨a, b, c⟩) (fun _ i _ => m.length - (intOf i).toNat)
      case atStart => exact ⟨0, true, by omega, rfl, rfl, Below.refl _ _, ⟨fun _ => by rw [HA.out]; rfl, fun h => by cases h⟩⟩
      case round =>
        obtain ⟨j, bl, hj, rfl, rfl, hbel2, hall2⟩ := hrel
        clear HA
        have hz4 := hbel2.size
        have HB := hid (HB2.out.trans (hbel2.mono (by omega)))
        have HBw := hid (HB1.out.trans (HB.out.mono (by omega)))
        cases bl
        · -- the alternative does not fit
          have HF : Hid (alt = false) := hall2.2 rfl
          have HF2 : Hid (fitR (tx s) ⟨a, b, c⟩ = (d.drop (k + 1)).any (fun x => altFitR x ⟨a, b, c⟩)) := by unfold Hid; rw [hall.out, HN.out HF.out]
          by_cases hjl : j < m.length
          all_goals
            go_wp2
            go_roundw
            case rel => exact ⟨k + 1, by omega, by go_num, HB.out, HF2⟩
            case measure => simp [intOf]; omega
        · by_cases hjl : j < m.length
          · have hc2 := (hbel2.cell (p := ⟨g2, j, none⟩) hg4).trans (HC2.out j hjl)
            have hh := fun w => holds_any (bs m[j]) a b c w
            rw [tx_bs] at hh
            have HH := hid hh
            have t0 := (hbel2.cell (p := ⟨w.heap.size, 0, none⟩) (by show w.heap.size < _; omega)).trans u0
            have t1 := (hbel2.cell (p := ⟨w.heap.size, 1, none⟩) (by show w.heap.size < _; omega)).trans u1
            have t2 := (hbel2.cell (p := ⟨w.heap.size, 2, none⟩) (by show w.heap.size < _; omega)).trans u2
            have HY2 := hid (al_yes (fun x => holdsR x ⟨a, b, c⟩) m j hjl)
            have HN2 := hid (al_no (fun x => holdsR x ⟨a, b, c⟩) m j hjl)
            generalize holdsR m[j] ⟨a, b, c⟩ = cnd at *
            generalize bs m[j] = q2 at *
            clear hh u0 u1 u2
            have HF : AltSt alt cnd (m.drop (j + 1)) ⟨a, b, c⟩ := ⟨fun h => by rw [hall2.1 rfl, HY2.out h], fun h => by rw [hall2.1 rfl, HN2.out h]⟩
            have hgq : g2 < wr.heap.size := by omega
            have hwq : w.heap.size < wr.heap.size := by omega
            have hj0 : (0 : Int) ≤ (j : Int) := by omega
            have hj1 : (j : Int) < (m.length : Int) := by omega
            go_wp2
            go_region_held3 (fun w' => w'.cell? ⟨g2, j, none⟩ = some (.string q2) ∧ w'.cell? ⟨w.heap.size, 0, none⟩ = some (.int .i64 a) ∧ w'.cell? ⟨w.heap.size, 1, none⟩ = some (.int .i64 b) ∧ w'.cell? ⟨w.heap.size, 2, none⟩ = some (.int .i64 c)) (go_keep)
              (first | (go_at_call 67; refine (HH.out _).mono ?_; rintro e w3 ⟨rfl, hb3⟩; have hz3 := (bcell hb3).1; simp at hz3))
            have HB3 := hid (hbel2.drew.trans (hb3.mono hz4))
            clear hb3
            go_wp2
            go_roundw
            case rel => exact ⟨j + 1, cnd, by omega, rfl, by go_num, HB3.out, HF⟩
            case measure => simp [intOf]; omega
          · have HF : Hid (fitR (tx s) ⟨a, b, c⟩ = true) := by unfold Hid; rw [hall.out, HY.out (by rw [hall2.1 rfl, al_end _ m j hjl])]
            go_wp2
            go_ret
            exact ⟨ret_bool (by rw [HF.out]), HBw.out⟩
    · have HF : Hid (fitR (tx s) ⟨a, b, c⟩ = false) := by unfold Hid; rw [hall.out, an_end _ d k hlt]
      have HB := hid (HB1.out.trans (hbel.mono (by omega)))
      go_wp2
      go_ret
      exact ⟨ret_bool (by rw [HF.out]), HB.out⟩

end Hst
end Go.Proofs.YtecocheolbkneaaDoor
namespace Go.Proofs.YtecocheolbkneaaDoor
open Go.RowKit
namespace Hst
set_option maxRecDepth 100000

theorem byte_of (n : Nat) (h : n < 256) : ((n.toUInt8.toNat : Nat) : Int) = n := by simp; omega

set_option maxHeartbeats 1000000 in
theorem digits_nat (n : Nat) (w : World) (h : n < 100) :
    Calls Tryd.prog 68 #[.int .i64 n] w fun e w' => e = .returned (.string (bs (numT n))) ∧ Below w.heap.size w w' := by
  by_cases h10 : n < 10
  · have e : numT n = [(48 + n).toUInt8] := by simp [numT, h10]
    have hcv : (convert 133 9 (.slice (some ⟨w.heap.size, 0, none⟩) 1 1)).run Tryd.prog (w.alloc (.cells #[.int .u8 (48 + (n : Int))] 5)) = .ok (.string (bs [(48 + n).toUInt8])) (w.alloc (.cells #[.int .u8 (48 + (n : Int))] 5)) := run_convert_bytes_back (P := Tryd.prog) (w.alloc (.cells #[.int .u8 (48 + (n : Int))] 5)) 133 9 5 ⟨w.heap.size, 0, none⟩ 1 [(48 + n).toUInt8] Tryd.underlying133 Tryd.underlying5 Tryd.underlying9 (fun j hj => by
      match j, hj with
      | 0, _ => simp only [List.getElem_cons_zero, byte_of (48 + n) (by omega)]; simp [Addr.add])
    rw [e]
    clear e
    generalize bs [(48 + n).toUInt8] = q at *
    go_enter Tryd.func68, Tryd.ntmps68
    go_wp2
    go_ret
    exact ⟨rfl, (Below.refl _ _).alloc (Nat.le_refl _) _⟩
  · have e : numT n = [(48 + n / 10).toUInt8, (48 + n % 10).toUInt8] := by simp [numT, h10]
    have hcv : (convert 133 9 (.slice (some ⟨w.heap.size, 0, none⟩) 2 2)).run Tryd.prog (w.alloc (.cells #[.int .u8 (48 + (n : Int) / 10), .int .u8 (48 + (n : Int) % 10)] 5)) = .ok (.string (bs [(48 + n / 10).toUInt8, (48 + n % 10).toUInt8])) (w.alloc (.cells #[.int .u8 (48 + (n : Int) / 10), .int .u8 (48 + (n : Int) % 10)] 5)) := run_convert_bytes_back (P := Tryd.prog) (w.alloc (.cells #[.int .u8 (48 + (n : Int) / 10), .int .u8 (48 + (n : Int) % 10)] 5)) 133 9 5 ⟨w.heap.size, 0, none⟩ 2 [(48 + n / 10).toUInt8, (48 + n % 10).toUInt8] Tryd.underlying133 Tryd.underlying5 Tryd.underlying9 (fun j hj => by
      match j, hj with
      | 0, _ => simp only [List.getElem_cons_zero, byte_of (48 + n / 10) (by omega)]; simp [Addr.add]
      | 1, _ => simp only [List.getElem_cons_zero, List.getElem_cons_succ, byte_of (48 + n % 10) (by omega)]; simp [Addr.add])
    rw [e]
    clear e
    generalize bs [(48 + n / 10).toUInt8, (48 + n % 10).toUInt8] = q at *
    go_enter Tryd.func68, Tryd.ntmps68
    go_wp2
    go_ret
    exact ⟨rfl, (Below.refl _ _).alloc (Nat.le_refl _) _⟩
theorem digits_any (n : Int) (w : World) (h0 : 0 ≤ n) (h : n ≤ 99) :
    Calls Tryd.prog 68 #[.int .i64 n] w fun e w' => e = .returned (.string (bs (numT n.toNat))) ∧ Below w.heap.size w w' := by
  obtain ⟨m, rfl⟩ := Int.eq_ofNat_of_zero_le h0
  exact digits_nat m w (by omega)

set_option maxHeartbeats 1000000 in
theorem written_any (a b c : Int) (w : World) (ha0 : 0 ≤ a) (ha1 : a ≤ 99) (hb0 : 0 ≤ b) (hb1 : b ≤ 99) (hc0 : 0 ≤ c) (hc1 : c ≤ 99) :
    Calls Tryd.prog 38 #[verV a b c] w fun e w' => e = .returned (.string (bs (verT a.toNat b.toNat c.toNat))) ∧ Below w.heap.size w w' := by
  have HI1 := hid' (fun w => digits_any a w ha0 ha1)
  have HI2 := hid' (fun w => digits_any b w hb0 hb1)
  have HI3 := hid' (fun w => digits_any c w hc0 hc1)
  have HE : Hid (bs (numT a.toNat) ++ bs [46] ++ bs (numT b.toNat) ++ bs [46] ++ bs (numT c.toNat) = bs (verT a.toNat b.toNat c.toNat)) := by
    unfold Hid; rw [bs_append, bs_append, bs_append, bs_append]; rfl
  have l1 : (bs (numT a.toNat)).size ≤ 2 := by rw [bs_size]; exact numT_len _
  have l2 : (bs (numT b.toNat)).size ≤ 2 := by rw [bs_size]; exact numT_len _
  have l3 : (bs (numT c.toNat)).size ≤ 2 := by rw [bs_size]; exact numT_len _
  generalize bs (verT a.toNat b.toNat c.toNat) = q at *
  generalize bs (numT a.toNat) = q1 at *
  generalize bs (numT b.toNat) = q2 at *
  generalize bs (numT c.toNat) = q3 at *
  go_enter Tryd.func38, Tryd.ntmps38
  go_wp2_with fail
  refine (HI1.out _).mono ?_
  rintro e w1 ⟨rfl, hw1⟩
  have hz1 := hw1.size
  simp at hz1
  have d1 := (bcell hw1).1 w.heap.size 1 (by simp)
  have d2 := (bcell hw1).1 w.heap.size 2 (by simp)
  simp at d1 d2
  have HB1 := hid' (((Below.refl _ _).alloc (Nat.le_refl _) _).trans (hw1.mono (by simp)) : Below w.heap.size w w1)
  clear hw1
  go_wp2_with fail
  refine (HI2.out _).mono ?_
  rintro e w2 ⟨rfl, hw2⟩
  have hz2 := hw2.size
  have e2 := ((bcell hw2).1 w.heap.size 2 (by omega)).trans d2
  have HB2 := hid' (HB1.out.trans (hw2.mono (by omega)))
  clear hw2 d1 d2
  go_wp2_with fail
  refine (HI3.out _).mono ?_
  rintro e w3 ⟨rfl, hw3⟩
  have HB3 := hid' (HB2.out.trans (hw3.mono (by omega)))
  clear hw3 e2
  go_wp2
  go_ret
  exact ⟨ret_str HE.out, HB3.out⟩

end Hst
end Go.Proofs.YtecocheolbkneaaDoor
namespace Go.Proofs.YtecocheolbkneaaDoor
open Go.RowKit
namespace Hst
set_option maxRecDepth 100000

/-- Lowest of the document: its answer and its error. -/
def lowRef (r : Tx) : Tx × Int := if isRangeR r = false then ([], 1) else match lowV (fitR r) none (pointsR r) with
  | none => ([], 3)
  | some v => (verT v.a.toNat v.b.toNat v.c.toNat, 0)
theorem lowRef1 {r : Tx} (h : isRangeR r = false) : lowRef r = ([], 1) := by simp [lowRef, h]
theorem lowRef2 {r : Tx} (h : isRangeR r = true) (h' : lowV (fitR r) none (pointsR r) = none) : lowRef r = ([], 3) := by simp [lowRef, h, h']
theorem lowRef3 {r : Tx} {v : V3} (h : isRangeR r = true) (h' : lowV (fitR r) none (pointsR r) = some v) : lowRef r = (verT v.a.toNat v.b.toNat v.c.toNat, 0) := by simp [lowRef, h, h']

theorem ret_str_int2 {k : IntKind} {a b : ByteArray} {c d : Int} (h : a = b) (h' : c = d) : Ending.returned (.tuple #[.string a, .int k c]) = .returned (.tuple #[.string b, .int k d]) := by rw [h, h']

/-- Where the best one is so far. -/
def BestAt (P : List V3) (k : Nat) (b : Int) (o : Option V3) : Prop := (b = -1 ∧ o = none) ∨ ∃ j : Nat, ∃ hj : j < P.length, j < k ∧ b = j ∧ o = some P[j]

theorem lv_step (f : V3 → Bool) (P : List V3) (k : Nat) (o : Option V3) (hk : k < P.length) : lowV f o (P.drop k) = lowV f (if f P[k] = true ∧ lowB P[k] o = true then some P[k] else o) (P.drop (k + 1)) := by
  rw [List.drop_eq_getElem_cons hk]; simp only [lowV]
theorem lv_end (f : V3 → Bool) (P : List V3) (k : Nat) (o : Option V3) (hk : ¬ k < P.length) : lowV f o (P.drop k) = o := by
  rw [List.drop_of_length_le (by omega)]; rfl

attribute [local go_sem ↓] Go.wp_at_zero Go.wp_at_succ

set_option maxHeartbeats 2000000 in
theorem rlowf_any (r : ByteArray) (w : World) :
    Calls Tryd.prog 10 #[.string r] w fun e w' => e = .returned (.tuple #[.string (bs (lowRef (tx r)).1), .int .i64 (lowRef (tx r)).2]) ∧ Below w.heap.size w w' := by
  have HR := hid (fun w => isRange_any r w)
  rcases hr : isRangeR (tx r) with _ | _
  · rw [lowRef1 hr]
    rw [hr] at HR
    clear hr
    go_enter Tryd.func10, Tryd.ntmps10
    go_wp2_with fail
    refine (HR.out _).mono ?_
    rintro e w1 ⟨rfl, hb1⟩
    go_wp2
    go_ret2
    exact ⟨rfl, hb1⟩
  · have h60 : r.size ≤ 60 := by
      by_cases h : r.size ≤ 60
      · exact h
      · rw [isRangeR_long r h] at hr; simp at hr
    have H2 := hid (fun h' => lowRef2 hr h')
    have H3 := hid (fun v h' => lowRef3 (v := v) hr h')
    rw [hr] at HR
    clear hr
    have HPR := hid (fun w => points_any r w h60)
    have hnr : pointsR (tx r) ≠ [] := by simp [pointsR]
    have HVAL := hid (fun p (hp : p ∈ pointsR (tx r)) => pointsR_valid hp)
    generalize pointsR (tx r) = P at *
    go_enter Tryd.func10, Tryd.ntmps10
    go_wp2_with fail
    refine (HR.out _).mono ?_
    rintro e w1 ⟨rfl, hb1⟩
    go_wp2_with fail
    refine (HPR.out _).mono ?_
    rintro e w2 ⟨vp, rfl, hvp, hlp, hb2⟩
    obtain ⟨g, cap, rfl, hg1, hg2, hcell⟩ := hvp.form hnr
    have HC := hid hcell
    have HB2 := hid (hb1.trans (hb2.mono hb1.size))
    clear hb1 hb2 hcell hvp
    go_wp2
    go_loopw [6, 7] (fun bst i wr => ∃ (k : Nat) (b : Int) (o : Option V3), k ≤ P.length ∧ bst = .int .i64 b ∧ i = .int .i64 k ∧ Below w2.heap.size w2 wr ∧ BestAt P k b o ∧ Hid (lowV (fitR (tx r)) none P = lowV (fitR (tx r)) o (P.drop k))) (fun _ i _ => P.length - (intOf i).toNat)
    case atStart => exact ⟨0, -1, none, by omega, rfl, rfl, Below.refl _ _, .inl ⟨rfl, rfl⟩, rfl⟩
    case round =>
      obtain ⟨k, b, o, hk, rfl, rfl, hbel, hbest, hall⟩ := hrel
      have hz := hbel.size
      have HBw := hid (HB2.out.trans (hbel.mono HB2.out.size))
      by_cases hlt : k < P.length
      · obtain ⟨c0, c1, c2⟩ := HC.out k hlt
        have d0 := (hbel.cell (p := ⟨g, k * 3, none⟩) hg2).trans c0
        have d1 := (hbel.cell (p := ⟨g, k * 3 + 1, none⟩) hg2).trans c1
        have d2 := (hbel.cell (p := ⟨g, k * 3 + 2, none⟩) hg2).trans c2
        have HF1 := hid (fun w => fit_any r P[k].a P[k].b P[k].c w h60)
        have HST := hid (lv_step (fitR (tx r)) P k o hlt)
        have hPk : Hid (∃ hj : k < P.length, (⟨P[k].a, P[k].b, P[k].c⟩ : V3) = P[k]) := ⟨hlt, rfl⟩
        generalize hv : P[k] = v at *
        obtain ⟨xa, xb, xc⟩ := v
        have HPV := hid hv
        simp only at d0 d1 d2 HF1
        generalize fitR (tx r) ⟨xa, xb, xc⟩ = f1 at *
        have hg6 : g < wr.heap.size := by omega
        clear c0 c1 c2 hv hPk
        go_wp2_with fail
        refine (HF1.out _).mono ?_
        rintro e w6 ⟨rfl, hb6⟩
        have hz6 := hb6.size
        have e0 := (hb6.cell (p := ⟨g, k * 3, none⟩) hg6).trans d0
        have e1 := (hb6.cell (p := ⟨g, k * 3 + 1, none⟩) hg6).trans d1
        have e2 := (hb6.cell (p := ⟨g, k * 3 + 2, none⟩) hg6).trans d2
        have HB6 := hid (hbel.trans (hb6.mono hz))
        have hg7 : g < w6.heap.size := by omega
        clear d0 d1 d2 hb6
        cases f1
        · have HF : Hid (lowV (fitR (tx r)) none P = lowV (fitR (tx r)) o (P.drop (k + 1))) := by unfold Hid; rw [hall.out, HST.out]; simp
          have HBE : BestAt P (k + 1) b o := by
            rcases hbest with h | ⟨j, hj, h1, h2⟩
            · exact .inl h
            · exact .inr ⟨j, hj, by omega, h2⟩
          clear HST hall
          go_wp2
          go_region
          all_goals
            go_wp2
            go_roundw
            case rel => exact ⟨k + 1, b, o, by omega, rfl, by go_num, HB6.out.drew, HBE, HF⟩
            case measure => simp [intOf]; omega
        · rcases hbest with ⟨rfl, rfl⟩ | ⟨j, hj, hjk, rfl, rfl⟩
          · have HF : Hid (lowV (fitR (tx r)) none P = lowV (fitR (tx r)) (some ⟨xa, xb, xc⟩) (P.drop (k + 1))) := by unfold Hid; rw [hall.out, HST.out]; simp [lowB]
            have HBE : BestAt P (k + 1) k (some ⟨xa, xb, xc⟩) := .inr ⟨k, hlt, by omega, rfl, by rw [HPV.out]⟩
            clear HST hall
            go_wp2
            go_region
            all_goals
              go_wp2
              go_roundw
              case rel => exact ⟨k + 1, k, some ⟨xa, xb, xc⟩, by omega, rfl, by go_num, HB6.out.drew, HBE, HF⟩
              case measure => simp [intOf]; omega
          · obtain ⟨c0, c1, c2⟩ := HC.out j hj
            have b0 := (HB6.out.cell (p := ⟨g, j * 3, none⟩) hg2).trans c0
            have b1 := (HB6.out.cell (p := ⟨g, j * 3 + 1, none⟩) hg2).trans c1
            have b2 := (HB6.out.cell (p := ⟨g, j * 3 + 2, none⟩) hg2).trans c2
            have HBE0 : BestAt P (k + 1) j (some P[j]) := .inr ⟨j, hj, by omega, rfl, rfl⟩
            have HBE1 : BestAt P (k + 1) k (some ⟨xa, xb, xc⟩) := .inr ⟨k, hlt, by omega, rfl, by rw [HPV.out]⟩
            have HLB : Hid (lowB ⟨xa, xb, xc⟩ (some P[j]) = belowB xa xb xc P[j].a P[j].b P[j].c) := rfl
            generalize P[j] = u at *
            obtain ⟨ya, yb, yc⟩ := u
            simp only at b0 b1 b2
            have HBL := hid (fun w => below_any xa xb xc ya yb yc w)
            have HF : Hid (∀ lw, belowB xa xb xc ya yb yc = lw → lowV (fitR (tx r)) none P = lowV (fitR (tx r)) (if lw = true then some ⟨xa, xb, xc⟩ else some ⟨ya, yb, yc⟩) (P.drop (k + 1))) := by
              intro lw h
              rw [hall.out, HST.out, HLB.out]
              simp only at h ⊢
              rw [h]; simp
            have HF' := HF.out _ rfl
            generalize belowB xa xb xc ya yb yc = lw at *
            have HFF := hid HF'
            have hj0 : (0 : Int) ≤ (j : Int) := by omega
            have hj1 : (j : Int) < (P.length : Int) := by omega
            have hk1 : (k : Int) < (P.length : Int) := by omega
            clear HST hall HF HF' HLB c0 c1 c2
            cases lw
            · have HG : Hid (lowV (fitR (tx r)) none P = lowV (fitR (tx r)) (some ⟨ya, yb, yc⟩) (P.drop (k + 1))) := by unfold Hid; simpa using HFF.out
              clear HFF
              go_wp2
              go_region_held3 (fun w' => w'.cell? ⟨g, k * 3, none⟩ = some (.int .i64 xa) ∧ w'.cell? ⟨g, k * 3 + 1, none⟩ = some (.int .i64 xb) ∧ w'.cell? ⟨g, k * 3 + 2, none⟩ = some (.int .i64 xc) ∧ w'.cell? ⟨g, j * 3, none⟩ = some (.int .i64 ya) ∧ w'.cell? ⟨g, j * 3 + 1, none⟩ = some (.int .i64 yb) ∧ w'.cell? ⟨g, j * 3 + 2, none⟩ = some (.int .i64 yc)) (go_keep)
                (first | (go_at_call 37; refine (HBL.out _).mono ?_; rintro e w7 ⟨rfl, hb7⟩; have hz7 := (bcell hb7).1; simp at hz7))
              have HB7 := hid (HB6.out.drew.trans (hb7.mono (by simp; omega)))
              clear hb7
              go_wp2
              go_roundw
              case rel => exact ⟨k + 1, j, some ⟨ya, yb, yc⟩, by omega, rfl, by go_num, HB7.out, HBE0, HG⟩
              case measure => simp [intOf]; omega
            · have HG : Hid (lowV (fitR (tx r)) none P = lowV (fitR (tx r)) (some ⟨xa, xb, xc⟩) (P.drop (k + 1))) := by unfold Hid; simpa using HFF.out
              clear HFF
              go_wp2
              go_region_held3 (fun w' => w'.cell? ⟨g, k * 3, none⟩ = some (.int .i64 xa) ∧ w'.cell? ⟨g, k * 3 + 1, none⟩ = some (.int .i64 xb) ∧ w'.cell? ⟨g, k * 3 + 2, none⟩ = some (.int .i64 xc) ∧ w'.cell? ⟨g, j * 3, none⟩ = some (.int .i64 ya) ∧ w'.cell? ⟨g, j * 3 + 1, none⟩ = some (.int .i64 yb) ∧ w'.cell? ⟨g, j * 3 + 2, none⟩ = some (.int .i64 yc)) (go_keep)
                (first | (go_at_call 37; refine (HBL.out _).mono ?_; rintro e w7 ⟨rfl, hb7⟩; have hz7 := (bcell hb7).1; simp at hz7))
              have HB7 := hid (HB6.out.drew.trans (hb7.mono (by simp; omega)))
              clear hb7
              go_wp2
              go_roundw
              case rel => exact ⟨k + 1, k, some ⟨xa, xb, xc⟩, by omega, rfl, by go_num, HB7.out, HBE1, HG⟩
              case measure => simp [intOf]; omega
      · have HF : Hid (lowV (fitR (tx r)) none P = o) := by unfold Hid; rw [hall.out, lv_end _ P k o hlt]
        rcases hbest with ⟨rfl, rfl⟩ | ⟨j, hj, hjk, rfl, rfl⟩
        · have HE := hid (H2.out HF.out)
          go_wp2
          go_ret2
          exact ⟨ret_str_int2 (by rw [HE.out]; rfl) (by rw [HE.out]), HBw.out⟩
        · have HE := hid (H3.out _ HF.out)
          have hval := HVAL.out P[j] (List.getElem_mem hj)
          obtain ⟨c0, c1, c2⟩ := HC.out j hj
          have b0 := (hbel.cell (p := ⟨g, j * 3, none⟩) hg2).trans c0
          have b1 := (hbel.cell (p := ⟨g, j * 3 + 1, none⟩) hg2).trans c1
          have b2 := (hbel.cell (p := ⟨g, j * 3 + 2, none⟩) hg2).trans c2
          clear HF hall c0 c1 c2
          generalize P[j] = u at *
          obtain ⟨ya, yb, yc⟩ := u
          obtain ⟨v1, v2, v3, v4, v5, v6⟩ := hval
          simp only at b0 b1 b2 v1 v2 v3 v4 v5 v6
          have HW := hid (fun w => written_any ya yb yc w v1 v2 v3 v4 v5 v6)
          go_wp2_with fail
          refine (HW.out _).mono ?_
          rintro e w7 ⟨rfl, hb7⟩
          have HB7 := hid (HBw.out.trans (hb7.mono HBw.out.size))
          clear hb7
          go_wp2
          go_ret2
          exact ⟨ret_str_int2 (by rw [HE.out]) (by rw [HE.out]), HB7.out⟩

end Hst
end Go.Proofs.YtecocheolbkneaaDoor
namespace Go.Proofs.YtecocheolbkneaaDoor
open Go.RowKit
namespace Hst
set_option maxRecDepth 100000

theorem lows_law (r : Tx) : lowRef r = lowProg r := by
  rcases rangeP_law r with ⟨h1, h2⟩ | ⟨sp, h1, h2, h3⟩
  · rw [lowRef1 h2, lowProg1 h1]
  · rcases low_law h1 h3 with ⟨k1, k2⟩ | ⟨k1, v, k2, hv, hp, _⟩
    · rw [lowRef2 h2 k2, lowProg2 h1 k1]
    · rw [lowRef3 h2 k2, lowProg3 h1 k1, ← hp]
      have := place_parts hv
      unfold placeT
      rw [this.1, this.2.1, this.2.2.1]

set_option maxHeartbeats 1000000 in
theorem lowests_any (r : ByteArray) (w : World) :
    Calls Tryd.prog 3 #[.string r] w fun e w' => e = .returned (.bool true) ∧ Below w.heap.size w w' := by
  have HP := hid (fun w => plow_any r w)
  have HR := hid (fun w => rlowf_any r w)
  rw [lows_law] at HR
  generalize bs (lowProg (tx r)).1 = q at *
  generalize (lowProg (tx r)).2 = n at *
  go_enter Tryd.func3, Tryd.ntmps3
  go_wp2_with fail
  refine (HP.out _).mono ?_
  rintro e w1 ⟨rfl, hb1⟩
  go_wp2_with fail
  refine (HR.out _).mono ?_
  rintro e w2 ⟨rfl, hb2⟩
  have HB := hid (hb1.trans (hb2.mono hb1.size))
  clear hb1 hb2
  go_wp2_with (go_at_call 11; refine (num_any _ _).mono ?_; rintro e w' ⟨rfl, rfl⟩)
  go_ret
  exact ⟨rfl, HB.out⟩

end Hst
end Go.Proofs.YtecocheolbkneaaDoor
