/- Ppack, Ppacks, Ploadx -/
import Derived.Test.YtecocheolbkneaaGreatDoorW25
import Derived.Test.YtecocheolbkneaaGreatDoorW13
import Derived.Test.YtecocheolbkneaaGreatDoorW20
import Derived.Test.YtecocheolbkneaaGreatDoorW05
import Derived.Test.YtecocheolbkneaaGreatDoorW21
namespace Go.Proofs.YtecocheolbkneaaGreatDoor
open Go.RowKit
namespace Hst
set_option maxRecDepth 100000

theorem pk_at {st : List EntX} {l h v : Tx} (hc : cutR 64 l = (h, v, false)) : packP st l = none := by
  unfold packP; rw [hc]; rfl
theorem pk_path {st : List EntX} {l h v : Tx} (hc : cutR 64 l = (h, v, true)) (hp : isPathP h = false) : packP st l = none := by
  unfold packP; rw [hc]; simp only [hp]; rfl
theorem pk_ver {st : List EntX} {l h v : Tx} (hc : cutR 64 l = (h, v, true)) (hp : isPathP h = true) (hv : versionP v = none) : packP st l = none := by
  unfold packP; rw [hc]; simp only [hp, hv]; rfl
theorem pk_find {st : List EntX} {l h v : Tx} {n : Int} (hc : cutR 64 l = (h, v, true)) (hp : isPathP h = true) (hv : versionP v = some n) : packP st l = (findE st (nameP h) n).map fun e => ⟨h, e⟩ := by
  unfold packP; rw [hc]; simp only [hp, hv]
  rcases findE st (nameP h) n <;> rfl
theorem findE_mem {st : List EntX} {n : Tx} {v : Int} {e : EntX} (h : findE st n v = some e) : e ∈ st := List.mem_of_find?_eq_some h

theorem EntIn.set {w : World} {e : EntX} (h : EntIn w e) {b o : Nat} {u : Value} (ht : tagOf w b = some 113) : EntIn (w.setCell ⟨b, o, none⟩ u) e :=
  ⟨NeedsIn.off h.1 (But.set w b o u) (odd_of ht (by decide) (by decide)), h.2⟩

set_option maxHeartbeats 4000000 in
theorem ppack_any (s : ByteArray) (v : Value) (st : List EntX) (w : World) (hl : EntsIn w v st) (hst : st.length ≤ 100000) (hs : s.size ≤ 5000) :
    Calls Tryz.prog 111 #[.string s, .agg #[v]] w fun e w' => ∃ x, e = .returned (.tuple #[pkXV x, .bool (packP st (tx s)).isSome]) ∧ Below w.heap.size w w' ∧ Hit (packP st (tx s)) x ∧ ∀ p, packP st (tx s) = some p → EntIn w' p.e := by
  obtain ⟨a, cap, rfl⟩ := hl.1.form
  have hl1 := cut_len 64 (tx s)
  rw [tx_length] at hl1
  have HC1 := hid' (fun w => pcut_any s 64 w (by omega))
  rcases hcut : cutR 64 (tx s) with ⟨hd, vr, b⟩
  rw [hcut] at hl1 HC1
  simp only at hl1
  have HIP := hid' (fun w => isPath_any (bs hd) w (by rw [bs_size]; omega))
  rw [tx_bs] at HIP
  have HVP := hid' (fun w => vparse_any (bs vr) w)
  rw [tx_bs] at HVP
  have HNM := hid' (fun w => nameOf_any (bs hd) w (by rw [bs_size]; omega))
  rw [tx_bs] at HNM
  have HFE := hid' (fun ver w h => findE_any (.slice a st.length cap) st (bs (nameP hd)) ver w h hst)
  simp only [tx_bs] at HFE
  have K1 : Hid (b = false → packP st (tx s) = none) := fun h => pk_at (by rw [hcut, h])
  have K2 : Hid (b = true → isPathP hd = false → packP st (tx s) = none) := fun h => pk_path (by rw [hcut, h])
  have K3 : Hid (b = true → isPathP hd = true → versionP vr = none → packP st (tx s) = none) := fun h => pk_ver (by rw [hcut, h])
  have K4 : Hid (∀ n, b = true → isPathP hd = true → versionP vr = some n → packP st (tx s) = (findE st (nameP hd) n).map fun e => ⟨hd, e⟩) := fun n h => pk_find (by rw [hcut, h])
  have HL := hid' hl
  clear hl hcut hl1
  generalize packP st (tx s) = res at *
  generalize isPathP hd = ip at *
  generalize bs (nameP hd) = nmb at *
  generalize nameP hd = nm at *
  have hbw := ((Below.refl w.heap.size w).alloc (Nat.le_refl _) (.cells #[.slice a st.length cap] 69)).alloc (by simp) (.cells #[.string ⟨#[]⟩, .string ⟨#[]⟩, .int .i64 0, .slice none 0 0] 113)
  have q0 : ((w.alloc (.cells #[.slice a st.length cap] 69)).alloc (.cells #[.string ⟨#[]⟩, .string ⟨#[]⟩, .int .i64 0, .slice none 0 0] 113)).cell? ⟨w.heap.size, 0, none⟩ = some (.slice a st.length cap) := by simp [go_sem]
  have e := fun i => (show ((w.alloc (.cells #[.slice a st.length cap] 69)).alloc (.cells #[.string ⟨#[]⟩, .string ⟨#[]⟩, .int .i64 0, .slice none 0 0] 113)).cell? ⟨w.heap.size + 1, i, none⟩ = #[Value.string ⟨#[]⟩, .string ⟨#[]⟩, .int .i64 0, .slice none 0 0][i]? by simp)
  have ef := fun i => (show ((w.alloc (.cells #[.slice a st.length cap] 69)).alloc (.cells #[.string ⟨#[]⟩, .string ⟨#[]⟩, .int .i64 0, .slice none 0 0] 113)).frozen? ⟨w.heap.size + 1, i, none⟩ = false by simp)
  have hsz : ((w.alloc (.cells #[.slice a st.length cap] 69)).alloc (.cells #[.string ⟨#[]⟩, .string ⟨#[]⟩, .int .i64 0, .slice none 0 0] 113)).heap.size = w.heap.size + 2 := by simp
  have htg : tagOf ((w.alloc (.cells #[.slice a st.length cap] 69)).alloc (.cells #[.string ⟨#[]⟩, .string ⟨#[]⟩, .int .i64 0, .slice none 0 0] 113)) (w.heap.size + 1) = some 113 := by
    have := tag_new (w.alloc (.cells #[.slice a st.length cap] 69)) #[.string ⟨#[]⟩, .string ⟨#[]⟩, .int .i64 0, .slice none 0 0] 113
    simpa using this
  go_enter Tryz.func111, Tryz.ntmps111
  go_wp2_with fail
  refine (HC1.out _).mono ?_
  rintro e' w1 ⟨rfl, hb1⟩
  have HB1 := hid' (hbw.trans (hb1.mono (by omega)))
  have HC : Hid (∀ i, w1.cell? ⟨w.heap.size + 1, i, none⟩ = #[Value.string ⟨#[]⟩, .string ⟨#[]⟩, .int .i64 0, .slice none 0 0][i]?) := fun i => ((bcell hb1).1 (w.heap.size + 1) i (by omega)).trans (e i)
  have HFZ : Hid (∀ i, w1.frozen? ⟨w.heap.size + 1, i, none⟩ = false) := fun i => ((bcell hb1).2 (w.heap.size + 1) i (by omega)).trans (ef i)
  have HQ : Hid (w1.cell? ⟨w.heap.size, 0, none⟩ = some (.slice a st.length cap)) := ((bcell hb1).1 w.heap.size 0 (by omega)).trans q0
  have HT : Hid (tagOf w1 (w.heap.size + 1) = some 113) := by unfold Hid; rw [tagOf_below hb1 (by omega)]; exact htg
  have hs1 : w.heap.size + 2 ≤ w1.heap.size := by have := hb1.size; omega
  have hs1' : w.heap.size + 1 < w1.heap.size := by omega
  clear hb1 hbw q0 e ef hsz htg
  cases b
  · have HF := hid' (K1.out rfl)
    have d0 := HC.out 0; have d1 := HC.out 1; have d2 := HC.out 2; have d3 := HC.out 3
    have g0 := HFZ.out 0; have g1 := HFZ.out 1; have g2 := HFZ.out 2; have g3 := HFZ.out 3
    simp at d0 d1 d2 d3
    go_wp2
    refine bodyPost_ret (v := .tuple #[.agg #[.string ByteArray.empty, .string ByteArray.empty, .int .i64 0, .slice none 0 0], .bool false]) (by simp [results, Tryz.results111, go_sem, *]; rfl) rfl ⟨zeroP, by rw [HF.out]; rfl, ?_, ⟨⟨none, 0, 0, rfl⟩, fun p h => by rw [HF.out] at h; exact absurd h (by simp)⟩, fun p h => by rw [HF.out] at h; exact absurd h (by simp)⟩
    exact (((HB1.out.setCell (by simp) _).setCell (by simp) _).setCell (by simp) _).setCell (by simp) _
  · go_wp2_with fail
    refine (HIP.out _).mono ?_
    rintro e' w2 ⟨rfl, hb2⟩
    have HB2 := hid' (HB1.out.trans (hb2.mono (by omega)))
    have HC2 : Hid (∀ i, w2.cell? ⟨w.heap.size + 1, i, none⟩ = #[Value.string ⟨#[]⟩, .string ⟨#[]⟩, .int .i64 0, .slice none 0 0][i]?) := fun i => ((bcell hb2).1 (w.heap.size + 1) i hs1').trans (HC.out i)
    have HFZ2 : Hid (∀ i, w2.frozen? ⟨w.heap.size + 1, i, none⟩ = false) := fun i => ((bcell hb2).2 (w.heap.size + 1) i hs1').trans (HFZ.out i)
    have HQ2 : Hid (w2.cell? ⟨w.heap.size, 0, none⟩ = some (.slice a st.length cap)) := ((bcell hb2).1 w.heap.size 0 (by omega)).trans HQ.out
    have HT2 : Hid (tagOf w2 (w.heap.size + 1) = some 113) := by unfold Hid; rw [tagOf_below hb2 hs1']; exact HT.out
    have hs2 : w.heap.size + 2 ≤ w2.heap.size := by have := hb2.size; omega
    have hs2' : w.heap.size + 1 < w2.heap.size := by omega
    clear hb2 HC HFZ HQ HT
    cases ip
    · have HF := hid' (K2.out (by first | rfl | trivial) (by first | rfl | trivial))
      have d0 := HC2.out 0; have d1 := HC2.out 1; have d2 := HC2.out 2; have d3 := HC2.out 3
      have g0 := HFZ2.out 0; have g1 := HFZ2.out 1; have g2 := HFZ2.out 2; have g3 := HFZ2.out 3
      simp at d0 d1 d2 d3
      go_wp2
      refine bodyPost_ret (v := .tuple #[.agg #[.string ByteArray.empty, .string ByteArray.empty, .int .i64 0, .slice none 0 0], .bool false]) (by simp [results, Tryz.results111, go_sem, *]; rfl) rfl ⟨zeroP, by rw [HF.out]; rfl, ?_, ⟨⟨none, 0, 0, rfl⟩, fun p h => by rw [HF.out] at h; exact absurd h (by simp)⟩, fun p h => by rw [HF.out] at h; exact absurd h (by simp)⟩
      exact (((HB2.out.setCell (by simp) _).setCell (by simp) _).setCell (by simp) _).setCell (by simp) _
    · go_wp2_with fail
      refine (HVP.out _).mono ?_
      rintro e' w3 ⟨rfl, hb3⟩
      have HB3 := hid' (HB2.out.trans (hb3.mono (by omega)))
      have HC3 : Hid (∀ i, w3.cell? ⟨w.heap.size + 1, i, none⟩ = #[Value.string ⟨#[]⟩, .string ⟨#[]⟩, .int .i64 0, .slice none 0 0][i]?) := fun i => ((bcell hb3).1 (w.heap.size + 1) i hs2').trans (HC2.out i)
      have HFZ3 : Hid (∀ i, w3.frozen? ⟨w.heap.size + 1, i, none⟩ = false) := fun i => ((bcell hb3).2 (w.heap.size + 1) i hs2').trans (HFZ2.out i)
      have HQ3 : Hid (w3.cell? ⟨w.heap.size, 0, none⟩ = some (.slice a st.length cap)) := ((bcell hb3).1 w.heap.size 0 (by omega)).trans HQ2.out
      have HT3 : Hid (tagOf w3 (w.heap.size + 1) = some 113) := by unfold Hid; rw [tagOf_below hb3 hs2']; exact HT2.out
      have hs3 : w.heap.size + 2 ≤ w3.heap.size := by have := hb3.size; omega
      have hs3' : w.heap.size + 1 < w3.heap.size := by omega
      clear hb3 HC2 HFZ2 HQ2 HT2
      rcases hvv : versionP vr with _ | ver
      · have HF := hid' (K3.out (by first | rfl | trivial) (by first | rfl | trivial) hvv)
        clear hvv
        simp only [ov, oks, Option.isSome, Option.getD]
        have d0 := HC3.out 0; have d1 := HC3.out 1; have d2 := HC3.out 2; have d3 := HC3.out 3
        have g0 := HFZ3.out 0; have g1 := HFZ3.out 1; have g2 := HFZ3.out 2; have g3 := HFZ3.out 3
        simp at d0 d1 d2 d3
        go_wp2
        refine bodyPost_ret (v := .tuple #[.agg #[.string ByteArray.empty, .string ByteArray.empty, .int .i64 0, .slice none 0 0], .bool false]) (by simp [results, Tryz.results111, go_sem, *]; rfl) rfl ⟨zeroP, by rw [HF.out]; rfl, ?_, ⟨⟨none, 0, 0, rfl⟩, fun p h => by rw [HF.out] at h; exact absurd h (by simp)⟩, fun p h => by rw [HF.out] at h; exact absurd h (by simp)⟩
        exact (((HB3.out.setCell (by simp) _).setCell (by simp) _).setCell (by simp) _).setCell (by simp) _
      · have HK := hid' (K4.out ver (by first | rfl | trivial) (by first | rfl | trivial) hvv)
        clear hvv
        simp only [ov, oks, Option.isSome, Option.getD]
        have c0 := HQ3.out
        have hs3a : w.heap.size < w3.heap.size := by omega
        go_wp2_with fail
        refine (HNM.out _).mono ?_
        rintro e' w3b ⟨he, hw⟩
        subst he hw
        go_wp2_with fail
        refine (HFE.out ver _ (HL.out.below HB3.out)).mono ?_
        rintro e' w4 ⟨x, rfl, hb4, ⟨na, nn, nc, hxn⟩, hhit⟩
        obtain ⟨xn, xv, xs, xd⟩ := x
        simp only at hxn
        subst hxn
        have HB4 := hid' (HB3.out.trans (hb4.mono (by omega)))
        have HC4 : Hid (∀ i, w4.cell? ⟨w.heap.size + 1, i, none⟩ = #[Value.string ⟨#[]⟩, .string ⟨#[]⟩, .int .i64 0, .slice none 0 0][i]?) := fun i => ((bcell hb4).1 (w.heap.size + 1) i hs3').trans (HC3.out i)
        have HFZ4 : Hid (∀ i, w4.frozen? ⟨w.heap.size + 1, i, none⟩ = false) := fun i => ((bcell hb4).2 (w.heap.size + 1) i hs3').trans (HFZ3.out i)
        have HT4 : Hid (tagOf w4 (w.heap.size + 1) = some 113) := by unfold Hid; rw [tagOf_below hb4 hs3']; exact HT3.out
        have hs4 : w.heap.size + 1 < w4.heap.size := by have := hb4.size; omega
        have HL4 := hid' (HL.out.below HB4.out)
        clear hb4 HC3 HFZ3 HQ3 HT3 c0
        rcases hfe : findE st nm ver with _ | ex
        · have HF : Hid (res = none) := by unfold Hid; rw [HK.out, hfe]; rfl
          clear hfe hhit
          have d0 := HC4.out 0; have d1 := HC4.out 1; have d2 := HC4.out 2; have d3 := HC4.out 3
          have g0 := HFZ4.out 0; have g1 := HFZ4.out 1; have g2 := HFZ4.out 2; have g3 := HFZ4.out 3
          simp at d0 d1 d2 d3
          go_wp2
          refine bodyPost_ret (v := .tuple #[.agg #[.string ByteArray.empty, .string ByteArray.empty, .int .i64 0, .slice none 0 0], .bool false]) (by simp [results, Tryz.results111, go_sem, *]; rfl) rfl ⟨zeroP, by rw [HF.out]; rfl, ?_, ⟨⟨none, 0, 0, rfl⟩, fun p h => by rw [HF.out] at h; exact absurd h (by simp)⟩, fun p h => by rw [HF.out] at h; exact absurd h (by simp)⟩
          exact ((((HB4.out.setCell (by simp) _).setCell (by simp) _).setCell (by simp) _).setCell (by simp) _).alloc (by simp; omega) _
        · have hx := hhit ex hfe
          have HEI := hid' (HL4.out.2 ex (findE_mem hfe))
          have HF : Hid (res = some ⟨hd, ex⟩) := by unfold Hid; rw [HK.out, hfe]; rfl
          subst hx
          clear hfe hhit
          have d0 := HC4.out 0; have d1 := HC4.out 1; have d2 := HC4.out 2; have d3 := HC4.out 3
          have g0 := HFZ4.out 0; have g1 := HFZ4.out 1; have g2 := HFZ4.out 2; have g3 := HFZ4.out 3
          simp at d0 d1 d2 d3
          have HEN : Hid (∀ x0 x1 x2 x3 o, EntIn (((((w4.setCell ⟨w.heap.size + 1, 0, none⟩ x0).setCell ⟨w.heap.size + 1, 1, none⟩ x1).setCell ⟨w.heap.size + 1, 2, none⟩ x2).setCell ⟨w.heap.size + 1, 3, none⟩ x3).alloc o) ⟨xn, xv, .slice na nn nc, xd⟩) := fun x0 x1 x2 x3 o => by
            have t0 := HT4.out
            refine EntIn.below (EntIn.set (EntIn.set (EntIn.set (EntIn.set HEI.out t0) ?_) ?_) ?_) ((Below.refl _ _).alloc (Nat.le_refl _) _) <;> simp only [tag_set] <;> exact t0
          go_wp2
          refine bodyPost_ret (v := .tuple #[.agg #[.string (bs hd), .string (bs xn), .int .i64 xv, .slice na nn nc], .bool true]) (by simp [results, Tryz.results111, go_sem, *]) rfl ⟨⟨hd, xn, xv, .slice na nn nc, xd⟩, by rw [HF.out]; rfl, ?_, ⟨⟨_, _, _, rfl⟩, fun p h => by rw [HF.out] at h; simpa using h⟩, fun p h => ?_⟩
          · exact ((((HB4.out.setCell (by simp) _).setCell (by simp) _).setCell (by simp) _).setCell (by simp) _).alloc (by simp; omega) _
          · rw [HF.out] at h
            have h := Option.some.inj h
            subst h
            exact HEN.out _ _ _ _ _

end Hst
end Go.Proofs.YtecocheolbkneaaGreatDoor
namespace Go.Proofs.YtecocheolbkneaaGreatDoor
open Go.RowKit
namespace Hst
set_option maxRecDepth 100000

theorem pg_bad {st : List EntX} {t : List PkX} {last : Tx} {d : List Tx} {k : Nat} (hk : k < d.length) (h : packP st d[k] = none) : packsGo st t last (d.drop k) = none := by
  rw [List.drop_eq_getElem_cons hk, packsGo, h]
theorem pg_low {st : List EntX} {t : List PkX} {last : Tx} {d : List Tx} {k : Nat} (hk : k < d.length) {x : PkX} (h : packP st d[k] = some x) (hl : less last x.path = false) : packsGo st t last (d.drop k) = none := by
  rw [List.drop_eq_getElem_cons hk, packsGo, h]; simp only; rw [if_pos hl]
theorem pg_fold {st : List EntX} {t : List PkX} {last : Tx} {d : List Tx} {k : Nat} (hk : k < d.length) {x : PkX} (h : packP st d[k] = some x) (hl : less last x.path = true) (hf : hasFolderP t x.path = false) : packsGo st t last (d.drop k) = none := by
  rw [List.drop_eq_getElem_cons hk, packsGo, h]; simp only; rw [if_neg (by rw [hl]; simp), if_pos hf]
theorem pg_good {st : List EntX} {t : List PkX} {last : Tx} {d : List Tx} {k : Nat} (hk : k < d.length) {x : PkX} (h : packP st d[k] = some x) (hl : less last x.path = true) (hf : hasFolderP t x.path = true) : packsGo st t last (d.drop k) = packsGo st (withP t x) x.path (d.drop (k + 1)) := by
  rw [List.drop_eq_getElem_cons hk, packsGo, h]; simp only; rw [if_neg (by rw [hl]; simp), if_neg (by rw [hf]; simp)]
theorem pg_done {st : List EntX} {t : List PkX} {last : Tx} {d : List Tx} {k : Nat} (hk : ¬ k < d.length) : packsGo st t last (d.drop k) = some t := by
  rw [List.drop_of_length_le (by omega), packsGo]
theorem pcs_nil {st : List EntX} {s : Tx} (h : s = []) : packsP st s = some [] := by unfold packsP; rw [if_pos h]
theorem pcs_many {st : List EntX} {s : Tx} (h : s ≠ []) (h' : 40 < (splitL 59 s).length) : packsP st s = none := by unfold packsP; rw [if_neg h, if_pos h']
theorem pcs_go {st : List EntX} {s : Tx} (h : s ≠ []) (h' : ¬ 40 < (splitL 59 s).length) : packsP st s = packsGo st [] [] ((splitL 59 s).drop 0) := by unfold packsP; rw [if_neg h, if_neg h']; rfl
theorem packP_path {st : List EntX} {l : Tx} {x : PkX} (h : packP st l = some x) : x.path.length ≤ l.length := by
  unfold packP at h
  split at h
  · exact absurd h (by simp)
  · split at h
    · exact absurd h (by simp)
    · split at h
      · exact absurd h (by simp)
      · have h := Option.some.inj h
        subst h
        exact (cut_len 64 l).1
theorem withP_length (l : List PkX) (p : PkX) : (withP l p).length = l.length + 1 := insX_len _ _ _
theorem withP_in (l : List PkX) (p q : PkX) : q ∈ withP l p ↔ q = p ∨ q ∈ l := insX_mem _ _ _ _
theorem PksIn.off' {w w' : World} {b : Nat} {v : Value} {l : List PkX} (h : PksIn w v l) (hb : But b w w') (ht : tagOf w b = some 73) : PksIn w' v l :=
  ⟨RowX.off h.1 hb (by rw [ht]; decide), fun p hp => (h.2 p hp).off hb (odd_of ht (by decide) (by decide))⟩
/-- Where the loop stands: the tree's own cell, the result's, the stock's. -/
structure PkSt (w w1 wr : World) (sv : Value) (tv : Value) (t : List PkX) : Prop where
  mv : SMv (w.heap.size + 2) w1 wr
  c0 : wr.cell? ⟨w.heap.size, 0, none⟩ = some sv
  c1 : wr.cell? ⟨w.heap.size + 1, 0, none⟩ = some (.slice none 0 0)
  f1 : wr.frozen? ⟨w.heap.size + 1, 0, none⟩ = false
  c2 : wr.cell? ⟨w.heap.size + 2, 0, none⟩ = some tv
  f2 : wr.frozen? ⟨w.heap.size + 2, 0, none⟩ = false
  tg : tagOf wr (w.heap.size + 2) = some 73
  tg1 : tagOf wr (w.heap.size + 1) = some 73
  sz : w.heap.size + 3 ≤ wr.heap.size
  pk : PksIn wr tv t
theorem PkSt.below {w w1 wr w' : World} {sv tv : Value} {t : List PkX} (h : PkSt w w1 wr sv tv t) (hb : Below wr.heap.size wr w') : PkSt w w1 w' sv tv t := by
  have hz := h.sz
  have hc := bcell hb
  exact ⟨h.mv.trans (SMv.of_below hb), (hc.1 _ _ (by omega)).trans h.c0, (hc.1 _ _ (by omega)).trans h.c1, (hc.2 _ _ (by omega)).trans h.f1, (hc.1 _ _ (by omega)).trans h.c2, (hc.2 _ _ (by omega)).trans h.f2, by rw [tagOf_below hb (by omega)]; exact h.tg, by rw [tagOf_below hb (by omega)]; exact h.tg1, by have := hb.size; omega, h.pk.below hb⟩
theorem PkSt.set {w w1 wr : World} {sv tv : Value} {t : List PkX} (h : PkSt w w1 wr sv tv t) {u : Value} {t' : List PkX} (hu : PksIn wr u t') : PkSt w w1 (wr.setCell ⟨w.heap.size + 2, 0, none⟩ u) sv u t' := by
  have hz := h.sz
  have hbut := But.set wr (w.heap.size + 2) 0 u
  refine ⟨h.mv.trans (SMv.set wr (w.heap.size + 2) 0 u), (hbut.cell (by omega) (by omega)).trans h.c0, (hbut.cell (by omega) (by omega)).trans h.c1, (hbut.froz (by omega) (by omega)).trans h.f1, ?_, ?_, by rw [tag_set]; exact h.tg, by rw [tag_set]; exact h.tg1, by simp; omega, hu.off' hbut h.tg⟩
  · exact World.cell?_setCell_same' _ _ _ (by rw [h.c2]; rfl)
  · rw [World.frozen?_setCell]; exact h.f2
theorem SMv.to_below' {b B : Nat} {w w' : World} (h : SMv b w w') (hb : B ≤ b) (hB : B ≤ w.heap.size) : Below B w w' :=
  ⟨h.os, h.tape, h.output, h.but.size, fun k hk => h.but.block k (by omega) (by omega)⟩

set_option maxHeartbeats 8000000 in
theorem ppacks_any (s : ByteArray) (v : Value) (st : List EntX) (w : World) (hl : EntsIn w v st) (hst : st.length ≤ 100000) (hs : s.size ≤ 5000) :
    Calls Tryz.prog 70 #[.string s, .agg #[v]] w fun e w' => ∃ a n c, e = .returned (.tuple #[.agg #[.slice a n c], .bool (packsP st (tx s)).isSome]) ∧ Below w.heap.size w w' ∧ ∀ t, packsP st (tx s) = some t → PksIn w' (.slice a n c) t := by
  obtain ⟨sa, scap, rfl⟩ := hl.1.form
  have HL := hid' hl
  have C1 := hid' (pcs_nil (st := st) (s := tx s))
  have C2 := hid' (pcs_many (st := st) (s := tx s))
  have C3 := hid' (pcs_go (st := st) (s := tx s))
  clear hl
  generalize packsP st (tx s) = res at *
  have hbw := (((Below.refl w.heap.size w).alloc (Nat.le_refl _) (.cells #[.slice sa st.length scap] 69)).alloc (by simp) (.cells #[.slice none 0 0] 73)).alloc (by simp; omega) (.cells #[.slice none 0 0] 73)
  have HST : Hid (∀ w1, Below (w.heap.size + 3) (((w.alloc (.cells #[.slice sa st.length scap] 69)).alloc (.cells #[.slice none 0 0] 73)).alloc (.cells #[.slice none 0 0] 73)) w1 → PkSt w w1 w1 (.slice sa st.length scap) (.slice none 0 0) []) := fun w1 hb => by
    have hsz : (((w.alloc (.cells #[.slice sa st.length scap] 69)).alloc (.cells #[.slice none 0 0] 73)).alloc (.cells #[.slice none 0 0] 73)).heap.size = w.heap.size + 3 := by simp
    have hb' := hb
    rw [← hsz] at hb'
    have hc := bcell hb'
    have t2 := tag_new ((w.alloc (.cells #[.slice sa st.length scap] 69)).alloc (.cells #[.slice none 0 0] 73)) #[.slice none 0 0] 73
    have t1 := tag_new (w.alloc (.cells #[.slice sa st.length scap] 69)) #[.slice none 0 0] 73
    simp at t1 t2
    refine ⟨SMv.of_below (Below.refl _ _), (hc.1 _ _ (by omega)).trans (by simp [go_sem]), (hc.1 _ _ (by omega)).trans (by simp [go_sem]), (hc.2 _ _ (by omega)).trans (by simp [go_sem]), (hc.1 _ _ (by omega)).trans (by simp [go_sem]), (hc.2 _ _ (by omega)).trans (by simp [go_sem]), ?_, ?_, by have := hb.size; omega, ⟨RowX.nil _ _ _ _, by simp⟩⟩
    · rw [tagOf_below hb' (by omega)]; exact t2
    · rw [tagOf_below hb' (by omega), tagOf_below ((Below.refl _ _).alloc (Nat.le_refl _) _) (by simp)]; exact t1
  by_cases h0 : tx s = []
  · have hb : (s.toList == []) = true := by rw [tx_toList, h0]; rfl
    have HF := hid' (C1.out h0)
    have HB := hid' hbw
    clear h0 hbw C1 C2 C3
    go_enter Tryz.func70, Tryz.ntmps70
    go_wp2
    refine bodyPost_ret (v := .tuple #[.agg #[.slice none 0 0], .bool true]) (by simp [results, Tryz.results70, go_sem, *]) rfl ⟨none, 0, 0, by rw [HF.out]; rfl, ?_, fun t h => ?_⟩
    · first | exact HB.out.setCell (by simp) _ | exact HB.out
    · rw [HF.out] at h
      have h := Option.some.inj h
      subst h
      exact ⟨RowX.nil _ _ _ _, by simp⟩
  · have hb : (s.toList == []) = false := by rw [tx_toList]; exact beq_eq_false_iff_ne.2 h0
    have C2' := hid' (C2.out h0)
    have C3' := hid' (C3.out h0)
    have HPS : Hid (∀ j (hj : j < (splitL 59 (tx s)).length), (splitL 59 (tx s))[j].length ≤ 5000) := fun j hj => by have := piece_size 59 s j hj; rw [bs_size] at this; omega
    have HBW := hid' hbw
    clear h0 C1 C2 C3 hbw
    go_enter Tryz.func70, Tryz.ntmps70
    go_wp2_with fail
    refine (psplit_any s 59 _ (by omega)).mono ?_
    rintro e w1 ⟨dv, rfl, hrow, hb1⟩
    have hrx := hrow.rowx
    obtain ⟨ta, tc, rfl⟩ := hrx.form
    have HRX := hid' hrx
    have hsz3 : (((w.alloc (.cells #[.slice sa st.length scap] 69)).alloc (.cells #[.slice none 0 0] 73)).alloc (.cells #[.slice none 0 0] 73)).heap.size = w.heap.size + 3 := by simp
    have HS1 := hid' (HST.out w1 (by rw [hsz3] at hb1; exact hb1))
    have HB1 := hid' (HBW.out.trans (hb1.mono (by omega)))
    clear hrow hrx hb1 hsz3 HST HBW
    have hz1 := HS1.out.sz
    generalize splitL 59 (tx s) = d at *
    by_cases h40 : 40 < d.length
    · have HF := hid' (C2'.out h40)
      have hb4 : (40 : Int) < (d.length : Int) := by omega
      clear C2' C3'
      have hz2 : w.heap.size + 1 < w1.heap.size := by omega
      have k1 := HS1.out.c1; have k2 := HS1.out.f1
      go_wp2
      refine bodyPost_ret (v := .tuple #[.agg #[.slice none 0 0], .bool false]) (by simp [results, Tryz.results70, go_sem, *]) rfl ⟨none, 0, 0, by rw [HF.out]; rfl, ?_, fun t h => by rw [HF.out] at h; exact absurd h (by simp)⟩
      exact HB1.out.setCell (by simp) _
    · have HG := hid' (C3'.out h40)
      have hb4 : ¬ (40 : Int) < (d.length : Int) := by omega
      clear C2' C3'
      go_wp2
      go_loopw [8, 25] (fun lv i wr => ∃ (k : Nat) (t : List PkX) (last : Tx) (ua : Option Addr) (un uc : Nat), k ≤ d.length ∧ i = .int .i64 k ∧ lv = .string (bs last) ∧ Hid (PkSt w w1 wr (.slice sa st.length scap) (.slice ua un uc) t ∧ t.length = k ∧ (∀ p ∈ t, p.path.length ≤ 5000) ∧ last.length ≤ 5000 ∧ res = packsGo st t last (d.drop k))) (fun _ i _ => d.length - (intOf i).toNat)
      case atStart => exact ⟨0, [], [], none, 0, 0, Nat.zero_le _, rfl, rfl, HS1.out, rfl, by simp, by simp, HG.out⟩
      case round =>
        obtain ⟨k, t, last, ua, un, uc, hk, rfl, rfl, hall⟩ := hrel
        have HS := hid' hall.out.1
        have HTL := hid' hall.out.2.1
        have HTP := hid' hall.out.2.2.1
        have HLL := hid' hall.out.2.2.2.1
        have HGO := hid' hall.out.2.2.2.2
        clear hall
        have hzr := HS.out.sz
        have HBR := hid' (HB1.out.trans (HS.out.mv.to_below' (B := w.heap.size) (by omega) (by omega)))
        by_cases hlt : k < d.length
        · obtain ⟨g, o, cap', hv, hg, hc⟩ := (RowX.off HRX.out HS.out.mv.but (by rw [HS1.out.tg]; decide)).strs hlt
          simp at hv
          obtain ⟨rfl, rfl⟩ := hv
          have c0 := hc k hlt
          have hpl := HPS.out k hlt
          have HP := hid' (ppack_any (bs d[k]) (.slice sa st.length scap) st wr (HL.out.below HBR.out) hst (by rw [bs_size]; exact hpl))
          rw [tx_bs] at HP
          have q0 := HS.out.c0
          have hw0 : w.heap.size < wr.heap.size := by omega
          have P1 := hid' (pg_bad (st := st) (t := t) (last := last) hlt)
          have P2 := hid' (fun x => pg_low (st := st) (t := t) (last := last) hlt (x := x))
          have P3 := hid' (fun x => pg_fold (st := st) (t := t) (last := last) hlt (x := x))
          have P4 := hid' (fun x => pg_good (st := st) (t := t) (last := last) hlt (x := x))
          have PL := hid' (fun x => packP_path (st := st) (l := d[k]) (x := x))
          have hpl' := hid' hpl
          clear hc hpl
          generalize packP st d[k] = pr at *
          generalize bs d[k] = q at *
          go_wp2_with fail
          refine HP.out.mono ?_
          rintro e w2 ⟨x, rfl, hb2, ⟨⟨na, nn, nc, hxn⟩, hhit⟩, hent⟩
          obtain ⟨xp, xn, xv, xs, xd⟩ := x
          simp only at hxn
          subst hxn
          have hz2 := hb2.size
          have hba := hb2.alloc hz2 (.cells #[.string (bs xp), .string (bs xn), .int .i64 xv, .slice na nn nc] 113)
          have HSP := hid' (HS.out.below hb2)
          have HBP := hid' (HBR.out.trans (hb2.mono (by omega)))
          have HS2 := hid' (HS.out.below hba)
          have HB2 := hid' (HBR.out.trans (hba.mono (by omega)))
          have hba1 := (Below.refl w2.heap.size w2).alloc (Nat.le_refl _) (.cells #[.string (bs xp), .string (bs xn), .int .i64 xv, .slice na nn nc] 113)
          have HEN := hid' (fun p hp => (hent p hp).below hba1)
          have hw2 : w.heap.size + 1 < w2.heap.size := by omega
          have hw2b : w.heap.size + 2 < w2.heap.size := by omega
          clear hb2 hba hba1 hent
          rcases pr with _ | x0
          · have HF : Hid (res = none) := by unfold Hid; rw [HGO.out]; exact P1.out rfl
            clear hhit
            have k1 := HSP.out.c1; have k2 := HSP.out.f1
            go_wp2
            refine bodyPost_ret (v := .tuple #[.agg #[.slice none 0 0], .bool false]) (by simp [results, Tryz.results70, go_sem, *]) rfl ⟨none, 0, 0, by rw [HF.out]; rfl, ?_, fun t h => by rw [HF.out] at h; exact absurd h (by simp)⟩
            exact (HBP.out.setCell (by simp) _).alloc (by simp; omega) _
          · have hx := hhit x0 rfl
            subst hx
            clear hhit
            have HEX := hid' (HEN.out _ rfl)
            have hxl := PL.out _ rfl
            simp only at hxl
            rcases hls : less last xp with _ | _
            · have HF : Hid (res = none) := by unfold Hid; rw [HGO.out]; exact P2.out _ rfl hls
              rcases less_tri last xp with h1 | h1 | h1
              · rw [hls] at h1; exact absurd h1 (by simp)
              · have hq1 : Op.bytesLess (bs xp).toList (bs last).toList = false := by rw [tx_toList, tx_toList, tx_bs, tx_bs, h1]; exact less_irr xp
                have hq2 : ((bs xp).toList == (bs last).toList) = true := by rw [tx_toList, tx_toList, tx_bs, tx_bs, h1]; simp
                clear hls h1
                have k1 := HSP.out.c1; have k2 := HSP.out.f1
                go_wp2
                refine bodyPost_ret (v := .tuple #[.agg #[.slice none 0 0], .bool false]) (by simp [results, Tryz.results70, go_sem, *]) rfl ⟨none, 0, 0, by rw [HF.out]; rfl, ?_, fun t h => by rw [HF.out] at h; exact absurd h (by simp)⟩
                exact (HBP.out.setCell (by simp) _).alloc (by simp; omega) _
              · have hq1 : Op.bytesLess (bs xp).toList (bs last).toList = true := by rw [tx_toList, tx_toList, tx_bs, tx_bs]; exact h1
                clear hls h1
                have k1 := HSP.out.c1; have k2 := HSP.out.f1
                go_wp2
                refine bodyPost_ret (v := .tuple #[.agg #[.slice none 0 0], .bool false]) (by simp [results, Tryz.results70, go_sem, *]) rfl ⟨none, 0, 0, by rw [HF.out]; rfl, ?_, fun t h => by rw [HF.out] at h; exact absurd h (by simp)⟩
                exact (HBP.out.setCell (by simp) _).alloc (by simp; omega) _
            · have hq1 : Op.bytesLess (bs xp).toList (bs last).toList = false := by rw [tx_toList, tx_toList, tx_bs, tx_bs]; exact less_asymm hls
              have hq2 : ((bs xp).toList == (bs last).toList) = false := by rw [tx_toList, tx_toList, tx_bs, tx_bs]; exact beq_eq_false_iff_ne.2 fun e => less_ne hls e.symm
              have P3' := hid' (P3.out _ rfl hls)
              have P4' := hid' (P4.out _ rfl hls)
              clear hls P1 P2 P3 P4 PL HEN
              obtain ⟨ua', uc', hform⟩ := HS2.out.pk.1.form
              simp at hform
              obtain ⟨rfl, rfl, rfl⟩ := hform
              have htl := HTL.out
              have HFO := hid' (hasFolder_any (.slice ua t.length uc) t (bs xp) _ HS2.out.pk (by omega) (by rw [bs_size]; have := hpl'.out; omega))
              rw [tx_bs] at HFO
              have HWI := hid' (fun w h hx => withP_any (.slice ua t.length uc) t ⟨xp, xn, xv, .slice na nn nc, xd⟩ w h hx (by omega))
              have m2 := HSP.out.c2
              have hpb := hpl'.out
              have HTLL := hid' htl
              clear htl
              generalize hasFolderP t xp = bf at *
              go_wp2_with fail
              refine HFO.out.mono ?_
              rintro e w3 ⟨rfl, hb3⟩
              have HS3 := hid' (HS2.out.below hb3)
              have HB3 := hid' (HB2.out.trans (hb3.mono (by simp; omega)))
              have hz3 : w2.heap.size < w3.heap.size := by have := hb3.size; simp at this; omega
              have r0 := (bcell hb3).1 w2.heap.size 0 (by simp)
              have r1 := (bcell hb3).1 w2.heap.size 1 (by simp)
              have r2 := (bcell hb3).1 w2.heap.size 2 (by simp)
              have r3 := (bcell hb3).1 w2.heap.size 3 (by simp)
              simp at r0 r1 r2 r3
              have HEX3 := hid' (HEX.out.below hb3)
              have hw3 : w.heap.size + 1 < w3.heap.size := by omega
              have hw3b : w.heap.size + 2 < w3.heap.size := by omega
              clear hb3 m2
              cases bf
              · have HF : Hid (res = none) := by unfold Hid; rw [HGO.out]; exact P3'.out rfl
                have k1 := HS3.out.c1; have k2 := HS3.out.f1
                clear P3' P4'
                go_wp2
                refine bodyPost_ret (v := .tuple #[.agg #[.slice none 0 0], .bool false]) (by simp [results, Tryz.results70, go_sem, *]) rfl ⟨none, 0, 0, by rw [HF.out]; rfl, ?_, fun t h => by rw [HF.out] at h; exact absurd h (by simp)⟩
                exact HB3.out.setCell (by simp) _
              · have HGN : Hid (res = packsGo st (withP t ⟨xp, xn, xv, .slice na nn nc, xd⟩) xp (d.drop (k + 1))) := by unfold Hid; rw [HGO.out]; exact P4'.out rfl
                have m2 := HS3.out.c2
                clear P3' P4'
                go_wp2_with fail
                refine (HWI.out _ HS3.out.pk HEX3.out).mono ?_
                rintro e w4 ⟨v4, rfl, hin4, hb4⟩
                obtain ⟨va, vc, hv4⟩ := hin4.1.form
                subst hv4
                have hlen := withP_length t ⟨xp, xn, xv, .slice na nn nc, xd⟩
                have HS4 := hid' (HS3.out.below hb4)
                have s0 := ((bcell hb4).1 w2.heap.size 0 hz3).trans r0
                have hz4 : w2.heap.size < w4.heap.size := by have := hb4.size; omega
                have hw4b : w.heap.size + 2 < w4.heap.size := by omega
                have n2 := HS4.out.c2
                have n3 := HS4.out.f2
                have HNEW : Hid (PkSt w w1 (w4.setCell ⟨w.heap.size + 2, 0, none⟩ (.slice va (withP t ⟨xp, xn, xv, .slice na nn nc, xd⟩).length vc)) (.slice sa st.length scap) (.slice va (withP t ⟨xp, xn, xv, .slice na nn nc, xd⟩).length vc) (withP t ⟨xp, xn, xv, .slice na nn nc, xd⟩) ∧ (withP t ⟨xp, xn, xv, .slice na nn nc, xd⟩).length = k + 1 ∧ (∀ p ∈ withP t ⟨xp, xn, xv, .slice na nn nc, xd⟩, p.path.length ≤ 5000) ∧ xp.length ≤ 5000 ∧ res = packsGo st (withP t ⟨xp, xn, xv, .slice na nn nc, xd⟩) xp (d.drop (k + 1))) := by
                  refine ⟨HS4.out.set hin4, by rw [hlen, HTLL.out], fun p hp => ?_, by omega, HGN.out⟩
                  rcases (withP_in _ _ _).1 hp with rfl | hp
                  · simp only; omega
                  · exact HTP.out p hp
                have hne : w.heap.size + 2 ≠ w2.heap.size := by omega
                have hne2 : w2.heap.size ≠ w.heap.size + 2 := by omega
                clear hb4 hin4 hlen
                generalize hwl : (withP t ⟨xp, xn, xv, .slice na nn nc, xd⟩).length = wl at *
                have HWL := hid' hwl
                clear hwl
                go_wp2
                go_roundw
                case rel => exact ⟨k + 1, withP t ⟨xp, xn, xv, .slice na nn nc, xd⟩, xp, va, wl, vc, by omega, by go_num, rfl, HNEW.out.1, by rw [HWL.out]; exact HNEW.out.2.1, HNEW.out.2.2.1, HNEW.out.2.2.2.1, HNEW.out.2.2.2.2⟩
                case measure => simp [intOf] <;> omega
        · have HF : Hid (res = some t) := by unfold Hid; rw [HGO.out]; exact pg_done hlt
          have m1 := HS.out.c1; have m2 := HS.out.f1; have m3 := HS.out.c2
          have hw2 : w.heap.size + 1 < wr.heap.size := by omega
          have hw2b : w.heap.size + 2 < wr.heap.size := by omega
          have HPK := hid' (fun u => PksIn.off' HS.out.pk (But.set wr (w.heap.size + 1) 0 u) HS.out.tg1)
          go_wp2
          refine bodyPost_ret (v := .tuple #[.agg #[.slice ua un uc], .bool true]) (by simp [results, Tryz.results70, go_sem, *]) rfl ⟨ua, un, uc, by rw [HF.out]; rfl, ?_, fun t' h => ?_⟩
          · exact HBR.out.setCell (by simp) _
          · rw [HF.out] at h
            have h := Option.some.inj h
            subst h
            exact HPK.out _


end Hst
end Go.Proofs.YtecocheolbkneaaGreatDoor
namespace Go.Proofs.YtecocheolbkneaaGreatDoor
open Go.RowKit
namespace Hst
set_option maxRecDepth 100000

def parseK (st : List EntX) (l : Tx) : Int := if 4000 < l.length then 4 else if (packsP st l).isSome = true then 0 else 12
theorem pk4 {st : List EntX} {l : Tx} (h : 4000 < l.length) : parseK st l = 4 := by unfold parseK; rw [if_pos h]
theorem pk12 {st : List EntX} {l : Tx} (h : ¬ 4000 < l.length) (h' : packsP st l = none) : parseK st l = 12 := by unfold parseK; rw [if_neg h, h']; rfl
theorem pk0 {st : List EntX} {l : Tx} {t : List PkX} (h : ¬ 4000 < l.length) (h' : packsP st l = some t) : parseK st l = 0 := by unfold parseK; rw [if_neg h, h']; rfl
theorem packsGo_len {st : List EntX} : ∀ (d : List Tx) (t : List PkX) (last : Tx) (r : List PkX) (m : Nat), packsGo st t last d = some r → (∀ p ∈ t, p.path.length ≤ m) → (∀ x ∈ d, x.length ≤ m) → r.length = t.length + d.length ∧ ∀ p ∈ r, p.path.length ≤ m
  | [], t, last, r, m, h, ht, _ => by
    rw [packsGo] at h
    have h := Option.some.inj h
    subst h
    exact ⟨by simp, ht⟩
  | x :: d, t, last, r, m, h, ht, hd => by
    rw [packsGo] at h
    rcases e : packP st x with _ | y
    · rw [e] at h; exact absurd h (by simp)
    · rw [e] at h
      simp only at h
      split at h
      · exact absurd h (by simp)
      · split at h
        · exact absurd h (by simp)
        · have hy := packP_path e
          have hx := hd x (by simp)
          obtain ⟨h1, h2⟩ := packsGo_len d (withP t y) y.path r m h (fun p hp => by
            rcases (withP_in _ _ _).1 hp with rfl | hp
            · omega
            · exact ht p hp) fun z hz => hd z (List.mem_cons_of_mem _ hz)
          rw [withP_length] at h1
          exact ⟨by rw [h1, List.length_cons]; omega, h2⟩
theorem packsP_len {st : List EntX} {l : Tx} {t : List PkX} (h : packsP st l = some t) (hl : l.length ≤ 4000) : t.length ≤ 40 ∧ ∀ p ∈ t, p.path.length ≤ 4000 := by
  unfold packsP at h
  split at h
  · have h := Option.some.inj h
    subst h
    simp
  · split at h
    · exact absurd h (by simp)
    · rename_i h40
      obtain ⟨h1, h2⟩ := packsGo_len _ [] [] t 4000 h (by simp) fun x hx => by
        obtain ⟨j, hj, e⟩ := List.mem_iff_getElem.1 hx
        have := piece_size 59 (bs l) j (by rw [tx_bs]; exact hj)
        simp only [tx_bs, bs_size] at this
        rw [← e]
        omega
      exact ⟨by rw [h1]; simp; omega, h2⟩

set_option maxHeartbeats 4000000 in
theorem tparse_any (s : ByteArray) (v : Value) (st : List EntX) (w : World) (hl : EntsIn w v st) (hst : st.length ≤ 100000) :
    Calls Tryz.prog 36 #[.string s, .agg #[v]] w fun e w' => ∃ a n c, e = .returned (.tuple #[.agg #[.slice a n c], .int .i64 (parseK st (tx s))]) ∧ Below w.heap.size w w' ∧ ∀ t, parseK st (tx s) = 0 → packsP st (tx s) = some t → PksIn w' (.slice a n c) t := by
  obtain ⟨sa, scap, rfl⟩ := hl.1.form
  have hbw := ((Below.refl w.heap.size w).alloc (Nat.le_refl _) (.cells #[.slice sa st.length scap] 69)).alloc (by simp) (.cells #[.slice none 0 0] 73)
  have hsz : ((w.alloc (.cells #[.slice sa st.length scap] 69)).alloc (.cells #[.slice none 0 0] 73)).heap.size = w.heap.size + 2 := by simp
  have q0 : ((w.alloc (.cells #[.slice sa st.length scap] 69)).alloc (.cells #[.slice none 0 0] 73)).cell? ⟨w.heap.size, 0, none⟩ = some (.slice sa st.length scap) := by simp [go_sem]
  have q1 : ((w.alloc (.cells #[.slice sa st.length scap] 69)).alloc (.cells #[.slice none 0 0] 73)).cell? ⟨w.heap.size + 1, 0, none⟩ = some (.slice none 0 0) := by simp [go_sem]
  have q2 : ((w.alloc (.cells #[.slice sa st.length scap] 69)).alloc (.cells #[.slice none 0 0] 73)).frozen? ⟨w.heap.size + 1, 0, none⟩ = false := by simp [go_sem]
  have htg := tag_new (w.alloc (.cells #[.slice sa st.length scap] 69)) #[.slice none 0 0] 73
  simp at htg
  by_cases h4 : 4000 < s.size
  · have HF := hid' (pk4 (st := st) (l := tx s) (by rw [tx_length]; exact h4))
    have hb : (4000 : Int) < (s.size : Int) := by omega
    have HB := hid' hbw
    generalize parseK st (tx s) = kk at *
    clear hl hbw hsz q0 q1 q2 htg
    go_enter Tryz.func36, Tryz.ntmps36
    go_wp2
    refine bodyPost_ret (v := .tuple #[.agg #[.slice none 0 0], .int .i64 4]) (by simp [results, Tryz.results36, go_sem, *]) rfl ⟨none, 0, 0, by rw [HF.out], ?_, fun t h => by rw [HF.out] at h; exact absurd h (by decide)⟩
    first | exact HB.out.setCell (by simp) _ | exact HB.out
  · have h4' : ¬ 4000 < (tx s).length := by rw [tx_length]; exact h4
    have hb : ¬ (4000 : Int) < (s.size : Int) := by omega
    have HP := hid' (ppacks_any s (.slice sa st.length scap) st _ (hl.below hbw) hst (by omega))
    have K1 := hid' (pk12 (st := st) h4')
    have K2 := hid' (fun t => pk0 (st := st) (t := t) h4')
    have HBW := hid' hbw
    generalize parseK st (tx s) = kk at *
    generalize packsP st (tx s) = pr at *
    clear hl h4' hbw
    go_enter Tryz.func36, Tryz.ntmps36
    go_wp2_with fail
    refine HP.out.mono ?_
    rintro e w1 ⟨a, n, c, rfl, hb1, hpk⟩
    have hz1 := hb1.size
    have r1 := ((bcell hb1).1 (w.heap.size + 1) 0 (by omega)).trans q1
    have r2 := ((bcell hb1).2 (w.heap.size + 1) 0 (by omega)).trans q2
    have HT : Hid (tagOf w1 (w.heap.size + 1) = some 73) := by unfold Hid; rw [tagOf_below hb1 (by omega)]; exact htg
    have hw1 : w.heap.size + 1 < w1.heap.size := by omega
    have HB1 := hid' (HBW.out.trans (hb1.mono (by omega)))
    clear hb1 q0 q1 q2 htg hsz
    rcases pr with _ | t
    · have HF := hid' (K1.out rfl)
      clear hpk
      go_wp2
      refine bodyPost_ret (v := .tuple #[.agg #[.slice none 0 0], .int .i64 12]) (by simp [results, Tryz.results36, go_sem, *]) rfl ⟨none, 0, 0, by rw [HF.out], ?_, fun t h => by rw [HF.out] at h; exact absurd h (by decide)⟩
      exact (HB1.out.setCell (by simp) _).alloc (by simp; omega) _
    · have HF := hid' (K2.out t rfl)
      have HPK := hid' (fun u o => (PksIn.off' (hpk t rfl) (But.set w1 (w.heap.size + 1) 0 u) HT.out).below ((Below.refl _ _).alloc (Nat.le_refl _) o))
      clear hpk
      go_wp2
      refine bodyPost_ret (v := .tuple #[.agg #[.slice a n c], .int .i64 0]) (by simp [results, Tryz.results36, go_sem, *]) rfl ⟨a, n, c, by rw [HF.out], ?_, fun t' _ h => ?_⟩
      · exact (HB1.out.setCell (by simp) _).alloc (by simp; omega) _
      · have h := Option.some.inj h
        subst h
        exact HPK.out _ _

theorem ld_err {s : SiteX} {l : Tx} (h : ¬ parseK s.stock l = 0) : loadP s l = (s, parseK s.stock l) := by
  unfold parseK at h ⊢
  unfold loadP
  by_cases h4 : 4000 < l.length
  · rw [if_pos h4, if_pos h4]
  · rw [if_neg h4] at h
    rw [if_neg h4, if_neg h4]
    rcases e : packsP s.stock l with _ | t
    · rfl
    · rw [e] at h; exact absurd rfl h
theorem parse_zero {st : List EntX} {l : Tx} (h : parseK st l = 0) : ¬ 4000 < l.length ∧ ∃ t, packsP st l = some t := by
  unfold parseK at h
  by_cases h4 : 4000 < l.length
  · rw [if_pos h4] at h; exact absurd h (by decide)
  · rw [if_neg h4] at h
    refine ⟨h4, ?_⟩
    rcases e : packsP st l with _ | t
    · rw [e] at h; exact absurd h (by decide)
    · exact ⟨t, rfl⟩
theorem ld_sound {s : SiteX} {l : Tx} {t : List PkX} (h4 : ¬ 4000 < l.length) (ht : packsP s.stock l = some t) (hs : soundP t s.needs = false) : loadP s l = (s, 12) := by
  unfold loadP; rw [if_neg h4, ht]; simp only; rw [if_pos hs]
theorem ld_use {s : SiteX} {l : Tx} {t : List PkX} (h4 : ¬ 4000 < l.length) (ht : packsP s.stock l = some t) (hs : soundP t s.needs = true) (hu : decide ((inUseP t s.nv s.needs).length = t.length) = false) : loadP s l = (s, 12) := by
  unfold loadP; rw [if_neg h4, ht]; simp only; rw [if_neg (by rw [hs]; simp), if_neg (of_decide_eq_false hu)]
theorem ld_good {s : SiteX} {l : Tx} {t : List PkX} (h4 : ¬ 4000 < l.length) (ht : packsP s.stock l = some t) (hs : soundP t s.needs = true) (hu : decide ((inUseP t s.nv s.needs).length = t.length) = true) : loadP s l = (⟨s.stock, s.needs, s.nv, t⟩, 0) := by
  unfold loadP; rw [if_neg h4, ht]; simp only; rw [if_neg (by rw [hs]; simp), if_pos (of_decide_eq_true hu)]
/-- A site with another tree. -/
theorem SAt.setT {w : World} {b : Nat} {s : SiteX} (h : SAt w b s) {tv : Value} {t : List PkX} (ht : PksIn w tv t) : SAt (w.setCell ⟨b, 2, none⟩ tv) b ⟨s.stock, s.needs, s.nv, t⟩ := by
  obtain ⟨v0, e0, r0⟩ := h.stock
  obtain ⟨e1, r1⟩ := h.needs
  obtain ⟨v2, e2, r2⟩ := h.tree
  have hbut := But.set w b 2 tv
  have g0 : (w.setCell ⟨b, 2, none⟩ tv).cell? ⟨b, 0, none⟩ = some v0 := by simp [go_sem, *]
  have g1 : (w.setCell ⟨b, 2, none⟩ tv).cell? ⟨b, 1, none⟩ = some s.nv := by simp [go_sem, *]
  have g2 : (w.setCell ⟨b, 2, none⟩ tv).cell? ⟨b, 2, none⟩ = some tv := World.cell?_setCell_same' _ _ _ (by rw [e2]; rfl)
  exact ⟨by simpa using h.lt, by rw [tag_set]; exact h.tag, ⟨v0, g0, r0.off hbut h.tag (by decide) (by decide) (by decide)⟩, ⟨g1, r1.off hbut (odd_of h.tag (by decide) (by decide))⟩, ⟨tv, g2, ht.off hbut h.tag (by decide) (by decide) (by decide)⟩, by rw [World.frozen?_setCell]; exact h.f1, by rw [World.frozen?_setCell]; exact h.f2⟩

end Hst
end Go.Proofs.YtecocheolbkneaaGreatDoor
