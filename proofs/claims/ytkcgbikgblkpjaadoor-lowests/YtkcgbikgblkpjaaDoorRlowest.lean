/- hoistref.Lowest. -/
import Derived.Test.YtkcgbikgblkpjaaDoorPoints
import Derived.Test.YtkcgbikgblkpjaaDoorRfit
import Derived.Test.YtkcgbikgblkpjaaDoorDefsl
import Derived.Test.YtkcgbikgblkpjaaDoorWritten
import Derived.Test.YtkcgbikgblkpjaaDoorLeafb
namespace Go.Proofs.YtkcgbikgblkpjaaDoor
open Go.RowKit
namespace Hst

/-- Lowest of the document: its answer and its error. -/
def lowRef (r : Tx) : Tx × Int := if isRangeR r = false then ([], 1) else match lowV (fitR r) none (pointsR r) with
  | none => ([], 3)
  | some v => (verT v.a.toNat v.b.toNat v.c.toNat, 0)
theorem lowRef1 {r : Tx} (h : isRangeR r = false) : lowRef r = ([], 1) := by simp [lowRef, h]
theorem lowRef2 {r : Tx} (h : isRangeR r = true) (h' : lowV (fitR r) none (pointsR r) = none) : lowRef r = ([], 3) := by simp [lowRef, h, h']
theorem lowRef3 {r : Tx} {v : V3} (h : isRangeR r = true) (h' : lowV (fitR r) none (pointsR r) = some v) : lowRef r = (verT v.a.toNat v.b.toNat v.c.toNat, 0) := by simp [lowRef, h, h']

theorem ret_str_int2 {k : IntKind} {a b : ByteArray} {c d : Int} (h : a = b) (h' : c = d) : Ending.returned (.tuple #[.string a, .int k c]) = .returned (.tuple #[.string b, .int k d]) := by rw [h, h']

/-- Where the best one is so far. -/
def BestAt (P : List V3) (k : Nat) (b : Int) (o : Option V3) : Prop := (b = -1 ∧ o = none) ∨ ∃ j : Nat, ∃ hj : j < P.length, j < k ∧ b = j ∧ o = some P[j]

theorem lv_step (f : V3 → Bool) (P : List V3) (k : Nat) (o : Option V3) (hk : k < P.length) : lowV f o (P.drop k) = lowV f (if f P[k] = true ∧ lowB P[k] o = true then some P[k] else o) (P.drop (k + 1)) := by
  rw [List.drop_eq_getElem_cons hk]; simp only [lowV]
theorem lv_end (f : V3 → Bool) (P : List V3) (k : Nat) (o : Option V3) (hk : ¬ k < P.length) : lowV f o (P.drop k) = o := by
  rw [List.drop_of_length_le (by omega)]; rfl

attribute [local go_sem ↓] Go.wp_at_zero Go.wp_at_succ

set_option maxHeartbeats 2000000 in
theorem rlowf_any (r : ByteArray) (w : World) :
    Calls Tryd.prog 7 #[.string r] w fun e w' => e = .returned (.tuple #[.string (bs (lowRef (tx r)).1), .int .i64 (lowRef (tx r)).2]) ∧ Below w.heap.size w w' := by
  have HR := hid (fun w => isRange_any r w)
  rcases hr : isRangeR (tx r) with _ | _
  · rw [lowRef1 hr]
    rw [hr] at HR
    clear hr
    go_enter Tryd.func7, Tryd.ntmps7
    go_wp2_with fail
    refine (HR.out _).mono ?_
    rintro e w1 ⟨rfl, hb1⟩
    go_wp2
    go_ret2
    exact ⟨rfl, hb1⟩
  · have h60 : r.size ≤ 60 := by
      by_cases h : r.size ≤ 60
      · exact h
      · rw [isRangeR_long r h] at hr; simp at hr
    have H2 := hid (fun h' => lowRef2 hr h')
    have H3 := hid (fun v h' => lowRef3 (v := v) hr h')
    rw [hr] at HR
    clear hr
    have HPR := hid (fun w => points_any r w h60)
    have hnr : pointsR (tx r) ≠ [] := by simp [pointsR]
    have HVAL := hid (fun p (hp : p ∈ pointsR (tx r)) => pointsR_valid hp)
    generalize pointsR (tx r) = P at *
    go_enter Tryd.func7, Tryd.ntmps7
    go_wp2_with fail
    refine (HR.out _).mono ?_
    rintro e w1 ⟨rfl, hb1⟩
    go_wp2_with fail
    refine (HPR.out _).mono ?_
    rintro e w2 ⟨vp, rfl, hvp, hlp, hb2⟩
    obtain ⟨g, cap, rfl, hg1, hg2, hcell⟩ := hvp.form hnr
    have HC := hid hcell
    have HB2 := hid (hb1.trans (hb2.mono hb1.size))
    clear hb1 hb2 hcell hvp
    go_wp2
    go_loopw [6, 7] (fun bst i wr => ∃ (k : Nat) (b : Int) (o : Option V3), k ≤ P.length ∧ bst = .int .i64 b ∧ i = .int .i64 k ∧ Below w2.heap.size w2 wr ∧ BestAt P k b o ∧ Hid (lowV (fitR (tx r)) none P = lowV (fitR (tx r)) o (P.drop k))) (fun _ i _ => P.length - (intOf i).toNat)
    case atStart => exact ⟨0, -1, none, by omega, rfl, rfl, Below.refl _ _, .inl ⟨rfl, rfl⟩, rfl⟩
    case round =>
      obtain ⟨k, b, o, hk, rfl, rfl, hbel, hbest, hall⟩ := hrel
      have hz := hbel.size
      have HBw := hid (HB2.out.trans (hbel.mono HB2.out.size))
      by_cases hlt : k < P.length
      · obtain ⟨c0, c1, c2⟩ := HC.out k hlt
        have d0 := (hbel.cell (p := ⟨g, k * 3, none⟩) hg2).trans c0
        have d1 := (hbel.cell (p := ⟨g, k * 3 + 1, none⟩) hg2).trans c1
        have d2 := (hbel.cell (p := ⟨g, k * 3 + 2, none⟩) hg2).trans c2
        have HF1 := hid (fun w => fit_any r P[k].a P[k].b P[k].c w h60)
        have HST := hid (lv_step (fitR (tx r)) P k o hlt)
        have hPk : Hid (∃ hj : k < P.length, (⟨P[k].a, P[k].b, P[k].c⟩ : V3) = P[k]) := ⟨hlt, rfl⟩
        generalize hv : P[k] = v at *
        obtain ⟨xa, xb, xc⟩ := v
        have HPV := hid hv
        simp only at d0 d1 d2 HF1
        generalize fitR (tx r) ⟨xa, xb, xc⟩ = f1 at *
        have hg6 : g < wr.heap.size := by omega
        clear c0 c1 c2 hv hPk
        go_wp2_with fail
        refine (HF1.out _).mono ?_
        rintro e w6 ⟨rfl, hb6⟩
        have hz6 := hb6.size
        have e0 := (hb6.cell (p := ⟨g, k * 3, none⟩) hg6).trans d0
        have e1 := (hb6.cell (p := ⟨g, k * 3 + 1, none⟩) hg6).trans d1
        have e2 := (hb6.cell (p := ⟨g, k * 3 + 2, none⟩) hg6).trans d2
        have HB6 := hid (hbel.trans (hb6.mono hz))
        have hg7 : g < w6.heap.size := by omega
        clear d0 d1 d2 hb6
        cases f1
        · have HF : Hid (lowV (fitR (tx r)) none P = lowV (fitR (tx r)) o (P.drop (k + 1))) := by unfold Hid; rw [hall.out, HST.out]; simp
          have HBE : BestAt P (k + 1) b o := by
            rcases hbest with h | ⟨j, hj, h1, h2⟩
            · exact .inl h
            · exact .inr ⟨j, hj, by omega, h2⟩
          clear HST hall
          go_wp2
          go_region
          all_goals
            go_wp2
            go_roundw
            case rel => exact ⟨k + 1, b, o, by omega, rfl, by go_num, HB6.out.drew, HBE, HF⟩
            case measure => simp [intOf]; omega
        · rcases hbest with ⟨rfl, rfl⟩ | ⟨j, hj, hjk, rfl, rfl⟩
          · have HF : Hid (lowV (fitR (tx r)) none P = lowV (fitR (tx r)) (some ⟨xa, xb, xc⟩) (P.drop (k + 1))) := by unfold Hid; rw [hall.out, HST.out]; simp [lowB]
            have HBE : BestAt P (k + 1) k (some ⟨xa, xb, xc⟩) := .inr ⟨k, hlt, by omega, rfl, by rw [HPV.out]⟩
            clear HST hall
            go_wp2
            go_region
            all_goals
              go_wp2
              go_roundw
              case rel => exact ⟨k + 1, k, some ⟨xa, xb, xc⟩, by omega, rfl, by go_num, HB6.out.drew, HBE, HF⟩
              case measure => simp [intOf]; omega
          · obtain ⟨c0, c1, c2⟩ := HC.out j hj
            have b0 := (HB6.out.cell (p := ⟨g, j * 3, none⟩) hg2).trans c0
            have b1 := (HB6.out.cell (p := ⟨g, j * 3 + 1, none⟩) hg2).trans c1
            have b2 := (HB6.out.cell (p := ⟨g, j * 3 + 2, none⟩) hg2).trans c2
            have HBE0 : BestAt P (k + 1) j (some P[j]) := .inr ⟨j, hj, by omega, rfl, rfl⟩
            have HBE1 : BestAt P (k + 1) k (some ⟨xa, xb, xc⟩) := .inr ⟨k, hlt, by omega, rfl, by rw [HPV.out]⟩
            have HLB : Hid (lowB ⟨xa, xb, xc⟩ (some P[j]) = belowB xa xb xc P[j].a P[j].b P[j].c) := rfl
            generalize P[j] = u at *
            obtain ⟨ya, yb, yc⟩ := u
            simp only at b0 b1 b2
            have HBL := hid (fun w => below_any xa xb xc ya yb yc w)
            have HF : Hid (∀ lw, belowB xa xb xc ya yb yc = lw → lowV (fitR (tx r)) none P = lowV (fitR (tx r)) (if lw = true then some ⟨xa, xb, xc⟩ else some ⟨ya, yb, yc⟩) (P.drop (k + 1))) := by
              intro lw h
              rw [hall.out, HST.out, HLB.out]
              simp only at h ⊢
              rw [h]; simp
            have HF' := HF.out _ rfl
            generalize belowB xa xb xc ya yb yc = lw at *
            have HFF := hid HF'
            have hj0 : (0 : Int) ≤ (j : Int) := by omega
            have hj1 : (j : Int) < (P.length : Int) := by omega
            have hk1 : (k : Int) < (P.length : Int) := by omega
            clear HST hall HF HF' HLB c0 c1 c2
            cases lw
            · have HG : Hid (lowV (fitR (tx r)) none P = lowV (fitR (tx r)) (some ⟨ya, yb, yc⟩) (P.drop (k + 1))) := by unfold Hid; simpa using HFF.out
              clear HFF
              go_wp2
              go_region_held3 (fun w' => w'.cell? ⟨g, k * 3, none⟩ = some (.int .i64 xa) ∧ w'.cell? ⟨g, k * 3 + 1, none⟩ = some (.int .i64 xb) ∧ w'.cell? ⟨g, k * 3 + 2, none⟩ = some (.int .i64 xc) ∧ w'.cell? ⟨g, j * 3, none⟩ = some (.int .i64 ya) ∧ w'.cell? ⟨g, j * 3 + 1, none⟩ = some (.int .i64 yb) ∧ w'.cell? ⟨g, j * 3 + 2, none⟩ = some (.int .i64 yc)) (go_keep)
                (first | (go_at_call 20; refine (HBL.out _).mono ?_; rintro e w7 ⟨rfl, hb7⟩; have hz7 := (bcell hb7).1; simp at hz7))
              have HB7 := hid (HB6.out.drew.trans (hb7.mono (by simp; omega)))
              clear hb7
              go_wp2
              go_roundw
              case rel => exact ⟨k + 1, j, some ⟨ya, yb, yc⟩, by omega, rfl, by go_num, HB7.out, HBE0, HG⟩
              case measure => simp [intOf]; omega
            · have HG : Hid (lowV (fitR (tx r)) none P = lowV (fitR (tx r)) (some ⟨xa, xb, xc⟩) (P.drop (k + 1))) := by unfold Hid; simpa using HFF.out
              clear HFF
              go_wp2
              go_region_held3 (fun w' => w'.cell? ⟨g, k * 3, none⟩ = some (.int .i64 xa) ∧ w'.cell? ⟨g, k * 3 + 1, none⟩ = some (.int .i64 xb) ∧ w'.cell? ⟨g, k * 3 + 2, none⟩ = some (.int .i64 xc) ∧ w'.cell? ⟨g, j * 3, none⟩ = some (.int .i64 ya) ∧ w'.cell? ⟨g, j * 3 + 1, none⟩ = some (.int .i64 yb) ∧ w'.cell? ⟨g, j * 3 + 2, none⟩ = some (.int .i64 yc)) (go_keep)
                (first | (go_at_call 20; refine (HBL.out _).mono ?_; rintro e w7 ⟨rfl, hb7⟩; have hz7 := (bcell hb7).1; simp at hz7))
              have HB7 := hid (HB6.out.drew.trans (hb7.mono (by simp; omega)))
              clear hb7
              go_wp2
              go_roundw
              case rel => exact ⟨k + 1, k, some ⟨xa, xb, xc⟩, by omega, rfl, by go_num, HB7.out, HBE1, HG⟩
              case measure => simp [intOf]; omega
      · have HF : Hid (lowV (fitR (tx r)) none P = o) := by unfold Hid; rw [hall.out, lv_end _ P k o hlt]
        rcases hbest with ⟨rfl, rfl⟩ | ⟨j, hj, hjk, rfl, rfl⟩
        · have HE := hid (H2.out HF.out)
          go_wp2
          go_ret2
          exact ⟨ret_str_int2 (by rw [HE.out]; rfl) (by rw [HE.out]), HBw.out⟩
        · have HE := hid (H3.out _ HF.out)
          have hval := HVAL.out P[j] (List.getElem_mem hj)
          obtain ⟨c0, c1, c2⟩ := HC.out j hj
          have b0 := (hbel.cell (p := ⟨g, j * 3, none⟩) hg2).trans c0
          have b1 := (hbel.cell (p := ⟨g, j * 3 + 1, none⟩) hg2).trans c1
          have b2 := (hbel.cell (p := ⟨g, j * 3 + 2, none⟩) hg2).trans c2
          clear HF hall c0 c1 c2
          generalize P[j] = u at *
          obtain ⟨ya, yb, yc⟩ := u
          obtain ⟨v1, v2, v3, v4, v5, v6⟩ := hval
          simp only at b0 b1 b2 v1 v2 v3 v4 v5 v6
          have HW := hid (fun w => written_any ya yb yc w v1 v2 v3 v4 v5 v6)
          go_wp2_with fail
          refine (HW.out _).mono ?_
          rintro e w7 ⟨rfl, hb7⟩
          have HB7 := hid (HBw.out.trans (hb7.mono HBw.out.size))
          clear hb7
          go_wp2
          go_ret2
          exact ⟨ret_str_int2 (by rw [HE.out]) (by rw [HE.out]), HB7.out⟩

end Hst
end Go.Proofs.YtkcgbikgblkpjaaDoor
