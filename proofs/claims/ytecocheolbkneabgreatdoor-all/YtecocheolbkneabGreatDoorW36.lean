/- Defsl, Lowest, Rlowest, Lowestsw, Ranges, Allw, All -/
import Derived.Test.YtecocheolbkneabGreatDoorW35
import Derived.Test.YtecocheolbkneabGreatDoorW03
import Derived.Test.YtecocheolbkneabGreatDoorW19
import Derived.Test.YtecocheolbkneabGreatDoorW26
import Derived.Test.YtecocheolbkneabGreatDoorW02
import Derived.Test.YtecocheolbkneabGreatDoorW34
import Derived.Test.YtecocheolbkneabGreatDoorTie
import Derived.Test.YtecocheolbkneabGreatDoorCards
import Derived.LaidMore
import Derived.Stop.Joined
import Derived.SevenTiedAt
namespace Go.Proofs.YtecocheolbkneabGreatDoor
namespace Hst

def lowGo (lo : Int) (found : Bool) : List (Int × Int) → Int × Bool
  | [] => (lo, found)
  | s :: r => if s.2 < s.1 then lowGo lo found r else if found = false ∨ s.1 < lo then lowGo s.1 true r else lowGo lo true r
def lowB (v : V3) : Option V3 → Bool
  | none => true
  | some u => belowB v.a v.b v.c u.a u.b u.c
def lowV (f : V3 → Bool) (o : Option V3) : List V3 → Option V3
  | [] => o
  | v :: r => lowV f (if f v = true ∧ lowB v o = true then some v else o) r

theorem lowGo_spec : ∀ (sp : List (Int × Int)) (lo : Int) (found : Bool),
    ((lowGo lo found sp).2 = true → ((lowGo lo found sp).1 = lo ∧ found = true) ∨ ∃ s ∈ sp, s.1 ≤ s.2 ∧ (lowGo lo found sp).1 = s.1) ∧
    ((lowGo lo found sp).2 = false → found = false ∧ ∀ s ∈ sp, s.2 < s.1) ∧ (found = true → (lowGo lo found sp).1 ≤ lo) ∧ (∀ s ∈ sp, s.1 ≤ s.2 → (lowGo lo found sp).1 ≤ s.1)
  | [], lo, found => by simp [lowGo]
  | s :: r, lo, found => by
    simp only [lowGo]
    by_cases h1 : s.2 < s.1
    · rw [if_pos h1]
      obtain ⟨i1, i2, i3, i4⟩ := lowGo_spec r lo found
      refine ⟨fun h => ?_, fun h => ?_, i3, fun t ht hle => ?_⟩
      · rcases i1 h with e | ⟨t, ht, e⟩
        · exact .inl e
        · exact .inr ⟨t, by simp [ht], e⟩
      · refine ⟨(i2 h).1, fun t ht => ?_⟩
        simp at ht
        rcases ht with rfl | ht
        · exact h1
        · exact (i2 h).2 t ht
      · simp at ht
        rcases ht with rfl | ht
        · omega
        · exact i4 t ht hle
    · rw [if_neg h1]
      by_cases h2 : found = false ∨ s.1 < lo
      · rw [if_pos h2]
        obtain ⟨i1, i2, i3, i4⟩ := lowGo_spec r s.1 true
        have i3' := i3 rfl
        refine ⟨fun h => ?_, fun h => ?_, fun h => ?_, fun t ht hle => ?_⟩
        · rcases i1 h with e | ⟨t, ht, e⟩
          · exact .inr ⟨s, by simp, by omega, e.1⟩
          · exact .inr ⟨t, by simp [ht], e⟩
        · have := (i2 h).1; simp at this
        · rcases h2 with h2 | h2
          · rw [h2] at h; simp at h
          · omega
        · simp at ht
          rcases ht with rfl | ht
          · exact i3'
          · exact i4 t ht hle
      · rw [if_neg h2]
        simp only [not_or] at h2
        have hf : found = true := by simpa using h2.1
        obtain ⟨i1, i2, i3, i4⟩ := lowGo_spec r lo true
        have i3' := i3 rfl
        refine ⟨fun h => ?_, fun h => ?_, fun _ => i3', fun t ht hle => ?_⟩
        · rcases i1 h with e | ⟨t, ht, e⟩
          · exact .inl ⟨e.1, hf⟩
          · exact .inr ⟨t, by simp [ht], e⟩
        · have := (i2 h).1; simp at this
        · simp at ht
          rcases ht with rfl | ht
          · omega
          · exact i4 t ht hle

theorem lowV_none (f : V3 → Bool) : ∀ (l : List V3) (o : Option V3), lowV f o l = none → o = none ∧ ∀ v ∈ l, f v = false
  | [], o, h => by simp [lowV] at h; exact ⟨h, by simp⟩
  | v :: r, o, h => by
    simp only [lowV] at h
    by_cases hc : f v = true ∧ lowB v o = true
    · rw [if_pos hc] at h
      have := (lowV_none f r _ h).1
      simp at this
    · rw [if_neg hc] at h
      obtain ⟨rfl, ih⟩ := lowV_none f r _ h
      refine ⟨rfl, fun u hu => ?_⟩
      simp at hu
      rcases hu with rfl | hu
      · simpa [lowB] using hc
      · exact ih u hu
theorem lowV_some (f : V3 → Bool) : ∀ (l : List V3) (o : Option V3) (w : V3), (∀ v ∈ l, Valid v) → (∀ u, o = some u → Valid u) → lowV f o l = some w →
    (o = some w ∨ (w ∈ l ∧ f w = true)) ∧ (∀ u, o = some u → place w ≤ place u) ∧ (∀ v ∈ l, f v = true → place w ≤ place v)
  | [], o, w, _, _, h => by
    simp [lowV] at h
    subst h
    exact ⟨.inl rfl, fun u hu => by simp at hu; subst hu; exact Int.le_refl _, by simp⟩
  | v :: r, o, w, hl, ho, h => by
    simp only [lowV] at h
    have hv := hl v (by simp)
    by_cases hc : f v = true ∧ lowB v o = true
    · rw [if_pos hc] at h
      obtain ⟨i1, i2, i3⟩ := lowV_some f r (some v) w (fun u hu => hl u (by simp [hu])) (fun u hu => by simp at hu; subst hu; exact hv) h
      have i2' := i2 v rfl
      refine ⟨?_, fun u hu => ?_, fun u hu hfu => ?_⟩
      · rcases i1 with e | ⟨e1, e2⟩
        · simp at e; subst e; exact .inr ⟨by simp, hc.1⟩
        · exact .inr ⟨by simp [e1], e2⟩
      · subst hu
        have hb := hc.2
        simp only [lowB, below_place hv (ho u rfl), decide_eq_true_eq] at hb
        omega
      · simp at hu
        rcases hu with rfl | hu
        · exact i2'
        · exact i3 u hu hfu
    · rw [if_neg hc] at h
      obtain ⟨i1, i2, i3⟩ := lowV_some f r o w (fun u hu => hl u (by simp [hu])) ho h
      refine ⟨?_, i2, fun u hu hfu => ?_⟩
      · rcases i1 with e | ⟨e1, e2⟩
        · exact .inl e
        · exact .inr ⟨by simp [e1], e2⟩
      · simp at hu
        rcases hu with rfl | hu
        · match o, ho, i2, hc with
          | none, _, _, hc => exact absurd ⟨hfu, rfl⟩ hc
          | some x, ho, i2, hc =>
            have hx := ho x rfl
            have := i2 x rfl
            simp only [lowB, below_place hv hx, hfu, true_and, decide_eq_true_eq] at hc
            omega
        · exact i3 u hu hfu

/-- The law of the lowest version. -/
theorem low_law {r : Tx} {sp : List (Int × Int)} (h1 : rangeP r = some sp) (f1 : ∀ v, Valid v → fitR r v = fitsP sp (place v)) :
    ((lowGo 0 false sp).2 = false ∧ lowV (fitR r) none (pointsR r) = none) ∨
    ((lowGo 0 false sp).2 = true ∧ ∃ v, lowV (fitR r) none (pointsR r) = some v ∧ Valid v ∧ place v = (lowGo 0 false sp).1 ∧ fitsP sp (lowGo 0 false sp).1 = true ∧ ∀ p, fitsP sp p = true → (lowGo 0 false sp).1 ≤ p) := by
  obtain ⟨i1, i2, _, i4⟩ := lowGo_spec sp 0 false
  rcases hf : (lowGo 0 false sp).2 with _ | _
  · refine .inl ⟨rfl, ?_⟩
    rcases hl : lowV (fitR r) none (pointsR r) with _ | v
    · rfl
    · exfalso
      obtain ⟨j1, _, _⟩ := lowV_some _ _ _ v (fun u hu => pointsR_valid hu) (by simp) hl
      rcases j1 with e | ⟨e1, e2⟩
      · simp at e
      · rw [f1 v (pointsR_valid e1)] at e2
        obtain ⟨s, hs, a, b⟩ := of_fitsP e2
        have := (i2 hf).2 s hs
        omega
  · refine .inr ⟨rfl, ?_⟩
    rcases i1 hf with e | ⟨s, hs, hle, e⟩
    · simp at e
    · have hlow := rangeP_low h1 hs
      obtain ⟨p, hp, hpe⟩ := hlow.2 (by omega)
      have hpv := pointsR_valid hp
      have hpf : fitR r p = true := by rw [f1 p hpv]; exact fitsP_of hs (by omega) (by omega)
      have hmin : ∀ q, fitsP sp q = true → (lowGo 0 false sp).1 ≤ q := by
        intro q hq
        obtain ⟨t, ht, a, b⟩ := of_fitsP hq
        have := i4 t ht (by omega)
        omega
      rcases hl : lowV (fitR r) none (pointsR r) with _ | v
      · have := (lowV_none _ _ _ hl).2 p hp
        rw [hpf] at this
        simp at this
      · obtain ⟨j1, _, j3⟩ := lowV_some _ _ _ v (fun u hu => pointsR_valid hu) (by simp) hl
        rcases j1 with e' | ⟨e1, e2⟩
        · simp at e'
        · have hv := pointsR_valid e1
          have k1 := j3 p hp hpf
          rw [f1 v hv] at e2
          have k2 := hmin _ e2
          exact ⟨v, rfl, hv, by omega, by rw [e]; exact fitsP_of hs (Int.le_refl _) hle, hmin⟩

end Hst
end Go.Proofs.YtecocheolbkneabGreatDoor
namespace Go.Proofs.YtecocheolbkneabGreatDoor
open Go.RowKit
namespace Hst
set_option maxRecDepth 100000

theorem lg_empty (sp : List (Int × Int)) (k : Nat) (lo : Int) (fd : Bool) (hk : k < sp.length) (h : sp[k].2 < sp[k].1) : lowGo lo fd (sp.drop k) = lowGo lo fd (sp.drop (k + 1)) := by
  rw [List.drop_eq_getElem_cons hk]; simp only [lowGo, if_pos h]
theorem lg_take (sp : List (Int × Int)) (k : Nat) (lo : Int) (fd : Bool) (hk : k < sp.length) (h : ¬ sp[k].2 < sp[k].1) (h2 : fd = false ∨ sp[k].1 < lo) : lowGo lo fd (sp.drop k) = lowGo sp[k].1 true (sp.drop (k + 1)) := by
  rw [List.drop_eq_getElem_cons hk]; simp only [lowGo, if_neg h, if_pos h2]
theorem lg_keep (sp : List (Int × Int)) (k : Nat) (lo : Int) (fd : Bool) (hk : k < sp.length) (h : ¬ sp[k].2 < sp[k].1) (h2 : ¬ (fd = false ∨ sp[k].1 < lo)) : lowGo lo fd (sp.drop k) = lowGo lo true (sp.drop (k + 1)) := by
  rw [List.drop_eq_getElem_cons hk]; simp only [lowGo, if_neg h, if_neg h2]
theorem lg_end (sp : List (Int × Int)) (k : Nat) (lo : Int) (fd : Bool) (hk : ¬ k < sp.length) : lowGo lo fd (sp.drop k) = (lo, fd) := by
  rw [List.drop_of_length_le (by omega)]; rfl

set_option maxHeartbeats 2000000 in
theorem rlow_any (v : Value) (sp : List (Int × Int)) (base : Nat) (w : World) (hrow : SpanRow w base v sp) (hne : sp ≠ []) (hl : sp.length ≤ 1000) :
    Calls Tryz.prog 84 #[.agg #[v]] w fun e w' => e = .returned (.tuple #[.int .i64 (lowGo 0 false sp).1, .bool (lowGo 0 false sp).2]) ∧ Below w.heap.size w w' := by
  obtain ⟨g, cap, rfl, hg1, hg2, hcell⟩ := hrow.form hne
  have HC := hid hcell
  clear hcell hrow
  go_enter Tryz.func84, Tryz.ntmps84
  go_wp2
  go_loopw [4, 5, 11] (fun l f i wr => ∃ (k : Nat) (lo : Int) (fd : Bool), k ≤ sp.length ∧ l = .int .i64 lo ∧ f = .bool fd ∧ i = .int .i64 k ∧ Below w.heap.size w wr ∧ Hid (lowGo 0 false sp = lowGo lo fd (sp.drop k))) (fun _ _ i _ => sp.length - (intOf i).toNat)
  case atStart => exact ⟨0, 0, false, by omega, rfl, rfl, rfl, (Below.refl _ _).alloc (Nat.le_refl _) _, rfl⟩
  case round =>
    obtain ⟨k, lo, fd, hk, rfl, rfl, rfl, hbel, hall⟩ := hrel
    have hz := hbel.size
    by_cases hlt : k < sp.length
    · obtain ⟨c0, c1⟩ := HC.out k hlt
      have hc0 := (hbel.cell (p := ⟨g, k * 2, none⟩) hg2).trans c0
      have hc1 := (hbel.cell (p := ⟨g, k * 2 + 1, none⟩) hg2).trans c1
      have HE := hid (lg_empty sp k lo fd hlt)
      have HT := hid (lg_take sp k lo fd hlt)
      have HK := hid (lg_keep sp k lo fd hlt)
      clear c0 c1
      generalize sp[k].1 = x at *
      generalize sp[k].2 = y at *
      go_wp2_with fail
      refine (isEmpty_any _ _ _).mono ?_
      rintro e w3 ⟨rfl, hb3⟩
      have hz3 := hb3.size
      simp at hz3
      have d0 := (bcell hb3).1 wr.heap.size 0 (by simp)
      simp at d0
      have HB := hid ((hbel.alloc hz _).trans (hb3.mono (by simp; omega)))
      clear hb3 hc0 hc1
      by_cases hem : y < x
      · have hd : decide (y < x) = true := by simp [hem]
        have HF : Hid (lowGo 0 false sp = lowGo lo fd (sp.drop (k + 1))) := by unfold Hid; rw [hall.out, HE.out hem]
        go_wp2
        go_roundw
        case rel => exact ⟨k + 1, lo, fd, by omega, rfl, rfl, by go_num, HB.out, HF⟩
        case measure => simp [intOf]; omega
      · have hd : decide (y < x) = false := by simp [hem]
        cases fd
        · have HF : Hid (lowGo 0 false sp = lowGo x true (sp.drop (k + 1))) := by unfold Hid; rw [hall.out, HT.out (by omega) (.inl rfl)]
          clear HE HT HK hall
          go_wp2
          go_roundw
          case rel => exact ⟨k + 1, x, true, by omega, rfl, rfl, by go_num, HB.out, HF⟩
          case measure => simp [intOf]; omega
        · by_cases hxl : x < lo
          · have HF : Hid (lowGo 0 false sp = lowGo x true (sp.drop (k + 1))) := by unfold Hid; rw [hall.out, HT.out (by omega) (.inr hxl)]
            clear HE HT HK hall
            go_wp2
            go_roundw
            case rel => exact ⟨k + 1, x, true, by omega, rfl, rfl, by go_num, HB.out, HF⟩
            case measure => simp [intOf]; omega
          · have HF : Hid (lowGo 0 false sp = lowGo lo true (sp.drop (k + 1))) := by unfold Hid; rw [hall.out, HK.out (by omega) (by simp; omega)]
            clear HE HT HK hall
            go_wp2
            go_roundw
            case rel => exact ⟨k + 1, lo, true, by omega, rfl, rfl, by go_num, HB.out, HF⟩
            case measure => simp [intOf]; omega
    · have HF : Hid (lowGo 0 false sp = (lo, fd)) := by unfold Hid; rw [hall.out, lg_end sp k lo fd hlt]
      go_wp2
      go_ret2
      exact ⟨ret_int_bool (by rw [HF.out]) (by rw [HF.out]), hbel⟩

/-- A version at a place, written. -/
def placeT (n : Int) : Tx := verT (n / 10000).toNat (n / 100 % 100).toNat (n % 100).toNat
/-- Lowest of the program: its answer and its error. -/
def lowProg (r : Tx) : Tx × Int := match rangeP r with
  | none => ([], 1)
  | some sp => if (lowGo 0 false sp).2 = true then (placeT (lowGo 0 false sp).1, 0) else ([], 3)
theorem lowProg1 {r : Tx} (h : rangeP r = none) : lowProg r = ([], 1) := by simp [lowProg, h]
theorem lowProg2 {r : Tx} {sp : List (Int × Int)} (h : rangeP r = some sp) (h' : (lowGo 0 false sp).2 = false) : lowProg r = ([], 3) := by simp [lowProg, h, h']
theorem lowProg3 {r : Tx} {sp : List (Int × Int)} (h : rangeP r = some sp) (h' : (lowGo 0 false sp).2 = true) : lowProg r = (placeT (lowGo 0 false sp).1, 0) := by simp [lowProg, h, h']
theorem low_bd {r : Tx} {sp : List (Int × Int)} (h : rangeP r = some sp) (h' : (lowGo 0 false sp).2 = true) : 0 ≤ (lowGo 0 false sp).1 ∧ (lowGo 0 false sp).1 ≤ 999999 := by
  obtain ⟨i1, _, _, _⟩ := lowGo_spec sp 0 false
  rcases i1 h' with e | ⟨s, hs, hle, e⟩
  · simp at e
  · have hlow := rangeP_low h hs
    obtain ⟨p, hp, hpe⟩ := hlow.2 (by omega)
    have := place_bd (pointsR_valid hp)
    omega
theorem ret_str_int {k : IntKind} {a b : ByteArray} {c d : Int} (h : a = b) (h' : c = d) : Ending.returned (.tuple #[.string a, .int k c]) = .returned (.tuple #[.string b, .int k d]) := by rw [h, h']

set_option maxHeartbeats 1000000 in
theorem plow_any (r : ByteArray) (w : World) :
    Calls Tryz.prog 40 #[.string r] w fun e w' => e = .returned (.tuple #[.string (bs (lowProg (tx r)).1), .int .i64 (lowProg (tx r)).2]) ∧ Below w.heap.size w w' := by
  have HR := hid (fun w => rparse_any r w)
  rcases hr : rangeP (tx r) with _ | sp
  · rw [lowProg1 hr]
    rw [hr] at HR
    clear hr
    go_enter Tryz.func40, Tryz.ntmps40
    go_wp2_with fail
    refine (HR.out _).mono ?_
    rintro e w1 ⟨xa, xn, xc, rfl, hb1, hsp⟩
    simp only [rok, Option.isSome_none]
    have hz1 := hb1.size
    clear hsp
    go_wp2
    go_ret2
    exact ⟨rfl, hb1.alloc hz1 _⟩
  · have hlen := rangeP_len hr
    have hne : sp ≠ [] := List.length_pos_iff.1 hlen.1
    rw [hr] at HR
    rcases hf : (lowGo 0 false sp).2 with _ | _
    · rw [lowProg2 hr hf]
      have HLO := hid (fun v base w hrow => rlow_any v sp base w hrow hne (by omega))
      rw [hf] at HLO
      generalize (lowGo 0 false sp).1 = lo at *
      clear hr hf
      go_enter Tryz.func40, Tryz.ntmps40
      go_wp2_with fail
      refine (HR.out _).mono ?_
      rintro e w1 ⟨xa, xn, xc, rfl, hb1, hsp⟩
      simp only [rok, Option.isSome_some]
      have hz1 := hb1.size
      have HSP := hid (SpanRow.below (hsp sp rfl) ((Below.refl _ _).alloc (Nat.le_refl _) (.cells #[.slice xa xn xc] 81)))
      have HB := hid (hb1.alloc hz1 (.cells #[.slice xa xn xc] 81))
      clear hsp hb1
      go_wp2_with fail
      refine (HLO.out _ _ _ HSP.out).mono ?_
      rintro e w2 ⟨rfl, hb2⟩
      have HB2 := hid (HB.out.trans (hb2.mono (by simp; omega)))
      clear hb2
      go_wp2
      go_ret2
      exact ⟨rfl, HB2.out⟩
    · rw [lowProg3 hr hf]
      have hbd := low_bd hr hf
      have HLO := hid (fun v base w hrow => rlow_any v sp base w hrow hne (by omega))
      rw [hf] at HLO
      generalize (lowGo 0 false sp).1 = lo at *
      have HT := hid (fun w => text_any lo w hbd.1 hbd.2)
      have HPT : Hid (placeT lo = verT (lo / 10000).toNat (lo / 100 % 100).toNat (lo % 100).toNat) := rfl
      rw [← HPT.out] at HT
      generalize placeT lo = q at *
      clear hr hf HPT
      go_enter Tryz.func40, Tryz.ntmps40
      go_wp2_with fail
      refine (HR.out _).mono ?_
      rintro e w1 ⟨xa, xn, xc, rfl, hb1, hsp⟩
      simp only [rok, Option.isSome_some]
      have hz1 := hb1.size
      have HSP := hid (SpanRow.below (hsp sp rfl) ((Below.refl _ _).alloc (Nat.le_refl _) (.cells #[.slice xa xn xc] 81)))
      have HB := hid (hb1.alloc hz1 (.cells #[.slice xa xn xc] 81))
      clear hsp hb1
      go_wp2_with fail
      refine (HLO.out _ _ _ HSP.out).mono ?_
      rintro e w2 ⟨rfl, hb2⟩
      have HB2 := hid (HB.out.trans (hb2.mono (by simp; omega)))
      clear hb2
      go_wp2_with fail
      refine (HT.out _).mono ?_
      rintro e w3 ⟨rfl, rfl⟩
      go_wp2
      go_ret2
      exact ⟨rfl, HB2.out⟩

end Hst
end Go.Proofs.YtecocheolbkneabGreatDoor
namespace Go.Proofs.YtecocheolbkneabGreatDoor
open Go.RowKit
namespace Hst
set_option maxRecDepth 100000

/-- Lowest of the document: its answer and its error. -/
def lowRef (r : Tx) : Tx × Int := if isRangeR r = false then ([], 1) else match lowV (fitR r) none (pointsR r) with
  | none => ([], 3)
  | some v => (verT v.a.toNat v.b.toNat v.c.toNat, 0)
theorem lowRef1 {r : Tx} (h : isRangeR r = false) : lowRef r = ([], 1) := by simp [lowRef, h]
theorem lowRef2 {r : Tx} (h : isRangeR r = true) (h' : lowV (fitR r) none (pointsR r) = none) : lowRef r = ([], 3) := by simp [lowRef, h, h']
theorem lowRef3 {r : Tx} {v : V3} (h : isRangeR r = true) (h' : lowV (fitR r) none (pointsR r) = some v) : lowRef r = (verT v.a.toNat v.b.toNat v.c.toNat, 0) := by simp [lowRef, h, h']

theorem ret_str_int2 {k : IntKind} {a b : ByteArray} {c d : Int} (h : a = b) (h' : c = d) : Ending.returned (.tuple #[.string a, .int k c]) = .returned (.tuple #[.string b, .int k d]) := by rw [h, h']

/-- Where the best one is so far. -/
def BestAt (P : List V3) (k : Nat) (b : Int) (o : Option V3) : Prop := (b = -1 ∧ o = none) ∨ ∃ j : Nat, ∃ hj : j < P.length, j < k ∧ b = j ∧ o = some P[j]

theorem lv_step (f : V3 → Bool) (P : List V3) (k : Nat) (o : Option V3) (hk : k < P.length) : lowV f o (P.drop k) = lowV f (if f P[k] = true ∧ lowB P[k] o = true then some P[k] else o) (P.drop (k + 1)) := by
  rw [List.drop_eq_getElem_cons hk]; simp only [lowV]
theorem lv_end (f : V3 → Bool) (P : List V3) (k : Nat) (o : Option V3) (hk : ¬ k < P.length) : lowV f o (P.drop k) = o := by
  rw [List.drop_of_length_le (by omega)]; rfl

attribute [local go_sem ↓] Go.wp_at_zero Go.wp_at_succ

set_option maxHeartbeats 2000000 in
theorem rlowf_any (r : ByteArray) (w : World) :
    Calls Tryz.prog 41 #[.string r] w fun e w' => e = .returned (.tuple #[.string (bs (lowRef (tx r)).1), .int .i64 (lowRef (tx r)).2]) ∧ Below w.heap.size w w' := by
  have HR := hid (fun w => isRange_any r w)
  rcases hr : isRangeR (tx r) with _ | _
  · rw [lowRef1 hr]
    rw [hr] at HR
    clear hr
    go_enter Tryz.func41, Tryz.ntmps41
    go_wp2_with fail
    refine (HR.out _).mono ?_
    rintro e w1 ⟨rfl, hb1⟩
    go_wp2
    go_ret2
    exact ⟨rfl, hb1⟩
  · have h60 : r.size ≤ 60 := by
      by_cases h : r.size ≤ 60
      · exact h
      · rw [isRangeR_long r h] at hr; simp at hr
    have H2 := hid (fun h' => lowRef2 hr h')
    have H3 := hid (fun v h' => lowRef3 (v := v) hr h')
    rw [hr] at HR
    clear hr
    have HPR := hid (fun w => points_any r w h60)
    have hnr : pointsR (tx r) ≠ [] := by simp [pointsR]
    have HVAL := hid (fun p (hp : p ∈ pointsR (tx r)) => pointsR_valid hp)
    generalize pointsR (tx r) = P at *
    go_enter Tryz.func41, Tryz.ntmps41
    go_wp2_with fail
    refine (HR.out _).mono ?_
    rintro e w1 ⟨rfl, hb1⟩
    go_wp2_with fail
    refine (HPR.out _).mono ?_
    rintro e w2 ⟨vp, rfl, hvp, hlp, hb2⟩
    obtain ⟨g, cap, rfl, hg1, hg2, hcell⟩ := hvp.form hnr
    have HC := hid hcell
    have HB2 := hid (hb1.trans (hb2.mono hb1.size))
    clear hb1 hb2 hcell hvp
    go_wp2
    go_loopw [6, 7] (fun bst i wr => ∃ (k : Nat) (b : Int) (o : Option V3), k ≤ P.length ∧ bst = .int .i64 b ∧ i = .int .i64 k ∧ Below w2.heap.size w2 wr ∧ BestAt P k b o ∧ Hid (lowV (fitR (tx r)) none P = lowV (fitR (tx r)) o (P.drop k))) (fun _ i _ => P.length - (intOf i).toNat)
    case atStart => exact ⟨0, -1, none, by omega, rfl, rfl, Below.refl _ _, .inl ⟨rfl, rfl⟩, rfl⟩
    case round =>
      obtain ⟨k, b, o, hk, rfl, rfl, hbel, hbest, hall⟩ := hrel
      have hz := hbel.size
      have HBw := hid (HB2.out.trans (hbel.mono HB2.out.size))
      by_cases hlt : k < P.length
      · obtain ⟨c0, c1, c2⟩ := HC.out k hlt
        have d0 := (hbel.cell (p := ⟨g, k * 3, none⟩) hg2).trans c0
        have d1 := (hbel.cell (p := ⟨g, k * 3 + 1, none⟩) hg2).trans c1
        have d2 := (hbel.cell (p := ⟨g, k * 3 + 2, none⟩) hg2).trans c2
        have HF1 := hid (fun w => fit_any r P[k].a P[k].b P[k].c w h60)
        have HST := hid (lv_step (fitR (tx r)) P k o hlt)
        have hPk : Hid (∃ hj : k < P.length, (⟨P[k].a, P[k].b, P[k].c⟩ : V3) = P[k]) := ⟨hlt, rfl⟩
        generalize hv : P[k] = v at *
        obtain ⟨xa, xb, xc⟩ := v
        have HPV := hid hv
        simp only at d0 d1 d2 HF1
        generalize fitR (tx r) ⟨xa, xb, xc⟩ = f1 at *
        have hg6 : g < wr.heap.size := by omega
        clear c0 c1 c2 hv hPk
        go_wp2_with fail
        refine (HF1.out _).mono ?_
        rintro e w6 ⟨rfl, hb6⟩
        have hz6 := hb6.size
        have e0 := (hb6.cell (p := ⟨g, k * 3, none⟩) hg6).trans d0
        have e1 := (hb6.cell (p := ⟨g, k * 3 + 1, none⟩) hg6).trans d1
        have e2 := (hb6.cell (p := ⟨g, k * 3 + 2, none⟩) hg6).trans d2
        have HB6 := hid (hbel.trans (hb6.mono hz))
        have hg7 : g < w6.heap.size := by omega
        clear d0 d1 d2 hb6
        cases f1
        · have HF : Hid (lowV (fitR (tx r)) none P = lowV (fitR (tx r)) o (P.drop (k + 1))) := by unfold Hid; rw [hall.out, HST.out]; simp
          have HBE : BestAt P (k + 1) b o := by
            rcases hbest with h | ⟨j, hj, h1, h2⟩
            · exact .inl h
            · exact .inr ⟨j, hj, by omega, h2⟩
          clear HST hall
          go_wp2
          go_region
          all_goals
            go_wp2
            go_roundw
            case rel => exact ⟨k + 1, b, o, by omega, rfl, by go_num, HB6.out.drew, HBE, HF⟩
            case measure => simp [intOf]; omega
        · rcases hbest with ⟨rfl, rfl⟩ | ⟨j, hj, hjk, rfl, rfl⟩
          · have HF : Hid (lowV (fitR (tx r)) none P = lowV (fitR (tx r)) (some ⟨xa, xb, xc⟩) (P.drop (k + 1))) := by unfold Hid; rw [hall.out, HST.out]; simp [lowB]
            have HBE : BestAt P (k + 1) k (some ⟨xa, xb, xc⟩) := .inr ⟨k, hlt, by omega, rfl, by rw [HPV.out]⟩
            clear HST hall
            go_wp2
            go_region
            all_goals
              go_wp2
              go_roundw
              case rel => exact ⟨k + 1, k, some ⟨xa, xb, xc⟩, by omega, rfl, by go_num, HB6.out.drew, HBE, HF⟩
              case measure => simp [intOf]; omega
          · obtain ⟨c0, c1, c2⟩ := HC.out j hj
            have b0 := (HB6.out.cell (p := ⟨g, j * 3, none⟩) hg2).trans c0
            have b1 := (HB6.out.cell (p := ⟨g, j * 3 + 1, none⟩) hg2).trans c1
            have b2 := (HB6.out.cell (p := ⟨g, j * 3 + 2, none⟩) hg2).trans c2
            have HBE0 : BestAt P (k + 1) j (some P[j]) := .inr ⟨j, hj, by omega, rfl, rfl⟩
            have HBE1 : BestAt P (k + 1) k (some ⟨xa, xb, xc⟩) := .inr ⟨k, hlt, by omega, rfl, by rw [HPV.out]⟩
            have HLB : Hid (lowB ⟨xa, xb, xc⟩ (some P[j]) = belowB xa xb xc P[j].a P[j].b P[j].c) := rfl
            generalize P[j] = u at *
            obtain ⟨ya, yb, yc⟩ := u
            simp only at b0 b1 b2
            have HBL := hid (fun w => below_any xa xb xc ya yb yc w)
            have HF : Hid (∀ lw, belowB xa xb xc ya yb yc = lw → lowV (fitR (tx r)) none P = lowV (fitR (tx r)) (if lw = true then some ⟨xa, xb, xc⟩ else some ⟨ya, yb, yc⟩) (P.drop (k + 1))) := by
              intro lw h
              rw [hall.out, HST.out, HLB.out]
              simp only at h ⊢
              rw [h]; simp
            have HF' := HF.out _ rfl
            generalize belowB xa xb xc ya yb yc = lw at *
            have HFF := hid HF'
            have hj0 : (0 : Int) ≤ (j : Int) := by omega
            have hj1 : (j : Int) < (P.length : Int) := by omega
            have hk1 : (k : Int) < (P.length : Int) := by omega
            clear HST hall HF HF' HLB c0 c1 c2
            cases lw
            · have HG : Hid (lowV (fitR (tx r)) none P = lowV (fitR (tx r)) (some ⟨ya, yb, yc⟩) (P.drop (k + 1))) := by unfold Hid; simpa using HFF.out
              clear HFF
              go_wp2
              go_region_held3 (fun w' => w'.cell? ⟨g, k * 3, none⟩ = some (.int .i64 xa) ∧ w'.cell? ⟨g, k * 3 + 1, none⟩ = some (.int .i64 xb) ∧ w'.cell? ⟨g, k * 3 + 2, none⟩ = some (.int .i64 xc) ∧ w'.cell? ⟨g, j * 3, none⟩ = some (.int .i64 ya) ∧ w'.cell? ⟨g, j * 3 + 1, none⟩ = some (.int .i64 yb) ∧ w'.cell? ⟨g, j * 3 + 2, none⟩ = some (.int .i64 yc)) (go_keep)
                (first | (go_at_call 86; refine (HBL.out _).mono ?_; rintro e w7 ⟨rfl, hb7⟩; have hz7 := (bcell hb7).1; simp at hz7))
              have HB7 := hid (HB6.out.drew.trans (hb7.mono (by simp; omega)))
              clear hb7
              go_wp2
              go_roundw
              case rel => exact ⟨k + 1, j, some ⟨ya, yb, yc⟩, by omega, rfl, by go_num, HB7.out, HBE0, HG⟩
              case measure => simp [intOf]; omega
            · have HG : Hid (lowV (fitR (tx r)) none P = lowV (fitR (tx r)) (some ⟨xa, xb, xc⟩) (P.drop (k + 1))) := by unfold Hid; simpa using HFF.out
              clear HFF
              go_wp2
              go_region_held3 (fun w' => w'.cell? ⟨g, k * 3, none⟩ = some (.int .i64 xa) ∧ w'.cell? ⟨g, k * 3 + 1, none⟩ = some (.int .i64 xb) ∧ w'.cell? ⟨g, k * 3 + 2, none⟩ = some (.int .i64 xc) ∧ w'.cell? ⟨g, j * 3, none⟩ = some (.int .i64 ya) ∧ w'.cell? ⟨g, j * 3 + 1, none⟩ = some (.int .i64 yb) ∧ w'.cell? ⟨g, j * 3 + 2, none⟩ = some (.int .i64 yc)) (go_keep)
                (first | (go_at_call 86; refine (HBL.out _).mono ?_; rintro e w7 ⟨rfl, hb7⟩; have hz7 := (bcell hb7).1; simp at hz7))
              have HB7 := hid (HB6.out.drew.trans (hb7.mono (by simp; omega)))
              clear hb7
              go_wp2
              go_roundw
              case rel => exact ⟨k + 1, k, some ⟨xa, xb, xc⟩, by omega, rfl, by go_num, HB7.out, HBE1, HG⟩
              case measure => simp [intOf]; omega
      · have HF : Hid (lowV (fitR (tx r)) none P = o) := by unfold Hid; rw [hall.out, lv_end _ P k o hlt]
        rcases hbest with ⟨rfl, rfl⟩ | ⟨j, hj, hjk, rfl, rfl⟩
        · have HE := hid (H2.out HF.out)
          go_wp2
          go_ret2
          exact ⟨ret_str_int2 (by rw [HE.out]; rfl) (by rw [HE.out]), HBw.out⟩
        · have HE := hid (H3.out _ HF.out)
          have hval := HVAL.out P[j] (List.getElem_mem hj)
          obtain ⟨c0, c1, c2⟩ := HC.out j hj
          have b0 := (hbel.cell (p := ⟨g, j * 3, none⟩) hg2).trans c0
          have b1 := (hbel.cell (p := ⟨g, j * 3 + 1, none⟩) hg2).trans c1
          have b2 := (hbel.cell (p := ⟨g, j * 3 + 2, none⟩) hg2).trans c2
          clear HF hall c0 c1 c2
          generalize P[j] = u at *
          obtain ⟨ya, yb, yc⟩ := u
          obtain ⟨v1, v2, v3, v4, v5, v6⟩ := hval
          simp only at b0 b1 b2 v1 v2 v3 v4 v5 v6
          have HW := hid (fun w => written_any ya yb yc w v1 v2 v3 v4 v5 v6)
          go_wp2_with fail
          refine (HW.out _).mono ?_
          rintro e w7 ⟨rfl, hb7⟩
          have HB7 := hid (HBw.out.trans (hb7.mono HBw.out.size))
          clear hb7
          go_wp2
          go_ret2
          exact ⟨ret_str_int2 (by rw [HE.out]) (by rw [HE.out]), HB7.out⟩

end Hst
end Go.Proofs.YtecocheolbkneabGreatDoor
namespace Go.Proofs.YtecocheolbkneabGreatDoor
open Go.RowKit
namespace Hst
set_option maxRecDepth 100000

theorem lows_law (r : Tx) : lowRef r = lowProg r := by
  rcases rangeP_law r with ⟨h1, h2⟩ | ⟨sp, h1, h2, h3⟩
  · rw [lowRef1 h2, lowProg1 h1]
  · rcases low_law h1 h3 with ⟨k1, k2⟩ | ⟨k1, v, k2, hv, hp, _⟩
    · rw [lowRef2 h2 k2, lowProg2 h1 k1]
    · rw [lowRef3 h2 k2, lowProg3 h1 k1, ← hp]
      have := place_parts hv
      unfold placeT
      rw [this.1, this.2.1, this.2.2.1]

set_option maxHeartbeats 1000000 in
theorem lowests_any (r : ByteArray) (w : World) :
    Calls Tryz.prog 16 #[.string r] w fun e w' => e = .returned (.bool true) ∧ Below w.heap.size w w' := by
  have HP := hid (fun w => plow_any r w)
  have HR := hid (fun w => rlowf_any r w)
  rw [lows_law] at HR
  generalize bs (lowProg (tx r)).1 = q at *
  generalize (lowProg (tx r)).2 = n at *
  go_enter Tryz.func16, Tryz.ntmps16
  go_wp2_with fail
  refine (HP.out _).mono ?_
  rintro e w1 ⟨rfl, hb1⟩
  go_wp2_with fail
  refine (HR.out _).mono ?_
  rintro e w2 ⟨rfl, hb2⟩
  have HB := hid (hb1.trans (hb2.mono hb1.size))
  clear hb1 hb2
  go_wp2_with (go_at_call 13; refine (num_any _ _).mono ?_; rintro e w' ⟨rfl, rfl⟩)
  go_ret
  exact ⟨rfl, HB.out⟩

end Hst
end Go.Proofs.YtecocheolbkneabGreatDoor
namespace Go.Proofs.YtecocheolbkneabGreatDoor
open Go.RowKit
namespace Hst
set_option maxRecDepth 100000

set_option maxHeartbeats 1000000 in
theorem ranges_any (k on : Int) (S T : ByteArray) (w : World) :
    Calls Tryz.prog 6 #[opV k on S T] w fun e w' => e = .returned (.bool true) ∧ Below w.heap.size w w' := by
  have HB := hid' ((Below.refl w.heap.size w).alloc (Nat.le_refl _) (.cells #[.int .i64 k, .int .i64 on, .string S, .string T] 27))
  have HF := hid' (fun w => fitting_any S T w)
  have HM := hid' (fun w => meeting_any S T w)
  have HL := hid' (fun w => lowests_any S w)
  by_cases h1 : k = 1
  · subst h1
    go_enter Tryz.func6, Tryz.ntmps6
    go_wp2_with fail
    refine (HF.out _).mono ?_
    rintro e w1 ⟨rfl, hb1⟩
    have HR := hid' (HB.out.trans (hb1.mono (by simp)))
    clear hb1
    go_wp2
    go_ret
    exact ⟨rfl, HR.out⟩
  · have b1 : (k == 1) = false := by simp [h1]
    by_cases h2 : k = 2
    · subst h2
      go_enter Tryz.func6, Tryz.ntmps6
      go_wp2_with fail
      refine (HM.out _).mono ?_
      rintro e w1 ⟨rfl, hb1⟩
      have HR := hid' (HB.out.trans (hb1.mono (by simp)))
      clear hb1
      go_wp2
      go_ret
      exact ⟨rfl, HR.out⟩
    · have b2 : (k == 2) = false := by simp [h2]
      by_cases h3 : k = 3
      · subst h3
        go_enter Tryz.func6, Tryz.ntmps6
        go_wp2_with fail
        refine (HL.out _).mono ?_
        rintro e w1 ⟨rfl, hb1⟩
        have HR := hid' (HB.out.trans (hb1.mono (by simp)))
        clear hb1
        go_wp2
        go_ret
        exact ⟨rfl, HR.out⟩
      · have b3 : (k == 3) = false := by simp [h3]
        go_enter Tryz.func6, Tryz.ntmps6
        go_wp2
        go_ret
        exact ⟨rfl, HB.out⟩

end Hst
end Go.Proofs.YtecocheolbkneabGreatDoor
namespace Go.Proofs.YtecocheolbkneabGreatDoor
open Go.RowKit
namespace Hst
set_option maxRecDepth 100000

set_option maxHeartbeats 1000000 in
theorem alls_any (a : Option Addr) (cap : Nat) (ops : List OpX) (w : World) (hr : RowR w a ops.length cap 4 (ops.flatMap opC)) (hn : ops.length ≤ 4000000000000) (ho : ∀ o ∈ ops, OpOk o) :
    Calls Tryz.prog 3 #[.slice a ops.length cap] w fun e w' => e = .returned (.bool true) ∧ Below w.heap.size w w' := by
  have HP := hid' (played_any true 12 (fun x d k on S T w h hk h5 h12 => done_all x d k on S T w h hk h5 h12) (fun _ k on S T w _ _ => ranges_any k on S T w) a cap ops w hr hn ho)
  clear hr hn ho
  go_enter Tryz.func3, Tryz.ntmps3
  go_wp2_with fail
  refine HP.out.mono ?_
  rintro e w1 ⟨rfl, hb1⟩
  go_wp2
  go_ret
  exact ⟨rfl, hb1⟩

end Hst
end Go.Proofs.YtecocheolbkneabGreatDoor
namespace Go.Proofs.YtecocheolbkneabGreatDoor
namespace AllRow
open Go.ChangeShapes Go.WideShapes Go.ChangeAt Go.RowKit
set_option linter.unusedVariables false

theorem own : ownKnob Tryz.prog.godebug = none := by kernel_rfl
theorem door_met (os : Os) (args : Array Value) : laidMetH Tryz.prog Rows.allRow.laid ((World.doorLaid Tryz.prog 4000 os).forCall (fun _ _ => 0) ⟨#[], args, []⟩).memory :=
  laidMetH_of_parts3 (fuel := 8) (laidMet_of_run' 8 (by kernel_rfl) (by kernel_rfl)) (by kernel_rfl) (by kernel_rfl)

set_option maxRecDepth 100000 in
theorem lifted (os : Os) (started : os.Started) (H : Type) (enc : TypeId × Value → H) :
    ReturnsInHanded {} Tryz.checked os 3 .any (fun w args => (Rows.allSpec.pre enc Tryz.prog Tryz.f3 [] false w args ∧ laidMetH Tryz.prog Rows.allRow.laid w) ∧ sizedMet enc Tryz.prog Tryz.f3 (OpenSpec.ofChange Rows.allSpec) false w args)
      (Rows.allSpec.post enc Tryz.prog Tryz.f3 false true false false) := by
  refine returnsInHanded_of_change_and (C := Tryz.checked) (X := fun w _ => laidMetH Tryz.prog Rows.allRow.laid w) (fun _ _ _ hh h => h.of_heap hh) own started (by kernel_rfl) Tryz.func3
    (ChangeSpec.witness_shaped (enc := enc) (C := Tryz.checked) (os := os) (X := fun w _ => laidMetH Tryz.prog Rows.allRow.laid w) false (World.doorLaid Tryz.prog 4000 os) #[.slice none 0 0] 8 rfl (World.shaped_of_RefB (by kernel_rfl) (by kernel_rfl)) (by kernel_rfl) (by kernel_rfl) (by kernel_rfl) (door_met os _)) ?_
  intro W base args ds gs before hval0 hW _ hsz0 hL _
  have hsz : (DataW.weightsEach Tryz.prog (Tryz.f3.params.toList ++ Rows.allSpec.plain.varTypes Tryz.prog) (ds ++ gs)).all (· ≤ reachBytes) = true := hsz0
  have hval : ∀ (j : Nat) t v, Tryz.f3.params[j]? = some t → args[j]? = some v → Value.okWide Tryz.prog W .any base t v := hval0
  have hW' := hW
  obtain ⟨p, q, hA0, hV, rfl, hfz, hnd⟩ := hW
  have hA : DataW.TrodAll enc Tryz.prog W 0 (fun _ => true) true Tryz.f3.params.toList args.toList ds p := hA0
  rw [Tryz.params3] at hA hval hsz
  obtain ⟨v0, d0, rfl, rfl, h0⟩ := trodAll_one hA
  obtain ⟨rfl, rfl⟩ := trodVars_none hV
  have h0k := h0
  obtain ⟨fuel, hf⟩ := h0
  clear hA0 hval0 hsz0
  simp only [List.append_nil] at hW'
  have hlt : ∀ x ∈ p, x.block < W.heap.size := fun x hx => by simpa using hW'.lt x hx
  obtain ⟨a0, len, cap, rfl⟩ := okWide_slice Tryz.underlying22 (hval 0 22 v0 rfl rfl)
  obtain ⟨a, cap', ops, hcs, hrow, hops, hx⟩ := Hst.open_ops hf
  have hcs' : Value.slice a0 len cap = .slice a ops.length cap' := by simpa [Value.cells] using hcs
  have hn : ops.length ≤ 4000000000000 := by
    rcases hx with ⟨rfl, _⟩ | ⟨elems, spare, hx, hel⟩
    · simp
    · simp only at hx
      subst hx
      have := sized_slice hsz (j := 0) (t := 22) (elems := elems) (spare := spare) rfl rfl Tryz.underlying22
      rw [Hst.bytes_op] at this
      unfold reachBytes at this
      omega
  rw [hcs'] at h0k ⊢
  refine (Hst.alls_any a cap' ops W hrow hn hops).mono fun e W' ⟨he, bel⟩ => ?_
  subst he
  rw [hcs'] at hW'
  exact ⟨_, rfl, _, _, _, [], _, [], hW', trodAll_mk1 (shut_bool Tryz.underlying4 _), trodAll_mk1 (Below.trod Hst.laidOut (by kernel_rfl) (of_decide_eq_true (by kernel_rfl)) h0k bel hlt), rfl, bel.frame _, fun h => by cases h⟩

theorem over : Rows.AllSaid :=
  OpenClaim.holds_of_wide 3 Tryz.f3 rfl rfl rfl rfl rfl rfl rfl ⟨rfl, rfl, rfl, rfl, rfl⟩ rfl rfl rfl rfl rfl (by kernel_rfl) Tryz.func3 (by kernel_rfl)
    (of_decide_eq_true (by kernel_rfl)) (by unfold Func.isWrapper; first | (rw [if_pos (by decide +kernel)]; kernel_rfl) | (rw [if_neg (by decide +kernel)]; exact ⟨rfl, rfl⟩))
    (fun os started H enc _ => lifted os started H enc)
end AllRow

theorem all_card : Rows.AllCardSaid :=
  Claim7.holds_tied_plain_at .later [] [.data, .data, .data] true (true, "5dd4e24481221880fca9b4c8d3c4f04813ee694bb00f775cd5bc499c77c73b6b") false
    AllRow.over (fun _ h => by cases h) (by kernel_rfl) (fun _ h => by cases h) all_row_tie rfl ⟨rfl, rfl⟩ (by kernel_rfl) rfl
    (fun f fn hf hfn => by
      obtain rfl : f = 3 := Option.some.inj ((show Tryz.prog.funcNamed "hoist/hoistlaw.All" = some 3 by kernel_rfl).symm.trans hf) |>.symm
      obtain rfl : fn = Tryz.f3 := (Option.some.inj (Tryz.func3.symm.trans hfn)).symm
      exact ⟨by kernel_rfl, fun j t ht => by
        rw [Tryz.params3] at ht
        have hm : t ∈ [22] := by simpa using Array.mem_of_getElem? ht
        have hall : ([22].all fun u => !Tryz.prog.wantsStandIn u) = true := by kernel_rfl
        exact (show Tryz.prog.wantsStandIn t = false by simpa using List.all_eq_true.1 hall t hm)⟩)
    (by kernel_rfl)
#print axioms all_card
end Go.Proofs.YtecocheolbkneabGreatDoor
