/- Defsl, Lowest, Meet, Sidemath, Sides -/
import Derived.Test.YtecocheolbkneaaDoorW04
import Derived.Test.YtecocheolbkneaaDoorW01
namespace Go.Proofs.YtecocheolbkneaaDoor
namespace Hst

def lowGo (lo : Int) (found : Bool) : List (Int × Int) → Int × Bool
  | [] => (lo, found)
  | s :: r => if s.2 < s.1 then lowGo lo found r else if found = false ∨ s.1 < lo then lowGo s.1 true r else lowGo lo true r
def lowB (v : V3) : Option V3 → Bool
  | none => true
  | some u => belowB v.a v.b v.c u.a u.b u.c
def lowV (f : V3 → Bool) (o : Option V3) : List V3 → Option V3
  | [] => o
  | v :: r => lowV f (if f v = true ∧ lowB v o = true then some v else o) r

theorem lowGo_spec : ∀ (sp : List (Int × Int)) (lo : Int) (found : Bool),
    ((lowGo lo found sp).2 = true → ((lowGo lo found sp).1 = lo ∧ found = true) ∨ ∃ s ∈ sp, s.1 ≤ s.2 ∧ (lowGo lo found sp).1 = s.1) ∧
    ((lowGo lo found sp).2 = false → found = false ∧ ∀ s ∈ sp, s.2 < s.1) ∧ (found = true → (lowGo lo found sp).1 ≤ lo) ∧ (∀ s ∈ sp, s.1 ≤ s.2 → (lowGo lo found sp).1 ≤ s.1)
  | [], lo, found => by simp [lowGo]
  | s :: r, lo, found => by
    simp only [lowGo]
    by_cases h1 : s.2 < s.1
    · rw [if_pos h1]
      obtain ⟨i1, i2, i3, i4⟩ := lowGo_spec r lo found
      refine ⟨fun h => ?_, fun h => ?_, i3, fun t ht hle => ?_⟩
      · rcases i1 h with e | ⟨t, ht, e⟩
        · exact .inl e
        · exact .inr ⟨t, by simp [ht], e⟩
      · refine ⟨(i2 h).1, fun t ht => ?_⟩
        simp at ht
        rcases ht with rfl | ht
        · exact h1
        · exact (i2 h).2 t ht
      · simp at ht
        rcases ht with rfl | ht
        · omega
        · exact i4 t ht hle
    · rw [if_neg h1]
      by_cases h2 : found = false ∨ s.1 < lo
      · rw [if_pos h2]
        obtain ⟨i1, i2, i3, i4⟩ := lowGo_spec r s.1 true
        have i3' := i3 rfl
        refine ⟨fun h => ?_, fun h => ?_, fun h => ?_, fun t ht hle => ?_⟩
        · rcases i1 h with e | ⟨t, ht, e⟩
          · exact .inr ⟨s, by simp, by omega, e.1⟩
          · exact .inr ⟨t, by simp [ht], e⟩
        · have := (i2 h).1; simp at this
        · rcases h2 with h2 | h2
          · rw [h2] at h; simp at h
          · omega
        · simp at ht
          rcases ht with rfl | ht
          · exact i3'
          · exact i4 t ht hle
      · rw [if_neg h2]
        simp only [not_or] at h2
        have hf : found = true := by simpa using h2.1
        obtain ⟨i1, i2, i3, i4⟩ := lowGo_spec r lo true
        have i3' := i3 rfl
        refine ⟨fun h => ?_, fun h => ?_, fun _ => i3', fun t ht hle => ?_⟩
        · rcases i1 h with e | ⟨t, ht, e⟩
          · exact .inl ⟨e.1, hf⟩
          · exact .inr ⟨t, by simp [ht], e⟩
        · have := (i2 h).1; simp at this
        · simp at ht
          rcases ht with rfl | ht
          · omega
          · exact i4 t ht hle

theorem lowV_none (f : V3 → Bool) : ∀ (l : List V3) (o : Option V3), lowV f o l = none → o = none ∧ ∀ v ∈ l, f v = false
  | [], o, h => by simp [lowV] at h; exact ⟨h, by simp⟩
  | v :: r, o, h => by
    simp only [lowV] at h
    by_cases hc : f v = true ∧ lowB v o = true
    · rw [if_pos hc] at h
      have := (lowV_none f r _ h).1
      simp at this
    · rw [if_neg hc] at h
      obtain ⟨rfl, ih⟩ := lowV_none f r _ h
      refine ⟨rfl, fun u hu => ?_⟩
      simp at hu
      rcases hu with rfl | hu
      · simpa [lowB] using hc
      · exact ih u hu
theorem lowV_some (f : V3 → Bool) : ∀ (l : List V3) (o : Option V3) (w : V3), (∀ v ∈ l, Valid v) → (∀ u, o = some u → Valid u) → lowV f o l = some w →
    (o = some w ∨ (w ∈ l ∧ f w = true)) ∧ (∀ u, o = some u → place w ≤ place u) ∧ (∀ v ∈ l, f v = true → place w ≤ place v)
  | [], o, w, _, _, h => by
    simp [lowV] at h
    subst h
    exact ⟨.inl rfl, fun u hu => by simp at hu; subst hu; exact Int.le_refl _, by simp⟩
  | v :: r, o, w, hl, ho, h => by
    simp only [lowV] at h
    have hv := hl v (by simp)
    by_cases hc : f v = true ∧ lowB v o = true
    · rw [if_pos hc] at h
      obtain ⟨i1, i2, i3⟩ := lowV_some f r (some v) w (fun u hu => hl u (by simp [hu])) (fun u hu => by simp at hu; subst hu; exact hv) h
      have i2' := i2 v rfl
      refine ⟨?_, fun u hu => ?_, fun u hu hfu => ?_⟩
      · rcases i1 with e | ⟨e1, e2⟩
        · simp at e; subst e; exact .inr ⟨by simp, hc.1⟩
        · exact .inr ⟨by simp [e1], e2⟩
      · subst hu
        have hb := hc.2
        simp only [lowB, below_place hv (ho u rfl), decide_eq_true_eq] at hb
        omega
      · simp at hu
        rcases hu with rfl | hu
        · exact i2'
        · exact i3 u hu hfu
    · rw [if_neg hc] at h
      obtain ⟨i1, i2, i3⟩ := lowV_some f r o w (fun u hu => hl u (by simp [hu])) ho h
      refine ⟨?_, i2, fun u hu hfu => ?_⟩
      · rcases i1 with e | ⟨e1, e2⟩
        · exact .inl e
        · exact .inr ⟨by simp [e1], e2⟩
      · simp at hu
        rcases hu with rfl | hu
        · match o, ho, i2, hc with
          | none, _, _, hc => exact absurd ⟨hfu, rfl⟩ hc
          | some x, ho, i2, hc =>
            have hx := ho x rfl
            have := i2 x rfl
            simp only [lowB, below_place hv hx, hfu, true_and, decide_eq_true_eq] at hc
            omega
        · exact i3 u hu hfu

/-- The law of the lowest version. -/
theorem low_law {r : Tx} {sp : List (Int × Int)} (h1 : rangeP r = some sp) (f1 : ∀ v, Valid v → fitR r v = fitsP sp (place v)) :
    ((lowGo 0 false sp).2 = false ∧ lowV (fitR r) none (pointsR r) = none) ∨
    ((lowGo 0 false sp).2 = true ∧ ∃ v, lowV (fitR r) none (pointsR r) = some v ∧ Valid v ∧ place v = (lowGo 0 false sp).1 ∧ fitsP sp (lowGo 0 false sp).1 = true ∧ ∀ p, fitsP sp p = true → (lowGo 0 false sp).1 ≤ p) := by
  obtain ⟨i1, i2, _, i4⟩ := lowGo_spec sp 0 false
  rcases hf : (lowGo 0 false sp).2 with _ | _
  · refine .inl ⟨rfl, ?_⟩
    rcases hl : lowV (fitR r) none (pointsR r) with _ | v
    · rfl
    · exfalso
      obtain ⟨j1, _, _⟩ := lowV_some _ _ _ v (fun u hu => pointsR_valid hu) (by simp) hl
      rcases j1 with e | ⟨e1, e2⟩
      · simp at e
      · rw [f1 v (pointsR_valid e1)] at e2
        obtain ⟨s, hs, a, b⟩ := of_fitsP e2
        have := (i2 hf).2 s hs
        omega
  · refine .inr ⟨rfl, ?_⟩
    rcases i1 hf with e | ⟨s, hs, hle, e⟩
    · simp at e
    · have hlow := rangeP_low h1 hs
      obtain ⟨p, hp, hpe⟩ := hlow.2 (by omega)
      have hpv := pointsR_valid hp
      have hpf : fitR r p = true := by rw [f1 p hpv]; exact fitsP_of hs (by omega) (by omega)
      have hmin : ∀ q, fitsP sp q = true → (lowGo 0 false sp).1 ≤ q := by
        intro q hq
        obtain ⟨t, ht, a, b⟩ := of_fitsP hq
        have := i4 t ht (by omega)
        omega
      rcases hl : lowV (fitR r) none (pointsR r) with _ | v
      · have := (lowV_none _ _ _ hl).2 p hp
        rw [hpf] at this
        simp at this
      · obtain ⟨j1, _, j3⟩ := lowV_some _ _ _ v (fun u hu => pointsR_valid hu) (by simp) hl
        rcases j1 with e' | ⟨e1, e2⟩
        · simp at e'
        · have hv := pointsR_valid e1
          have k1 := j3 p hp hpf
          rw [f1 v hv] at e2
          have k2 := hmin _ e2
          exact ⟨v, rfl, hv, by omega, by rw [e]; exact fitsP_of hs (Int.le_refl _) hle, hmin⟩

end Hst
end Go.Proofs.YtecocheolbkneaaDoor
namespace Go.Proofs.YtecocheolbkneaaDoor
open Go.RowKit
namespace Hst
set_option maxRecDepth 100000

theorem lg_empty (sp : List (Int × Int)) (k : Nat) (lo : Int) (fd : Bool) (hk : k < sp.length) (h : sp[k].2 < sp[k].1) : lowGo lo fd (sp.drop k) = lowGo lo fd (sp.drop (k + 1)) := by
  rw [List.drop_eq_getElem_cons hk]; simp only [lowGo, if_pos h]
theorem lg_take (sp : List (Int × Int)) (k : Nat) (lo : Int) (fd : Bool) (hk : k < sp.length) (h : ¬ sp[k].2 < sp[k].1) (h2 : fd = false ∨ sp[k].1 < lo) : lowGo lo fd (sp.drop k) = lowGo sp[k].1 true (sp.drop (k + 1)) := by
  rw [List.drop_eq_getElem_cons hk]; simp only [lowGo, if_neg h, if_pos h2]
theorem lg_keep (sp : List (Int × Int)) (k : Nat) (lo : Int) (fd : Bool) (hk : k < sp.length) (h : ¬ sp[k].2 < sp[k].1) (h2 : ¬ (fd = false ∨ sp[k].1 < lo)) : lowGo lo fd (sp.drop k) = lowGo lo true (sp.drop (k + 1)) := by
  rw [List.drop_eq_getElem_cons hk]; simp only [lowGo, if_neg h, if_neg h2]
theorem lg_end (sp : List (Int × Int)) (k : Nat) (lo : Int) (fd : Bool) (hk : ¬ k < sp.length) : lowGo lo fd (sp.drop k) = (lo, fd) := by
  rw [List.drop_of_length_le (by omega)]; rfl

set_option maxHeartbeats 2000000 in
theorem rlow_any (v : Value) (sp : List (Int × Int)) (base : Nat) (w : World) (hrow : SpanRow w base v sp) (hne : sp ≠ []) (hl : sp.length ≤ 1000) :
    Calls Tryd.prog 32 #[.agg #[v]] w fun e w' => e = .returned (.tuple #[.int .i64 (lowGo 0 false sp).1, .bool (lowGo 0 false sp).2]) ∧ Below w.heap.size w w' := by
  obtain ⟨g, cap, rfl, hg1, hg2, hcell⟩ := hrow.form hne
  have HC := hid hcell
  clear hcell hrow
  go_enter Tryd.func32, Tryd.ntmps32
  go_wp2
  go_loopw [4, 5, 11] (fun l f i wr => ∃ (k : Nat) (lo : Int) (fd : Bool), k ≤ sp.length ∧ l = .int .i64 lo ∧ f = .bool fd ∧ i = .int .i64 k ∧ Below w.heap.size w wr ∧ Hid (lowGo 0 false sp = lowGo lo fd (sp.drop k))) (fun _ _ i _ => sp.length - (intOf i).toNat)
  case atStart => exact ⟨0, 0, false, by omega, rfl, rfl, rfl, (Below.refl _ _).alloc (Nat.le_refl _) _, rfl⟩
  case round =>
    obtain ⟨k, lo, fd, hk, rfl, rfl, rfl, hbel, hall⟩ := hrel
    have hz := hbel.size
    by_cases hlt : k < sp.length
    · obtain ⟨c0, c1⟩ := HC.out k hlt
      have hc0 := (hbel.cell (p := ⟨g, k * 2, none⟩) hg2).trans c0
      have hc1 := (hbel.cell (p := ⟨g, k * 2 + 1, none⟩) hg2).trans c1
      have HE := hid (lg_empty sp k lo fd hlt)
      have HT := hid (lg_take sp k lo fd hlt)
      have HK := hid (lg_keep sp k lo fd hlt)
      clear c0 c1
      generalize sp[k].1 = x at *
      generalize sp[k].2 = y at *
      go_wp2_with fail
      refine (isEmpty_any _ _ _).mono ?_
      rintro e w3 ⟨rfl, hb3⟩
      have hz3 := hb3.size
      simp at hz3
      have d0 := (bcell hb3).1 wr.heap.size 0 (by simp)
      simp at d0
      have HB := hid ((hbel.alloc hz _).trans (hb3.mono (by simp; omega)))
      clear hb3 hc0 hc1
      by_cases hem : y < x
      · have hd : decide (y < x) = true := by simp [hem]
        have HF : Hid (lowGo 0 false sp = lowGo lo fd (sp.drop (k + 1))) := by unfold Hid; rw [hall.out, HE.out hem]
        go_wp2
        go_roundw
        case rel => exact ⟨k + 1, lo, fd, by omega, rfl, rfl, by go_num, HB.out, HF⟩
        case measure => simp [intOf]; omega
      · have hd : decide (y < x) = false := by simp [hem]
        cases fd
        · have HF : Hid (lowGo 0 false sp = lowGo x true (sp.drop (k + 1))) := by unfold Hid; rw [hall.out, HT.out (by omega) (.inl rfl)]
          clear HE HT HK hall
          go_wp2
          go_roundw
          case rel => exact ⟨k + 1, x, true, by omega, rfl, rfl, by go_num, HB.out, HF⟩
          case measure => simp [intOf]; omega
        · by_cases hxl : x < lo
          · have HF : Hid (lowGo 0 false sp = lowGo x true (sp.drop (k + 1))) := by unfold Hid; rw [hall.out, HT.out (by omega) (.inr hxl)]
            clear HE HT HK hall
            go_wp2
            go_roundw
            case rel => exact ⟨k + 1, x, true, by omega, rfl, rfl, by go_num, HB.out, HF⟩
            case measure => simp [intOf]; omega
          · have HF : Hid (lowGo 0 false sp = lowGo lo true (sp.drop (k + 1))) := by unfold Hid; rw [hall.out, HK.out (by omega) (by simp; omega)]
            clear HE HT HK hall
            go_wp2
            go_roundw
            case rel => exact ⟨k + 1, lo, true, by omega, rfl, rfl, by go_num, HB.out, HF⟩
            case measure => simp [intOf]; omega
    · have HF : Hid (lowGo 0 false sp = (lo, fd)) := by unfold Hid; rw [hall.out, lg_end sp k lo fd hlt]
      go_wp2
      go_ret2
      exact ⟨ret_int_bool (by rw [HF.out]) (by rw [HF.out]), hbel⟩

/-- A version at a place, written. -/
def placeT (n : Int) : Tx := verT (n / 10000).toNat (n / 100 % 100).toNat (n % 100).toNat
/-- Lowest of the program: its answer and its error. -/
def lowProg (r : Tx) : Tx × Int := match rangeP r with
  | none => ([], 1)
  | some sp => if (lowGo 0 false sp).2 = true then (placeT (lowGo 0 false sp).1, 0) else ([], 3)
theorem lowProg1 {r : Tx} (h : rangeP r = none) : lowProg r = ([], 1) := by simp [lowProg, h]
theorem lowProg2 {r : Tx} {sp : List (Int × Int)} (h : rangeP r = some sp) (h' : (lowGo 0 false sp).2 = false) : lowProg r = ([], 3) := by simp [lowProg, h, h']
theorem lowProg3 {r : Tx} {sp : List (Int × Int)} (h : rangeP r = some sp) (h' : (lowGo 0 false sp).2 = true) : lowProg r = (placeT (lowGo 0 false sp).1, 0) := by simp [lowProg, h, h']
theorem low_bd {r : Tx} {sp : List (Int × Int)} (h : rangeP r = some sp) (h' : (lowGo 0 false sp).2 = true) : 0 ≤ (lowGo 0 false sp).1 ∧ (lowGo 0 false sp).1 ≤ 999999 := by
  obtain ⟨i1, _, _, _⟩ := lowGo_spec sp 0 false
  rcases i1 h' with e | ⟨s, hs, hle, e⟩
  · simp at e
  · have hlow := rangeP_low h hs
    obtain ⟨p, hp, hpe⟩ := hlow.2 (by omega)
    have := place_bd (pointsR_valid hp)
    omega
theorem ret_str_int {k : IntKind} {a b : ByteArray} {c d : Int} (h : a = b) (h' : c = d) : Ending.returned (.tuple #[.string a, .int k c]) = .returned (.tuple #[.string b, .int k d]) := by rw [h, h']

set_option maxHeartbeats 1000000 in
theorem plow_any (r : ByteArray) (w : World) :
    Calls Tryd.prog 9 #[.string r] w fun e w' => e = .returned (.tuple #[.string (bs (lowProg (tx r)).1), .int .i64 (lowProg (tx r)).2]) ∧ Below w.heap.size w w' := by
  have HR := hid (fun w => rparse_any r w)
  rcases hr : rangeP (tx r) with _ | sp
  · rw [lowProg1 hr]
    rw [hr] at HR
    clear hr
    go_enter Tryd.func9, Tryd.ntmps9
    go_wp2_with fail
    refine (HR.out _).mono ?_
    rintro e w1 ⟨xa, xn, xc, rfl, hb1, hsp⟩
    simp only [rok, Option.isSome_none]
    have hz1 := hb1.size
    clear hsp
    go_wp2
    go_ret2
    exact ⟨rfl, hb1.alloc hz1 _⟩
  · have hlen := rangeP_len hr
    have hne : sp ≠ [] := List.length_pos_iff.1 hlen.1
    rw [hr] at HR
    rcases hf : (lowGo 0 false sp).2 with _ | _
    · rw [lowProg2 hr hf]
      have HLO := hid (fun v base w hrow => rlow_any v sp base w hrow hne (by omega))
      rw [hf] at HLO
      generalize (lowGo 0 false sp).1 = lo at *
      clear hr hf
      go_enter Tryd.func9, Tryd.ntmps9
      go_wp2_with fail
      refine (HR.out _).mono ?_
      rintro e w1 ⟨xa, xn, xc, rfl, hb1, hsp⟩
      simp only [rok, Option.isSome_some]
      have hz1 := hb1.size
      have HSP := hid (SpanRow.below (hsp sp rfl) ((Below.refl _ _).alloc (Nat.le_refl _) (.cells #[.slice xa xn xc] 64)))
      have HB := hid (hb1.alloc hz1 (.cells #[.slice xa xn xc] 64))
      clear hsp hb1
      go_wp2_with fail
      refine (HLO.out _ _ _ HSP.out).mono ?_
      rintro e w2 ⟨rfl, hb2⟩
      have HB2 := hid (HB.out.trans (hb2.mono (by simp; omega)))
      clear hb2
      go_wp2
      go_ret2
      exact ⟨rfl, HB2.out⟩
    · rw [lowProg3 hr hf]
      have hbd := low_bd hr hf
      have HLO := hid (fun v base w hrow => rlow_any v sp base w hrow hne (by omega))
      rw [hf] at HLO
      generalize (lowGo 0 false sp).1 = lo at *
      have HT := hid (fun w => text_any lo w hbd.1 hbd.2)
      have HPT : Hid (placeT lo = verT (lo / 10000).toNat (lo / 100 % 100).toNat (lo % 100).toNat) := rfl
      rw [← HPT.out] at HT
      generalize placeT lo = q at *
      clear hr hf HPT
      go_enter Tryd.func9, Tryd.ntmps9
      go_wp2_with fail
      refine (HR.out _).mono ?_
      rintro e w1 ⟨xa, xn, xc, rfl, hb1, hsp⟩
      simp only [rok, Option.isSome_some]
      have hz1 := hb1.size
      have HSP := hid (SpanRow.below (hsp sp rfl) ((Below.refl _ _).alloc (Nat.le_refl _) (.cells #[.slice xa xn xc] 64)))
      have HB := hid (hb1.alloc hz1 (.cells #[.slice xa xn xc] 64))
      clear hsp hb1
      go_wp2_with fail
      refine (HLO.out _ _ _ HSP.out).mono ?_
      rintro e w2 ⟨rfl, hb2⟩
      have HB2 := hid (HB.out.trans (hb2.mono (by simp; omega)))
      clear hb2
      go_wp2_with fail
      refine (HT.out _).mono ?_
      rintro e w3 ⟨rfl, rfl⟩
      go_wp2
      go_ret2
      exact ⟨rfl, HB2.out⟩

end Hst
end Go.Proofs.YtecocheolbkneaaDoor
namespace Go.Proofs.YtecocheolbkneaaDoor
open Go.RowKit
namespace Hst
set_option maxRecDepth 100000

theorem anyS_yes {f : Int × Int → Bool} (d : List (Int × Int)) (k : Nat) (hk : k < d.length) (h : f d[k] = true) : (d.drop k).any f = true := by
  rw [List.drop_eq_getElem_cons hk, List.any_cons, h, Bool.true_or]
theorem anyS_no {f : Int × Int → Bool} (d : List (Int × Int)) (k : Nat) (hk : k < d.length) (h : f d[k] = false) : (d.drop k).any f = (d.drop (k + 1)).any f := by
  rw [List.drop_eq_getElem_cons hk, List.any_cons, h, Bool.false_or]
theorem anyS_end {f : Int × Int → Bool} (d : List (Int × Int)) (k : Nat) (hk : ¬ k < d.length) : (d.drop k).any f = false := by
  rw [List.drop_of_length_le (by omega)]; rfl
/-- Whether one span meets some of the others. -/
def meetS (sq : List (Int × Int)) (s : Int × Int) : Bool := sq.any fun t => !decide (mn s.2 t.2 < mx s.1 t.1)

set_option maxHeartbeats 2000000 in
theorem rmeet_any (v u : Value) (sp sq : List (Int × Int)) (base base' : Nat) (w : World) (hrow : SpanRow w base v sp) (hne : sp ≠ []) (hl : sp.length ≤ 1000) (hrow' : SpanRow w base' u sq) (hne' : sq ≠ []) (hl' : sq.length ≤ 1000) :
    Calls Tryd.prog 42 #[.agg #[v], .agg #[u]] w fun e w' => e = .returned (.bool (meetP sp sq)) ∧ Below w.heap.size w w' := by
  obtain ⟨g, cap, rfl, hg1, hg2, hcell⟩ := hrow.form hne
  obtain ⟨h, cap', rfl, hh1, hh2, hcell'⟩ := hrow'.form hne'
  have HC := hid hcell
  have HC' := hid hcell'
  clear hcell hrow hcell' hrow'
  have HP : Hid (meetP sp sq = sp.any (meetS sq)) := rfl
  go_enter Tryd.func42, Tryd.ntmps42
  go_wp2
  go_loopw [13] (fun i wr => ∃ (k : Nat), k ≤ sp.length ∧ i = .int .i64 k ∧ Below w.heap.size w wr ∧ w.heap.size + 2 ≤ wr.heap.size ∧ wr.cell? ⟨w.heap.size + 1, 0, none⟩ = some (.slice (some ⟨h, 0, none⟩) sq.length cap') ∧ Hid (meetP sp sq = (sp.drop k).any (meetS sq))) (fun i _ => sp.length - (intOf i).toNat)
  case atStart => exact ⟨0, by omega, rfl, ((Below.refl _ _).alloc (Nat.le_refl _) _).alloc (by simp) _, by simp, by simp, HP⟩
  case round =>
    obtain ⟨k, hk, rfl, hbel, hwz, hbox, hall⟩ := hrel
    clear HP
    have hz := hbel.size
    by_cases hlt : k < sp.length
    · obtain ⟨c0, c1⟩ := HC.out k hlt
      have hc0 := (hbel.cell (p := ⟨g, k * 2, none⟩) hg2).trans c0
      have hc1 := (hbel.cell (p := ⟨g, k * 2 + 1, none⟩) hg2).trans c1
      clear c0 c1
      have HY := hid (anyS_yes (f := meetS sq) sp k hlt)
      have HN := hid (anyS_no (f := meetS sq) sp k hlt)
      have HM : Hid (meetS sq sp[k] = sq.any fun t => !decide (mn sp[k].2 t.2 < mx sp[k].1 t.1)) := rfl
      generalize meetS sq sp[k] = ms at *
      generalize sp[k].1 = x at *
      generalize sp[k].2 = y at *
      have hwr : w.heap.size + 1 < wr.heap.size := by omega
      obtain ⟨wo, rfl⟩ : ∃ wo, wo = wr := ⟨_, rfl⟩
      go_wp2
      go_loopw [20] (fun i wq => ∃ (j : Nat), j ≤ sq.length ∧ i = .int .i64 j ∧ Below (wo.heap.size + 1) (wo.alloc (.cells #[.int .i64 x, .int .i64 y] 106)) wq ∧ Hid (ms = (sq.drop j).any fun t => !decide (mn y t.2 < mx x t.1))) (fun i _ => sq.length - (intOf i).toNat)
      case atStart => exact ⟨0, by omega, rfl, Below.refl _ _, HM⟩
      case round =>
        obtain ⟨j, hj, rfl, hbel2, hall2⟩ := hrel
        have hz2 := hbel2.size
        simp at hz2
        have HB := hid ((hbel.alloc hz _).trans (hbel2.mono (by omega)))
        have hbw := HB.out
        have hbox2 := (hbel2.cell (p := ⟨w.heap.size + 1, 0, none⟩) (by show w.heap.size + 1 < _; omega)).trans ((World.cell?_alloc_past _ _ _ hwr).trans hbox)
        have hx := hbel2.cell (p := ⟨wo.heap.size, 0, none⟩) (by show wo.heap.size < _; omega)
        have hy := hbel2.cell (p := ⟨wo.heap.size, 1, none⟩) (by show wo.heap.size < _; omega)
        simp at hx hy
        by_cases hjl : j < sq.length
        · obtain ⟨c0, c1⟩ := HC'.out j hjl
          have hd0 := (hbw.cell (p := ⟨h, j * 2, none⟩) hh2).trans c0
          have hd1 := (hbw.cell (p := ⟨h, j * 2 + 1, none⟩) hh2).trans c1
          have HY2 := hid (anyS_yes (f := fun t => !decide (mn y t.2 < mx x t.1)) sq j hjl)
          have HN2 := hid (anyS_no (f := fun t => !decide (mn y t.2 < mx x t.1)) sq j hjl)
          generalize sq[j].1 = p at *
          generalize sq[j].2 = q at *
          have hox : wo.heap.size < wr.heap.size := by omega
          clear c0 c1 hbox
          go_wp2_with fail
          refine (overlap_any _ _ _ _ _).mono ?_
          rintro e w3 ⟨rfl, hb3⟩
          have hz3 := hb3.size
          simp at hz3
          have HBi := hid ((hbel2.alloc (by omega) _).trans (hb3.mono (by simp; omega)))
          have HBx := hid ((hbw.alloc (by omega) _).trans (hb3.mono (by simp; omega)))
          clear hb3
          generalize hmx : mx x p = lo at *
          generalize hmn : mn y q = hi at *
          clear hmx hmn
          go_wp2_with fail
          refine (isEmpty_any _ _ _).mono ?_
          rintro e w4 ⟨rfl, hb4⟩
          have HBi4 := hid ((HBi.out.alloc (by omega) _).trans (hb4.mono (by simp; omega)))
          have HBx4 := hid ((HBx.out.alloc (by omega) _).trans (hb4.mono (by simp; omega)))
          clear hb4
          by_cases hem : hi < lo
          · have HF : Hid (ms = (sq.drop (j + 1)).any fun t => !decide (mn y t.2 < mx x t.1)) := by unfold Hid; rw [hall2.out, HN2.out (by simp [hem])]
            have hd : decide (hi < lo) = true := by simp [hem]
            go_wp2
            go_roundw
            case rel => exact ⟨j + 1, by omega, by go_num, HBi4.out, HF⟩
            case measure => simp [intOf]; omega
          · have HF : Hid (meetP sp sq = true) := by unfold Hid; rw [hall.out, HY.out (by rw [hall2.out, HY2.out (by simp [hem])])]
            have hd : decide (hi < lo) = false := by simp [hem]
            go_wp2
            go_ret
            exact ⟨ret_bool (by rw [HF.out]), HBx4.out⟩
        · have HF : Hid (meetP sp sq = (sp.drop (k + 1)).any (meetS sq)) := by unfold Hid; rw [hall.out, HN.out (by rw [hall2.out, anyS_end sq j hjl])]
          have hwz2 : w.heap.size + 2 ≤ wr.heap.size := by omega
          clear hx hy hbox hall
          go_wp2
          go_roundw
          case rel => exact ⟨k + 1, by omega, by go_num, HB.out, hwz2, hbox2, HF⟩
          case measure => simp [intOf]; omega
    · have HF : Hid (meetP sp sq = false) := by unfold Hid; rw [hall.out, anyS_end sp k hlt]
      go_wp2
      go_ret
      exact ⟨ret_bool (by rw [HF.out]), hbel⟩

/-- Meet of the program: its answer and its error. -/
def meetProg (r s : Tx) : Bool × Int := match rangeP r with
  | none => (false, 1)
  | some sp => match rangeP s with
    | none => (false, 1)
    | some sq => (meetP sp sq, 0)
theorem meetProg1 {r s : Tx} (h : rangeP r = none) : meetProg r s = (false, 1) := by simp [meetProg, h]
theorem meetProg2 {r s : Tx} {sp : List (Int × Int)} (h : rangeP r = some sp) (h' : rangeP s = none) : meetProg r s = (false, 1) := by simp [meetProg, h, h']
theorem meetProg3 {r s : Tx} {sp sq : List (Int × Int)} (h : rangeP r = some sp) (h' : rangeP s = some sq) : meetProg r s = (meetP sp sq, 0) := by simp [meetProg, h, h']

set_option maxHeartbeats 1000000 in
theorem pmeet_any (r s : ByteArray) (w : World) :
    Calls Tryd.prog 15 #[.string r, .string s] w fun e w' => e = .returned (.tuple #[.bool (meetProg (tx r) (tx s)).1, .int .i64 (meetProg (tx r) (tx s)).2]) ∧ Below w.heap.size w w' := by
  have HR := hid (fun w => rparse_any r w)
  have HV := hid (fun w => rparse_any s w)
  rcases hr : rangeP (tx r) with _ | sp
  · rw [meetProg1 hr]
    rw [hr] at HR
    clear hr
    go_enter Tryd.func15, Tryd.ntmps15
    go_wp2_with fail
    refine (HR.out _).mono ?_
    rintro e w1 ⟨xa, xn, xc, rfl, hb1, hsp⟩
    simp only [rok, Option.isSome_none]
    have hz1 := hb1.size
    clear hsp
    go_wp2
    go_ret2
    exact ⟨rfl, hb1.alloc hz1 _⟩
  · have hlen := rangeP_len hr
    have hne : sp ≠ [] := List.length_pos_iff.1 hlen.1
    rw [hr] at HR
    rcases hv : rangeP (tx s) with _ | sq
    · rw [meetProg2 hr hv]
      rw [hv] at HV
      clear hr hv
      go_enter Tryd.func15, Tryd.ntmps15
      go_wp2_with fail
      refine (HR.out _).mono ?_
      rintro e w1 ⟨xa, xn, xc, rfl, hb1, hsp⟩
      simp only [rok, Option.isSome_some]
      have hz1 := hb1.size
      clear hsp
      go_wp2_with fail
      refine (HV.out _).mono ?_
      rintro e w2 ⟨ya, yn, yc, rfl, hb2, hsq⟩
      simp only [rok, Option.isSome_none]
      have hz2 := hb2.size
      simp at hz2
      clear hsq
      have HB := hid ((hb1.alloc hz1 _).trans (hb2.mono (by simp; omega)))
      clear hb1 hb2
      go_wp2
      go_ret2
      exact ⟨rfl, HB.out.alloc (by omega) _⟩
    · have hlen' := rangeP_len hv
      have hne' : sq ≠ [] := List.length_pos_iff.1 hlen'.1
      rw [meetProg3 hr hv]
      rw [hv] at HV
      clear hr hv
      go_enter Tryd.func15, Tryd.ntmps15
      go_wp2_with fail
      refine (HR.out _).mono ?_
      rintro e w1 ⟨xa, xn, xc, rfl, hb1, hsp⟩
      simp only [rok, Option.isSome_some]
      have hz1 := hb1.size
      have HSP := hid (hsp sp rfl)
      clear hsp
      go_wp2_with fail
      refine (HV.out _).mono ?_
      rintro e w2 ⟨ya, yn, yc, rfl, hb2, hsq⟩
      simp only [rok, Option.isSome_some]
      have HSQ := hid (hsq sq rfl)
      clear hsq
      have HSP2 := hid (SpanRow.below (SpanRow.below HSP.out ((Below.refl _ _).alloc (Nat.le_refl _) _)) hb2)
      have HB := hid ((hb1.alloc hz1 _).trans (hb2.mono (by simp; omega)) : Below w.heap.size w w2)
      obtain ⟨hcc, hff⟩ := bcell hb2
      have hz2 := hb2.size
      simp at hcc hz2
      have hb0 := hcc w1.heap.size 0 (by omega)
      simp at hb0
      have h12 : w1.heap.size < w2.heap.size := by omega
      clear hb2 hff hcc
      go_wp2_with fail
      refine (rmeet_any _ _ sp sq _ _ _ (SpanRow.below HSP2.out ((Below.refl _ _).alloc (Nat.le_refl _) _)) hne (by omega) (SpanRow.below HSQ.out ((Below.refl _ _).alloc (Nat.le_refl _) _)) hne' (by omega)).mono ?_
      rintro e w3 ⟨rfl, hb3⟩
      have HB3 := hid ((HB.out.alloc (by omega) _).trans (hb3.mono (by simp; omega)))
      clear hb3
      go_wp2
      go_ret2
      exact ⟨rfl, HB3.out⟩

end Hst
end Go.Proofs.YtecocheolbkneaaDoor
namespace Go.Proofs.YtecocheolbkneaaDoor
namespace Hst

theorem splitL_append (n : Int) (m : UInt8) (hm : (m.toNat : Int) = n) (r : Tx) : ∀ l : Tx, splitL n (l ++ m :: r) = splitL n l ++ splitL n r
  | [] => by simp [splitL, hm]
  | b :: l => by
    have ih := splitL_append n m hm r l
    simp only [List.cons_append, splitL, ih]
    by_cases hb : (b.toNat : Int) = n
    · simp [hb]
    · simp only [if_neg hb]
      rcases hs : splitL n l with _ | ⟨q, qs⟩
      · exact absurd hs (splitL_ne n l)
      · simp
theorem rangeGo_acc : ∀ (d : List Tx) (acc : List (Int × Int)), rangeGo acc d = (rangeGo [] d).map (acc ++ ·)
  | [], acc => by simp [rangeGo]
  | a :: r, acc => by
    simp only [rangeGo]
    rcases altP a with _ | s
    · rfl
    · simp only
      rw [rangeGo_acc r (acc ++ [s]), rangeGo_acc r ([] ++ [s])]
      rcases rangeGo [] r with _ | x
      · rfl
      · simp
theorem rangeGo_append : ∀ (d e : List Tx) (acc sp : List (Int × Int)), rangeGo acc d = some sp → rangeGo acc (d ++ e) = rangeGo sp e
  | [], e, acc, sp, h => by simp [rangeGo] at h; subst h; simp
  | a :: r, e, acc, sp, h => by
    simp only [rangeGo, List.cons_append] at h ⊢
    rcases ha : altP a with _ | s
    · rw [ha] at h; simp at h
    · rw [ha] at h
      exact rangeGo_append r e _ sp h
theorem rangeP_bar {r s : Tx} {sp sq : List (Int × Int)} (hr : rangeP r = some sp) (hs : rangeP s = some sq) (hl : r.length + s.length + 1 ≤ 60) : rangeP (r ++ [124] ++ s) = some (sp ++ sq) := by
  unfold rangeP at hr hs ⊢
  split at hr
  · simp at hr
  · split at hs
    · simp at hs
    · rw [if_neg (by simp; omega)]
      have e : r ++ [124] ++ s = r ++ 124 :: s := by simp
      rw [e, splitL_append 124 124 (by rfl), rangeGo_append _ _ _ _ hr, rangeGo_acc, hs]
      rfl
theorem rangeP_long {l : Tx} (h : 60 < l.length) : rangeP l = none := by unfold rangeP; rw [if_pos h]
theorem rangeP_short {l : Tx} {sp : List (Int × Int)} (h : rangeP l = some sp) : l.length ≤ 60 := by
  unfold rangeP at h
  split at h
  · simp at h
  · omega
theorem fitsP_append (sp sq : List (Int × Int)) (n : Int) : fitsP (sp ++ sq) n = (fitsP sp n || fitsP sq n) := by
  unfold fitsP; rw [List.any_append]
theorem meet_comm (sp sq : List (Int × Int)) : meetP sp sq = meetP sq sp := by
  rw [Bool.eq_iff_iff]
  have key : ∀ a b : List (Int × Int), meetP a b = true → meetP b a = true := by
    intro a b h
    unfold meetP at h ⊢
    rw [List.any_eq_true] at h ⊢
    obtain ⟨x, hx, h⟩ := h
    rw [List.any_eq_true] at h
    obtain ⟨y, hy, h⟩ := h
    refine ⟨y, hy, ?_⟩
    rw [List.any_eq_true]
    refine ⟨x, hx, ?_⟩
    simp at h ⊢
    have e1 : mx y.1 x.1 = mx x.1 y.1 := by unfold mx; split <;> split <;> omega
    have e2 : mn y.2 x.2 = mn x.2 y.2 := by unfold mn; split <;> split <;> omega
    rw [e1, e2]; exact h
  exact ⟨key sp sq, key sq sp⟩
theorem meet_of_fits {sp sq : List (Int × Int)} {n : Int} (h1 : fitsP sp n = true) (h2 : fitsP sq n = true) : meetP sp sq = true := by
  obtain ⟨x, hx, a1, a2⟩ := of_fitsP h1
  obtain ⟨y, hy, b1, b2⟩ := of_fitsP h2
  unfold meetP
  rw [List.any_eq_true]
  refine ⟨x, hx, ?_⟩
  rw [List.any_eq_true]
  refine ⟨y, hy, ?_⟩
  have e1 := (mx_le x.1 y.1 n).2 ⟨a1, b1⟩
  have e2 := (le_mn x.2 y.2 n).2 ⟨a2, b2⟩
  simp
  omega
theorem versionP_placeT {n : Int} (h0 : 0 ≤ n) (h1 : n ≤ 999999) : versionP (placeT n) = some n := by
  unfold placeT
  rw [versionP_verT (by omega) (by omega) (by omega)]
  congr 1
  omega
theorem placeT_len (n : Int) : (placeT n).length ≤ 8 := verT_len _ _ _
theorem fits_ge {n m : Int} {v : Tx} (h0 : 0 ≤ n) (h1 : n ≤ 999999) (hm1 : m ≤ 999999) (hv : versionP v = some m) : fitsProg ([62, 61] ++ placeT n) v = (decide (n ≤ m), 0) := by
  unfold placeT
  have e : (((n / 10000).toNat : Int) * 100 + (n / 100 % 100).toNat) * 100 + (n % 100).toNat = n := by omega
  rw [fits_signed (s := (n, 999999)) (by simp [IsSign]) (by omega) (by omega) (by omega) (by rw [e]; simp [spanOfP]) h0 (by simp) hv]
  simp [inSpan]
  omega
/-- What the laws of low_law give to one range. -/
theorem low_facts (sp : List (Int × Int)) :
    ((lowGo 0 false sp).2 = false ∧ ∀ p, fitsP sp p = false) ∨ ((lowGo 0 false sp).2 = true ∧ fitsP sp (lowGo 0 false sp).1 = true ∧ ∀ p, fitsP sp p = true → (lowGo 0 false sp).1 ≤ p) := by
  obtain ⟨i1, i2, _, i4⟩ := lowGo_spec sp 0 false
  rcases hf : (lowGo 0 false sp).2 with _ | _
  · refine .inl ⟨rfl, fun p => ?_⟩
    rcases hp : fitsP sp p with _ | _
    · rfl
    · obtain ⟨s, hs, a, b⟩ := of_fitsP hp
      have := (i2 hf).2 s hs
      omega
  · refine .inr ⟨rfl, ?_, fun p hp => ?_⟩
    · rcases i1 hf with e | ⟨s, hs, hle, e⟩
      · simp at e
      · rw [e]; exact fitsP_of hs (Int.le_refl _) hle
    · obtain ⟨t, ht, a, b⟩ := of_fitsP hp
      have := i4 t ht (by omega)
      omega
theorem known1 : fitsProg [94, 49, 46, 50, 46, 48] [49, 46, 57, 46, 57] = (true, 0) := by decide +kernel
theorem known2 : fitsProg [94, 49, 46, 50, 46, 48] [50, 46, 48, 46, 48] = (false, 0) := by decide +kernel

end Hst
end Go.Proofs.YtecocheolbkneaaDoor
namespace Go.Proofs.YtecocheolbkneaaDoor
open Go.RowKit
namespace Hst
set_option maxRecDepth 100000

set_option maxHeartbeats 1000000 in
theorem known_any (w : World) :
    Calls Tryd.prog 12 #[] w fun e w' => e = .returned (.bool true) ∧ Below w.heap.size w w' := by
  have H1 : Hid (∀ w, Calls Tryd.prog 14 #[.string ⟨#[94, 49, 46, 50, 46, 48]⟩, .string ⟨#[49, 46, 57, 46, 57]⟩] w fun e w' => e = .returned (.tuple #[.bool true, .int .i64 0]) ∧ Below w.heap.size w w') := by
    intro w
    have h := pfits_any (bs [94, 49, 46, 50, 46, 48]) (bs [49, 46, 57, 46, 57]) w
    rw [tx_bs, tx_bs, known1] at h
    exact h
  have H2 : Hid (∀ w, Calls Tryd.prog 14 #[.string ⟨#[94, 49, 46, 50, 46, 48]⟩, .string ⟨#[50, 46, 48, 46, 48]⟩] w fun e w' => e = .returned (.tuple #[.bool false, .int .i64 0]) ∧ Below w.heap.size w w') := by
    intro w
    have h := pfits_any (bs [94, 49, 46, 50, 46, 48]) (bs [50, 46, 48, 46, 48]) w
    rw [tx_bs, tx_bs, known2] at h
    exact h
  go_enter Tryd.func12, Tryd.ntmps12
  go_wp2_with fail
  refine (H1.out _).mono ?_
  rintro e w1 ⟨rfl, hb1⟩
  go_wp2_with fail
  refine (H2.out _).mono ?_
  rintro e w2 ⟨rfl, hb2⟩
  have HB := hid' (hb1.trans (hb2.mono hb1.size))
  clear hb1 hb2
  go_wp2
  go_ret
  exact ⟨rfl, HB.out⟩

/-- What a call of Fits answers. -/
def FitsAns (r v : ByteArray) (a : Bool) (e : Int) : Prop := ∀ w, Calls Tryd.prog 14 #[.string r, .string v] w fun x w' => x = .returned (.tuple #[.bool a, .int .i64 e]) ∧ Below w.heap.size w w'
def MeetAns (r v : ByteArray) (a : Bool) (e : Int) : Prop := ∀ w, Calls Tryd.prog 15 #[.string r, .string v] w fun x w' => x = .returned (.tuple #[.bool a, .int .i64 e]) ∧ Below w.heap.size w w'
def LowAns (r q : ByteArray) (e : Int) : Prop := ∀ w, Calls Tryd.prog 9 #[.string r] w fun x w' => x = .returned (.tuple #[.string q, .int .i64 e]) ∧ Below w.heap.size w w'
def VerAns (x y z : Int) (v : ByteArray) : Prop := ∀ w, Calls Tryd.prog 13 #[.int .i64 x, .int .i64 y, .int .i64 z] w fun e w' => e = .returned (.string v) ∧ w' = w
theorem fitsAns {r v : ByteArray} {a : Bool} {e : Int} (h : fitsProg (tx r) (tx v) = (a, e)) : FitsAns r v a e := by
  intro w
  have := pfits_any r v w
  rw [h] at this
  exact this
theorem meetAns {r v : ByteArray} {a : Bool} {e : Int} (h : meetProg (tx r) (tx v) = (a, e)) : MeetAns r v a e := by
  intro w
  have := pmeet_any r v w
  rw [h] at this
  exact this
theorem lowAns {r : ByteArray} {q : Tx} {e : Int} (h : lowProg (tx r) = (q, e)) : LowAns r (bs q) e := by
  intro w
  have := plow_any r w
  rw [h] at this
  exact this

set_option maxRecDepth 100000 in
set_option maxHeartbeats 2000000 in
/-- One of the two is no range. -/
theorem sides_no (r s v : ByteArray) (x y z : Int) (w : World) (hv : VerAns x y z v) (a b : Bool) (e f : Int) (h1 : FitsAns r v a e) (h2 : FitsAns s v b f)
    (hc : (e = 1 ∧ a = false ∧ f = 1 ∧ b = false) ∨ (e = 1 ∧ a = false ∧ f = 0) ∨ (e = 0 ∧ f = 1 ∧ b = false)) :
    Calls Tryd.prog 4 #[.string r, .string s, .int .i64 x, .int .i64 y, .int .i64 z] w fun e w' => e = .returned (.bool true) ∧ Below w.heap.size w w' := by
  rcases hc with ⟨rfl, rfl, rfl, rfl⟩ | ⟨rfl, rfl, rfl⟩ | ⟨rfl, rfl, rfl⟩
  all_goals
    go_enter Tryd.func4, Tryd.ntmps4
    go_wp2_with fail
    refine (known_any _).mono ?_
    rintro e w1 ⟨rfl, hb1⟩
    have HB1 := hid' hb1
    clear hb1
    go_wp2_with fail
    refine (hv _).mono ?_
    rintro e w' ⟨rfl, rfl⟩
    go_wp2_with fail
    refine (h1 _).mono ?_
    rintro e w2 ⟨rfl, hb2⟩
    have HB2 := hid' (HB1.out.trans (hb2.mono HB1.out.size))
    clear hb2
    go_wp2_with fail
    refine (h2 _).mono ?_
    rintro e w3 ⟨rfl, hb3⟩
    have HB3 := hid' (HB2.out.trans (hb3.mono HB2.out.size))
    clear hb3
    go_wp2
    go_ret
    exact ⟨rfl, HB3.out⟩

set_option maxRecDepth 100000 in
set_option maxHeartbeats 4000000 in
/-- Both are ranges, and nothing fits the first. -/
theorem sides_none (r s v : ByteArray) (x y z : Int) (w : World) (hv : VerAns x y z v) (a b c m : Bool) (g : Int) (h1 : FitsAns r v a 0) (h2 : FitsAns s v b 0) (h3 : FitsAns (r ++ ⟨#[124]⟩ ++ s) v c g)
    (hm1 : MeetAns r s m 0) (hm2 : MeetAns s r m 0) (hr : r.size ≤ 60) (hs : s.size ≤ 60) (hlen : (r.size + s.size + 1 ≤ 60 ∧ g = 0 ∧ c = (a || b)) ∨ (60 < r.size + s.size + 1 ∧ g = 1 ∧ c = false))
    (ha : a = false) (q : ByteArray) (hq : q.toList.isEmpty = true) (hlo : LowAns r q 3) :
    Calls Tryd.prog 4 #[.string r, .string s, .int .i64 x, .int .i64 y, .int .i64 z] w fun e w' => e = .returned (.bool true) ∧ Below w.heap.size w w' := by
  subst ha
  rcases hlen with ⟨hl, rfl, rfl⟩ | ⟨hl, rfl, rfl⟩
  all_goals
    try simp only [Bool.false_or] at h3
    go_enter Tryd.func4, Tryd.ntmps4
    go_wp2_with fail
    refine (known_any _).mono ?_
    rintro e w1 ⟨rfl, hb1⟩
    have HB1 := hid' hb1
    clear hb1
    go_wp2_with fail
    refine (hv _).mono ?_
    rintro e w' ⟨rfl, rfl⟩
    go_wp2_with fail
    refine (h1 _).mono ?_
    rintro e w2 ⟨rfl, hb2⟩
    have HB2 := hid' (HB1.out.trans (hb2.mono HB1.out.size))
    clear hb2
    go_wp2_with fail
    refine (h2 _).mono ?_
    rintro e w3 ⟨rfl, hb3⟩
    have HB3 := hid' (HB2.out.trans (hb3.mono HB2.out.size))
    clear hb3
    go_wp2_with fail
    refine (h3 _).mono ?_
    rintro e w4 ⟨rfl, hb4⟩
    have HB4 := hid' (HB3.out.trans (hb4.mono HB3.out.size))
    clear hb4
    go_wp2_with fail
    refine (hm1 _).mono ?_
    rintro e w5 ⟨rfl, hb5⟩
    have HB5 := hid' (HB4.out.trans (hb5.mono HB4.out.size))
    clear hb5
    go_wp2_with fail
    refine (hm2 _).mono ?_
    rintro e w6 ⟨rfl, hb6⟩
    have HB6 := hid' (HB5.out.trans (hb6.mono HB5.out.size))
    clear hb6
    go_wp2_with fail
    refine (hlo _).mono ?_
    rintro e w7 ⟨rfl, hb7⟩
    have HB7 := hid' (HB6.out.trans (hb7.mono HB6.out.size))
    clear hb7
    go_wp2
    go_ret
    exact ⟨rfl, HB7.out⟩

set_option maxRecDepth 100000 in
set_option maxHeartbeats 4000000 in
/-- Both are ranges, and the first has a lowest version. -/
theorem sides_some (r s v : ByteArray) (x y z : Int) (w : World) (hv : VerAns x y z v) (a b c m : Bool) (g : Int) (h1 : FitsAns r v a 0) (h2 : FitsAns s v b 0) (h3 : FitsAns (r ++ ⟨#[124]⟩ ++ s) v c g)
    (hm1 : MeetAns r s m 0) (hm2 : MeetAns s r m 0) (hr : r.size ≤ 60) (hs : s.size ≤ 60) (hlen : (r.size + s.size + 1 ≤ 60 ∧ g = 0 ∧ c = (a || b)) ∨ (60 < r.size + s.size + 1 ∧ g = 1 ∧ c = false))
    (hmm : a = true → b = true → m = true) (q : ByteArray) (hlo : LowAns r q 0) (hq : q.size ≤ 8) (h4 : FitsAns r q true 0) (up : Bool) (h5 : FitsAns (⟨#[62, 61]⟩ ++ q) v up 0) (hup : a = true → up = true) :
    Calls Tryd.prog 4 #[.string r, .string s, .int .i64 x, .int .i64 y, .int .i64 z] w fun e w' => e = .returned (.bool true) ∧ Below w.heap.size w w' := by
  have hcs : (a = false ∧ up = false) ∨ (a = false ∧ up = true) ∨ (a = true ∧ up = true ∧ b = false) ∨ (a = true ∧ up = true ∧ b = true ∧ m = true) := by
    cases a <;> cases up <;> cases b <;> simp_all
  clear hmm hup
  rcases hcs with ⟨rfl, rfl⟩ | ⟨rfl, rfl⟩ | ⟨rfl, rfl, rfl⟩ | ⟨rfl, rfl, rfl, rfl⟩
  all_goals
    rcases hlen with ⟨hl, rfl, rfl⟩ | ⟨hl, rfl, rfl⟩
    all_goals
      try simp only [Bool.true_or] at h3
      go_enter Tryd.func4, Tryd.ntmps4
      go_wp2_with fail
      refine (known_any _).mono ?_
      rintro e w1 ⟨rfl, hb1⟩
      have HB1 := hid' hb1
      clear hb1
      go_wp2_with fail
      refine (hv _).mono ?_
      rintro e w' ⟨rfl, rfl⟩
      go_wp2_with fail
      refine (h1 _).mono ?_
      rintro e w2 ⟨rfl, hb2⟩
      have HB2 := hid' (HB1.out.trans (hb2.mono HB1.out.size))
      clear hb2
      go_wp2_with fail
      refine (h2 _).mono ?_
      rintro e w3 ⟨rfl, hb3⟩
      have HB3 := hid' (HB2.out.trans (hb3.mono HB2.out.size))
      clear hb3
      go_wp2_with fail
      refine (h3 _).mono ?_
      rintro e w4 ⟨rfl, hb4⟩
      have HB4 := hid' (HB3.out.trans (hb4.mono HB3.out.size))
      clear hb4
      go_wp2_with fail
      refine (hm1 _).mono ?_
      rintro e w5 ⟨rfl, hb5⟩
      have HB5 := hid' (HB4.out.trans (hb5.mono HB4.out.size))
      clear hb5
      go_wp2_with fail
      refine (hm2 _).mono ?_
      rintro e w6 ⟨rfl, hb6⟩
      have HB6 := hid' (HB5.out.trans (hb6.mono HB5.out.size))
      clear hb6
      go_wp2_with fail
      refine (hlo _).mono ?_
      rintro e w7 ⟨rfl, hb7⟩
      have HB7 := hid' (HB6.out.trans (hb7.mono HB6.out.size))
      clear hb7
      go_wp2_with fail
      refine (h4 _).mono ?_
      rintro e w8 ⟨rfl, hb8⟩
      have HB8 := hid' (HB7.out.trans (hb8.mono HB7.out.size))
      clear hb8
      go_wp2_with fail
      refine (h5 _).mono ?_
      rintro e w9 ⟨rfl, hb9⟩
      have HB9 := hid' (HB8.out.trans (hb9.mono HB8.out.size))
      clear hb9
      go_wp2
      go_ret
      exact ⟨rfl, HB9.out⟩

end Hst
end Go.Proofs.YtecocheolbkneaaDoor
