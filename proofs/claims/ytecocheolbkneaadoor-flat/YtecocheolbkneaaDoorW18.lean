/- Pstockc, Pstockd, Pstocke, Ptreec -/
import Derived.Test.YtecocheolbkneaaDoorW16
import Derived.Test.YtecocheolbkneaaDoorW17
import Derived.Test.YtecocheolbkneaaDoorW15
namespace Go.Proofs.YtecocheolbkneaaDoor
open Go.RowKit
namespace Hst
set_option maxRecDepth 100000

theorem RowX.ents {w : World} {v : Value} {l : List EntX} (h : RowX entXC 3 128 w v l) {k : Nat} (hk : k < l.length) :
    ∃ g o cap, v = .slice (some ⟨g, o, none⟩) l.length cap ∧ g < w.heap.size ∧ ∀ (j : Nat) (hj : j < l.length), w.cell? ⟨g, o + j * 3, none⟩ = some (.string (bs l[j].name)) ∧ w.cell? ⟨g, o + j * 3 + 1, none⟩ = some (.int .i64 l[j].ver) ∧ w.cell? ⟨g, o + j * 3 + 2, none⟩ = some l[j].needs := by
  obtain ⟨g, o, cap, hv, hg, hc⟩ := h.cells entXC_len hk
  exact ⟨g, o, cap, hv, hg, fun j hj => ⟨hc j hj 0 (by omega), hc j hj 1 (by omega), hc j hj 2 (by omega)⟩⟩
theorem ft_yes (l : List EntX) (n : NeedX) (k : Nat) (hk : k < l.length) (h : l[k].name = n.name) (h' : fitsP n.spans l[k].ver = true) : fittingP (l.drop k) n = l[k] :: fittingP (l.drop (k + 1)) n := by
  rw [List.drop_eq_getElem_cons hk]; unfold fittingP; rw [List.filter_cons]; simp [h, h']
theorem ft_no (l : List EntX) (n : NeedX) (k : Nat) (hk : k < l.length) (h : ¬ (l[k].name = n.name ∧ fitsP n.spans l[k].ver = true)) : fittingP (l.drop k) n = fittingP (l.drop (k + 1)) n := by
  rw [List.drop_eq_getElem_cons hk]; unfold fittingP; rw [List.filter_cons]
  have : (decide (l[k].name = n.name) && fitsP n.spans l[k].ver) = false := by
    by_cases h1 : l[k].name = n.name
    · by_cases h2 : fitsP n.spans l[k].ver = true
      · exact absurd ⟨h1, h2⟩ h
      · simp [h2]
    · simp [h1]
  rw [this]; rfl
theorem ft_end (l : List EntX) (n : NeedX) (k : Nat) (hk : ¬ k < l.length) : fittingP (l.drop k) n = [] := by
  rw [List.drop_of_length_le (by omega)]; rfl
theorem fitting_mem {l : List EntX} {n : NeedX} {e : EntX} (h : e ∈ fittingP l n) : e ∈ l := (List.mem_filter.1 h).1
theorem fitting_len (l : List EntX) (n : NeedX) : (fittingP l n).length ≤ l.length := List.length_filter_le _ _

set_option maxHeartbeats 2000000 in
theorem fitting_any' (v : Value) (l : List EntX) (x : NeedX) (w : World) (hl : EntsIn w v l) (hx : NeedIn w x) (hn : l.length ≤ 100000) :
    Calls Tryd.prog 122 #[.agg #[v], needXV x] w fun e w' => ∃ v', e = .returned v' ∧ w'.ownsRow w.heap.size 128 3 v' (fittingP l x).length ((fittingP l x).flatMap entXC) ∧ (∀ e ∈ fittingP l x, EntIn w' e) ∧ Below w.heap.size w w' := by
  obtain ⟨i0, hi, hz0, hz1, hz2⟩ := info_parts info_entX
  obtain ⟨a, cap, rfl⟩ := hl.1.form
  obtain ⟨xa, xc, hxf⟩ := hx.form
  have HL := hid' hl
  have HX := hid' hx
  have HXN : Hid (∀ w', NeedIn w' x → ∀ n, Calls Tryd.prog 41 #[.agg #[x.sp], .int .i64 n] w' fun e w'' => e = .returned (.bool (fitsP x.spans n)) ∧ Below w'.heap.size w' w'') := fun w' h n => fitsX_any x.sp n x.spans w' h.sp h.ne (by have := h.le; omega)
  obtain ⟨xn, xsp, xs, xt⟩ := x
  simp only at hxf HXN
  subst hxf
  clear hl hx
  go_enter Tryd.func122, Tryd.ntmps122
  go_wp2
  have hbw := ((Below.refl w.heap.size w).alloc (Nat.le_refl _) (.cells #[.slice a l.length cap] 93)).alloc (by simp) (.cells #[.string (bs xn), .slice xa xs.length xc, .string (bs xt)] 86)
  have e0 : ((w.alloc (.cells #[.slice a l.length cap] 93)).alloc (.cells #[.string (bs xn), .slice xa xs.length xc, .string (bs xt)] 86)).cell? ⟨w.heap.size + 1, 0, none⟩ = some (.string (bs xn)) := by simp
  have e1 : ((w.alloc (.cells #[.slice a l.length cap] 93)).alloc (.cells #[.string (bs xn), .slice xa xs.length xc, .string (bs xt)] 86)).cell? ⟨w.heap.size + 1, 1, none⟩ = some (.slice xa xs.length xc) := by simp
  have hsz : ((w.alloc (.cells #[.slice a l.length cap] 93)).alloc (.cells #[.string (bs xn), .slice xa xs.length xc, .string (bs xt)] 86)).heap.size = w.heap.size + 2 := by simp
  generalize (w.alloc (.cells #[.slice a l.length cap] 93)).alloc (.cells #[.string (bs xn), .slice xa xs.length xc, .string (bs xt)] 86) = W at *
  have HW := hid' hbw
  have HL1 := hid' (HL.out.below hbw)
  have HX1 := hid' (HX.out.below hbw)
  have HS := hid' hsz
  clear hbw
  generalize hx0 : (⟨xn, .slice xa xs.length xc, xs, xt⟩ : NeedX) = x0 at *
  have HX0 := hid' hx0
  clear hx0
  go_loopw [5, 11] (fun v i wr => ∃ (k : Nat) (acc : List EntX), k ≤ l.length ∧ acc.length ≤ k ∧ i = .int .i64 k ∧ wr.ownsRow W.heap.size 128 3 v acc.length (acc.flatMap entXC) ∧ Below W.heap.size W wr ∧ Hid (fittingP l x0 = acc ++ fittingP (l.drop k) x0)) (fun _ i _ => l.length - (intOf i).toNat)
  case atStart => exact ⟨0, [], Nat.zero_le _, by simp, rfl, World.ownsRow_nil _ _ _ _, Below.refl _ _, rfl⟩
  case round =>
    obtain ⟨k, acc, hk, hacc, rfl, hown, hbel, hall⟩ := hrel
    have hz := hbel.size
    have hwz : w.heap.size + 1 < W.heap.size := by have := HS.out; omega
    have hwr : w.heap.size + 1 < wr.heap.size := by omega
    obtain ⟨hcc, -⟩ := bcell hbel
    have d0 := (hcc (w.heap.size + 1) 0 hwz).trans e0
    have d1 := (hcc (w.heap.size + 1) 1 hwz).trans e1
    clear hcc
    by_cases hlt : k < l.length
    · obtain ⟨g, o, cap', hv, hg, hc⟩ := (HL1.out.below hbel).1.ents hlt
      simp at hv
      obtain ⟨rfl, rfl⟩ := hv
      obtain ⟨c0, c1, c2⟩ := hc k hlt
      obtain ⟨sa, sc, hsp⟩ := (HL.out.2 l[k] (List.getElem_mem hlt)).form
      clear hc
      by_cases he : l[k].name = xn
      · have hb : ((bs l[k].name).toList == (bs xn).toList) = true := by rw [he]; simp
        have hen : l[k].name = x0.name := by rw [← HX0.out]; exact he
        have hba := (Below.refl wr.heap.size wr).alloc (Nat.le_refl _) (.cells #[.string (bs l[k].name), .int .i64 l[k].ver, .slice sa l[k].nd.length sc] 128)
        have hfp : fitsP x0.spans l[k].ver = fitsP xs l[k].ver := by rw [← HX0.out]
        have HFT := hid' (HXN.out _ ((HX1.out.below hbel).below hba) l[k].ver)
        have hy := ft_yes l x0 k hlt hen
        have hno := ft_no l x0 k hlt
        rw [hfp] at hy hno
        rcases hff : fitsP xs l[k].ver with _ | _
        · have HF : Hid (fittingP l x0 = acc ++ fittingP (l.drop (k + 1)) x0) := by unfold Hid; rw [hall.out, hno (by rw [hff]; simp)]
          rw [hff] at HFT
          clear hall he hen hfp hy hno hff hba
          generalize l[k] = y at *
          obtain ⟨yn, yv, ysp, yd⟩ := y
          simp only at hsp c0 c1 c2 hb HFT
          subst hsp
          go_wp2_with fail
          refine HFT.out.mono ?_
          rintro e w1 ⟨rfl, hb1⟩
          have hba := ((Below.refl wr.heap.size wr).alloc (Nat.le_refl _) (.cells #[.string (bs yn), .int .i64 yv, .slice sa yd.length sc] 128)).trans (hb1.mono (by simp))
          have hown1 := own_below hown hba
          have HB1 := hid' (hbel.trans (hba.mono hz))
          clear hb1 hba hbel hown
          go_wp2
          go_roundw
          case rel => exact ⟨k + 1, acc, by omega, by omega, by go_num, hown1, HB1.out, HF⟩
          case measure => simp [intOf] <;> omega
        · have HF : Hid (fittingP l x0 = (acc ++ [l[k]]) ++ fittingP (l.drop (k + 1)) x0) := by unfold Hid; rw [hall.out, hy hff]; simp
          rw [hff] at HFT
          clear hall he hen hfp hy hno hff hba
          generalize l[k] = y at *
          obtain ⟨yn, yv, ysp, yd⟩ := y
          simp only at hsp c0 c1 c2 hb HFT
          subst hsp
          go_wp2_with fail
          refine HFT.out.mono ?_
          rintro e w1 ⟨rfl, hb1⟩
          have q0 := (bcell hb1).1 wr.heap.size 0 (by simp)
          have q1 := (bcell hb1).1 wr.heap.size 1 (by simp)
          have q2 := (bcell hb1).1 wr.heap.size 2 (by simp)
          simp at q0 q1 q2
          have hba := ((Below.refl wr.heap.size wr).alloc (Nat.le_refl _) (.cells #[.string (bs yn), .int .i64 yv, .slice sa yd.length sc] 128)).trans (hb1.mono (by simp))
          have hown1 := own_below hown hba
          have HB1 := hid' hba
          have hzq : wr.heap.size < w1.heap.size := by have := hb1.size; simp at this; omega
          clear hb1 hba
          go_wp2_with (first | (at_builtin; refine wpList_append_lies _ rfl _ _ 91 rfl W.heap.size 128 i0 (.agg #[.string ByteArray.empty, .int .i64 0, .slice none 0 0]) 3 48 Tryd.underlying91 hi hz0 hz1 hz2 rfl (by omega) _ _ _ rfl (hown1.alloc _) ⟨w1.heap.size, 0, none⟩ 1 1 [.string (bs yn), .int .i64 yv, .slice sa yd.length sc] rfl rfl (news_3 _ _ _ _ _) (entX_one ⟨yn, yv, _, yd⟩ rfl) (by omega) (by unfold maxLen; omega) (by omega) (by simp; omega) (w1.heap.size + 1) (by simp) ?_; intro g1 cap1 w3 hown3 hgrow hat hlt1))
          have R := step_gen2 entXC (x := ⟨yn, yv, .slice sa yd.length sc, yd⟩) rfl hown hbel (HB1.out.alloc (by omega) _) hown3 hgrow
          clear hown3 hgrow hown hown1 hbel
          go_wp2
          go_roundw
          case rel => exact ⟨k + 1, _, by omega, by simp; omega, by go_num, R.1, R.2, HF⟩
          case measure => simp [intOf] <;> omega
      · have HF : Hid (fittingP l x0 = acc ++ fittingP (l.drop (k + 1)) x0) := by unfold Hid; rw [hall.out, ft_no l x0 k hlt (fun h => he (by have := h.1; rw [← HX0.out] at this; exact this))]
        have hb : ((bs l[k].name).toList == (bs xn).toList) = false := by rw [tx_toList, tx_toList, tx_bs, tx_bs]; simp [he]
        clear he hall
        generalize l[k] = y at *
        go_wp2
        go_roundw
        case rel => exact ⟨k + 1, acc, by omega, by omega, by go_num, hown.alloc _, hbel.alloc hz _, HF⟩
        case measure => simp [intOf] <;> omega
    · have HF : Hid (fittingP l x0 = acc) := by unfold Hid; rw [hall.out, ft_end l x0 k hlt]; simp
      have HR := hid' (And.intro hown hbel)
      have HB := hid' (HW.out.trans (hbel.mono (by omega)))
      clear hown hbel hall
      go_wp2
      go_ret
      refine ⟨_, rfl, ?_, fun e he => ?_, HB.out⟩
      · rw [HX0.out, HF.out]; exact own_mono HR.out.1 (by omega)
      · exact (HL.out.2 e (fitting_mem he)).below HB.out

end Hst
end Go.Proofs.YtecocheolbkneaaDoor
namespace Go.Proofs.YtecocheolbkneaaDoor
open Go.RowKit
namespace Hst
set_option maxRecDepth 100000

theorem tg_one (l : List EntX) (k : Nat) (hk : k < l.length) (h : twiceX l[k].nd = true) : twGo (l.take k) (l.drop k) = true := by
  rw [List.drop_eq_getElem_cons hk, twGo, h]; rfl
theorem tg_two (l : List EntX) (k : Nat) (hk : k < l.length) (h : (l.take k).any (fun f => sameX f l[k]) = true) : twGo (l.take k) (l.drop k) = true := by
  rw [List.drop_eq_getElem_cons hk, twGo, h]; simp
theorem tg_no (l : List EntX) (k : Nat) (hk : k < l.length) (h : twiceX l[k].nd = false) (h' : (l.take k).any (fun f => sameX f l[k]) = false) : twGo (l.take k) (l.drop k) = twGo (l.take (k + 1)) (l.drop (k + 1)) := by
  rw [List.drop_eq_getElem_cons hk, twGo, h, h', List.take_succ_eq_append_getElem hk]; rfl
theorem tg_end (l : List EntX) (k : Nat) (hk : ¬ k < l.length) : twGo (l.take k) (l.drop k) = false := by
  rw [List.drop_of_length_le (by omega)]; rfl
theorem ean_yes (l : List EntX) (e : EntX) (k j : Nat) (hj : j < k) (hk : k ≤ l.length) (h : sameX l[j] e = true) : ((l.take k).drop j).any (fun f => sameX f e) = true := by
  rw [List.drop_eq_getElem_cons (by simp; omega), List.any_cons]
  have : (l.take k)[j]'(by simp; omega) = l[j] := by simp
  rw [this, h]; rfl
theorem ean_no (l : List EntX) (e : EntX) (k j : Nat) (hj : j < k) (hk : k ≤ l.length) (h : sameX l[j] e = false) : ((l.take k).drop j).any (fun f => sameX f e) = ((l.take k).drop (j + 1)).any (fun f => sameX f e) := by
  rw [List.drop_eq_getElem_cons (by simp; omega), List.any_cons]
  have : (l.take k)[j]'(by simp; omega) = l[j] := by simp
  rw [this, h]; rfl
theorem ean_end (l : List EntX) (e : EntX) (k j : Nat) (hj : ¬ j < k) : ((l.take k).drop j).any (fun f => sameX f e) = false := by
  rw [List.drop_of_length_le (by simp; omega)]; rfl
theorem same_t {f e : EntX} (h : f.name = e.name) (h' : f.ver = e.ver) : sameX f e = true := by simp [sameX, h, h']
theorem same_f1 {f e : EntX} (h : ¬ f.name = e.name) : sameX f e = false := by simp [sameX, h]
theorem same_f2 {f e : EntX} (h : ¬ f.ver = e.ver) : sameX f e = false := by simp [sameX, h]

set_option maxHeartbeats 4000000 in
theorem twice_any (v : Value) (l : List EntX) (w : World) (hl : EntsIn w v l) (hn : l.length ≤ 100000) :
    Calls Tryd.prog 87 #[v] w fun e w' => e = .returned (.bool (twGo [] l)) ∧ Below w.heap.size w w' := by
  obtain ⟨a, cap, rfl⟩ := hl.1.form
  have HL := hid' hl
  clear hl
  go_enter Tryd.func87, Tryd.ntmps87
  go_wp2
  go_loopw [9] (fun i wr => ∃ k : Nat, k ≤ l.length ∧ i = .int .i64 k ∧ Below w.heap.size w wr ∧ Hid (twGo [] l = twGo (l.take k) (l.drop k))) (fun i _ => l.length - (intOf i).toNat)
  case atStart => exact ⟨0, Nat.zero_le _, rfl, Below.refl _ _, rfl⟩
  case round =>
    obtain ⟨k, hk, rfl, hbel, hall⟩ := hrel
    have hz := hbel.size
    by_cases hlt : k < l.length
    · obtain ⟨g, o, cap', hv, hg, hc⟩ := (HL.out.below hbel).1.ents hlt
      simp at hv
      obtain ⟨rfl, rfl⟩ := hv
      obtain ⟨c0, c1, c2⟩ := hc k hlt
      have hin := HL.out.2 l[k] (List.getElem_mem hlt)
      obtain ⟨sa, sc, hsp⟩ := hin.form
      have hba := (Below.refl wr.heap.size wr).alloc (Nat.le_refl _) (.cells #[.string (bs l[k].name), .int .i64 l[k].ver, l[k].needs] 128)
      have HTW := hid' (twiceX_any l[k].needs l[k].nd _ ((hin.1.below hbel).below hba) (by have := hin.2.1; omega))
      have HT1 := hid' (tg_one l k hlt)
      have HT2 := hid' (tg_two l k hlt)
      have HT3 := hid' (tg_no l k hlt)
      have HC := hid' hc
      have HBA := hid' (hbel.alloc hz (.cells #[.string (bs l[k].name), .int .i64 l[k].ver, l[k].needs] 128))
      have HY := hid' (fun j hj => ean_yes l l[k] k j hj hk)
      have HN := hid' (fun j hj => ean_no l l[k] k j hj hk)
      have HEN := hid' (fun j => ean_end l l[k] k j)
      have hcap : l.length ≤ cap := by
        obtain ⟨a', cp, e', hr, _⟩ := HL.out.1
        simp at e'
        rw [e'.2]; exact hr.cap
      clear hc hin hba
      rcases htw : twiceX l[k].nd with _ | _
      · rw [htw] at HTW HT3
        have k0 : (0 : Int) ≤ (k : Int) := by omega
        have k1 : (k : Int) ≤ (l.length : Int) := by omega
        have k2 : (k : Int) ≤ (cap : Int) := by omega
        have HALL := hall
        clear htw HT1 hall
        generalize hek : l[k] = y at *
        obtain ⟨yn, yv, ysp, yd⟩ := y
        simp only at hsp c0 c1 c2 HTW HBA
        subst hsp
        go_wp2_with fail
        refine HTW.out.mono ?_
        rintro e w1 ⟨rfl, hb1⟩
        have q0 := (bcell hb1).1 wr.heap.size 0 (by simp)
        have q1 := (bcell hb1).1 wr.heap.size 1 (by simp)
        simp at q0 q1
        have hzq : wr.heap.size < w1.heap.size := by have := hb1.size; simp at this; omega
        have HB1 := hid' (HBA.out.trans (hb1.mono (by simp; omega)))
        clear hb1 c0 c1 c2
        obtain ⟨wo, rfl⟩ : ∃ wo, wo = wr := ⟨_, rfl⟩
        go_wp2
        go_loopw [21] (fun i wr => ∃ j : Nat, j ≤ k ∧ i = .int .i64 j ∧ Below w1.heap.size w1 wr ∧ Hid ((l.take k).any (fun f => sameX f ⟨yn, yv, .slice sa yd.length sc, yd⟩) = ((l.take k).drop j).any (fun f => sameX f ⟨yn, yv, .slice sa yd.length sc, yd⟩))) (fun i _ => k - (intOf i).toNat)
        case atStart => exact ⟨0, Nat.zero_le _, rfl, Below.refl _ _, rfl⟩
        case round =>
          obtain ⟨j, hj, rfl, hbel2, hall⟩ := hrel
          have hz2 := hbel2.size
          have p0 := ((bcell hbel2).1 wo.heap.size 0 hzq).trans q0
          have p1 := ((bcell hbel2).1 wo.heap.size 1 hzq).trans q1
          have hzr : wo.heap.size < wr.heap.size := by omega
          have HB2 := hid' (HB1.out.trans (hbel2.mono (by omega)))
          by_cases hjk : j < k
          · have hjl : j < l.length := by omega
            obtain ⟨g', o', cap', hv, hg', hc⟩ := (HL.out.below HB2.out).1.ents hjl
            simp at hv
            obtain ⟨⟨rfl, rfl⟩, rfl⟩ := hv
            obtain ⟨c0, c1, c2⟩ := hc j hjl
            obtain ⟨ta, tc, htp⟩ := (HL.out.2 l[j] (List.getElem_mem hjl)).form
            have HYj := hid' (HY.out j hjk)
            have HNj := hid' (HN.out j hjk)
            clear hc
            by_cases he : l[j].name = yn
            · have hb : ((bs l[j].name).toList == (bs yn).toList) = true := by rw [he]; simp
              by_cases hv : l[j].ver = yv
              · have HF : Hid (twGo [] l = true) := by unfold Hid; rw [HALL.out]; exact HT2.out (by rw [hall.out]; exact HYj.out (same_t he hv))
                have hb2 : (l[j].ver == yv) = true := by simp [hv]
                clear he hall hv HYj HNj
                generalize l[j] = z at *
                go_wp2
                go_ret
                exact ⟨ret_bool (by rw [HF.out]), HB2.out.alloc (by omega) _⟩
              · have HF : Hid ((l.take k).any (fun f => sameX f ⟨yn, yv, .slice sa yd.length sc, yd⟩) = ((l.take k).drop (j + 1)).any (fun f => sameX f ⟨yn, yv, .slice sa yd.length sc, yd⟩)) := by unfold Hid; rw [hall.out]; exact HNj.out (same_f2 hv)
                have hb2 : (l[j].ver == yv) = false := beq_eq_false_iff_ne.2 hv
                clear he hall hv HYj HNj
                generalize l[j] = z at *
                go_wp2
                go_roundw
                case rel => exact ⟨j + 1, by omega, by go_num, hbel2.alloc (by omega) _, HF⟩
                case measure => simp [intOf] <;> omega
            · have HF : Hid ((l.take k).any (fun f => sameX f ⟨yn, yv, .slice sa yd.length sc, yd⟩) = ((l.take k).drop (j + 1)).any (fun f => sameX f ⟨yn, yv, .slice sa yd.length sc, yd⟩)) := by unfold Hid; rw [hall.out]; exact HNj.out (same_f1 he)
              have hb : ((bs l[j].name).toList == (bs yn).toList) = false := by rw [tx_toList, tx_toList, tx_bs, tx_bs]; simp [he]
              clear he hall HYj HNj
              generalize l[j] = z at *
              go_wp2
              go_roundw
              case rel => exact ⟨j + 1, by omega, by go_num, hbel2.alloc (by omega) _, HF⟩
              case measure => simp [intOf] <;> omega
          · have HF : Hid (twGo [] l = twGo (l.take (k + 1)) (l.drop (k + 1))) := by unfold Hid; rw [HALL.out]; exact HT3.out trivial (by rw [hall.out]; exact HEN.out j hjk)
            clear hall
            go_wp2
            go_roundw
            case rel => exact ⟨k + 1, by omega, by go_num, HB2.out, HF⟩
            case measure => simp [intOf] <;> omega
      · have HF : Hid (twGo [] l = true) := by unfold Hid; rw [hall.out]; exact HT1.out htw
        rw [htw] at HTW
        clear htw HT1 HT2 HT3 hall HY HN HEN
        generalize l[k] = y at *
        obtain ⟨yn, yv, ysp, yd⟩ := y
        simp only at hsp c0 c1 c2 HTW HBA
        subst hsp
        go_wp2_with fail
        refine HTW.out.mono ?_
        rintro e w1 ⟨rfl, hb1⟩
        have HB1 := hid' (HBA.out.trans (hb1.mono (by simp; omega)))
        clear hb1
        go_wp2
        go_ret
        exact ⟨ret_bool (by rw [HF.out]), HB1.out⟩
    · have HF : Hid (twGo [] l = false) := by unfold Hid; rw [hall.out, tg_end l k hlt]
      go_wp2
      go_ret
      exact ⟨ret_bool (by rw [HF.out]), hbel⟩

end Hst
end Go.Proofs.YtecocheolbkneaaDoor
namespace Go.Proofs.YtecocheolbkneaaDoor
open Go.RowKit
namespace Hst
set_option maxRecDepth 100000

/-- What stocks.Parse answers. -/
def StockAns (l : Tx) (k : Int) (w' : World) (v : Value) : Prop :=
  (4000 < l.length ∧ k = 4) ∨ (l.length ≤ 4000 ∧ stockOkP l = false ∧ k = 5) ∨
  (l.length ≤ 4000 ∧ stockOkP l = true ∧ ∃ es, StockOf l es ∧ es.length ≤ 40 ∧ ((twGo [] es = true ∧ k = 6) ∨ (twGo [] es = false ∧ k = 0 ∧ EntsIn w' v es)))
theorem EntsIn.off {w w' : World} {b : Nat} {t : TypeId} {v : Value} {l : List EntX} (h : EntsIn w v l) (hb : But b w w') (ht : tagOf w b = some t) (h1 : t ≠ 86) (h2 : t ≠ 106) (h3 : t ≠ 128) : EntsIn w' v l :=
  ⟨RowX.off h.1 hb (by rw [ht]; simpa using h3), fun e he => (h.2 e he).off hb (odd_of ht h1 h2)⟩

set_option maxHeartbeats 2000000 in
theorem sparse_any (s : ByteArray) (w : World) :
    Calls Tryd.prog 72 #[.string s] w fun e w' => ∃ a n c k, e = .returned (.tuple #[.agg #[.slice a n c], .int .i64 k]) ∧ Below w.heap.size w w' ∧ StockAns (tx s) k w' (.slice a n c) := by
  by_cases h4 : 4000 < s.size
  · have h4' : (4000 : Int) < (s.size : Int) := by omega
    have HF : Hid (4000 < (tx s).length) := by unfold Hid; rw [tx_length]; exact h4
    go_enter Tryd.func72, Tryd.ntmps72
    go_wp2
    refine bodyPost_ret (v := .tuple #[.agg #[.slice none 0 0], .int .i64 4]) (by simp [results, Tryd.results72, go_sem]) rfl ⟨none, 0, 0, 4, rfl, ?_, .inl ⟨HF.out, rfl⟩⟩
    repeat refine Below.setCell ?_ (by simp) _
    exact (Below.refl _ _).alloc (Nat.le_refl _) _
  · have h4' : ¬ (4000 : Int) < (s.size : Int) := by omega
    have HF : Hid ((tx s).length ≤ 4000) := by unfold Hid; rw [tx_length]; omega
    have HPE := hid' (fun w => pentries_any s w (by omega))
    go_enter Tryd.func72, Tryd.ntmps72
    go_wp2_with fail
    refine (HPE.out _).mono ?_
    rintro e w1 ⟨a, n, c, rfl, hb1, hes⟩
    have c0 := (bcell hb1).1 w.heap.size 0 (by simp)
    have f0 := (bcell hb1).2 w.heap.size 0 (by simp)
    simp at c0 f0
    have hz1 := hb1.size
    simp at hz1
    have hzq : w.heap.size < w1.heap.size := by omega
    have HB1 := hid' (((Below.refl _ _).alloc (Nat.le_refl _) _).trans (hb1.mono (by simp)) : Below w.heap.size w w1)
    have HT1 : Hid (tagOf w1 w.heap.size = some 93) := by
      unfold Hid
      rw [tagOf_below hb1 (by simp)]
      exact tag_new _ _ _
    clear hb1
    rcases hok : stockOkP (tx s) with _ | _
    · have HO := hid' hok
      clear hok hes
      go_wp2
      refine bodyPost_ret (v := .tuple #[.agg #[.slice none 0 0], .int .i64 5]) (by simp [results, Tryd.results72, go_sem, *]) rfl ⟨none, 0, 0, 5, rfl, ?_, .inr (.inl ⟨HF.out, HO.out, rfl⟩)⟩
      exact HB1.out.setCell (Nat.le_refl _) _
    · have HO := hid' hok
      obtain ⟨es, h1, h2, h3⟩ := hes hok
      have HTA := hid' (fun w h => twice_any (.slice a n c) es w h (by omega))
      have H1 := hid' h1; have H2 := hid' h2; have H3 := hid' h3
      clear hok hes h1 h2 h3
      go_wp2_with fail
      refine (HTA.out _ H3.out).mono ?_
      rintro e w2 ⟨rfl, hb2⟩
      have c1 := ((bcell hb2).1 w.heap.size 0 hzq).trans c0
      have f1 := ((bcell hb2).2 w.heap.size 0 hzq).trans f0
      have hzr : w.heap.size < w2.heap.size := by have := hb2.size; omega
      have HB2 := hid' (HB1.out.trans (hb2.mono (by omega)))
      have HT2 : Hid (tagOf w2 w.heap.size = some 93) := by unfold Hid; rw [tagOf_below hb2 hzq]; exact HT1.out
      have H4 := hid' (H3.out.below hb2)
      clear hb2
      rcases htw : twGo [] es with _ | _
      · have HTW := hid' htw
        clear htw
        go_wp2
        refine bodyPost_ret (v := .tuple #[.agg #[.slice a n c], .int .i64 0]) (by simp [results, Tryd.results72, go_sem, *]) rfl ⟨a, n, c, 0, rfl, ?_, .inr (.inr ⟨HF.out, HO.out, es, H1.out, H2.out, .inr ⟨HTW.out, rfl, ?_⟩⟩)⟩
        · exact HB2.out.setCell (Nat.le_refl _) _
        · exact H4.out.off (But.set _ _ _ _) HT2.out (by decide) (by decide) (by decide)
      · have HTW := hid' htw
        clear htw
        go_wp2
        refine bodyPost_ret (v := .tuple #[.agg #[.slice none 0 0], .int .i64 6]) (by simp [results, Tryd.results72, go_sem, *]) rfl ⟨none, 0, 0, 6, rfl, ?_, .inr (.inr ⟨HF.out, HO.out, es, H1.out, H2.out, .inl ⟨HTW.out, rfl⟩⟩)⟩
        exact HB2.out.setCell (Nat.le_refl _) _

end Hst
end Go.Proofs.YtecocheolbkneaaDoor
namespace Go.Proofs.YtecocheolbkneaaDoor
open Go.RowKit
namespace Hst
set_option maxRecDepth 100000

theorem info_pkX : (Tryd.prog.info? 130).map (fun i => (i.zero, i.size, i.bytes)) = some (some (.agg #[.string ByteArray.empty, .string ByteArray.empty, .int .i64 0, .slice none 0 0]), 4, 64) := by kernel_rfl
theorem pkX_one (p : PkX) {a : Option Addr} {m c : Nat} (h : p.e.needs = .slice a m c) : ∀ u ∈ pkXC p, u.oneCell' = true := by
  intro u hu; simp [pkXC, h] at hu; rcases hu with rfl | rfl | rfl | rfl <;> rfl
theorem news_4 (w : World) (x y z q : Value) (t : TypeId) : ∀ j u, [x, y, z, q][j]? = some u → (w.alloc (.cells #[x, y, z, q] t)).cell? ((⟨w.heap.size, 0, none⟩ : Addr).add j) = some u := by
  intro j u hu
  exact World.news_of_block (heap_alloc_new w (.cells #[x, y, z, q] t)) j u (by simpa using hu)
theorem news_4b (w : World) (o1 : Obj) (x y z q : Value) (t : TypeId) : ∀ j u, [x, y, z, q][j]? = some u → ((w.alloc o1).alloc (.cells #[x, y, z, q] t)).cell? ((⟨w.heap.size + 1, 0, none⟩ : Addr).add j) = some u := by
  intro j u hu
  have := news_4 (w.alloc o1) x y z q t j u hu
  simpa using this
theorem withP_len (l : List PkX) (x : PkX) : (withP l x).length = l.length + 1 := insG_len _ x l false

set_option maxHeartbeats 2000000 in
theorem withP_any (v : Value) (l : List PkX) (x : PkX) (w : World) (hl : PksIn w v l) (hx : EntIn w x.e) (hn : l.length ≤ 100000) :
    Calls Tryd.prog 104 #[.agg #[v], pkXV x] w fun e w' => ∃ v', e = .returned (.agg #[v']) ∧ PksIn w' v' (withP l x) ∧ Below w.heap.size w w' := by
  obtain ⟨i0, hi, hz0, hz1, hz2⟩ := info_parts info_pkX
  obtain ⟨a, cap, rfl⟩ := hl.1.form
  obtain ⟨xa, xc, hxf⟩ := hx.form'
  have HL := hid' hl
  have HX := hid' hx
  obtain ⟨xp, xn, xv, xsp, xd⟩ := x
  simp only at hxf HX
  subst hxf
  clear hl hx
  have HP : Hid (withP l ⟨xp, xn, xv, .slice xa xd.length xc, xd⟩ = [] ++ insG (fun n => n.path) ⟨xp, xn, xv, .slice xa xd.length xc, xd⟩ false (l.drop 0)) := rfl
  go_enter Tryd.func104, Tryd.ntmps104
  go_wp2
  have hbw := (((Below.refl w.heap.size w).alloc (Nat.le_refl _) (.cells #[.slice a l.length cap] 96)).alloc (by simp) (.cells #[.string (bs xp), .string (bs xn), .int .i64 xv, .slice xa xd.length xc] 130)).alloc (by simp; omega) (.cells #[.slice none 0 0] 96)
  have e0 : (((w.alloc (.cells #[.slice a l.length cap] 96)).alloc (.cells #[.string (bs xp), .string (bs xn), .int .i64 xv, .slice xa xd.length xc] 130)).alloc (.cells #[.slice none 0 0] 96)).cell? ⟨w.heap.size + 1, 0, none⟩ = some (.string (bs xp)) := by simp [go_sem]
  have e1 : (((w.alloc (.cells #[.slice a l.length cap] 96)).alloc (.cells #[.string (bs xp), .string (bs xn), .int .i64 xv, .slice xa xd.length xc] 130)).alloc (.cells #[.slice none 0 0] 96)).cell? ⟨w.heap.size + 1, 1, none⟩ = some (.string (bs xn)) := by simp [go_sem]
  have e2 : (((w.alloc (.cells #[.slice a l.length cap] 96)).alloc (.cells #[.string (bs xp), .string (bs xn), .int .i64 xv, .slice xa xd.length xc] 130)).alloc (.cells #[.slice none 0 0] 96)).cell? ⟨w.heap.size + 1, 2, none⟩ = some (.int .i64 xv) := by simp [go_sem]
  have e3 : (((w.alloc (.cells #[.slice a l.length cap] 96)).alloc (.cells #[.string (bs xp), .string (bs xn), .int .i64 xv, .slice xa xd.length xc] 130)).alloc (.cells #[.slice none 0 0] 96)).cell? ⟨w.heap.size + 1, 3, none⟩ = some (.slice xa xd.length xc) := by simp [go_sem]
  have e4 : (((w.alloc (.cells #[.slice a l.length cap] 96)).alloc (.cells #[.string (bs xp), .string (bs xn), .int .i64 xv, .slice xa xd.length xc] 130)).alloc (.cells #[.slice none 0 0] 96)).cell? ⟨w.heap.size + 2, 0, none⟩ = some (.slice none 0 0) := by simp [go_sem]
  have e5 : (((w.alloc (.cells #[.slice a l.length cap] 96)).alloc (.cells #[.string (bs xp), .string (bs xn), .int .i64 xv, .slice xa xd.length xc] 130)).alloc (.cells #[.slice none 0 0] 96)).frozen? ⟨w.heap.size + 2, 0, none⟩ = false := by simp [go_sem]
  have hsz : (((w.alloc (.cells #[.slice a l.length cap] 96)).alloc (.cells #[.string (bs xp), .string (bs xn), .int .i64 xv, .slice xa xd.length xc] 130)).alloc (.cells #[.slice none 0 0] 96)).heap.size = w.heap.size + 3 := by simp
  generalize ((w.alloc (.cells #[.slice a l.length cap] 96)).alloc (.cells #[.string (bs xp), .string (bs xn), .int .i64 xv, .slice xa xd.length xc] 130)).alloc (.cells #[.slice none 0 0] 96) = W at *
  have HW := hid' hbw
  have HL1 := hid' (HL.out.below hbw)
  have HS := hid' hsz
  clear hbw
  generalize hx0 : (⟨xp, xn, xv, .slice xa xd.length xc, xd⟩ : PkX) = x0 at *
  have HX0 := hid' hx0
  clear hx0
  go_loopw [5, 6, 12] (fun v b i wr => ∃ (k : Nat) (pl : Bool) (acc : List PkX), k ≤ l.length ∧ acc.length ≤ 2 * k ∧ b = .bool pl ∧ i = .int .i64 k ∧ wr.ownsRow W.heap.size 130 4 v acc.length (acc.flatMap pkXC) ∧ Below W.heap.size W wr ∧ Hid (withP l x0 = acc ++ insG (fun n => n.path) x0 pl (l.drop k))) (fun _ _ i _ => l.length - (intOf i).toNat)
  case atStart => exact ⟨0, false, [], Nat.zero_le _, by simp, rfl, rfl, World.ownsRow_nil _ _ _ _, Below.refl _ _, HP⟩
  case round =>
    obtain ⟨k, pl, acc, hk, hacc, rfl, rfl, hown, hbel, hall⟩ := hrel
    have hz := hbel.size
    have hwz : w.heap.size + 2 < W.heap.size := by have := HS.out; omega
    have hwr : w.heap.size + 2 < wr.heap.size := by omega
    have hwr1 : w.heap.size + 1 < wr.heap.size := by omega
    obtain ⟨hcc, hff⟩ := bcell hbel
    have d0 := (hcc (w.heap.size + 1) 0 (by omega)).trans e0
    have d1 := (hcc (w.heap.size + 1) 1 (by omega)).trans e1
    have d2 := (hcc (w.heap.size + 1) 2 (by omega)).trans e2
    have d3 := (hcc (w.heap.size + 1) 3 (by omega)).trans e3
    clear hcc hff HP
    by_cases hlt : k < l.length
    · obtain ⟨g, o, cap', hv, hg, hc⟩ := (HL1.out.below hbel).1.pks hlt
      simp at hv
      obtain ⟨rfl, rfl⟩ := hv
      obtain ⟨c0, c1, c2, c3⟩ := hc k hlt
      obtain ⟨sa, sc, hsp⟩ := (HL.out.2 l[k] (List.getElem_mem hlt)).form'
      clear hc
      cases pl
      · by_cases hlo : less x0.path l[k].path = true
        · have HF : Hid (withP l x0 = ((acc ++ [x0]) ++ [l[k]]) ++ insG (fun n => n.path) x0 true (l.drop (k + 1))) := by unfold Hid; rw [hall.out, ig_put _ x0 l k hlt hlo]; simp
          have hb : Op.bytesLess (bs xp).toList (bs l[k].path).toList = true := by rw [tx_toList, tx_toList, tx_bs, tx_bs]; rw [← HX0.out] at hlo; exact hlo
          clear hlo hall
          generalize l[k] = y at *
          obtain ⟨yp, yn, yv, ysp, yd⟩ := y
          simp only at hsp c0 c1 c2 c3 hb
          subst hsp
          go_wp2_with (first
            | (at_builtin; refine wpList_append_lies _ rfl _ _ 94 rfl W.heap.size 130 i0 (.agg #[.string ByteArray.empty, .string ByteArray.empty, .int .i64 0, .slice none 0 0]) 4 64 Tryd.underlying94 hi hz0 hz1 hz2 rfl (by omega) _ _ _ rfl ((hown.alloc _).alloc _) ⟨wr.heap.size + 1, 0, none⟩ 1 1 [.string (bs xp), .string (bs xn), .int .i64 xv, .slice xa xd.length xc] rfl rfl (news_4b _ _ _ _ _ _ _) (pkX_one ⟨xp, xn, xv, _, xd⟩ rfl) (by omega) (by unfold maxLen; omega) (by omega) (by simp; omega) (wr.heap.size + 2) (by simp) ?_; intro g1 cap1 w1 hown1 hgrow hat hlt1; have R := step_gen2 pkXC (x := ⟨xp, xn, xv, .slice xa xd.length xc, xd⟩) rfl hown hbel (((Below.refl _ _).alloc (Nat.le_refl _) _).alloc (by simp) _) hown1 hgrow; have hfar := grow_far hgrow (b := wr.heap.size) (by simp <;> omega) (fun q hq => by have := (hown.lt q hq).2; omega); have f0 := hfar 0; have f1 := hfar 1; have f2 := hfar 2; have f3 := hfar 3; simp at f0 f1 f2 f3; have hw1 : wr.heap.size < w1.heap.size := (by have := hgrow.size; simp at this; omega); clear hown1 hgrow hown hfar; obtain ⟨hown2, hbel2⟩ := R; have hzz := hbel2.size; have hlen2 : (acc ++ [(⟨xp, xn, xv, .slice xa xd.length xc, xd⟩ : PkX)]).length = acc.length + 1 := List.length_append)
            | (at_builtin; refine wpList_append_lies _ rfl _ _ 94 rfl W.heap.size 130 i0 (.agg #[.string ByteArray.empty, .string ByteArray.empty, .int .i64 0, .slice none 0 0]) 4 64 Tryd.underlying94 hi hz0 hz1 hz2 rfl (by omega) _ _ _ rfl (hown2.alloc _) ⟨w1.heap.size, 0, none⟩ 1 1 [.string (bs yp), .string (bs yn), .int .i64 yv, .slice sa yd.length sc] rfl rfl (news_4 _ _ _ _ _ _) (pkX_one ⟨yp, yn, yv, _, yd⟩ rfl) (by omega) (by unfold maxLen; omega) (by omega) (by simp; omega) (w1.heap.size + 1) (by simp) ?_; intro g3 cap3 w3 hown3 hgrow3 hat3 hlt3))
          have R := step_gen2 pkXC (x := ⟨yp, yn, yv, .slice sa yd.length sc, yd⟩) rfl hown2 hbel2 ((Below.refl _ _).alloc (Nat.le_refl _) _) hown3 hgrow3
          clear hown3 hgrow3 hown2
          rw [← HX0.out] at HF
          go_wp2
          go_roundw
          case rel => exact ⟨k + 1, true, acc ++ [⟨xp, xn, xv, .slice xa xd.length xc, xd⟩] ++ [⟨yp, yn, yv, .slice sa yd.length sc, yd⟩], by omega, by simp; omega, rfl, by go_num, by have h := R.1; rw [hlen2] at h; exact h, R.2, by rw [← HX0.out]; exact HF⟩
          case measure => simp [intOf] <;> omega
        · have hlo : less x0.path l[k].path = false := by simpa using hlo
          have HF : Hid (withP l x0 = (acc ++ [l[k]]) ++ insG (fun n => n.path) x0 false (l.drop (k + 1))) := by unfold Hid; rw [hall.out, ig_no _ x0 l k hlt hlo]; simp
          have hb : Op.bytesLess (bs xp).toList (bs l[k].path).toList = false := by rw [tx_toList, tx_toList, tx_bs, tx_bs]; rw [← HX0.out] at hlo; exact hlo
          clear hlo hall
          generalize l[k] = y at *
          obtain ⟨yp, yn, yv, ysp, yd⟩ := y
          simp only at hsp c0 c1 c2 c3 hb
          subst hsp
          go_wp2_with (first | (at_builtin; refine wpList_append_lies _ rfl _ _ 94 rfl W.heap.size 130 i0 (.agg #[.string ByteArray.empty, .string ByteArray.empty, .int .i64 0, .slice none 0 0]) 4 64 Tryd.underlying94 hi hz0 hz1 hz2 rfl (by omega) _ _ _ rfl ((hown.alloc _).alloc _) ⟨wr.heap.size + 1, 0, none⟩ 1 1 [.string (bs yp), .string (bs yn), .int .i64 yv, .slice sa yd.length sc] rfl rfl (news_4b _ _ _ _ _ _ _) (pkX_one ⟨yp, yn, yv, _, yd⟩ rfl) (by omega) (by unfold maxLen; omega) (by omega) (by simp; omega) (wr.heap.size + 2) (by simp) ?_; intro g1 cap1 w1 hown1 hgrow hat hlt1))
          have R := step_gen2 pkXC (x := ⟨yp, yn, yv, .slice sa yd.length sc, yd⟩) rfl hown hbel (((Below.refl _ _).alloc (Nat.le_refl _) _).alloc (by simp) _) hown1 hgrow
          clear hown1 hgrow hown
          go_wp2
          go_roundw
          case rel => exact ⟨k + 1, false, _, by omega, by simp; omega, rfl, by go_num, R.1, R.2, HF⟩
          case measure => simp [intOf] <;> omega
      · have HF : Hid (withP l x0 = (acc ++ [l[k]]) ++ insG (fun n => n.path) x0 true (l.drop (k + 1))) := by unfold Hid; rw [hall.out, ig_on _ x0 l k hlt]; simp
        clear hall
        generalize l[k] = y at *
        obtain ⟨yp, yn, yv, ysp, yd⟩ := y
        simp only at hsp c0 c1 c2 c3
        subst hsp
        go_wp2_with (first | (at_builtin; refine wpList_append_lies _ rfl _ _ 94 rfl W.heap.size 130 i0 (.agg #[.string ByteArray.empty, .string ByteArray.empty, .int .i64 0, .slice none 0 0]) 4 64 Tryd.underlying94 hi hz0 hz1 hz2 rfl (by omega) _ _ _ rfl ((hown.alloc _).alloc _) ⟨wr.heap.size + 1, 0, none⟩ 1 1 [.string (bs yp), .string (bs yn), .int .i64 yv, .slice sa yd.length sc] rfl rfl (news_4b _ _ _ _ _ _ _) (pkX_one ⟨yp, yn, yv, _, yd⟩ rfl) (by omega) (by unfold maxLen; omega) (by omega) (by simp; omega) (wr.heap.size + 2) (by simp) ?_; intro g1 cap1 w1 hown1 hgrow hat hlt1))
        have R := step_gen2 pkXC (x := ⟨yp, yn, yv, .slice sa yd.length sc, yd⟩) rfl hown hbel (((Below.refl _ _).alloc (Nat.le_refl _) _).alloc (by simp) _) hown1 hgrow
        clear hown1 hgrow hown
        go_wp2
        go_roundw
        case rel => exact ⟨k + 1, true, _, by omega, by simp; omega, rfl, by go_num, R.1, R.2, HF⟩
        case measure => simp [intOf] <;> omega
    · have hfin := ig_end (fun n : PkX => n.path) x0 l k hlt pl
      have HM := hid' (insG_mem (fun n : PkX => n.path) x0 l false)
      have HIN : ∀ (w' : World), Below w.heap.size w w' → ∀ n ∈ withP l x0, EntIn w' n.e := by
        intro w' hb n hn
        rcases HM.out n hn with rfl | h
        · rw [← HX0.out]; exact HX.out.below hb
        · exact (HL.out.2 n h).below hb
      have HI := hid' HIN
      clear HIN HM
      have h4 := ((bcell hbel).1 (w.heap.size + 2) 0 hwz).trans e4
      have h5 := ((bcell hbel).2 (w.heap.size + 2) 0 hwz).trans e5
      cases pl
      · have HF : Hid (withP l x0 = acc ++ [x0]) := by unfold Hid; rw [hall.out, hfin]; simp
        clear hall hfin
        go_wp2_with (first | (at_builtin; refine wpList_append_lies _ rfl _ _ 94 rfl W.heap.size 130 i0 (.agg #[.string ByteArray.empty, .string ByteArray.empty, .int .i64 0, .slice none 0 0]) 4 64 Tryd.underlying94 hi hz0 hz1 hz2 rfl (by omega) _ _ _ rfl (hown.alloc _) ⟨wr.heap.size, 0, none⟩ 1 1 [.string (bs xp), .string (bs xn), .int .i64 xv, .slice xa xd.length xc] rfl rfl (news_4 _ _ _ _ _ _) (pkX_one ⟨xp, xn, xv, _, xd⟩ rfl) (by omega) (by unfold maxLen; omega) (by omega) (by simp; omega) (wr.heap.size + 1) (by simp) ?_; intro g1 cap1 w1 hown1 hgrow hat hlt1; have R := step_gen2 pkXC (x := ⟨xp, xn, xv, .slice xa xd.length xc, xd⟩) rfl hown hbel ((Below.refl _ _).alloc (Nat.le_refl _) _) hown1 hgrow; have q4 := ((bcell R.2).1 (w.heap.size + 2) 0 hwz).trans e4; have q5 := ((bcell R.2).2 (w.heap.size + 2) 0 hwz).trans e5; have hw1 : w.heap.size + 2 < w1.heap.size := (by have := R.2.size; omega); clear hown1 hgrow hown))
        have HR := hid' R
        have HB := hid' (HW.out.trans (R.2.mono (by omega)))
        clear R hbel
        refine bodyPost_ret (v := .agg #[.slice (some ⟨g1, 0, none⟩) (acc.length + 1) cap1]) (by simp [results, Tryd.results104, go_sem, *]) rfl ⟨_, rfl, ⟨?_, ?_⟩, HB.out.setCell (show w.heap.size ≤ w.heap.size + 2 by omega) _⟩
        · rw [HX0.out, HF.out, ← HX0.out]
          exact RowX.of_own (ownsRow_setCell_below HR.out.1 hwz _)
        · rw [HX0.out]
          exact HI.out _ (HB.out.setCell (show w.heap.size ≤ w.heap.size + 2 by omega) _)
      · have HF : Hid (withP l x0 = acc) := by unfold Hid; rw [hall.out, hfin]; simp
        obtain ⟨va, vc, rfl⟩ := own_slice hown
        have HR := hid' (And.intro hown hbel)
        have HB := hid' (HW.out.trans (hbel.mono (by omega)))
        clear hown hbel hall
        go_wp2
        refine bodyPost_ret (v := .agg #[.slice va acc.length vc]) (by simp [results, Tryd.results104, go_sem, *]) rfl ⟨_, rfl, ⟨?_, ?_⟩, HB.out.setCell (show w.heap.size ≤ w.heap.size + 2 by omega) _⟩
        · rw [HX0.out, HF.out]
          exact RowX.of_own (ownsRow_setCell_below HR.out.1 hwz _)
        · rw [HX0.out]
          exact HI.out _ (HB.out.setCell (show w.heap.size ≤ w.heap.size + 2 by omega) _)

end Hst
end Go.Proofs.YtecocheolbkneaaDoor
