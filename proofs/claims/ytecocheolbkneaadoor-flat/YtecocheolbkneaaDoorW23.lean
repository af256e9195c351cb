/- Pinuse, Pbuild, Psmv -/
import Derived.Test.YtecocheolbkneaaDoorW22
import Derived.Test.YtecocheolbkneaaDoorW15
namespace Go.Proofs.YtecocheolbkneaaDoor
open Go.RowKit
namespace Hst
set_option maxRecDepth 100000

def LInv (list : List WhX) : Prop := ∀ x ∈ list, x.path.length ≤ 50000 ∧ x.nd.length ≤ 1000
theorem LInv.push {list : List WhX} (h : LInv list) {x : WhX} (h1 : x.path.length ≤ 50000) (h2 : x.nd.length ≤ 1000) : LInv (list ++ [x]) := by
  intro y hy
  simp only [List.mem_append, List.mem_singleton] at hy
  rcases hy with hy | rfl
  · exact h y hy
  · exact ⟨h1, h2⟩
theorem RowX.whs {w : World} {v : Value} {l : List WhX} (h : RowX whXC 2 145 w v l) {k : Nat} (hk : k < l.length) :
    ∃ g o cap, v = .slice (some ⟨g, o, none⟩) l.length cap ∧ g < w.heap.size ∧ ∀ (j : Nat) (hj : j < l.length), w.cell? ⟨g, o + j * 2, none⟩ = some (.string (bs l[j].path)) ∧ w.cell? ⟨g, o + j * 2 + 1, none⟩ = some l[j].needs := by
  obtain ⟨g, o, cap, hv, hg, hc⟩ := h.cells whXC_len hk
  exact ⟨g, o, cap, hv, hg, fun j hj => ⟨hc j hj 0 (by omega), hc j hj 1 (by omega)⟩⟩

set_option maxHeartbeats 4000000 in
theorem inUse_any' (v : Value) (t : List PkX) (sv : Value) (site : List NeedX) (w : World) (hl : PksIn w v t) (hs : NeedsIn w sv site) (htl : t.length ≤ 1000) (hpo : PathsOk t) (hsl : site.length ≤ 1000) :
    Calls Tryd.prog 91 #[.agg #[v], sv] w fun e w' => ∃ v', e = .returned (.agg #[v']) ∧ PksIn w' v' (inUseP t sv site) ∧ Below w.heap.size w w' := by
  obtain ⟨i0, hi, iz0, iz1, iz2⟩ := info_parts info_whX
  obtain ⟨ta, tc, rfl⟩ := hl.1.form
  obtain ⟨sa, sc, rfl⟩ := hs.1.form
  have HIU : Hid (inUseP t (.slice sa site.length sc) site = inUseGo t (t.length + 2 - 0) 0 [] [⟨[], .slice sa site.length sc, site⟩]) := rfl
  generalize inUseP t (.slice sa site.length sc) site = res at *
  have hbw := ((((Below.refl w.heap.size w).alloc (Nat.le_refl _) (.cells #[.slice ta t.length tc] 96)).alloc (by simp) (.cells #[.slice none 0 0] 96)).alloc (by simp; omega) (.cells #[.slice none 0 0] 96)).alloc (by simp; omega) (.cells #[.string ⟨#[]⟩, .slice sa site.length sc] 145)
  have HL := hid' (hl.below hbw)
  have HS := hid' (hs.below hbw)
  have HBW := hid' hbw
  have HPO := hid' hpo
  have eb : ((((w.alloc (.cells #[.slice ta t.length tc] 96)).alloc (.cells #[.slice none 0 0] 96)).alloc (.cells #[.slice none 0 0] 96)).alloc (.cells #[.string ⟨#[]⟩, .slice sa site.length sc] 145)).cell? ⟨w.heap.size, 0, none⟩ = some (.slice ta t.length tc) := by simp [go_sem]
  have er : ((((w.alloc (.cells #[.slice ta t.length tc] 96)).alloc (.cells #[.slice none 0 0] 96)).alloc (.cells #[.slice none 0 0] 96)).alloc (.cells #[.string ⟨#[]⟩, .slice sa site.length sc] 145)).cell? ⟨w.heap.size + 1, 0, none⟩ = some (.slice none 0 0) ∧ ((((w.alloc (.cells #[.slice ta t.length tc] 96)).alloc (.cells #[.slice none 0 0] 96)).alloc (.cells #[.slice none 0 0] 96)).alloc (.cells #[.string ⟨#[]⟩, .slice sa site.length sc] 145)).frozen? ⟨w.heap.size + 1, 0, none⟩ = false := by constructor <;> simp [go_sem]
  have ec : ((((w.alloc (.cells #[.slice ta t.length tc] 96)).alloc (.cells #[.slice none 0 0] 96)).alloc (.cells #[.slice none 0 0] 96)).alloc (.cells #[.string ⟨#[]⟩, .slice sa site.length sc] 145)).cell? ⟨w.heap.size + 1 + 1, 0, none⟩ = some (.slice none 0 0) ∧ ((((w.alloc (.cells #[.slice ta t.length tc] 96)).alloc (.cells #[.slice none 0 0] 96)).alloc (.cells #[.slice none 0 0] 96)).alloc (.cells #[.string ⟨#[]⟩, .slice sa site.length sc] 145)).frozen? ⟨w.heap.size + 1 + 1, 0, none⟩ = false := by constructor <;> simp [go_sem]
  have hown : ((((w.alloc (.cells #[.slice ta t.length tc] 96)).alloc (.cells #[.slice none 0 0] 96)).alloc (.cells #[.slice none 0 0] 96)).alloc (.cells #[.string ⟨#[]⟩, .slice sa site.length sc] 145)).ownsRow w.heap.size 145 2 (.slice (some ⟨w.heap.size + 1 + 1 + 1, 0, none⟩) 1 1) 1 [.string ⟨#[]⟩, .slice sa site.length sc] := by
    refine ⟨rfl, .inr ⟨w.heap.size + 1 + 1 + 1, 1, #[.string ⟨#[]⟩, .slice sa site.length sc], rfl, by omega, ?_, Nat.le_refl _, by unfold maxLen; omega, rfl, rfl⟩⟩
    have := heap_alloc_new (((w.alloc (.cells #[.slice ta t.length tc] 96)).alloc (.cells #[.slice none 0 0] 96)).alloc (.cells #[.slice none 0 0] 96)) (.cells #[.string ⟨#[]⟩, .slice sa site.length sc] 145)
    simpa using this
  have htg : tagOf ((((w.alloc (.cells #[.slice ta t.length tc] 96)).alloc (.cells #[.slice none 0 0] 96)).alloc (.cells #[.slice none 0 0] 96)).alloc (.cells #[.string ⟨#[]⟩, .slice sa site.length sc] 145)) (w.heap.size + 1 + 1) = some 96 := by
    have h1 := tag_new ((w.alloc (.cells #[.slice ta t.length tc] 96)).alloc (.cells #[.slice none 0 0] 96)) #[.slice none 0 0] 96
    rw [tagOf_below (w := (((w.alloc (.cells #[.slice ta t.length tc] 96)).alloc (.cells #[.slice none 0 0] 96)).alloc (.cells #[.slice none 0 0] 96))) ((Below.refl _ _).alloc (Nat.le_refl _) _) (by simp)]
    simpa using h1
  have htr : tagOf ((((w.alloc (.cells #[.slice ta t.length tc] 96)).alloc (.cells #[.slice none 0 0] 96)).alloc (.cells #[.slice none 0 0] 96)).alloc (.cells #[.string ⟨#[]⟩, .slice sa site.length sc] 145)) (w.heap.size + 1) = some 96 := by
    have h1 := tag_new (w.alloc (.cells #[.slice ta t.length tc] 96)) #[.slice none 0 0] 96
    rw [tagOf_below (w := (w.alloc (.cells #[.slice ta t.length tc] 96)).alloc (.cells #[.slice none 0 0] 96)) (((Below.refl _ _).alloc (Nat.le_refl _) _).alloc (by simp) _) (by simp)]
    simpa using h1
  have hsz : ((((w.alloc (.cells #[.slice ta t.length tc] 96)).alloc (.cells #[.slice none 0 0] 96)).alloc (.cells #[.slice none 0 0] 96)).alloc (.cells #[.string ⟨#[]⟩, .slice sa site.length sc] 145)).heap.size = w.heap.size + 4 := by simp
  have HU0 : Hid (UAt ((((w.alloc (.cells #[.slice ta t.length tc] 96)).alloc (.cells #[.slice none 0 0] 96)).alloc (.cells #[.slice none 0 0] 96)).alloc (.cells #[.string ⟨#[]⟩, .slice sa site.length sc] 145)) (w.heap.size + 1 + 1) w.heap.size (.slice (some ⟨w.heap.size + 1 + 1 + 1, 0, none⟩) 1 1) [] [⟨[], .slice sa site.length sc, site⟩]) := ⟨hown, fun x hx => by simp only [List.mem_singleton] at hx; subst hx; exact HS.out, ⟨_, ec.1, RowX.nil _ _ _ _, by simp⟩, ec.2, htg, by omega⟩
  clear hl hs hbw hown htg ec hpo
  go_enter Tryd.func91, Tryd.ntmps91
  go_wp2
  generalize ((((w.alloc (.cells #[.slice ta t.length tc] 96)).alloc (.cells #[.slice none 0 0] 96)).alloc (.cells #[.slice none 0 0] 96)).alloc (.cells #[.string ⟨#[]⟩, .slice sa site.length sc] 145)) = W at *
  have HEB := hid' eb; have HER := hid' er; have HSZ := hid' hsz; have HTR := hid' htr
  have HUI : Hid (UInv t [] [⟨[], .slice sa site.length sc, site⟩] ∧ LInv [⟨[], .slice sa site.length sc, site⟩]) := ⟨⟨by simp, by simp, rfl⟩, fun x hx => by simp only [List.mem_singleton] at hx; subst hx; exact ⟨by simp, hsl⟩⟩
  clear eb er hsz htr
  go_loopw [6, 7] (fun lv i wr => ∃ (k : Nat) (used : List PkX) (list : List WhX), k ≤ list.length ∧ list.length ≤ t.length + 1 ∧ i = .int .i64 k ∧ Hid (UAt wr (w.heap.size + 1 + 1) w.heap.size lv used list ∧ Mv (w.heap.size + 1 + 1) w.heap.size W wr (.slice (some ⟨w.heap.size + 1 + 1 + 1, 0, none⟩) 1 1) lv ∧ UInv t used list ∧ LInv list ∧ res = inUseGo t (t.length + 2 - k) k used list)) (fun _ i _ => t.length + 2 - (intOf i).toNat)
  case atStart => exact ⟨0, [], [⟨[], .slice sa site.length sc, site⟩], Nat.zero_le _, by simp, rfl, HU0.out, Mv.refl _ _ _ _, HUI.out.1, HUI.out.2, HIU.out⟩
  case round =>
    obtain ⟨k, used, list, hk, hll, rfl, hall⟩ := hrel
    obtain ⟨la, lc, rfl⟩ := own_slice hall.out.1.own
    have HUA := hid' hall.out.1; have HMV := hid' hall.out.2.1; have HUV := hid' hall.out.2.2.1; have HLI := hid' hall.out.2.2.2.1; have HRE := hid' hall.out.2.2.2.2
    have hL0 : ∀ q, q < w.heap.size + 3 → Value.ownBlock (.slice (some ⟨w.heap.size + 1 + 1 + 1, 0, none⟩) 1 1) ≠ some q := fun q hq e => by simp [Value.ownBlock] at e; omega
    have hbx := HMV.out.free w.heap.size (by have := HSZ.out; omega) (by omega) (hL0 _ (by omega))
    have hrx := HMV.out.free (w.heap.size + 1) (by have := HSZ.out; omega) (by omega) (hL0 _ (by omega))
    have eb : wr.cell? ⟨w.heap.size, 0, none⟩ = some (.slice ta t.length tc) := by rw [World.cell?_of_block (w := W) hbx.1]; exact HEB.out
    have er : wr.cell? ⟨w.heap.size + 1, 0, none⟩ = some (.slice none 0 0) := by rw [World.cell?_of_block (w := W) hrx.1]; exact HER.out.1
    have ef : wr.frozen? ⟨w.heap.size + 1, 0, none⟩ = false := by rw [World.frozen?_of_block (w := W) hrx.1]; exact HER.out.2
    have HTR2 : Hid (tagOf wr (w.heap.size + 1) = some 96) := by unfold Hid tagOf; rw [hrx.1]; exact HTR.out
    have hzr := HMV.out.below.size
    have hwr : w.heap.size + 3 < wr.heap.size := by have := HSZ.out; omega
    have HLt := hid' (HL.out.mv HU0.out HMV.out)
    have HBB : Hid (Value.ownBlock (.slice la list.length lc) ≠ some w.heap.size ∧ Value.ownBlock (.slice la list.length lc) ≠ some (w.heap.size + 1)) := ⟨hbx.2, hrx.2⟩
    clear hall hL0 hbx hrx
    by_cases hlt : k < list.length
    · obtain ⟨g, o, cap', hv, hg, hc⟩ := (RowX.of_own (f := whXC) HUA.out.own).whs hlt
      simp at hv
      obtain ⟨rfl, rfl⟩ := hv
      obtain ⟨c0, c1⟩ := hc k hlt
      have hnx := HUA.out.wh list[k] (List.getElem_mem hlt)
      obtain ⟨na, nc, hnf⟩ := hnx.1.form
      have hlx := HLI.out list[k] (List.getElem_mem hlt)
      have HST : Hid (res = inUseGo t (t.length + 2 - (k + 1)) (k + 1) (usedGo t list[k].path used list list[k].nd).1 (usedGo t list[k].path used list list[k].nd).2) := by
        have e : t.length + 2 - k = (t.length + 2 - (k + 1)) + 1 := by omega
        unfold Hid; rw [HRE.out, e]; exact iu_step hlt
      have hba := (Below.refl wr.heap.size wr).alloc (Nat.le_refl _) (.cells #[.string (bs list[k].path), list[k].needs] 145)
      have HUB := hid' (HUA.out.below hba)
      have HMB := hid' (HMV.out.trans (Mv.of_below (c := w.heap.size + 1 + 1) (B := w.heap.size) (lv := .slice (some ⟨g, o, none⟩) list.length lc) hba (by omega)))
      have HNX := hid' (hnx.below hba)
      have HLB := hid' (HLt.out.below hba)
      have eb2 := ((bcell hba).1 w.heap.size 0 (by omega)).trans eb
      have hgo : g < wr.heap.size := hg
      clear hc hnx hba er ef
      generalize list[k] = x at *
      obtain ⟨xp, xv, xd⟩ := x
      simp only at hnf c0 c1 hlx HST HUB HMB HNX HLB eb2
      subst hnf
      have ex : (wr.alloc (.cells #[.string (bs xp), .slice na xd.length nc] 145)).cell? ⟨wr.heap.size, 0, none⟩ = some (.string (bs xp)) := by simp
      have hsz : (wr.alloc (.cells #[.string (bs xp), .slice na xd.length nc] 145)).heap.size = wr.heap.size + 1 := by simp
      obtain ⟨wo, rfl⟩ : ∃ wo, wo = wr := ⟨_, rfl⟩
      go_wp2
      generalize wo.alloc (.cells #[.string (bs xp), .slice na xd.length nc] 145) = V at *
      have HSV := hid' hsz; have HEX := hid' ex; have HEB2 := hid' eb2
      clear c0 c1 hsz ex eb2 eb
      go_loopw [6, 30] (fun lv i wr => ∃ (j : Nat) (us : List PkX) (ls : List WhX), j ≤ xd.length ∧ i = .int .i64 j ∧ Hid (UAt wr (w.heap.size + 1 + 1) w.heap.size lv us ls ∧ Mv (w.heap.size + 1 + 1) w.heap.size V wr (.slice (some ⟨g, o, none⟩) list.length lc) lv ∧ UInv t us ls ∧ LInv ls ∧ list.length ≤ ls.length ∧ usedGo t xp used list xd = usedGo t xp us ls (xd.drop j))) (fun _ i _ => xd.length - (intOf i).toNat)
      case atStart => exact ⟨0, used, list, Nat.zero_le _, rfl, HUB.out, Mv.refl _ _ _ _, HUV.out, HLI.out, Nat.le_refl _, rfl⟩
      case round =>
        obtain ⟨j, us, ls, hj, rfl, hall⟩ := hrel
        obtain ⟨ma, mc, rfl⟩ := own_slice hall.out.1.own
        have HU2 := hid' hall.out.1; have HM2 := hid' hall.out.2.1; have HV2 := hid' hall.out.2.2.1; have HL2 := hid' hall.out.2.2.2.1; have HG2 := hid' hall.out.2.2.2.2.1; have HE2 := hid' hall.out.2.2.2.2.2
        have hVz := HM2.out.below.size
        have hgl : Value.ownBlock (.slice (some ⟨g, o, none⟩) list.length lc) = some g := rfl
        have hbx := HM2.out.free w.heap.size (by have := HSV.out; omega) (by omega) HBB.out.1
        have hpx := HM2.out.free wo.heap.size (by have := HSV.out; omega) (by omega) (by rw [hgl]; simp; omega)
        have eb : wr.cell? ⟨w.heap.size, 0, none⟩ = some (.slice ta t.length tc) := by rw [World.cell?_of_block (w := V) hbx.1]; exact HEB2.out
        have ex : wr.cell? ⟨wo.heap.size, 0, none⟩ = some (.string (bs xp)) := by rw [World.cell?_of_block (w := V) hpx.1]; exact HEX.out
        have hwr2 : w.heap.size + 3 < wr.heap.size := by have := HSV.out; omega
        have hwr3 : wo.heap.size < wr.heap.size := by have := HSV.out; omega
        have hwr4 : w.heap.size < wr.heap.size := by omega
        have HNX2 := hid' (HNX.out.mv HUB.out HM2.out)
        have HLt2 := hid' (HLB.out.mv HUB.out HM2.out)
        have hul := HV2.out.le
        have hlen2 := HV2.out.len
        have hle2 : ls.length ≤ 1001 := by omega
        have hue : us.length ≤ 1000 := by omega
        clear hall hgl hbx hpx hlen2
        by_cases hjl : j < xd.length
        · obtain ⟨g2, o2, cap2, hv, hg2, hc⟩ := HNX2.out.1.needs hjl
          simp at hv
          obtain ⟨rfl, rfl⟩ := hv
          obtain ⟨c0, c1, c2⟩ := hc j hjl
          obtain ⟨ya, yc, hyf⟩ := (HNX2.out.2 xd[j] (List.getElem_mem hjl)).form
          have U1 := hid' (ug_none (t := t) (used := us) (path := xp) (list := ls) hjl)
          have U2 := hid' (fun p => ug_has (t := t) (used := us) (path := xp) (list := ls) (p := p) hjl)
          have U3 := hid' (fun p => ug_new (t := t) (used := us) (path := xp) (list := ls) (p := p) hjl)
          have HFD := hid' (fun w h => findP_any (.slice ta t.length tc) t (bs xp) (bs xd[j].name) w h (by omega) HPO.out (by rw [bs_size]; exact hlx.1))
          rw [tx_bs, tx_bs] at HFD
          clear hc
          generalize xd[j] = y at *
          obtain ⟨yn, ysp, ys, yt⟩ := y
          simp only at hyf c0 c1 c2 U1 U2 U3 HFD
          subst hyf
          have hba := (Below.refl wr.heap.size wr).alloc (Nat.le_refl _) (.cells #[.string (bs yn), .slice ya ys.length yc, .string (bs yt)] 86)
          have HL3 := hid' (HLt2.out.below hba)
          have HU3 := hid' (HU2.out.below hba)
          have HM3 := hid' (HM2.out.trans (Mv.of_below (c := w.heap.size + 1 + 1) (B := w.heap.size) (lv := .slice ma ls.length mc) hba (by omega)))
          clear hba
          go_wp2_with fail
          refine (HFD.out _ HL3.out).mono ?_
          rintro e w1 ⟨p, rfl, hb1, ⟨pa, pl, pc, hpf⟩, hp⟩
          have hz1 := hb1.size
          simp at hz1
          have HU4 := hid' (HU3.out.below hb1)
          have HM4 := hid' (HM3.out.trans (Mv.of_below (c := w.heap.size + 1 + 1) (B := w.heap.size) (lv := .slice ma ls.length mc) hb1 (by simp; omega)))
          have HL4 := hid' (HL3.out.below hb1)
          clear hb1
          rcases hfd : findP t yn xp with _ | q
          · have HF : Hid (usedGo t xp used list xd = usedGo t xp us ls (xd.drop (j + 1))) := by unfold Hid; rw [HE2.out]; exact U1.out hfd
            clear hfd hp U1 U2 U3
            obtain ⟨pp, pn, pv, ps, pd⟩ := p
            simp only at hpf
            subst hpf
            have hba := (Below.refl w1.heap.size w1).alloc (Nat.le_refl _) (.cells #[.string (bs pp), .string (bs pn), .int .i64 pv, .slice pa pl pc] 130)
            have HU5 := hid' (HU4.out.below hba)
            have HM5 := hid' (HM4.out.trans (Mv.of_below (c := w.heap.size + 1 + 1) (B := w.heap.size) (lv := .slice ma ls.length mc) hba (by omega)))
            clear hba
            simp only [Option.isSome]
            go_wp2
            go_roundw
            case rel => exact ⟨j + 1, us, ls, by omega, by go_num, HU5.out, HM5.out, HV2.out, HL2.out, HG2.out, HF.out⟩
            case measure => simp [intOf] <;> omega
          · have hpq := hp q hfd
            subst hpq
            have hpt := findP_in hfd
            have HEN := hid' (HL4.out.2 p hpt)
            have HPP : Hid (p.path.length ≤ 50000) := HPO.out p hpt
            have HPT := hid' hpt
            have HPN : Hid (p.e.nd.length ≤ 1000) := by unfold Hid; have := HEN.out.2.1; omega
            have U2' := hid' (U2.out p hfd)
            have U3' := hid' (U3.out p hfd)
            have HFD2 := hid' hfd
            clear hfd hp U1 U2 U3 hpt
            have HPX : Hid (∃ p0, p0 = p) := ⟨p, rfl⟩
            obtain ⟨pp, pn, pv, ps, pd⟩ := p
            simp only at hpf HEN HPP HPN U2' U3'
            subst hpf
            have hba := (Below.refl w1.heap.size w1).alloc (Nat.le_refl _) (.cells #[.string (bs pp), .string (bs pn), .int .i64 pv, .slice pa pl pc] 130)
            have HU5 := hid' (HU4.out.below hba)
            have HM5 := hid' (HM4.out.trans (Mv.of_below (c := w.heap.size + 1 + 1) (B := w.heap.size) (lv := .slice ma ls.length mc) hba (by omega)))
            have HEN5 := hid' (HEN.out.below hba)
            have u0 : (w1.alloc (.cells #[.string (bs pp), .string (bs pn), .int .i64 pv, .slice pa pl pc] 130)).cell? ⟨w1.heap.size, 0, none⟩ = some (.string (bs pp)) := by simp
            have u1 : (w1.alloc (.cells #[.string (bs pp), .string (bs pn), .int .i64 pv, .slice pa pl pc] 130)).cell? ⟨w1.heap.size, 1, none⟩ = some (.string (bs pn)) := by simp
            have u2 : (w1.alloc (.cells #[.string (bs pp), .string (bs pn), .int .i64 pv, .slice pa pl pc] 130)).cell? ⟨w1.heap.size, 2, none⟩ = some (.int .i64 pv) := by simp
            have u3 : (w1.alloc (.cells #[.string (bs pp), .string (bs pn), .int .i64 pv, .slice pa pl pc] 130)).cell? ⟨w1.heap.size, 3, none⟩ = some (.slice pa pl pc) := by simp
            have hsz5 : (w1.alloc (.cells #[.string (bs pp), .string (bs pn), .int .i64 pv, .slice pa pl pc] 130)).heap.size = w1.heap.size + 1 := by simp
            obtain ⟨v5, e5, r5⟩ := HU5.out.cell
            obtain ⟨ua, uc, rfl⟩ := r5.1.form
            have HR5 := hid' r5
            have HHA := hid' (fun w h => hasAt_any (.slice ua us.length uc) us (bs pp) w h (by omega))
            rw [tx_bs] at HHA
            have hC5 := HU5.out.lt
            clear hba r5
            simp only [Option.isSome]
            go_wp2_with fail
            refine (HHA.out _ HR5.out).mono ?_
            rintro e w2 ⟨rfl, hb2⟩
            have hcc := (bcell hb2).1
            have hff := (bcell hb2).2
            have z0 := (hcc w1.heap.size 0 (by omega)).trans u0
            have z1 := (hcc w1.heap.size 1 (by omega)).trans u1
            have z2 := (hcc w1.heap.size 2 (by omega)).trans u2
            have z3 := (hcc w1.heap.size 3 (by omega)).trans u3
            have z5 := (hcc (w.heap.size + 1 + 1) 0 hC5).trans e5
            have hz2 := hb2.size
            have HU6 := hid' (HU5.out.below hb2)
            have HM6 := hid' (HM5.out.trans (Mv.of_below (c := w.heap.size + 1 + 1) (B := w.heap.size) (lv := .slice ma ls.length mc) hb2 (by omega)))
            have HEN6 := hid' (HEN5.out.below hb2)
            have HR6 := hid' (HR5.out.below hb2)
            have hw12 : w1.heap.size < w2.heap.size := by omega
            have hC6 := HU6.out.lt
            have hf6 := HU6.out.fr
            clear hb2 hcc hff u0 u1 u2 u3 e5 hsz5
            rcases hha : hasAtP us pp with _ | _
            · have HF : Hid (usedGo t xp used list xd = usedGo t xp (withP us ⟨pp, pn, pv, .slice pa pl pc, pd⟩) (ls ++ [⟨pp, .slice pa pl pc, pd⟩]) (xd.drop (j + 1))) := by unfold Hid; rw [HE2.out]; exact U3'.out hha
              have HV3 := hid' (HV2.out.step HPT.out hha ⟨pp, .slice pa pl pc, pd⟩)
              have HLI3 := hid' (HL2.out.push (x := ⟨pp, .slice pa pl pc, pd⟩) HPP.out HPN.out)
              have HWP := hid' (fun w h h' => withP_any (.slice ua us.length uc) us ⟨pp, pn, pv, .slice pa pl pc, pd⟩ w h h' (by omega))
              clear hha U2' U3' HHA
              go_wp2_with fail
              refine (HWP.out _ HR6.out HEN6.out).mono ?_
              rintro e w3 ⟨v3, rfl, hin3, hb3⟩
              obtain ⟨xa, xc, rfl⟩ := hin3.1.form
              have hcc := (bcell hb3).1
              have hff := (bcell hb3).2
              have s0 := (hcc w1.heap.size 0 hw12).trans z0
              have s3 := (hcc w1.heap.size 3 hw12).trans z3
              have s5 := (hcc (w.heap.size + 1 + 1) 0 hC6).trans z5
              have sf := (hff (w.heap.size + 1 + 1) 0 hC6).trans hf6
              have hz3 := hb3.size
              obtain ⟨hu7, hm7⟩ := UAt.set (HU6.out.below hb3) (show w.heap.size ≤ w.heap.size + 1 + 1 by omega) hin3
              have HU7 := hid' hu7
              have HM7 := hid' ((HM6.out.trans (Mv.of_below (c := w.heap.size + 1 + 1) (B := w.heap.size) (lv := .slice ma ls.length mc) hb3 (by omega))).trans hm7)
              have HEN7 := hid' ((HEN6.out.below hb3).off (But.set w3 (w.heap.size + 1 + 1) 0 (.slice xa (withP us ⟨pp, pn, pv, .slice pa pl pc, pd⟩).length xc)) (odd_of ((HU6.out.below hb3).tag) (by decide) (by decide)))
              have hw13 : w1.heap.size < w3.heap.size := by omega
              have hC7 : w.heap.size + 1 + 1 < w3.heap.size := by omega
              have hne1 : w1.heap.size ≠ w.heap.size + 1 + 1 := by omega
              have hne2 : w.heap.size + 1 + 1 ≠ w1.heap.size := by omega
              have hown7 := hu7.own
              have hBz7 : w.heap.size ≤ (w3.setCell ⟨w.heap.size + 1 + 1, 0, none⟩ (.slice xa (withP us ⟨pp, pn, pv, .slice pa pl pc, pd⟩).length xc)).heap.size := by simp; omega
              clear hcc hff hb3 hin3 hu7 hm7 z0 z1 z2 z3 z5
              go_wp2_with (first | (at_builtin; refine wpList_append_lies _ rfl _ _ 140 rfl w.heap.size 145 i0 (.agg #[.string ByteArray.empty, .slice none 0 0]) 2 40 Tryd.underlying140 hi iz0 iz1 iz2 rfl (by omega) _ _ _ rfl (hown7.alloc _) ⟨w3.heap.size, 0, none⟩ 1 1 [.string (bs pp), .slice pa pl pc] rfl rfl (by have := news_2 (w3.setCell ⟨w.heap.size + 1 + 1, 0, none⟩ (.slice xa (withP us ⟨pp, pn, pv, .slice pa pl pc, pd⟩).length xc)) (.string (bs pp)) (.slice pa pl pc) 145; simpa using this) (whX_one ⟨pp, .slice pa pl pc, pd⟩ rfl) (by omega) (by unfold maxLen; omega) (by omega) (by simp; omega) (w3.heap.size + 1) (by simp) ?_; intro g8 cap8 w8 hown8 hgrow8 hat8 hlt8))
              have R := UAt.push (x := ⟨pp, .slice pa pl pc, pd⟩) (HU7.out.below ((Below.refl _ _).alloc (Nat.le_refl _) _)) (HEN7.out.1.below ((Below.refl _ _).alloc (Nat.le_refl _) _)) (by simp; omega) hown8 hgrow8 (hat8.imp id (fun h => by rw [h]; simp))
              have HR1 := hid' R.1
              have HR2 := hid' ((HM7.out.trans (Mv.of_below ((Below.refl _ _).alloc (Nat.le_refl _) _) hBz7)).trans R.2)
              have HR3 : Hid (list.length ≤ (ls ++ [(⟨pp, .slice pa pl pc, pd⟩ : WhX)]).length) := by unfold Hid; have := HG2.out; simp; omega
              clear R hown8 hgrow8 hat8 hown7
              go_wp2
              go_roundw
              case rel => exact ⟨j + 1, withP us ⟨pp, pn, pv, .slice pa pl pc, pd⟩, ls ++ [⟨pp, .slice pa pl pc, pd⟩], by omega, by go_num, HR1.out, HR2.out, HV3.out, HLI3.out, HR3.out, HF.out⟩
              case measure => simp [intOf] <;> omega
            · have HF : Hid (usedGo t xp used list xd = usedGo t xp us ls (xd.drop (j + 1))) := by unfold Hid; rw [HE2.out]; exact U2'.out hha
              clear hha U2' U3' HHA
              go_wp2
              go_roundw
              case rel => exact ⟨j + 1, us, ls, by omega, by go_num, HU6.out, HM6.out, HV2.out, HL2.out, HG2.out, HF.out⟩
              case measure => simp [intOf] <;> omega
        · have HF : Hid (usedGo t xp used list xd = (us, ls)) := by unfold Hid; rw [HE2.out]; exact ug_end hjl
          have HFR : Hid (res = inUseGo t (t.length + 2 - (k + 1)) (k + 1) us ls) := by unfold Hid; rw [HST.out, HF.out]
          have HMF := hid' (HMB.out.trans HM2.out)
          have hkl : k + 1 ≤ ls.length := by have := HG2.out; omega
          have hkl2 : ls.length ≤ t.length + 1 := by have := HV2.out.len; omega
          go_wp2
          go_roundw
          case rel => exact ⟨k + 1, us, ls, hkl, hkl2, by go_num, HU2.out, HMF.out, HV2.out, HL2.out, HFR.out⟩
          case measure => simp [intOf] <;> omega
    · have HF : Hid (res = used) := by
        have e : t.length + 2 - k = (t.length + 1 - k) + 1 := by omega
        unfold Hid; rw [HRE.out, e]; exact iu_end hlt
      obtain ⟨v5, e5, r5⟩ := HUA.out.cell
      obtain ⟨ua, uc, rfl⟩ := r5.1.form
      have hC := HUA.out.lt
      have HR5 := hid' r5
      have h1r : w.heap.size + 1 < wr.heap.size := by omega
      have HBE := hid' (HBW.out.trans (HMV.out.below))
      go_wp2
      refine bodyPost_ret (v := .agg #[.slice ua used.length uc]) (by simp [results, Tryd.results91, go_sem, *]) rfl ⟨_, rfl, ?_, HBE.out.setCell (show w.heap.size ≤ w.heap.size + 1 by omega) _⟩
      rw [HF.out]
      exact HR5.out.off (But.set _ _ _ _) HTR2.out (by decide) (by decide) (by decide)

end Hst
end Go.Proofs.YtecocheolbkneaaDoor
namespace Go.Proofs.YtecocheolbkneaaDoor
open Go.RowKit
namespace Hst
set_option maxRecDepth 100000

theorem bg_end {st : List EntX} {fav : List PkX} {f i : Nat} {k : WorkX} (h : ¬ i < k.list.length) : buildGoP st fav (f + 1) i k = (k, 0) := by rw [buildGoP, List.getElem?_eq_none (by omega)]
theorem bg_ok {st : List EntX} {fav : List PkX} {f i : Nat} {k : WorkX} (h : i < k.list.length) (h' : (workGo st fav k.list[i].path k k.list[i].nd).2 = 0) : buildGoP st fav (f + 1) i k = buildGoP st fav f (i + 1) (workGo st fav k.list[i].path k k.list[i].nd).1 := by
  rw [buildGoP, List.getElem?_eq_getElem h]; simp only; rw [if_pos h']
theorem bg_err {st : List EntX} {fav : List PkX} {f i : Nat} {k : WorkX} (h : i < k.list.length) (h' : ¬ (workGo st fav k.list[i].path k k.list[i].nd).2 = 0) : buildGoP st fav (f + 1) i k = workGo st fav k.list[i].path k k.list[i].nd := by
  rw [buildGoP, List.getElem?_eq_getElem h]; simp only; rw [if_neg h']
theorem bp_ok {st : List EntX} {v : Value} {site : List NeedX} {fav : List PkX} {k : WorkX} (h : buildGoP st fav 60 0 ⟨[], [⟨[], v, site⟩], []⟩ = (k, 0)) : buildP st v site fav = (some (inUseP k.tree v site), 0) := by unfold buildP; rw [h]; rfl
theorem bp_err {st : List EntX} {v : Value} {site : List NeedX} {fav : List PkX} {k : WorkX} {e : Int} (h : buildGoP st fav 60 0 ⟨[], [⟨[], v, site⟩], []⟩ = (k, e)) (he : ¬ e = 0) : buildP st v site fav = (none, e) := by unfold buildP; rw [h]; simp only; rw [if_neg he]

set_option maxHeartbeats 4000000 in
theorem build_any' (v sv fv : Value) (st : List EntX) (site : List NeedX) (fav : List PkX) (w : World) (hv : EntsIn w v st) (hs : NeedsIn w sv site) (hf : PksIn w fv fav) (hst : StOk st) (hsl : site.length ≤ 6) (hfl : fav.length ≤ 1000) :
    Calls Tryd.prog 80 #[.agg #[v], sv, .agg #[fv]] w fun e w' => ∃ a n c, e = .returned (.tuple #[.agg #[.slice a n c], .int .i64 (buildP st sv site fav).2]) ∧ Below w.heap.size w w' ∧ (∀ t, (buildP st sv site fav).1 = some t → PksIn w' (.slice a n c) t) := by
  obtain ⟨i0, hi, iz0, iz1, iz2⟩ := info_parts info_whX
  obtain ⟨sa, sc, rfl⟩ := hv.1.form
  obtain ⟨na, nc, rfl⟩ := hs.1.form
  obtain ⟨fa, fc, rfl⟩ := hf.1.form
  have HBO := hid' (fun k => bp_ok (st := st) (v := .slice na site.length nc) (site := site) (fav := fav) (k := k))
  have HBE := hid' (fun k e => bp_err (st := st) (v := .slice na site.length nc) (site := site) (fav := fav) (k := k) (e := e))
  generalize buildP st (.slice na site.length nc) site fav = res at *
  have hbw := ((((Below.refl w.heap.size w).alloc (Nat.le_refl _) (.cells #[.slice sa st.length sc] 93)).alloc (by simp) (.cells #[.slice fa fav.length fc] 96)).alloc (by simp; omega) (.cells #[.slice none 0 0] 96)).alloc (by simp; omega) (.cells #[.slice sa st.length sc, .slice fa fav.length fc, .slice none 0 0, .slice none 0 0, .slice none 0 0] 143)
  have HV := hid' (hv.below hbw)
  have HS := hid' (hs.below hbw)
  have HF := hid' (hf.below hbw)
  have HBW := hid' hbw
  have hsz : ((((w.alloc (.cells #[.slice sa st.length sc] 93)).alloc (.cells #[.slice fa fav.length fc] 96)).alloc (.cells #[.slice none 0 0] 96)).alloc (.cells #[.slice sa st.length sc, .slice fa fav.length fc, .slice none 0 0, .slice none 0 0, .slice none 0 0] 143)).heap.size = w.heap.size + 4 := by simp
  have er : ((((w.alloc (.cells #[.slice sa st.length sc] 93)).alloc (.cells #[.slice fa fav.length fc] 96)).alloc (.cells #[.slice none 0 0] 96)).alloc (.cells #[.slice sa st.length sc, .slice fa fav.length fc, .slice none 0 0, .slice none 0 0, .slice none 0 0] 143)).cell? ⟨w.heap.size + 1 + 1, 0, none⟩ = some (.slice none 0 0) ∧ ((((w.alloc (.cells #[.slice sa st.length sc] 93)).alloc (.cells #[.slice fa fav.length fc] 96)).alloc (.cells #[.slice none 0 0] 96)).alloc (.cells #[.slice sa st.length sc, .slice fa fav.length fc, .slice none 0 0, .slice none 0 0, .slice none 0 0] 143)).frozen? ⟨w.heap.size + 1 + 1, 0, none⟩ = false := by constructor <;> simp [go_sem]
  have htr : tagOf ((((w.alloc (.cells #[.slice sa st.length sc] 93)).alloc (.cells #[.slice fa fav.length fc] 96)).alloc (.cells #[.slice none 0 0] 96)).alloc (.cells #[.slice sa st.length sc, .slice fa fav.length fc, .slice none 0 0, .slice none 0 0, .slice none 0 0] 143)) (w.heap.size + 1 + 1) = some 96 := by
    have h1 := tag_new ((w.alloc (.cells #[.slice sa st.length sc] 93)).alloc (.cells #[.slice fa fav.length fc] 96)) #[.slice none 0 0] 96
    rw [tagOf_below (w := (((w.alloc (.cells #[.slice sa st.length sc] 93)).alloc (.cells #[.slice fa fav.length fc] 96)).alloc (.cells #[.slice none 0 0] 96))) ((Below.refl _ _).alloc (Nat.le_refl _) _) (by simp)]
    simpa using h1
  have htb : tagOf ((((w.alloc (.cells #[.slice sa st.length sc] 93)).alloc (.cells #[.slice fa fav.length fc] 96)).alloc (.cells #[.slice none 0 0] 96)).alloc (.cells #[.slice sa st.length sc, .slice fa fav.length fc, .slice none 0 0, .slice none 0 0, .slice none 0 0] 143)) (w.heap.size + 1 + 1 + 1) = some 143 := by
    have h1 := tag_new (((w.alloc (.cells #[.slice sa st.length sc] 93)).alloc (.cells #[.slice fa fav.length fc] 96)).alloc (.cells #[.slice none 0 0] 96)) #[.slice sa st.length sc, .slice fa fav.length fc, .slice none 0 0, .slice none 0 0, .slice none 0 0] 143
    simpa using h1
  have hW0 : WorkAt ((((w.alloc (.cells #[.slice sa st.length sc] 93)).alloc (.cells #[.slice fa fav.length fc] 96)).alloc (.cells #[.slice none 0 0] 96)).alloc (.cells #[.slice sa st.length sc, .slice fa fav.length fc, .slice none 0 0, .slice none 0 0, .slice none 0 0] 143)) (w.heap.size + 1 + 1 + 1) w.heap.size st fav ⟨[], [], []⟩ :=
    ⟨by omega, htb, ⟨_, by simp [go_sem], HV.out⟩, ⟨_, by simp [go_sem], HF.out⟩, ⟨.slice none 0 0, by simp [go_sem], RowX.nil _ _ _ _, by simp⟩, ⟨.slice none 0 0, by simp [go_sem], World.ownsRow_nil _ _ _ _, by simp⟩, ⟨.slice none 0 0, by simp [go_sem], World.ownsRow_nil _ _ _ _, by simp⟩, by simp [go_sem], by simp [go_sem], by simp [go_sem]⟩
  have HW0 := hid' hW0
  clear hv hs hf hbw htb
  go_enter Tryd.func80, Tryd.ntmps80
  have e3 : ((((w.alloc (.cells #[.slice sa st.length sc] 93)).alloc (.cells #[.slice fa fav.length fc] 96)).alloc (.cells #[.slice none 0 0] 96)).alloc (.cells #[.slice sa st.length sc, .slice fa fav.length fc, .slice none 0 0, .slice none 0 0, .slice none 0 0] 143)).cell? ⟨w.heap.size + 1 + 1 + 1, 3, none⟩ = some (.slice none 0 0) := by simp [go_sem]
  go_wp2_with (first | (at_builtin; refine wpList_append_lies _ rfl _ _ 140 rfl w.heap.size 145 i0 (.agg #[.string ByteArray.empty, .slice none 0 0]) 2 40 Tryd.underlying140 hi iz0 iz1 iz2 rfl (by omega) _ 0 [] rfl (World.ownsRow_nil _ _ _ _) ⟨w.heap.size + 1 + 1 + 1 + 1, 0, none⟩ 1 1 [.string ⟨#[]⟩, .slice na site.length nc] rfl rfl (by have := news_2 ((((w.alloc (.cells #[.slice sa st.length sc] 93)).alloc (.cells #[.slice fa fav.length fc] 96)).alloc (.cells #[.slice none 0 0] 96)).alloc (.cells #[.slice sa st.length sc, .slice fa fav.length fc, .slice none 0 0, .slice none 0 0, .slice none 0 0] 143)) (.string ⟨#[]⟩) (.slice na site.length nc) 145; simpa using this) (whX_one ⟨[], .slice na site.length nc, site⟩ rfl) (by omega) (by unfold maxLen; omega) (by omega) (by simp; omega) (w.heap.size + 5) (by simp) ?_; intro g1 cap1 w1 hown1 hgrow1 hat1 hlt1; have y3 := grow_far hgrow1 (b := w.heap.size + 1 + 1 + 1) (by simp <;> omega) (fun q hq => nomatch (show (none : Option Nat) = some q from hq)) 3; have y4 := grow_far_f hgrow1 (b := w.heap.size + 1 + 1 + 1) (by simp <;> omega) (fun q hq => nomatch (show (none : Option Nat) = some q from hq)) 3; have hgz := hgrow1.size; simp at hgz; have hBz : w.heap.size + 1 + 1 + 1 < w1.heap.size := (by omega); simp [go_sem] at y3 y4))
  have hba := (Below.refl _ ((((w.alloc (.cells #[.slice sa st.length sc] 93)).alloc (.cells #[.slice fa fav.length fc] 96)).alloc (.cells #[.slice none 0 0] 96)).alloc (.cells #[.slice sa st.length sc, .slice fa fav.length fc, .slice none 0 0, .slice none 0 0, .slice none 0 0] 143))).alloc (Nat.le_refl _) (.cells #[.string ⟨#[]⟩, .slice na site.length nc] 145)
  have R := WorkAt.pushList (k := ⟨[], [], []⟩) (v := .slice none 0 0) (x := ⟨[], .slice na site.length nc, site⟩) (HW0.out.below hba) (show w.heap.size ≤ w.heap.size + 1 + 1 + 1 by omega) ((Below.cell (w := ((((w.alloc (.cells #[.slice sa st.length sc] 93)).alloc (.cells #[.slice fa fav.length fc] 96)).alloc (.cells #[.slice none 0 0] 96)).alloc (.cells #[.slice sa st.length sc, .slice fa fav.length fc, .slice none 0 0, .slice none 0 0, .slice none 0 0] 143))) hba (p := ⟨w.heap.size + 1 + 1 + 1, 3, none⟩) (by simp)).trans e3) (HS.out.below hba) hown1 hgrow1 (hat1.imp id (fun h => by rw [h]; simp))
  simp only [List.nil_append, List.length_nil, Nat.zero_add] at R
  have HFR : Hid (Free ((((w.alloc (.cells #[.slice sa st.length sc] 93)).alloc (.cells #[.slice fa fav.length fc] 96)).alloc (.cells #[.slice none 0 0] 96)).alloc (.cells #[.slice sa st.length sc, .slice fa fav.length fc, .slice none 0 0, .slice none 0 0, .slice none 0 0] 143)) (w.heap.size + 1 + 1 + 1) (w.heap.size + 1 + 1)) := HW0.out.free (by omega) htr (by decide) (by decide) (by decide)
  have HM := hid' ((Moves.of_below (b := w.heap.size + 1 + 1 + 1) (B := w.heap.size) hba (by simp) (by simp; omega)).trans R.2)
  have HWK := hid' R.1
  have HMF := hid' (HM.out.free _ HFR.out)
  have HBL := hid' (HBW.out.trans HM.out.below)
  have HER : Hid ((w1.setCell ⟨w.heap.size + 1 + 1 + 1, 3, none⟩ (.slice (some ⟨g1, 0, none⟩) 1 cap1)).cell? ⟨w.heap.size + 1 + 1, 0, none⟩ = some (.slice none 0 0) ∧ (w1.setCell ⟨w.heap.size + 1 + 1 + 1, 3, none⟩ (.slice (some ⟨g1, 0, none⟩) 1 cap1)).frozen? ⟨w.heap.size + 1 + 1, 0, none⟩ = false) := ⟨by rw [World.cell?_of_block (w := ((((w.alloc (.cells #[.slice sa st.length sc] 93)).alloc (.cells #[.slice fa fav.length fc] 96)).alloc (.cells #[.slice none 0 0] 96)).alloc (.cells #[.slice sa st.length sc, .slice fa fav.length fc, .slice none 0 0, .slice none 0 0, .slice none 0 0] 143))) HMF.out.1]; exact er.1, by rw [World.frozen?_of_block (w := ((((w.alloc (.cells #[.slice sa st.length sc] 93)).alloc (.cells #[.slice fa fav.length fc] 96)).alloc (.cells #[.slice none 0 0] 96)).alloc (.cells #[.slice sa st.length sc, .slice fa fav.length fc, .slice none 0 0, .slice none 0 0, .slice none 0 0] 143))) HMF.out.1]; exact er.2⟩
  have HTR : Hid (tagOf (w1.setCell ⟨w.heap.size + 1 + 1 + 1, 3, none⟩ (.slice (some ⟨g1, 0, none⟩) 1 cap1)) (w.heap.size + 1 + 1) = some 96) := by unfold Hid tagOf; rw [HMF.out.1]; exact htr
  have HSM := hid' ((HS.out.below hba).moves (HW0.out.below hba) R.2)
  clear R hown1 hgrow1 hat1 hba e3 er htr hW0
  generalize w1.setCell ⟨w.heap.size + 1 + 1 + 1, 3, none⟩ (.slice (some ⟨g1, 0, none⟩) 1 cap1) = X at *
  clear HM
  have HOK0 : Hid (WOk ⟨[], [⟨[], .slice na site.length nc, site⟩], []⟩) := ⟨by simp, rfl, fun x hx => by simp only [List.mem_singleton] at hx; subst hx; exact ⟨by simp, hsl⟩, by simp, by simp⟩
  have HST := hid' hst
  have hRB : w.heap.size ≤ w.heap.size + 1 + 1 + 1 := by omega
  go_loopw [9] (fun i wr => ∃ (n : Nat) (k : WorkX), n ≤ k.list.length ∧ k.list.length ≤ 41 ∧ i = .int .i64 n ∧ Hid (Moves (w.heap.size + 1 + 1 + 1) w.heap.size X wr ∧ WorkAt wr (w.heap.size + 1 + 1 + 1) w.heap.size st fav k ∧ WOk k ∧ k.gone.length ≤ 6 * n ∧ buildGoP st fav 60 0 ⟨[], [⟨[], .slice na site.length nc, site⟩], []⟩ = buildGoP st fav (60 - n) n k)) (fun i _ => 60 - (intOf i).toNat)
  case atStart => exact ⟨0, ⟨[], [⟨[], .slice na site.length nc, site⟩], []⟩, by simp, by simp, rfl, Moves.refl _ _ _, HWK.out, HOK0.out, by simp, rfl⟩
  case round =>
    obtain ⟨n, k, hn, hk41, rfl, hall⟩ := hrel
    have HMV := hid' hall.out.1; have HWA := hid' hall.out.2.1; have HOK := hid' hall.out.2.2.1; have HGN := hid' hall.out.2.2.2.1; have HEQ := hid' hall.out.2.2.2.2
    obtain ⟨v3, e3, r3, q3⟩ := HWA.out.list
    obtain ⟨la, lc, rfl⟩ := own_slice r3
    have hbr := HWA.out.lt
    have hmf := HMV.out.free _ HMF.out.2
    have er : wr.cell? ⟨w.heap.size + 1 + 1, 0, none⟩ = some (.slice none 0 0) := by rw [World.cell?_of_block (w := X) hmf.1]; exact HER.out.1
    have ef : wr.frozen? ⟨w.heap.size + 1 + 1, 0, none⟩ = false := by rw [World.frozen?_of_block (w := X) hmf.1]; exact HER.out.2
    have HTR2 : Hid (tagOf wr (w.heap.size + 1 + 1) = some 96) := by unfold Hid tagOf; rw [hmf.1]; exact HTR.out
    have HFR2 := hid' hmf.2
    have hRr := hmf.2.1
    have HBR := hid' (HBL.out.trans HMV.out.below)
    clear hall hmf
    by_cases hlt : n < k.list.length
    · obtain ⟨g, o, cap', hv, hg, hc⟩ := (RowX.of_own (f := whXC) r3).whs hlt
      simp at hv
      obtain ⟨rfl, rfl⟩ := hv
      obtain ⟨c0, c1⟩ := hc n hlt
      have hnx := q3 k.list[n] (List.getElem_mem hlt)
      obtain ⟨xa, xc, hxf⟩ := hnx.1.form
      have hlx := HOK.out.lp k.list[n] (List.getElem_mem hlt)
      have G1 := hid' (bg_ok (st := st) (fav := fav) (f := 59 - n) (k := k) hlt)
      have G2 := hid' (bg_err (st := st) (fav := fav) (f := 59 - n) (k := k) hlt)
      have e60 : 60 - n = 59 - n + 1 := by omega
      rw [e60] at HEQ
      have hba := (Below.refl wr.heap.size wr).alloc (Nat.le_refl _) (.cells #[.string (bs k.list[n].path), k.list[n].needs] 145)
      have HWC := hid' (workAt_any (w.heap.size + 1 + 1 + 1) w.heap.size st fav k k.list[n] _ (HWA.out.below hba) hRB (hnx.below hba) HST.out hfl HOK.out hlx.1 hlx.2 (by have := HGN.out; omega))
      have HWO := hid' (WOk.work (fav := fav) (path := k.list[n].path) HST.out k.list[n].nd k HOK.out hlx.1)
      have HMB := hid' (HMV.out.trans (Moves.of_below hba hbr (by omega)))
      have HFB := hid' ((Moves.of_below (b := w.heap.size + 1 + 1 + 1) (B := w.heap.size) hba hbr (by omega)).free _ HFR2.out).2
      have er2 := ((bcell hba).1 (w.heap.size + 1 + 1) 0 hRr).trans er
      have ef2 := ((bcell hba).2 (w.heap.size + 1 + 1) 0 hRr).trans ef
      have HBB := hid' (HBR.out.trans (hba.mono (by omega)))
      have hnl : k.list[n].nd.length ≤ 6 := hlx.2
      clear hc hnx hba q3 e60 hlx
      generalize k.list[n] = x at *
      obtain ⟨xp, xv, xd⟩ := x
      simp only at hxf c0 c1 HWC HWO G1 G2 HMB HFB er2 ef2 HBB hnl
      subst hxf
      generalize workGo st fav xp k xd = wg at *
      obtain ⟨wk, we⟩ := wg
      simp only at HWC HWO G1 G2
      go_wp2_with fail
      refine HWC.out.mono ?_
      rintro e w2 ⟨rfl, hm2, hwk2⟩
      have hf2 := hm2.free _ HFB.out
      have er3 : w2.cell? ⟨w.heap.size + 1 + 1, 0, none⟩ = some (.slice none 0 0) := by rw [World.cell?_of_block hf2.1]; exact er2
      have ef3 : w2.frozen? ⟨w.heap.size + 1 + 1, 0, none⟩ = false := by rw [World.frozen?_of_block hf2.1]; exact ef2
      have hR2 := hf2.2.1
      have HM2 := hid' (HMB.out.trans hm2)
      have HW2 := hid' hwk2
      have HB2 := hid' (HBB.out.trans hm2.below)
      clear hm2 hwk2 hf2 er ef er2 ef2 e3 r3 c0 c1
      by_cases hwe : we = 0
      · subst hwe
        have HE : Hid (buildGoP st fav 60 0 ⟨[], [⟨[], .slice na site.length nc, site⟩], []⟩ = buildGoP st fav (60 - (n + 1)) (n + 1) wk) := by
          unfold Hid; rw [HEQ.out]
          have e : 60 - (n + 1) = 59 - n := by omega
          rw [e]; exact G1.out (by first | rfl | trivial)
        have hl1 : n + 1 ≤ wk.list.length := by have h1 := HWO.out.1.list; have h2 := HOK.out.list; have h3 := HWO.out.2.1; omega
        have hl2 : wk.list.length ≤ 41 := by have h1 := HWO.out.1.list; have h2 := HWO.out.1.tree; omega
        have HG : Hid (wk.gone.length ≤ 6 * (n + 1)) := by unfold Hid; have h1 := HWO.out.2.2; have h2 := HGN.out; omega
        clear G1 G2
        go_wp2
        go_roundw
        case rel => exact ⟨n + 1, wk, hl1, hl2, by go_num, HM2.out, HW2.out, HWO.out.1, HG.out, HE.out⟩
        case measure => simp [intOf] <;> omega
      · have HF2 : Hid (res = (none, we)) := by unfold Hid; exact HBE.out wk we (by rw [HEQ.out]; exact G2.out hwe) hwe
        have hbn : (we == 0) = false := beq_eq_false_iff_ne.2 hwe
        have hbn2 : (we != 0) = true := by simp [bne, hbn]
        clear G1 G2
        go_wp2
        refine bodyPost_ret (v := .tuple #[.agg #[.slice none 0 0], .int .i64 we]) (by simp [results, Tryd.results80, go_sem, *]) rfl ⟨none, 0, 0, by rw [HF2.out], HB2.out.setCell (show w.heap.size ≤ w.heap.size + 1 + 1 by omega) _, fun t ht => by rw [HF2.out] at ht; simp at ht⟩
    · have HK : Hid (res = (some (inUseP k.tree (.slice na site.length nc) site), 0)) := by
        unfold Hid
        refine HBO.out k ?_
        rw [HEQ.out]
        have e60 : 60 - n = 59 - n + 1 := by omega
        rw [e60]; exact bg_end hlt
      obtain ⟨v2, e2, r2⟩ := HWA.out.tree
      obtain ⟨ta, tc, rfl⟩ := r2.1.form
      have HR2 := hid' r2
      have HSN := hid' (HSM.out.moves HWK.out HMV.out)
      have HIU := hid' (fun w h h' => inUse_any' (.slice ta k.tree.length tc) k.tree (.slice na site.length nc) site w h h' (by have := HOK.out.tree; omega) (fun q hq => by have h1 := HOK.out.tp q hq; have h2 := HOK.out.tree; omega) (by omega))
      clear r2 r3 q3
      go_wp2_with fail
      refine (HIU.out _ HR2.out HSN.out).mono ?_
      rintro e w2 ⟨v', rfl, hin2, hb2⟩
      obtain ⟨ua, uc, rfl⟩ := hin2.1.form
      have er3 := ((bcell hb2).1 (w.heap.size + 1 + 1) 0 hRr).trans er
      have ef3 := ((bcell hb2).2 (w.heap.size + 1 + 1) 0 hRr).trans ef
      have hR2 : w.heap.size + 1 + 1 < w2.heap.size := by have := hb2.size; omega
      have HT3 : Hid (tagOf w2 (w.heap.size + 1 + 1) = some 96) := by unfold Hid; rw [tagOf_below hb2 hRr]; exact HTR2.out
      have HB2 := hid' (HBR.out.trans (hb2.mono (by have := hRr; omega)))
      have HI2 := hid' hin2
      clear hb2 hin2 er ef
      go_wp2
      refine bodyPost_ret (v := .tuple #[.agg #[.slice ua (inUseP k.tree (.slice na site.length nc) site).length uc], .int .i64 0]) (by simp [results, Tryd.results80, go_sem, *]) rfl ⟨ua, _, uc, by rw [HK.out], HB2.out.setCell (show w.heap.size ≤ w.heap.size + 1 + 1 by omega) _, fun t ht => ?_⟩
      rw [HK.out] at ht
      simp at ht
      subst ht
      exact HI2.out.off (But.set _ _ _ _) HT3.out (by decide) (by decide) (by decide)

end Hst
end Go.Proofs.YtecocheolbkneaaDoor
namespace Go.Proofs.YtecocheolbkneaaDoor
open Go.RowKit
namespace Hst

/-- What a call of a site changes: its block, and new ones. -/
structure SMv (b : Nat) (w w' : World) : Prop where
  os : w'.os = w.os
  tape : w'.tape = w.tape
  output : w'.output = w.output
  but : But b w w'
theorem SMv.of_below {b : Nat} {w w' : World} (h : Below w.heap.size w w') : SMv b w w' := ⟨h.os, h.tape, h.output, But.of_below h⟩
theorem SMv.trans {b : Nat} {w w1 w2 : World} (h : SMv b w w1) (k : SMv b w1 w2) : SMv b w w2 := ⟨k.os.trans h.os, k.tape.trans h.tape, k.output.trans h.output, h.but.trans k.but⟩
theorem SMv.set (w : World) (b o : Nat) (u : Value) : SMv b w (w.setCell ⟨b, o, none⟩ u) := ⟨rfl, rfl, rfl, But.set w b o u⟩

end Hst
end Go.Proofs.YtecocheolbkneaaDoor
