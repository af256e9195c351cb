/- Dinuse, Dpruned, Dgreat -/
import Derived.Test.YtecocheolbkneaaGreatDoorW26
namespace Go.Proofs.YtecocheolbkneaaGreatDoor
open Go.RowKit
namespace Hst
set_option maxRecDepth 100000

/-- What is used: no path twice, all of the tree. -/
structure UsD (l : List PackD) (used : List Tx) : Prop where
  nd : used.Nodup
  sub : ∀ p ∈ used, p ∈ l.map fun q => q.path
theorem UsD.le {l : List PackD} {used : List Tx} (h : UsD l used) : used.length ≤ l.length := by
  have := nodup_le used (l.map fun q => q.path) h.nd h.sub
  simpa using this
theorem packAt_mem {l : List PackD} {k : Nat} (h : k < l.length) : packAt l k = l[k] := by unfold packAt; rw [List.getD_eq_getElem?_getD, List.getElem?_eq_getElem h]; rfl
theorem UsD.push {l : List PackD} {used : List Tx} (h : UsD l used) {k : Nat} (hk : k < l.length) (hh : hasR used (packAt l k).path = false) : UsD l (used ++ [(packAt l k).path]) := by
  have hn : (packAt l k).path ∉ used := fun hm => by
    unfold hasR at hh
    have := List.any_eq_false.1 hh _ hm
    simp at this
  refine ⟨?_, fun p hp => ?_⟩
  · rw [List.nodup_append]
    refine ⟨h.nd, by simp, fun a ha b hb => ?_⟩
    simp only [List.mem_singleton] at hb
    subst hb
    exact fun e => hn (e ▸ ha)
  · simp only [List.mem_append, List.mem_singleton] at hp
    rcases hp with hp | rfl
    · exact h.sub p hp
    · rw [packAt_mem hk]; exact List.mem_map.2 ⟨l[k], List.getElem_mem hk, rfl⟩
def cnt (used : List Tx) (p : Tx) : Bool := decide (p = []) || hasR used p
theorem pg_off {l : List PackD} {used : List Tx} {more : Bool} {who : List WhoD} {i : Nat} (hi : i < who.length) (h : cnt used who[i].path = false) : passGo l used more (who.drop i) = passGo l used more (who.drop (i + 1)) := by
  rw [List.drop_eq_getElem_cons hi, passGo]; unfold cnt at h; rw [if_neg (by rw [h]; simp)]
theorem pg_none {l : List PackD} {used : List Tx} {more : Bool} {who : List WhoD} {i : Nat} (hi : i < who.length) (h : findR l who[i].path who[i].n.name = none) : passGo l used more (who.drop i) = passGo l used more (who.drop (i + 1)) := by
  rw [List.drop_eq_getElem_cons hi, passGo, h]; simp only; split <;> rfl
theorem pg_old {l : List PackD} {used : List Tx} {more : Bool} {who : List WhoD} {i k : Nat} (hi : i < who.length) (h : findR l who[i].path who[i].n.name = some k) (hh : hasR used (packAt l k).path = true) : passGo l used more (who.drop i) = passGo l used more (who.drop (i + 1)) := by
  rw [List.drop_eq_getElem_cons hi, passGo, h]; simp only; rw [if_pos hh]; split <;> rfl
theorem pg_new {l : List PackD} {used : List Tx} {more : Bool} {who : List WhoD} {i k : Nat} (hi : i < who.length) (h0 : cnt used who[i].path = true) (h : findR l who[i].path who[i].n.name = some k) (hh : hasR used (packAt l k).path = false) : passGo l used more (who.drop i) = passGo l (used ++ [(packAt l k).path]) true (who.drop (i + 1)) := by
  rw [List.drop_eq_getElem_cons hi, passGo, h]; simp only; unfold cnt at h0; rw [if_pos h0, if_neg (by rw [hh]; simp)]
theorem pg_fin {l : List PackD} {used : List Tx} {more : Bool} {who : List WhoD} {i : Nat} (hi : ¬ i < who.length) : passGo l used more (who.drop i) = (used, more) := by
  rw [List.drop_of_length_le (by omega)]; rfl
theorem usg_more {l : List PackD} {who : List WhoD} {f : Nat} {used u' : List Tx} (h : passGo l used false who = (u', true)) : useGo l who (f + 1) used = useGo l who f u' := by
  rw [useGo, h]; rfl
theorem usg_done {l : List PackD} {who : List WhoD} {f : Nat} {used u' : List Tx} (h : passGo l used false who = (u', false)) : useGo l who (f + 1) used = u' := by
  rw [useGo, h]; rfl
def lenOf : Value → Nat
  | .slice _ n _ => n
  | _ => 0
def flagOf : Value → Bool
  | .bool b => b
  | _ => false
theorem RowX.whoD {w : World} {v : Value} {l : List WhoD} (h : RowX whoC 3 200 w v l) {k : Nat} (hk : k < l.length) :
    ∃ g o cap, v = .slice (some ⟨g, o, none⟩) l.length cap ∧ g < w.heap.size ∧ ∀ (j : Nat) (hj : j < l.length), w.cell? ⟨g, o + j * 3, none⟩ = some (.string (bs l[j].path)) ∧ w.cell? ⟨g, o + j * 3 + 1, none⟩ = some (.string (bs l[j].n.name)) ∧ w.cell? ⟨g, o + j * 3 + 2, none⟩ = some (.string (bs l[j].n.rng)) := by
  obtain ⟨g, o, cap, hv, hg, hc⟩ := h.cells whoC_len hk
  exact ⟨g, o, cap, hv, hg, fun j hj => ⟨hc j hj 0 (by omega), hc j hj 1 (by omega), hc j hj 2 (by omega)⟩⟩

attribute [local go_sem ↓] Go.wp_at_zero Go.wp_at_succ

set_option maxHeartbeats 8000000 in
theorem inUseD_any (b : Nat) (s : SiteD) (nv : Value) (nd : List NeedD) (v : Value) (l : List PackD) (w : World) (hs : DAt w b s) (hn : NeedsI w nv nd) (hl : PacksI w v l) (hnl : nd.length ≤ 1000) (hll : l.length ≤ 1000) (hof : ∀ p ∈ l, p.of < s.stock.length) (hst : ∀ e ∈ s.stock, e.needs.length ≤ 1000) (hwo : ∀ x ∈ allR s.stock nd l, WhoOk x) (hwl : (allR s.stock nd l).length ≤ 100000) :
    Calls Tryz.prog 99 #[.pointer (some ⟨b, 0, none⟩), nv, v] w fun e w' => ∃ v', e = .returned v' ∧ RowX strC 1 9 w' v' (inUseR s.stock nd l) ∧ Below w.heap.size w w' := by
  obtain ⟨i0, hi, iz0, iz1, iz2⟩ := info_parts info_str
  obtain ⟨na, nc, rfl⟩ := RowX.form hn
  obtain ⟨la, lc, rfl⟩ := RowX.form hl
  have HAL := hid' (all_any b s na nd.length nc nd la l.length lc l w (DAt.site hs) (NeedsI.r hn) hnl (PacksI.r hl) hll hof hst)
  have HL := hid' hl
  have HIU : Hid (inUseR s.stock nd l = useGo l (allR s.stock nd l) (l.length + 1) []) := rfl
  have HWO := hid' hwo
  generalize inUseR s.stock nd l = res at *
  generalize allR s.stock nd l = who at *
  have HFI := hid' (fun p q w h hp hq => find_any la l.length lc l p q w h (by omega) hp hq)
  clear hs hn hl hwo
  go_enter Tryz.func99, Tryz.ntmps99
  go_wp2_with fail
  refine HAL.out.mono ?_
  rintro e w1 ⟨wv, rfl, hown0, hb1⟩
  obtain ⟨wa, wcp, rfl⟩ := own_slice hown0
  have HWI := hid' (show WhosI w1 (.slice wa who.length wcp) who from RowX.of_own hown0)
  have HB1 := hid' hb1
  have HL1 := hid' (RowX.below HL.out hb1)
  have hz1 := hb1.size
  have HU0 : Hid (UsD l []) := ⟨by simp, by simp⟩
  clear hown0 hb1 HL
  go_wp2
  go_loopw [8, 9] (fun v8 v9 wr => ∃ (used : List Tx) (more : Bool) (f : Nat), v9 = .bool more ∧ used.length ≤ 1000 ∧ wr.ownsRow w1.heap.size 9 1 v8 used.length (used.flatMap strC) ∧ Below w1.heap.size w1 wr ∧ Hid (UsD l used ∧ (more = true → l.length + 1 ≤ used.length + f ∧ res = useGo l who f used) ∧ (more = false → res = used))) (fun v8 v9 _ => if flagOf v9 = true then l.length + 2 - lenOf v8 else 0)
  case atStart => exact ⟨[], true, l.length + 1, rfl, by simp, World.ownsRow_nil _ _ _ _, Below.refl _ _, ⟨HU0.out, fun _ => ⟨by simp, HIU.out⟩, fun h => absurd h (by simp)⟩⟩
  case round =>
    obtain ⟨used, more, f, rfl, hul, hown, hbel, hall⟩ := hrel
    have hz := hbel.size
    cases more
    · have HF := hid' (hall.out.2.2 rfl)
      have HR := hid' (show RowX strC 1 9 wr _ used from RowX.of_own hown)
      have HBE := hid' (HB1.out.trans (hbel.mono hz1))
      obtain ⟨ua, uc, rfl⟩ := own_slice hown
      clear hall hown hbel
      go_wp2
      go_ret
      refine ⟨_, rfl, ?_, HBE.out⟩
      rw [HF.out]; exact HR.out
    · obtain ⟨hf1, hf2⟩ := hall.out.2.1 rfl
      have HUD := hid' hall.out.1
      have HF1 := hid' hf1
      have HF2 := hid' hf2
      obtain ⟨ua, uc, rfl⟩ := own_slice hown
      obtain ⟨wo, rfl⟩ : ∃ wo, wo = wr := ⟨_, rfl⟩
      clear hall hf1 hf2
      go_wp2
      go_loopw [8, 9, 10] (fun v8 v9 i wr => ∃ (us : List Tx) (mo : Bool) (k : Nat), k ≤ who.length ∧ v9 = .bool mo ∧ i = .int .i64 k ∧ us.length ≤ 1000 ∧ wr.ownsRow w1.heap.size 9 1 v8 us.length (us.flatMap strC) ∧ Below w1.heap.size w1 wr ∧ Hid (UsD l us ∧ ((mo = true → used.length + 1 ≤ us.length) ∧ used.length ≤ us.length) ∧ passGo l used false who = passGo l us mo (who.drop k))) (fun _ _ i _ => who.length - (intOf i).toNat)
      case atStart => exact ⟨used, false, 0, Nat.zero_le _, rfl, rfl, hul, hown, hbel, ⟨HUD.out, ⟨fun h => absurd h (by simp), Nat.le_refl _⟩, rfl⟩⟩
      case round =>
        obtain ⟨us, mo, k, hk, rfl, rfl, husl, hown, hbel, hall⟩ := hrel
        have hz2 := hbel.size
        have HUS := hid' hall.out.1; have HMO := hid' hall.out.2.1; have HPG := hid' hall.out.2.2
        obtain ⟨sa, sc, rfl⟩ := own_slice hown
        clear hall
        by_cases hlt : k < who.length
        · obtain ⟨g, o, cap', hv, hg, hc⟩ := (RowX.below HWI.out hbel).whoD hlt
          simp at hv
          obtain ⟨rfl, rfl⟩ := hv
          obtain ⟨c0, c1, c2⟩ := hc k hlt
          have hwk := HWO.out who[k] (List.getElem_mem hlt)
          have P1 := hid' (pg_off (l := l) (used := us) (more := mo) hlt)
          have P2 := hid' (pg_none (l := l) (used := us) (more := mo) hlt)
          have P3 := hid' (fun q => pg_old (l := l) (used := us) (more := mo) (k := q) hlt)
          have P4 := hid' (fun q => pg_new (l := l) (used := us) (more := mo) (k := q) hlt)
          have HFK := hid' (fun w h => HFI.out (bs who[k].path) (bs who[k].n.name) w h (by rw [bs_size]; exact hwk.1) (by rw [bs_size]; have := hwk.2.1; omega))
          rw [tx_bs, tx_bs] at HFK
          have HHK := hid' (fun p w h => has_any sa us.length sc us p w h (by omega))
          have HSR : Hid (StrsR wr sa us.length sc us) := ⟨rfl, RowR.of_own hown⟩
          have HO := hid' hown
          have HBL := hid' hbel
          have k0 : (0 : Int) ≤ (k : Int) := by omega
          have k1 : (k : Int) < (who.length : Int) := by omega
          clear hc hwk hown hbel
          generalize who[k] = x at *
          obtain ⟨xp, xn, xr⟩ := x
          simp only at c0 c1 c2 P1 P2 P3 P4 HFK
          have HHX := hid' (HHK.out (bs xp) wr HSR.out)
          rw [tx_bs] at HHX
          go_upto_region 9 with fail
          go_cut [11] (fun t wc => t = .bool (cnt us xp) ∧ wc = wr)
          case first =>
            by_cases hx0 : xp = []
            · have hb : (((bs xp).size : Int) == 0) = true := by rw [hx0]; rfl
              have HB : Hid (cnt us xp = true) := by unfold Hid cnt; simp [hx0]
              clear hx0
              go_wp2
              go_meet
              exact ⟨by rw [HB.out], rfl⟩
            · have hb : (((bs xp).size : Int) == 0) = false := by
                apply beq_eq_false_iff_ne.2
                rw [bs_size]
                have := List.length_pos_iff.2 hx0
                omega
              have HB : Hid (cnt us xp = hasR us xp) := by unfold Hid cnt; simp [hx0]
              clear hx0
              go_wp2_with fail
              refine HHX.out.mono ?_
              rintro e w2 ⟨rfl, rfl⟩
              go_wp2
              go_meet
              exact ⟨by rw [HB.out], rfl⟩
          case rest =>
            obtain ⟨rfl, rfl⟩ := hcut
            generalize hcn : cnt us xp = cn at *
            have HLR := hid' (PacksI.r (RowX.below HL1.out HBL.out))
            go_wp2
            go_region_held3 (fun w' => w'.cell? ⟨g, o + k * 3, none⟩ = some (.string (bs xp)) ∧ w'.cell? ⟨g, o + k * 3 + 1, none⟩ = some (.string (bs xn))) (go_keep)
              (first | (go_at_call 93; refine (HFK.out _ (by first | exact HLR.out | exact HLR.out.below (Below.refl _ _).drew)).mono ?_; rintro e w2 ⟨rfl, hb2⟩; have hy2 := (bcell hb2).1; simp at hy2))
            have hb2' := (Below.refl wc.heap.size wc).drew.trans (hb2.mono (by simp))
            have HB2 := hid' (HBL.out.trans (hb2'.mono hz2))
            have HO2 := hid' (own_below HO.out hb2')
            have hz3 := HB2.out.size
            clear hb2 hb2' hy2
            rcases hfd : findR l xp xn with _ | q
            · have HF : Hid (passGo l used false who = passGo l us mo (who.drop (k + 1))) := by unfold Hid; rw [HPG.out]; exact P2.out hfd
              clear hfd P1 P2 P3 P4 hcn
              simp only [idx]
              cases cn
              all_goals
                go_wp2
                go_roundw
                case rel => exact ⟨us, mo, k + 1, by omega, rfl, by go_num, husl, HO2.out, HB2.out, ⟨HUS.out, HMO.out, HF.out⟩⟩
                case measure => simp [intOf] <;> omega
            · have hql := findR_lt hfd
              cases cn
              · have HF : Hid (passGo l used false who = passGo l us mo (who.drop (k + 1))) := by unfold Hid; rw [HPG.out]; exact P1.out (by first | exact hcn | rfl | trivial)
                clear hfd P1 P2 P3 P4 hcn
                simp only [idx]
                have hq0 : (0 : Int) ≤ (q : Int) := by omega
                go_wp2
                go_roundw
                case rel => exact ⟨us, mo, k + 1, by omega, rfl, by go_num, husl, HO2.out, HB2.out, ⟨HUS.out, HMO.out, HF.out⟩⟩
                case measure => simp [intOf] <;> omega
              · have hpq := packAt_mem hql
                obtain ⟨g2, o2, cap2, hv2, hg2, hc2⟩ := RowX.packs (RowX.below HL1.out HB2.out) hql
                simp at hv2
                obtain ⟨rfl, rfl⟩ := hv2
                have d0 := (hc2 q hql).1
                have HP3 := hid' (P3.out q hfd)
                have HP4 := hid' (P4.out q (by first | exact hcn | rfl | trivial) hfd)
                have HPU := hid' (fun h => HUS.out.push hql h)
                rw [hpq] at HP3 HP4 HPU
                have HH2 := hid' (HHK.out (bs l[q].path) w2 ⟨rfl, RowR.of_own HO2.out⟩)
                rw [tx_bs] at HH2
                have hq0 : (0 : Int) ≤ (q : Int) := by omega
                have hq1 : (q : Int) < (l.length : Int) := by omega
                clear hc2 hpq hfd P1 P2 P3 P4 hcn
                generalize l[q].path = qp at *
                simp only [idx]
                rcases hha : hasR us qp with _ | _
                · have HF : Hid (passGo l used false who = passGo l (us ++ [qp]) true (who.drop (k + 1))) := by unfold Hid; rw [HPG.out]; exact HP4.out hha
                  have HUS2 := hid' (HPU.out hha)
                  have HLEN : Hid (used.length + 1 ≤ us.length + 1) := Nat.succ_le_succ HMO.out.2
                  have hul2 := HUS2.out.le
                  rw [hha] at HH2
                  clear hha HP3 HP4 HPU
                  have hown2 := HO2.out
                  go_wp2_with fail
                  refine HH2.out.mono ?_
                  rintro e w4 ⟨rfl, rfl⟩
                  go_wp2_with (first | (at_builtin; refine wpList_append_lies _ rfl _ _ 42 rfl w1.heap.size 9 i0 (.string ByteArray.empty) 1 16 Tryz.underlying42 hi iz0 iz1 iz2 rfl (by omega) _ _ _ rfl (hown2.alloc _) ⟨w4.heap.size, 0, none⟩ 1 1 [.string (bs qp)] rfl rfl (by first | exact cell_one_new _ _ _) (one_str _) (by omega) (by unfold maxLen; omega) (by omega) (by simp; omega) (w4.heap.size + 1) (by simp) ?_; intro g5 cap5 w5 hown5 hgrow5 hat5 hlt5))
                  have R := step_gen2 strC (x := qp) rfl hown2 HB2.out ((Below.refl _ _).alloc (Nat.le_refl _) _) hown5 hgrow5
                  have HR1 := hid' R.1
                  have HR2 := hid' R.2
                  have HMO2 : Hid (used.length + 1 ≤ (us ++ [qp]).length) := by
                    unfold Hid
                    rw [List.length_append, List.length_singleton]
                    exact HLEN.out
                  clear R hown5 hgrow5 hat5 hown2
                  go_wp2
                  go_roundw
                  case rel => exact ⟨us ++ [qp], true, k + 1, by omega, rfl, by go_num, by omega, HR1.out, HR2.out, ⟨HUS2.out, ⟨fun _ => HMO2.out, Nat.le_of_succ_le HMO2.out⟩, HF.out⟩⟩
                  case measure => simp [intOf] <;> omega
                · have HF : Hid (passGo l used false who = passGo l us mo (who.drop (k + 1))) := by unfold Hid; rw [HPG.out]; exact HP3.out hha
                  rw [hha] at HH2
                  clear hha HP3 HP4 HPU
                  go_wp2_with fail
                  refine HH2.out.mono ?_
                  rintro e w4 ⟨rfl, rfl⟩
                  go_wp2
                  go_roundw
                  case rel => exact ⟨us, mo, k + 1, by omega, rfl, by go_num, husl, HO2.out, HB2.out, ⟨HUS.out, HMO.out, HF.out⟩⟩
                  case measure => simp [intOf] <;> omega
        · have hfin := pg_fin (l := l) (used := us) (more := mo) hlt
          have hfz : 1 ≤ f := by have h1 := HF1.out; have h2 := HUD.out.le; omega
          obtain ⟨f', rfl⟩ : ∃ f', f = f' + 1 := ⟨f - 1, by omega⟩
          have HUL := hid' HUS.out.le
          cases mo
          · have HR : Hid (res = us) := by unfold Hid; rw [HF2.out]; exact usg_done (by rw [HPG.out, hfin])
            clear hfin
            go_wp2
            go_roundw
            case rel => exact ⟨us, false, 0, rfl, husl, hown, hbel, ⟨HUS.out, fun h => absurd h (by simp), fun _ => HR.out⟩⟩
            case measure => have h2 := HUD.out.le; simp [flagOf, lenOf]; omega
          · have HR : Hid (res = useGo l who f' us) := by unfold Hid; rw [HF2.out]; exact usg_more (by rw [HPG.out, hfin])
            have hmo := HMO.out.1 rfl
            clear hfin
            go_wp2
            go_roundw
            case rel => exact ⟨us, true, f', rfl, husl, hown, hbel, ⟨HUS.out, fun _ => ⟨by have := HF1.out; omega, HR.out⟩, fun h => absurd h (by simp)⟩⟩
            case measure => have h2 := HUD.out.le; have h3 := HUL.out; simp [flagOf, lenOf]; omega

end Hst
end Go.Proofs.YtecocheolbkneaaGreatDoor
namespace Go.Proofs.YtecocheolbkneaaGreatDoor
open Go.RowKit
namespace Hst
set_option maxRecDepth 100000

theorem prn_yes (used : List Tx) (out l : List PackD) (k : Nat) (hk : k < l.length) (h : hasR used l[k].path = true) : prunedGo used out (l.drop k) = prunedGo used (placedR out l[k]) (l.drop (k + 1)) := by
  rw [List.drop_eq_getElem_cons hk, prunedGo, if_pos h]
theorem prn_no (used : List Tx) (out l : List PackD) (k : Nat) (hk : k < l.length) (h : hasR used l[k].path = false) : prunedGo used out (l.drop k) = prunedGo used out (l.drop (k + 1)) := by
  rw [List.drop_eq_getElem_cons hk, prunedGo, if_neg (by rw [h]; simp)]
theorem prn_end (used : List Tx) (out l : List PackD) (k : Nat) (hk : ¬ k < l.length) : prunedGo used out (l.drop k) = out := by
  rw [List.drop_of_length_le (by omega)]; rfl
theorem placedR_len (l : List PackD) (p : PackD) : (placedR l p).length = l.length + 1 := by rw [placedR_eq]; exact insG_len' _ p l false
theorem useGo_ud {l : List PackD} {who : List WhoD} : ∀ (w : List WhoD) (used : List Tx) (more : Bool), UsD l used → UsD l (passGo l used more w).1
  | [], used, more, h => h
  | x :: r, used, more, h => by
    rw [passGo]
    split
    · rcases hf : findR l x.path x.n.name with _ | k
      · exact useGo_ud (who := who) r used more h
      · simp only
        by_cases hh : hasR used (packAt l k).path = true
        · rw [if_pos hh]; exact useGo_ud (who := who) r used more h
        · rw [if_neg hh]; exact useGo_ud (who := who) r _ true (h.push (findR_lt hf) (by simpa using hh))
    · exact useGo_ud (who := who) r used more h
theorem useGo_us {l : List PackD} {who : List WhoD} : ∀ (f : Nat) (used : List Tx), UsD l used → UsD l (useGo l who f used)
  | 0, used, h => h
  | f + 1, used, h => by
    rw [useGo]
    have h1 := useGo_ud (who := who) who used false h
    split
    · exact useGo_us f _ h1
    · exact h1
theorem inUseR_le (st : List EntryD) (nd : List NeedD) (l : List PackD) : (inUseR st nd l).length ≤ l.length := (useGo_us (who := allR st nd l) (l.length + 1) [] ⟨by simp, by simp⟩).le

set_option maxHeartbeats 4000000 in
theorem prunedD_any (b : Nat) (s : SiteD) (nv : Value) (nd : List NeedD) (v : Value) (l : List PackD) (w : World) (hs : DAt w b s) (hn : NeedsI w nv nd) (hl : PacksI w v l) (hnl : nd.length ≤ 1000) (hll : l.length ≤ 1000) (hof : ∀ p ∈ l, p.of < s.stock.length) (hst : ∀ e ∈ s.stock, e.needs.length ≤ 1000) (hwo : ∀ x ∈ allR s.stock nd l, WhoOk x) (hwl : (allR s.stock nd l).length ≤ 100000) :
    Calls Tryz.prog 101 #[.pointer (some ⟨b, 0, none⟩), nv, v] w fun e w' => ∃ v', e = .returned v' ∧ PacksI w' v' (prunedR s.stock nd l) ∧ Below w.heap.size w w' := by
  obtain ⟨na, nc, rfl⟩ := RowX.form hn
  obtain ⟨la, lc, rfl⟩ := RowX.form hl
  have HIU := hid' (inUseD_any b s (.slice na nd.length nc) nd (.slice la l.length lc) l w hs hn hl hnl hll hof hst hwo hwl)
  have HUL := hid' (inUseR_le s.stock nd l)
  have HL := hid' hl
  have HPR : Hid (prunedR s.stock nd l = prunedGo (inUseR s.stock nd l) [] (l.drop 0)) := rfl
  generalize prunedR s.stock nd l = res at *
  generalize inUseR s.stock nd l = used at *
  clear hs hn hl hwo hof hst
  go_enter Tryz.func101, Tryz.ntmps101
  go_wp2_with fail
  refine HIU.out.mono ?_
  rintro e w1 ⟨uv, rfl, hrow, hb1⟩
  obtain ⟨ua, uc, rfl⟩ := RowX.form hrow
  have HU := hid' hrow
  have HB1 := hid' hb1
  have HL1 := hid' (RowX.below HL.out hb1)
  have hz1 := hb1.size
  clear hrow hb1 HL
  go_wp2
  go_loopw [8, 9] (fun v8 i wr => ∃ (k : Nat) (out : List PackD) (a : Option Addr) (n c : Nat), k ≤ l.length ∧ out.length ≤ k ∧ v8 = .slice a n c ∧ i = .int .i64 k ∧ Below w1.heap.size w1 wr ∧ Hid (PacksI wr (.slice a n c) out ∧ res = prunedGo used out (l.drop k))) (fun _ i _ => l.length - (intOf i).toNat)
  case atStart => exact ⟨0, [], none, 0, 0, Nat.zero_le _, by simp, rfl, rfl, Below.refl _ _, ⟨RowX.nil _ _ _ _, HPR.out⟩⟩
  case round =>
    obtain ⟨k, out, oa, on, oc, hk, hol, rfl, rfl, hbel, hall⟩ := hrel
    have hz := hbel.size
    have HOI := hid' hall.out.1
    have HRE := hid' hall.out.2
    clear hall
    by_cases hlt : k < l.length
    · obtain ⟨g, o, cap', hv, hg, hc⟩ := (RowX.below HL1.out hbel).packs hlt
      simp at hv
      obtain ⟨rfl, rfl⟩ := hv
      obtain ⟨c0, c1⟩ := hc k hlt
      have hur := RowX.below HU.out hbel
      have HSR : Hid (StrsR wr ua used.length uc used) := by
        obtain ⟨a', c', e, hr, _⟩ := hur
        simp at e
        obtain ⟨rfl, rfl⟩ := e
        exact ⟨rfl, hr⟩
      have HHA := hid' (has_any ua used.length uc used (bs l[k].path) wr HSR.out (by have := HUL.out; omega))
      rw [tx_bs] at HHA
      have HPL := hid' (placed_any (.slice oa on oc) out l[k] wr HOI.out (by omega))
      have hpl := placedR_len out l[k]
      have k0 : (0 : Int) ≤ (k : Int) := by omega
      have k1 : (k : Int) < (l.length : Int) := by omega
      clear hc hur
      rcases hha : hasR used l[k].path with _ | _
      · have HF : Hid (res = prunedGo used out (l.drop (k + 1))) := by unfold Hid; rw [HRE.out, prn_no used out l k hlt hha]
        rw [hha] at HHA
        clear hha hpl HPL
        generalize l[k] = x at *
        go_wp2_with fail
        refine HHA.out.mono ?_
        rintro e w2 ⟨rfl, rfl⟩
        go_wp2
        go_roundw
        case rel => exact ⟨k + 1, out, oa, on, oc, by omega, by omega, rfl, by go_num, hbel, ⟨HOI.out, HF.out⟩⟩
        case measure => simp [intOf] <;> omega
      · have HF : Hid (res = prunedGo used (placedR out l[k]) (l.drop (k + 1))) := by unfold Hid; rw [HRE.out, prn_yes used out l k hlt hha]
        rw [hha] at HHA
        clear hha
        have HPN : Hid ((placedR out l[k]).length ≤ k + 1) := by unfold Hid; omega
        clear hpl
        generalize l[k] = x at *
        obtain ⟨xp, xo⟩ := x
        simp only at c0 c1 HHA HPL
        go_wp2_with fail
        refine HHA.out.mono ?_
        rintro e w2 ⟨rfl, rfl⟩
        go_wp2_with fail
        refine HPL.out.mono ?_
        rintro e w3 ⟨v3, rfl, hin3, hb3⟩
        obtain ⟨pa, pc, rfl⟩ := RowX.form hin3
        have HB3 := hid' (hbel.trans (hb3.mono hz))
        have HI3 := hid' hin3
        clear hb3 hin3
        go_wp2
        go_roundw
        case rel => exact ⟨k + 1, placedR out ⟨xp, xo⟩, pa, _, pc, by omega, HPN.out, rfl, by go_num, HB3.out, ⟨HI3.out, HF.out⟩⟩
        case measure => simp [intOf] <;> omega
    · have HF : Hid (res = out) := by unfold Hid; rw [HRE.out, prn_end used out l k hlt]
      have HBE := hid' (HB1.out.trans (hbel.mono hz1))
      go_wp2
      go_ret
      refine ⟨_, rfl, ?_, HBE.out⟩
      rw [HF.out]; exact HOI.out

end Hst
end Go.Proofs.YtecocheolbkneaaGreatDoor
namespace Go.Proofs.YtecocheolbkneaaGreatDoor
open Go.RowKit
namespace Hst
set_option maxRecDepth 100000

def bestOk (st : List EntryD) (best : Option Nat) (e : EntryD) : Bool := match best with
  | none => true
  | some b => belowB (verOf st b).a (verOf st b).b (verOf st b).c e.v.a e.v.b e.v.c
def wants (n : NeedD) (liked : Bool) (tree : List PackD) (st : List EntryD) (best : Option Nat) (i : Nat) (e : EntryD) : Bool :=
  (decide (e.name = n.name) && fitR n.rng e.v) && ((!liked) || favouredR tree i) && bestOk st best e
theorem gg_yes (n : NeedD) (liked : Bool) (tree : List PackD) (st : List EntryD) (best : Option Nat) (l : List EntryD) (k i : Nat) (hk : k < l.length) (h : wants n liked tree st best i l[k] = true) : greatGo n liked tree st best i (l.drop k) = greatGo n liked tree st (some i) (i + 1) (l.drop (k + 1)) := by
  rw [List.drop_eq_getElem_cons hk]
  unfold wants bestOk at h
  rw [Bool.and_eq_true, Bool.and_eq_true] at h
  cases best with
  | none => rw [greatGo]; exact if_pos ⟨h.1.1, h.1.2, rfl⟩
  | some m => rw [greatGo]; exact if_pos ⟨h.1.1, h.1.2, h.2⟩
theorem gg_no (n : NeedD) (liked : Bool) (tree : List PackD) (st : List EntryD) (best : Option Nat) (l : List EntryD) (k i : Nat) (hk : k < l.length) (h : wants n liked tree st best i l[k] = false) : greatGo n liked tree st best i (l.drop k) = greatGo n liked tree st best (i + 1) (l.drop (k + 1)) := by
  rw [List.drop_eq_getElem_cons hk]
  unfold wants bestOk at h
  cases best with
  | none =>
    rw [greatGo]
    refine if_neg ?_
    rintro ⟨h1, h2, h3⟩
    rw [h1, h2] at h
    simp at h
  | some m =>
    rw [greatGo]
    refine if_neg ?_
    rintro ⟨h1, h2, h3⟩
    rw [h1, h2] at h
    simp only at h
    rw [h3] at h
    simp at h
theorem gg_end (n : NeedD) (liked : Bool) (tree : List PackD) (st : List EntryD) (best : Option Nat) (l : List EntryD) (k i : Nat) (hk : ¬ k < l.length) : greatGo n liked tree st best i (l.drop k) = best := by
  rw [List.drop_of_length_le (by omega)]; rfl

attribute [local go_sem ↓] Go.wp_at_zero Go.wp_at_succ

set_option maxHeartbeats 8000000 in
theorem greatest_any (b : Nat) (s : SiteD) (n : NeedD) (liked : Bool) (tv : Value) (tree : List PackD) (w : World) (hs : DAt w b s) (ht : PacksI w tv tree) (hn : tree.length ≤ 1000) (hst : s.stock.length ≤ 1000) (hok : NeedOk n) :
    Calls Tryz.prog 169 #[.pointer (some ⟨b, 0, none⟩), needV n, .bool liked, tv] w fun e w' => e = .returned (.int .i64 (idx (greatestR s.stock n liked tree))) ∧ Below w.heap.size w w' := by
  obtain ⟨ta, tc, rfl⟩ := RowX.form ht
  have HFV := hid' (fun m w h => favoured_any ta tree.length tc tree m w h (by omega))
  have HFT := hid' (fun (v : V3) w => fit_any (bs n.rng) v.a v.b v.c w (by rw [bs_size]; exact hok.2))
  have hlt := hs.lt
  obtain ⟨sv, zs, es, rs, zeq⟩ := hs.stock
  obtain ⟨sa, sc, rfl⟩ := rs.1.form
  have HZ := hid' zeq
  have hzl : zs.length = s.stock.length := by rw [← zeq]; simp
  have HRS := hid' rs
  have HT := hid' ht
  have HG : Hid (greatestR s.stock n liked tree = greatGo n liked tree s.stock none 0 (s.stock.drop 0)) := rfl
  generalize greatestR s.stock n liked tree = res at *
  generalize s.stock = st at *
  obtain ⟨nn, nr⟩ := n
  simp only at HFT
  rw [tx_bs] at HFT
  clear hs rs ht zeq hok
  have hbw := (Below.refl w.heap.size w).alloc (Nat.le_refl _) (.cells #[.string (bs nn), .string (bs nr)] 135)
  have HR1 := hid' (HRS.out.below hbw)
  have HT1 := hid' (RowX.below HT.out hbw)
  have HBW := hid' hbw
  have e0 : (w.alloc (.cells #[.string (bs nn), .string (bs nr)] 135)).cell? ⟨w.heap.size, 0, none⟩ = some (.string (bs nn)) := by simp
  have e1 : (w.alloc (.cells #[.string (bs nn), .string (bs nr)] 135)).cell? ⟨w.heap.size, 1, none⟩ = some (.string (bs nr)) := by simp
  have eb := ((bcell hbw).1 b 0 hlt).trans es
  have hsz : (w.alloc (.cells #[.string (bs nn), .string (bs nr)] 135)).heap.size = w.heap.size + 1 := by simp
  clear hbw es HRS HT
  go_enter Tryz.func169, Tryz.ntmps169
  go_wp2
  generalize w.alloc (.cells #[.string (bs nn), .string (bs nr)] 135) = W at *
  have HE0 := hid' e0; have HE1 := hid' e1; have HEB := hid' eb; have HSZ := hid' hsz; have HZL := hid' hzl
  clear e0 e1 eb hsz hzl
  go_loopw [9, 10] (fun q i wr => ∃ (k : Nat) (best : Option Nat), k ≤ zs.length ∧ q = .int .i64 (idx best) ∧ i = .int .i64 k ∧ Below W.heap.size W wr ∧ Hid ((∀ m, best = some m → m < k) ∧ res = greatGo ⟨nn, nr⟩ liked tree st best k (st.drop k))) (fun _ i _ => zs.length - (intOf i).toNat)
  case atStart => exact ⟨0, none, Nat.zero_le _, rfl, rfl, Below.refl _ _, ⟨by simp, HG.out⟩⟩
  case round =>
    obtain ⟨k, best, hk, rfl, rfl, hbel, hall⟩ := hrel
    have hz := hbel.size
    have hWw : w.heap.size < W.heap.size := by have := HSZ.out; omega
    have hWb : b < W.heap.size := by omega
    obtain ⟨hcc, -⟩ := bcell hbel
    have d0 := (hcc w.heap.size 0 hWw).trans HE0.out
    have d1 := (hcc w.heap.size 1 hWw).trans HE1.out
    have db := (hcc b 0 hWb).trans HEB.out
    have hwr : w.heap.size < wr.heap.size := by omega
    have hbr : b < wr.heap.size := by omega
    clear hcc
    by_cases hlt2 : k < zs.length
    · have hkst : k < st.length := by have := HZL.out; omega
      obtain ⟨g, o, cap', hv, hg, hc⟩ := (HR1.out.below hbel).1.cells entC_len hlt2
      simp at hv
      obtain ⟨rfl, rfl⟩ := hv
      have hc0 := hc k hlt2
      have c0 : wr.cell? ⟨g, o + k * 5, none⟩ = some (.string (bs zs[k].1.name)) := hc0 0 (by omega)
      have c1 : wr.cell? ⟨g, o + k * 5 + 1, none⟩ = some (.int .i64 zs[k].1.v.a) := hc0 1 (by omega)
      have c2 : wr.cell? ⟨g, o + k * 5 + 2, none⟩ = some (.int .i64 zs[k].1.v.b) := hc0 2 (by omega)
      have c3 : wr.cell? ⟨g, o + k * 5 + 3, none⟩ = some (.int .i64 zs[k].1.v.c) := hc0 3 (by omega)
      have c4 : wr.cell? ⟨g, o + k * 5 + 4, none⟩ = some zs[k].2 := hc0 4 (by omega)
      have hze : zs[k].1 = st[k] := by have h := HZ.out; subst h; simp
      obtain ⟨na, nc, hnf⟩ := RowX.form (HR1.out.2 zs[k] (List.getElem_mem hlt2))
      generalize zs[k].1.needs.length = nc0 at hnf
      rw [hze] at c0 c1 c2 c3
      rw [hnf] at c4
      have HY := hid' (gg_yes ⟨nn, nr⟩ liked tree st best st k k hkst)
      have HN := hid' (gg_no ⟨nn, nr⟩ liked tree st best st k k hkst)
      have k0 : (0 : Int) ≤ (k : Int) := by omega
      have k1 : (k : Int) < (zs.length : Int) := by omega
      have HVO : Hid (∀ m (hm : m < zs.length), wr.cell? ⟨g, o + m * 5 + 1, none⟩ = some (.int .i64 (verOf st m).a) ∧ wr.cell? ⟨g, o + m * 5 + 2, none⟩ = some (.int .i64 (verOf st m).b) ∧ wr.cell? ⟨g, o + m * 5 + 3, none⟩ = some (.int .i64 (verOf st m).c)) := by
        intro m hm
        have hcm := hc m hm
        have hms : m < st.length := by have := HZL.out; omega
        have hze : zs[m].1 = st[m] := by have h := HZ.out; subst h; simp
        have ev : verOf st m = st[m].v := by unfold verOf; rw [List.getD_eq_getElem?_getD, List.getElem?_eq_getElem hms]; rfl
        rw [ev, ← hze]
        exact ⟨hcm 1 (by omega), hcm 2 (by omega), hcm 3 (by omega)⟩
      have HMB := hid' hall.out.1
      have HRE := hid' hall.out.2
      clear hc hc0 hze hnf hall
      generalize st[k] = ek at *
      obtain ⟨en, ⟨va, vb, vc⟩, eds⟩ := ek
      simp only at c0 c1 c2 c3
      have HFT2 := hid' (HFT.out ⟨va, vb, vc⟩)
      simp only at HFT2
      have HFV2 := hid' (HFV.out k)
      have hba := (Below.refl wr.heap.size wr).alloc (Nat.le_refl _) (.cells #[.string (bs en), .int .i64 va, .int .i64 vb, .int .i64 vc, .slice na nc0 nc] 179)
      have q0 : (wr.alloc (.cells #[.string (bs en), .int .i64 va, .int .i64 vb, .int .i64 vc, .slice na nc0 nc] 179)).cell? ⟨wr.heap.size, 0, none⟩ = some (.string (bs en)) := by simp
      have q1 : (wr.alloc (.cells #[.string (bs en), .int .i64 va, .int .i64 vb, .int .i64 vc, .slice na nc0 nc] 179)).cell? ⟨wr.heap.size, 1, none⟩ = some (.int .i64 va) := by simp
      have q2 : (wr.alloc (.cells #[.string (bs en), .int .i64 va, .int .i64 vb, .int .i64 vc, .slice na nc0 nc] 179)).cell? ⟨wr.heap.size, 2, none⟩ = some (.int .i64 vb) := by simp
      have q3 : (wr.alloc (.cells #[.string (bs en), .int .i64 va, .int .i64 vb, .int .i64 vc, .slice na nc0 nc] 179)).cell? ⟨wr.heap.size, 3, none⟩ = some (.int .i64 vc) := by simp
      have p0 := ((bcell hba).1 w.heap.size 0 hwr).trans d0
      have p1 := ((bcell hba).1 w.heap.size 1 hwr).trans d1
      have pb := ((bcell hba).1 b 0 hbr).trans db
      have hsz2 : (wr.alloc (.cells #[.string (bs en), .int .i64 va, .int .i64 vb, .int .i64 vc, .slice na nc0 nc] 179)).heap.size = wr.heap.size + 1 := by simp
      have HVB : Hid (∀ m (hm : m < zs.length), (wr.alloc (.cells #[.string (bs en), .int .i64 va, .int .i64 vb, .int .i64 vc, .slice na nc0 nc] 179)).cell? ⟨g, o + m * 5 + 1, none⟩ = some (.int .i64 (verOf st m).a) ∧ (wr.alloc (.cells #[.string (bs en), .int .i64 va, .int .i64 vb, .int .i64 vc, .slice na nc0 nc] 179)).cell? ⟨g, o + m * 5 + 2, none⟩ = some (.int .i64 (verOf st m).b) ∧ (wr.alloc (.cells #[.string (bs en), .int .i64 va, .int .i64 vb, .int .i64 vc, .slice na nc0 nc] 179)).cell? ⟨g, o + m * 5 + 3, none⟩ = some (.int .i64 (verOf st m).c)) := fun m hm => ⟨by rw [(bcell hba).1 g _ hg]; exact (HVO.out m hm).1, by rw [(bcell hba).1 g _ hg]; exact (HVO.out m hm).2.1, by rw [(bcell hba).1 g _ hg]; exact (HVO.out m hm).2.2⟩
      have HT2 := hid' (RowX.below (RowX.below HT1.out hbel) hba)
      have HBB := hid' (hbel.trans (hba.mono hz))
      have hgr : g < wr.heap.size := hg
      clear hba HVO
      go_upto_region 6 with fail
      generalize wr.alloc (.cells #[.string (bs en), .int .i64 va, .int .i64 vb, .int .i64 vc, .slice na nc0 nc] 179) = V at *
      have hVr : wr.heap.size < V.heap.size := by omega
      have hVw : w.heap.size < V.heap.size := by omega
      have hVb : b < V.heap.size := by omega
      have hVg : g < V.heap.size := by omega
      clear c0 c1 c2 c3 c4 d0 d1 db hsz2
      go_cut [12] (fun t wc => t = .bool (decide (en = nn) && fitR nr ⟨va, vb, vc⟩) ∧ Below V.heap.size V wc)
      case first =>
        by_cases hn2 : en = nn
        · have hb : ((bs en).toList == (bs nn).toList) = true := by rw [hn2]; simp
          have HB : Hid ((decide (en = nn) && fitR nr ⟨va, vb, vc⟩) = fitR nr ⟨va, vb, vc⟩) := by unfold Hid; simp [hn2]
          clear hn2
          go_wp2_with fail
          refine (HFT2.out _).mono ?_
          rintro e w1 ⟨rfl, hb1⟩
          go_wp2
          go_meet
          exact ⟨by rw [HB.out], hb1⟩
        · have hb : ((bs en).toList == (bs nn).toList) = false := by rw [tx_toList, tx_toList, tx_bs, tx_bs]; simp [hn2]
          have HB : Hid ((decide (en = nn) && fitR nr ⟨va, vb, vc⟩) = false) := by unfold Hid; simp [hn2]
          clear hn2
          go_wp2
          go_meet
          exact ⟨by rw [HB.out], Below.refl _ _⟩
      case rest =>
        obtain ⟨rfl, hb1⟩ := hcut
        obtain ⟨w1, rfl⟩ : ∃ w1, w1 = wc := ⟨_, rfl⟩
        go_upto_region 7 with fail
        go_cut [13] (fun t wc => t = .bool ((!liked) || favouredR tree k) ∧ wc = w1)
        case first =>
          cases liked
          · go_wp2
            go_meet
            exact ⟨rfl, rfl⟩
          · have HFV3 := hid' (HFV2.out w1 (PacksI.r (RowX.below HT2.out hb1)))
            go_wp2_with fail
            refine HFV3.out.mono ?_
            rintro e w2 ⟨rfl, rfl⟩
            go_wp2
            go_meet
            exact ⟨rfl, rfl⟩
        case rest =>
          obtain ⟨rfl, rfl⟩ := hcut
          have hcc := (bcell hb1).1
          have s1 := (hcc wr.heap.size 1 hVr).trans q1
          have s2 := (hcc wr.heap.size 2 hVr).trans q2
          have s3 := (hcc wr.heap.size 3 hVr).trans q3
          have sb := (hcc b 0 hVb).trans pb
          have hzw := hb1.size
          have hwr1 : wr.heap.size < wc.heap.size := by omega
          have hbr1 : b < wc.heap.size := by omega
          have HB1 := hid' (HBB.out.trans (hb1.mono (by omega)))
          have HVC : Hid (∀ m (hm : m < zs.length), wc.cell? ⟨g, o + m * 5 + 1, none⟩ = some (.int .i64 (verOf st m).a) ∧ wc.cell? ⟨g, o + m * 5 + 2, none⟩ = some (.int .i64 (verOf st m).b) ∧ wc.cell? ⟨g, o + m * 5 + 3, none⟩ = some (.int .i64 (verOf st m).c)) := fun m hm => ⟨by rw [hcc g _ hVg]; exact (HVB.out m hm).1, by rw [hcc g _ hVg]; exact (HVB.out m hm).2.1, by rw [hcc g _ hVg]; exact (HVB.out m hm).2.2⟩
          clear hcc q0 q1 q2 q3 p0 p1 pb hb1 HVB HT2 HBB
          have HY' : Hid (((decide (en = nn) && fitR nr ⟨va, vb, vc⟩) && ((!liked) || favouredR tree k) && bestOk st best ⟨en, ⟨va, vb, vc⟩, eds⟩) = true → res = greatGo ⟨nn, nr⟩ liked tree st (some k) (k + 1) (st.drop (k + 1))) := fun h => by rw [HRE.out]; exact HY.out h
          have HN' : Hid (((decide (en = nn) && fitR nr ⟨va, vb, vc⟩) && ((!liked) || favouredR tree k) && bestOk st best ⟨en, ⟨va, vb, vc⟩, eds⟩) = false → res = greatGo ⟨nn, nr⟩ liked tree st best (k + 1) (st.drop (k + 1))) := fun h => by rw [HRE.out]; exact HN.out h
          have HMB1 : Hid (∀ m, best = some m → m < k + 1) := fun m hm => by have := HMB.out m hm; omega
          have HMB2 : Hid (∀ m, some k = some m → m < k + 1) := fun m hm => by simp at hm; omega
          clear HY HN HRE
          generalize (decide (en = nn) && fitR nr ⟨va, vb, vc⟩) = f at *
          generalize ((!liked) || favouredR tree k) = gg at *
          cases f
          · have HF := hid' (HN'.out (by simp))
            go_wp2
            go_region
            all_goals
              go_wp2
              go_roundw
              case rel => exact ⟨k + 1, best, by omega, rfl, by go_num, HB1.out.drew, ⟨HMB1.out, HF.out⟩⟩
              case measure => simp [intOf] <;> omega
          · cases gg
            · have HF := hid' (HN'.out (by simp))
              go_wp2
              go_region
              all_goals
                go_wp2
                go_roundw
                case rel => exact ⟨k + 1, best, by omega, rfl, by go_num, HB1.out.drew, ⟨HMB1.out, HF.out⟩⟩
                case measure => simp [intOf] <;> omega
            · cases best with
              | none =>
                have HF := hid' (HY'.out (by simp [bestOk]))
                simp only [idx]
                go_wp2
                go_region
                all_goals
                  go_wp2
                  go_roundw
                  case rel => exact ⟨k + 1, some k, by omega, rfl, by go_num, HB1.out.drew, ⟨HMB2.out, HF.out⟩⟩
                  case measure => simp [intOf] <;> omega
              | some m =>
                have hmk := HMB.out m rfl
                have hmz : m < zs.length := by omega
                obtain ⟨t1, t2, t3⟩ := HVC.out m hmz
                have m0 : (0 : Int) ≤ (m : Int) := by omega
                have m1 : (m : Int) < (zs.length : Int) := by omega
                have m2 : ¬ (m : Int) < 0 := by omega
                have m3 : (decide ((m : Int) < 0)) = false := by simp
                have hgc : g < wc.heap.size := by omega
                have HBL := hid' (fun w => below_any (verOf st m).a (verOf st m).b (verOf st m).c va vb vc w)
                have HY2 : Hid (belowB (verOf st m).a (verOf st m).b (verOf st m).c va vb vc = true → res = greatGo ⟨nn, nr⟩ liked tree st (some k) (k + 1) (st.drop (k + 1))) := fun h => HY'.out (by simp [bestOk, h])
                have HN2 : Hid (belowB (verOf st m).a (verOf st m).b (verOf st m).c va vb vc = false → res = greatGo ⟨nn, nr⟩ liked tree st (some m) (k + 1) (st.drop (k + 1))) := fun h => HN'.out (by simp [bestOk, h])
                simp only [idx]
                generalize belowB (verOf st m).a (verOf st m).b (verOf st m).c va vb vc = bb at *
                generalize (verOf st m).a = ma at *
                generalize (verOf st m).b = mb at *
                generalize (verOf st m).c = mc at *
                go_wp2
                go_region_held3 (fun w' => w'.cell? ⟨b, 0, none⟩ = some (.slice (some ⟨g, o, none⟩) zs.length sc) ∧ w'.cell? ⟨g, o + m * 5 + 1, none⟩ = some (.int .i64 ma) ∧ w'.cell? ⟨g, o + m * 5 + 2, none⟩ = some (.int .i64 mb) ∧ w'.cell? ⟨g, o + m * 5 + 3, none⟩ = some (.int .i64 mc) ∧ w'.cell? ⟨wr.heap.size, 1, none⟩ = some (.int .i64 va) ∧ w'.cell? ⟨wr.heap.size, 2, none⟩ = some (.int .i64 vb) ∧ w'.cell? ⟨wr.heap.size, 3, none⟩ = some (.int .i64 vc)) (go_keep)
                  (first | (go_at_call 127; refine (HBL.out _).mono ?_; rintro e w3 ⟨rfl, hb3⟩; have hy3 := (bcell hb3).1; simp at hy3))
                have HB3 := hid' (HB1.out.drew.trans (hb3.mono (by simp; omega)))
                clear hb3 hy3
                cases bb
                · have HF := hid' (HN2.out (by first | rfl | trivial))
                  go_wp2
                  go_roundw
                  case rel => exact ⟨k + 1, some m, by omega, rfl, by go_num, HB3.out, ⟨HMB1.out, HF.out⟩⟩
                  case measure => simp [intOf] <;> omega
                · have HF := hid' (HY2.out (by first | rfl | trivial))
                  go_wp2
                  go_roundw
                  case rel => exact ⟨k + 1, some k, by omega, rfl, by go_num, HB3.out, ⟨HMB2.out, HF.out⟩⟩
                  case measure => simp [intOf] <;> omega
    · have HF : Hid (res = best) := by unfold Hid; rw [hall.out.2, gg_end _ _ _ _ _ _ _ _ (by have := HZL.out; omega)]
      have HBE := hid' (HBW.out.trans (hbel.mono (by have := HSZ.out; omega)))
      go_wp2
      go_ret
      exact ⟨ret_int (by rw [HF.out]), HBE.out⟩

end Hst
end Go.Proofs.YtecocheolbkneaaGreatDoor
