/- Dgreat, Dchoose, Dlay, Dbuild -/
import Derived.Test.YtecocheolbkneaaGreatDoorW21
import Derived.Test.YtecocheolbkneaaGreatDoorW05
namespace Go.Proofs.YtecocheolbkneaaGreatDoor
open Go.RowKit
namespace Hst
set_option maxRecDepth 100000

def bestOk (st : List EntryD) (best : Option Nat) (e : EntryD) : Bool := match best with
  | none => true
  | some b => belowB (verOf st b).a (verOf st b).b (verOf st b).c e.v.a e.v.b e.v.c
def wants (n : NeedD) (liked : Bool) (tree : List PackD) (st : List EntryD) (best : Option Nat) (i : Nat) (e : EntryD) : Bool :=
  (decide (e.name = n.name) && fitR n.rng e.v) && ((!liked) || favouredR tree i) && bestOk st best e
theorem gg_yes (n : NeedD) (liked : Bool) (tree : List PackD) (st : List EntryD) (best : Option Nat) (l : List EntryD) (k i : Nat) (hk : k < l.length) (h : wants n liked tree st best i l[k] = true) : greatGo n liked tree st best i (l.drop k) = greatGo n liked tree st (some i) (i + 1) (l.drop (k + 1)) := by
  rw [List.drop_eq_getElem_cons hk]
  unfold wants bestOk at h
  rw [Bool.and_eq_true, Bool.and_eq_true] at h
  cases best with
  | none => rw [greatGo]; exact if_pos ⟨h.1.1, h.1.2, rfl⟩
  | some m => rw [greatGo]; exact if_pos ⟨h.1.1, h.1.2, h.2⟩
theorem gg_no (n : NeedD) (liked : Bool) (tree : List PackD) (st : List EntryD) (best : Option Nat) (l : List EntryD) (k i : Nat) (hk : k < l.length) (h : wants n liked tree st best i l[k] = false) : greatGo n liked tree st best i (l.drop k) = greatGo n liked tree st best (i + 1) (l.drop (k + 1)) := by
  rw [List.drop_eq_getElem_cons hk]
  unfold wants bestOk at h
  cases best with
  | none =>
    rw [greatGo]
    refine if_neg ?_
    rintro ⟨h1, h2, h3⟩
    rw [h1, h2] at h
    simp at h
  | some m =>
    rw [greatGo]
    refine if_neg ?_
    rintro ⟨h1, h2, h3⟩
    rw [h1, h2] at h
    simp only at h
    rw [h3] at h
    simp at h
theorem gg_end (n : NeedD) (liked : Bool) (tree : List PackD) (st : List EntryD) (best : Option Nat) (l : List EntryD) (k i : Nat) (hk : ¬ k < l.length) : greatGo n liked tree st best i (l.drop k) = best := by
  rw [List.drop_of_length_le (by omega)]; rfl

attribute [local go_sem ↓] Go.wp_at_zero Go.wp_at_succ

set_option maxHeartbeats 8000000 in
theorem greatest_any (b : Nat) (s : SiteD) (n : NeedD) (liked : Bool) (tv : Value) (tree : List PackD) (w : World) (hs : DAt w b s) (ht : PacksI w tv tree) (hn : tree.length ≤ 1000) (hst : s.stock.length ≤ 1000) (hok : NeedOk n) :
    Calls Tryz.prog 169 #[.pointer (some ⟨b, 0, none⟩), needV n, .bool liked, tv] w fun e w' => e = .returned (.int .i64 (idx (greatestR s.stock n liked tree))) ∧ Below w.heap.size w w' := by
  obtain ⟨ta, tc, rfl⟩ := RowX.form ht
  have HFV := hid' (fun m w h => favoured_any ta tree.length tc tree m w h (by omega))
  have HFT := hid' (fun (v : V3) w => fit_any (bs n.rng) v.a v.b v.c w (by rw [bs_size]; exact hok.2))
  have hlt := hs.lt
  obtain ⟨sv, zs, es, rs, zeq⟩ := hs.stock
  obtain ⟨sa, sc, rfl⟩ := rs.1.form
  have HZ := hid' zeq
  have hzl : zs.length = s.stock.length := by rw [← zeq]; simp
  have HRS := hid' rs
  have HT := hid' ht
  have HG : Hid (greatestR s.stock n liked tree = greatGo n liked tree s.stock none 0 (s.stock.drop 0)) := rfl
  generalize greatestR s.stock n liked tree = res at *
  generalize s.stock = st at *
  obtain ⟨nn, nr⟩ := n
  simp only at HFT
  rw [tx_bs] at HFT
  clear hs rs ht zeq hok
  have hbw := (Below.refl w.heap.size w).alloc (Nat.le_refl _) (.cells #[.string (bs nn), .string (bs nr)] 135)
  have HR1 := hid' (HRS.out.below hbw)
  have HT1 := hid' (RowX.below HT.out hbw)
  have HBW := hid' hbw
  have e0 : (w.alloc (.cells #[.string (bs nn), .string (bs nr)] 135)).cell? ⟨w.heap.size, 0, none⟩ = some (.string (bs nn)) := by simp
  have e1 : (w.alloc (.cells #[.string (bs nn), .string (bs nr)] 135)).cell? ⟨w.heap.size, 1, none⟩ = some (.string (bs nr)) := by simp
  have eb := ((bcell hbw).1 b 0 hlt).trans es
  have hsz : (w.alloc (.cells #[.string (bs nn), .string (bs nr)] 135)).heap.size = w.heap.size + 1 := by simp
  clear hbw es HRS HT
  go_enter Tryz.func169, Tryz.ntmps169
  go_wp2
  generalize w.alloc (.cells #[.string (bs nn), .string (bs nr)] 135) = W at *
  have HE0 := hid' e0; have HE1 := hid' e1; have HEB := hid' eb; have HSZ := hid' hsz; have HZL := hid' hzl
  clear e0 e1 eb hsz hzl
  go_loopw [9, 10] (fun q i wr => ∃ (k : Nat) (best : Option Nat), k ≤ zs.length ∧ q = .int .i64 (idx best) ∧ i = .int .i64 k ∧ Below W.heap.size W wr ∧ Hid ((∀ m, best = some m → m < k) ∧ res = greatGo ⟨nn, nr⟩ liked tree st best k (st.drop k))) (fun _ i _ => zs.length - (intOf i).toNat)
  case atStart => exact ⟨0, none, Nat.zero_le _, rfl, rfl, Below.refl _ _, ⟨by simp, HG.out⟩⟩
  case round =>
    obtain ⟨k, best, hk, rfl, rfl, hbel, hall⟩ := hrel
    have hz := hbel.size
    have hWw : w.heap.size < W.heap.size := by have := HSZ.out; omega
    have hWb : b < W.heap.size := by omega
    obtain ⟨hcc, -⟩ := bcell hbel
    have d0 := (hcc w.heap.size 0 hWw).trans HE0.out
    have d1 := (hcc w.heap.size 1 hWw).trans HE1.out
    have db := (hcc b 0 hWb).trans HEB.out
    have hwr : w.heap.size < wr.heap.size := by omega
    have hbr : b < wr.heap.size := by omega
    clear hcc
    by_cases hlt2 : k < zs.length
    · have hkst : k < st.length := by have := HZL.out; omega
      obtain ⟨g, o, cap', hv, hg, hc⟩ := (HR1.out.below hbel).1.cells entC_len hlt2
      simp at hv
      obtain ⟨rfl, rfl⟩ := hv
      have hc0 := hc k hlt2
      have c0 : wr.cell? ⟨g, o + k * 5, none⟩ = some (.string (bs zs[k].1.name)) := hc0 0 (by omega)
      have c1 : wr.cell? ⟨g, o + k * 5 + 1, none⟩ = some (.int .i64 zs[k].1.v.a) := hc0 1 (by omega)
      have c2 : wr.cell? ⟨g, o + k * 5 + 2, none⟩ = some (.int .i64 zs[k].1.v.b) := hc0 2 (by omega)
      have c3 : wr.cell? ⟨g, o + k * 5 + 3, none⟩ = some (.int .i64 zs[k].1.v.c) := hc0 3 (by omega)
      have c4 : wr.cell? ⟨g, o + k * 5 + 4, none⟩ = some zs[k].2 := hc0 4 (by omega)
      have hze : zs[k].1 = st[k] := by have h := HZ.out; subst h; simp
      obtain ⟨na, nc, hnf⟩ := RowX.form (HR1.out.2 zs[k] (List.getElem_mem hlt2))
      generalize zs[k].1.needs.length = nc0 at hnf
      rw [hze] at c0 c1 c2 c3
      rw [hnf] at c4
      have HY := hid' (gg_yes ⟨nn, nr⟩ liked tree st best st k k hkst)
      have HN := hid' (gg_no ⟨nn, nr⟩ liked tree st best st k k hkst)
      have k0 : (0 : Int) ≤ (k : Int) := by omega
      have k1 : (k : Int) < (zs.length : Int) := by omega
      have HVO : Hid (∀ m (hm : m < zs.length), wr.cell? ⟨g, o + m * 5 + 1, none⟩ = some (.int .i64 (verOf st m).a) ∧ wr.cell? ⟨g, o + m * 5 + 2, none⟩ = some (.int .i64 (verOf st m).b) ∧ wr.cell? ⟨g, o + m * 5 + 3, none⟩ = some (.int .i64 (verOf st m).c)) := by
        intro m hm
        have hcm := hc m hm
        have hms : m < st.length := by have := HZL.out; omega
        have hze : zs[m].1 = st[m] := by have h := HZ.out; subst h; simp
        have ev : verOf st m = st[m].v := by unfold verOf; rw [List.getD_eq_getElem?_getD, List.getElem?_eq_getElem hms]; rfl
        rw [ev, ← hze]
        exact ⟨hcm 1 (by omega), hcm 2 (by omega), hcm 3 (by omega)⟩
      have HMB := hid' hall.out.1
      have HRE := hid' hall.out.2
      clear hc hc0 hze hnf hall
      generalize st[k] = ek at *
      obtain ⟨en, ⟨va, vb, vc⟩, eds⟩ := ek
      simp only at c0 c1 c2 c3
      have HFT2 := hid' (HFT.out ⟨va, vb, vc⟩)
      simp only at HFT2
      have HFV2 := hid' (HFV.out k)
      have hba := (Below.refl wr.heap.size wr).alloc (Nat.le_refl _) (.cells #[.string (bs en), .int .i64 va, .int .i64 vb, .int .i64 vc, .slice na nc0 nc] 179)
      have q0 : (wr.alloc (.cells #[.string (bs en), .int .i64 va, .int .i64 vb, .int .i64 vc, .slice na nc0 nc] 179)).cell? ⟨wr.heap.size, 0, none⟩ = some (.string (bs en)) := by simp
      have q1 : (wr.alloc (.cells #[.string (bs en), .int .i64 va, .int .i64 vb, .int .i64 vc, .slice na nc0 nc] 179)).cell? ⟨wr.heap.size, 1, none⟩ = some (.int .i64 va) := by simp
      have q2 : (wr.alloc (.cells #[.string (bs en), .int .i64 va, .int .i64 vb, .int .i64 vc, .slice na nc0 nc] 179)).cell? ⟨wr.heap.size, 2, none⟩ = some (.int .i64 vb) := by simp
      have q3 : (wr.alloc (.cells #[.string (bs en), .int .i64 va, .int .i64 vb, .int .i64 vc, .slice na nc0 nc] 179)).cell? ⟨wr.heap.size, 3, none⟩ = some (.int .i64 vc) := by simp
      have p0 := ((bcell hba).1 w.heap.size 0 hwr).trans d0
      have p1 := ((bcell hba).1 w.heap.size 1 hwr).trans d1
      have pb := ((bcell hba).1 b 0 hbr).trans db
      have hsz2 : (wr.alloc (.cells #[.string (bs en), .int .i64 va, .int .i64 vb, .int .i64 vc, .slice na nc0 nc] 179)).heap.size = wr.heap.size + 1 := by simp
      have HVB : Hid (∀ m (hm : m < zs.length), (wr.alloc (.cells #[.string (bs en), .int .i64 va, .int .i64 vb, .int .i64 vc, .slice na nc0 nc] 179)).cell? ⟨g, o + m * 5 + 1, none⟩ = some (.int .i64 (verOf st m).a) ∧ (wr.alloc (.cells #[.string (bs en), .int .i64 va, .int .i64 vb, .int .i64 vc, .slice na nc0 nc] 179)).cell? ⟨g, o + m * 5 + 2, none⟩ = some (.int .i64 (verOf st m).b) ∧ (wr.alloc (.cells #[.string (bs en), .int .i64 va, .int .i64 vb, .int .i64 vc, .slice na nc0 nc] 179)).cell? ⟨g, o + m * 5 + 3, none⟩ = some (.int .i64 (verOf st m).c)) := fun m hm => ⟨by rw [(bcell hba).1 g _ hg]; exact (HVO.out m hm).1, by rw [(bcell hba).1 g _ hg]; exact (HVO.out m hm).2.1, by rw [(bcell hba).1 g _ hg]; exact (HVO.out m hm).2.2⟩
      have HT2 := hid' (RowX.below (RowX.below HT1.out hbel) hba)
      have HBB := hid' (hbel.trans (hba.mono hz))
      have hgr : g < wr.heap.size := hg
      clear hba HVO
      go_upto_region 6 with fail
      generalize wr.alloc (.cells #[.string (bs en), .int .i64 va, .int .i64 vb, .int .i64 vc, .slice na nc0 nc] 179) = V at *
      have hVr : wr.heap.size < V.heap.size := by omega
      have hVw : w.heap.size < V.heap.size := by omega
      have hVb : b < V.heap.size := by omega
      have hVg : g < V.heap.size := by omega
      clear c0 c1 c2 c3 c4 d0 d1 db hsz2
      go_cut [12] (fun t wc => t = .bool (decide (en = nn) && fitR nr ⟨va, vb, vc⟩) ∧ Below V.heap.size V wc)
      case first =>
        by_cases hn2 : en = nn
        · have hb : ((bs en).toList == (bs nn).toList) = true := by rw [hn2]; simp
          have HB : Hid ((decide (en = nn) && fitR nr ⟨va, vb, vc⟩) = fitR nr ⟨va, vb, vc⟩) := by unfold Hid; simp [hn2]
          clear hn2
          go_wp2_with fail
          refine (HFT2.out _).mono ?_
          rintro e w1 ⟨rfl, hb1⟩
          go_wp2
          go_meet
          exact ⟨by rw [HB.out], hb1⟩
        · have hb : ((bs en).toList == (bs nn).toList) = false := by rw [tx_toList, tx_toList, tx_bs, tx_bs]; simp [hn2]
          have HB : Hid ((decide (en = nn) && fitR nr ⟨va, vb, vc⟩) = false) := by unfold Hid; simp [hn2]
          clear hn2
          go_wp2
          go_meet
          exact ⟨by rw [HB.out], Below.refl _ _⟩
      case rest =>
        obtain ⟨rfl, hb1⟩ := hcut
        obtain ⟨w1, rfl⟩ : ∃ w1, w1 = wc := ⟨_, rfl⟩
        go_upto_region 7 with fail
        go_cut [13] (fun t wc => t = .bool ((!liked) || favouredR tree k) ∧ wc = w1)
        case first =>
          cases liked
          · go_wp2
            go_meet
            exact ⟨rfl, rfl⟩
          · have HFV3 := hid' (HFV2.out w1 (PacksI.r (RowX.below HT2.out hb1)))
            go_wp2_with fail
            refine HFV3.out.mono ?_
            rintro e w2 ⟨rfl, rfl⟩
            go_wp2
            go_meet
            exact ⟨rfl, rfl⟩
        case rest =>
          obtain ⟨rfl, rfl⟩ := hcut
          have hcc := (bcell hb1).1
          have s1 := (hcc wr.heap.size 1 hVr).trans q1
          have s2 := (hcc wr.heap.size 2 hVr).trans q2
          have s3 := (hcc wr.heap.size 3 hVr).trans q3
          have sb := (hcc b 0 hVb).trans pb
          have hzw := hb1.size
          have hwr1 : wr.heap.size < wc.heap.size := by omega
          have hbr1 : b < wc.heap.size := by omega
          have HB1 := hid' (HBB.out.trans (hb1.mono (by omega)))
          have HVC : Hid (∀ m (hm : m < zs.length), wc.cell? ⟨g, o + m * 5 + 1, none⟩ = some (.int .i64 (verOf st m).a) ∧ wc.cell? ⟨g, o + m * 5 + 2, none⟩ = some (.int .i64 (verOf st m).b) ∧ wc.cell? ⟨g, o + m * 5 + 3, none⟩ = some (.int .i64 (verOf st m).c)) := fun m hm => ⟨by rw [hcc g _ hVg]; exact (HVB.out m hm).1, by rw [hcc g _ hVg]; exact (HVB.out m hm).2.1, by rw [hcc g _ hVg]; exact (HVB.out m hm).2.2⟩
          clear hcc q0 q1 q2 q3 p0 p1 pb hb1 HVB HT2 HBB
          have HY' : Hid (((decide (en = nn) && fitR nr ⟨va, vb, vc⟩) && ((!liked) || favouredR tree k) && bestOk st best ⟨en, ⟨va, vb, vc⟩, eds⟩) = true → res = greatGo ⟨nn, nr⟩ liked tree st (some k) (k + 1) (st.drop (k + 1))) := fun h => by rw [HRE.out]; exact HY.out h
          have HN' : Hid (((decide (en = nn) && fitR nr ⟨va, vb, vc⟩) && ((!liked) || favouredR tree k) && bestOk st best ⟨en, ⟨va, vb, vc⟩, eds⟩) = false → res = greatGo ⟨nn, nr⟩ liked tree st best (k + 1) (st.drop (k + 1))) := fun h => by rw [HRE.out]; exact HN.out h
          have HMB1 : Hid (∀ m, best = some m → m < k + 1) := fun m hm => by have := HMB.out m hm; omega
          have HMB2 : Hid (∀ m, some k = some m → m < k + 1) := fun m hm => by simp at hm; omega
          clear HY HN HRE
          generalize (decide (en = nn) && fitR nr ⟨va, vb, vc⟩) = f at *
          generalize ((!liked) || favouredR tree k) = gg at *
          cases f
          · have HF := hid' (HN'.out (by simp))
            go_wp2
            go_region
            all_goals
              go_wp2
              go_roundw
              case rel => exact ⟨k + 1, best, by omega, rfl, by go_num, HB1.out.drew, ⟨HMB1.out, HF.out⟩⟩
              case measure => simp [intOf] <;> omega
          · cases gg
            · have HF := hid' (HN'.out (by simp))
              go_wp2
              go_region
              all_goals
                go_wp2
                go_roundw
                case rel => exact ⟨k + 1, best, by omega, rfl, by go_num, HB1.out.drew, ⟨HMB1.out, HF.out⟩⟩
                case measure => simp [intOf] <;> omega
            · cases best with
              | none =>
                have HF := hid' (HY'.out (by simp [bestOk]))
                simp only [idx]
                go_wp2
                go_region
                all_goals
                  go_wp2
                  go_roundw
                  case rel => exact ⟨k + 1, some k, by omega, rfl, by go_num, HB1.out.drew, ⟨HMB2.out, HF.out⟩⟩
                  case measure => simp [intOf] <;> omega
              | some m =>
                have hmk := HMB.out m rfl
                have hmz : m < zs.length := by omega
                obtain ⟨t1, t2, t3⟩ := HVC.out m hmz
                have m0 : (0 : Int) ≤ (m : Int) := by omega
                have m1 : (m : Int) < (zs.length : Int) := by omega
                have m2 : ¬ (m : Int) < 0 := by omega
                have m3 : (decide ((m : Int) < 0)) = false := by simp
                have hgc : g < wc.heap.size := by omega
                have HBL := hid' (fun w => below_any (verOf st m).a (verOf st m).b (verOf st m).c va vb vc w)
                have HY2 : Hid (belowB (verOf st m).a (verOf st m).b (verOf st m).c va vb vc = true → res = greatGo ⟨nn, nr⟩ liked tree st (some k) (k + 1) (st.drop (k + 1))) := fun h => HY'.out (by simp [bestOk, h])
                have HN2 : Hid (belowB (verOf st m).a (verOf st m).b (verOf st m).c va vb vc = false → res = greatGo ⟨nn, nr⟩ liked tree st (some m) (k + 1) (st.drop (k + 1))) := fun h => HN'.out (by simp [bestOk, h])
                simp only [idx]
                generalize belowB (verOf st m).a (verOf st m).b (verOf st m).c va vb vc = bb at *
                generalize (verOf st m).a = ma at *
                generalize (verOf st m).b = mb at *
                generalize (verOf st m).c = mc at *
                go_wp2
                go_region_held3 (fun w' => w'.cell? ⟨b, 0, none⟩ = some (.slice (some ⟨g, o, none⟩) zs.length sc) ∧ w'.cell? ⟨g, o + m * 5 + 1, none⟩ = some (.int .i64 ma) ∧ w'.cell? ⟨g, o + m * 5 + 2, none⟩ = some (.int .i64 mb) ∧ w'.cell? ⟨g, o + m * 5 + 3, none⟩ = some (.int .i64 mc) ∧ w'.cell? ⟨wr.heap.size, 1, none⟩ = some (.int .i64 va) ∧ w'.cell? ⟨wr.heap.size, 2, none⟩ = some (.int .i64 vb) ∧ w'.cell? ⟨wr.heap.size, 3, none⟩ = some (.int .i64 vc)) (go_keep)
                  (first | (go_at_call 127; refine (HBL.out _).mono ?_; rintro e w3 ⟨rfl, hb3⟩; have hy3 := (bcell hb3).1; simp at hy3))
                have HB3 := hid' (HB1.out.drew.trans (hb3.mono (by simp; omega)))
                clear hb3 hy3
                cases bb
                · have HF := hid' (HN2.out (by first | rfl | trivial))
                  go_wp2
                  go_roundw
                  case rel => exact ⟨k + 1, some m, by omega, rfl, by go_num, HB3.out, ⟨HMB1.out, HF.out⟩⟩
                  case measure => simp [intOf] <;> omega
                · have HF := hid' (HY2.out (by first | rfl | trivial))
                  go_wp2
                  go_roundw
                  case rel => exact ⟨k + 1, some k, by omega, rfl, by go_num, HB3.out, ⟨HMB2.out, HF.out⟩⟩
                  case measure => simp [intOf] <;> omega
    · have HF : Hid (res = best) := by unfold Hid; rw [hall.out.2, gg_end _ _ _ _ _ _ _ _ (by have := HZL.out; omega)]
      have HBE := hid' (HBW.out.trans (hbel.mono (by have := HSZ.out; omega)))
      go_wp2
      go_ret
      exact ⟨ret_int (by rw [HF.out]), HBE.out⟩

end Hst
end Go.Proofs.YtecocheolbkneaaGreatDoor
namespace Go.Proofs.YtecocheolbkneaaGreatDoor
open Go.RowKit
namespace Hst
set_option maxRecDepth 100000

theorem ch_some {st : List EntryD} {n : NeedD} {tree : List PackD} {k : Nat} (h : greatestR st n true tree = some k) : chooseR st n tree = some k := by simp [chooseR, h]
theorem ch_none {st : List EntryD} {n : NeedD} {tree : List PackD} (h : greatestR st n true tree = none) : chooseR st n tree = greatestR st n false tree := by simp [chooseR, h]

set_option maxHeartbeats 4000000 in
theorem chooseD_any (b : Nat) (s : SiteD) (n : NeedD) (tv : Value) (tree : List PackD) (w : World) (hs : DAt w b s) (ht : PacksI w tv tree) (hn : tree.length ≤ 1000) (hst : s.stock.length ≤ 1000) (hok : NeedOk n) :
    Calls Tryz.prog 161 #[.pointer (some ⟨b, 0, none⟩), needV n, tv] w fun e w' => e = .returned (.int .i64 (idx (chooseR s.stock n tree))) ∧ Below w.heap.size w w' := by
  obtain ⟨ta, tc, rfl⟩ := RowX.form ht
  have HG := hid' (fun lk w h h' => greatest_any b s n lk (.slice ta tree.length tc) tree w h h' hn hst hok)
  have hbw := (Below.refl w.heap.size w).alloc (Nat.le_refl _) (.cells #[.string (bs n.name), .string (bs n.rng)] 135)
  have HS1 := hid' (hs.below hbw)
  have HT1 := hid' (RowX.below ht hbw)
  have HBW := hid' hbw
  have C1 := hid' (fun k => ch_some (st := s.stock) (n := n) (tree := tree) (k := k))
  have C2 := hid' (ch_none (st := s.stock) (n := n) (tree := tree))
  have e0 : (w.alloc (.cells #[.string (bs n.name), .string (bs n.rng)] 135)).cell? ⟨w.heap.size, 0, none⟩ = some (.string (bs n.name)) := by simp
  have e1 : (w.alloc (.cells #[.string (bs n.name), .string (bs n.rng)] 135)).cell? ⟨w.heap.size, 1, none⟩ = some (.string (bs n.rng)) := by simp
  have hsz : (w.alloc (.cells #[.string (bs n.name), .string (bs n.rng)] 135)).heap.size = w.heap.size + 1 := by simp
  clear hs ht hbw
  generalize chooseR s.stock n tree = res at *
  rcases hg : greatestR s.stock n true tree with _ | k
  · have HR := hid' (C2.out hg)
    have HG1 := hid' (fun w h h' => HG.out true w h h')
    rw [hg] at HG1
    have HG2 := hid' (fun w h h' => HG.out false w h h')
    generalize greatestR s.stock n false tree = r2 at *
    obtain ⟨nn, nr⟩ := n
    simp only at e0 e1 HS1 HT1 HBW
    clear hg C1 C2 HG hok
    go_enter Tryz.func161, Tryz.ntmps161
    go_wp2_with fail
    refine (HG1.out _ HS1.out HT1.out).mono ?_
    rintro e w1 ⟨rfl, hb1⟩
    have hcc := (bcell hb1).1
    have q0 := (hcc w.heap.size 0 (by simp)).trans e0
    have q1 := (hcc w.heap.size 1 (by simp)).trans e1
    have hz1 : w.heap.size < w1.heap.size := by have := hb1.size; simp at this; omega
    have HS2 := hid' (HS1.out.below hb1)
    have HT2 := hid' (RowX.below HT1.out hb1)
    have HB1 := hid' (HBW.out.trans (hb1.mono (by simp)))
    clear hb1 hcc
    simp only [idx]
    go_wp2_with fail
    refine (HG2.out _ HS2.out HT2.out).mono ?_
    rintro e w2 ⟨rfl, hb2⟩
    have HB2 := hid' (HB1.out.trans (hb2.mono (by omega)))
    clear hb2
    go_wp2
    go_ret
    exact ⟨ret_int (by rw [HR.out]), HB2.out⟩
  · have HR := hid' (C1.out k hg)
    have HG1 := hid' (fun w h h' => HG.out true w h h')
    rw [hg] at HG1
    obtain ⟨nn, nr⟩ := n
    simp only at HS1 HT1 HBW
    clear hg C1 C2 HG hok e0 e1 hsz
    go_enter Tryz.func161, Tryz.ntmps161
    go_wp2_with fail
    refine (HG1.out _ HS1.out HT1.out).mono ?_
    rintro e w1 ⟨rfl, hb1⟩
    have HB1 := hid' (HBW.out.trans (hb1.mono (by simp)))
    clear hb1
    simp only [idx]
    have hk0 : (0 : Int) ≤ (k : Int) := by omega
    go_wp2
    go_ret
    exact ⟨ret_int (by rw [HR.out]; rfl), HB1.out⟩

end Hst
end Go.Proofs.YtecocheolbkneaaGreatDoor
namespace Go.Proofs.YtecocheolbkneaaGreatDoor
open Go.RowKit
namespace Hst
set_option maxRecDepth 100000

/-- What lay has still to try: the first j of the folders, from the last on. -/
def layTo (st : List EntryD) (l : List PackD) (w : WhoD) (k : Nat) (done : List WhoD) (f : List Tx) (j : Nat) : List PackD := layGo st l w k done (f.take j).reverse
theorem lt_all (st : List EntryD) (l : List PackD) (w : WhoD) (k : Nat) (done : List WhoD) : layR st l w k done = layTo st l w k done (foldersR w.path) (foldersR w.path).length := by
  unfold layTo layR; rw [List.take_length]
theorem lt_zero (st : List EntryD) (l : List PackD) (w : WhoD) (k : Nat) (done : List WhoD) (f : List Tx) : layTo st l w k done f 0 = l := rfl
def laysAt (st : List EntryD) (l : List PackD) (w : WhoD) (k : Nat) (done : List WhoD) (f : Tx) : Bool :=
  decide (atR l (joinR f w.n.name) = none) && decide (findR (l ++ [⟨joinR f w.n.name, k⟩]) w.path w.n.name = some l.length) && allMetR st (l ++ [⟨joinR f w.n.name, k⟩]) done
theorem lt_succ (st : List EntryD) (l : List PackD) (w : WhoD) (k : Nat) (done : List WhoD) (f : List Tx) (j : Nat) (hj : j < f.length) : layTo st l w k done f (j + 1) = if laysAt st l w k done f[j] = true then l ++ [⟨joinR f[j] w.n.name, k⟩] else layTo st l w k done f j := by
  unfold layTo laysAt
  rw [List.take_succ_eq_append_getElem hj, List.reverse_append]
  simp only [List.reverse_singleton, List.singleton_append, layGo, Bool.and_eq_true, decide_eq_true_eq, and_assoc]

theorem own_flat_cells {w : World} {l : List PackD} {g o cap : Nat} (h : PacksI w (.slice (some ⟨g, o, none⟩) l.length cap) l) : ∀ j u, (l.flatMap packC)[j]? = some u → w.cell? ((⟨g, o, none⟩ : Addr).add j) = some u := by
  intro j u hu
  obtain ⟨a', c', e, hr, _⟩ := h
  simp at e
  obtain ⟨rfl, rfl⟩ := e
  have hj : j < l.length * 2 := by
    have h1 := hr.len
    have h2 := List.getElem?_eq_some_iff.1 hu
    obtain ⟨h3, _⟩ := h2
    omega
  obtain ⟨g', o', e', _, hc⟩ := hr.at' (by omega)
  simp at e'
  obtain ⟨rfl, rfl⟩ := e'
  have := hc j hj
  rw [hu] at this
  have e2 : (⟨g, o, none⟩ : Addr).add j = ⟨g, o + j, none⟩ := by unfold Addr.add; by_cases h : j = 0 <;> simp [h]
  rw [e2]; exact this
theorem packs_one (l : List PackD) : ∀ u ∈ l.flatMap packC, u.oneCell' = true := by
  intro u hu
  simp only [List.mem_flatMap] at hu
  obtain ⟨p, _, hu⟩ := hu
  exact packD_one p u hu

attribute [local go_sem ↓] Go.wp_at_zero Go.wp_at_succ

set_option maxHeartbeats 8000000 in
theorem layD_any (b : Nat) (s : SiteD) (v : Value) (l : List PackD) (x : WhoD) (of : Nat) (dv : Value) (done : List WhoD) (w : World) (hs : DAt w b s) (hl : PacksI w v l) (hl0 : l = [] → v = .slice none 0 0) (hn : l.length ≤ 1000) (hd : WhosI w dv done) (hdn : done.length ≤ 100000) (hx : WhoOk x) (hdo : ∀ y ∈ done, WhoOk y) (hof : of < s.stock.length) (hofs : ∀ p ∈ l, p.of < s.stock.length) (hfl : (foldersR x.path).length ≤ 60000) :
    Calls Tryz.prog 162 #[.pointer (some ⟨b, 0, none⟩), v, whoV x, .int .i64 of, dv] w fun e w' => ∃ v', e = .returned v' ∧ PacksI w' v' (layR s.stock l x of done) ∧ Below w.heap.size w w' := by
  obtain ⟨i0, hi, iz0, iz1, iz2⟩ := info_parts info_packD
  obtain ⟨a, cap, rfl⟩ := RowX.form hl
  obtain ⟨da, dc, rfl⟩ := RowX.form hd
  have hbw := (Below.refl w.heap.size w).alloc (Nat.le_refl _) (.cells #[.string (bs x.path), .string (bs x.n.name), .string (bs x.n.rng)] 200)
  have HS1 := hid' (hs.below hbw)
  have HL1 := hid' (RowX.below hl hbw)
  have HD1 := hid' (RowX.below hd hbw)
  have HBW := hid' hbw
  have HFO := hid' (fun w => folders_any (bs x.path) w (by rw [bs_size]; have := hx.1; omega))
  rw [tx_bs] at HFO
  have hmem := fun f (h : f ∈ foldersR x.path) => foldersR_mem h
  have HLT := hid' (lt_all s.stock l x of done)
  have HSU := hid' (lt_succ s.stock l x of done (foldersR x.path))
  have HZE := hid' (lt_zero s.stock l x of done (foldersR x.path))
  have HLA : Hid (∀ f, laysAt s.stock l x of done f = (decide (atR l (joinR f x.n.name) = none) && decide (findR (l ++ [⟨joinR f x.n.name, of⟩]) x.path x.n.name = some l.length) && allMetR s.stock (l ++ [⟨joinR f x.n.name, of⟩]) done)) := fun _ => rfl
  have HAT := hid' (fun p w h => at_any a l.length cap l p w h (by omega))
  have HX := hid' hx; have HOS := hid' hofs; have HOF := hid' hof; have HDO := hid' hdo; have HL0 := hid' hl0
  have HFI := hid' (fun f (v : Option Addr) cp w h => find_any v (l.length + 1) cp (l ++ [⟨joinR f x.n.name, of⟩]) (bs x.path) (bs x.n.name) w h (by omega) (by rw [bs_size]; exact hx.1) (by rw [bs_size]; have := hx.2.1; omega))
  rw [tx_bs, tx_bs] at HFI
  have HAM := hid' (fun f (v : Option Addr) cp w hs h h' => allMet_any b s v (l.length + 1) cp (l ++ [⟨joinR f x.n.name, of⟩]) da done.length dc done w hs h (by omega) h' hdn hdo (fun p hp => by simp only [List.mem_append, List.mem_singleton] at hp; rcases hp with hp | rfl; exact hofs p hp; exact hof))
  have HMM := hid' hmem
  generalize layR s.stock l x of done = res at *
  generalize hft : foldersR x.path = ft at *
  obtain ⟨xp, xn, xr⟩ := x
  simp only at HS1 HL1 HD1 HBW HFO HLA HFI HAM
  have e0 : (w.alloc (.cells #[.string (bs xp), .string (bs xn), .string (bs xr)] 200)).cell? ⟨w.heap.size, 0, none⟩ = some (.string (bs xp)) := by simp
  have e1 : (w.alloc (.cells #[.string (bs xp), .string (bs xn), .string (bs xr)] 200)).cell? ⟨w.heap.size, 1, none⟩ = some (.string (bs xn)) := by simp
  have hsz : (w.alloc (.cells #[.string (bs xp), .string (bs xn), .string (bs xr)] 200)).heap.size = w.heap.size + 1 := by simp
  clear hs hl hd hbw hx hofs hof hdo hl0 hmem hft
  go_enter Tryz.func162, Tryz.ntmps162
  go_wp2_with fail
  refine (HFO.out _).mono ?_
  rintro e w1 ⟨fv, rfl, hrow, hb1⟩
  obtain ⟨fa, fc, rfl, hst⟩ := RowV hrow
  have hcc := (bcell hb1).1
  have q0 := (hcc w.heap.size 0 (by simp)).trans e0
  have q1 := (hcc w.heap.size 1 (by simp)).trans e1
  have hw1 : w.heap.size < w1.heap.size := by have := hb1.size; simp at this; omega
  have HS2 := hid' (HS1.out.below hb1)
  have HL2 := hid' (RowX.below HL1.out hb1)
  have HD2 := hid' (RowX.below HD1.out hb1)
  have HB1 := hid' (HBW.out.trans (hb1.mono (by simp)))
  have HST := hid' hst
  clear hb1 hcc hrow hst e0 e1 hsz
  go_wp2
  go_loopw [12] (fun i wr => ∃ j : Nat, j ≤ ft.length ∧ i = .int .i64 ((j : Int) - 1) ∧ Below w1.heap.size w1 wr ∧ Hid (res = layTo s.stock l ⟨xp, xn, xr⟩ of done ft j)) (fun i _ => (intOf i + 1).toNat)
  case atStart => exact ⟨ft.length, Nat.le_refl _, by go_num, Below.refl _ _, HLT.out⟩
  case round =>
    obtain ⟨j, hj, rfl, hbel, hall⟩ := hrel
    have hz := hbel.size
    have hw0 := ((bcell hbel).1 w.heap.size 0 hw1).trans q0
    have hw2 := ((bcell hbel).1 w.heap.size 1 hw1).trans q1
    have hwr : w.heap.size < wr.heap.size := by omega
    cases j with
    | zero =>
      have HF : Hid (res = l) := by unfold Hid; rw [hall.out]; exact HZE.out
      have HLR := hid' (RowX.below HL2.out hbel)
      have HBE := hid' (HB1.out.trans (hbel.mono (by omega)))
      go_wp2
      go_ret
      refine ⟨_, rfl, ?_, HBE.out⟩
      rw [HF.out]; exact HLR.out
    | succ j =>
      have hjl : j < ft.length := by omega
      have e00 : (((j + 1 : Nat) : Int) - 1) = (j : Int) := by omega
      rw [e00]
      obtain ⟨g, o, rfl, hg, hc⟩ := (HST.out.below hbel).cells hjl
      have c0 := hc j hjl
      have HSJ := hid' (HSU.out j hjl)
      have hfx := HMM.out ft[j] (List.getElem_mem hjl)
      have HJN := hid' (fun w => join_any (bs ft[j]) (bs xn) w (by rw [bs_size]; have := HX.out.1; simp only at this; omega) (by rw [bs_size]; have := HX.out.2.1; simp only at this; omega))
      rw [tx_bs, tx_bs] at HJN
      have HFJ := hid' (HFI.out ft[j])
      have HAJ := hid' (HAM.out ft[j])
      have HLJ := hid' (HLA.out ft[j])
      have HATJ := hid' (HAT.out (bs (joinR ft[j] xn)))
      rw [tx_bs] at HATJ
      have HRE := hid' hall.out
      have j0 : (0 : Int) ≤ (j : Int) := by omega
      have j1 : (j : Int) < (ft.length : Int) := by omega
      clear hc hall
      generalize joinR ft[j] xn = jn at *
      generalize laysAt s.stock l ⟨xp, xn, xr⟩ of done ft[j] = lay at *
      generalize bs ft[j] = fb at *
      clear hfx
      go_wp2
      go_region_held3 (fun w' => w'.cell? ⟨g, o + j, none⟩ = some (.string fb) ∧ w'.cell? ⟨w.heap.size, 1, none⟩ = some (.string (bs xn))) (go_keep)
        (first | (go_at_call 133; refine (HJN.out _).mono ?_; rintro e w2 ⟨rfl, rfl⟩))
      have hbd := hbel.drew
      have HLR := hid' (RowX.below HL2.out hbd)
      have HDR := hid' (RowX.below HD2.out hbd)
      have HSR := hid' (HS2.out.below hbd)
      go_wp2_with fail
      refine (HATJ.out _ (PacksI.r HLR.out)).mono ?_
      rintro e w3 ⟨rfl, rfl⟩
      have hz3 : w1.heap.size ≤ wr.drew.heap.size := hbd.size
      go_upto_region 8 with fail
      go_cut [15] (fun t wc => wc.ownsRow wr.drew.heap.size 146 2 t l.length (l.flatMap packC) ∧ Below wr.drew.heap.size wr.drew wc)
      case first =>
        by_cases hle : l = []
        · have hv := HL0.out hle
          simp at hv
          obtain ⟨rfl, _, rfl⟩ := hv
          subst hle
          go_wp2
          go_meet
          exact ⟨World.ownsRow_nil _ _ _ _, Below.refl _ _⟩
        · have hlp : 0 < l.length := List.length_pos_iff.2 hle
          obtain ⟨g2, o2, cap2, hv, hg2, _⟩ := RowX.packs HLR.out hlp
          simp at hv
          obtain ⟨rfl, rfl⟩ := hv
          go_wp2_with (first | (at_builtin; refine wpList_append_lies _ rfl _ _ 127 rfl wr.drew.heap.size 146 i0 (.agg #[.string ByteArray.empty, .int .i64 0]) 2 24 Tryz.underlying127 hi iz0 iz1 iz2 rfl (by omega) _ 0 [] rfl (World.ownsRow_nil _ _ _ _) ⟨g2, o2, none⟩ l.length cap (l.flatMap packC) rfl (flat_len packC 2 packC_len l) (own_flat_cells HLR.out) (packs_one l) hlp (by unfold maxLen; omega) (by omega) (Nat.le_refl _) wr.drew.heap.size rfl ?_; intro g4 cap4 w4 hown4 hgrow4 hat4 hlt4))
          have hb4 := (Below.refl wr.drew.heap.size wr.drew).grown hgrow4 (Nat.le_refl _) (fun q hq => nomatch (show (none : Option Nat) = some q from hq))
          simp only [Nat.zero_add, List.nil_append] at hown4
          go_meet
          exact ⟨by simpa using hown4, hb4⟩
      case rest =>
        obtain ⟨hown, hb4⟩ := hcut
        obtain ⟨X, rfl⟩ : ∃ X, X = wc := ⟨_, rfl⟩
        have hzX := hb4.size
        have hw4 := ((bcell hb4).1 w.heap.size 0 (show w.heap.size < wr.drew.heap.size from hwr)).trans (show wr.drew.cell? ⟨w.heap.size, 0, none⟩ = some (.string (bs xp)) from hw0)
        have hw5 := ((bcell hb4).1 w.heap.size 1 (show w.heap.size < wr.drew.heap.size from hwr)).trans (show wr.drew.cell? ⟨w.heap.size, 1, none⟩ = some (.string (bs xn)) from hw2)
        have HS5 := hid' (HSR.out.below hb4)
        have HD5 := hid' (RowX.below HDR.out hb4)
        have HL5 := hid' (RowX.below HLR.out hb4)
        have hwX : w.heap.size < X.heap.size := Nat.lt_of_lt_of_le hwr hzX
        have hwrX : wr.drew.heap.size ≤ X.heap.size := hzX
        have hwrX2 : wr.heap.size ≤ X.heap.size := hzX
        have HB4 := hid' hb4
        go_wp2_with (first | (at_builtin; refine wpList_append_lies _ rfl _ _ 127 rfl wr.drew.heap.size 146 i0 (.agg #[.string ByteArray.empty, .int .i64 0]) 2 24 Tryz.underlying127 hi iz0 iz1 iz2 rfl (by omega) _ _ _ rfl (hown.alloc _) ⟨X.heap.size, 0, none⟩ 1 1 [.string (bs jn), .int .i64 (of : Nat)] rfl rfl (by first | exact news_2' _ _ _ _) (packD_one ⟨jn, of⟩) (by omega) (by unfold maxLen; omega) (by omega) (by simp; omega) (X.heap.size + 1) (by simp) ?_; intro g6 cap6 w6 hown6 hgrow6 hat6 hlt6; have R := step_gen2 packC (x := ⟨jn, of⟩) rfl hown hb4 ((Below.refl _ _).alloc (Nat.le_refl _) _) hown6 hgrow6; have hcc := (bcell R.2).1; have f0 := (hcc w.heap.size 0 (show w.heap.size < wr.drew.heap.size from hwr)).trans (show wr.drew.cell? ⟨w.heap.size, 0, none⟩ = some (.string (bs xp)) from hw0); have f1 := (hcc w.heap.size 1 (show w.heap.size < wr.drew.heap.size from hwr)).trans (show wr.drew.cell? ⟨w.heap.size, 1, none⟩ = some (.string (bs xn)) from hw2); have hw6 : w.heap.size < w6.heap.size := (Nat.lt_of_lt_of_le hwr R.2.size); have HR6 := hid' R; have HPI := hid' (show PacksI w6 (.slice (some ⟨g6, 0, none⟩) (l.length + 1) cap6) (l ++ [⟨jn, of⟩]) from RowX.of_own R.1); clear R hown6 hgrow6 hat6 hcc hown))
        refine (HFJ.out (some ⟨g6, 0, none⟩) cap6 _ (PacksI.r HPI.out)).mono ?_
        rintro e w7 ⟨rfl, hb7⟩
        have hb67 := HR6.out.2.trans (hb7.mono HR6.out.2.size)
        have HS7 := hid' (HSR.out.below hb67)
        have HD7 := hid' (RowX.below HDR.out hb67)
        have HP7 := hid' (RowX.below HPI.out hb7)
        have HB7 := hid' hb67
        clear hb7 hb67 hw4 hw5 f0 f1
        go_wp2_with fail
        refine (HAJ.out (some ⟨g6, 0, none⟩) cap6 _ (DAt.site HS7.out) (PacksI.r HP7.out) (WhosI.r HD7.out)).mono ?_
        rintro e w8 ⟨rfl, hb8⟩
        have HP8 := hid' (RowX.below HP7.out hb8)
        have HB8 := hid' (hbd.trans ((HB7.out.trans (hb8.mono HB7.out.size)).mono hz3))
        have HB9 := hid' (HB1.out.trans (HB8.out.mono (by omega)))
        clear hb8
        have HNX : Hid (lay = false → res = layTo s.stock l ⟨xp, xn, xr⟩ of done ft j) := fun h => by rw [HRE.out, HSJ.out, h]; rfl
        have HYX : Hid (lay = true → res = l ++ [⟨jn, of⟩]) := fun h => by rw [HRE.out, HSJ.out, h]; rfl
        generalize allMetR s.stock (l ++ [⟨jn, of⟩]) done = am at *
        generalize findR (l ++ [⟨jn, of⟩]) xp xn = fo at *
        rcases hat : atR l jn with _ | m
        · rw [hat] at HLJ
          by_cases hfo : fo = some l.length
          · subst hfo
            have hbl : ((l.length : Int) == (l.length : Int)) = true := by simp
            cases am
            · have HF := hid' (HNX.out (by rw [HLJ.out]; simp))
              simp only [idx]
              clear hat
              go_wp2
              go_roundw
              case rel => exact ⟨j, by omega, by go_num, HB8.out, HF⟩
              case measure => simp [intOf] <;> omega
            · have HF := hid' (HYX.out (by rw [HLJ.out]; simp))
              simp only [idx]
              clear hat
              go_wp2
              go_ret
              refine ⟨_, rfl, ?_, HB9.out⟩
              rw [HF.out]; exact HP8.out
          · have HF := hid' (HNX.out (by rw [HLJ.out]; simp [hfo]))
            have hbl : ((idx fo) == (l.length : Int)) = false := by
              apply beq_eq_false_iff_ne.2
              cases fo with
              | none => simp only [idx]; omega
              | some q => simp only [idx]; intro h; exact hfo (by congr 1; omega)
            generalize idx fo = fi at *
            simp only [idx]
            clear hat hfo
            go_wp2
            go_roundw
            case rel => exact ⟨j, by omega, by go_num, HB8.out, HF⟩
            case measure => simp [intOf] <;> omega
        · rw [hat] at HLJ
          have HF := hid' (HNX.out (by rw [HLJ.out]; simp))
          have hm0 : ¬ (m : Int) < 0 := by omega
          simp only [idx]
          clear hat
          go_wp2
          go_roundw
          case rel => exact ⟨j, by omega, by go_num, HB8.out, HF⟩
          case measure => simp [intOf] <;> omega

end Hst
end Go.Proofs.YtecocheolbkneaaGreatDoor
namespace Go.Proofs.YtecocheolbkneaaGreatDoor
open Go.RowKit
namespace Hst
set_option maxRecDepth 100000

theorem greatGo_lt (n : NeedD) (liked : Bool) (tree : List PackD) (st : List EntryD) : ∀ (l : List EntryD) (best : Option Nat) (i k : Nat), greatGo n liked tree st best i l = some k → best = some k ∨ k < i + l.length
  | [], best, i, k, h => by
    cases best with
    | none => simp [greatGo] at h
    | some m => simp [greatGo] at h; exact .inl (by rw [h])
  | e :: r, best, i, k, h => by
    have hs : greatGo n liked tree st (some i) (i + 1) r = some k ∨ greatGo n liked tree st best (i + 1) r = some k := by
      cases best with
      | none => rw [greatGo] at h; split at h; exact .inl h; exact .inr h
      | some m => rw [greatGo] at h; split at h; exact .inl h; exact .inr h
    rcases hs with h1 | h1
    · rcases greatGo_lt n liked tree st r _ _ k h1 with h2 | h2
      · simp at h2; subst h2; simp
      · simp; omega
    · rcases greatGo_lt n liked tree st r _ _ k h1 with h2 | h2
      · exact .inl h2
      · simp; omega
theorem chooseR_lt {st : List EntryD} {n : NeedD} {tree : List PackD} {k : Nat} (h : chooseR st n tree = some k) : k < st.length := by
  have hg : ∀ lk, greatestR st n lk tree = some k → k < st.length := fun lk h => by
    rcases greatGo_lt n lk tree st st none 0 k h with h1 | h1
    · simp at h1
    · omega
  rcases h1 : greatestR st n true tree with _ | m
  · rw [ch_none h1] at h; exact hg _ h
  · rw [ch_some h1] at h; simp at h; subst h; exact hg _ h1
/-- The bounds of a state. -/
structure QOk (st : List EntryD) (q : List PackD × List WhoD × List WhoD) : Prop where
  len : q.1.length ≤ 40
  of : ∀ p ∈ q.1, p.of < st.length ∧ p.path.length ≤ 4 * q.1.length
  todo : q.2.2.length ≤ 6 + 6 * q.1.length
  tw : ∀ x ∈ q.2.2, x.path.length ≤ 4 * q.1.length ∧ NeedOk x.n
  dw : ∀ x ∈ q.2.1, WhoOk x
def StD (st : List EntryD) : Prop := st.length ≤ 40 ∧ ∀ e ∈ st, e.needs.length ≤ 6 ∧ ∀ n ∈ e.needs, NeedOk n

theorem lay_last {st : List EntryD} {l : List PackD} {x : WhoD} {k : Nat} {done : List WhoD} (h : (layR st l x k done).length = l.length + 1) : ∃ f ∈ foldersR x.path, layR st l x k done = l ++ [⟨joinR f x.n.name, k⟩] ∧ (layR st l x k done).drop ((layR st l x k done).length - 1) = [⟨joinR f x.n.name, k⟩] := by
  rcases layGo_form st l x k done (foldersR x.path).reverse with h1 | ⟨f, hf, h1⟩
  · unfold layR at h; rw [h1] at h; omega
  · refine ⟨f, by simpa using hf, h1, ?_⟩
    unfold layR
    rw [h1]
    simp
theorem allR_one {st : List EntryD} {p : PackD} (h : p.of < st.length) : allR st [] [p] = (st[p.of]).needs.map fun n => (⟨p.path, n⟩ : WhoD) := by
  rw [allR_eq]
  simp only [List.map_nil, List.nil_append, List.flatMap_cons, List.flatMap_nil, List.append_nil]
  unfold addsR needsOf
  rw [List.getD_eq_getElem?_getD, List.getElem?_eq_getElem h]; rfl
theorem QOk.step {st : List EntryD} {tree : List PackD} {q : List PackD × List WhoD × List WhoD} {x : WhoD} (hs : StD st) (hq : QOk st q) (hx : x ∈ q.2.2) (h0 : (stepD st tree q.1 q.2.1 q.2.2 x).2 = 0) (hl : metR st q.1 x = false → ∀ k, chooseR st x.n tree = some k → ¬ 40 ≤ q.1.length → (layR st q.1 x k q.2.1).length = q.1.length + 1) : QOk st (stepD st tree q.1 q.2.1 q.2.2 x).1 := by
  have hxo := hq.tw x hx
  have hxw : WhoOk x := ⟨by have := hq.len; omega, hxo.2⟩
  have hdn : ∀ y ∈ q.2.1 ++ [x], WhoOk y := fun y hy => by
    simp only [List.mem_append, List.mem_singleton] at hy
    rcases hy with hy | rfl
    · exact hq.dw y hy
    · exact hxw
  unfold stepD at h0 ⊢
  by_cases hm : metR st q.1 x = true
  · rw [if_pos hm]; exact ⟨hq.len, hq.of, hq.todo, hq.tw, hdn⟩
  · rw [if_neg hm] at h0 ⊢
    rcases hc : chooseR st x.n tree with _ | k
    · rw [hc] at h0; simp at h0
    · rw [hc] at h0
      simp only at h0 ⊢
      by_cases h40 : 40 ≤ q.1.length
      · rw [if_pos h40] at h0; simp at h0
      · rw [if_neg h40] at h0 ⊢
        obtain ⟨f, hf, e1, e2⟩ := lay_last (hl (by simpa using hm) k hc h40)
        rw [e2, e1]
        have hk := chooseR_lt hc
        have hfl := foldersR_mem hf
        have hjl := joinR_le f x.n.name
        have hnl := hxo.2.1
        have hall := allR_one (st := st) (p := ⟨joinR f x.n.name, k⟩) hk
        have hen := hs.2 st[k] (List.getElem_mem hk)
        refine ⟨by simp; omega, fun p hp => ?_, ?_, fun y hy => ?_, hdn⟩
        · simp only [List.mem_append, List.mem_singleton] at hp
          simp only [List.length_append, List.length_singleton]
          rcases hp with hp | rfl
          · have := hq.of p hp; exact ⟨this.1, by omega⟩
          · exact ⟨hk, by simp only; omega⟩
        · simp only [List.length_append, List.length_singleton]
          rw [hall, List.length_map]
          have := hq.todo; simp only; omega
        · simp only [List.mem_append] at hy
          simp only [List.length_append, List.length_singleton]
          rcases hy with hy | hy
          · have := hq.tw y hy; exact ⟨by omega, this.2⟩
          · rw [hall] at hy
            simp only [List.mem_map] at hy
            obtain ⟨n, hn, rfl⟩ := hy
            exact ⟨by simp only; omega, hen.2 n hn⟩

end Hst
end Go.Proofs.YtecocheolbkneaaGreatDoor
