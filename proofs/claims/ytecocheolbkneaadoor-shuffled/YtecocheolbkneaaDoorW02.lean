/- Sdefs, Heap, Kname, Khead, Tdefs -/
import Derived.Test.YtecocheolbkneaaDoorW01
import Derived.Deep.RegionHeld3
namespace Go.Proofs.YtecocheolbkneaaDoor
namespace Hst

structure NeedD where
  name : Tx
  rng : Tx
structure EntryD where
  name : Tx
  v : V3
  needs : List NeedD
structure PackD where
  path : Tx
  of : Nat
structure WhoD where
  path : Tx
  n : NeedD

/-- The order of texts. -/
def less (a b : Tx) : Bool := Op.bytesLess a b
def low (b : UInt8) : Bool := decide (97 ≤ b.toNat) && decide (b.toNat ≤ 122)
def isNameR (l : Tx) : Bool := decide (1 ≤ l.length) && decide (l.length ≤ 3) && l.all low
/-- How many letters stand ahead. -/
def lowLen : Tx → Nat
  | [] => 0
  | b :: r => if low b then lowLen r + 1 else 0
def needR (l : Tx) : NeedD × Bool := (⟨l.take (lowLen l), l.drop (lowLen l)⟩, isNameR (l.take (lowLen l)) && isRangeR (l.drop (lowLen l)))
/-- Where a need goes among others, sought from the end of the first k. -/
def insPos (x : NeedD) (out : List NeedD) : Nat → Nat
  | 0 => 0
  | k + 1 => if less x.name ((out.getD k ⟨[], []⟩).name) then insPos x out k else k + 1
def insR (x : NeedD) (out : List NeedD) : List NeedD := out.take (insPos x out out.length) ++ [x] ++ out.drop (insPos x out out.length)
def sortGo (out : List NeedD) : List NeedD → List NeedD
  | [] => out
  | x :: r => sortGo (insR x out) r
def sortedR (l : List NeedD) : List NeedD := sortGo [] l
def needsGo (acc : List NeedD) : List Tx → Option (List NeedD)
  | [] => some acc
  | t :: r => if (needR t).2 = true then needsGo (acc ++ [(needR t).1]) r else none
def needsR (s : Tx) : Option (List NeedD) := needsGo [] (splitL 44 s)
/-- A text at its first byte n. -/
def cutR (n : Int) : Tx → Tx × Tx × Bool
  | [] => ([], [], false)
  | b :: r => if (b.toNat : Int) = n then ([], r, true) else (b :: (cutR n r).1, (cutR n r).2.1, (cutR n r).2.2)

/-- The needs behind ':' of an entry, and whether they are needs. -/
def tailR (s : Tx) : List NeedD × Bool := match needsR s with
  | none => ([], false)
  | some l => (sortedR l, decide (l.length ≤ 6))
def entryR (s : Tx) : EntryD × Bool :=
  if (cutR 58 s).2.2 = true then
    (⟨(cutR 64 (cutR 58 s).1).1, (versionR (cutR 64 (cutR 58 s).1).2.1).1, (tailR (cutR 58 s).2.1).1⟩,
      (cutR 64 (cutR 58 s).1).2.2 && (versionR (cutR 64 (cutR 58 s).1).2.1).2 && (isNameR (cutR 64 (cutR 58 s).1).1 && (tailR (cutR 58 s).2.1).2))
  else
    (⟨(cutR 64 (cutR 58 s).1).1, (versionR (cutR 64 (cutR 58 s).1).2.1).1, []⟩,
      (cutR 64 (cutR 58 s).1).2.2 && (versionR (cutR 64 (cutR 58 s).1).2.1).2 && isNameR (cutR 64 (cutR 58 s).1).1)
def stockGo (acc : List EntryD) : List Tx → Option (List EntryD)
  | [] => some acc
  | t :: r => if (entryR t).2 = true then stockGo (acc ++ [(entryR t).1]) r else none
def stockR (s : Tx) : Option (List EntryD) := if s = [] then some [] else match stockGo [] (splitL 59 s) with
  | none => none
  | some l => if l.length ≤ 40 then some l else none
def sameE (e f : EntryD) : Bool := decide (e.name = f.name) && eq3 e.v f.v
def twiceN (pre : List NeedD) : List NeedD → Bool
  | [] => false
  | n :: r => (pre.any fun m => decide (m.name = n.name)) || twiceN (pre ++ [n]) r
def againGo (pre : List EntryD) : List EntryD → Bool
  | [] => false
  | e :: r => (pre.any fun f => sameE f e) || (twiceN [] e.needs || againGo (pre ++ [e]) r)
def againR (l : List EntryD) : Bool := againGo [] l
def newR (s : Tx) : Option (List EntryD) × Int := if 4000 < s.length then (none, 4) else match stockR s with
  | none => (none, 5)
  | some l => if againR l = true then (none, 6) else (some l, 0)

/-! ### trees -/
def isEnd (p : Tx) (i : Nat) : Bool := decide (i = p.length) || (decide (i = 0) || decide (p.getD i 0 = 47))
/-- The folders of a path, from i outwards. -/
def foldersGo (p : Tx) : Nat → List Tx
  | 0 => if isEnd p 0 then [p.take 0] else []
  | i + 1 => if isEnd p (i + 1) then p.take (i + 1) :: foldersGo p i else foldersGo p i
def foldersR (p : Tx) : List Tx := foldersGo p p.length
def joinR (p n : Tx) : Tx := if p = [] then n else p ++ [47] ++ n
/-- The index of the first package at a path. -/
def atGo (path : Tx) (i : Nat) : List PackD → Option Nat
  | [] => none
  | p :: r => if p.path = path then some i else atGo path (i + 1) r
def atR (l : List PackD) (path : Tx) : Option Nat := atGo path 0 l
def findGo (l : List PackD) (name : Tx) : List Tx → Option Nat
  | [] => none
  | f :: r => match atR l (joinR f name) with
    | some k => some k
    | none => findGo l name r
def findR (l : List PackD) (path name : Tx) : Option Nat := findGo l name (foldersR path)
def verOf (st : List EntryD) (k : Nat) : V3 := (st.getD k ⟨[], ⟨0, 0, 0⟩, []⟩).v
def needsOf (st : List EntryD) (k : Nat) : List NeedD := (st.getD k ⟨[], ⟨0, 0, 0⟩, []⟩).needs
def packAt (l : List PackD) (k : Nat) : PackD := l.getD k ⟨[], 0⟩
def metR (st : List EntryD) (l : List PackD) (w : WhoD) : Bool := match findR l w.path w.n.name with
  | none => false
  | some k => fitR w.n.rng (verOf st (packAt l k).of)
def allR (st : List EntryD) (needs : List NeedD) (l : List PackD) : List WhoD :=
  (needs.map fun n => ⟨[], n⟩) ++ l.flatMap fun p => (needsOf st p.of).map fun n => ⟨p.path, n⟩
def allMetR (st : List EntryD) (l : List PackD) (who : List WhoD) : Bool := who.all fun w => metR st l w
def hasR (l : List Tx) (p : Tx) : Bool := l.any fun x => decide (x = p)
/-- One pass of inUse: who counts adds what is found. -/
def passGo (l : List PackD) (used : List Tx) (more : Bool) : List WhoD → List Tx × Bool
  | [] => (used, more)
  | w :: r =>
    if (decide (w.path = []) || hasR used w.path) = true then
      match findR l w.path w.n.name with
      | none => passGo l used more r
      | some k => if hasR used (packAt l k).path = true then passGo l used more r else passGo l (used ++ [(packAt l k).path]) true r
    else passGo l used more r
def useGo (l : List PackD) (who : List WhoD) : Nat → List Tx → List Tx
  | 0, used => used
  | f + 1, used => if (passGo l used false who).2 = true then useGo l who f (passGo l used false who).1 else (passGo l used false who).1
def inUseR (st : List EntryD) (needs : List NeedD) (l : List PackD) : List Tx := useGo l (allR st needs l) (l.length + 1) []
def placedGo (p : PackD) (done : Bool) : List PackD → List PackD
  | [] => if done = true then [] else [p]
  | x :: r => if done = false ∧ less p.path x.path = true then p :: x :: placedGo p true r else x :: placedGo p done r
def placedR (l : List PackD) (p : PackD) : List PackD := placedGo p false l
def prunedGo (used : List Tx) (out : List PackD) : List PackD → List PackD
  | [] => out
  | p :: r => if hasR used p.path = true then prunedGo used (placedR out p) r else prunedGo used out r
def prunedR (st : List EntryD) (needs : List NeedD) (l : List PackD) : List PackD := prunedGo (inUseR st needs l) [] l
def favouredR (l : List PackD) (k : Nat) : Bool := l.any fun p => decide (p.of = k)
def greatGo (n : NeedD) (liked : Bool) (tree : List PackD) (st : List EntryD) (best : Option Nat) (i : Nat) : List EntryD → Option Nat
  | [] => best
  | e :: r =>
    if (decide (e.name = n.name) && fitR n.rng e.v) = true ∧ ((!liked) || favouredR tree i) = true ∧ (match best with | none => true | some b => belowB (verOf st b).a (verOf st b).b (verOf st b).c e.v.a e.v.b e.v.c) = true
    then greatGo n liked tree st (some i) (i + 1) r else greatGo n liked tree st best (i + 1) r
def greatestR (st : List EntryD) (n : NeedD) (liked : Bool) (tree : List PackD) : Option Nat := greatGo n liked tree st none 0 st
def chooseR (st : List EntryD) (n : NeedD) (tree : List PackD) : Option Nat := match greatestR st n true tree with
  | some k => some k
  | none => greatestR st n false tree
/-- lay: the folders are tried from the outermost on. -/
def layGo (st : List EntryD) (l : List PackD) (w : WhoD) (k : Nat) (done : List WhoD) : List Tx → List PackD
  | [] => l
  | f :: r =>
    if atR l (joinR f w.n.name) = none ∧ findR (l ++ [⟨joinR f w.n.name, k⟩]) w.path w.n.name = some l.length ∧ allMetR st (l ++ [⟨joinR f w.n.name, k⟩]) done = true
    then l ++ [⟨joinR f w.n.name, k⟩] else layGo st l w k done r
def layR (st : List EntryD) (l : List PackD) (w : WhoD) (k : Nat) (done : List WhoD) : List PackD := layGo st l w k done (foldersR w.path).reverse
/-- build: with fuel (at most 40 packages, so the list of those who need ends). -/
def buildGo (st : List EntryD) (tree : List PackD) : Nat → List PackD → List WhoD → List WhoD → Option (List PackD) × Int
  | 0, _, _, _ => (none, 9)
  | _ + 1, l, _, [] => (some l, 0)
  | f + 1, l, done, w :: todo =>
    if metR st l w = true then buildGo st tree f l (done ++ [w]) todo else
    match chooseR st w.n tree with
    | none => (none, 8)
    | some k => if 40 ≤ l.length then (none, 9) else
      buildGo st tree f (layR st l w k done) (done ++ [w]) (todo ++ allR st [] ((layR st l w k done).drop ((layR st l w k done).length - 1)))
def buildR (st : List EntryD) (needs : List NeedD) (tree : List PackD) : Option (List PackD) × Int := match buildGo st tree 1000 [] [] (allR st needs []) with
  | (none, e) => (none, e)
  | (some l, _) => (some (prunedR st needs l), 0)
def restR (l : List NeedD) (name : Tx) : List NeedD := l.filter fun n => !decide (n.name = name)
/-- A site: its stock, its needs, its packages. -/
structure SiteD where
  stock : List EntryD
  needs : List NeedD
  packs : List PackD
def settleR (s : SiteD) (needs : List NeedD) (tree : List PackD) : SiteD × Int := match buildR s.stock needs tree with
  | (none, e) => (s, e)
  | (some l, _) => (⟨s.stock, needs, l⟩, 0)
def addR (s : SiteD) (text : Tx) : SiteD × Int := if (needR text).2 = false then (s, 5) else
  if 6 ≤ (restR s.needs (needR text).1.name).length then (s, 7) else settleR s (sortedR (restR s.needs (needR text).1.name ++ [(needR text).1])) s.packs
def dropR (s : SiteD) (name : Tx) : SiteD × Int := if (restR s.needs name).length = s.needs.length then (s, 3) else settleR s (restR s.needs name) s.packs
def updateR (s : SiteD) : SiteD × Int := settleR s s.needs []
def neededGo : Bool → List NeedD → Tx
  | _, [] => []
  | first, n :: r => (if first = true then [] else [44]) ++ n.name ++ n.rng ++ neededGo false r
def neededR (s : SiteD) : Tx := neededGo true s.needs

end Hst
end Go.Proofs.YtecocheolbkneaaDoor
namespace Go.Proofs.YtecocheolbkneaaDoor
open Go.RowKit
namespace Hst

theorem flat_len {α : Type} (f : α → List Value) (k : Nat) (hk : ∀ x, (f x).length = k) : ∀ l : List α, (l.flatMap f).length = l.length * k
  | [] => by simp
  | x :: r => by
    have := flat_len f k hk r
    simp only [List.flatMap_cons, List.length_append, List.length_cons, hk x, this]
    rw [Nat.add_mul, Nat.one_mul, Nat.add_comm]
theorem flat_at {α : Type} (f : α → List Value) (k : Nat) (hk : ∀ x, (f x).length = k) : ∀ (l : List α) (i j : Nat) (hi : i < l.length), j < k → (l.flatMap f)[i * k + j]? = (f l[i])[j]?
  | [], i, j, hi, _ => by simp at hi
  | x :: r, 0, j, _, hj => by
    simp only [List.flatMap_cons, Nat.zero_mul, Nat.zero_add, List.getElem_cons_zero]
    rw [List.getElem?_append_left (by rw [hk x]; exact hj)]
  | x :: r, i + 1, j, hi, hj => by
    have ih := flat_at f k hk r i j (by simpa using hi) hj
    simp only [List.flatMap_cons, List.getElem_cons_succ]
    rw [List.getElem?_append_right (by rw [hk x, Nat.add_mul]; omega), hk x, ← ih]
    congr 1
    rw [Nat.add_mul]; omega

/-- What a slice of n elements, of 'size' cells each, shows. -/
structure RowR (w : World) (a : Option Addr) (n cap size : Nat) (cs : List Value) : Prop where
  len : cs.length = n * size
  cap : n ≤ cap
  at' : 0 < n → ∃ g o, a = some ⟨g, o, none⟩ ∧ g < w.heap.size ∧ ∀ i, i < n * size → w.cell? ⟨g, o + i, none⟩ = cs[i]?

theorem RowR.below {w w' : World} {a : Option Addr} {n cap size : Nat} {cs : List Value} (h : RowR w a n cap size cs) (hb : Below w.heap.size w w') : RowR w' a n cap size cs :=
  ⟨h.len, h.cap, fun hn => by
    obtain ⟨g, o, ha, hg, hc⟩ := h.at' hn
    exact ⟨g, o, ha, Nat.lt_of_lt_of_le hg hb.size, fun i hi => by rw [(bcell hb).1 _ _ hg]; exact hc i hi⟩⟩
theorem RowR.grown {w w' : World} {a : Option Addr} {n cap size b : Nat} {cs : List Value} (h : RowR w a n cap size cs) (hg : w.grownBy w' (some b)) (hne : ∀ g o, a = some ⟨g, o, none⟩ → b ≠ g) : RowR w' a n cap size cs :=
  ⟨h.len, h.cap, fun hn => by
    obtain ⟨g, o, ha, hlt, hc⟩ := h.at' hn
    refine ⟨g, o, ha, Nat.lt_of_lt_of_le hlt hg.size, fun i hi => ?_⟩
    rw [hg.cell_far ⟨g, o + i, none⟩ hlt (by simp; exact fun e => hne g o ha e.symm)]
    exact hc i hi⟩
theorem RowR.of_own {w : World} {base e size n cap : Nat} {a : Option Addr} {xs : List Value} (h : w.ownsRow base e size (.slice a n cap) n xs) : RowR w a n cap size xs := by
  obtain ⟨h1, h2⟩ := h
  rcases h2 with ⟨h2, h3⟩ | ⟨g, cap', cur, hv, hg, hh, hc, _, _, _⟩
  · simp at h2
    obtain ⟨rfl, rfl, rfl⟩ := h2
    exact ⟨h1, Nat.le_refl _, fun h => by omega⟩
  · simp at hv
    obtain ⟨rfl, rfl⟩ := hv
    refine ⟨h1, hc, fun _ => ⟨g, 0, rfl, lt_of_block hh, fun i hi => ?_⟩⟩
    have h' : w.ownsRow base e size (.slice (some ⟨g, 0, none⟩) n cap) n xs := ⟨h1, .inr ⟨g, cap, cur, rfl, hg, hh, hc, by assumption, by assumption, by assumption⟩⟩
    rw [Nat.zero_add]
    exact h'.cellAt i hi
/-- The slice value that a call has made: it is a slice. -/
theorem own_slice {w : World} {base e size n : Nat} {v : Value} {xs : List Value} (h : w.ownsRow base e size v n xs) : ∃ a cap, v = .slice a n cap := by
  obtain ⟨_, h2⟩ := h
  rcases h2 with ⟨h2, h3⟩ | ⟨g, cap', cur, hv, _⟩
  · subst h3; exact ⟨none, 0, h2⟩
  · exact ⟨_, _, hv⟩

/-! ### the cells of each kind of element -/
def needC (n : NeedD) : List Value := [.string (bs n.name), .string (bs n.rng)]
def packC (p : PackD) : List Value := [.string (bs p.path), .int .i64 p.of]
def whoC (x : WhoD) : List Value := [.string (bs x.path), .string (bs x.n.name), .string (bs x.n.rng)]
def strC (t : Tx) : List Value := [.string (bs t)]

end Hst
end Go.Proofs.YtecocheolbkneaaDoor
namespace Go.Proofs.YtecocheolbkneaaDoor
open Go.RowKit
namespace Hst
set_option maxRecDepth 100000

set_option maxHeartbeats 1000000 in
theorem kpick_any (c : Int) (n : Nat) (w : World) (h : Raw c) (hn : 0 < n) (hn2 : n ≤ 9223372036854775807) :
    Calls Tryd.prog 22 #[.int .i64 c, .int .i64 n] w fun e w' => e = .returned (.int .i64 (pickZ c n)) ∧ w' = w := by
  have h0 := h.1
  have h1 := h.2
  unfold pickZ
  by_cases hc : c < 0
  · rw [if_pos hc]
    have HE : Hid (-((c + 1).tmod (n : Int)) = (((-(c + 1)) % (n : Int)).toNat : Int)) := by
      unfold Hid
      have b0 := Int.emod_nonneg (-(c + 1)) (b := (n : Int)) (by omega)
      rw [Int.toNat_of_nonneg b0, ← Int.neg_tmod, Int.tmod_eq_emod_of_nonneg (by omega)]
    go_enter Tryd.func22, Tryd.ntmps22
    go_wp2
    go_ret
    exact ⟨ret_int HE.out, rfl⟩
  · rw [if_neg hc]
    have HE : Hid (c % (n : Int) = ((c % (n : Int)).toNat : Int)) := by
      unfold Hid
      rw [Int.toNat_of_nonneg (Int.emod_nonneg c (b := (n : Int)) (by omega))]
    generalize (c % (n : Int)).toNat = z at *
    go_enter Tryd.func22, Tryd.ntmps22
    go_wp2
    go_ret
    exact ⟨ret_int HE.out, rfl⟩

theorem eight {j : Nat} (h : j < 8) : j = 0 ∨ j = 1 ∨ j = 2 ∨ j = 3 ∨ j = 4 ∨ j = 5 ∨ j = 6 ∨ j = 7 := by omega

set_option maxHeartbeats 4000000 in
theorem names_any (k : Int) (w : World) (h : Raw k) :
    Calls Tryd.prog 24 #[.int .i64 k] w fun e w' => e = .returned (.string (bs (nameK k))) ∧ Below w.heap.size w w' := by
  have HP := hid' (fun w => kpick_any k 8 w h (by omega) (by omega))
  have hj := pickZ_lt k (n := 8) (by omega)
  unfold nameK
  generalize pickZ k 8 = j at *
  have HB := hid' (Below.refl w.heap.size w)
  clear h
  go_enter Tryd.func24, Tryd.ntmps24
  go_wp2_with fail
  refine (HP.out _).mono ?_
  rintro e w' ⟨rfl, hw⟩
  subst hw
  have hbe := HB.out.alloc (Nat.le_refl _) (.cells #[.string ⟨#[97]⟩, .string ⟨#[98]⟩, .string ⟨#[99]⟩, .string ⟨#[100]⟩, .string ⟨#[101, 102]⟩, .string ⟨#[120, 121, 122]⟩, .string ⟨#[98]⟩, .string ⟨#[99]⟩] 9)
  rcases eight hj with rfl | rfl | rfl | rfl | rfl | rfl | rfl | rfl <;>
  · clear hj
    go_wp2
    go_ret
    exact ⟨rfl, hbe⟩

set_option maxHeartbeats 1000000 in
theorem number_any (a b : Int) (w : World) (ha : Raw a) (hb : Raw b) :
    Calls Tryd.prog 52 #[.int .i64 a, .int .i64 b] w fun e w' => e = .returned (.string (bs (numberK a b))) ∧ w' = w := by
  have HP1 := hid' (fun w => kpick_any a 3 w ha (by omega) (by omega))
  have HP2 := hid' (fun w => kpick_any b 3 w hb (by omega) (by omega))
  have HI1 := hid' (fun w => itoa_nat (pickZ a 3) w (by have := pickZ_lt a (n := 3) (by omega); omega))
  have HI2 := hid' (fun w => itoa_nat (pickZ b 3) w (by have := pickZ_lt b (n := 3) (by omega); omega))
  have HE : Hid (bs (numT (pickZ a 3)) ++ bs [46] ++ bs (numT (pickZ b 3)) ++ bs [46, 48] = bs (numberK a b)) := by
    unfold Hid; rw [bs_append, bs_append, bs_append]; rfl
  have l1 : (bs (numT (pickZ a 3))).size ≤ 2 := by rw [bs_size]; exact numT_len _
  have l2 : (bs (numT (pickZ b 3))).size ≤ 2 := by rw [bs_size]; exact numT_len _
  generalize bs (numberK a b) = q at *
  generalize bs (numT (pickZ a 3)) = q1 at *
  generalize bs (numT (pickZ b 3)) = q2 at *
  generalize pickZ a 3 = na at *
  generalize pickZ b 3 = nb at *
  clear ha hb
  go_enter Tryd.func52, Tryd.ntmps52
  go_wp2_with fail
  refine (HP1.out _).mono ?_
  rintro e w' ⟨rfl, rfl⟩
  go_wp2_with fail
  refine (HI1.out _).mono ?_
  rintro e w' ⟨rfl, rfl⟩
  go_wp2_with fail
  refine (HP2.out _).mono ?_
  rintro e w' ⟨rfl, rfl⟩
  go_wp2_with fail
  refine (HI2.out _).mono ?_
  rintro e w' ⟨rfl, rfl⟩
  go_wp2
  go_ret
  exact ⟨ret_str HE.out, rfl⟩

theorem cut8 {w : World} {cs : Array Value} {t : TypeId} : Below w.heap.size w (w.alloc (.cells cs t)) := (Below.refl w.heap.size w).alloc (Nat.le_refl _) _
abbrev wantV (x : WantX) : Value := .agg #[.int .i64 x.name, .int .i64 x.sign, .int .i64 x.major, .int .i64 x.minor]


theorem rk_star {x : WantX} (h : pickZ x.sign 8 = 0) : rngK x = [42] := by unfold rngK; rw [if_pos h]
theorem rk_sign {x : WantX} (h : ¬ pickZ x.sign 8 = 0) : rngK x = signT (pickZ x.sign 8) ++ numberK x.major x.minor := by unfold rngK; rw [if_neg h]

set_option maxHeartbeats 4000000 in
theorem rng_any (x : WantX) (w : World) (h : WantOk x) :
    Calls Tryd.prog 25 #[wantV x] w fun e w' => e = .returned (.string (bs (rngK x))) ∧ Below w.heap.size w w' := by
  have HP := hid' (fun w => kpick_any x.sign 8 w h.sign (by omega) (by omega))
  have HN := hid' (fun w => number_any x.major x.minor w h.major h.minor)
  have HNL : (bs (numberK x.major x.minor)).size ≤ 7 := by rw [bs_size]; exact numberK_len _ _
  have hj := pickZ_lt x.sign (n := 8) (by omega)
  have H0 := hid' (rk_star (x := x))
  have H1 := hid' (rk_sign (x := x))
  have HB := hid' (((Below.refl w.heap.size w).alloc (Nat.le_refl _) (.cells #[.int .i64 x.name, .int .i64 x.sign, .int .i64 x.major, .int .i64 x.minor] 52)).alloc (by simp) (.cells #[.string ⟨#[42]⟩, .string ⟨#[94]⟩, .string ⟨#[94]⟩, .string ⟨#[61]⟩, .string ⟨#[62, 61]⟩, .string ⟨#[60, 61]⟩, .string ⟨#[126]⟩, .string ⟨#[60]⟩] 9))
  have HE : Hid (∀ t : Tx, bs t ++ bs (numberK x.major x.minor) = bs (t ++ numberK x.major x.minor)) := fun t => bs_append _ _
  generalize rngK x = res at *
  generalize numberK x.major x.minor = nk at *
  generalize pickZ x.sign 8 = j at *
  obtain ⟨xn, xs, xa, xi⟩ := x
  simp only at HP HN HB
  clear h
  go_enter Tryd.func25, Tryd.ntmps25
  go_wp2_with fail
  refine (HP.out _).mono ?_
  rintro e w' ⟨rfl, hw⟩
  subst hw
  rcases eight hj with rfl | rfl | rfl | rfl | rfl | rfl | rfl | rfl
  · have HF := hid' (H0.out rfl)
    clear hj H0 H1
    go_wp2
    go_ret
    exact ⟨by rw [HF.out]; rfl, HB.out⟩
  · have HF := hid' (H1.out (by omega))
    have HG : Hid (bs [94] ++ bs nk = bs res) := by unfold Hid; rw [HF.out]; exact HE.out _
    clear hj H0 H1 HF HE
    generalize bs nk = q at *
    go_wp2
    have m1 : ¬ (9223372036854775807 < 1 + q.size) := by omega
    have m2 : ¬ (9223372036854775807 < (⟨#[94]⟩ : ByteArray).size + q.size) := by show ¬ (9223372036854775807 < 1 + q.size); omega
    go_region_held3 (fun w' => w'.cell? ⟨w.heap.size, 2, none⟩ = some (.int .i64 xa) ∧ w'.cell? ⟨w.heap.size, 3, none⟩ = some (.int .i64 xi) ∧ w'.cell? ⟨w.heap.size + 1, 1, none⟩ = some (.string ⟨#[94]⟩)) (go_keep) (first | (go_at_call 52; refine (HN.out _).mono ?_; rintro e w1 ⟨rfl, rfl⟩))
    go_wp2
    go_ret
    exact ⟨ret_str HG.out, HB.out.drew⟩
  · have HF := hid' (H1.out (by omega))
    have HG : Hid (bs [94] ++ bs nk = bs res) := by unfold Hid; rw [HF.out]; exact HE.out _
    clear hj H0 H1 HF HE
    generalize bs nk = q at *
    go_wp2
    have m1 : ¬ (9223372036854775807 < 1 + q.size) := by omega
    have m2 : ¬ (9223372036854775807 < (⟨#[94]⟩ : ByteArray).size + q.size) := by show ¬ (9223372036854775807 < 1 + q.size); omega
    go_region_held3 (fun w' => w'.cell? ⟨w.heap.size, 2, none⟩ = some (.int .i64 xa) ∧ w'.cell? ⟨w.heap.size, 3, none⟩ = some (.int .i64 xi) ∧ w'.cell? ⟨w.heap.size + 1, 2, none⟩ = some (.string ⟨#[94]⟩)) (go_keep) (first | (go_at_call 52; refine (HN.out _).mono ?_; rintro e w1 ⟨rfl, rfl⟩))
    go_wp2
    go_ret
    exact ⟨ret_str HG.out, HB.out.drew⟩
  · have HF := hid' (H1.out (by omega))
    have HG : Hid (bs [61] ++ bs nk = bs res) := by unfold Hid; rw [HF.out]; exact HE.out _
    clear hj H0 H1 HF HE
    generalize bs nk = q at *
    go_wp2
    have m1 : ¬ (9223372036854775807 < 1 + q.size) := by omega
    have m2 : ¬ (9223372036854775807 < (⟨#[61]⟩ : ByteArray).size + q.size) := by show ¬ (9223372036854775807 < 1 + q.size); omega
    go_region_held3 (fun w' => w'.cell? ⟨w.heap.size, 2, none⟩ = some (.int .i64 xa) ∧ w'.cell? ⟨w.heap.size, 3, none⟩ = some (.int .i64 xi) ∧ w'.cell? ⟨w.heap.size + 1, 3, none⟩ = some (.string ⟨#[61]⟩)) (go_keep) (first | (go_at_call 52; refine (HN.out _).mono ?_; rintro e w1 ⟨rfl, rfl⟩))
    go_wp2
    go_ret
    exact ⟨ret_str HG.out, HB.out.drew⟩
  · have HF := hid' (H1.out (by omega))
    have HG : Hid (bs [62, 61] ++ bs nk = bs res) := by unfold Hid; rw [HF.out]; exact HE.out _
    clear hj H0 H1 HF HE
    generalize bs nk = q at *
    go_wp2
    have m1 : ¬ (9223372036854775807 < 2 + q.size) := by omega
    have m2 : ¬ (9223372036854775807 < (⟨#[62, 61]⟩ : ByteArray).size + q.size) := by show ¬ (9223372036854775807 < 2 + q.size); omega
    go_region_held3 (fun w' => w'.cell? ⟨w.heap.size, 2, none⟩ = some (.int .i64 xa) ∧ w'.cell? ⟨w.heap.size, 3, none⟩ = some (.int .i64 xi) ∧ w'.cell? ⟨w.heap.size + 1, 4, none⟩ = some (.string ⟨#[62, 61]⟩)) (go_keep) (first | (go_at_call 52; refine (HN.out _).mono ?_; rintro e w1 ⟨rfl, rfl⟩))
    go_wp2
    go_ret
    exact ⟨ret_str HG.out, HB.out.drew⟩
  · have HF := hid' (H1.out (by omega))
    have HG : Hid (bs [60, 61] ++ bs nk = bs res) := by unfold Hid; rw [HF.out]; exact HE.out _
    clear hj H0 H1 HF HE
    generalize bs nk = q at *
    go_wp2
    have m1 : ¬ (9223372036854775807 < 2 + q.size) := by omega
    have m2 : ¬ (9223372036854775807 < (⟨#[60, 61]⟩ : ByteArray).size + q.size) := by show ¬ (9223372036854775807 < 2 + q.size); omega
    go_region_held3 (fun w' => w'.cell? ⟨w.heap.size, 2, none⟩ = some (.int .i64 xa) ∧ w'.cell? ⟨w.heap.size, 3, none⟩ = some (.int .i64 xi) ∧ w'.cell? ⟨w.heap.size + 1, 5, none⟩ = some (.string ⟨#[60, 61]⟩)) (go_keep) (first | (go_at_call 52; refine (HN.out _).mono ?_; rintro e w1 ⟨rfl, rfl⟩))
    go_wp2
    go_ret
    exact ⟨ret_str HG.out, HB.out.drew⟩
  · have HF := hid' (H1.out (by omega))
    have HG : Hid (bs [126] ++ bs nk = bs res) := by unfold Hid; rw [HF.out]; exact HE.out _
    clear hj H0 H1 HF HE
    generalize bs nk = q at *
    go_wp2
    have m1 : ¬ (9223372036854775807 < 1 + q.size) := by omega
    have m2 : ¬ (9223372036854775807 < (⟨#[126]⟩ : ByteArray).size + q.size) := by show ¬ (9223372036854775807 < 1 + q.size); omega
    go_region_held3 (fun w' => w'.cell? ⟨w.heap.size, 2, none⟩ = some (.int .i64 xa) ∧ w'.cell? ⟨w.heap.size, 3, none⟩ = some (.int .i64 xi) ∧ w'.cell? ⟨w.heap.size + 1, 6, none⟩ = some (.string ⟨#[126]⟩)) (go_keep) (first | (go_at_call 52; refine (HN.out _).mono ?_; rintro e w1 ⟨rfl, rfl⟩))
    go_wp2
    go_ret
    exact ⟨ret_str HG.out, HB.out.drew⟩
  · have HF := hid' (H1.out (by omega))
    have HG : Hid (bs [60] ++ bs nk = bs res) := by unfold Hid; rw [HF.out]; exact HE.out _
    clear hj H0 H1 HF HE
    generalize bs nk = q at *
    go_wp2
    have m1 : ¬ (9223372036854775807 < 1 + q.size) := by omega
    have m2 : ¬ (9223372036854775807 < (⟨#[60]⟩ : ByteArray).size + q.size) := by show ¬ (9223372036854775807 < 1 + q.size); omega
    go_region_held3 (fun w' => w'.cell? ⟨w.heap.size, 2, none⟩ = some (.int .i64 xa) ∧ w'.cell? ⟨w.heap.size, 3, none⟩ = some (.int .i64 xi) ∧ w'.cell? ⟨w.heap.size + 1, 7, none⟩ = some (.string ⟨#[60]⟩)) (go_keep) (first | (go_at_call 52; refine (HN.out _).mono ?_; rintro e w1 ⟨rfl, rfl⟩))
    go_wp2
    go_ret
    exact ⟨ret_str HG.out, HB.out.drew⟩

end Hst
end Go.Proofs.YtecocheolbkneaaDoor
namespace Go.Proofs.YtecocheolbkneaaDoor
open Go.RowKit
namespace Hst
set_option maxRecDepth 100000

abbrev itemV (x : ItemX) : Value := .agg #[.int .i64 x.name, .int .i64 x.major, .int .i64 x.minor, x.wv]

set_option maxHeartbeats 4000000 in
theorem head_any (xn xa xi : Int) (va : Option Addr) (vn vc : Nat) (w : World) (h1 : Raw xn) (h2 : Raw xa) (h3 : Raw xi) :
    Calls Tryd.prog 43 #[.agg #[.int .i64 xn, .int .i64 xa, .int .i64 xi, .slice va vn vc]] w fun e w' => e = .returned (.string (bs (headK xn xa xi))) ∧ Below w.heap.size w w' := by
  have HN := hid' (fun w => names_any xn w h1)
  have HU := hid' (fun w => number_any xa xi w h2 h3)
  have l1 : (bs (nameK xn)).size ≤ 3 := by rw [bs_size]; exact nameK_len _
  have l2 : (bs (numberK xa xi)).size ≤ 7 := by rw [bs_size]; exact numberK_len _ _
  have HE : Hid (bs (nameK xn) ++ ⟨#[64]⟩ ++ bs (numberK xa xi) = bs (headK xn xa xi)) := by unfold Hid headK; rw [← bs_append, ← bs_append]; rfl
  have HB := hid' ((Below.refl w.heap.size w).alloc (Nat.le_refl _) (.cells #[.int .i64 xn, .int .i64 xa, .int .i64 xi, .slice va vn vc] 58))
  generalize bs (nameK xn) = q1 at *
  generalize bs (numberK xa xi) = q2 at *
  generalize bs (headK xn xa xi) = q at *
  clear h1 h2 h3
  go_enter Tryd.func43, Tryd.ntmps43
  go_wp2
  have hsz : (q1 ++ (⟨#[64]⟩ : ByteArray)).size = q1.size + 1 := by rw [ByteArray.size_append]; rfl
  have m1 : ¬ (9223372036854775807 < q1.size + (⟨#[64]⟩ : ByteArray).size) := by show ¬ (9223372036854775807 < q1.size + 1); omega
  have m2 : ¬ (9223372036854775807 < (q1 ++ (⟨#[64]⟩ : ByteArray)).size + q2.size) := by omega
  have m3 : ¬ (9223372036854775807 < q1.size + 1) := by omega
  have m4 : ¬ (9223372036854775807 < q1.size + 1 + q2.size) := by omega
  go_region_held3 (fun w' => w'.cell? ⟨w.heap.size, 0, none⟩ = some (.int .i64 xn) ∧ w'.cell? ⟨w.heap.size, 1, none⟩ = some (.int .i64 xa) ∧ w'.cell? ⟨w.heap.size, 2, none⟩ = some (.int .i64 xi)) (go_keep)
    (first | (go_at_call 24; refine (HN.out _).mono ?_; rintro e w1 ⟨rfl, hb1⟩; have hy1 := (bcell hb1).1; simp at hy1) | (go_at_call 52; refine (HU.out _).mono ?_; rintro e w2 ⟨rfl, rfl⟩))
  go_wp2
  go_ret
  exact ⟨ret_str HE.out, by first | exact (HB.out.trans ((hb1.mono (by simp)))) | exact (HB.out.drew.trans ((hb1.mono (by simp)))) | exact (HB.out.trans ((hb1.mono (by simp)))).drew⟩

theorem RowR.wants {w : World} {a : Option Addr} {n cap : Nat} {l : List WantX} (h : RowR w a n cap 4 (l.flatMap wantC)) (hn : n = l.length) {k : Nat} (hk : k < l.length) :
    ∃ g o, a = some ⟨g, o, none⟩ ∧ g < w.heap.size ∧ ∀ k (hk : k < l.length), w.cell? ⟨g, o + k * 4, none⟩ = some (.int .i64 l[k].name) ∧ w.cell? ⟨g, o + k * 4 + 1, none⟩ = some (.int .i64 l[k].sign) ∧ w.cell? ⟨g, o + k * 4 + 2, none⟩ = some (.int .i64 l[k].major) ∧ w.cell? ⟨g, o + k * 4 + 3, none⟩ = some (.int .i64 l[k].minor) := by
  obtain ⟨g, o, ha, hg, hc⟩ := h.at' (by omega)
  refine ⟨g, o, ha, hg, fun k hk => ?_⟩
  have key : ∀ i, i < 4 → w.cell? ⟨g, o + (k * 4 + i), none⟩ = (wantC l[k])[i]? := fun i hi => by
    rw [hc (k * 4 + i) (by omega), flat_at wantC 4 wantC_len l k i hk hi]
  exact ⟨key 0 (by omega), key 1 (by omega), key 2 (by omega), key 3 (by omega)⟩
theorem wt_step (l : List WantX) (k : Nat) (hk : k < l.length) : wantsT (decide (k = 0)) (l.drop k) = (if k = 0 then [58] else [44]) ++ wantT l[k] ++ wantsT (decide (k + 1 = 0)) (l.drop (k + 1)) := by
  rw [List.drop_eq_getElem_cons hk, wantsT]
  have e : decide (k + 1 = 0) = false := by simp
  rw [e]
  by_cases h : k = 0
  · simp [h]
  · simp [h]
theorem wt_end (l : List WantX) (k : Nat) (b : Bool) (hk : ¬ k < l.length) : wantsT b (l.drop k) = [] := by
  rw [List.drop_of_length_le (by omega)]; cases b <;> rfl

set_option maxHeartbeats 8000000 in
theorem entryf_any (x : ItemX) (va : Option Addr) (vc : Nat) (w : World) (hr : RowR w va x.wants.length vc 4 (x.wants.flatMap wantC)) (hl : x.wants.length ≤ 1000) (hok : ItemOk x) :
    Calls Tryd.prog 46 #[.agg #[.int .i64 x.name, .int .i64 x.major, .int .i64 x.minor, .slice va x.wants.length vc], .bool false] w fun e w' => e = .returned (.string (bs (entryK x false))) ∧ Below w.heap.size w w' := by
  have HH := hid' (fun w => head_any x.name x.major x.minor va x.wants.length vc w hok.name hok.major hok.minor)
  have HHL := hid' (headK_len x.name x.major x.minor)
  have HE : Hid (entryK x false = headK x.name x.major x.minor ++ wantsT (decide (0 = 0)) (x.wants.drop 0)) := rfl
  have HO := hid' hok.wants
  have HR := hid' hr
  generalize entryK x false = res at *
  generalize headK x.name x.major x.minor = hd at *
  obtain ⟨xn, xa, xi, xv, xw⟩ := x
  simp only at HH HE HO HR hl ⊢
  clear hr hok xv
  have hba := (Below.refl w.heap.size w).alloc (Nat.le_refl _) (.cells #[.int .i64 xn, .int .i64 xa, .int .i64 xi, .slice va xw.length vc] 58)
  have e3 : (w.alloc (.cells #[.int .i64 xn, .int .i64 xa, .int .i64 xi, .slice va xw.length vc] 58)).cell? ⟨w.heap.size, 3, none⟩ = some (.slice va xw.length vc) := by simp
  have hs : (w.alloc (.cells #[.int .i64 xn, .int .i64 xa, .int .i64 xi, .slice va xw.length vc] 58)).heap.size = w.heap.size + 1 := by simp
  go_enter Tryd.func46, Tryd.ntmps46
  go_wp2_with fail
  refine (HH.out _).mono ?_
  rintro e w1 ⟨rfl, hb1⟩
  have HB1 := hid' (hba.trans (hb1.mono (by omega)))
  have c3 := ((bcell hb1).1 w.heap.size 3 (by omega)).trans e3
  have hw1 : w.heap.size < w1.heap.size := by have := hb1.size; omega
  clear hb1 hba e3 hs
  go_wp2
  go_loopw [5, 6] (fun v i wr => ∃ (k : Nat) (acc : Tx), k ≤ xw.length ∧ acc.length ≤ 11 + 13 * k ∧ v = .string (bs acc) ∧ i = .int .i64 k ∧ Below w1.heap.size w1 wr ∧ Hid (res = acc ++ wantsT (decide (k = 0)) (xw.drop k))) (fun _ i _ => xw.length - (intOf i).toNat)
  case atStart => exact ⟨0, hd, Nat.zero_le _, by have := HHL.out; omega, rfl, rfl, Below.refl _ _, HE⟩
  case round =>
    obtain ⟨k, acc, hk, hacc, rfl, rfl, hbel, hall⟩ := hrel
    have hz := hbel.size
    have d3 := ((bcell hbel).1 w.heap.size 3 hw1).trans c3
    have hwr : w.heap.size < wr.heap.size := by omega
    have HBW := hid' (HB1.out.trans (hbel.mono (by have := HB1.out.size; omega)))
    by_cases hlt : k < xw.length
    · obtain ⟨g, o, rfl, hg, hc⟩ := (HR.out.below HBW.out).wants rfl hlt
      obtain ⟨q0, q1, q2, q3⟩ := hc k hlt
      have hxo := HO.out xw[k] (List.getElem_mem hlt)
      have HN := hid' (fun w => names_any xw[k].name w hxo.name)
      have HG := hid' (fun w => rng_any xw[k] w hxo)
      have hst := wt_step xw k hlt
      have hwl := wantT_len xw[k]
      have HF0 : Hid (k = 0 → res = (acc ++ [58] ++ nameK xw[k].name ++ rngK xw[k]) ++ wantsT (decide (k + 1 = 0)) (xw.drop (k + 1))) := fun h0 => by
        rw [hall.out, hst, if_pos h0]; simp [wantT]
      have HF1 : Hid (¬ k = 0 → res = (acc ++ [44] ++ nameK xw[k].name ++ rngK xw[k]) ++ wantsT (decide (k + 1 = 0)) (xw.drop (k + 1))) := fun h0 => by
        rw [hall.out, hst, if_neg h0]; simp [wantT]
      have HA0 : Hid (bs acc ++ ⟨#[58]⟩ ++ bs (nameK xw[k].name) ++ bs (rngK xw[k]) = bs (acc ++ [58] ++ nameK xw[k].name ++ rngK xw[k])) := by unfold Hid; rw [← bs_append, ← bs_append, ← bs_append]; rfl
      have HA1 : Hid (bs acc ++ ⟨#[44]⟩ ++ bs (nameK xw[k].name) ++ bs (rngK xw[k]) = bs (acc ++ [44] ++ nameK xw[k].name ++ rngK xw[k])) := by unfold Hid; rw [← bs_append, ← bs_append, ← bs_append]; rfl
      have HL0 : Hid ((acc ++ [58] ++ nameK xw[k].name ++ rngK xw[k]).length ≤ 11 + 13 * (k + 1)) := by unfold Hid; simp [wantT] at hwl ⊢; omega
      have HL1 : Hid ((acc ++ [44] ++ nameK xw[k].name ++ rngK xw[k]).length ≤ 11 + 13 * (k + 1)) := by unfold Hid; simp [wantT] at hwl ⊢; omega
      have s1 : (bs (nameK xw[k].name)).size ≤ 3 := by rw [bs_size]; exact nameK_len _
      have s2 : (bs (rngK xw[k])).size ≤ 9 := by rw [bs_size]; exact rngK_len _
      have s0 : (bs acc).size ≤ 13011 := by rw [bs_size]; omega
      clear hst hwl hall hxo hc
      generalize acc ++ [58] ++ nameK xw[k].name ++ rngK xw[k] = nx0 at *
      generalize acc ++ [44] ++ nameK xw[k].name ++ rngK xw[k] = nx1 at *
      generalize bs (nameK xw[k].name) = b1 at *
      generalize bs (rngK xw[k]) = b2 at *
      generalize xw[k] = y at *
      obtain ⟨yn, ys, ya, yi⟩ := y
      simp only at q0 q1 q2 q3 HN HG
      generalize bs acc = ba at *
      have k0 : (0 : Int) ≤ (k : Int) := by omega
      have k1 : (k : Int) < (xw.length : Int) := by omega
      by_cases h0 : k = 0
      · have HF := hid' (HF0.out h0)
        subst h0
        simp only [Nat.zero_mul, Nat.add_zero] at q0 q1 q2 q3
        clear HF0 HF1 HA1 HL1
        have hba := (Below.refl wr.heap.size wr).alloc (Nat.le_refl _) (.cells #[.int .i64 yn, .int .i64 ys, .int .i64 ya, .int .i64 yi] 52)
        go_wp2
        have m0 : (ba ++ (⟨#[58]⟩ : ByteArray)).size = ba.size + 1 := by rw [ByteArray.size_append]; rfl
        have m00 : (ba ++ (⟨#[58]⟩ : ByteArray) ++ b1).size = ba.size + 1 + b1.size := by rw [ByteArray.size_append, m0]
        have m1 : ¬ (9223372036854775807 < ba.size + (⟨#[58]⟩ : ByteArray).size) := by show ¬ (9223372036854775807 < ba.size + 1); omega
        have m2 : ¬ (9223372036854775807 < (ba ++ (⟨#[58]⟩ : ByteArray)).size + b1.size) := by omega
        have m3 : ¬ (9223372036854775807 < (ba ++ (⟨#[58]⟩ : ByteArray) ++ b1).size + b2.size) := by omega
        have m4 : ¬ (9223372036854775807 < ba.size + 1) := by omega
        have m5 : ¬ (9223372036854775807 < ba.size + 1 + b1.size) := by omega
        have m6 : ¬ (9223372036854775807 < ba.size + 1 + b1.size + b2.size) := by omega
        clear m0 m00
        go_region_held3 (fun w' => w'.cell? ⟨wr.heap.size, 0, none⟩ = some (.int .i64 yn) ∧ w'.cell? ⟨wr.heap.size, 1, none⟩ = some (.int .i64 ys) ∧ w'.cell? ⟨wr.heap.size, 2, none⟩ = some (.int .i64 ya) ∧ w'.cell? ⟨wr.heap.size, 3, none⟩ = some (.int .i64 yi)) (go_keep)
          (first | (go_at_call 24; refine (HN.out _).mono ?_; rintro e w2 ⟨rfl, hb2⟩; have hy2 := (bcell hb2).1; simp at hy2; have hz2 := hb2.size; simp at hz2) | (go_at_call 25; refine (HG.out _).mono ?_; rintro e w3 ⟨rfl, hb3⟩; have hy3 := (bcell hb3).1; have hz3 := hb3.size; have z0 := hy3 wr.heap.size 0 (by omega); have z1 := hy3 wr.heap.size 1 (by omega); have z2 := hy3 wr.heap.size 2 (by omega); have z3 := hy3 wr.heap.size 3 (by omega)))
        have HBF := hid' (hbel.trans (((hba.drew.trans (hb2.mono (by simp))).trans (hb3.mono (by omega))).mono hz))
        clear hb2 hb3 hy2 hy3 hba z0 z1 z2 z3
        go_wp2
        go_roundw
        case rel => exact ⟨0 + 1, nx0, by omega, HL0.out, by rw [HA0.out], by go_num, HBF.out, HF⟩
        case measure => simp [intOf] <;> omega
      · have HF := hid' (HF1.out h0)
        have hk0 : ((k : Int) == 0) = false := by simp [h0]
        clear HF0 HF1 HA0 HL0
        have hba := (Below.refl wr.heap.size wr).alloc (Nat.le_refl _) (.cells #[.int .i64 yn, .int .i64 ys, .int .i64 ya, .int .i64 yi] 52)
        go_wp2
        have m0 : (ba ++ (⟨#[44]⟩ : ByteArray)).size = ba.size + 1 := by rw [ByteArray.size_append]; rfl
        have m00 : (ba ++ (⟨#[44]⟩ : ByteArray) ++ b1).size = ba.size + 1 + b1.size := by rw [ByteArray.size_append, m0]
        have m1 : ¬ (9223372036854775807 < ba.size + (⟨#[44]⟩ : ByteArray).size) := by show ¬ (9223372036854775807 < ba.size + 1); omega
        have m2 : ¬ (9223372036854775807 < (ba ++ (⟨#[44]⟩ : ByteArray)).size + b1.size) := by omega
        have m3 : ¬ (9223372036854775807 < (ba ++ (⟨#[44]⟩ : ByteArray) ++ b1).size + b2.size) := by omega
        have m4 : ¬ (9223372036854775807 < ba.size + 1) := by omega
        have m5 : ¬ (9223372036854775807 < ba.size + 1 + b1.size) := by omega
        have m6 : ¬ (9223372036854775807 < ba.size + 1 + b1.size + b2.size) := by omega
        clear m0 m00
        go_region_held3 (fun w' => w'.cell? ⟨wr.heap.size, 0, none⟩ = some (.int .i64 yn) ∧ w'.cell? ⟨wr.heap.size, 1, none⟩ = some (.int .i64 ys) ∧ w'.cell? ⟨wr.heap.size, 2, none⟩ = some (.int .i64 ya) ∧ w'.cell? ⟨wr.heap.size, 3, none⟩ = some (.int .i64 yi)) (go_keep)
          (first | (go_at_call 24; refine (HN.out _).mono ?_; rintro e w2 ⟨rfl, hb2⟩; have hy2 := (bcell hb2).1; simp at hy2; have hz2 := hb2.size; simp at hz2) | (go_at_call 25; refine (HG.out _).mono ?_; rintro e w3 ⟨rfl, hb3⟩; have hy3 := (bcell hb3).1; have hz3 := hb3.size; have z0 := hy3 wr.heap.size 0 (by omega); have z1 := hy3 wr.heap.size 1 (by omega); have z2 := hy3 wr.heap.size 2 (by omega); have z3 := hy3 wr.heap.size 3 (by omega)))
        have HBF := hid' (hbel.trans (((hba.drew.trans (hb2.mono (by simp))).trans (hb3.mono (by omega))).mono hz))
        clear hb2 hb3 hy2 hy3 hba z0 z1 z2 z3
        go_wp2
        go_roundw
        case rel => exact ⟨k + 1, nx1, by omega, HL1.out, by rw [HA1.out], by go_num, HBF.out, HF⟩
        case measure => simp [intOf] <;> omega
    · have HF : Hid (res = acc) := by unfold Hid; rw [hall.out, wt_end xw k _ hlt]; simp
      go_wp2
      go_ret
      exact ⟨ret_str (by rw [HF.out]), HBW.out⟩

end Hst
end Go.Proofs.YtecocheolbkneaaDoor
namespace Go.Proofs.YtecocheolbkneaaDoor
namespace Hst
set_option maxRecDepth 100000

def vtx (v : V3) : Tx := verT v.a.toNat v.b.toNat v.c.toNat
def textGo (st : List EntryD) : Bool → List PackD → Tx
  | _, [] => []
  | first, p :: r => (if first = true then [] else [59]) ++ p.path ++ [64] ++ vtx (verOf st p.of) ++ textGo st false r
def textR (st : List EntryD) (l : List PackD) : Tx := textGo st true l
theorem txg_next (st : List EntryD) (l : List PackD) (k : Nat) (h : k < l.length) (b : Bool) : textGo st b (l.drop k) = (if b = true then [] else [59]) ++ l[k].path ++ [64] ++ vtx (verOf st l[k].of) ++ textGo st false (l.drop (k + 1)) := by
  rw [List.drop_eq_getElem_cons h]; rfl
theorem txg_end (st : List EntryD) (l : List PackD) (k : Nat) (h : ¬ k < l.length) (b : Bool) : textGo st b (l.drop k) = [] := by
  rw [List.drop_of_length_le (by omega)]; cases b <;> rfl
def V3Ok (v : V3) : Prop := (0 ≤ v.a ∧ v.a ≤ 99) ∧ (0 ≤ v.b ∧ v.b ≤ 99) ∧ (0 ≤ v.c ∧ v.c ≤ 99)
/-- What Look answers, by the document. -/
def lookR (l : List PackD) (path name : Tx) : Tx × Int :=
  if (decide (0 < path.length) && (atR l path).isNone) = true then ([], 10) else if isNameR name = false then ([], 11) else match findR l path name with
  | none => ([], 3)
  | some k => ((packAt l k).path, 0)
theorem lkd_path {l : List PackD} {path name : Tx} (h0 : 0 < path.length) (h : atR l path = none) : lookR l path name = ([], 10) := by unfold lookR; rw [if_pos (by simp [h0, h])]
theorem lkd_name {l : List PackD} {path name : Tx} (h : (decide (0 < path.length) && (atR l path).isNone) = false) (h' : isNameR name = false) : lookR l path name = ([], 11) := by unfold lookR; rw [if_neg (by rw [h]; simp), if_pos h']
theorem lkd_find {l : List PackD} {path name : Tx} (h : (decide (0 < path.length) && (atR l path).isNone) = false) (h' : isNameR name = true) : lookR l path name = match findR l path name with
    | none => ([], 3)
    | some k => ((packAt l k).path, 0) := by unfold lookR; rw [if_neg (by rw [h]; simp), if_neg (by rw [h']; simp)]

end Hst
end Go.Proofs.YtecocheolbkneaaDoor
