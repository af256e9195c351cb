/- Pdefs, Mord, Math -/
import Derived.Test.YtecocheolbkneaaDoorW02
import Derived.Test.YtecocheolbkneaaDoorW04
import Derived.Test.YtecocheolbkneaaDoorW01
namespace Go.Proofs.YtecocheolbkneaaDoor
open Go.RowKit
namespace Hst

/-- A need of the program: its slice of spans (the value), and what that shows. -/
structure NeedX where
  name : Tx
  sp : Value
  spans : List (Int × Int)
  text : Tx
/-- An entry: its slice of needs, and what that shows. -/
structure EntX where
  name : Tx
  ver : Int
  needs : Value
  nd : List NeedX
structure PkX where
  path : Tx
  e : EntX
structure WhX where
  path : Tx
  needs : Value
  nd : List NeedX
structure AsX where
  path : Tx
  n : NeedX

def needXC (n : NeedX) : List Value := [.string (bs n.name), n.sp, .string (bs n.text)]
def entXC (e : EntX) : List Value := [.string (bs e.name), .int .i64 e.ver, e.needs]
def pkXC (p : PkX) : List Value := [.string (bs p.path), .string (bs p.e.name), .int .i64 p.e.ver, p.e.needs]
def whXC (x : WhX) : List Value := [.string (bs x.path), x.needs]
def asXC (x : AsX) : List Value := [.string (bs x.path), .string (bs x.n.name), x.n.sp, .string (bs x.n.text)]
abbrev needXV (n : NeedX) : Value := .agg #[.string (bs n.name), n.sp, .string (bs n.text)]
abbrev entXV (e : EntX) : Value := .agg #[.string (bs e.name), .int .i64 e.ver, e.needs]
abbrev pkXV (p : PkX) : Value := .agg #[.string (bs p.path), .string (bs p.e.name), .int .i64 p.e.ver, p.e.needs]
abbrev whXV (x : WhX) : Value := .agg #[.string (bs x.path), x.needs]
theorem needXC_len (p : NeedX) : (needXC p).length = 3 := rfl
theorem entXC_len (p : EntX) : (entXC p).length = 3 := rfl
theorem pkXC_len (p : PkX) : (pkXC p).length = 4 := rfl
theorem whXC_len (p : WhX) : (whXC p).length = 2 := rfl
theorem asXC_len (p : AsX) : (asXC p).length = 4 := rfl

/-! ### what lies in memory -/
def spanC (s : Int × Int) : List Value := [.int .i64 s.1, .int .i64 s.2]
/-- Of what type a block's cells are. -/
def tagOf (w : World) (b : Nat) : Option TypeId := match w.heap[b]? with
  | some (.cells _ e _) => some e
  | _ => none
theorem tagOf_below {w w' : World} (hb : Below w.heap.size w w') {b : Nat} (h : b < w.heap.size) : tagOf w' b = tagOf w b := by unfold tagOf; rw [hb.block b h]
/-- A slice value that shows these elements, in a block of type t. -/
def RowX {α : Type} (f : α → List Value) (size : Nat) (t : TypeId) (w : World) (v : Value) (l : List α) : Prop := ∃ a cap, v = .slice a l.length cap ∧ RowR w a l.length cap size (l.flatMap f) ∧ ∀ g o, 0 < l.length → a = some ⟨g, o, none⟩ → tagOf w g = some t
theorem RowX.below {α : Type} {f : α → List Value} {size : Nat} {t : TypeId} {w w' : World} {v : Value} {l : List α} (h : RowX f size t w v l) (hb : Below w.heap.size w w') : RowX f size t w' v l := by
  obtain ⟨a, cap, e, hr, ht⟩ := h
  refine ⟨a, cap, e, hr.below hb, fun g o h0 ha => ?_⟩
  obtain ⟨g', o', ha', hg, _⟩ := hr.at' h0
  rw [ha] at ha'
  simp at ha'
  rw [tagOf_below hb (by omega)]
  exact ht g o h0 ha
theorem tag_of_own {size e base n : Nat} {w : World} {v : Value} {xs : List Value} (h : w.ownsRow base e size v n xs) {b : Nat} (hb : v.ownBlock = some b) : tagOf w b = some e := by
  obtain ⟨_, h2⟩ := h
  rcases h2 with ⟨rfl, _⟩ | ⟨g, cap', cur, rfl, _, hh, _⟩
  · simp [Value.ownBlock] at hb
  · simp [Value.ownBlock] at hb
    subst hb
    unfold tagOf; rw [hh]
theorem RowX.of_own {α : Type} {f : α → List Value} {size e base : Nat} {w : World} {v : Value} {l : List α} (h : w.ownsRow base e size v l.length (l.flatMap f)) : RowX f size e w v l := by
  obtain ⟨a, cap, rfl⟩ := own_slice h
  exact ⟨a, cap, rfl, RowR.of_own h, fun g o _ ha => tag_of_own h (by rw [ha]; rfl)⟩
theorem RowX.nil {α : Type} (f : α → List Value) (size : Nat) (t : TypeId) (w : World) : RowX f size t w (.slice none 0 0) ([] : List α) :=
  ⟨none, 0, rfl, ⟨by simp, Nat.le_refl _, fun h => absurd h (Nat.lt_irrefl _)⟩, fun _ _ h => absurd h (Nat.lt_irrefl _)⟩
/-- The cells of a slice with an element. -/
theorem RowX.cells {α : Type} {f : α → List Value} {size : Nat} {t : TypeId} (hf : ∀ x, (f x).length = size) {w : World} {v : Value} {l : List α} (h : RowX f size t w v l) {k : Nat} (hk : k < l.length) :
    ∃ g o cap, v = .slice (some ⟨g, o, none⟩) l.length cap ∧ g < w.heap.size ∧ ∀ (j : Nat) (hj : j < l.length) (i : Nat), i < size → w.cell? ⟨g, o + (j * size + i), none⟩ = (f l[j])[i]? := by
  obtain ⟨a, cap, rfl, hr, _⟩ := h
  obtain ⟨g, o, rfl, hg, hc⟩ := hr.at' (by omega)
  refine ⟨g, o, cap, rfl, hg, fun j hj i hi => ?_⟩
  have hlt : j * size + i < l.length * size := by
    have : (j + 1) * size ≤ l.length * size := Nat.mul_le_mul_right _ hj
    rw [Nat.add_mul, Nat.one_mul] at this
    omega
  rw [hc (j * size + i) hlt, flat_at f size hf l j i hj hi]
/-- The slice value itself. -/
theorem RowX.form {α : Type} {f : α → List Value} {size : Nat} {t : TypeId} {w : World} {v : Value} {l : List α} (h : RowX f size t w v l) : ∃ a cap, v = .slice a l.length cap := by
  obtain ⟨a, cap, e, _⟩ := h
  exact ⟨a, cap, e⟩

def SpansIn (w : World) (v : Value) (sp : List (Int × Int)) : Prop := RowX spanC 2 106 w v sp
structure NeedIn (w : World) (n : NeedX) : Prop where
  sp : SpansIn w n.sp n.spans
  ne : n.spans ≠ []
  le : n.spans.length ≤ 61
  nm : n.name.length ≤ 3
  tx : n.text.length ≤ 63
def NeedsIn (w : World) (v : Value) (l : List NeedX) : Prop := RowX needXC 3 86 w v l ∧ ∀ n ∈ l, NeedIn w n
def EntIn (w : World) (e : EntX) : Prop := NeedsIn w e.needs e.nd ∧ e.nd.length ≤ 6 ∧ e.name.length ≤ 3 ∧ 0 ≤ e.ver ∧ e.ver ≤ 999999
def EntsIn (w : World) (v : Value) (l : List EntX) : Prop := RowX entXC 3 128 w v l ∧ ∀ e ∈ l, EntIn w e
def PksIn (w : World) (v : Value) (l : List PkX) : Prop := RowX pkXC 4 130 w v l ∧ ∀ p ∈ l, EntIn w p.e
theorem NeedIn.below {w w' : World} {n : NeedX} (h : NeedIn w n) (hb : Below w.heap.size w w') : NeedIn w' n := ⟨RowX.below h.sp hb, h.ne, h.le, h.nm, h.tx⟩
theorem NeedsIn.below {w w' : World} {v : Value} {l : List NeedX} (h : NeedsIn w v l) (hb : Below w.heap.size w w') : NeedsIn w' v l := ⟨h.1.below hb, fun n hn => (h.2 n hn).below hb⟩
theorem EntIn.below {w w' : World} {e : EntX} (h : EntIn w e) (hb : Below w.heap.size w w') : EntIn w' e := ⟨h.1.below hb, h.2⟩
theorem EntsIn.below {w w' : World} {v : Value} {l : List EntX} (h : EntsIn w v l) (hb : Below w.heap.size w w') : EntsIn w' v l := ⟨h.1.below hb, fun n hn => (h.2 n hn).below hb⟩
theorem PksIn.below {w w' : World} {v : Value} {l : List PkX} (h : PksIn w v l) (hb : Below w.heap.size w w') : PksIn w' v l := ⟨h.1.below hb, fun n hn => (h.2 n hn).below hb⟩

/-! ### plain functions -/
/-- An element in its place by rising keys, behind those of its own key. -/
def insG {α : Type} (key : α → Tx) (x : α) : Bool → List α → List α
  | done, [] => if done = true then [] else [x]
  | done, y :: r => if done = false ∧ less (key x) (key y) = true then x :: y :: insG key x true r else y :: insG key x done r
def withN (l : List NeedX) (x : NeedX) : List NeedX := insG (fun n => n.name) x false l
def withP (l : List PkX) (p : PkX) : List PkX := insG (fun p => p.path) p false l
def needOkP (l : Tx) : Bool := isNameR (l.take (lowLen l)) && rok (rangeP (l.drop (lowLen l)))
/-- The need that a text is. -/
def NeedOf (l : Tx) (x : NeedX) : Prop := needOkP l = true ∧ x.name = l.take (lowLen l) ∧ rangeP (l.drop (lowLen l)) = some x.spans ∧ x.text = l
def withoutN (l : List NeedX) (name : Tx) : List NeedX := l.filter fun n => !decide (n.name = name)
def hasN (l : List NeedX) (name : Tx) : Bool := l.any fun n => decide (n.name = name)
def twiceX : List NeedX → Bool
  | [] => false
  | [_] => false
  | x :: y :: r => decide (x.name = y.name) || twiceX (y :: r)
/-- Pieces with a text between each two. -/
def joinGo (sep : Tx) : Bool → List Tx → Tx
  | _, [] => []
  | first, p :: r => (if first = true then p else sep ++ p) ++ joinGo sep false r
def joinT (sep : Tx) (l : List Tx) : Tx := joinGo sep true l
def needsT (l : List NeedX) : Tx := joinT [44] (l.map fun n => n.text)
/-- The folder of a path: what stands ahead of the last '/' of its first i bytes. -/
def folderGo (p : Tx) : Nat → Tx
  | 0 => []
  | i + 1 => if p.getD i 0 = 47 then p.take i else folderGo p i
def folderP (p : Tx) : Tx := folderGo p p.length
theorem folderGo_len (p : Tx) : ∀ i, i ≤ p.length → (folderGo p i).length ≤ i - 1
  | 0, _ => by simp [folderGo]
  | i + 1, h => by
    have := folderGo_len p i (by omega)
    simp only [folderGo]
    split
    · simp; omega
    · omega
theorem folderP_lt {p : Tx} (h : p ≠ []) : (folderP p).length < p.length := by
  have h1 := folderGo_len p p.length (Nat.le_refl _)
  have h2 := List.length_pos_iff.2 h
  unfold folderP
  omega
/-- The package of a name in a folder. -/
def inP (l : List PkX) (folder name : Tx) : Option PkX := l.find? fun p => decide (p.e.name = name) && decide (folderP p.path = folder)
/-- What is found from a path outwards (with fuel: the path's length serves). -/
def findF (l : List PkX) (name : Tx) : Nat → Tx → Option PkX
  | 0, _ => inP l [] name
  | n + 1, path => if path = [] then inP l [] name else match inP l path name with
    | some p => some p
    | none => findF l name n (folderP path)
def findP (l : List PkX) (name : Tx) (path : Tx) : Option PkX := findF l name path.length path
theorem findF_two (l : List PkX) (name : Tx) : ∀ (n m : Nat) (path : Tx), path.length ≤ n → path.length ≤ m → findF l name n path = findF l name m path
  | 0, m, path, h, _ => by
    have e : path = [] := List.length_eq_zero_iff.1 (by omega)
    subst e
    cases m with
    | zero => rfl
    | succ m => rw [findF, findF, if_pos rfl]
  | n + 1, 0, path, _, h => by
    have e : path = [] := List.length_eq_zero_iff.1 (by omega)
    subst e
    rw [findF, findF, if_pos rfl]
  | n + 1, m + 1, path, h1, h2 => by
    rw [findF, findF]
    by_cases h : path = []
    · rw [if_pos h, if_pos h]
    · have := folderP_lt h
      rw [if_neg h, if_neg h, findF_two l name n m (folderP path) (by omega) (by omega)]
theorem findP_eq (l : List PkX) (name : Tx) (path : Tx) : findP l name path = if _h : path = [] then inP l [] name else match inP l path name with
    | some p => some p
    | none => findP l name (folderP path) := by
  unfold findP
  by_cases h : path = []
  · subst h; rfl
  · have hl := folderP_lt h
    rw [dif_neg h]
    rcases e : path.length with _ | n
    · omega
    · rw [findF, if_neg h, findF_two l name n (folderP path).length (folderP path) (by omega) (Nat.le_refl _)]
def meetsP (l : List PkX) (path : Tx) (n : NeedX) : Bool := match findP l n.name path with
  | none => false
  | some p => fitsP n.spans p.e.ver
def hasP (l : List PkX) (name : Tx) (v : Int) : Bool := l.any fun p => decide (p.e.name = name) && decide (p.e.ver = v)
def hasAtP (l : List PkX) (path : Tx) : Bool := l.any fun p => decide (p.path = path)
/-- One who needs: what he finds is in use, and goes to the list's end. -/
def usedGo (t : List PkX) (path : Tx) (used : List PkX) (list : List WhX) : List NeedX → List PkX × List WhX
  | [] => (used, list)
  | n :: r => match findP t n.name path with
    | none => usedGo t path used list r
    | some p => if hasAtP used p.path = true then usedGo t path used list r else usedGo t path (withP used p) (list ++ [⟨p.path, p.e.needs, p.e.nd⟩]) r
/-- The list from its place k on (with fuel). -/
def inUseGo (t : List PkX) : Nat → Nat → List PkX → List WhX → List PkX
  | 0, _, used, _ => used
  | f + 1, k, used, list => match list[k]? with
    | none => used
    | some x => inUseGo t f (k + 1) (usedGo t x.path used list x.nd).1 (usedGo t x.path used list x.nd).2
def inUseP (t : List PkX) (v : Value) (site : List NeedX) : List PkX := inUseGo t (t.length + 2) 0 [] [⟨[], v, site⟩]
def fittingP (st : List EntX) (n : NeedX) : List EntX := st.filter fun e => decide (e.name = n.name) && fitsP n.spans e.ver
/-- choose: over the entries that fit. -/
def chooseGo (fav : List PkX) (best : EntX) (bf found : Bool) : List EntX → EntX × Bool
  | [] => (best, found)
  | e :: r =>
    if (!found || (if hasP fav e.name e.ver = bf then decide (best.ver < e.ver) else hasP fav e.name e.ver)) = true
    then chooseGo fav e (hasP fav e.name e.ver) true r else chooseGo fav best bf true r
def zeroE : EntX := ⟨[], 0, .slice none 0 0, []⟩
def chooseP (st : List EntX) (fav : List PkX) (n : NeedX) : EntX × Bool := chooseGo fav zeroE false false (fittingP st n)
def willDoP (l : List PkX) (gone : List AsX) (path : Tx) (laid : PkX) : Bool :=
  !hasAtP l laid.path && (match findP (withP l laid) laid.e.name path with
    | none => false
    | some p => decide (p.path = laid.path) && gone.all fun a => meetsP (withP l laid) a.path a.n)
/-- place: the folders from one outwards (with fuel: the folder's length serves). -/
def placeF (l : List PkX) (gone : List AsX) (path : Tx) (e : EntX) : Nat → Tx → PkX → PkX
  | 0, _, best => best
  | n + 1, folder, best => if folder = [] then best else
    placeF l gone path e n (folderP folder) (if willDoP l gone path ⟨joinR (folderP folder) e.name, e⟩ = true then ⟨joinR (folderP folder) e.name, e⟩ else best)
def placeGo (l : List PkX) (gone : List AsX) (path : Tx) (e : EntX) (folder : Tx) (best : PkX) : PkX := placeF l gone path e folder.length folder best
theorem placeF_two (l : List PkX) (gone : List AsX) (path : Tx) (e : EntX) : ∀ (n m : Nat) (folder : Tx) (best : PkX), folder.length ≤ n → folder.length ≤ m → placeF l gone path e n folder best = placeF l gone path e m folder best
  | 0, m, folder, best, h, _ => by
    have e0 : folder = [] := List.length_eq_zero_iff.1 (by omega)
    subst e0
    cases m with
    | zero => rfl
    | succ m => rw [placeF, placeF, if_pos rfl]
  | n + 1, 0, folder, best, _, h => by
    have e0 : folder = [] := List.length_eq_zero_iff.1 (by omega)
    subst e0
    rw [placeF, placeF, if_pos rfl]
  | n + 1, m + 1, folder, best, h1, h2 => by
    rw [placeF, placeF]
    by_cases h : folder = []
    · rw [if_pos h, if_pos h]
    · have := folderP_lt h
      rw [if_neg h, if_neg h, placeF_two l gone path e n m (folderP folder) _ (by omega) (by omega)]
theorem placeGo_eq (l : List PkX) (gone : List AsX) (path : Tx) (e : EntX) (folder : Tx) (best : PkX) : placeGo l gone path e folder best = if _h : folder = [] then best else
    placeGo l gone path e (folderP folder) (if willDoP l gone path ⟨joinR (folderP folder) e.name, e⟩ = true then ⟨joinR (folderP folder) e.name, e⟩ else best) := by
  unfold placeGo
  by_cases h : folder = []
  · subst h; rfl
  · have hl := folderP_lt h
    rw [dif_neg h]
    rcases e0 : folder.length with _ | n
    · omega
    · rw [placeF, if_neg h, placeF_two l gone path e n (folderP folder).length (folderP folder) _ (by omega) (Nat.le_refl _)]
def placeP (l : List PkX) (gone : List AsX) (path : Tx) (e : EntX) : PkX := placeGo l gone path e path ⟨joinR path e.name, e⟩
/-- A tree that is being built: the tree, those who need, what was gone through. -/
structure WorkX where
  tree : List PkX
  list : List WhX
  gone : List AsX
def layP (st : List EntX) (fav : List PkX) (k : WorkX) (path : Tx) (n : NeedX) : WorkX × Int :=
  if (chooseP st fav n).2 = false then (k, 8) else
  if 40 ≤ k.tree.length then (k, 9) else
  (⟨withP k.tree (placeP k.tree k.gone path (chooseP st fav n).1), k.list ++ [⟨(placeP k.tree k.gone path (chooseP st fav n).1).path, (chooseP st fav n).1.needs, (chooseP st fav n).1.nd⟩], k.gone⟩, 0)
def workGo (st : List EntX) (fav : List PkX) (path : Tx) (k : WorkX) : List NeedX → WorkX × Int
  | [] => (k, 0)
  | n :: r =>
    if meetsP k.tree path n = true then workGo st fav path ⟨k.tree, k.list, k.gone ++ [⟨path, n⟩]⟩ r else
    if (layP st fav k path n).2 = 0 then workGo st fav path ⟨(layP st fav k path n).1.tree, (layP st fav k path n).1.list, (layP st fav k path n).1.gone ++ [⟨path, n⟩]⟩ r
    else layP st fav k path n
/-- Build: the list from its place i on (with fuel: it grows by 40 at the most). -/
def buildGoP (st : List EntX) (fav : List PkX) : Nat → Nat → WorkX → WorkX × Int
  | 0, _, k => (k, 9)
  | f + 1, i, k => match k.list[i]? with
    | none => (k, 0)
    | some x => if (workGo st fav x.path k x.nd).2 = 0 then buildGoP st fav f (i + 1) (workGo st fav x.path k x.nd).1 else workGo st fav x.path k x.nd
def buildP (st : List EntX) (v : Value) (site : List NeedX) (fav : List PkX) : Option (List PkX) × Int :=
  match buildGoP st fav 60 0 ⟨[], [⟨[], v, site⟩], []⟩ with
  | (k, e) => if e = 0 then (some (inUseP k.tree v site), 0) else (none, e)

/-! ### what texts are -/
def listOkP (l : Tx) : Bool := decide ((splitL 44 l).length ≤ 6) && (splitL 44 l).all needOkP
def NeedsOf (d : List Tx) (xs : List NeedX) : Prop := xs.length = d.length ∧ ∀ p ∈ d.zip xs, NeedOf p.1 p.2
/-- The pieces of an entry: its head, what stands behind ':', whether there is one; its name, its version, whether there is '@'. -/
def eHead (l : Tx) : Tx := (cutR 58 l).1
def eTail (l : Tx) : Tx := (cutR 58 l).2.1
def eHas (l : Tx) : Bool := (cutR 58 l).2.2
def eName (l : Tx) : Tx := (cutR 64 (eHead l)).1
def eVer (l : Tx) : Tx := (cutR 64 (eHead l)).2.1
def eAt (l : Tx) : Bool := (cutR 64 (eHead l)).2.2
def entryOkP (l : Tx) : Bool := eAt l && isNameR (eName l) && oks (versionP (eVer l)) && (!eHas l || listOkP (eTail l))
/-- The entry that a text is. -/
def EntOf (l : Tx) (e : EntX) : Prop := entryOkP l = true ∧ e.name = eName l ∧ versionP (eVer l) = some e.ver ∧ (eHas l = false → e.nd = []) ∧ (eHas l = true → ∃ xs, NeedsOf (splitL 44 (eTail l)) xs ∧ e.nd = xs.foldl withN [])
def EntsOf (d : List Tx) (es : List EntX) : Prop := es.length = d.length ∧ ∀ p ∈ d.zip es, EntOf p.1 p.2
def stockOkP (l : Tx) : Bool := if l = [] then true else decide ((splitL 59 l).length ≤ 40) && (splitL 59 l).all entryOkP
def StockOf (l : Tx) (es : List EntX) : Prop := (l = [] → es = []) ∧ (l ≠ [] → EntsOf (splitL 59 l) es)
def sameX (f e : EntX) : Bool := decide (f.name = e.name) && decide (f.ver = e.ver)
def twGo (pre : List EntX) : List EntX → Bool
  | [] => false
  | e :: r => twiceX e.nd || (pre.any (fun f => sameX f e) || twGo (pre ++ [e]) r)
/-- A site of the program: its stock, its needs (and the slice that holds them), its tree. -/
structure SiteX where
  stock : List EntX
  needs : List NeedX
  nv : Value
  tree : List PkX
def settleX (s : SiteX) (nv : Value) (nd : List NeedX) : Option (List PkX) → SiteX
  | none => s
  | some t => ⟨s.stock, nd, nv, t⟩

end Hst
end Go.Proofs.YtecocheolbkneaaDoor
namespace Go.Proofs.YtecocheolbkneaaDoor
namespace Hst

theorem less_irr : ∀ a : Tx, less a a = false
  | [] => rfl
  | b :: r => by
    have := less_irr r
    unfold less at this ⊢
    simp [Op.bytesLess, this, UInt8.lt_irrefl]
theorem less_trans : ∀ a b c : Tx, less a b = true → less b c = true → less a c = true
  | _, _, [], _, h => by cases ‹Tx› <;> simp [less, Op.bytesLess] at h
  | [], _, _ :: _, _, _ => by simp [less, Op.bytesLess]
  | _ :: _, [], _ :: _, h, _ => by simp [less, Op.bytesLess] at h
  | x :: a, y :: b, z :: c, h, k => by
    have ih := less_trans a b c
    unfold less at ih h k ⊢
    simp only [Op.bytesLess, Bool.or_eq_true, decide_eq_true_eq, Bool.and_eq_true, beq_iff_eq] at h k ⊢
    rcases h with h | ⟨rfl, h⟩
    · rcases k with k | ⟨rfl, k⟩
      · exact .inl (UInt8.lt_trans h k)
      · exact .inl h
    · rcases k with k | ⟨rfl, k⟩
      · exact .inl k
      · exact .inr ⟨rfl, ih h k⟩
theorem less_tri : ∀ a b : Tx, less a b = true ∨ a = b ∨ less b a = true
  | [], [] => .inr (.inl rfl)
  | [], _ :: _ => .inl rfl
  | _ :: _, [] => .inr (.inr rfl)
  | x :: a, y :: b => by
    have ih := less_tri a b
    unfold less at ih ⊢
    simp only [Op.bytesLess, Bool.or_eq_true, decide_eq_true_eq, Bool.and_eq_true, beq_iff_eq]
    by_cases h : x < y
    · exact .inl (.inl h)
    · by_cases h' : y < x
      · exact .inr (.inr (.inl h'))
      · have e : x = y := UInt8.le_antisymm (UInt8.not_lt.1 h') (UInt8.not_lt.1 h)
        subst e
        rcases ih with h1 | h1 | h1
        · exact .inl (.inr ⟨rfl, h1⟩)
        · exact .inr (.inl (by rw [h1]))
        · exact .inr (.inr (.inr ⟨rfl, h1⟩))
theorem less_asymm {a b : Tx} (h : less a b = true) : less b a = false := by
  cases e : less b a with
  | false => rfl
  | true => exact absurd (less_trans a b a h e) (by rw [less_irr]; simp)
theorem less_ne {a b : Tx} (h : less a b = true) : a ≠ b := by
  rintro rfl
  rw [less_irr] at h
  exact absurd h (by simp)

/-- By rising keys. -/
def Rises {α : Type} (key : α → Tx) (l : List α) : Prop := l.Pairwise fun x y => less (key x) (key y) = true
theorem Rises.nil {α : Type} (key : α → Tx) : Rises key ([] : List α) := List.Pairwise.nil
theorem insX_true {α : Type} (key : α → Tx) (x : α) : ∀ l : List α, insG key x true l = l
  | [] => rfl
  | y :: r => by rw [insG, insX_true key x r]; simp
theorem insX_mem {α : Type} (key : α → Tx) (x : α) : ∀ (l : List α) (y : α), y ∈ insG key x false l ↔ y = x ∨ y ∈ l
  | [], y => by simp [insG]
  | z :: r, y => by
    rw [insG]
    split
    · rw [insX_true]; simp
    · rw [List.mem_cons, insX_mem key x r y, List.mem_cons]
      constructor
      · rintro (h | h | h)
        · exact .inr (.inl h)
        · exact .inl h
        · exact .inr (.inr h)
      · rintro (h | h | h)
        · exact .inr (.inl h)
        · exact .inl h
        · exact .inr (.inr h)
theorem insX_len {α : Type} (key : α → Tx) (x : α) : ∀ l : List α, (insG key x false l).length = l.length + 1
  | [] => rfl
  | z :: r => by
    rw [insG]
    split
    · rw [insX_true]; simp
    · rw [List.length_cons, insX_len key x r]; simp
theorem insG_rises {α : Type} (key : α → Tx) (x : α) : ∀ l : List α, Rises key l → (∀ y ∈ l, key y ≠ key x) → Rises key (insG key x false l)
  | [], _, _ => by simp [insG, Rises]
  | z :: r, h, hn => by
    have h' := List.pairwise_cons.1 h
    rw [insG]
    split
    · rename_i hl
      rw [insX_true]
      refine List.pairwise_cons.2 ⟨fun y hy => ?_, h⟩
      rcases List.mem_cons.1 hy with rfl | hy
      · exact hl.2
      · exact less_trans _ _ _ hl.2 (h'.1 y hy)
    · rename_i hl
      refine List.pairwise_cons.2 ⟨fun y hy => ?_, insG_rises key x r h'.2 fun y hy => hn y (List.mem_cons_of_mem _ hy)⟩
      rcases (insX_mem key x r y).1 hy with rfl | hy
      · rcases less_tri (key z) (key y) with h1 | h1 | h1
        · exact h1
        · exact absurd h1 (hn z (by simp))
        · exact absurd ⟨rfl, h1⟩ hl
      · exact h'.1 y hy
theorem Rises.ext {α : Type} {key : α → Tx} : ∀ {l m : List α}, Rises key l → Rises key m → (∀ y, y ∈ l ↔ y ∈ m) → l = m
  | [], [], _, _, _ => rfl
  | [], z :: r, _, _, h => absurd ((h z).2 (by simp)) (by simp)
  | z :: r, [], _, _, h => absurd ((h z).1 (by simp)) (by simp)
  | x :: l, y :: m, hl, hm, h => by
    have hl' := List.pairwise_cons.1 hl
    have hm' := List.pairwise_cons.1 hm
    have e : x = y := by
      rcases List.mem_cons.1 ((h x).1 (by simp)) with e | e
      · exact e
      · rcases List.mem_cons.1 ((h y).2 (by simp)) with e' | e'
        · exact e'.symm
        · have h1 := hm'.1 x e
          have h2 := hl'.1 y e'
          rw [less_asymm h1] at h2
          exact absurd h2 (by simp)
    subst e
    congr 1
    refine Rises.ext hl'.2 hm'.2 fun y => ?_
    constructor
    · intro hy
      rcases List.mem_cons.1 ((h y).1 (List.mem_cons_of_mem _ hy)) with e | e
      · subst e; exact absurd rfl (less_ne (hl'.1 y hy))
      · exact e
    · intro hy
      rcases List.mem_cons.1 ((h y).2 (List.mem_cons_of_mem _ hy)) with e | e
      · subst e; exact absurd rfl (less_ne (hm'.1 y hy))
      · exact e
theorem Rises.key_inj {α : Type} {key : α → Tx} : ∀ {l : List α}, Rises key l → ∀ x ∈ l, ∀ y ∈ l, key x = key y → x = y
  | [], _, _, h, _, _, _ => by simp at h
  | z :: r, hl, x, hx, y, hy, e => by
    have hl' := List.pairwise_cons.1 hl
    rcases List.mem_cons.1 hx with h1 | h1
    · rcases List.mem_cons.1 hy with h2 | h2
      · rw [h1, h2]
      · exact absurd (h1 ▸ e) (less_ne (hl'.1 y h2))
    · rcases List.mem_cons.1 hy with h2 | h2
      · exact absurd (h2 ▸ e).symm (less_ne (hl'.1 x h1))
      · exact Rises.key_inj hl'.2 x h1 y h2 e
theorem placedGo_ins (p : PackD) : ∀ (l : List PackD) (b : Bool), placedGo p b l = insG (fun q => q.path) p b l
  | [], b => by rw [placedGo, insG]
  | x :: r, b => by rw [placedGo, insG, placedGo_ins p r true, placedGo_ins p r b]
theorem placedR_ins (l : List PackD) (p : PackD) : placedR l p = insG (fun q => q.path) p false l := placedGo_ins p l false

end Hst
end Go.Proofs.YtecocheolbkneaaDoor
namespace Go.Proofs.YtecocheolbkneaaDoor
namespace Hst

/-! ### numbers -/
theorem partP_eq : ∀ l : Tx, partP l = if 0 ≤ partR l then some (partR l) else none
  | [] => by simp [partP, partR]
  | [a] => by
    by_cases h : dig a = true
    · have h' := h
      simp [dig] at h'
      have e : partR [a] = (a.toNat : Int) - 48 := by simp [partR, partGoR, h]
      have e2 : partP [a] = some ((a.toNat : Int) - 48) := by
        simp only [partP, partGo, h, if_true]
        rw [if_neg (by simp), if_neg (by simp), if_neg (by omega)]; simp
      rw [e, e2, if_pos (by omega)]
    · have h : dig a = false := by simpa using h
      have e : partR [a] = -1 := by simp [partR, partGoR, h]
      have e2 : partP [a] = none := by simp [partP, partGo, h]
      rw [e, e2]; rfl
  | [a, b] => by
    by_cases h0 : a = 48
    · simp [partP, partR, h0]
    · have hne : ¬ ((a.toNat : Int) = 48) := fun h => h0 (UInt8.toNat_inj.1 (by simp; omega))
      have e0 : partR [a, b] = partGoR 0 [a, b] := by simp [partR, h0]
      have e1 : partP [a, b] = partGo 0 [a, b] := by simp [partP, h0]
      by_cases ha : dig a = true
      · have ha' := ha
        simp [dig] at ha'
        by_cases hb : dig b = true
        · have hb' := hb
          simp [dig] at hb'
          have f0 : partR [a, b] = 10 * ((a.toNat : Int) - 48) + ((b.toNat : Int) - 48) := by rw [e0]; simp only [partGoR, if_pos ha, if_pos hb]; omega
          have f1 : partP [a, b] = some (10 * ((a.toNat : Int) - 48) + ((b.toNat : Int) - 48)) := by
            rw [e1]; simp only [partGo, if_pos ha, if_pos hb]
            rw [if_neg (by omega), if_neg (by omega)]
            congr 1; omega
          rw [f0, f1, if_pos (by omega)]
        · have f0 : partR [a, b] = -1 := by rw [e0]; simp only [partGoR, if_pos ha, if_neg hb]
          have f1 : partP [a, b] = none := by
            rw [e1]; simp only [partGo, if_pos ha, if_neg hb]
            rw [if_neg (by omega)]
          rw [f0, f1]; rfl
      · have f0 : partR [a, b] = -1 := by rw [e0]; simp only [partGoR, if_neg ha]
        have f1 : partP [a, b] = none := by rw [e1]; simp only [partGo, if_neg ha]
        rw [f0, f1]; rfl
  | a :: b :: c :: r => by
    have e0 : partR (a :: b :: c :: r) = -1 := by simp [partR]
    rw [e0]
    show partP (a :: b :: c :: r) = none
    by_cases h0 : a = 48
    · simp [partP, h0]
    · have hne : ¬ ((a.toNat : Int) = 48) := fun h => h0 (UInt8.toNat_inj.1 (by simp; omega))
      have e1 : partP (a :: b :: c :: r) = partGo 0 (a :: b :: c :: r) := by simp [partP, h0]
      rw [e1]
      simp only [partGo]
      by_cases ha : dig a = true
      · have ha' := ha
        simp [dig] at ha'
        rw [if_pos ha, if_neg (by omega)]
        by_cases hb : dig b = true
        · have hb' := hb
          simp [dig] at hb'
          rw [if_pos hb, if_neg (by omega)]
          by_cases hc : dig c = true
          · have hc' := hc
            simp [dig] at hc'
            rw [if_pos hc, if_pos (by omega)]
          · rw [if_neg hc]
        · rw [if_neg hb]
      · rw [if_neg ha]
theorem partR_hi (l : Tx) : partR l ≤ 99 := by
  unfold partR
  split
  · omega
  · rename_i h
    match l, h with
    | [], h => simp at h
    | [a], _ =>
      simp only [partGoR]
      split
      · rename_i hd; simp [dig] at hd; omega
      · omega
    | [a, b], _ =>
      simp only [partGoR]
      split
      · rename_i hd
        simp [dig] at hd
        split
        · rename_i hd'; simp [dig] at hd'; omega
        · omega
      · omega
    | _ :: _ :: _ :: _, h => simp at h

/-! ### versions -/
def place (v : V3) : Int := (v.a * 100 + v.b) * 100 + v.c
structure Valid (v : V3) : Prop where
  a0 : 0 ≤ v.a
  a1 : v.a ≤ 99
  b0 : 0 ≤ v.b
  b1 : v.b ≤ 99
  c0 : 0 ≤ v.c
  c1 : v.c ≤ 99
theorem place_bd {v : V3} (h : Valid v) : 0 ≤ place v ∧ place v ≤ 999999 := by
  obtain ⟨h1, h2, h3, h4, h5, h6⟩ := h
  unfold place; omega

theorem versionP_eq (l : Tx) : versionP l = if (versionR l).2 = true then some (place (versionR l).1) else none := by
  unfold versionP versionR
  by_cases h8 : 8 < l.length
  · rw [if_pos h8, if_pos h8]; rfl
  · rw [if_neg h8, if_neg h8]
    by_cases h3 : (splitL 46 l).length ≠ 3
    · rw [if_pos h3, if_pos h3]; rfl
    · rw [if_neg h3, if_neg h3]
      match hd : splitL 46 l, h3 with
      | [x, y, z], _ =>
        simp only [verGo, partP_eq, List.getD_cons_zero, List.getD_cons_succ]
        by_cases hx : 0 ≤ partR x
        · by_cases hy : 0 ≤ partR y
          · by_cases hz : 0 ≤ partR z
            · simp [hx, hy, hz, place]
            · simp [hx, hy, hz]
          · simp [hx, hy]
        · simp [hx]
      | [], h3 => simp at h3
      | [_], h3 => simp at h3
      | [_, _], h3 => simp at h3
      | _ :: _ :: _ :: _ :: _, h3 => simp at h3
theorem versionR_valid (l : Tx) (h : (versionR l).2 = true) : Valid (versionR l).1 := by
  unfold versionR at h ⊢
  split at h
  · simp at h
  · split at h
    · simp at h
    · rename_i h8 h3
      rw [if_neg h8, if_neg h3]
      simp at h
      exact ⟨h.1.1, partR_hi _, h.1.2, partR_hi _, h.2, partR_hi _⟩
theorem versionP_some {l : Tx} {n : Int} (h : versionP l = some n) : (versionR l).2 = true ∧ n = place (versionR l).1 := by
  rw [versionP_eq] at h
  split at h
  · rename_i h'; simp at h; exact ⟨h', h.symm⟩
  · simp at h
theorem versionP_of {l : Tx} (h : (versionR l).2 = true) : versionP l = some (place (versionR l).1) := by rw [versionP_eq, if_pos h]
theorem versionP_no {l : Tx} (h : (versionR l).2 = false) : versionP l = none := by rw [versionP_eq, h]; rfl

/-- A version begins with a digit. -/
theorem version_head {l : Tx} {n : Int} (h : versionP l = some n) : ∃ b r, l = b :: r ∧ dig b = true := by
  unfold versionP at h
  split at h
  · simp at h
  · split at h
    · simp at h
    · match l with
      | [] => simp [splitL, verGo, partP] at h
      | b :: r =>
        refine ⟨b, r, rfl, ?_⟩
        by_cases hb : (b.toNat : Int) = 46
        · simp [splitL, hb, verGo, partP] at h
        · simp only [splitL, if_neg hb] at h
          rcases hs : splitL 46 r with _ | ⟨q, qs⟩
          · exact absurd hs (splitL_ne 46 r)
          · rw [hs] at h
            simp only [verGo] at h
            rcases hp : partP (b :: q) with _ | m
            · rw [hp] at h; simp at h
            · by_cases hd : dig b = true
              · exact hd
              · exfalso
                simp only [partP, partGo, if_neg hd] at hp
                simp at hp

/-! ### conditions -/
def IsSign (sg : Tx) : Prop := sg = [61] ∨ sg = [62] ∨ sg = [62, 61] ∨ sg = [60] ∨ sg = [60, 61] ∨ sg = [94] ∨ sg = [126]
theorem spanOfP_no {sg : Tx} (h : ¬ IsSign sg) (v : Int) : spanOfP sg v = none := by
  simp only [IsSign, not_or] at h
  simp [spanOfP, h]
theorem dig_ne {b : UInt8} (h : dig b = true) : b ≠ 61 ∧ b ≠ 62 ∧ b ≠ 60 ∧ b ≠ 94 ∧ b ≠ 126 ∧ b ≠ 42 := by
  simp [dig] at h
  refine ⟨?_, ?_, ?_, ?_, ?_, ?_⟩ <;> (intro e; subst e; simp at h)
theorem sign_len {sg : Tx} (h : IsSign sg) (b : UInt8) (r : Tx) (hb : dig b = true) : signLen (sg ++ b :: r) = sg.length := by
  simp [dig] at hb
  rcases h with h | h | h | h | h | h | h <;> subst h <;> simp [signLen, hb, dig]
theorem signedR_of {sg : Tx} (h : IsSign sg) (b : UInt8) (r : Tx) (hb : dig b = true) : signedR (sg ++ b :: r) = (sg, b :: r) := by
  have hn := dig_ne hb
  rcases h with h | h | h | h | h | h | h <;> subst h <;> simp [signedR, hn]
theorem signedR_sign {l sg rest : Tx} (h : signedR l = (sg, rest)) (hne : sg ≠ []) : IsSign sg ∧ l = sg ++ rest := by
  unfold signedR at h
  split at h
  · rename_i h2
    simp at h
    obtain ⟨rfl, rfl⟩ := h
    refine ⟨?_, (List.take_append_drop 2 l).symm⟩
    rcases h2 with h2 | h2 <;> rw [h2] <;> simp [IsSign]
  · split at h
    · simp at h; exact absurd h.1.symm (by simpa using hne)
    · split at h
      · rename_i h3
        simp at h
        obtain ⟨rfl, rfl⟩ := h
        refine ⟨?_, by simp⟩
        rcases h3 with h3 | h3 | h3 | h3 | h3 <;> subst h3 <;> simp [IsSign]
      · simp at h; exact absurd h.1.symm (by simpa using hne)

/-- A condition with a sign. -/
structure CondIs (l sg rest : Tx) (n : Int) : Prop where
  cat : l = sg ++ rest
  sign : IsSign sg
  ver : versionP rest = some n
theorem CondIs.condP {l sg rest : Tx} {n : Int} (h : CondIs l sg rest n) : condP l = spanOfP sg n := by
  obtain ⟨b, r, rfl, hb⟩ := version_head h.ver
  have e := sign_len h.sign b r hb
  have hl := h.cat
  have h42 : l ≠ [42] := by
    rw [hl]
    have hn := dig_ne hb
    rcases h.sign with s | s | s | s | s | s | s <;> subst s <;> simp
  unfold Hst.condP
  rw [if_neg h42, hl, e, List.drop_left, List.take_left, h.ver]
theorem CondIs.signed {l sg rest : Tx} {n : Int} (h : CondIs l sg rest n) : signedR l = (sg, rest) := by
  obtain ⟨b, r, rfl, hb⟩ := version_head h.ver
  rw [h.cat, signedR_of h.sign b r hb]
theorem CondIs.isCond {l sg rest : Tx} {n : Int} (h : CondIs l sg rest n) : isCondR l = true := by
  unfold isCondR
  rw [h.signed]
  have hv := (versionP_some h.ver).1
  have : sg.isEmpty = false := by rcases h.sign with s | s | s | s | s | s | s <;> subst s <;> rfl
  simp [this, hv]
theorem condIs_of_cond {l : Tx} (h42 : l ≠ [42]) (h : isCondR l = true) : ∃ sg rest n, CondIs l sg rest n := by
  unfold isCondR at h
  simp [h42] at h
  obtain ⟨hs, hv⟩ := h
  rcases hd : signedR l with ⟨sg, rest⟩
  rw [hd] at hs hv
  simp at hs hv
  obtain ⟨h1, h2⟩ := signedR_sign hd hs
  exact ⟨sg, rest, _, h2, h1, versionP_of hv⟩
theorem condIs_of_span {l : Tx} {s : Int × Int} (h42 : l ≠ [42]) (h : condP l = some s) : ∃ sg rest n, CondIs l sg rest n := by
  unfold condP at h
  rw [if_neg h42] at h
  rcases hv : versionP (l.drop (signLen l)) with _ | n
  · rw [hv] at h; simp at h
  · rw [hv] at h
    simp only at h
    by_cases hs : IsSign (l.take (signLen l))
    · exact ⟨_, _, n, (List.take_append_drop _ l).symm, hs, hv⟩
    · rw [spanOfP_no hs] at h; simp at h

theorem below_place {v w : V3} (hv : Valid v) (hw : Valid w) : belowB v.a v.b v.c w.a w.b w.c = decide (place v < place w) := by
  obtain ⟨h1, h2, h3, h4, h5, h6⟩ := hv
  obtain ⟨k1, k2, k3, k4, k5, k6⟩ := hw
  unfold belowB place
  split
  · rw [Bool.eq_iff_iff]; simp; omega
  · split
    · rw [Bool.eq_iff_iff]; simp; omega
    · rw [Bool.eq_iff_iff]; simp; omega
theorem eq3_place {v w : V3} (hv : Valid v) (hw : Valid w) : eq3 v w = decide (place v = place w) := by
  obtain ⟨h1, h2, h3, h4, h5, h6⟩ := hv
  obtain ⟨k1, k2, k3, k4, k5, k6⟩ := hw
  unfold eq3 place
  rw [Bool.eq_iff_iff]; simp; omega
/-- A span holds a version. -/
def inSpan (s : Int × Int) (p : Int) : Bool := decide (s.1 ≤ p) && decide (p ≤ s.2)

theorem place_parts {w : V3} (hw : Valid w) : place w / 10000 = w.a ∧ place w / 100 % 100 = w.b ∧ place w % 100 = w.c ∧ place w % 10000 = w.b * 100 + w.c := by
  obtain ⟨k1, k2, k3, k4, k5, k6⟩ := hw
  unfold place
  omega

theorem span_holds {sg : Tx} (h : IsSign sg) {v w : V3} (hv : Valid v) (hw : Valid w) : ∃ s, spanOfP sg (place w) = some s ∧ holdsS sg w v = inSpan s (place v) := by
  have bv := place_bd hv
  have bw := place_bd hw
  have hb := below_place hv hw
  have he := eq3_place hv hw
  have hp := place_parts hw
  have hq := place_parts hv
  rcases h with h | h | h | h | h | h | h <;> subst h
  · refine ⟨(place w, place w), by simp [spanOfP], ?_⟩
    simp only [holdsS, he, inSpan]
    rw [Bool.eq_iff_iff]; simp; omega
  · refine ⟨(place w + 1, 999999), by simp [spanOfP], ?_⟩
    simp only [holdsS, hb, he, inSpan]
    rw [Bool.eq_iff_iff]; simp; omega
  · refine ⟨(place w, 999999), by simp [spanOfP], ?_⟩
    simp only [holdsS, hb, inSpan]
    rw [Bool.eq_iff_iff]; simp; omega
  · refine ⟨(0, place w - 1), by simp [spanOfP], ?_⟩
    simp only [holdsS, hb, inSpan]
    rw [Bool.eq_iff_iff]; simp; omega
  · refine ⟨(0, place w), by simp [spanOfP], ?_⟩
    simp only [holdsS, hb, he, inSpan]
    rw [Bool.eq_iff_iff]; simp; omega
  · refine ⟨(place w, caretHi (place w)), by simp [spanOfP], ?_⟩
    simp only [holdsS, hb, he, inSpan, caretHi, hp]
    obtain ⟨h1, h2, h3, h4, h5, h6⟩ := hv
    obtain ⟨k1, k2, k3, k4, k5, k6⟩ := hw
    by_cases c1 : w.a = 0
    · by_cases c2 : w.b = 0
      · rw [Bool.eq_iff_iff]; simp [c1, c2]; omega
      · rw [Bool.eq_iff_iff]; simp [c1, c2]; unfold place at *; omega
    · rw [Bool.eq_iff_iff]; simp [c1]; unfold place at *; omega
  · refine ⟨(place w, place w - place w % 100 + 100 - 1), by simp [spanOfP], ?_⟩
    simp only [holdsS, hb, inSpan, hp]
    obtain ⟨h1, h2, h3, h4, h5, h6⟩ := hv
    obtain ⟨k1, k2, k3, k4, k5, k6⟩ := hw
    rw [Bool.eq_iff_iff]; simp; unfold place at *; omega

/-- The law of one condition. -/
theorem cond_law (l : Tx) : (condP l = none ∧ isCondR l = false) ∨ (∃ s, condP l = some s ∧ isCondR l = true ∧ ∀ v, Valid v → holdsR l v = inSpan s (place v)) := by
  by_cases h42 : l = [42]
  · refine .inr ⟨(0, 999999), by simp [condP, h42], by simp [isCondR, h42], fun v hv => ?_⟩
    have := place_bd hv
    subst h42
    simp [holdsR, signedR, holdsS, inSpan]; omega
  · by_cases hc : isCondR l = true
    · obtain ⟨sg, rest, n, h⟩ := condIs_of_cond h42 hc
      obtain ⟨hv, rfl⟩ := versionP_some h.ver
      have hw := versionR_valid rest hv
      obtain ⟨s, h1, _⟩ := span_holds h.sign hw hw
      refine .inr ⟨s, by rw [h.condP, h1], hc, fun v hv => ?_⟩
      obtain ⟨s', h1', h2'⟩ := span_holds h.sign hv hw
      rw [h1] at h1'
      simp at h1'
      subst h1'
      unfold holdsR
      rw [h.signed]
      exact h2'
    · refine .inl ⟨?_, by simpa using hc⟩
      rcases hp : condP l with _ | s
      · rfl
      · obtain ⟨sg, rest, n, h⟩ := condIs_of_span h42 hp
        exact absurd h.isCond hc

/-! ### alternatives -/
theorem mx_le (a b p : Int) : mx a b ≤ p ↔ a ≤ p ∧ b ≤ p := by unfold mx; split <;> omega
theorem le_mn (a b p : Int) : p ≤ mn a b ↔ p ≤ a ∧ p ≤ b := by unfold mn; split <;> omega
theorem alt_law : ∀ (d : List Tx) (lo hi : Int), (altGo lo hi d = none ∧ d.all isCondR = false) ∨ (∃ s, altGo lo hi d = some s ∧ d.all isCondR = true ∧ ∀ v, Valid v → (inSpan (lo, hi) (place v) && d.all (fun c => holdsR c v)) = inSpan s (place v))
  | [], lo, hi => .inr ⟨(lo, hi), rfl, rfl, fun v _ => by simp⟩
  | c :: r, lo, hi => by
    rcases cond_law c with ⟨h1, h2⟩ | ⟨s, h1, h2, h3⟩
    · exact .inl ⟨by simp [altGo, h1], by simp [h2]⟩
    · rcases alt_law r (mx lo s.1) (mn hi s.2) with ⟨k1, k2⟩ | ⟨s', k1, k2, k3⟩
      · exact .inl ⟨by simp only [altGo, h1]; exact k1, by simp only [List.all_cons, k2, Bool.and_false]⟩
      · refine .inr ⟨s', by simp only [altGo, h1]; exact k1, by simp only [List.all_cons, k2, h2, Bool.and_self], fun v hv => ?_⟩
        rw [← k3 v hv, List.all_cons, h3 v hv]
        have e : inSpan (mx lo s.1, mn hi s.2) (place v) = (inSpan (lo, hi) (place v) && inSpan s (place v)) := by
          unfold inSpan
          rw [Bool.eq_iff_iff]
          simp [mx_le, le_mn]
          omega
        rw [e, Bool.and_assoc]
theorem altP_law (l : Tx) : (altP l = none ∧ isAltR l = false) ∨ (∃ s, altP l = some s ∧ isAltR l = true ∧ ∀ v, Valid v → altFitR l v = inSpan s (place v)) := by
  rcases alt_law (splitL 38 l) 0 999999 with h | ⟨s, h1, h2, h3⟩
  · exact .inl h
  · refine .inr ⟨s, h1, h2, fun v hv => ?_⟩
    rw [← h3 v hv]
    have := place_bd hv
    have e : inSpan (0, 999999) (place v) = true := by simp [inSpan]; omega
    rw [e, Bool.true_and]; rfl

/-! ### ranges -/
theorem range_law : ∀ (d : List Tx) (acc : List (Int × Int)), (rangeGo acc d = none ∧ d.all isAltR = false) ∨ (∃ sp, rangeGo acc d = some sp ∧ d.all isAltR = true ∧ ∀ v, Valid v → (fitsP acc (place v) || d.any (fun a => altFitR a v)) = fitsP sp (place v))
  | [], acc => .inr ⟨acc, rfl, rfl, fun v _ => by simp⟩
  | a :: r, acc => by
    rcases altP_law a with ⟨h1, h2⟩ | ⟨s, h1, h2, h3⟩
    · exact .inl ⟨by simp [rangeGo, h1], by simp [h2]⟩
    · rcases range_law r (acc ++ [s]) with ⟨k1, k2⟩ | ⟨sp, k1, k2, k3⟩
      · exact .inl ⟨by simp only [rangeGo, h1]; exact k1, by simp only [List.all_cons, k2, Bool.and_false]⟩
      · refine .inr ⟨sp, by simp only [rangeGo, h1]; exact k1, by simp only [List.all_cons, k2, h2, Bool.and_self], fun v hv => ?_⟩
        rw [← k3 v hv, List.any_cons, h3 v hv]
        have e : fitsP (acc ++ [s]) (place v) = (fitsP acc (place v) || inSpan s (place v)) := by
          unfold fitsP inSpan
          rw [List.any_append]
          simp only [List.any_cons, List.any_nil, Bool.or_false]
        rw [e, Bool.or_assoc]
theorem rangeP_law (l : Tx) : (rangeP l = none ∧ isRangeR l = false) ∨ (∃ sp, rangeP l = some sp ∧ isRangeR l = true ∧ ∀ v, Valid v → fitR l v = fitsP sp (place v)) := by
  unfold rangeP isRangeR
  by_cases h60 : 60 < l.length
  · exact .inl ⟨by rw [if_pos h60], by simp; omega⟩
  · rw [if_neg h60]
    have e : decide (l.length ≤ 60) = true := by simp; omega
    rw [e, Bool.true_and]
    rcases range_law (splitL 124 l) [] with h | ⟨sp, h1, h2, h3⟩
    · exact .inl h
    · refine .inr ⟨sp, h1, h2, fun v hv => ?_⟩
      rw [← h3 v hv]
      rfl

end Hst
end Go.Proofs.YtecocheolbkneaaDoor
