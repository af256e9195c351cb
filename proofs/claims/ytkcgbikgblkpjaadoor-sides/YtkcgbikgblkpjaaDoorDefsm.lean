/- The plain functions of meeting. No program in sight. -/
import Derived.Test.YtkcgbikgblkpjaaDoorDefs
namespace Go.Proofs.YtkcgbikgblkpjaaDoor
namespace Hst

def afterR (v : V3) : V3 × Bool := if v.c < 99 then (⟨v.a, v.b, v.c + 1⟩, true) else if v.b < 99 then (⟨v.a, v.b + 1, 0⟩, true) else if v.a < 99 then (⟨v.a + 1, 0, 0⟩, true) else (v, false)
def ptsC (c : Tx) : List V3 := if (versionR (signedR c).2).2 = true then
    (versionR (signedR c).2).1 :: (if (afterR (versionR (signedR c).2).1).2 = true then [(afterR (versionR (signedR c).2).1).1] else [])
  else []
def ptsA (a : Tx) : List V3 := (splitL 38 a).flatMap ptsC
def pointsR (l : Tx) : List V3 := [⟨0, 0, 0⟩] ++ (splitL 124 l).flatMap ptsA
def meetP (sp sq : List (Int × Int)) : Bool := sp.any fun s => sq.any fun t => !decide (mn s.2 t.2 < mx s.1 t.1)
def meetR (one other : Tx) : Bool := (pointsR one ++ pointsR other).any fun p => fitR one p && fitR other p

end Hst
end Go.Proofs.YtkcgbikgblkpjaaDoor
