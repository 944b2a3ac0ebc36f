/- Walks of Follow of both, whatever comes in; of Step, Run and SameBodies of the reference: contracts. -/
import Derived.Test.YtedfajokiblfhaaRs
import Derived.Test.YtedfajokiblfhaaA6
import Derived.Test.YtedfajokiblfhaaZa
namespace Go.Proofs.Ytedfajokiblfhaa
open Go.RowKit

/-- What Follow hands back. -/
def folO (r l a b k a2 b2 : Int) (x : Bd) (p : List Int) : List Bd × Int :=
  if chkE (bothB r l a b k a2 b2 x.1 x.2) p = 0 then (folL (cnOf r l a b k a2 b2) x p, 0) else ([], chkE (bothB r l a b k a2 b2 x.1 x.2) p)
theorem folO_ok {r l a b k a2 b2 : Int} {x : Bd} {p : List Int} (h : chkE (bothB r l a b k a2 b2 x.1 x.2) p = 0) : folO r l a b k a2 b2 x p = (folL (cnOf r l a b k a2 b2) x p, 0) := by unfold folO; rw [if_pos h]
theorem folO_err {r l a b k a2 b2 : Int} {x : Bd} {p : List Int} (h : chkE (bothB r l a b k a2 b2 x.1 x.2) p ≠ 0) : folO r l a b k a2 b2 x p = ([], chkE (bothB r l a b k a2 b2 x.1 x.2) p) := by unfold folO; rw [if_neg h]
theorem folL_len (c : Cn) (x : Bd) (p : List Int) : (folL c x p).length = p.length + 1 := by unfold folL; rw [List.length_map, seqH_len]
theorem folL_at (c : Cn) (x : Bd) (p : List Int) (k : Nat) (h : k ≤ p.length) : (folL c x p)[k]'(by rw [folL_len]; omega) = runS c x (p.take k) := by
  have h1 := seqH_get c x p k h
  unfold folL
  rw [List.getElem_map]
  have h2 := (List.getElem?_eq_some_iff.1 h1).2
  rw [h2]
end Go.Proofs.Ytedfajokiblfhaa
