/- Texts of this seat, one behind the other. -/
import Derived.Test.YtikjgbfbbkmmcaaGt
import Derived.Test.YtikjgbfbbkmmcaaRows
import Derived.WalkKit
import Derived.WalkSpells
import Derived.WalkLawsBesides
import Derived.BigQuiet
/- Baskets in order: lists in strict order with the same members are one; merging two of them. -/
namespace Go.Proofs.Ytikjgbfbbkmmcaa

theorem asc_uniq {α : Type} {R : α → α → Prop} (hR : ∀ x y, R x y → ¬ R y x) : ∀ {l m : List α}, l.Pairwise R → m.Pairwise R → (∀ x, x ∈ l ↔ x ∈ m) → l = m
  | [], [], _, _, _ => rfl
  | [], y :: m, _, _, h => by have := (h y).2 List.mem_cons_self; cases this
  | x :: l, [], _, _, h => by have := (h x).1 List.mem_cons_self; cases this
  | x :: l, y :: m, h1, h2, h => by
    obtain ⟨a1, a2⟩ := List.pairwise_cons.1 h1
    obtain ⟨b1, b2⟩ := List.pairwise_cons.1 h2
    have hxy : x = y := by
      rcases List.mem_cons.1 ((h x).1 List.mem_cons_self) with e | e
      · exact e
      · rcases List.mem_cons.1 ((h y).2 List.mem_cons_self) with g | g
        · exact g.symm
        · exact absurd (a1 y g) (hR _ _ (b1 x e))
    subst hxy
    rw [asc_uniq hR a2 b2 (fun z => ?_)]
    constructor
    · intro hz
      rcases List.mem_cons.1 ((h z).1 (List.mem_cons_of_mem _ hz)) with rfl | e
      · exact absurd (a1 z hz) (fun g => hR _ _ g g)
      · exact e
    · intro hz
      rcases List.mem_cons.1 ((h z).2 (List.mem_cons_of_mem _ hz)) with rfl | e
      · exact absurd (b1 z hz) (fun g => hR _ _ g g)
      · exact e
/-- A basket. -/
structure Bsk where
  nu : Int
  ca : Int
  pr : ByteArray
  cn : Int
def befK (x y : Bsk) : Bool := decide (x.ca < y.ca) || (decide (x.ca = y.ca) && decide (x.nu < y.nu))
theorem befK_asym (x y : Bsk) (h : befK x y = true) : ¬ befK y x = true := by
  simp only [befK, Bool.or_eq_true, Bool.and_eq_true, decide_eq_true_eq] at h ⊢
  omega
theorem befK_trans {x y z : Bsk} (h : befK x y = true) (g : befK y z = true) : befK x z = true := by
  simp only [befK, Bool.or_eq_true, Bool.and_eq_true, decide_eq_true_eq] at h g ⊢
  omega
theorem befK_total {x y : Bsk} (h : x.nu ≠ y.nu) (g : ¬ befK x y = true) : befK y x = true := by
  simp only [befK, Bool.or_eq_true, Bool.and_eq_true, decide_eq_true_eq] at g ⊢
  omega
/-- Two lists laid together. -/
def mrgK : List Bsk → List Bsk → List Bsk
  | [], b => b
  | x :: a, [] => x :: a
  | x :: a, y :: b => if befK x y then x :: mrgK a (y :: b) else y :: mrgK (x :: a) b
termination_by a b => a.length + b.length
/-- A list that is nowhere out of order, with numbers all different, is in strict order. -/
theorem asc_of_le {l : List Bsk} (h : l.Pairwise (fun x y => ¬ befK y x = true)) (hd : l.Pairwise (fun x y => x.nu ≠ y.nu)) : l.Pairwise (fun x y => befK x y = true) := by
  refine (h.and hd).imp fun {x y} hxy => ?_
  exact befK_total (fun e => hxy.2 e.symm) hxy.1
end Go.Proofs.Ytikjgbfbbkmmcaa

/- Walks of small functions of package lethal and of its reference: contracts. -/
namespace Go.Proofs.Ytikjgbfbbkmmcaa.Lt
open Go.RowKit

theorem hid {p : Prop} (h : p) : Hid p := h
theorem ret_bool {a b : Bool} (h : a = b) : Ending.returned (.bool a) = .returned (.bool b) := by rw [h]
theorem ret_int {k : IntKind} {a b : Int} (h : a = b) : Ending.returned (.int k a) = .returned (.int k b) := by rw [h]

end Go.Proofs.Ytikjgbfbbkmmcaa.Lt
