/- Texts of this seat, one behind the other. -/
import Derived.Test.YtikjgbfbbkmmcaaGt
import Derived.Test.YtikjgbfbbkmmcaaRows
import Derived.WalkKit
import Derived.WalkSpells
import Derived.WalkLawsBesides
import Derived.BigQuiet
/- Baskets in order: lists in strict order with the same members are one; merging two of them. -/
namespace Go.Proofs.Ytikjgbfbbkmmcaa

theorem asc_uniq {α : Type} {R : α → α → Prop} (hR : ∀ x y, R x y → ¬ R y x) : ∀ {l m : List α}, l.Pairwise R → m.Pairwise R → (∀ x, x ∈ l ↔ x ∈ m) → l = m
  | [], [], _, _, _ => rfl
  | [], y :: m, _, _, h => by have := (h y).2 List.mem_cons_self; cases this
  | x :: l, [], _, _, h => by have := (h x).1 List.mem_cons_self; cases this
  | x :: l, y :: m, h1, h2, h => by
    obtain ⟨a1, a2⟩ := List.pairwise_cons.1 h1
    obtain ⟨b1, b2⟩ := List.pairwise_cons.1 h2
    have hxy : x = y := by
      rcases List.mem_cons.1 ((h x).1 List.mem_cons_self) with e | e
      · exact e
      · rcases List.mem_cons.1 ((h y).2 List.mem_cons_self) with g | g
        · exact g.symm
        · exact absurd (a1 y g) (hR _ _ (b1 x e))
    subst hxy
    rw [asc_uniq hR a2 b2 (fun z => ?_)]
    constructor
    · intro hz
      rcases List.mem_cons.1 ((h z).1 (List.mem_cons_of_mem _ hz)) with rfl | e
      · exact absurd (a1 z hz) (fun g => hR _ _ g g)
      · exact e
    · intro hz
      rcases List.mem_cons.1 ((h z).2 (List.mem_cons_of_mem _ hz)) with rfl | e
      · exact absurd (b1 z hz) (fun g => hR _ _ g g)
      · exact e
/-- A basket. -/
structure Bsk where
  nu : Int
  ca : Int
  pr : ByteArray
  cn : Int
def befK (x y : Bsk) : Bool := decide (x.ca < y.ca) || (decide (x.ca = y.ca) && decide (x.nu < y.nu))
theorem befK_asym (x y : Bsk) (h : befK x y = true) : ¬ befK y x = true := by
  simp only [befK, Bool.or_eq_true, Bool.and_eq_true, decide_eq_true_eq] at h ⊢
  omega
theorem befK_trans {x y z : Bsk} (h : befK x y = true) (g : befK y z = true) : befK x z = true := by
  simp only [befK, Bool.or_eq_true, Bool.and_eq_true, decide_eq_true_eq] at h g ⊢
  omega
theorem befK_total {x y : Bsk} (h : x.nu ≠ y.nu) (g : ¬ befK x y = true) : befK y x = true := by
  simp only [befK, Bool.or_eq_true, Bool.and_eq_true, decide_eq_true_eq] at g ⊢
  omega
/-- Two lists laid together. -/
def mrgK : List Bsk → List Bsk → List Bsk
  | [], b => b
  | x :: a, [] => x :: a
  | x :: a, y :: b => if befK x y then x :: mrgK a (y :: b) else y :: mrgK (x :: a) b
termination_by a b => a.length + b.length
theorem mrgK_mem (z : Bsk) : ∀ a b : List Bsk, z ∈ mrgK a b ↔ z ∈ a ∨ z ∈ b
  | [], b => by rw [mrgK]; simp
  | x :: a, [] => by rw [mrgK]; simp
  | x :: a, y :: b => by
    rw [mrgK]
    split
    · simp only [List.mem_cons, mrgK_mem z a (y :: b), or_assoc]
    · simp only [List.mem_cons, mrgK_mem z (x :: a) b]
      constructor
      · rintro (h | (h | h) | h)
        · exact .inr (.inl h)
        · exact .inl (.inl h)
        · exact .inl (.inr h)
        · exact .inr (.inr h)
      · rintro ((h | h) | h | h)
        · exact .inr (.inl (.inl h))
        · exact .inr (.inl (.inr h))
        · exact .inl h
        · exact .inr (.inr h)
termination_by a b => a.length + b.length
theorem mrgK_asc : ∀ {a b : List Bsk}, a.Pairwise (fun x y => befK x y = true) → b.Pairwise (fun x y => befK x y = true) → (∀ x ∈ a, ∀ y ∈ b, x.nu ≠ y.nu) → (mrgK a b).Pairwise (fun x y => befK x y = true)
  | [], b, _, hb, _ => by rw [mrgK]; exact hb
  | x :: a, [], ha, _, _ => by rw [mrgK]; exact ha
  | x :: a, y :: b, ha, hb, h => by
    obtain ⟨a1, a2⟩ := List.pairwise_cons.1 ha
    obtain ⟨b1, b2⟩ := List.pairwise_cons.1 hb
    rw [mrgK]
    split
    · rename_i hxy
      refine List.pairwise_cons.2 ⟨fun z hz => ?_, mrgK_asc a2 hb (fun u hu v hv => h u (List.mem_cons_of_mem _ hu) v hv)⟩
      rcases (mrgK_mem z a (y :: b)).1 hz with g | g
      · exact a1 z g
      · rcases List.mem_cons.1 g with rfl | g
        · exact hxy
        · exact befK_trans hxy (b1 z g)
    · rename_i hxy
      have hyx := befK_total (h x List.mem_cons_self y List.mem_cons_self) hxy
      refine List.pairwise_cons.2 ⟨fun z hz => ?_, mrgK_asc ha b2 (fun u hu v hv => h u hu v (List.mem_cons_of_mem _ hv))⟩
      rcases (mrgK_mem z (x :: a) b).1 hz with g | g
      · rcases List.mem_cons.1 g with rfl | g
        · exact hyx
        · exact befK_trans hyx (a1 z g)
      · exact b1 z g
termination_by a b => a.length + b.length
/-- Whatever holds the members of both in order is their merging. -/
theorem mrgK_uniq {a b l : List Bsk} (ha : a.Pairwise (fun x y => befK x y = true)) (hb : b.Pairwise (fun x y => befK x y = true)) (h : ∀ x ∈ a, ∀ y ∈ b, x.nu ≠ y.nu) (hl : l.Pairwise (fun x y => befK x y = true)) (hm : ∀ x, x ∈ l ↔ x ∈ a ∨ x ∈ b) : l = mrgK a b :=
  asc_uniq befK_asym hl (mrgK_asc ha hb h) (fun x => (hm x).trans (mrgK_mem x a b).symm)
/-- A list that is nowhere out of order, with numbers all different, is in strict order. -/
theorem asc_of_le {l : List Bsk} (h : l.Pairwise (fun x y => ¬ befK y x = true)) (hd : l.Pairwise (fun x y => x.nu ≠ y.nu)) : l.Pairwise (fun x y => befK x y = true) := by
  refine (h.and hd).imp fun {x y} hxy => ?_
  exact befK_total (fun e => hxy.2 e.symm) hxy.1
/-- In strict order step by step is in strict order. -/
theorem asc_of_steps : ∀ {l : List Bsk}, (∀ i (h : i + 1 < l.length), befK (l[i]'(by omega)) l[i + 1] = true) → l.Pairwise (fun x y => befK x y = true)
  | [], _ => List.Pairwise.nil
  | [x], _ => by simp
  | x :: y :: l, h => by
    have ih := asc_of_steps (l := y :: l) (fun i hi => by have := h (i + 1) (by simpa using hi); simpa using this)
    refine List.pairwise_cons.2 ⟨fun z hz => ?_, ih⟩
    have hxy : befK x y = true := by have := h 0 (by simp); simpa using this
    rcases List.mem_cons.1 hz with rfl | hz
    · exact hxy
    · exact befK_trans hxy ((List.pairwise_cons.1 ih).1 z hz)
end Go.Proofs.Ytikjgbfbbkmmcaa

/- Walks of small functions of package lethal and of its reference: contracts. -/
namespace Go.Proofs.Ytikjgbfbbkmmcaa.Lt
open Go.RowKit

theorem hid {p : Prop} (h : p) : Hid p := h
theorem ret_bool {a b : Bool} (h : a = b) : Ending.returned (.bool a) = .returned (.bool b) := by rw [h]
theorem ret_int {k : IntKind} {a b : Int} (h : a = b) : Ending.returned (.int k a) = .returned (.int k b) := by rw [h]

end Go.Proofs.Ytikjgbfbbkmmcaa.Lt
