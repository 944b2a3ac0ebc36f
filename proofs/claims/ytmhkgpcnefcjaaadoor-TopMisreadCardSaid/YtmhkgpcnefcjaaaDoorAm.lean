/- Stamps with the same code: plain facts; what keeps a row of codes. -/
import Derived.Test.YtmhkgpcnefcjaaaDoorAl
import Derived.Test.YtmhkgpcnefcjaaaDoorQa
import Derived.Test.YtmhkgpcnefcjaaaDoorAf
import Derived.Laws.OwnMore
namespace Go.Proofs.YtmhkgpcnefcjaaaDoor
open Go.RowKit

/-- Two different stamps of a list have the same code. -/
def clB (f : Stp → ByteArray) (l : List Stp) (a b : Nat) : Bool := (f (l.getD a default)).toList == (f (l.getD b default)).toList && !sameZ (l.getD a default) (l.getD b default)
/-- The pairs of a with those behind it, up to m. -/
def rowCl (f : Stp → ByteArray) (l : List Stp) (a : Nat) : Nat → List Pr
  | 0 => []
  | m + 1 => rowCl f l a m ++ if a < m ∧ clB f l a m = true then [⟨(a : Int), (m : Int)⟩] else []
def allCl (f : Stp → ByteArray) (l : List Stp) (n : Nat) : Nat → List Pr
  | 0 => []
  | a + 1 => allCl f l n a ++ rowCl f l a n
theorem rowCl_zero (f : Stp → ByteArray) (l : List Stp) (a : Nat) : ∀ m, m ≤ a + 1 → rowCl f l a m = []
  | 0, _ => rfl
  | m + 1, h => by
    unfold rowCl
    rw [rowCl_zero f l a m (by omega), if_neg (by omega)]
    rfl
theorem rowCl_len (f : Stp → ByteArray) (l : List Stp) (a : Nat) : ∀ m, (rowCl f l a m).length ≤ m
  | 0 => Nat.le_refl _
  | m + 1 => by
    have := rowCl_len f l a m
    unfold rowCl
    rw [List.length_append]
    split <;> simp <;> omega
theorem allCl_len (f : Stp → ByteArray) (l : List Stp) (n : Nat) : ∀ a, (allCl f l n a).length ≤ a * n
  | 0 => by simp [allCl]
  | a + 1 => by
    have h1 := allCl_len f l n a
    have h2 := rowCl_len f l a n
    unfold allCl
    rw [List.length_append, Nat.add_mul]
    omega
theorem cl_len (f : Stp → ByteArray) (l : List Stp) {n a b : Nat} (hn : n ≤ 500) (ha : a ≤ n) (hb : b ≤ n) : (allCl f l n a ++ rowCl f l a b).length ≤ 250500 := by
  have h1 := allCl_len f l n a
  have h2 := rowCl_len f l a b
  have h3 : a * n ≤ 500 * 500 := Nat.mul_le_mul (by omega) hn
  rw [List.length_append]
  omega
theorem rowCl_yes {f : Stp → ByteArray} {l : List Stp} {a b : Nat} (h : a < b) (g : clB f l a b = true) : rowCl f l a (b + 1) = rowCl f l a b ++ [⟨(a : Int), (b : Int)⟩] := by
  simp only [rowCl, if_pos (And.intro h g)]
theorem rowCl_no {f : Stp → ByteArray} {l : List Stp} {a b : Nat} (g : clB f l a b = false) : rowCl f l a (b + 1) = rowCl f l a b := by
  have : ¬ (a < b ∧ clB f l a b = true) := by rw [g]; simp
  simp only [rowCl, if_neg this, List.append_nil]
theorem clB_at {f : Stp → ByteArray} {l : List Stp} {a b : Nat} (ha : a < l.length) (hb : b < l.length) : clB f l a b = ((f l[a]).toList == (f l[b]).toList && !sameZ l[a] l[b]) := by
  unfold clB
  have h1 : l.getD a default = l[a] := by simp [List.getD, ha]
  have h2 : l.getD b default = l[b] := by simp [List.getD, hb]
  rw [h1, h2]
/-- What Clash answers. -/
def clC (l : List Stp) : Int := if l.all Stp.ok = true then (if 500 < l.length then 4 else 0) else 1
def clL (f : Stp → ByteArray) (l : List Stp) : List Pr := if clC l = 0 then allCl f l l.length l.length else []
def ClP (L : List Pr) (c : Int) (w : World) (e : Ending) (w' : World) : Prop := ∃ u, e = .returned (.tuple #[u, .int .i64 c]) ∧ RowX w' u L ∧ Below w.heap.size w w'
theorem infoP2 : (Tryd.prog.info? 44).map (fun i => (i.zero, i.size, i.bytes)) = some (some (.agg #[.int .i64 0, .int .i64 0]), 2, 16) := by kernel_rfl
theorem infoPP : ∃ i, Tryd.prog.info? 44 = some i ∧ i.zero = some (.agg #[.int .i64 0, .int .i64 0]) ∧ i.size = 2 ∧ i.bytes = 16 := info_cut infoP2
theorem okU_step {l : List Stp} {k : Nat} (hk : k < l.length) (h : l[k].ok = true) (g : ∀ j (hj : j < l.length), j < k → l[j].ok = true) : ∀ j (hj : j < l.length), j < k + 1 → l[j].ok = true := by
  intro j hj hj2
  rcases Nat.lt_succ_iff_lt_or_eq.1 hj2 with h1 | h1
  · exact g j hj h1
  · subst h1; exact h
theorem okU_end {l : List Stp} (g : ∀ j (hj : j < l.length), l[j].ok = true) : l.all Stp.ok = true := by
  rw [List.all_eq_true]
  intro x hx
  obtain ⟨j, hj, rfl⟩ := List.getElem_of_mem hx
  exact g j hj
theorem okU_bad {l : List Stp} {k : Nat} (hk : k < l.length) (h : l[k].ok = false) : l.all Stp.ok = false := by
  rw [Bool.eq_false_iff]
  intro g
  rw [List.all_eq_true.1 g _ (List.getElem_mem hk)] at h
  cases h
theorem rowX_cast {w : World} {v : Value} {l m : List Pr} (h : RowX w v l) (e : l = m) : RowX w v m := e ▸ h
/-- A row of codes that lies in a block. -/
def Codes (W : World) (G : Nat) (cs : List ByteArray) : Prop := G < W.heap.size ∧ ∀ j (h : j < cs.length), W.cell? ⟨G, j, none⟩ = some (.string cs[j])
theorem Codes.keep {W W2 : World} {G : Nat} {cs : List ByteArray} (h : Codes W G cs) (hb : Below W.heap.size W W2) : Codes W2 G cs :=
  ⟨Nat.lt_of_lt_of_le h.1 hb.size, fun j hj => keep_cell hb (h.2 j hj)⟩
theorem cell_block {W W2 : World} {b : Nat} (h : W2.heap[b]? = W.heap[b]?) (o : Nat) : W2.cell? ⟨b, o, none⟩ = W.cell? ⟨b, o, none⟩ := by
  unfold World.cell?
  show (match W2.heap[b]? with | some (.cells c _ _) => _ | _ => _) = (match W.heap[b]? with | some (.cells c _ _) => _ | _ => _)
  rw [h]
theorem Codes.grown {W W1 : World} {G E : Nat} {cs : List ByteArray} {v : Value} {l : List Pr} {o : Obj} (h : Codes W G cs) (hv : OwnX W (G + 1) E v l) (hg : (W.alloc o).grownBy W1 v.ownBlock) : Codes W1 G cs := by
  have hlt : G < (W.alloc o).heap.size := by simp; have := h.1; omega
  have hne : v.ownBlock ≠ some G := fun e => by have := (World.ownsRow.lt hv G e).1; omega
  have hb : W1.heap[G]? = (W.alloc o).heap[G]? := hg.block G hlt (fun e => hne e.symm)
  have h2 := h.keep ((Below.refl W.heap.size W).alloc (Nat.le_refl _) o)
  exact ⟨Nat.lt_of_lt_of_le hlt hg.size, fun j hj => (cell_block hb j).trans (h2.2 j hj)⟩
/-- The codes up to a place, empty texts behind it. -/
def rowC (cs : List ByteArray) (k : Nat) : List ByteArray := (List.range cs.length).map fun i : Nat => if i < k then cs.getD i ⟨#[]⟩ else ⟨#[]⟩
theorem rowC_len (cs : List ByteArray) (k : Nat) : (rowC cs k).length = cs.length := by simp [rowC]
theorem rowC_zero (cs : List ByteArray) : rowC cs 0 = List.replicate cs.length ⟨#[]⟩ := by
  apply List.ext_getElem (by simp [rowC])
  intro i h1 h2
  simp [rowC]
theorem rowC_all (cs : List ByteArray) : rowC cs cs.length = cs := by
  apply List.ext_getElem (by simp [rowC])
  intro i h1 h2
  simp [rowC, h2, List.getD]
theorem rowC_set {cs : List ByteArray} {k : Nat} (h : k < cs.length) : ((rowC cs k).map Value.string).set k (.string cs[k]) = (rowC cs (k + 1)).map Value.string := by
  apply List.ext_getElem (by simp [rowC])
  intro i h1 h2
  rw [List.getElem_set]
  by_cases e : k = i
  · subst e; simp [rowC, h, List.getD]
  · rw [if_neg e]
    have : i < k ↔ i < k + 1 := by omega
    simp only [rowC, List.getElem_map, List.getElem_range, this]
theorem rowC_at {cs : List ByteArray} {k : Nat} (h : k < cs.length) : ((rowC cs k).map Value.string)[k]? = some (.string ⟨#[]⟩) := by simp [rowC, h]
theorem made_str (n : Nat) : (madeCells (Value.string ⟨#[]⟩).cells (n * 1)).toList = List.replicate n (Value.string ⟨#[]⟩) := by
  apply List.ext_getElem (by simp [madeCells])
  intro i h1 h2
  simp [madeCells, Value.cells, Nat.mod_one]
theorem codes_of {W : World} {base G n cap : Nat} {cs : List ByteArray} {E : TypeId} (h : W.ownsRow base E 1 (.slice (some ⟨G, 0, none⟩) n cap) n (cs.map Value.string)) (hn : cs.length = n) : G < W.heap.size → Codes W G cs := fun hlt =>
  ⟨hlt, fun j hj => by
    have := World.ownsRow.cellAt h j (by omega)
    rw [this]
    simp [hj]⟩
end Go.Proofs.YtmhkgpcnefcjaaaDoor
