/- Misread signs: walk of Beside over a text that is not sound. -/
import Derived.Test.YtlnfebginkmbhaaDoorMc
import Derived.Laws.AppendOwn
namespace Go.Proofs.YtlnfebginkmbhaaDoor
open Go.RowKit

theorem infoStr : (Tryd.prog.info? 9).map (fun i => (i.zero, i.size, i.bytes)) = some (some (.string ⟨#[]⟩), 1, 16) := by kernel_rfl
theorem info_split {o : Option TypeInfo} {z : Option Value} {s b : Nat} (h : o.map (fun i => (i.zero, i.size, i.bytes)) = some (z, s, b)) : ∃ i, o = some i ∧ i.zero = z ∧ i.size = s ∧ i.bytes = b := by
  cases o with
  | none => cases h
  | some i =>
    simp only [Option.map_some, Option.some.injEq, Prod.mk.injEq] at h
    exact ⟨i, rfl, h.1, h.2.1, h.2.2⟩
/-- A list of texts of the call's own. -/
def OwnS (w : World) (base : Nat) (v : Value) (l : List (List UInt8)) : Prop := w.ownsRow base 9 1 v l.length (l.map encStr)
theorem OwnS.app {w : World} {base : Nat} {v : Value} {l : List (List UInt8)} {x : List UInt8} (h : w.ownsRow base 9 1 v (l.length + 1) (l.map encStr ++ [encStr x])) : OwnS w base v (l ++ [x]) := by
  unfold OwnS
  rw [List.length_append, List.map_append]
  exact h
theorem OwnS.keep {w w2 : World} {base : Nat} {v : Value} {l : List (List UInt8)} (h : OwnS w base v l) (hb : Below w.heap.size w w2) : OwnS w2 base v l := by
  unfold OwnS World.ownsRow at h ⊢
  refine ⟨h.1, ?_⟩
  rcases h.2 with h2 | ⟨g, cap, cur, h1, h2, h3, h4⟩
  · exact .inl h2
  · exact .inr ⟨g, cap, cur, h1, h2, (hb.block g (Array.getElem?_eq_some_iff.1 h3).1).trans h3, h4⟩
theorem OwnS.shape {w : World} {base : Nat} {v : Value} {l : List (List UInt8)} (h : OwnS w base v l) : ∃ ua uc, v = .slice ua l.length uc := by
  rcases h.2 with ⟨rfl, h0⟩ | ⟨g, cap, cur, rfl, _⟩
  · exact ⟨_, _, by rw [h0]⟩
  · exact ⟨_, _, rfl⟩
theorem OwnS.some {w : World} {base : Nat} {v : Value} {l : List (List UInt8)} (h : OwnS w base v l) (h0 : 0 < l.length) : ∃ g cap, v = .slice (some ⟨g, 0, none⟩) l.length cap ∧ base ≤ g ∧ g < w.heap.size ∧ Go.Sort.Holds encStr w g 0 l.toArray := by
  rcases h.2 with ⟨rfl, h1⟩ | ⟨g, cap, cur, rfl, hb, hg, _⟩
  · omega
  · refine ⟨g, cap, rfl, hb, (Array.getElem?_eq_some_iff.1 hg).1, fun j hj => ⟨?_, ?_⟩⟩
    · have hj' : j < l.length := by simpa using hj
      rw [Nat.zero_add, World.ownsRow.cellAt h j (by omega)]
      simp [hj']
    · rw [Nat.zero_add]
      exact World.ownsRow.frozenAt h j
theorem one_str {x : List UInt8} : ∀ u ∈ [encStr x], u.oneCell' = true := by intro u hu; simp at hu; subst hu; rfl
theorem cell_str {w : World} {u : Value} {T : TypeId} {m : Nat} (hm : w.heap.size = m) : ∀ j x, [u][j]? = some x → (w.alloc (.cells #[u] T)).cell? ((⟨m, 0, none⟩ : Addr).add j) = some x := by
  subst hm
  intro j x h
  cases j with
  | zero => simp at h; subst h; simp [Addr.add]
  | succ j => simp at h
theorem Vb.app {w wr w1 : World} {B : Nat} {l : List Int} {v : Value} {ls : List (List UInt8)} {o : Obj} (h : Vb w wr B l) (hv : OwnS wr (B + 1) v ls) (hg : (wr.alloc o).grownBy w1 v.ownBlock) : Vb w w1 B l := by
  have hlt := vb_lt h
  have hn := h.new
  have hne : ∀ k, v.ownBlock = some k → B + 1 ≤ k ∧ k < wr.heap.size := World.ownsRow.lt hv
  refine ⟨?_, hn, ?_⟩
  · rw [hg.block B (by simp; omega) (fun e => by have := (hne _ e.symm).1; omega)]
    exact row_alloc h.row
  · exact (h.low.alloc h.low.size _).grown hg (by have := h.low.size; simp; omega) (fun k hk => by have := (hne k hk).1; omega)
theorem below_sorted {w W : World} {n g : Nat} {d : Array (List UInt8)} {os : Array Obj} (h : Below w.heap.size w W) (hg : w.heap.size ≤ g) : Below w.heap.size w (Go.Sort.grow (Go.Sort.putRow encStr (Go.Sort.ahead W n) g 0 d) os) := by
  refine ⟨h.os, h.tape, h.output, ?_, fun k hk => ?_⟩
  · rw [Go.Sort.size_grow, Go.Sort.size_putRow, Go.Sort.heap_ahead]
    exact Nat.le_trans h.size (Nat.le_add_right _ _)
  · have hk2 : k < W.heap.size := Nat.lt_of_lt_of_le hk h.size
    rw [Go.Sort.heap_grow_old _ _ (by rw [Go.Sort.size_putRow, Go.Sort.heap_ahead]; exact hk2)]
    unfold Go.Sort.putRow Go.Sort.mapBlock
    simp only [Go.Sort.heap_ahead, Array.getElem?_modify]
    rw [if_neg (by omega)]
    exact h.block k hk
theorem holds_sorted {W : World} {n g : Nat} {l ss : List (List UInt8)} {os : Array Obj} (h : Go.Sort.Holds encStr W g 0 l.toArray) (hs : ss.length = l.length) (hg : g < W.heap.size) : Go.Sort.Holds encStr (Go.Sort.grow (Go.Sort.putRow encStr (Go.Sort.ahead W n) g 0 ss.toArray) os) g 0 ss.toArray :=
  Go.Sort.holds_grow _ _ _ _ _ _ (by rw [Go.Sort.size_putRow, Go.Sort.heap_ahead]; exact hg) (Go.Sort.holds_putRow _ _ _ _ l.toArray _ (Go.Sort.holds_ahead _ _ _ _ _ _ h) (by simpa using hs))
end Go.Proofs.YtlnfebginkmbhaaDoor
