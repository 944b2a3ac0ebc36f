/- Walk of For: contract. -/
import Derived.Test.YtfngmpkceceomaaSb
import Derived.Maps.AppendAt
namespace Go.Proofs.Ytfngmpkceceomaa
open Go.RowKit Go.Lib Go.Maps

theorem blk_set {w : World} {b i : Nat} {cs : Array Value} {T : TypeId} {fz : Nat × Nat} {v : Value} (h : w.heap[b]? = some (.cells cs T fz)) : (w.setCell ⟨b, i, none⟩ v).heap[b]? = some (.cells (cs.setIfInBounds i v) T fz) := by
  obtain ⟨hlt, hk⟩ := Array.getElem?_eq_some_iff.1 h
  show (w.heap.modify b _)[b]? = _
  rw [Array.getElem?_eq_getElem (by rw [Array.size_modify]; exact hlt), Array.getElem_modify_self, hk]
  rfl
theorem blk_cell {w : World} {b i : Nat} {cs : Array Value} {T : TypeId} {fz : Nat × Nat} (h : w.heap[b]? = some (.cells cs T fz)) : w.cell? ⟨b, i, none⟩ = cs[i]? := by
  unfold World.cell?
  show (match w.heap[b]? with | some (.cells c _ _) => _ | _ => _) = _
  rw [h]
  rfl
theorem blk_free {w : World} {b i : Nat} {cs : Array Value} {T : TypeId} (h : w.heap[b]? = some (.cells cs T (0, 0))) : w.frozen? ⟨b, i, none⟩ = false := by
  unfold World.frozen?
  show (match w.heap[b]? with | some (.cells _ _ (lo, hi)) => (decide (lo ≤ i) && decide (i < hi)) | _ => false) = false
  rw [h]
  simp
def ivI (l : List Int) : List Value := l.map (Value.int .i64)
theorem ivI_append (a b : List Int) : ivI (a ++ b) = ivI a ++ ivI b := by simp [ivI]

/-- The kept rates of a killer at block b: rows of l1 and l2. -/
structure ForS (s : ByteArray) (r z d g : Int) (w : World) (b : Nat) (l1 l2 : List Int) (vD vU : Value) (wr : World) : Prop where
  blk : wr.heap[b]? = some (.cells #[.string s, .int .i64 r, .int .i64 z, .int .i64 d, .int .i64 g, vD, vU] 81 (0, 0))
  rowD : wr.ownsRow (b + 1) 3 1 vD l1.length (ivI l1)
  rowU : wr.ownsRow (b + 1) 3 1 vU l2.length (ivI l2)
  ne : vD.ownBlock = none ∨ vD.ownBlock ≠ vU.ownBlock
  low : Below w.heap.size w wr
  le : w.heap.size ≤ b
theorem ForS.cells {s : ByteArray} {r z d g : Int} {w : World} {b : Nat} {l1 l2 : List Int} {vD vU : Value} {wr : World} (h : ForS s r z d g w b l1 l2 vD vU wr) :
    wr.cell? ⟨b, 5, none⟩ = some vD ∧ wr.frozen? ⟨b, 5, none⟩ = false ∧ wr.cell? ⟨b, 6, none⟩ = some vU ∧ wr.frozen? ⟨b, 6, none⟩ = false ∧ b < wr.heap.size :=
  ⟨blk_cell h.blk, blk_free h.blk, blk_cell h.blk, blk_free h.blk, lt_of_block h.blk⟩
theorem fors_start {s : ByteArray} {r z d g : Int} {w : World} {o : Obj} : ForS s r z d g w (w.heap.size + 1) [] [] (.slice none 0 0) (.slice none 0 0) ((w.alloc o).alloc (.cells #[.string s, .int .i64 r, .int .i64 z, .int .i64 d, .int .i64 g, .slice none 0 0, .slice none 0 0] 81)) := by
  refine ⟨?_, World.ownsRow_nil _ _ _ _, World.ownsRow_nil _ _ _ _, .inl rfl, ((Below.refl _ _).alloc (Nat.le_refl _) _).alloc (by simp) _, by omega⟩
  have := heap_alloc_new (w.alloc o) (.cells #[.string s, .int .i64 r, .int .i64 z, .int .i64 d, .int .i64 g, .slice none 0 0, .slice none 0 0] 81)
  rw [show (w.alloc o).heap.size = w.heap.size + 1 by simp] at this
  exact this
/-- Behind the append to the first row, ahead of its store. -/
theorem ForS.midD {s : ByteArray} {r z d g : Int} {w : World} {b : Nat} {l1 l2 : List Int} {vD vU vD' : Value} {wr w1 : World} {o : Obj} {x : Int} (h : ForS s r z d g w b l1 l2 vD vU wr)
    (hr : w1.ownsRow (b + 1) 3 1 vD' (l1.length + 1) (ivI l1 ++ [.int .i64 x])) (hg : (wr.alloc o).grownBy w1 vD.ownBlock) (hn : vD'.ownBlock = vD.ownBlock ∨ vD'.ownBlock = some (wr.alloc o).heap.size) :
    w1.cell? ⟨b, 5, none⟩ = some vD ∧ w1.frozen? ⟨b, 5, none⟩ = false ∧ w1.cell? ⟨b, 6, none⟩ = some vU ∧ w1.frozen? ⟨b, 6, none⟩ = false ∧ b < w1.heap.size ∧ ForS s r z d g w b (l1 ++ [x]) l2 vD' vU (w1.setCell ⟨b, 5, none⟩ vD') := by
  have hg0 := World.grownBy_alloc wr o none
  have hblt := lt_of_block h.blk
  have hDb : vD.ownBlock ≠ some b := fun e => by have := (World.ownsRow.lt h.rowD b e).1; omega
  have hblk0 : (wr.alloc o).heap[b]? = some (.cells #[.string s, .int .i64 r, .int .i64 z, .int .i64 d, .int .i64 g, vD, vU] 81 (0, 0)) := (hg0.block b hblt (by simp)).trans h.blk
  have hblk : w1.heap[b]? = some (.cells #[.string s, .int .i64 r, .int .i64 z, .int .i64 d, .int .i64 g, vD, vU] 81 (0, 0)) := (hg.block b (Nat.lt_of_lt_of_le hblt hg0.size) (fun e => hDb e.symm)).trans hblk0
  have hD'b : vD'.ownBlock ≠ some b := fun e => by have := (World.ownsRow.lt hr b e).1; omega
  have hUb : vU.ownBlock ≠ some b := fun e => by have := (World.ownsRow.lt h.rowU b e).1; omega
  have hU1 : w1.ownsRow (b + 1) 3 1 vU l2.length (ivI l2) := World.ownsRow.kept (World.ownsRow.alloc h.rowU o) hg (by
    rcases h.ne with h1 | h1
    · rw [h1]; cases vU.ownBlock <;> simp
    · exact .inr fun e => h1 e.symm)
  have hlow : Below w.heap.size w w1 := (h.low.alloc h.low.size o).grown hg (by have := h.low.size; simp; omega) (fun k hk => by have := (World.ownsRow.lt h.rowD k hk).1; have := h.le; omega)
  refine ⟨blk_cell hblk, blk_free hblk, blk_cell hblk, blk_free hblk, lt_of_block hblk, blk_set hblk, ?_, ownsRow_setCell_other hU1 hUb _, ?_, hlow.setCell (show w.heap.size ≤ b from h.le) _, h.le⟩
  · rw [ivI_append, List.length_append]; exact ownsRow_setCell_other hr hD'b _
  · rcases hn with h1 | h1
    · rw [h1]; exact h.ne
    · refine .inr fun e => ?_
      rw [h1] at e
      have h2 := (World.ownsRow.lt h.rowU _ e.symm).2
      simp at h2
      omega
/-- Behind the append to the second row, ahead of its store. -/
theorem ForS.midU {s : ByteArray} {r z d g : Int} {w : World} {b : Nat} {l1 l2 : List Int} {vD vU vU' : Value} {wr w1 : World} {o : Obj} {x : Int} (h : ForS s r z d g w b l1 l2 vD vU wr)
    (hr : w1.ownsRow (b + 1) 3 1 vU' (l2.length + 1) (ivI l2 ++ [.int .i64 x])) (hg : (wr.alloc o).grownBy w1 vU.ownBlock) (hn : vU'.ownBlock = vU.ownBlock ∨ vU'.ownBlock = some (wr.alloc o).heap.size) :
    w1.cell? ⟨b, 6, none⟩ = some vU ∧ w1.frozen? ⟨b, 6, none⟩ = false ∧ b < w1.heap.size ∧ ForS s r z d g w b l1 (l2 ++ [x]) vD vU' (w1.setCell ⟨b, 6, none⟩ vU') := by
  have hg0 := World.grownBy_alloc wr o none
  have hblt := lt_of_block h.blk
  have hUb : vU.ownBlock ≠ some b := fun e => by have := (World.ownsRow.lt h.rowU b e).1; omega
  have hblk0 : (wr.alloc o).heap[b]? = some (.cells #[.string s, .int .i64 r, .int .i64 z, .int .i64 d, .int .i64 g, vD, vU] 81 (0, 0)) := (hg0.block b hblt (by simp)).trans h.blk
  have hblk : w1.heap[b]? = some (.cells #[.string s, .int .i64 r, .int .i64 z, .int .i64 d, .int .i64 g, vD, vU] 81 (0, 0)) := (hg.block b (Nat.lt_of_lt_of_le hblt hg0.size) (fun e => hUb e.symm)).trans hblk0
  have hU'b : vU'.ownBlock ≠ some b := fun e => by have := (World.ownsRow.lt hr b e).1; omega
  have hDb : vD.ownBlock ≠ some b := fun e => by have := (World.ownsRow.lt h.rowD b e).1; omega
  have hD1 : w1.ownsRow (b + 1) 3 1 vD l1.length (ivI l1) := World.ownsRow.kept (World.ownsRow.alloc h.rowD o) hg h.ne
  have hlow : Below w.heap.size w w1 := (h.low.alloc h.low.size o).grown hg (by have := h.low.size; simp; omega) (fun k hk => by have := (World.ownsRow.lt h.rowU k hk).1; have := h.le; omega)
  refine ⟨blk_cell hblk, blk_free hblk, lt_of_block hblk, blk_set hblk, ownsRow_setCell_other hD1 hDb _, ?_, ?_, hlow.setCell (show w.heap.size ≤ b from h.le) _, h.le⟩
  · rw [ivI_append, List.length_append]; exact ownsRow_setCell_other hr hU'b _
  · rcases hn with h1 | h1
    · rw [h1]; exact h.ne
    · cases hvd : vD.ownBlock with
      | none => exact .inl rfl
      | some j =>
        refine .inr fun e => ?_
        rw [h1] at e
        have h2 := (World.ownsRow.lt h.rowD _ hvd).2
        cases e
        simp at h2
        omega
theorem row_succ {W : World} {base : Nat} {e : TypeId} {size : Nat} {v : Value} {k : Nat} {xs : List Value} (h : W.ownsRow base e size v (k + 1) xs) : ∃ g cap, v = .slice (some ⟨g, 0, none⟩) (k + 1) cap := by
  rcases h.2 with ⟨_, h0⟩ | ⟨g, cap, _, rfl, _⟩
  · omega
  · exact ⟨g, cap, rfl⟩
theorem size_set (w : World) (a : Addr) (u : Value) : (w.setCell a u).heap.size = w.heap.size := by simp [World.setCell]
theorem cell_one_set {w : World} {a : Addr} {u' c : Value} {T : TypeId} : ∀ j u, [c][j]? = some u → ((w.setCell a u').alloc (.cells #[c] T)).cell? ((⟨w.heap.size, 0, none⟩ : Addr).add j) = some u := by
  have h := cell_one_at (w := w.setCell a u') (c := c) (T := T)
  rw [size_set] at h
  exact h
def negs (k : Nat) : List Int := List.replicate k (-1)
theorem negs_succ (k : Nat) : negs (k + 1) = negs k ++ [-1] := by unfold negs; rw [List.replicate_succ']
theorem negs_len (k : Nat) : (negs k).length = k := by simp [negs]

/-- What For hands back. -/
def ForP (s : ByteArray) (r z d g : Int) (N : Nat) (w : World) (e : Ending) (w' : World) : Prop := ∃ b vD vU, e = .returned (.pointer (some ⟨b, 0, none⟩)) ∧ ForS s r z d g w b (negs N) (negs N) vD vU w'
set_option maxRecDepth 6000 in
set_option maxHeartbeats 4000000 in
theorem for_any (s : ByteArray) (r z d g : Int) (w : World) (_hs : s.size ≤ maxLen) :
    Calls Try.prog 73 #[.agg #[.string s, .int .i64 r, .int .i64 z, .int .i64 d, .int .i64 g]] w (ForP s r z d g 1003 w) := by
  obtain ⟨i0, hi, hz0, hz1, hz2⟩ := info_parts info_int
  obtain ⟨N, hN⟩ : ∃ N, N = 1003 := ⟨_, rfl⟩
  have HN := hid hN
  rw [← hN]
  clear hN
  go_enter Try.func73, Try.ntmps73
  go_wp2
  have HS := hid (fors_start (s := s) (r := r) (z := z) (d := d) (g := g) (w := w) (o := .cells #[.string s, .int .i64 r, .int .i64 z, .int .i64 d, .int .i64 g] 23))
  go_loopw [4] (fun i wr => ∃ k : Nat, k ≤ N ∧ i = .int .i64 k ∧ ∃ vD vU, Hid (ForS s r z d g w (w.heap.size + 1) (negs k) (negs k) vD vU wr)) (fun i _ => N - (intOf i).toNat)
  case atStart => exact ⟨0, Nat.zero_le _, rfl, _, _, HS⟩
  case round =>
    obtain ⟨k, hk, rfl, vD, vU, hF⟩ := hrel
    clear HS
    by_cases hlt : k < N
    · have hlt' : (k : Int) < 1003 := by have := HN.out; omega
      obtain ⟨c5, f5, c6, f6, hb⟩ := hF.out.cells
      go_wp2_with (first
        | (at_builtin; refine wpList_append_own_at _ rfl _ _ 32 rfl (w.heap.size + 1 + 1) 3 i0 (.int .i64 0) 1 8 Try.underlying32 hi hz0 hz1 hz2 rfl (by decide) _ _ _ rfl (World.ownsRow.alloc hF.out.rowD _) ⟨wr.heap.size, 0, none⟩ 1 1 [.int .i64 (-1)] rfl rfl cell_one_at one_cell (by rw [negs_len]; unfold maxLen; omega) (by rw [negs_len]; omega) (by simp; omega) ?_; intro v1 w1 hown1 hgrow1 _ hat1; obtain ⟨g1, cap1, rfl⟩ := row_succ hown1; clear c5 f5 c6 f6; obtain ⟨c5, f5, c6, f6, hb1, hF1⟩ := hF.out.midD hown1 hgrow1 hat1; have HF1 := hid hF1; clear hF1 hown1 hgrow1 hat1)
        | (at_builtin; refine wpList_append_own_at _ rfl _ _ 32 rfl (w.heap.size + 1 + 1) 3 i0 (.int .i64 0) 1 8 Try.underlying32 hi hz0 hz1 hz2 rfl (by decide) _ _ _ rfl (World.ownsRow.alloc HF1.out.rowU _) ⟨_, 0, none⟩ 1 1 [.int .i64 (-1)] rfl rfl cell_one_set one_cell (by rw [negs_len]; unfold maxLen; omega) (by rw [negs_len]; omega) (by simp; omega) ?_; intro v2 w2 hown2 hgrow2 _ hat2; obtain ⟨g2, cap2, rfl⟩ := row_succ hown2; obtain ⟨c6, f6, hb3, hF2⟩ := HF1.out.midU hown2 hgrow2 hat2; have HF2 := hid hF2; clear hF2 hown2 hgrow2 hat2))
      go_roundw
      case rel => exact ⟨k + 1, by omega, by go_num, _, _, by rw [negs_succ]; exact HF2⟩
      case measure => simp [intOf]; omega
    · obtain rfl : k = N := by omega
      have hge : ¬ (k : Int) < 1003 := by have := HN.out; omega
      go_wp2
      go_ret
      exact ⟨_, vD, vU, rfl, hF.out⟩
end Go.Proofs.Ytfngmpkceceomaa
