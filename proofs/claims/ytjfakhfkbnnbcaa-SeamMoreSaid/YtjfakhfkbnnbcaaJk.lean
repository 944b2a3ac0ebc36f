/- Walk of Safe of the reference: contract. -/
import Derived.Test.YtjfakhfkbnnbcaaJi
import Derived.Test.YtjfakhfkbnnbcaaJg
namespace Go.Proofs.Ytjfakhfkbnnbcaa
open Go.RowKit Go.Shelf

/-- The last check not behind a tick, and the first one behind it. -/
def loK2 (F : List Ck) (t : Int) : Option Ck := (F.filter fun c => decide (c.tk ≤ t)).getLast?
def hiK2 (F : List Ck) (t : Int) : Option Ck := (F.filter fun c => decide (t < c.tk)).head?
def ckOf (G : Sh → Bool) (x : Sh) : Ck := ⟨x.tk, x.hd, G x⟩
theorem loK_yes {F : List Ck} {t : Int} {c : Ck} (h : c.tk ≤ t) : loK2 (F ++ [c]) t = some c := by simp [loK2, h]
theorem loK_no {F : List Ck} {t : Int} {c : Ck} (h : ¬ c.tk ≤ t) : loK2 (F ++ [c]) t = loK2 F t := by simp [loK2, h]
theorem hiK_no {F : List Ck} {t : Int} {c : Ck} (h : ¬ t < c.tk) : hiK2 (F ++ [c]) t = hiK2 F t := by simp [hiK2, h]
theorem hiK_first {F : List Ck} {t : Int} {c : Ck} (h : t < c.tk) (g : hiK2 F t = none) : hiK2 (F ++ [c]) t = some c := by
  unfold hiK2 at g ⊢
  rw [List.head?_eq_none_iff] at g
  rw [List.filter_append, g]
  simp [h]
theorem hiK_more {F : List Ck} {t : Int} {c d : Ck} (g : hiK2 F t = some d) : hiK2 (F ++ [c]) t = some d := by
  unfold hiK2 at g ⊢
  rw [List.filter_append, List.head?_append, g]
  rfl
theorem sfK_of (F : List Ck) (t : Int) : sfK F t = (match loK2 F t, hiK2 F t with | some x, some y => x.gd && y.gd | _, _ => false) := rfl
/-- An index that is -1 or that of a check. -/
def IxP (l : List Sh) (G : Sh → Bool) (o : Option Ck) (i : Nat) (z : Int) : Prop := (o = none ∧ z = -1) ∨ ∃ j, ∃ hj : j < l.length, j < i ∧ z = j ∧ o = some (ckOf G l[j])
theorem IxP.more {l : List Sh} {G : Sh → Bool} {o : Option Ck} {i : Nat} {z : Int} (h : IxP l G o i z) : IxP l G o (i + 1) z := by
  rcases h with h | ⟨j, hj, h1, h2⟩
  · exact .inl h
  · exact .inr ⟨j, hj, by omega, h2⟩
theorem ofH_yes {h : Int} {G : Sh → Bool} {l : List Sh} {k : Nat} (hk : k < l.length) (g : l[k].hd = h) : ofH h (cksL G (l.take (k + 1))) = ofH h (cksL G (l.take k)) ++ [ckOf G l[k]] := by
  rw [ofH_take hk, if_pos g]; rfl
theorem ofH_none {h : Int} {G : Sh → Bool} {l : List Sh} {k : Nat} (hk : k < l.length) (g : ¬ l[k].hd = h) : ofH h (cksL G (l.take (k + 1))) = ofH h (cksL G (l.take k)) := by
  rw [ofH_take hk, if_neg g, List.append_nil]
theorem sfB_bad {l : List Ck} {H k : Nat} {t : Int} (hk : k < H) (h : sfK (ofH ((k : Int) + 1) l) t = false) : sfB l (upL H) t = false := by
  unfold sfB
  rw [List.all_eq_false]
  refine ⟨(k : Int) + 1, ?_, by rw [h]; simp⟩
  unfold upL
  exact List.mem_map.2 ⟨k, List.mem_range.2 hk, rfl⟩
theorem sfB_step {l : List Ck} {k : Nat} {t : Int} (hk : sfB l (upL k) t = true) (h : sfK (ofH ((k : Int) + 1) l) t = true) : sfB l (upL (k + 1)) t = true := by
  unfold sfB at hk ⊢
  rw [upL_succ, List.all_append, hk]
  simp [h]
theorem nxy_keep {w W w2 : World} {a b q r : Nat} {n : Nm} {x y : Sh} (hb : Below W.heap.size W w2) (h : World.cell? (W) ⟨a, 0, none⟩ = some (.int .i64 n.bl) ∧ World.cell? (W) ⟨a, 1, none⟩ = some (.int .i64 n.bh) ∧ World.cell? (W) ⟨a, 2, none⟩ = some (.int .i64 n.cl) ∧ World.cell? (W) ⟨a, 3, none⟩ = some (.int .i64 n.ch) ∧ World.cell? (W) ⟨a, 4, none⟩ = some (.int .i64 n.pc) ∧ World.cell? (W) ⟨a, 5, none⟩ = some (.int .i64 n.wr) ∧ World.cell? (W) ⟨a, 6, none⟩ = some (.int .i64 n.tl) ∧ World.cell? (W) ⟨a, 7, none⟩ = some (.int .i64 n.th) ∧ World.cell? (W) ⟨a, 8, none⟩ = some (.int .i64 n.sl) ∧ World.cell? (W) ⟨a, 9, none⟩ = some (.int .i64 n.sh) ∧ World.cell? (W) ⟨b, q, none⟩ = some (.int .i64 x.tk) ∧ World.cell? (W) ⟨b, q + 1, none⟩ = some (.int .i64 x.hd) ∧ World.cell? (W) ⟨b, q + 2, none⟩ = some (.int .i64 x.bh) ∧ World.cell? (W) ⟨b, q + 3, none⟩ = some (.int .i64 x.ch) ∧ World.cell? (W) ⟨b, q + 4, none⟩ = some (.int .i64 x.ht) ∧ World.cell? (W) ⟨b, q + 5, none⟩ = some (.int .i64 x.ep) ∧ World.cell? (W) ⟨b, q + 6, none⟩ = some (.int .i64 x.bp) ∧ World.cell? (W) ⟨b, q + 7, none⟩ = some (.int .i64 x.wr) ∧ World.cell? (W) ⟨b, q + 8, none⟩ = some (.int .i64 x.th) ∧ World.cell? (W) ⟨b, q + 9, none⟩ = some (.int .i64 x.cs) ∧ World.cell? (W) ⟨b, r, none⟩ = some (.int .i64 y.tk) ∧ World.cell? (W) ⟨b, r + 1, none⟩ = some (.int .i64 y.hd) ∧ World.cell? (W) ⟨b, r + 2, none⟩ = some (.int .i64 y.bh) ∧ World.cell? (W) ⟨b, r + 3, none⟩ = some (.int .i64 y.ch) ∧ World.cell? (W) ⟨b, r + 4, none⟩ = some (.int .i64 y.ht) ∧ World.cell? (W) ⟨b, r + 5, none⟩ = some (.int .i64 y.ep) ∧ World.cell? (W) ⟨b, r + 6, none⟩ = some (.int .i64 y.bp) ∧ World.cell? (W) ⟨b, r + 7, none⟩ = some (.int .i64 y.wr) ∧ World.cell? (W) ⟨b, r + 8, none⟩ = some (.int .i64 y.th) ∧ World.cell? (W) ⟨b, r + 9, none⟩ = some (.int .i64 y.cs) ∧ Hid (Below w.heap.size w (W))) : World.cell? (w2) ⟨a, 0, none⟩ = some (.int .i64 n.bl) ∧ World.cell? (w2) ⟨a, 1, none⟩ = some (.int .i64 n.bh) ∧ World.cell? (w2) ⟨a, 2, none⟩ = some (.int .i64 n.cl) ∧ World.cell? (w2) ⟨a, 3, none⟩ = some (.int .i64 n.ch) ∧ World.cell? (w2) ⟨a, 4, none⟩ = some (.int .i64 n.pc) ∧ World.cell? (w2) ⟨a, 5, none⟩ = some (.int .i64 n.wr) ∧ World.cell? (w2) ⟨a, 6, none⟩ = some (.int .i64 n.tl) ∧ World.cell? (w2) ⟨a, 7, none⟩ = some (.int .i64 n.th) ∧ World.cell? (w2) ⟨a, 8, none⟩ = some (.int .i64 n.sl) ∧ World.cell? (w2) ⟨a, 9, none⟩ = some (.int .i64 n.sh) ∧ World.cell? (w2) ⟨b, q, none⟩ = some (.int .i64 x.tk) ∧ World.cell? (w2) ⟨b, q + 1, none⟩ = some (.int .i64 x.hd) ∧ World.cell? (w2) ⟨b, q + 2, none⟩ = some (.int .i64 x.bh) ∧ World.cell? (w2) ⟨b, q + 3, none⟩ = some (.int .i64 x.ch) ∧ World.cell? (w2) ⟨b, q + 4, none⟩ = some (.int .i64 x.ht) ∧ World.cell? (w2) ⟨b, q + 5, none⟩ = some (.int .i64 x.ep) ∧ World.cell? (w2) ⟨b, q + 6, none⟩ = some (.int .i64 x.bp) ∧ World.cell? (w2) ⟨b, q + 7, none⟩ = some (.int .i64 x.wr) ∧ World.cell? (w2) ⟨b, q + 8, none⟩ = some (.int .i64 x.th) ∧ World.cell? (w2) ⟨b, q + 9, none⟩ = some (.int .i64 x.cs) ∧ World.cell? (w2) ⟨b, r, none⟩ = some (.int .i64 y.tk) ∧ World.cell? (w2) ⟨b, r + 1, none⟩ = some (.int .i64 y.hd) ∧ World.cell? (w2) ⟨b, r + 2, none⟩ = some (.int .i64 y.bh) ∧ World.cell? (w2) ⟨b, r + 3, none⟩ = some (.int .i64 y.ch) ∧ World.cell? (w2) ⟨b, r + 4, none⟩ = some (.int .i64 y.ht) ∧ World.cell? (w2) ⟨b, r + 5, none⟩ = some (.int .i64 y.ep) ∧ World.cell? (w2) ⟨b, r + 6, none⟩ = some (.int .i64 y.bp) ∧ World.cell? (w2) ⟨b, r + 7, none⟩ = some (.int .i64 y.wr) ∧ World.cell? (w2) ⟨b, r + 8, none⟩ = some (.int .i64 y.th) ∧ World.cell? (w2) ⟨b, r + 9, none⟩ = some (.int .i64 y.cs) ∧ Hid (Below w.heap.size w (w2)) :=
  ⟨keep_cell hb h.1, keep_cell hb h.2.1, keep_cell hb h.2.2.1, keep_cell hb h.2.2.2.1, keep_cell hb h.2.2.2.2.1, keep_cell hb h.2.2.2.2.2.1, keep_cell hb h.2.2.2.2.2.2.1, keep_cell hb h.2.2.2.2.2.2.2.1, keep_cell hb h.2.2.2.2.2.2.2.2.1, keep_cell hb h.2.2.2.2.2.2.2.2.2.1, keep_cell hb h.2.2.2.2.2.2.2.2.2.2.1, keep_cell hb h.2.2.2.2.2.2.2.2.2.2.2.1, keep_cell hb h.2.2.2.2.2.2.2.2.2.2.2.2.1, keep_cell hb h.2.2.2.2.2.2.2.2.2.2.2.2.2.1, keep_cell hb h.2.2.2.2.2.2.2.2.2.2.2.2.2.2.1, keep_cell hb h.2.2.2.2.2.2.2.2.2.2.2.2.2.2.2.1, keep_cell hb h.2.2.2.2.2.2.2.2.2.2.2.2.2.2.2.2.1, keep_cell hb h.2.2.2.2.2.2.2.2.2.2.2.2.2.2.2.2.2.1, keep_cell hb h.2.2.2.2.2.2.2.2.2.2.2.2.2.2.2.2.2.2.1, keep_cell hb h.2.2.2.2.2.2.2.2.2.2.2.2.2.2.2.2.2.2.2.1, keep_cell hb h.2.2.2.2.2.2.2.2.2.2.2.2.2.2.2.2.2.2.2.2.1, keep_cell hb h.2.2.2.2.2.2.2.2.2.2.2.2.2.2.2.2.2.2.2.2.2.1, keep_cell hb h.2.2.2.2.2.2.2.2.2.2.2.2.2.2.2.2.2.2.2.2.2.2.1, keep_cell hb h.2.2.2.2.2.2.2.2.2.2.2.2.2.2.2.2.2.2.2.2.2.2.2.1, keep_cell hb h.2.2.2.2.2.2.2.2.2.2.2.2.2.2.2.2.2.2.2.2.2.2.2.2.1, keep_cell hb h.2.2.2.2.2.2.2.2.2.2.2.2.2.2.2.2.2.2.2.2.2.2.2.2.2.1, keep_cell hb h.2.2.2.2.2.2.2.2.2.2.2.2.2.2.2.2.2.2.2.2.2.2.2.2.2.2.1, keep_cell hb h.2.2.2.2.2.2.2.2.2.2.2.2.2.2.2.2.2.2.2.2.2.2.2.2.2.2.2.1, keep_cell hb h.2.2.2.2.2.2.2.2.2.2.2.2.2.2.2.2.2.2.2.2.2.2.2.2.2.2.2.2.1, keep_cell hb h.2.2.2.2.2.2.2.2.2.2.2.2.2.2.2.2.2.2.2.2.2.2.2.2.2.2.2.2.2.1, hid (bstep h.2.2.2.2.2.2.2.2.2.2.2.2.2.2.2.2.2.2.2.2.2.2.2.2.2.2.2.2.2.2.out h.2.2.2.2.2.2.2.2.2.2.2.2.2.2.2.2.2.2.2.2.2.2.2.2.2.2.2.2.2.2.out.size hb)⟩
theorem nxy_low {w W : World} {a b q r : Nat} {n : Nm} {x y : Sh} (h : World.cell? (W) ⟨a, 0, none⟩ = some (.int .i64 n.bl) ∧ World.cell? (W) ⟨a, 1, none⟩ = some (.int .i64 n.bh) ∧ World.cell? (W) ⟨a, 2, none⟩ = some (.int .i64 n.cl) ∧ World.cell? (W) ⟨a, 3, none⟩ = some (.int .i64 n.ch) ∧ World.cell? (W) ⟨a, 4, none⟩ = some (.int .i64 n.pc) ∧ World.cell? (W) ⟨a, 5, none⟩ = some (.int .i64 n.wr) ∧ World.cell? (W) ⟨a, 6, none⟩ = some (.int .i64 n.tl) ∧ World.cell? (W) ⟨a, 7, none⟩ = some (.int .i64 n.th) ∧ World.cell? (W) ⟨a, 8, none⟩ = some (.int .i64 n.sl) ∧ World.cell? (W) ⟨a, 9, none⟩ = some (.int .i64 n.sh) ∧ World.cell? (W) ⟨b, q, none⟩ = some (.int .i64 x.tk) ∧ World.cell? (W) ⟨b, q + 1, none⟩ = some (.int .i64 x.hd) ∧ World.cell? (W) ⟨b, q + 2, none⟩ = some (.int .i64 x.bh) ∧ World.cell? (W) ⟨b, q + 3, none⟩ = some (.int .i64 x.ch) ∧ World.cell? (W) ⟨b, q + 4, none⟩ = some (.int .i64 x.ht) ∧ World.cell? (W) ⟨b, q + 5, none⟩ = some (.int .i64 x.ep) ∧ World.cell? (W) ⟨b, q + 6, none⟩ = some (.int .i64 x.bp) ∧ World.cell? (W) ⟨b, q + 7, none⟩ = some (.int .i64 x.wr) ∧ World.cell? (W) ⟨b, q + 8, none⟩ = some (.int .i64 x.th) ∧ World.cell? (W) ⟨b, q + 9, none⟩ = some (.int .i64 x.cs) ∧ World.cell? (W) ⟨b, r, none⟩ = some (.int .i64 y.tk) ∧ World.cell? (W) ⟨b, r + 1, none⟩ = some (.int .i64 y.hd) ∧ World.cell? (W) ⟨b, r + 2, none⟩ = some (.int .i64 y.bh) ∧ World.cell? (W) ⟨b, r + 3, none⟩ = some (.int .i64 y.ch) ∧ World.cell? (W) ⟨b, r + 4, none⟩ = some (.int .i64 y.ht) ∧ World.cell? (W) ⟨b, r + 5, none⟩ = some (.int .i64 y.ep) ∧ World.cell? (W) ⟨b, r + 6, none⟩ = some (.int .i64 y.bp) ∧ World.cell? (W) ⟨b, r + 7, none⟩ = some (.int .i64 y.wr) ∧ World.cell? (W) ⟨b, r + 8, none⟩ = some (.int .i64 y.th) ∧ World.cell? (W) ⟨b, r + 9, none⟩ = some (.int .i64 y.cs) ∧ Hid (Below w.heap.size w (W))) : Below w.heap.size w W := h.2.2.2.2.2.2.2.2.2.2.2.2.2.2.2.2.2.2.2.2.2.2.2.2.2.2.2.2.2.2.out
theorem nxy_new {w W : World} {b q r : Nat} {n : Nm} {x y : Sh} (hn : Box1 w W #[.int .i64 n.bl, .int .i64 n.bh, .int .i64 n.cl, .int .i64 n.ch, .int .i64 n.pc, .int .i64 n.wr, .int .i64 n.tl, .int .i64 n.th, .int .i64 n.sl, .int .i64 n.sh]) (hx : ShAt W b q x) (hy : ShAt W b r y) : World.cell? (W.drew) ⟨w.heap.size, 0, none⟩ = some (.int .i64 n.bl) ∧ World.cell? (W.drew) ⟨w.heap.size, 1, none⟩ = some (.int .i64 n.bh) ∧ World.cell? (W.drew) ⟨w.heap.size, 2, none⟩ = some (.int .i64 n.cl) ∧ World.cell? (W.drew) ⟨w.heap.size, 3, none⟩ = some (.int .i64 n.ch) ∧ World.cell? (W.drew) ⟨w.heap.size, 4, none⟩ = some (.int .i64 n.pc) ∧ World.cell? (W.drew) ⟨w.heap.size, 5, none⟩ = some (.int .i64 n.wr) ∧ World.cell? (W.drew) ⟨w.heap.size, 6, none⟩ = some (.int .i64 n.tl) ∧ World.cell? (W.drew) ⟨w.heap.size, 7, none⟩ = some (.int .i64 n.th) ∧ World.cell? (W.drew) ⟨w.heap.size, 8, none⟩ = some (.int .i64 n.sl) ∧ World.cell? (W.drew) ⟨w.heap.size, 9, none⟩ = some (.int .i64 n.sh) ∧ World.cell? (W.drew) ⟨b, q, none⟩ = some (.int .i64 x.tk) ∧ World.cell? (W.drew) ⟨b, q + 1, none⟩ = some (.int .i64 x.hd) ∧ World.cell? (W.drew) ⟨b, q + 2, none⟩ = some (.int .i64 x.bh) ∧ World.cell? (W.drew) ⟨b, q + 3, none⟩ = some (.int .i64 x.ch) ∧ World.cell? (W.drew) ⟨b, q + 4, none⟩ = some (.int .i64 x.ht) ∧ World.cell? (W.drew) ⟨b, q + 5, none⟩ = some (.int .i64 x.ep) ∧ World.cell? (W.drew) ⟨b, q + 6, none⟩ = some (.int .i64 x.bp) ∧ World.cell? (W.drew) ⟨b, q + 7, none⟩ = some (.int .i64 x.wr) ∧ World.cell? (W.drew) ⟨b, q + 8, none⟩ = some (.int .i64 x.th) ∧ World.cell? (W.drew) ⟨b, q + 9, none⟩ = some (.int .i64 x.cs) ∧ World.cell? (W.drew) ⟨b, r, none⟩ = some (.int .i64 y.tk) ∧ World.cell? (W.drew) ⟨b, r + 1, none⟩ = some (.int .i64 y.hd) ∧ World.cell? (W.drew) ⟨b, r + 2, none⟩ = some (.int .i64 y.bh) ∧ World.cell? (W.drew) ⟨b, r + 3, none⟩ = some (.int .i64 y.ch) ∧ World.cell? (W.drew) ⟨b, r + 4, none⟩ = some (.int .i64 y.ht) ∧ World.cell? (W.drew) ⟨b, r + 5, none⟩ = some (.int .i64 y.ep) ∧ World.cell? (W.drew) ⟨b, r + 6, none⟩ = some (.int .i64 y.bp) ∧ World.cell? (W.drew) ⟨b, r + 7, none⟩ = some (.int .i64 y.wr) ∧ World.cell? (W.drew) ⟨b, r + 8, none⟩ = some (.int .i64 y.th) ∧ World.cell? (W.drew) ⟨b, r + 9, none⟩ = some (.int .i64 y.cs) ∧ Hid (Below W.heap.size W (W.drew)) := by
  obtain ⟨x0, x1, x2, x3, x4, x5, x6, x7, x8, x9⟩ := hx
  obtain ⟨y0, y1, y2, y3, y4, y5, y6, y7, y8, y9⟩ := hy
  exact ⟨hn.fst 0, hn.fst 1, hn.fst 2, hn.fst 3, hn.fst 4, hn.fst 5, hn.fst 6, hn.fst 7, hn.fst 8, hn.fst 9, x0, x1, x2, x3, x4, x5, x6, x7, x8, x9, y0, y1, y2, y3, y4, y5, y6, y7, y8, y9, hid (Below.refl _ W).drew⟩
set_option maxRecDepth 20000 in
set_option maxHeartbeats 32000000 in
theorem xsafe_any (n : Nm) (v : Value) (l : List Sh) (hd t : Int) (w : World) (hr : RowH w v l) (hl : l.length ≤ 200) : Calls Try.prog 16 #[.agg #[.int .i64 n.bl, .int .i64 n.bh, .int .i64 n.cl, .int .i64 n.ch, .int .i64 n.pc, .int .i64 n.wr, .int .i64 n.tl, .int .i64 n.th, .int .i64 n.sl, .int .i64 n.sh], v, .int .i64 hd, .int .i64 t] w (BoolP (sfA n l hd t) (sfC n l hd t) w) := by
  have HB0 := hid ((Below.refl w.heap.size w).alloc (Nat.le_refl _) (.cells #[.int .i64 n.bl, .int .i64 n.bh, .int .i64 n.cl, .int .i64 n.ch, .int .i64 n.pc, .int .i64 n.wr, .int .i64 n.tl, .int .i64 n.th, .int .i64 n.sl, .int .i64 n.sh] 23))
  have HBX := hid (box1_start (w := w) (A := #[.int .i64 n.bl, .int .i64 n.bh, .int .i64 n.cl, .int .i64 n.ch, .int .i64 n.pc, .int .i64 n.wr, .int .i64 n.tl, .int .i64 n.th, .int .i64 n.sl, .int .i64 n.sh]) (T := 23) (fz := (0, 0)))
  obtain ⟨A, hA⟩ : ∃ A, nmB n = A := ⟨_, rfl⟩
  obtain ⟨B, hB⟩ : ∃ B, shsB l = B := ⟨_, rfl⟩
  obtain ⟨C, hC⟩ : ∃ C, inB hd 1 12 = C := ⟨_, rfl⟩
  obtain ⟨D, hD⟩ : ∃ D, inB t 0 100000000 = D := ⟨_, rfl⟩
  have HNM := hid hA
  have HV := hid (show sfC n l hd t = if A && B then (if C && D then 0 else 7) else 1 by rw [← hA, ← hB, ← hC, ← hD]; rfl)
  have HR := hid (fun w1 (g : Below w.heap.size w w1) => hr.keep g)
  have HCS := hid (fun w1 (g : Below w.heap.size w w1) => kxsheets_any v l w1 (hr.keep g))
  have HCI := hid (fun w1 => kxwithin_any hd 1 12 w1)
  have HCJ := hid (fun w1 => kxwithin_any t 0 100000000 w1)
  rw [hB] at HCS
  rw [hC] at HCI
  rw [hD] at HCJ
  clear hr
  cases A
  · clear hA hB hC hD
    go_enter Try.func16, Try.ntmps16
    go_wp2_with fail
    refine (kxnorm_any n _).mono ?_
    rintro e w1 ⟨rfl, hb⟩
    rw [HNM.out]
    have HB1 := hid (bstep HB0.out HB0.out.size hb)
    have HX1 := hid (HBX.out.keep hb)
    clear hb
    go_wp2_with fail
    refine bodyPost_ret (v := .tuple #[.bool false, .int .i64 1]) (by simp [results, Try.results16, go_sem]) rfl ?_
    exact sf_no (by rw [HV.out]; rfl) (by decide) HB1.out
  cases B
  · clear hA hB hC hD
    go_enter Try.func16, Try.ntmps16
    go_wp2_with fail
    refine (kxnorm_any n _).mono ?_
    rintro e w1 ⟨rfl, hb⟩
    rw [HNM.out]
    have HB1 := hid (bstep HB0.out HB0.out.size hb)
    have HX1 := hid (HBX.out.keep hb)
    clear hb
    go_wp2_with fail
    refine (HCS.out _ HB1.out).mono ?_
    rintro e w2 ⟨rfl, hb⟩
    have HB2 := hid (bstep HB1.out HB1.out.size hb)
    have HX2 := hid (HX1.out.keep hb)
    clear hb
    go_wp2_with fail
    refine bodyPost_ret (v := .tuple #[.bool false, .int .i64 1]) (by simp [results, Try.results16, go_sem]) rfl ?_
    exact sf_no (by rw [HV.out]; rfl) (by decide) HB2.out
  cases C
  · clear hA hB hC hD
    go_enter Try.func16, Try.ntmps16
    go_wp2_with fail
    refine (kxnorm_any n _).mono ?_
    rintro e w1 ⟨rfl, hb⟩
    rw [HNM.out]
    have HB1 := hid (bstep HB0.out HB0.out.size hb)
    have HX1 := hid (HBX.out.keep hb)
    clear hb
    go_wp2_with fail
    refine (HCS.out _ HB1.out).mono ?_
    rintro e w2 ⟨rfl, hb⟩
    have HB2 := hid (bstep HB1.out HB1.out.size hb)
    have HX2 := hid (HX1.out.keep hb)
    clear hb
    go_wp2_with fail
    refine (HCI.out _).mono ?_
    rintro e w3 ⟨rfl, rfl⟩
    go_wp2_with fail
    refine bodyPost_ret (v := .tuple #[.bool false, .int .i64 7]) (by simp [results, Try.results16, go_sem]) rfl ?_
    exact sf_no (by rw [HV.out]; rfl) (by decide) HB2.out
  cases D
  · clear hA hB hC hD
    go_enter Try.func16, Try.ntmps16
    go_wp2_with fail
    refine (kxnorm_any n _).mono ?_
    rintro e w1 ⟨rfl, hb⟩
    rw [HNM.out]
    have HB1 := hid (bstep HB0.out HB0.out.size hb)
    have HX1 := hid (HBX.out.keep hb)
    clear hb
    go_wp2_with fail
    refine (HCS.out _ HB1.out).mono ?_
    rintro e w2 ⟨rfl, hb⟩
    have HB2 := hid (bstep HB1.out HB1.out.size hb)
    have HX2 := hid (HX1.out.keep hb)
    clear hb
    go_wp2_with fail
    refine (HCI.out _).mono ?_
    rintro e w3 ⟨rfl, rfl⟩
    go_wp2_with fail
    refine (HCJ.out _).mono ?_
    rintro e w3 ⟨rfl, rfl⟩
    go_wp2_with fail
    refine bodyPost_ret (v := .tuple #[.bool false, .int .i64 7]) (by simp [results, Try.results16, go_sem]) rfl ?_
    exact sf_no (by rw [HV.out]; rfl) (by decide) HB2.out
  obtain ⟨g1, g2⟩ := inB_iff.1 hD
  obtain ⟨h1, h2⟩ := inB_iff.1 hC
  have HSA := hid (shs_all hB)
  have HL := hid hl
  obtain ⟨H, hH⟩ : ∃ H : Nat, (H : Int) = hd := ⟨hd.toNat, by omega⟩
  have hH12 : H ≤ 12 := by omega
  have hHN : hd.toNat = H := by omega
  have HAN := hid (show sfA n l hd t = sfB (cksL (goodB n) l) (upL H) t by unfold sfA; rw [HV.out, hHN]; rfl)
  obtain ⟨va, vc, rfl⟩ := (HR.out _ (Below.refl _ _)).shape
  obtain ⟨N, hn⟩ : ∃ N, N = l.length := ⟨_, rfl⟩
  have HN := hid hn
  have hN2 : N ≤ 200 := by omega
  rw [HAN.out, HV.out]
  rw [← hn] at HR HCS ⊢
  clear hA hB hC hD hl hHN HAN HV hn
  subst hH
  go_enter Try.func16, Try.ntmps16
  go_wp2_with fail
  refine (kxnorm_any n _).mono ?_
  rintro e w1 ⟨rfl, hb⟩
  rw [HNM.out]
  have HB1 := hid (bstep HB0.out HB0.out.size hb)
  have HX1 := hid (HBX.out.keep hb)
  clear hb
  go_wp2_with fail
  refine (HCS.out _ HB1.out).mono ?_
  rintro e w2 ⟨rfl, hb⟩
  have HB2 := hid (bstep HB1.out HB1.out.size hb)
  have HX2 := hid (HX1.out.keep hb)
  clear hb
  go_wp2_with fail
  refine (HCI.out _).mono ?_
  rintro e w3 ⟨rfl, rfl⟩
  go_wp2_with fail
  refine (HCJ.out _).mono ?_
  rintro e w3 ⟨rfl, rfl⟩
  go_wp2
  go_loopw [10] (fun a wr => ∃ k : Nat, k ≤ H ∧ a = .int .i64 ((k : Int) + 1) ∧ Hid (sfB (cksL (goodB n) l) (upL k) t = true) ∧ Hid (Box1 w wr #[.int .i64 n.bl, .int .i64 n.bh, .int .i64 n.cl, .int .i64 n.ch, .int .i64 n.pc, .int .i64 n.wr, .int .i64 n.tl, .int .i64 n.th, .int .i64 n.sl, .int .i64 n.sh])) (fun a _ => H + 1 - (intOf a).toNat)
  case atStart => exact ⟨0, Nat.zero_le _, rfl, rfl, HX2⟩
  case round =>
    obtain ⟨k, hk, rfl, hok, hX⟩ := hrel
    by_cases hlt : k < H
    · have hlt' : (k : Int) + 1 ≤ H := by omega
      have hkw : IntKind.i64.wrap ((k : Int) + 1 + 1) = (k : Int) + 1 + 1 := IntWalk.i64_in _ ⟨by omega, by omega⟩
      have HLT := hid hlt
      clear hlt
      have HRW := hid (HR.out _ hX.out.low)
      go_wp2
      go_loop [11, 12, 13] (fun p q s => ∃ i : Nat, i ≤ N ∧ s = .int .i64 (i : Int) ∧ ∃ bz az : Int, p = .int .i64 bz ∧ q = .int .i64 az ∧ Hid (IxP l (goodB n) (loK2 (ofH ((k : Int) + 1) (cksL (goodB n) (l.take i))) t) i bz) ∧ Hid (IxP l (goodB n) (hiK2 (ofH ((k : Int) + 1) (cksL (goodB n) (l.take i))) t) i az)) (fun _ _ s => N - (intOf s).toNat)
      case atStart => exact ⟨0, Nat.zero_le _, rfl, -1, -1, rfl, rfl, .inl ⟨rfl, rfl⟩, .inl ⟨rfl, rfl⟩⟩
      case round =>
        obtain ⟨i, hi, rfl, bz, az, rfl, rfl, hbz, haz⟩ := hrel
        by_cases hit : i < N
        · have hit' : (i : Int) < N := by omega
          have hil : i < l.length := by rw [← HN.out]; exact hit
          obtain ⟨b0, o, hva, hat⟩ := HRW.out.get (by omega)
          subst hva
          have c0 := (hat i hil).1
          have c1 := (hat i hil).2.1
          have HY := hid (fun g => ofH_yes (h := (k : Int) + 1) (G := goodB n) hil g)
          have HNO := hid (fun g => ofH_none (h := (k : Int) + 1) (G := goodB n) hil g)
          have HCK := hid (show ∀ z : Int, z = i → IxP l (goodB n) (some (ckOf (goodB n) l[i])) (i + 1) z from fun z hz => .inr ⟨i, hil, by omega, hz, rfl⟩)
          have HIT := hid hit
          clear hit hat
          generalize l[i] = x at *
          obtain ⟨F, hF⟩ : ∃ F, F = ofH ((k : Int) + 1) (cksL (goodB n) (l.take i)) := ⟨_, rfl⟩
          obtain ⟨F2, hF2⟩ : ∃ F2, F2 = ofH ((k : Int) + 1) (cksL (goodB n) (l.take (i + 1))) := ⟨_, rfl⟩
          rw [← hF] at HY HNO hbz haz
          rw [← hF2] at HY HNO
          have HF2 := hid hF2
          clear hF hF2
          clear hil
          by_cases hx : x.hd = (k : Int) + 1
          · have HF := hid (HY.out hx)
            rw [hx] at c1
            clear hx
            by_cases ht : x.tk ≤ t
            · have ht' : ¬ t < x.tk := by omega
              have HLO := hid (show loK2 F2 t = some (ckOf (goodB n) x) by rw [HF.out]; exact loK_yes ht)
              have HHI := hid (show hiK2 F2 t = hiK2 F t by rw [HF.out]; exact hiK_no ht')
              go_wp2
              go_round
              case rel => exact ⟨i + 1, HIT.out, by go_num, i, az, rfl, rfl, (by rw [← HF2.out, HLO.out]; exact HCK.out _ rfl), (by rw [← HF2.out, HHI.out]; exact haz.out.more)⟩
              case measure => have := HIT.out; simp [intOf]; omega
            · have ht' : t < x.tk := by omega
              have HLO := hid (show loK2 F2 t = loK2 F t by rw [HF.out]; exact loK_no ht)
              by_cases hz : az < 0
              · have HHI := hid (show hiK2 F2 t = some (ckOf (goodB n) x) by
                  rcases haz.out with ⟨e, _⟩ | ⟨j, _, _, e, _⟩
                  · rw [HF.out]; exact hiK_first ht' e
                  · omega)
                go_wp2
                go_round
                case rel => exact ⟨i + 1, HIT.out, by go_num, bz, i, rfl, rfl, (by rw [← HF2.out, HLO.out]; exact hbz.out.more), (by rw [← HF2.out, HHI.out]; exact HCK.out _ rfl)⟩
                case measure => have := HIT.out; simp [intOf]; omega
              · have HHI := hid (show hiK2 F2 t = hiK2 F t by
                  rcases haz.out with ⟨_, e⟩ | ⟨j, _, _, _, e⟩
                  · omega
                  · rw [HF.out, hiK_more e, e])
                go_wp2
                go_round
                case rel => exact ⟨i + 1, HIT.out, by go_num, bz, az, rfl, rfl, (by rw [← HF2.out, HLO.out]; exact hbz.out.more), (by rw [← HF2.out, HHI.out]; exact haz.out.more)⟩
                case measure => have := HIT.out; simp [intOf]; omega
          · have HF := hid (HNO.out hx)
            go_wp2
            go_round
            case rel => exact ⟨i + 1, HIT.out, by go_num, bz, az, rfl, rfl, (by rw [← HF2.out, HF.out]; exact hbz.out.more), (by rw [← HF2.out, HF.out]; exact haz.out.more)⟩
            case measure => have := HIT.out; simp [intOf]; omega
        · obtain rfl : i = N := by omega
          have e : l.take i = l := by rw [HN.out, List.take_length]
          rw [e] at hbz haz
          have HSF := hid (sfK_of (ofH ((k : Int) + 1) (cksL (goodB n) l)) t)
          clear e hi hit
          have hii : ¬ (i : Int) < i := by omega
          rcases hbz.out with ⟨e1, rfl⟩ | ⟨j, hj, -, rfl, e1⟩
          · have HBAD := hid (sfB_bad (t := t) (l := cksL (goodB n) l) HLT.out (by rw [HSF.out, e1]))
            clear e1
            go_wp2
            go_quiet (fail)
            have HBQ := hid (bdrewN (n := nq) hX.out.low)
            go_wp2
            go_ret2
            exact ⟨by rw [HBAD.out]; rfl, HBQ.out⟩
          rcases haz.out with ⟨e2, rfl⟩ | ⟨i2, hj2, -, rfl, e2⟩
          · have HBAD := hid (sfB_bad (t := t) (l := cksL (goodB n) l) HLT.out (by rw [HSF.out, e1, e2]))
            clear e1 e2
            have hjj : decide ((j : Int) < 0) = false := decide_eq_false (by omega)
            go_wp2
            go_quiet (fail)
            have HBQ := hid (bdrewN (n := nq) hX.out.low)
            go_wp2
            go_ret2
            exact ⟨by rw [HBAD.out]; rfl, HBQ.out⟩
          obtain ⟨b0, o, hva, hat⟩ := HRW.out.get (by omega)
          subst hva
          have HXY := hid (nxy_new hX.out (hat j hj) (hat i2 hj2))
          have HSX := hid (HSA.out l[j] (List.getElem_mem hj))
          have HSY := hid (HSA.out l[i2] (List.getElem_mem hj2))
          have HV := hid (show sfK (ofH ((k : Int) + 1) (cksL (goodB n) l)) t = (goodB n l[j] && goodB n l[i2]) by rw [HSF.out, e1, e2]; rfl)
          have hj' : (j : Int) < i := by have := HN.out; omega
          have hj2' : (i2 : Int) < i := by have := HN.out; omega
          have hjw : IntKind.i64.wrap (j : Int) = (j : Int) := IntWalk.i64_in _ ⟨by omega, by omega⟩
          have hj2w : IntKind.i64.wrap (i2 : Int) = (i2 : Int) := IntWalk.i64_in _ ⟨by omega, by omega⟩
          clear e1 e2 hat hbz haz
          generalize l[j] = x at *
          generalize l[i2] = y at *
          have HGX := hid (good_list n x)
          have HGY := hid (good_list n y)
          obtain ⟨NX, hNX⟩ : ∃ NX, NX = (fltL n x 6).length := ⟨_, rfl⟩
          obtain ⟨NY, hNY⟩ : ∃ NY, NY = (fltL n y 6).length := ⟨_, rfl⟩
          have HNX := hid hNX
          have HNY := hid hNY
          rw [← hNX] at HGX
          rw [← hNY] at HGY
          clear hNX hNY hj hj2
          have hjn : decide ((j : Int) < 0) = false := decide_eq_false (by omega)
          have hj2n : decide ((i2 : Int) < 0) = false := decide_eq_false (by omega)
          have hjp : (0 : Int) ≤ j := by omega
          have hj2p : (0 : Int) ≤ i2 := by omega
          by_cases zx : NX = 0
          · have hgx : goodB n x = true := by rw [← HGX.out]; exact decide_eq_true zx
            by_cases zy : NY = 0
            · have hgy : goodB n y = true := by rw [← HGY.out]; exact decide_eq_true zy
              have HOK := hid (sfB_step hok.out (by rw [HV.out, hgx, hgy]; rfl))
              clear hgx hgy
              subst zx
              subst zy
              go_wp2
              go_region_held3 (fun w' => World.cell? (w') ⟨w.heap.size, 0, none⟩ = some (.int .i64 n.bl) ∧ World.cell? (w') ⟨w.heap.size, 1, none⟩ = some (.int .i64 n.bh) ∧ World.cell? (w') ⟨w.heap.size, 2, none⟩ = some (.int .i64 n.cl) ∧ World.cell? (w') ⟨w.heap.size, 3, none⟩ = some (.int .i64 n.ch) ∧ World.cell? (w') ⟨w.heap.size, 4, none⟩ = some (.int .i64 n.pc) ∧ World.cell? (w') ⟨w.heap.size, 5, none⟩ = some (.int .i64 n.wr) ∧ World.cell? (w') ⟨w.heap.size, 6, none⟩ = some (.int .i64 n.tl) ∧ World.cell? (w') ⟨w.heap.size, 7, none⟩ = some (.int .i64 n.th) ∧ World.cell? (w') ⟨w.heap.size, 8, none⟩ = some (.int .i64 n.sl) ∧ World.cell? (w') ⟨w.heap.size, 9, none⟩ = some (.int .i64 n.sh) ∧ World.cell? (w') ⟨b0, o + j * 10, none⟩ = some (.int .i64 x.tk) ∧ World.cell? (w') ⟨b0, o + j * 10 + 1, none⟩ = some (.int .i64 x.hd) ∧ World.cell? (w') ⟨b0, o + j * 10 + 2, none⟩ = some (.int .i64 x.bh) ∧ World.cell? (w') ⟨b0, o + j * 10 + 3, none⟩ = some (.int .i64 x.ch) ∧ World.cell? (w') ⟨b0, o + j * 10 + 4, none⟩ = some (.int .i64 x.ht) ∧ World.cell? (w') ⟨b0, o + j * 10 + 5, none⟩ = some (.int .i64 x.ep) ∧ World.cell? (w') ⟨b0, o + j * 10 + 6, none⟩ = some (.int .i64 x.bp) ∧ World.cell? (w') ⟨b0, o + j * 10 + 7, none⟩ = some (.int .i64 x.wr) ∧ World.cell? (w') ⟨b0, o + j * 10 + 8, none⟩ = some (.int .i64 x.th) ∧ World.cell? (w') ⟨b0, o + j * 10 + 9, none⟩ = some (.int .i64 x.cs) ∧ World.cell? (w') ⟨b0, o + i2 * 10, none⟩ = some (.int .i64 y.tk) ∧ World.cell? (w') ⟨b0, o + i2 * 10 + 1, none⟩ = some (.int .i64 y.hd) ∧ World.cell? (w') ⟨b0, o + i2 * 10 + 2, none⟩ = some (.int .i64 y.bh) ∧ World.cell? (w') ⟨b0, o + i2 * 10 + 3, none⟩ = some (.int .i64 y.ch) ∧ World.cell? (w') ⟨b0, o + i2 * 10 + 4, none⟩ = some (.int .i64 y.ht) ∧ World.cell? (w') ⟨b0, o + i2 * 10 + 5, none⟩ = some (.int .i64 y.ep) ∧ World.cell? (w') ⟨b0, o + i2 * 10 + 6, none⟩ = some (.int .i64 y.bp) ∧ World.cell? (w') ⟨b0, o + i2 * 10 + 7, none⟩ = some (.int .i64 y.wr) ∧ World.cell? (w') ⟨b0, o + i2 * 10 + 8, none⟩ = some (.int .i64 y.th) ∧ World.cell? (w') ⟨b0, o + i2 * 10 + 9, none⟩ = some (.int .i64 y.cs) ∧ Hid (Below wr.heap.size wr (w'))) (first | exact HXY.out | exact nxy_keep (by assumption) (by assumption))
                ((first
                  | (go_at_call 43; (with_reducible refine Calls.mono (xfaults_any n x _ HSX.out) ?_); rintro e wk ⟨vz, rfl, hrow, hb⟩; obtain ⟨za, zb, zo, zcap, rfl, _⟩ := hrow; rw [← HNX.out])
                  | (go_at_call 43; (with_reducible refine Calls.mono (xfaults_any n y _ HSY.out) ?_); rintro e wl ⟨vy, rfl, hrow2, hb2⟩; obtain ⟨ya, yb, yo, ycap, rfl, _⟩ := hrow2; rw [← HNY.out])))
              go_wp2
              go_roundw
              case rel => exact ⟨k + 1, HLT.out, by go_num, HOK, hid (hX.out.keep (nxy_low (by assumption)))⟩
              case measure => have := HLT.out; simp [intOf]; omega
            · have hgy : goodB n y = false := by rw [← HGY.out]; exact decide_eq_false zy
              have HBAD := hid (sfB_bad (t := t) (l := cksL (goodB n) l) HLT.out (by rw [HV.out, hgx, hgy]; rfl))
              have hzy : (0 : Int) < NY := by omega
              have hzy' : 0 < NY := by omega
              clear hgx hgy zy
              subst zx
              go_wp2
              go_region_held3 (fun w' => World.cell? (w') ⟨w.heap.size, 0, none⟩ = some (.int .i64 n.bl) ∧ World.cell? (w') ⟨w.heap.size, 1, none⟩ = some (.int .i64 n.bh) ∧ World.cell? (w') ⟨w.heap.size, 2, none⟩ = some (.int .i64 n.cl) ∧ World.cell? (w') ⟨w.heap.size, 3, none⟩ = some (.int .i64 n.ch) ∧ World.cell? (w') ⟨w.heap.size, 4, none⟩ = some (.int .i64 n.pc) ∧ World.cell? (w') ⟨w.heap.size, 5, none⟩ = some (.int .i64 n.wr) ∧ World.cell? (w') ⟨w.heap.size, 6, none⟩ = some (.int .i64 n.tl) ∧ World.cell? (w') ⟨w.heap.size, 7, none⟩ = some (.int .i64 n.th) ∧ World.cell? (w') ⟨w.heap.size, 8, none⟩ = some (.int .i64 n.sl) ∧ World.cell? (w') ⟨w.heap.size, 9, none⟩ = some (.int .i64 n.sh) ∧ World.cell? (w') ⟨b0, o + j * 10, none⟩ = some (.int .i64 x.tk) ∧ World.cell? (w') ⟨b0, o + j * 10 + 1, none⟩ = some (.int .i64 x.hd) ∧ World.cell? (w') ⟨b0, o + j * 10 + 2, none⟩ = some (.int .i64 x.bh) ∧ World.cell? (w') ⟨b0, o + j * 10 + 3, none⟩ = some (.int .i64 x.ch) ∧ World.cell? (w') ⟨b0, o + j * 10 + 4, none⟩ = some (.int .i64 x.ht) ∧ World.cell? (w') ⟨b0, o + j * 10 + 5, none⟩ = some (.int .i64 x.ep) ∧ World.cell? (w') ⟨b0, o + j * 10 + 6, none⟩ = some (.int .i64 x.bp) ∧ World.cell? (w') ⟨b0, o + j * 10 + 7, none⟩ = some (.int .i64 x.wr) ∧ World.cell? (w') ⟨b0, o + j * 10 + 8, none⟩ = some (.int .i64 x.th) ∧ World.cell? (w') ⟨b0, o + j * 10 + 9, none⟩ = some (.int .i64 x.cs) ∧ World.cell? (w') ⟨b0, o + i2 * 10, none⟩ = some (.int .i64 y.tk) ∧ World.cell? (w') ⟨b0, o + i2 * 10 + 1, none⟩ = some (.int .i64 y.hd) ∧ World.cell? (w') ⟨b0, o + i2 * 10 + 2, none⟩ = some (.int .i64 y.bh) ∧ World.cell? (w') ⟨b0, o + i2 * 10 + 3, none⟩ = some (.int .i64 y.ch) ∧ World.cell? (w') ⟨b0, o + i2 * 10 + 4, none⟩ = some (.int .i64 y.ht) ∧ World.cell? (w') ⟨b0, o + i2 * 10 + 5, none⟩ = some (.int .i64 y.ep) ∧ World.cell? (w') ⟨b0, o + i2 * 10 + 6, none⟩ = some (.int .i64 y.bp) ∧ World.cell? (w') ⟨b0, o + i2 * 10 + 7, none⟩ = some (.int .i64 y.wr) ∧ World.cell? (w') ⟨b0, o + i2 * 10 + 8, none⟩ = some (.int .i64 y.th) ∧ World.cell? (w') ⟨b0, o + i2 * 10 + 9, none⟩ = some (.int .i64 y.cs) ∧ Hid (Below wr.heap.size wr (w'))) (first | exact HXY.out | exact nxy_keep (by assumption) (by assumption))
                ((first
                  | (go_at_call 43; (with_reducible refine Calls.mono (xfaults_any n x _ HSX.out) ?_); rintro e wk ⟨vz, rfl, hrow, hb⟩; obtain ⟨za, zb, zo, zcap, rfl, _⟩ := hrow; rw [← HNX.out])
                  | (go_at_call 43; (with_reducible refine Calls.mono (xfaults_any n y _ HSY.out) ?_); rintro e wl ⟨vy, rfl, hrow2, hb2⟩; obtain ⟨ya, yb, yo, ycap, rfl, _⟩ := hrow2; rw [← HNY.out])))
              go_wp2
              go_ret2
              exact ⟨by rw [HBAD.out]; rfl, bstep hX.out.low hX.out.low.size (nxy_low (by assumption))⟩
          · have hgx : goodB n x = false := by rw [← HGX.out]; exact decide_eq_false zx
            have HBAD := hid (sfB_bad (t := t) (l := cksL (goodB n) l) HLT.out (by rw [HV.out, hgx]; rfl))
            have hzx : (0 : Int) < NX := by omega
            have hzx' : 0 < NX := by omega
            clear hgx zx
            go_wp2
            refine wp_region_held_drew (S := fun w' => World.cell? (w') ⟨w.heap.size, 0, none⟩ = some (.int .i64 n.bl) ∧ World.cell? (w') ⟨w.heap.size, 1, none⟩ = some (.int .i64 n.bh) ∧ World.cell? (w') ⟨w.heap.size, 2, none⟩ = some (.int .i64 n.cl) ∧ World.cell? (w') ⟨w.heap.size, 3, none⟩ = some (.int .i64 n.ch) ∧ World.cell? (w') ⟨w.heap.size, 4, none⟩ = some (.int .i64 n.pc) ∧ World.cell? (w') ⟨w.heap.size, 5, none⟩ = some (.int .i64 n.wr) ∧ World.cell? (w') ⟨w.heap.size, 6, none⟩ = some (.int .i64 n.tl) ∧ World.cell? (w') ⟨w.heap.size, 7, none⟩ = some (.int .i64 n.th) ∧ World.cell? (w') ⟨w.heap.size, 8, none⟩ = some (.int .i64 n.sl) ∧ World.cell? (w') ⟨w.heap.size, 9, none⟩ = some (.int .i64 n.sh) ∧ World.cell? (w') ⟨b0, o + j * 10, none⟩ = some (.int .i64 x.tk) ∧ World.cell? (w') ⟨b0, o + j * 10 + 1, none⟩ = some (.int .i64 x.hd) ∧ World.cell? (w') ⟨b0, o + j * 10 + 2, none⟩ = some (.int .i64 x.bh) ∧ World.cell? (w') ⟨b0, o + j * 10 + 3, none⟩ = some (.int .i64 x.ch) ∧ World.cell? (w') ⟨b0, o + j * 10 + 4, none⟩ = some (.int .i64 x.ht) ∧ World.cell? (w') ⟨b0, o + j * 10 + 5, none⟩ = some (.int .i64 x.ep) ∧ World.cell? (w') ⟨b0, o + j * 10 + 6, none⟩ = some (.int .i64 x.bp) ∧ World.cell? (w') ⟨b0, o + j * 10 + 7, none⟩ = some (.int .i64 x.wr) ∧ World.cell? (w') ⟨b0, o + j * 10 + 8, none⟩ = some (.int .i64 x.th) ∧ World.cell? (w') ⟨b0, o + j * 10 + 9, none⟩ = some (.int .i64 x.cs) ∧ World.cell? (w') ⟨b0, o + i2 * 10, none⟩ = some (.int .i64 y.tk) ∧ World.cell? (w') ⟨b0, o + i2 * 10 + 1, none⟩ = some (.int .i64 y.hd) ∧ World.cell? (w') ⟨b0, o + i2 * 10 + 2, none⟩ = some (.int .i64 y.bh) ∧ World.cell? (w') ⟨b0, o + i2 * 10 + 3, none⟩ = some (.int .i64 y.ch) ∧ World.cell? (w') ⟨b0, o + i2 * 10 + 4, none⟩ = some (.int .i64 y.ht) ∧ World.cell? (w') ⟨b0, o + i2 * 10 + 5, none⟩ = some (.int .i64 y.ep) ∧ World.cell? (w') ⟨b0, o + i2 * 10 + 6, none⟩ = some (.int .i64 y.bp) ∧ World.cell? (w') ⟨b0, o + i2 * 10 + 7, none⟩ = some (.int .i64 y.wr) ∧ World.cell? (w') ⟨b0, o + i2 * 10 + 8, none⟩ = some (.int .i64 y.th) ∧ World.cell? (w') ⟨b0, o + i2 * 10 + 9, none⟩ = some (.int .i64 y.cs) ∧ Hid (Below wr.heap.size wr (w'))) (by kernel_rfl) HXY.out (fun hS0 => ?_)
            refine wpAnyH_take (i := 0) (v := ?_) rfl (by kernel_rfl) (by kernel_rfl) (by kernel_rfl) (fun _ _ _ h => h) (Or.inl ⟨by rfl, ?_⟩) hS0 ?_
            rotate_left
            · intro w' hSw
              try dsimp only at hSw
              go_simp
              try with_reducible rfl
            simp only [Act.put, List.getElem_toArray, List.getElem_cons_zero, List.setIfInBounds_toArray, List.set_cons_zero, List.set_cons_succ]
            refine wpAnyH_take (i := 1) (v := ?_) rfl (by kernel_rfl) (by kernel_rfl) (by kernel_rfl) (fun _ _ _ h => h) (Or.inl ⟨by rfl, ?_⟩) hS0 ?_
            rotate_left
            · intro w' hSw
              try dsimp only at hSw
              go_simp
              try with_reducible rfl
            simp only [Act.put, List.getElem_toArray, List.getElem_cons_succ, List.getElem_cons_zero, List.setIfInBounds_toArray, List.set_cons_zero, List.set_cons_succ]
            refine wpAnyH_take (i := 2) (v := ?_) rfl (by kernel_rfl) (by kernel_rfl) (by kernel_rfl) (fun _ _ _ h => h) (Or.inl ⟨by rfl, ?_⟩) hS0 ?_
            rotate_left
            · intro w' hSw
              try dsimp only at hSw
              go_simp
              try with_reducible rfl
            simp only [Act.put, List.getElem_toArray, List.getElem_cons_succ, List.getElem_cons_zero, List.setIfInBounds_toArray, List.set_cons_zero, List.set_cons_succ]
            refine wpAnyH_take (i := 3) (v := ?_) rfl (by kernel_rfl) (by kernel_rfl) (by kernel_rfl) (fun _ _ _ h => h) (Or.inl ⟨by rfl, ?_⟩) hS0 ?_
            rotate_left
            · intro w' hSw
              try dsimp only at hSw
              go_simp
              try with_reducible rfl
            simp only [Act.put, List.getElem_toArray, List.getElem_cons_succ, List.getElem_cons_zero, List.setIfInBounds_toArray, List.set_cons_zero, List.set_cons_succ]
            refine wpAnyH_take (i := 4) (v := ?_) rfl (by kernel_rfl) (by kernel_rfl) (by kernel_rfl) (fun _ _ _ h => h) (Or.inl ⟨by rfl, ?_⟩) hS0 ?_
            rotate_left
            · intro w' hSw
              try dsimp only at hSw
              go_simp
              try with_reducible rfl
            simp only [Act.put, List.getElem_toArray, List.getElem_cons_succ, List.getElem_cons_zero, List.setIfInBounds_toArray, List.set_cons_zero, List.set_cons_succ]
            refine wpAnyH_take (i := 5) (v := ?_) rfl (by kernel_rfl) (by kernel_rfl) (by kernel_rfl) (fun _ _ _ h => h) (Or.inl ⟨by rfl, ?_⟩) hS0 ?_
            rotate_left
            · intro w' hSw
              try dsimp only at hSw
              go_simp
              try with_reducible rfl
            simp only [Act.put, List.getElem_toArray, List.getElem_cons_succ, List.getElem_cons_zero, List.setIfInBounds_toArray, List.set_cons_zero, List.set_cons_succ]
            refine wpAnyH_take (i := 6) (v := ?_) rfl (by kernel_rfl) (by kernel_rfl) (by kernel_rfl) (fun _ _ _ h => h) (Or.inl ⟨by rfl, ?_⟩) hS0 ?_
            rotate_left
            · intro w' hSw
              try dsimp only at hSw
              go_simp
              try with_reducible rfl
            simp only [Act.put, List.getElem_toArray, List.getElem_cons_succ, List.getElem_cons_zero, List.setIfInBounds_toArray, List.set_cons_zero, List.set_cons_succ]
            refine wpAnyH_take (i := 7) (v := ?_) rfl (by kernel_rfl) (by kernel_rfl) (by kernel_rfl) (fun _ _ _ h => h) (Or.inl ⟨by rfl, ?_⟩) hS0 ?_
            rotate_left
            · intro w' hSw
              try dsimp only at hSw
              go_simp
              try with_reducible rfl
            simp only [Act.put, List.getElem_toArray, List.getElem_cons_succ, List.getElem_cons_zero, List.setIfInBounds_toArray, List.set_cons_zero, List.set_cons_succ]
            refine wpAnyH_take (i := 8) (v := ?_) rfl (by kernel_rfl) (by kernel_rfl) (by kernel_rfl) (fun _ _ _ h => h) (Or.inl ⟨by rfl, ?_⟩) hS0 ?_
            rotate_left
            · intro w' hSw
              try dsimp only at hSw
              go_simp
              try with_reducible rfl
            simp only [Act.put, List.getElem_toArray, List.getElem_cons_succ, List.getElem_cons_zero, List.setIfInBounds_toArray, List.set_cons_zero, List.set_cons_succ]
            refine wpAnyH_take (i := 9) (v := ?_) rfl (by kernel_rfl) (by kernel_rfl) (by kernel_rfl) (fun _ _ _ h => h) (Or.inl ⟨by rfl, ?_⟩) hS0 ?_
            rotate_left
            · intro w' hSw
              try dsimp only at hSw
              go_simp
              try with_reducible rfl
            simp only [Act.put, List.getElem_toArray, List.getElem_cons_succ, List.getElem_cons_zero, List.setIfInBounds_toArray, List.set_cons_zero, List.set_cons_succ]
            refine wpAnyH_take (i := 10) (v := ?_) rfl (by kernel_rfl) (by kernel_rfl) (by kernel_rfl) (fun _ _ _ h => h) (Or.inl ⟨by rfl, ?_⟩) hS0 ?_
            rotate_left
            · intro w' hSw
              try dsimp only at hSw
              go_simp
              try with_reducible rfl
            simp only [Act.put, List.getElem_toArray, List.getElem_cons_succ, List.getElem_cons_zero, List.setIfInBounds_toArray, List.set_cons_zero, List.set_cons_succ]
            refine wpAnyH_take (i := 11) (v := ?_) rfl (by kernel_rfl) (by kernel_rfl) (by kernel_rfl) (fun _ _ _ h => h) (Or.inl ⟨by rfl, ?_⟩) hS0 ?_
            rotate_left
            · intro w' hSw
              try dsimp only at hSw
              go_simp
              try with_reducible rfl
            simp only [Act.put, List.getElem_toArray, List.getElem_cons_succ, List.getElem_cons_zero, List.setIfInBounds_toArray, List.set_cons_zero, List.set_cons_succ]
            (refine wpAnyH_ready (rs := [12]) (by kernel_rfl) (by simp) ?_)
            refine AllReadyH.cons rfl (fun K hK => ?_) AllReadyH.nil
            go_simp
            go_at_call 43
            refine Calls.mono (xfaults_any n x _ HSX.out) ?_
            rintro e wk ⟨vz, rfl, hrow, hb⟩
            obtain ⟨za, zb, zo, zcap, rfl, _⟩ := hrow
            rw [← HNX.out]
            (refine hK.out _ _ (nxy_keep hb hS0) (fun hS1 => ?_); clear hK K)
            refine wpAnyH_take (i := 13) (v := ?_) rfl (by kernel_rfl) (by kernel_rfl) (by kernel_rfl) (fun _ _ _ h => h) (Or.inl ⟨by rfl, ?_⟩) hS1 ?_
            rotate_left
            · intro w' hSw
              try dsimp only at hSw
              go_simp
              try with_reducible rfl
            simp only [Act.put, List.getElem_toArray, List.getElem_cons_succ, List.getElem_cons_zero, List.setIfInBounds_toArray, List.set_cons_zero, List.set_cons_succ]
            refine wpAnyH_take (i := 14) (v := ?_) rfl (by kernel_rfl) (by kernel_rfl) (by kernel_rfl) (fun _ _ _ h => h) (Or.inl ⟨by rfl, ?_⟩) hS1 ?_
            rotate_left
            · intro w' hSw
              try dsimp only at hSw
              go_simp
              try with_reducible rfl
            simp only [Act.put, List.getElem_toArray, List.getElem_cons_succ, List.getElem_cons_zero, List.setIfInBounds_toArray, List.set_cons_zero, List.set_cons_succ]
            refine wpAnyH_take (i := 15) (v := ?_) rfl (by kernel_rfl) (by kernel_rfl) (by kernel_rfl) (fun _ _ _ h => h) (Or.inl ⟨by rfl, ?_⟩) hS1 ?_
            rotate_left
            · intro w' hSw
              try dsimp only at hSw
              go_simp
              try with_reducible rfl
            simp only [Act.put, List.getElem_toArray, List.getElem_cons_succ, List.getElem_cons_zero, List.setIfInBounds_toArray, List.set_cons_zero, List.set_cons_succ]
            refine wpAnyH_take (i := 16) (v := ?_) rfl (by kernel_rfl) (by kernel_rfl) (by kernel_rfl) (fun _ _ _ h => h) (Or.inl ⟨by rfl, ?_⟩) hS1 ?_
            rotate_left
            · intro w' hSw
              try dsimp only at hSw
              go_simp
              try with_reducible rfl
            simp only [Act.put, List.getElem_toArray, List.getElem_cons_succ, List.getElem_cons_zero, List.setIfInBounds_toArray, List.set_cons_zero, List.set_cons_succ]
            refine wpAnyH_take (i := 17) (v := undef) rfl (by kernel_rfl) (by kernel_rfl) (by kernel_rfl) (fun _ _ _ h => h) (Or.inr ⟨by rfl, rfl⟩) hS1 ?_
            simp only [Act.put, List.getElem_toArray, List.getElem_cons_succ, List.getElem_cons_zero, List.setIfInBounds_toArray, List.set_cons_zero, List.set_cons_succ]
            refine wpAnyH_take (i := 18) (v := undef) rfl (by kernel_rfl) (by kernel_rfl) (by kernel_rfl) (fun _ _ _ h => h) (Or.inr ⟨by rfl, rfl⟩) hS1 ?_
            simp only [Act.put, List.getElem_toArray, List.getElem_cons_succ, List.getElem_cons_zero, List.setIfInBounds_toArray, List.set_cons_zero, List.set_cons_succ]
            refine wpAnyH_take (i := 19) (v := undef) rfl (by kernel_rfl) (by kernel_rfl) (by kernel_rfl) (fun _ _ _ h => h) (Or.inr ⟨by rfl, rfl⟩) hS1 ?_
            simp only [Act.put, List.getElem_toArray, List.getElem_cons_succ, List.getElem_cons_zero, List.setIfInBounds_toArray, List.set_cons_zero, List.set_cons_succ]
            refine wpAnyH_take (i := 20) (v := undef) rfl (by kernel_rfl) (by kernel_rfl) (by kernel_rfl) (fun _ _ _ h => h) (Or.inr ⟨by rfl, rfl⟩) hS1 ?_
            simp only [Act.put, List.getElem_toArray, List.getElem_cons_succ, List.getElem_cons_zero, List.setIfInBounds_toArray, List.set_cons_zero, List.set_cons_succ]
            refine wpAnyH_take (i := 21) (v := undef) rfl (by kernel_rfl) (by kernel_rfl) (by kernel_rfl) (fun _ _ _ h => h) (Or.inr ⟨by rfl, rfl⟩) hS1 ?_
            simp only [Act.put, List.getElem_toArray, List.getElem_cons_succ, List.getElem_cons_zero, List.setIfInBounds_toArray, List.set_cons_zero, List.set_cons_succ]
            refine wpAnyH_take (i := 22) (v := undef) rfl (by kernel_rfl) (by kernel_rfl) (by kernel_rfl) (fun _ _ _ h => h) (Or.inr ⟨by rfl, rfl⟩) hS1 ?_
            simp only [Act.put, List.getElem_toArray, List.getElem_cons_succ, List.getElem_cons_zero, List.setIfInBounds_toArray, List.set_cons_zero, List.set_cons_succ]
            refine wpAnyH_take (i := 23) (v := undef) rfl (by kernel_rfl) (by kernel_rfl) (by kernel_rfl) (fun _ _ _ h => h) (Or.inr ⟨by rfl, rfl⟩) hS1 ?_
            simp only [Act.put, List.getElem_toArray, List.getElem_cons_succ, List.getElem_cons_zero, List.setIfInBounds_toArray, List.set_cons_zero, List.set_cons_succ]
            refine wpAnyH_take (i := 24) (v := undef) rfl (by kernel_rfl) (by kernel_rfl) (by kernel_rfl) (fun _ _ _ h => h) (Or.inr ⟨by rfl, rfl⟩) hS1 ?_
            simp only [Act.put, List.getElem_toArray, List.getElem_cons_succ, List.getElem_cons_zero, List.setIfInBounds_toArray, List.set_cons_zero, List.set_cons_succ]
            refine wpAnyH_take (i := 25) (v := ?_) rfl (by kernel_rfl) (by kernel_rfl) (by kernel_rfl) (fun _ _ _ h => h) (Or.inl ⟨by rfl, ?_⟩) hS1 ?_
            rotate_left
            · intro w' hSw
              try dsimp only at hSw
              go_simp
              try with_reducible rfl
            simp only [Act.put, List.getElem_toArray, List.getElem_cons_succ, List.getElem_cons_zero, List.setIfInBounds_toArray, List.set_cons_zero, List.set_cons_succ]
            refine wpAnyH_done (by kernel_rfl) ?_ _
            go_wp2
            go_ret2
            exact ⟨by rw [HBAD.out]; rfl, bstep hX.out.low hX.out.low.size (nxy_low (by assumption))⟩
    · obtain rfl : k = H := by omega
      have hgt : (k : Int) < (k : Int) + 1 := by omega
      go_wp2
      go_ret2
      exact ⟨by rw [hok.out]; rfl, hX.out.low⟩
end Go.Proofs.Ytjfakhfkbnnbcaa
