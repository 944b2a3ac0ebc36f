/- Walk of the reference's looks: contract. -/
import Derived.Test.YtjfakhfkbnnbcaaP13
import Derived.Test.YtjfakhfkbnnbcaaP14
namespace Go.Proofs.Ytjfakhfkbnnbcaa
open Go.RowKit

/-- Looks: the tick and the word of checks. -/
def lkvs : List Ck → List Value
  | [] => []
  | c :: l => .int .i64 c.tk :: .bool c.gd :: lkvs l
theorem lkvs_len : ∀ l : List Ck, (lkvs l).length = l.length * 2
  | [] => rfl
  | c :: l => by simp only [lkvs, List.length_cons, lkvs_len l]; omega
theorem lkvs_app : ∀ l m : List Ck, lkvs (l ++ m) = lkvs l ++ lkvs m
  | [], m => rfl
  | c :: l, m => by simp only [lkvs, List.cons_append, lkvs_app l m]
theorem lkvs_at : ∀ (l : List Ck) (j : Nat) (h : j < l.length), (lkvs l)[j * 2]? = some (.int .i64 l[j].tk) ∧ (lkvs l)[j * 2 + 1]? = some (.bool l[j].gd)
  | c :: l, 0, _ => by simp [lkvs]
  | c :: l, j + 1, h => by
    have ih := lkvs_at l j (by simpa using h)
    have e : (j + 1) * 2 = j * 2 + 1 + 1 := by omega
    rw [e]
    simpa [lkvs] using ih
def OwnW (w : World) (base : Nat) (v : Value) (l : List Ck) : Prop := w.ownsRow base 94 2 v l.length (lkvs l)
theorem infoW : ∃ i, Try.prog.info? 94 = some i ∧ i.zero = some (.agg #[.int .i64 0, .bool false]) ∧ i.size = 2 ∧ i.bytes = 16 := info_parts (by kernel_rfl)
/-- Looks that are read. -/
def RowW (w : World) (v : Value) (l : List Ck) : Prop := ∃ a b o cap, v = .slice a l.length cap ∧ l.length ≤ cap ∧ cap ≤ maxLen ∧ (l = [] ∨ a = some ⟨b, o, none⟩) ∧ ∀ k (h : k < l.length), w.cell? ⟨b, o + k * 2, none⟩ = some (.int .i64 l[k].tk) ∧ w.cell? ⟨b, o + k * 2 + 1, none⟩ = some (.bool l[k].gd)
theorem RowW.keep {W w2 : World} {v : Value} {l : List Ck} (h : RowW W v l) (hb : Below W.heap.size W w2) : RowW w2 v l := by
  obtain ⟨a, b, o, cap, e, h1, h2, h3, h4⟩ := h
  exact ⟨a, b, o, cap, e, h1, h2, h3, fun k hk => ⟨keep_cell hb (h4 k hk).1, keep_cell hb (h4 k hk).2⟩⟩
theorem OwnW.row {w : World} {base : Nat} {v : Value} {l : List Ck} (h : OwnW w base v l) : RowW w v l := by
  rcases h.2 with ⟨rfl, h0⟩ | ⟨g, cap, cur, rfl, _, hg, hcap, hmx, hcs, ht⟩
  · have : l = [] := List.length_eq_zero_iff.1 h0
    subst this
    exact ⟨none, 0, 0, 0, rfl, Nat.le_refl _, by simp [maxLen], .inl rfl, fun k h => absurd h (Nat.not_lt_zero k)⟩
  · refine ⟨some ⟨g, 0, none⟩, g, 0, cap, rfl, hcap, hmx, .inr rfl, fun k hk => ?_⟩
    obtain ⟨h1, h2⟩ := lkvs_at l k hk
    rw [← ht] at h1 h2
    rw [List.getElem?_take_of_lt (by omega)] at h1 h2
    simp only [Nat.zero_add]
    refine ⟨?_, ?_⟩ <;> rw [cell_of_row w g _ cur _ _ hg]
    · simpa using h1
    · simpa using h2
theorem OwnW.keep {W w2 : World} {base : Nat} {v : Value} {l : List Ck} (h : OwnW W base v l) (hb : Below W.heap.size W w2) : OwnW w2 base v l := by
  refine ⟨h.1, ?_⟩
  rcases h.2 with hn | ⟨g, cap, cur, rfl, hb', hg, rest⟩
  · exact .inl hn
  · exact .inr ⟨g, cap, cur, rfl, hb', (hb.block _ (Array.getElem?_eq_some_iff.1 hg).1).trans hg, rest⟩
theorem OwnW.app {w : World} {base : Nat} {v : Value} {l : List Ck} {c : Ck} (h : w.ownsRow base 94 2 v (l.length + 1) (lkvs l ++ [.int .i64 c.tk, .bool c.gd])) : OwnW w base v (l ++ [c]) := by
  unfold OwnW
  rw [List.length_append, lkvs_app]
  exact h
theorem ownW_nil (w : World) (base : Nat) : OwnW w base (.slice none 0 0) [] := World.ownsRow_nil w base _ 2
theorem ownW_shape {w : World} {base : Nat} {v : Value} {l : List Ck} (h : OwnW w base v l) : ∃ ua uc, v = .slice ua l.length uc := by
  rcases h.2 with ⟨rfl, h0⟩ | ⟨g, cap, cur, rfl, _⟩
  · exact ⟨_, _, by rw [h0]⟩
  · exact ⟨_, _, rfl⟩
theorem oneW {x : Int} {z : Bool} : ∀ u ∈ [Value.int .i64 x, .bool z], u.oneCell' = true := by intro u hu; simp at hu; rcases hu with rfl | rfl <;> rfl
theorem belowW {w W2 w1 : World} {base : Nat} {v : Value} {l : List Ck} {o : Obj} (hW : Below w.heap.size w W2) (h : OwnW W2 base v l) (hb : w.heap.size ≤ base) (hg : (W2.alloc o).grownBy w1 v.ownBlock) : Below w.heap.size w w1 :=
  (hW.alloc hW.size _).grown hg (by have := hW.size; simp; omega) (fun k hk => by have := (World.ownsRow.lt h k hk).1; omega)
theorem ofH_take {h : Int} {G : Sh → Bool} {l : List Sh} {k : Nat} (hk : k < l.length) : ofH h (cksL G (l.take (k + 1))) = ofH h (cksL G (l.take k)) ++ (if l[k].hd = h then [⟨l[k].tk, l[k].hd, G l[k]⟩] else []) := by
  rw [cksL_take hk]
  unfold ofH
  rw [List.filter_append]
  by_cases g : l[k].hd = h <;> simp [g]
theorem ofH_len (h : Int) (l : List Ck) : (ofH h l).length ≤ l.length := List.length_filter_le _ _
theorem BoxN.grow {W w2 : World} {b : Nat} {n : Nm} {row : Option Nat} (h : BoxN W b n) (hg : W.grownBy w2 row) (hne : row ≠ some b) : BoxN w2 b n := fun i => by
  rw [World.cell?_of_block (a := ⟨b, i, none⟩) (hg.block b (World.block_lt_of_cell? W ⟨b, 0, none⟩ (h 0)) (fun e => hne e.symm))]
  exact h i
theorem ns_keep {W w2 : World} {a b q : Nat} {n : Nm} {x : Sh} (hb : Below W.heap.size W w2) (h : World.cell? (W) ⟨a, 0, none⟩ = some (.int .i64 n.bl) ∧ World.cell? (W) ⟨a, 1, none⟩ = some (.int .i64 n.bh) ∧ World.cell? (W) ⟨a, 2, none⟩ = some (.int .i64 n.cl) ∧ World.cell? (W) ⟨a, 3, none⟩ = some (.int .i64 n.ch) ∧ World.cell? (W) ⟨a, 4, none⟩ = some (.int .i64 n.pc) ∧ World.cell? (W) ⟨a, 5, none⟩ = some (.int .i64 n.wr) ∧ World.cell? (W) ⟨a, 6, none⟩ = some (.int .i64 n.tl) ∧ World.cell? (W) ⟨a, 7, none⟩ = some (.int .i64 n.th) ∧ World.cell? (W) ⟨a, 8, none⟩ = some (.int .i64 n.sl) ∧ World.cell? (W) ⟨a, 9, none⟩ = some (.int .i64 n.sh) ∧ World.cell? (W) ⟨b, q, none⟩ = some (.int .i64 x.tk) ∧ World.cell? (W) ⟨b, q + 1, none⟩ = some (.int .i64 x.hd) ∧ World.cell? (W) ⟨b, q + 2, none⟩ = some (.int .i64 x.bh) ∧ World.cell? (W) ⟨b, q + 3, none⟩ = some (.int .i64 x.ch) ∧ World.cell? (W) ⟨b, q + 4, none⟩ = some (.int .i64 x.ht) ∧ World.cell? (W) ⟨b, q + 5, none⟩ = some (.int .i64 x.ep) ∧ World.cell? (W) ⟨b, q + 6, none⟩ = some (.int .i64 x.bp) ∧ World.cell? (W) ⟨b, q + 7, none⟩ = some (.int .i64 x.wr) ∧ World.cell? (W) ⟨b, q + 8, none⟩ = some (.int .i64 x.th) ∧ World.cell? (W) ⟨b, q + 9, none⟩ = some (.int .i64 x.cs)) : World.cell? (w2) ⟨a, 0, none⟩ = some (.int .i64 n.bl) ∧ World.cell? (w2) ⟨a, 1, none⟩ = some (.int .i64 n.bh) ∧ World.cell? (w2) ⟨a, 2, none⟩ = some (.int .i64 n.cl) ∧ World.cell? (w2) ⟨a, 3, none⟩ = some (.int .i64 n.ch) ∧ World.cell? (w2) ⟨a, 4, none⟩ = some (.int .i64 n.pc) ∧ World.cell? (w2) ⟨a, 5, none⟩ = some (.int .i64 n.wr) ∧ World.cell? (w2) ⟨a, 6, none⟩ = some (.int .i64 n.tl) ∧ World.cell? (w2) ⟨a, 7, none⟩ = some (.int .i64 n.th) ∧ World.cell? (w2) ⟨a, 8, none⟩ = some (.int .i64 n.sl) ∧ World.cell? (w2) ⟨a, 9, none⟩ = some (.int .i64 n.sh) ∧ World.cell? (w2) ⟨b, q, none⟩ = some (.int .i64 x.tk) ∧ World.cell? (w2) ⟨b, q + 1, none⟩ = some (.int .i64 x.hd) ∧ World.cell? (w2) ⟨b, q + 2, none⟩ = some (.int .i64 x.bh) ∧ World.cell? (w2) ⟨b, q + 3, none⟩ = some (.int .i64 x.ch) ∧ World.cell? (w2) ⟨b, q + 4, none⟩ = some (.int .i64 x.ht) ∧ World.cell? (w2) ⟨b, q + 5, none⟩ = some (.int .i64 x.ep) ∧ World.cell? (w2) ⟨b, q + 6, none⟩ = some (.int .i64 x.bp) ∧ World.cell? (w2) ⟨b, q + 7, none⟩ = some (.int .i64 x.wr) ∧ World.cell? (w2) ⟨b, q + 8, none⟩ = some (.int .i64 x.th) ∧ World.cell? (w2) ⟨b, q + 9, none⟩ = some (.int .i64 x.cs) :=
  ⟨keep_cell hb h.1, keep_cell hb h.2.1, keep_cell hb h.2.2.1, keep_cell hb h.2.2.2.1, keep_cell hb h.2.2.2.2.1, keep_cell hb h.2.2.2.2.2.1, keep_cell hb h.2.2.2.2.2.2.1, keep_cell hb h.2.2.2.2.2.2.2.1, keep_cell hb h.2.2.2.2.2.2.2.2.1, keep_cell hb h.2.2.2.2.2.2.2.2.2.1, keep_cell hb h.2.2.2.2.2.2.2.2.2.2.1, keep_cell hb h.2.2.2.2.2.2.2.2.2.2.2.1, keep_cell hb h.2.2.2.2.2.2.2.2.2.2.2.2.1, keep_cell hb h.2.2.2.2.2.2.2.2.2.2.2.2.2.1, keep_cell hb h.2.2.2.2.2.2.2.2.2.2.2.2.2.2.1, keep_cell hb h.2.2.2.2.2.2.2.2.2.2.2.2.2.2.2.1, keep_cell hb h.2.2.2.2.2.2.2.2.2.2.2.2.2.2.2.2.1, keep_cell hb h.2.2.2.2.2.2.2.2.2.2.2.2.2.2.2.2.2.1, keep_cell hb h.2.2.2.2.2.2.2.2.2.2.2.2.2.2.2.2.2.2.1, keep_cell hb h.2.2.2.2.2.2.2.2.2.2.2.2.2.2.2.2.2.2.2⟩
theorem ns_grow {W w2 : World} {a b q : Nat} {n : Nm} {x : Sh} {row : Option Nat} (hg : W.grownBy w2 row) (h1 : row ≠ some a) (h2 : row ≠ some b) (h : World.cell? (W) ⟨a, 0, none⟩ = some (.int .i64 n.bl) ∧ World.cell? (W) ⟨a, 1, none⟩ = some (.int .i64 n.bh) ∧ World.cell? (W) ⟨a, 2, none⟩ = some (.int .i64 n.cl) ∧ World.cell? (W) ⟨a, 3, none⟩ = some (.int .i64 n.ch) ∧ World.cell? (W) ⟨a, 4, none⟩ = some (.int .i64 n.pc) ∧ World.cell? (W) ⟨a, 5, none⟩ = some (.int .i64 n.wr) ∧ World.cell? (W) ⟨a, 6, none⟩ = some (.int .i64 n.tl) ∧ World.cell? (W) ⟨a, 7, none⟩ = some (.int .i64 n.th) ∧ World.cell? (W) ⟨a, 8, none⟩ = some (.int .i64 n.sl) ∧ World.cell? (W) ⟨a, 9, none⟩ = some (.int .i64 n.sh) ∧ World.cell? (W) ⟨b, q, none⟩ = some (.int .i64 x.tk) ∧ World.cell? (W) ⟨b, q + 1, none⟩ = some (.int .i64 x.hd) ∧ World.cell? (W) ⟨b, q + 2, none⟩ = some (.int .i64 x.bh) ∧ World.cell? (W) ⟨b, q + 3, none⟩ = some (.int .i64 x.ch) ∧ World.cell? (W) ⟨b, q + 4, none⟩ = some (.int .i64 x.ht) ∧ World.cell? (W) ⟨b, q + 5, none⟩ = some (.int .i64 x.ep) ∧ World.cell? (W) ⟨b, q + 6, none⟩ = some (.int .i64 x.bp) ∧ World.cell? (W) ⟨b, q + 7, none⟩ = some (.int .i64 x.wr) ∧ World.cell? (W) ⟨b, q + 8, none⟩ = some (.int .i64 x.th) ∧ World.cell? (W) ⟨b, q + 9, none⟩ = some (.int .i64 x.cs)) : World.cell? (w2) ⟨a, 0, none⟩ = some (.int .i64 n.bl) ∧ World.cell? (w2) ⟨a, 1, none⟩ = some (.int .i64 n.bh) ∧ World.cell? (w2) ⟨a, 2, none⟩ = some (.int .i64 n.cl) ∧ World.cell? (w2) ⟨a, 3, none⟩ = some (.int .i64 n.ch) ∧ World.cell? (w2) ⟨a, 4, none⟩ = some (.int .i64 n.pc) ∧ World.cell? (w2) ⟨a, 5, none⟩ = some (.int .i64 n.wr) ∧ World.cell? (w2) ⟨a, 6, none⟩ = some (.int .i64 n.tl) ∧ World.cell? (w2) ⟨a, 7, none⟩ = some (.int .i64 n.th) ∧ World.cell? (w2) ⟨a, 8, none⟩ = some (.int .i64 n.sl) ∧ World.cell? (w2) ⟨a, 9, none⟩ = some (.int .i64 n.sh) ∧ World.cell? (w2) ⟨b, q, none⟩ = some (.int .i64 x.tk) ∧ World.cell? (w2) ⟨b, q + 1, none⟩ = some (.int .i64 x.hd) ∧ World.cell? (w2) ⟨b, q + 2, none⟩ = some (.int .i64 x.bh) ∧ World.cell? (w2) ⟨b, q + 3, none⟩ = some (.int .i64 x.ch) ∧ World.cell? (w2) ⟨b, q + 4, none⟩ = some (.int .i64 x.ht) ∧ World.cell? (w2) ⟨b, q + 5, none⟩ = some (.int .i64 x.ep) ∧ World.cell? (w2) ⟨b, q + 6, none⟩ = some (.int .i64 x.bp) ∧ World.cell? (w2) ⟨b, q + 7, none⟩ = some (.int .i64 x.wr) ∧ World.cell? (w2) ⟨b, q + 8, none⟩ = some (.int .i64 x.th) ∧ World.cell? (w2) ⟨b, q + 9, none⟩ = some (.int .i64 x.cs) :=
  ⟨cell_grow hg h1 h.1, cell_grow hg h1 h.2.1, cell_grow hg h1 h.2.2.1, cell_grow hg h1 h.2.2.2.1, cell_grow hg h1 h.2.2.2.2.1, cell_grow hg h1 h.2.2.2.2.2.1, cell_grow hg h1 h.2.2.2.2.2.2.1, cell_grow hg h1 h.2.2.2.2.2.2.2.1, cell_grow hg h1 h.2.2.2.2.2.2.2.2.1, cell_grow hg h1 h.2.2.2.2.2.2.2.2.2.1, cell_grow hg h2 h.2.2.2.2.2.2.2.2.2.2.1, cell_grow hg h2 h.2.2.2.2.2.2.2.2.2.2.2.1, cell_grow hg h2 h.2.2.2.2.2.2.2.2.2.2.2.2.1, cell_grow hg h2 h.2.2.2.2.2.2.2.2.2.2.2.2.2.1, cell_grow hg h2 h.2.2.2.2.2.2.2.2.2.2.2.2.2.2.1, cell_grow hg h2 h.2.2.2.2.2.2.2.2.2.2.2.2.2.2.2.1, cell_grow hg h2 h.2.2.2.2.2.2.2.2.2.2.2.2.2.2.2.2.1, cell_grow hg h2 h.2.2.2.2.2.2.2.2.2.2.2.2.2.2.2.2.2.1, cell_grow hg h2 h.2.2.2.2.2.2.2.2.2.2.2.2.2.2.2.2.2.2.1, cell_grow hg h2 h.2.2.2.2.2.2.2.2.2.2.2.2.2.2.2.2.2.2.2⟩
theorem ns_new {W : World} {a b q : Nat} {n : Nm} {x : Sh} (hn : BoxN W a n) (hx : ShAt W b q x) : World.cell? (W.drew) ⟨a, 0, none⟩ = some (.int .i64 n.bl) ∧ World.cell? (W.drew) ⟨a, 1, none⟩ = some (.int .i64 n.bh) ∧ World.cell? (W.drew) ⟨a, 2, none⟩ = some (.int .i64 n.cl) ∧ World.cell? (W.drew) ⟨a, 3, none⟩ = some (.int .i64 n.ch) ∧ World.cell? (W.drew) ⟨a, 4, none⟩ = some (.int .i64 n.pc) ∧ World.cell? (W.drew) ⟨a, 5, none⟩ = some (.int .i64 n.wr) ∧ World.cell? (W.drew) ⟨a, 6, none⟩ = some (.int .i64 n.tl) ∧ World.cell? (W.drew) ⟨a, 7, none⟩ = some (.int .i64 n.th) ∧ World.cell? (W.drew) ⟨a, 8, none⟩ = some (.int .i64 n.sl) ∧ World.cell? (W.drew) ⟨a, 9, none⟩ = some (.int .i64 n.sh) ∧ World.cell? (W.drew) ⟨b, q, none⟩ = some (.int .i64 x.tk) ∧ World.cell? (W.drew) ⟨b, q + 1, none⟩ = some (.int .i64 x.hd) ∧ World.cell? (W.drew) ⟨b, q + 2, none⟩ = some (.int .i64 x.bh) ∧ World.cell? (W.drew) ⟨b, q + 3, none⟩ = some (.int .i64 x.ch) ∧ World.cell? (W.drew) ⟨b, q + 4, none⟩ = some (.int .i64 x.ht) ∧ World.cell? (W.drew) ⟨b, q + 5, none⟩ = some (.int .i64 x.ep) ∧ World.cell? (W.drew) ⟨b, q + 6, none⟩ = some (.int .i64 x.bp) ∧ World.cell? (W.drew) ⟨b, q + 7, none⟩ = some (.int .i64 x.wr) ∧ World.cell? (W.drew) ⟨b, q + 8, none⟩ = some (.int .i64 x.th) ∧ World.cell? (W.drew) ⟨b, q + 9, none⟩ = some (.int .i64 x.cs) := by
  obtain ⟨x0, x1, x2, x3, x4, x5, x6, x7, x8, x9⟩ := hx
  exact ⟨hn 0, hn 1, hn 2, hn 3, hn 4, hn 5, hn 6, hn 7, hn 8, hn 9, x0, x1, x2, x3, x4, x5, x6, x7, x8, x9⟩

set_option maxRecDepth 20000 in
set_option maxHeartbeats 16000000 in
theorem looks_any (n : Nm) (v : Value) (l : List Sh) (h : Int) (w : World) (hr : RowH w v l) (hl : l.length ≤ 500) (hs : ∀ x ∈ l, shB x = true) : Calls Try.prog 38 #[.agg #[.int .i64 n.bl, .int .i64 n.bh, .int .i64 n.cl, .int .i64 n.ch, .int .i64 n.pc, .int .i64 n.wr, .int .i64 n.tl, .int .i64 n.th, .int .i64 n.sl, .int .i64 n.sh], v, .int .i64 h] w fun e w' => ∃ u, e = .returned u ∧ OwnW w' w.heap.size u (ofH h (cksL (goodB n) l)) ∧ Below w.heap.size w w' := by
  obtain ⟨i0, hi, hz0, hz1, hz2⟩ := infoW
  have HSB := hid hs
  have HR := hid (fun w1 (g : Below w.heap.size w w1) => hr.keep g)
  have HBX := hid (show BoxN (w.alloc (.cells #[.int .i64 n.bl, .int .i64 n.bh, .int .i64 n.cl, .int .i64 n.ch, .int .i64 n.pc, .int .i64 n.wr, .int .i64 n.tl, .int .i64 n.th, .int .i64 n.sl, .int .i64 n.sh] 23)) w.heap.size n from fun i => cell_alloc_new w _ _ _ i)
  have HB0 := hid ((Below.refl w.heap.size w).alloc (Nat.le_refl _) (.cells #[.int .i64 n.bl, .int .i64 n.bh, .int .i64 n.cl, .int .i64 n.ch, .int .i64 n.pc, .int .i64 n.wr, .int .i64 n.tl, .int .i64 n.th, .int .i64 n.sl, .int .i64 n.sh] 23))
  obtain ⟨va, vc, rfl⟩ := hr.shape
  obtain ⟨N, hn⟩ : ∃ N, N = l.length := ⟨_, rfl⟩
  have HN := hid hn
  have hn5 : N ≤ 500 := by omega
  rw [← hn] at HR ⊢
  clear hr hn hl hs
  have HN5 := hid hn5
  go_enter Try.func38, Try.ntmps38
  go_wp2
  go_loopw [7, 8] (fun a t wr => ∃ k : Nat, k ≤ N ∧ t = .int .i64 (k : Int) ∧ Hid (OwnW wr (w.heap.size + 1) a (ofH h (cksL (goodB n) (l.take k)))) ∧ Hid (BoxN wr w.heap.size n) ∧ Hid (Below w.heap.size w wr)) (fun _ t _ => N - (intOf t).toNat)
  case atStart => exact ⟨0, Nat.zero_le _, rfl, ownW_nil _ _, HBX, HB0⟩
  case round =>
    obtain ⟨k, hk, rfl, hO, hX, hB⟩ := hrel
    by_cases hlt : k < N
    · have hlt' : (k : Int) < N := by omega
      have hkl : k < l.length := by rw [← HN.out]; exact hlt
      obtain ⟨b, o, hva, hat⟩ := (HR.out _ hB.out).get (by omega)
      subst hva
      have HBL := hid (show b < w.heap.size from by
        obtain ⟨b', o', hva', hat'⟩ := (HR.out w (Below.refl _ _)).get (by omega)
        injection hva' with hva'
        injection hva' with e1 e2
        subst e1
        exact World.block_lt_of_cell? w ⟨b, _, none⟩ (hat' k hkl).1)
      have HT := hid (ofH_take (h := h) (G := goodB n) hkl)
      have HAT := hid (hat k hkl)
      have c1 := (hat k hkl).2.1
      have HXB := hid (HSB.out l[k] (List.getElem_mem hkl))
      have HLK := hid (show (ofH h (cksL (goodB n) (l.take k))).length ≤ 500 by have := ofH_len h (cksL (goodB n) (l.take k)); rw [cksL_len, List.length_take] at this; omega)
      generalize l[k] = x at *
      generalize ofH h (cksL (goodB n) (l.take k)) = lo at *
      have HLT := hid hlt
      clear hlt hkl hat
      by_cases hx : x.hd = h
      · have hT := HT.out
        rw [if_pos hx] at hT
        have HT := hid hT
        have HG := hid (good_list n x)
        clear hT
        subst hx
        obtain ⟨oa, oc, rfl⟩ := ownW_shape hO.out
        have HNA : Hid ((Value.slice oa lo.length oc).ownBlock ≠ some w.heap.size) := fun e => by have := (World.ownsRow.lt hO.out _ e).1; omega
        have HNB : Hid ((Value.slice oa lo.length oc).ownBlock ≠ some b) := fun e => by have := (World.ownsRow.lt hO.out _ e).1; have := HBL.out; omega
        go_wp2
        obtain ⟨NF, hNF⟩ : ∃ NF, NF = (fltL n x 6).length := ⟨_, rfl⟩
        rw [← hNF] at HG
        have HNF := hid hNF
        clear hNF c1
        by_cases h0 : NF = 0
        all_goals
          have hg0 : ((NF : Int) == 0) = goodB n x := by rw [← HG.out]; first | (subst h0; rfl) | (rw [decide_eq_false h0]; simp; omega)
          have hg1 : (NF == 0) = goodB n x := by rw [← HG.out]; first | (subst h0; rfl) | (rw [decide_eq_false h0]; simp; omega)
          clear h0
          obtain ⟨gx, hgx⟩ : ∃ gx, gx = goodB n x := ⟨_, rfl⟩
          rw [← hgx] at hg0 hg1 HT
          clear hgx
          go_region_held3 (fun w' => World.cell? (w') ⟨w.heap.size, 0, none⟩ = some (.int .i64 n.bl) ∧ World.cell? (w') ⟨w.heap.size, 1, none⟩ = some (.int .i64 n.bh) ∧ World.cell? (w') ⟨w.heap.size, 2, none⟩ = some (.int .i64 n.cl) ∧ World.cell? (w') ⟨w.heap.size, 3, none⟩ = some (.int .i64 n.ch) ∧ World.cell? (w') ⟨w.heap.size, 4, none⟩ = some (.int .i64 n.pc) ∧ World.cell? (w') ⟨w.heap.size, 5, none⟩ = some (.int .i64 n.wr) ∧ World.cell? (w') ⟨w.heap.size, 6, none⟩ = some (.int .i64 n.tl) ∧ World.cell? (w') ⟨w.heap.size, 7, none⟩ = some (.int .i64 n.th) ∧ World.cell? (w') ⟨w.heap.size, 8, none⟩ = some (.int .i64 n.sl) ∧ World.cell? (w') ⟨w.heap.size, 9, none⟩ = some (.int .i64 n.sh) ∧ World.cell? (w') ⟨b, o + k * 10, none⟩ = some (.int .i64 x.tk) ∧ World.cell? (w') ⟨b, o + k * 10 + 1, none⟩ = some (.int .i64 x.hd) ∧ World.cell? (w') ⟨b, o + k * 10 + 2, none⟩ = some (.int .i64 x.bh) ∧ World.cell? (w') ⟨b, o + k * 10 + 3, none⟩ = some (.int .i64 x.ch) ∧ World.cell? (w') ⟨b, o + k * 10 + 4, none⟩ = some (.int .i64 x.ht) ∧ World.cell? (w') ⟨b, o + k * 10 + 5, none⟩ = some (.int .i64 x.ep) ∧ World.cell? (w') ⟨b, o + k * 10 + 6, none⟩ = some (.int .i64 x.bp) ∧ World.cell? (w') ⟨b, o + k * 10 + 7, none⟩ = some (.int .i64 x.wr) ∧ World.cell? (w') ⟨b, o + k * 10 + 8, none⟩ = some (.int .i64 x.th) ∧ World.cell? (w') ⟨b, o + k * 10 + 9, none⟩ = some (.int .i64 x.cs)) (first | exact ns_new hX.out HAT.out | assumption | exact ns_keep ((Below.refl _ _).alloc (Nat.le_refl _) _) (by assumption) | exact ns_keep (by assumption) (by assumption))
            ((first
              | (go_at_call 43; refine Calls.mono (xfaults_any n x _ HXB.out) ?_; rintro e wk ⟨vz, rfl, hrow, hb⟩; obtain ⟨za, zb, zo, zcap, rfl, _⟩ := hrow; rw [← HNF.out]; have HBC := hid (bstep (Below.refl wr.heap.size wr).drew (Nat.le_refl _) hb))
              | (refine step_own rfl (.tmp 22) (.tmp 37) 65 rfl (w.heap.size + 1) 94 i0 (.agg #[.int .i64 0, .bool false]) 2 16 Try.underlying65 hi hz0 hz1 hz2 rfl (by decide) _ lo.length (lkvs lo) rfl (World.ownsRow.alloc (hO.out.keep HBC.out) _) ⟨wk.heap.size, 0, none⟩ 1 1 [.int .i64 x.tk, .bool gx] rfl rfl (cell_two_new rfl) oneW (by have := HLK.out; unfold maxLen; omega) (by have := HLK.out; omega) (by have h := HBC.out.size; have h2 : w.heap.size < wr.heap.size := World.block_lt_of_cell? wr ⟨w.heap.size, 0, none⟩ (hX.out 0); simp; omega) ?_; intro v5 w5 hown5 hgrow5; have hS5 := ns_grow hgrow5 HNA.out HNB.out (by assumption); have HO5 := hid (OwnW.app (c := ⟨x.tk, x.hd, gx⟩) hown5); have HB5 := hid (belowW (bstep hB.out hB.out.size HBC.out) (hO.out.keep HBC.out) (Nat.le_succ _) hgrow5); have HX5 := hid (BoxN.grow (BoxN.keep (hX.out.keep HBC.out) ((Below.refl _ _).alloc (Nat.le_refl _) _)) hgrow5 HNA.out); clear hown5 hgrow5)))
          go_wp2
          go_roundw
          case rel => exact ⟨k + 1, HLT.out, by go_num, by rw [HT.out]; exact HO5, HX5, HB5⟩
          case measure => have := HLT.out; simp [intOf]; omega
      · have hT := HT.out
        rw [if_neg hx, List.append_nil] at hT
        have HT := hid hT
        clear hT
        go_wp2
        go_roundw
        case rel => exact ⟨k + 1, HLT.out, by go_num, by rw [HT.out]; exact hO, hX, hB⟩
        case measure => have := HLT.out; simp [intOf]; omega
    · obtain rfl : k = N := by omega
      have HE : Hid (OwnW wr w.heap.size u7 (ofH h (cksL (goodB n) l))) := by
        have h := hO.out
        rw [HN.out, List.take_length] at h
        exact ⟨h.1, h.2.imp id fun ⟨g, cap, cur, e, hb, rest⟩ => ⟨g, cap, cur, e, Nat.le_of_succ_le hb, rest⟩⟩
      go_wp2
      go_ret
      exact ⟨_, rfl, HE.out, hB.out⟩
end Go.Proofs.Ytjfakhfkbnnbcaa
