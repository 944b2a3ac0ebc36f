/- Walk of first over a search's cooks: contract. -/
import Derived.Test.YtihbjimnjhfpeaaG35
import Derived.Test.YtihbjimnjhfpeaaG10
import Derived.Test.YtihbjimnjhfpeaaG36
namespace Go.Proofs.Ytihbjimnjhfpeaa
open Go.RowKit Go.Shelf Go.Lib
attribute [local go_sem] Oper.semAt_some

theorem grown_low {w W W' : World} {row : Option Nat} (h : w.grownBy W row) (hb : Below w.heap.size W W') : w.grownBy W' row :=
  ⟨hb.os.trans h.os, hb.tape.trans h.tape, hb.output.trans h.output, Nat.le_trans h.size hb.size, fun k hk hne => (hb.block k hk).trans (h.block k hk hne)⟩
section
variable {W W' : World} {yb : Nat} {x : Ck}
theorem rowI_offK {row : Option Nat} {a : Option Addr} {n cap : Nat} {l : List Int} (h : RowI W (.slice a n cap) l) (hg : W.grownBy W' row) (ho : ∀ p, a = some p → some p.block ≠ row) : RowI W' (.slice a n cap) l := by
  rcases h with h | ⟨b, o, cap', hv, hm, hc⟩
  · exact .inl h
  · cases hv
    exact .inr ⟨b, o, cap, rfl, hm, fun k hk => Lt.grown_cell hg (World.block_lt_of_cell? W ⟨b, o + k, none⟩ (hc k hk)) (ho ⟨b, o, none⟩ rfl) (hc k hk)⟩
/-- A cook's rows stay where a block turns that is no block of ints and no older than yb. -/
theorem CkAt.grown {row : Option Nat} (h : CkAt yb x W) (hg : W.grownBy W' row) (hr : ∀ j, row = some j → yb ≤ j ∧ ¬ IntAt W j) : CkAt yb x W' := by
  have ho : ∀ a, Loc yb W a → ∀ p, a = some p → some p.block ≠ row := fun a ha p e e2 => by
    obtain ⟨h1, h2⟩ := hr _ e2.symm
    rcases ha p e with h | ⟨h, hi⟩
    · omega
    · exact h2 hi
  have hl : ∀ a, Loc yb W a → Loc yb W' a := fun a ha p e => by
    rcases ha p e with h | ⟨h, cs, fz, hi⟩
    · exact .inl h
    · exact .inr ⟨h, cs, fz, (hg.block _ (lt_of_block hi) (ho a ha p e)).trans hi⟩
  exact ⟨rowI_offK h.temps hg (ho _ h.oa), rowI_offK h.sums hg (ho _ h.ob), hl _ h.oa, hl _ h.ob⟩
theorem CkAt.cells (h : CkAt yb x W) (hc : ∀ (g : Nat) (cs : Array Value) (T : Nat) (fr : Nat × Nat), W.heap[g]? = some (Obj.cells cs T fr) → W'.heap[g]? = some (Obj.cells cs T fr)) : CkAt yb x W' := by
  have hrow : ∀ {v : Value} {l : List Int}, RowI W v l → RowI W' v l := fun {v l} h => by
    rcases h with h | ⟨b, o, cap, hv, hm, h⟩
    · exact .inl h
    · refine .inr ⟨b, o, cap, hv, hm, fun k hk => ?_⟩
      obtain ⟨cs, t, fz, hb⟩ := cells_of_cell (h k hk)
      exact (World.cell?_of_block (a := ⟨b, o + k, none⟩) ((hc _ _ _ _ hb).trans hb.symm)).trans (h k hk)
  have hl : ∀ a, Loc yb W a → Loc yb W' a := fun a ha p e => by
    rcases ha p e with h | ⟨h, cs, fz, hi⟩
    · exact .inl h
    · exact .inr ⟨h, cs, fz, hc _ _ _ _ hi⟩
  exact ⟨hrow h.temps, hrow h.sums, hl _ h.oa, hl _ h.ob⟩
theorem noInt_cook {j : Nat} {cs : Array Value} {fz : Nat × Nat} (h : W.heap[j]? = some (.cells cs 78 fz)) : ¬ IntAt W j := fun ⟨cs', fz', hi⟩ => by
  rw [h] at hi
  exact absurd (Obj.cells.inj (Option.some.inj hi)).2.1 (by decide)
theorem noInt_other {j : Nat} {o : Obj} (h : W.heap[j]? = some o) (hc : o.isCells = false) : ¬ IntAt W j := fun ⟨cs', fz', hi⟩ => by
  rw [h] at hi
  cases hi
  cases hc
theorem noInt_apart {j : Nat} {o : Obj} (h : W.heap[j]? = some o) (hc : Obj.apart 78 o) : ¬ IntAt W j := by
  rcases hc with hc | ⟨cs, rfl⟩
  · exact noInt_other h hc
  · exact noInt_cook h
end
/-- What least's last is behind k rounds that told no. -/
def LastC (c : Cn) (f : Int → Nat) (D : Dish) (bath : Int) (m0 more yb k : Nat) (W : World) : Prop := ∃ x, W.heap[yb]? = some (.cells (ckc x) 78 (0, 0)) ∧ XsC c f D bath m0 more yb (k - 1) x W
def zck : Array Value := #[.slice none 0 0, .bool false, .slice none 0 0, .int .i64 0]
/-- What first's rounds stand on. -/
structure FiB (c : Cn) (need : Int) (F : Nat) (lb : Array Value) (bath cold : Int) (most cooling : Nat) (I : World → Prop) (sbL yb : Nat) (Z : Array Value) (bo : Bool) (w W : World) : Prop where
  sL : W.heap[sbL]? = some (.cells #[.int .i64 (c.R : Int), .int .i64 (c.L : Int), .int .i64 c.A, .int .i64 c.B, .int .i64 c.K, .int .i64 c.A2, .int .i64 c.B2, .int .i64 need, .func (.func F) #[] lb, .int .i64 bath, .int .i64 (most : Nat), .int .i64 cold, .int .i64 (cooling : Nat)] 58 (0, 0))
  inv : I W
  b1 : W.heap[w.heap.size]? = some (.cells #[.func (.func 45) #[] #[.pointer (some ⟨sbL, 0, none⟩), .pointer (some ⟨yb, 0, none⟩)]] 80 (0, 0))
  b2 : W.heap[w.heap.size + 1]? = some (.cells Z 78 (0, 0))
  b3 : W.heap[w.heap.size + 1 + 1]? = some (.cells #[.bool bo] 4 (0, 0))
  gr : w.grownBy W (some yb)
section
variable {c : Cn} {need : Int} {F : Nat} {lb : Array Value} {bath cold : Int} {most cooling : Nat} {f : Int → Nat} {lo hi : Int} {mb B0 : Nat} {I : World → Prop} {sbL yb B : Nat} {Z : Array Value} {bo : Bool} {w W W' : World}
theorem FiB.grown {row : Option Nat} (hR : RateOk F lb f lo hi mb B0 I) (h : FiB c need F lb bath cold most cooling I sbL yb Z bo w W) (hg : W.grownBy W' row) (hB0 : B0 ≤ yb) (hs : sbL < w.heap.size) (hne : sbL ≠ yb) (hy : yb < w.heap.size) (hr : ∀ j, row = some j → j = yb ∨ w.heap.size + 1 + 1 < j) : FiB c need F lb bath cold most cooling I sbL yb Z bo w W' := by
  have hk : ∀ j o, W.heap[j]? = some o → j ≠ yb → j ≤ w.heap.size + 1 + 1 → W'.heap[j]? = some o := fun j o h1 h2 h3 => (hg.block j (lt_of_block h1) (fun e => by have := hr _ e.symm; omega)).trans h1
  exact ⟨hk _ _ h.sL hne (by omega), hR.keep _ _ _ h.inv hg (fun j e => by have := hr _ e; omega), hk _ _ h.b1 (by omega) (by omega), hk _ _ h.b2 (by omega) (by omega), hk _ _ h.b3 (by omega) (by omega),
    Lt.grown_more h.gr hg (fun j e => by have := hr _ e; omega)⟩
theorem FiB.told (h : FiB c need F lb bath cold most cooling I sbL yb Z bo w W) (hR : RateOk F lb f lo hi mb B0 I) (hB0 : B0 ≤ yb) (hs : sbL < w.heap.size) (hy : yb < w.heap.size) {cs : Array Value} {b' : Bool} (hW : (W.setRow (w.heap.size + 1) cs).setCell ⟨w.heap.size + 1 + 1, 0, none⟩ (.bool b') = W') :
    FiB c need F lb bath cold most cooling I sbL yb cs b' w W' ∧ (∀ j, j ≠ w.heap.size + 1 → j ≠ w.heap.size + 1 + 1 → W'.heap[j]? = W.heap[j]?) ∧ W'.heap.size = W.heap.size ∧ ∃ W1, W.grownBy W1 (some (w.heap.size + 1)) ∧ ¬ IntAt W (w.heap.size + 1) ∧ W1.grownBy W' (some (w.heap.size + 1 + 1)) ∧ ¬ IntAt W1 (w.heap.size + 1 + 1) := by
  have g1 := grownBy_setRow W (w.heap.size + 1) cs
  have e1 : ∀ j, j ≠ w.heap.size + 1 → (W.setRow (w.heap.size + 1) cs).heap[j]? = W.heap[j]? := fun j hj => setRow_other _ _ _ _ hj
  have k2 : (W.setRow (w.heap.size + 1) cs).heap[w.heap.size + 1]? = some (.cells cs 78 (0, 0)) := setRow_heap _ _ _ _ _ _ h.b2
  have k3 : (W.setRow (w.heap.size + 1) cs).heap[w.heap.size + 1 + 1]? = some (.cells #[.bool bo] 4 (0, 0)) := (e1 _ (by omega)).trans h.b3
  have hz : (W.setRow (w.heap.size + 1) cs).heap.size = W.heap.size := by simp
  generalize W.setRow (w.heap.size + 1) cs = W1 at *
  have g2 : W1.grownBy (W1.setCell ⟨w.heap.size + 1 + 1, 0, none⟩ (.bool b')) (some (w.heap.size + 1 + 1)) := ⟨rfl, rfl, rfl, by simp, fun k _ hk => heap_setCell_other _ _ _ _ (fun e => hk (by rw [e]))⟩
  have e2 : ∀ j, j ≠ w.heap.size + 1 + 1 → (W1.setCell ⟨w.heap.size + 1 + 1, 0, none⟩ (.bool b')).heap[j]? = W1.heap[j]? := fun j hj => heap_setCell_other _ _ _ _ (by exact hj)
  have k4 := heap_setCell_same W1 (w.heap.size + 1 + 1) 0 _ _ (.bool b') k3
  have hz2 : (W1.setCell ⟨w.heap.size + 1 + 1, 0, none⟩ (.bool b')).heap.size = W1.heap.size := by simp
  rw [hW] at g2 e2 k4 hz2
  have ni : ¬ IntAt W1 (w.heap.size + 1 + 1) := fun ⟨cs', fz', hi⟩ => by
    rw [k3] at hi
    exact absurd (Obj.cells.inj (Option.some.inj hi)).2.1 (by decide)
  refine ⟨⟨(e2 _ (by omega)).trans ((e1 _ (by omega)).trans h.sL), hR.keep _ _ _ (hR.keep _ _ _ h.inv g1 (fun j e => by cases e; omega)) g2 (fun j e => by cases e; omega), (e2 _ (by omega)).trans ((e1 _ (by omega)).trans h.b1), (e2 _ (by omega)).trans k2, k4,
    Lt.grown_more (Lt.grown_more h.gr g1 (fun j e => by cases e; exact .inr (by omega))) g2 (fun j e => by cases e; exact .inr (by omega))⟩, fun j h1 h2 => (e2 _ h2).trans (e1 _ h1), hz2.trans hz, W1, g1, noInt_cook h.b2, g2, ni⟩
end
end Go.Proofs.Ytihbjimnjhfpeaa
