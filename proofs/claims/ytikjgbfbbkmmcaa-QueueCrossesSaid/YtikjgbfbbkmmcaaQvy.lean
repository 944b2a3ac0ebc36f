/- What Plan's rounds stand on, and what they leave. -/
import Derived.Test.YtikjgbfbbkmmcaaQvx
namespace Go.Proofs.Ytikjgbfbbkmmcaa
open Go.RowKit Go.Shelf Rt

theorem infoSst : ∃ i, Try.prog.info? 57 = some i ∧ i.zero = some (.agg #[.int .i64 0, .int .i64 0, .int .i64 0]) ∧ i.size = 3 ∧ i.bytes = 24 := info_of (by kernel_rfl)
/-- What the rounds stand on: Plan's boxes, the starts so far. -/
structure PlI (va : Option Addr) (n vc : Nat) (m wt : Int) (w : World) (n0 : Nat) (pre : List Sst) (W : World) : Prop where
  ex : ∃ xv, PlB va n vc m wt xv w W ∧ OwnE encS W n0 57 xv pre
  le : n0 ≤ W.heap.size
/-- What a proof leaves in Plan's boxes. -/
structure PlX (f k : Int) (w W : World) : Prop where
  bx : W.heap[w.heap.size + 1 + 1 + 1]? = some (.cells #[.slice none 0 0] 30 (0, 0))
  bt : W.heap[w.heap.size + 1 + 1 + 1 + 1]? = some (.cells #[.int .i64 f, .int .i64 k] 32 (0, 0))
  be : W.heap[w.heap.size + 1 + 1 + 1 + 1 + 1]? = some (.cells #[.int .i64 8] 25 (0, 0))
  low : Below w.heap.size w W
theorem lt_at' {W : World} {b : Nat} {o : Obj} (h : W.heap[b]? = some o) : b < W.heap.size := (Array.getElem?_eq_some_iff.1 h).1
theorem sst_type {W : World} {base g : Nat} {v : Value} {l : List Sst} (h : OwnE encS W base 57 v l) (hg : v.ownBlock = some g) : ∃ cs, W.heap[g]? = some (.cells cs 57 (0, 0)) := by
  rcases h.2 with ⟨rfl, _⟩ | ⟨g', cap, cur, rfl, _, hc, _⟩
  · cases hg
  · cases hg; exact ⟨cur, hc⟩
section
variable {va : Option Addr} {n vc n0 B0 : Nat} {m wt : Int} {w W W' : World} {pre : List Sst} {row : Option Nat} {f k : Int}
theorem PlI.keep (h : PlI va n vc m wt w n0 pre W) (hb : Below W.heap.size W W') : PlI va n vc m wt w n0 pre W' := by
  obtain ⟨xv, h1, h2⟩ := h.ex
  exact ⟨⟨xv, h1.keep hb, h2.keep hb⟩, Nat.le_trans h.le hb.size⟩
theorem PlI.turn (h : PlI va n vc m wt w n0 pre W) (hw : w.heap.size + 1 + 1 + 1 + 1 + 1 < B0) (hg : W.grownBy W' row) (hr : ∀ j, row = some j → B0 ≤ j ∧ ∃ o : Obj, W.heap[j]? = some o ∧ Obj.apart2 TV o) : PlI va n vc m wt w n0 pre W' := by
  obtain ⟨xv, h1, h2⟩ := h.ex
  have hk : ∀ {j : Nat} {o : Obj}, j < B0 → W.heap[j]? = some o → W'.heap[j]? = some o := fun {j o} g1 g2 => (hg.block j (lt_at' g2) (fun e => by have := (hr _ e.symm).1; omega)).trans g2
  refine ⟨⟨xv, ⟨hk (by omega) h1.bl, hk (by omega) h1.bm, hk (by omega) h1.bw, hk (by omega) h1.bx, hk (by omega) h1.bt, hk (by omega) h1.be, h1.low.grown hg h1.low.size (fun j e => by have := (hr j e).1; omega)⟩, ?_⟩, Nat.le_trans h.le hg.size⟩
  refine ⟨h2.1, ?_⟩
  rcases h2.2 with hn | ⟨g, cap, cur, rfl, hb', hgg, rest⟩
  · exact .inl hn
  · refine .inr ⟨g, cap, cur, rfl, hb', (hg.block g (lt_at' hgg) (fun e => ?_)).trans hgg, rest⟩
    obtain ⟨_, o, ho, hc⟩ := hr g e.symm
    rw [hgg] at ho
    cases ho
    rcases hc with hc | ⟨t, cs', ht, hc⟩
    · cases hc
    · cases hc
      rcases ht with ht | ht <;> exact absurd ht (by decide)
theorem PlX.turn (h : PlX f k w W) (hw : w.heap.size + 1 + 1 + 1 + 1 + 1 < B0) (hg : W.grownBy W' row) (hr : ∀ j, row = some j → B0 ≤ j ∧ ∃ o : Obj, W.heap[j]? = some o ∧ Obj.apart2 TV o) : PlX f k w W' := by
  have hk : ∀ {j : Nat} {o : Obj}, j < B0 → W.heap[j]? = some o → W'.heap[j]? = some o := fun {j o} g1 g2 => (hg.block j (lt_at' g2) (fun e => by have := (hr _ e.symm).1; omega)).trans g2
  exact ⟨hk (by omega) h.bx, hk (by omega) h.bt, hk (by omega) h.be, h.low.grown hg h.low.size (fun j e => by have := (hr j e).1; omega)⟩
/-- Behind the append of a start and its store. -/
theorem pl_end {B : Nat} {xv v' : Value} {y : Sst} {o : Obj} {w3 : World} (h1 : PlB va n vc m wt xv w W) (h2 : OwnE encS W n0 57 xv pre) (hle : n0 ≤ W.heap.size) (hn0 : w.heap.size + 1 + 1 + 1 + 1 + 1 < n0) (h3 : OwnE encS w3 n0 57 v' (pre ++ [y])) (hg : (W.alloc o).grownBy w3 xv.ownBlock) :
    PlB va n vc m wt v' w (w3.setCell ⟨w.heap.size + 1 + 1 + 1, 0, none⟩ v') ∧ OwnE encS (w3.setCell ⟨w.heap.size + 1 + 1 + 1, 0, none⟩ v') n0 57 v' (pre ++ [y]) ∧ KeepsFrom B W (w3.setCell ⟨w.heap.size + 1 + 1 + 1, 0, none⟩ v') ∧ KpV n0 (w.heap.size + 1 + 1 + 1) (w.heap.size + 1 + 1 + 1) W (w3.setCell ⟨w.heap.size + 1 + 1 + 1, 0, none⟩ v') := by
  have hal : ∀ {j : Nat} {o' : Obj}, W.heap[j]? = some o' → (W.alloc o).heap[j]? = some o' := fun {j o'} e => (Below.heap_alloc _ _ _ (lt_at' e)).trans e
  have hob : ∀ j, xv.ownBlock = some j → n0 ≤ j := fun j e => (World.ownsRow.lt h2 j e).1
  have hg3 : ∀ {j : Nat} {o' : Obj}, xv.ownBlock ≠ some j → W.heap[j]? = some o' → w3.heap[j]? = some o' := fun {j o'} hne e => (hg.block j (by have := lt_at' e; simp; omega) (fun e2 => hne e2.symm)).trans (hal e)
  have hlo : ∀ {j : Nat} {o' : Obj}, j < n0 → W.heap[j]? = some o' → w3.heap[j]? = some o' := fun {j o'} hj e => hg3 (fun e2 => by have := hob j e2; omega) e
  have hc : ∀ j, j ≠ w.heap.size + 1 + 1 + 1 → (w3.setCell ⟨w.heap.size + 1 + 1 + 1, 0, none⟩ v').heap[j]? = w3.heap[j]? := fun j hj => heap_setCell_other _ _ _ _ (by exact hj)
  have hsz : (W.alloc o).heap.size ≤ w3.heap.size := hg.size
  have hs1 : (W.alloc o).heap.size = W.heap.size + 1 := by simp
  have hb3 : Below w.heap.size w w3 := (h1.low.alloc h1.low.size o).grown hg (by have := h1.low.size; omega) (fun j e => by have := hob j e; omega)
  have hgs : w3.grownBy (w3.setCell ⟨w.heap.size + 1 + 1 + 1, 0, none⟩ v') (some (w.heap.size + 1 + 1 + 1)) := ⟨rfl, rfl, rfl, by simp, fun j _ hj => hc j (fun e => hj (by rw [e]))⟩
  refine ⟨⟨(hc _ (by omega)).trans (hlo (by omega) h1.bl), (hc _ (by omega)).trans (hlo (by omega) h1.bm), (hc _ (by omega)).trans (hlo (by omega) h1.bw), ?_, (hc _ (by omega)).trans (hlo (by omega) h1.bt), (hc _ (by omega)).trans (hlo (by omega) h1.be), hb3.setCell (p := ⟨w.heap.size + 1 + 1 + 1, 0, none⟩) (show w.heap.size ≤ w.heap.size + 1 + 1 + 1 by omega) _⟩, h3.turn hgs (fun e => by have := (World.ownsRow.lt h3 _ e).1; omega), ?_, ?_⟩
  · exact heap_setCell_same w3 _ 0 _ _ v' (hlo (by omega) h1.bx)
  · refine KeepsFrom.trans ?_ keeps_cell
    refine KeepsFrom.trans (keeps_below ((Below.refl _ W).alloc (Nat.le_refl _) o)) ((KeepsOthers.of_grownBy hg (fun j o' ej hj => ?_)).from _)
    obtain ⟨cs, hcs⟩ := sst_type h2 ej
    rw [hal hcs] at hj
    cases hj
    rfl
  · refine ⟨by simp; omega, fun j j1 j2 _ => ?_, fun j cs t ht hj => ?_⟩
    · rw [hc j j2]
      have hjl : j < W.heap.size := by omega
      exact hlo j1 (Array.getElem?_eq_getElem hjl) |>.trans (Array.getElem?_eq_getElem hjl).symm
    · have jl : j ≠ w.heap.size + 1 + 1 + 1 := by
        rintro rfl
        rw [h1.bx] at hj
        cases hj
        rcases ht with ht | ht <;> exact absurd ht (by decide)
      rw [hc j jl]
      refine hg3 (fun e => ?_) hj
      obtain ⟨cs', hcs⟩ := sst_type h2 e
      rw [hcs] at hj
      cases hj
      rcases ht with ht | ht <;> exact absurd ht (by decide)
theorem pl_mid {xv v' : Value} {o : Obj} {w3 : World} {nb : Nat} {ob : Obj} (h1 : PlB va n vc m wt xv w W) (h2 : OwnE encS W n0 57 xv pre) (hn0 : w.heap.size + 1 + 1 + 1 + 1 + 1 < n0) (hg : (W.alloc o).grownBy w3 xv.ownBlock) (hnb : W.heap[nb]? = some ob) (hne : xv.ownBlock ≠ some nb) (hlt : n0 ≤ nb) :
    w3.cell? ⟨w.heap.size + 1 + 1 + 1, 0, none⟩ = some xv ∧ w3.frozen? ⟨w.heap.size + 1 + 1 + 1, 0, none⟩ = false ∧ (w3.setCell ⟨w.heap.size + 1 + 1 + 1, 0, none⟩ v').heap[nb]? = some ob := by
  have hob : ∀ j, xv.ownBlock = some j → n0 ≤ j := fun j e => (World.ownsRow.lt h2 j e).1
  have hg3 : ∀ {j : Nat} {o' : Obj}, xv.ownBlock ≠ some j → W.heap[j]? = some o' → w3.heap[j]? = some o' := fun {j o'} hne e => (hg.block j (by have := lt_at' e; simp; omega) (fun e2 => hne e2.symm)).trans ((Below.heap_alloc _ _ _ (lt_at' e)).trans e)
  have hx := hg3 (fun e2 => by have := hob _ e2; omega) h1.bx
  have hc := cell_of_row _ _ 0 _ _ _ hx
  simp only [List.getElem?_toArray, List.getElem?_cons_zero] at hc
  exact ⟨hc, frozen_of_row _ _ 0 _ _ hx, (heap_setCell_other _ _ _ _ (show nb ≠ w.heap.size + 1 + 1 + 1 by omega)).trans (hg3 hne hnb)⟩
/-- What is laid into Plan's last three boxes. -/
theorem pl_stored {xv : Value} (h : PlB va n vc m wt xv w W) (u f k e : Value) {W2 : World} (hW : ((((W.setCell ⟨w.heap.size + 1 + 1 + 1, 0, none⟩ u).setCell ⟨w.heap.size + 1 + 1 + 1 + 1, 0, none⟩ f).setCell ⟨w.heap.size + 1 + 1 + 1 + 1, 1, none⟩ k).setCell ⟨w.heap.size + 1 + 1 + 1 + 1 + 1, 0, none⟩ e) = W2) :
    W2.heap[w.heap.size + 1 + 1 + 1]? = some (.cells #[u] 30 (0, 0)) ∧ W2.heap[w.heap.size + 1 + 1 + 1 + 1]? = some (.cells #[f, k] 32 (0, 0)) ∧ W2.heap[w.heap.size + 1 + 1 + 1 + 1 + 1]? = some (.cells #[e] 25 (0, 0)) ∧ Below w.heap.size w W2 ∧ (∀ j, w.heap.size + 1 + 1 + 1 + 1 + 1 < j → W2.heap[j]? = W.heap[j]?) ∧ ∀ (j : Nat) (cs : Array Value) (t : Nat) (fz : Nat × Nat), t ≠ 30 → t ≠ 32 → t ≠ 25 → W.heap[j]? = some (.cells cs t fz) → W2.heap[j]? = some (.cells cs t fz) := by
  subst hW
  have oth : ∀ (X : World) (g i : Nat) (v : Value) (j : Nat), j ≠ g → (X.setCell ⟨g, i, none⟩ v).heap[j]? = X.heap[j]? := fun X g i v j h => heap_setCell_other _ _ _ _ (by exact h)
  have hl := below4 h.low u f k e
  have a := heap_setCell_same W (w.heap.size + 1 + 1 + 1) 0 _ _ u h.bx
  have b0 := (oth W (w.heap.size + 1 + 1 + 1) 0 u _ (show w.heap.size + 1 + 1 + 1 + 1 ≠ w.heap.size + 1 + 1 + 1 by omega)).trans h.bt
  have c0 := (oth W (w.heap.size + 1 + 1 + 1) 0 u _ (show w.heap.size + 1 + 1 + 1 + 1 + 1 ≠ w.heap.size + 1 + 1 + 1 by omega)).trans h.be
  have d0 : ∀ j, j ≠ w.heap.size + 1 + 1 + 1 → (W.setCell ⟨w.heap.size + 1 + 1 + 1, 0, none⟩ u).heap[j]? = W.heap[j]? := fun j hj => oth _ _ _ _ _ hj
  generalize W.setCell ⟨w.heap.size + 1 + 1 + 1, 0, none⟩ u = W1 at *
  have b1 := heap_setCell_same W1 (w.heap.size + 1 + 1 + 1 + 1) 0 _ _ f b0
  have b2 := heap_setCell_same _ (w.heap.size + 1 + 1 + 1 + 1) 1 _ _ k b1
  refine ⟨?_, ?_, ?_, hl, fun j hj => ?_, fun j cs t fz t1 t2 t3 hj => ?_⟩
  · exact ((oth _ _ _ _ _ (by omega)).trans ((oth _ _ _ _ _ (by omega)).trans (oth _ _ _ _ _ (by omega)))).trans a
  · exact (oth _ _ _ _ _ (by omega)).trans b2
  · exact heap_setCell_same _ _ 0 _ _ _ ((oth _ _ _ _ _ (by omega)).trans ((oth _ _ _ _ _ (by omega)).trans c0))
  · exact ((oth _ _ _ _ _ (by omega)).trans ((oth _ _ _ _ _ (by omega)).trans (oth _ _ _ _ _ (by omega)))).trans (d0 j (by omega))
  · have n1 : j ≠ w.heap.size + 1 + 1 + 1 := by rintro rfl; rw [h.bx] at hj; exact t1 (Obj.cells.inj (Option.some.inj hj)).2.1.symm
    have n2 : j ≠ w.heap.size + 1 + 1 + 1 + 1 := by rintro rfl; rw [h.bt] at hj; exact t2 (Obj.cells.inj (Option.some.inj hj)).2.1.symm
    have n3 : j ≠ w.heap.size + 1 + 1 + 1 + 1 + 1 := by rintro rfl; rw [h.be] at hj; exact t3 (Obj.cells.inj (Option.some.inj hj)).2.1.symm
    exact (((oth _ _ _ _ _ n3).trans ((oth _ _ _ _ _ n2).trans (oth _ _ _ _ _ n2))).trans (d0 j n1)).trans hj
theorem plX_of {xv : Value} (h : PlB va n vc m wt xv w W) (f k : Int) : PlX f k w ((((W.setCell ⟨w.heap.size + 1 + 1 + 1, 0, none⟩ (.slice none 0 0)).setCell ⟨w.heap.size + 1 + 1 + 1 + 1, 0, none⟩ (.int .i64 f)).setCell ⟨w.heap.size + 1 + 1 + 1 + 1, 1, none⟩ (.int .i64 k)).setCell ⟨w.heap.size + 1 + 1 + 1 + 1 + 1, 0, none⟩ (.int .i64 8)) := by
  obtain ⟨h1, h2, h3, h4, _⟩ := pl_stored h (.slice none 0 0) (.int .i64 f) (.int .i64 k) (.int .i64 8) rfl
  exact ⟨h1, h2, h3, h4⟩
theorem keeps_four {B a b c d i j : Nat} {u v x y : Value} : KeepsFrom B W ((((W.setCell ⟨a, 0, none⟩ u).setCell ⟨b, i, none⟩ v).setCell ⟨c, j, none⟩ x).setCell ⟨d, 0, none⟩ y) :=
  ((((KeepsOthers.setCell W ⟨a, 0, none⟩ u).from B).trans ((KeepsOthers.setCell _ ⟨b, i, none⟩ v).from B)).trans ((KeepsOthers.setCell _ ⟨c, j, none⟩ x).from B)).trans ((KeepsOthers.setCell _ ⟨d, 0, none⟩ y).from B)
end
end Go.Proofs.Ytikjgbfbbkmmcaa
