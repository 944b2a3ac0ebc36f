/- What Run of the code stands on. -/
import Derived.Test.YtpkcnojcklmhmaaXc
import Derived.Test.YtpkcnojcklmhmaaVs
namespace Go.Proofs.Ytpkcnojcklmhmaa
open Go.RowKit Go.Shelf
attribute [local go_sem] Oper.semAt_some

theorem infoRds : ∃ i, Try.prog.info? 74 = some i ∧ i.zero = some (.agg #[.int .i64 0, .int .i64 0, .int .i64 0, .int .i64 0]) ∧ i.size = 4 ∧ i.bytes = 32 := info_parts (by kernel_rfl)
set_option maxHeartbeats 1000000 in
theorem ticks_any (J : Jb) (x : Ld) (pa : Option Addr) (m pc : Nat) (qa : Option Addr) (n qc : Nat) (w : World) :
    Calls Try.prog 75 #[.agg (J.vA (.slice pa m pc) (.slice qa n qc)), .agg (ldA x)] w fun e w' => e = .returned (.func (.func 99) #[] #[.pointer (some ⟨w.heap.size + 1, 0, none⟩), .pointer (some ⟨w.heap.size, 0, none⟩)]) ∧
      w' = (w.alloc (.cells (J.vA (.slice pa m pc) (.slice qa n qc)) 117)).alloc (.cells (ldA x) 57) := by
  unfold Jb.vA ldA
  go_enter Try.func75, Try.ntmps75
  go_wp2
  go_ret
  exact ⟨rfl, rfl⟩
theorem rd_type {W : World} {base n g : Nat} {v : Value} {xs : List Value} (h : W.ownsRow base 74 4 v n xs) (hg : v.ownBlock = some g) : ∃ cs, W.heap[g]? = some (.cells cs 74 (0, 0)) := by
  rcases h.2 with ⟨rfl, _⟩ | ⟨g', cap, cur, rfl, _, hc, _⟩
  · cases hg
  · cases hg; exact ⟨cur, hc⟩
theorem rd_shape {w : World} {base n : Nat} {v : Value} {xs : List Value} (h : w.ownsRow base 74 4 v n xs) : ∃ a c, v = .slice a n c := by
  rcases h.2 with ⟨rfl, h0⟩ | ⟨g, cap, cur, rfl, _⟩
  · exact ⟨none, 0, by rw [h0]⟩
  · exact ⟨_, _, rfl⟩
theorem own_rowR {w : World} {base k : Nat} {v : Value} {r : Nat → Rd} (h : w.ownsRow base 74 4 v k (rdvs r k)) : RowR w v k r := by
  rcases h.2 with ⟨rfl, h0⟩ | ⟨g, cap, cur, rfl, hb, hc, hle, hm, hrest⟩
  · exact ⟨none, 0, 0, 0, by rw [h0], by omega, by unfold maxLen; omega, .inl h0, fun j hj => by omega⟩
  · refine ⟨some ⟨g, 0, none⟩, g, 0, cap, rfl, hle, hm, .inr rfl, fun j hj => ?_⟩
    have hat : ∀ i u, i < 4 → (rdL (r j))[i]? = some u → w.cell? ⟨g, 0 + j * 4 + i, none⟩ = some u := fun i u hi hu => by
      have := h.cells (g := g) rfl (j * 4 + i) u ((rdvs_at r k j i hj hi).trans hu)
      rwa [show ((⟨g, 0, none⟩ : Addr).add (j * 4 + i)) = ⟨g, 0 + j * 4 + i, none⟩ by simp [Addr.add]; omega] at this
    exact ⟨hat 0 _ (by omega) rfl, hat 1 _ (by omega) rfl, hat 2 _ (by omega) rfl, hat 3 _ (by omega) rfl⟩
/-- What Run's rounds stand on: the load's box, the result's, the list's, the list. -/
structure RuI (w : World) (J : Jb) (x : Ld) (lb n0 k : Nat) (W : World) : Prop where
  ld : W.heap[w.heap.size + 1]? = some (.cells (ldA (J.lds x k)) 57 (0, 0))
  res : W.heap[w.heap.size + 1 + 1]? = some (.cells (ldA ⟨0, 0, 0, 0, 0⟩) 57 (0, 0))
  low : Below w.heap.size w W
  ex : ∃ v, W.heap[lb]? = some (.cells #[v] 61 (0, 0)) ∧ W.ownsRow n0 74 4 v k (rdvs (J.rds x) k)
theorem lt_at {W : World} {b : Nat} {o : Obj} (h : W.heap[b]? = some o) : b < W.heap.size := (Array.getElem?_eq_some_iff.1 h).1
theorem RuI.turn {w W W' : World} {J : Jb} {x : Ld} {lb n0 k B0 : Nat} {row : Option Nat} (h : RuI w J x lb n0 k W) (hw : w.heap.size + 1 + 1 < B0) (hx : lb < B0) (hg : W.grownBy W' row) (hr : ∀ j, row = some j → B0 ≤ j ∧ ∃ o : Obj, W.heap[j]? = some o ∧ Obj.apart 57 o) : RuI w J x lb n0 k W' := by
  obtain ⟨v, h1, h2⟩ := h.ex
  have nOwn : ∀ j, row = some j → v.ownBlock ≠ some j := fun j e e2 => by
    obtain ⟨_, o, ho, hc⟩ := hr j e
    obtain ⟨cs, hcs⟩ := rd_type h2 e2
    rw [ho] at hcs
    cases hcs
    rcases hc with hc | ⟨cs', hc⟩ <;> cases hc
  have hk : ∀ j, j < B0 → j < W.heap.size → W'.heap[j]? = W.heap[j]? := fun j g1 g2 => hg.block j g2 (fun e => by have := (hr _ e.symm).1; omega)
  refine ⟨(hk _ (by omega) (lt_at h.ld)).trans h.ld, (hk _ (by omega) (lt_at h.res)).trans h.res, h.low.grown hg h.low.size (fun j e => by have := (hr j e).1; omega), v, (hk _ hx (lt_at h1)).trans h1, h2.kept hg ?_⟩
  cases hb : v.ownBlock with
  | none => exact .inl rfl
  | some j => exact .inr (fun e => nOwn j e.symm hb)
theorem RuI.keep {w W W' : World} {J : Jb} {x : Ld} {lb n0 k : Nat} (h : RuI w J x lb n0 k W) (hb : Below W.heap.size W W') : RuI w J x lb n0 k W' := by
  obtain ⟨v, h1, h2⟩ := h.ex
  exact ⟨(hb.block _ (lt_at h.ld)).trans h.ld, (hb.block _ (lt_at h.res)).trans h.res, bstep h.low h.low.size hb, v, (hb.block _ (lt_at h1)).trans h1, h2.kept (gbelow hb) (by cases v.ownBlock <;> simp)⟩
/-- The end of a round: the list has one reading more. -/
theorem ru_end {w W W1 w3 : World} {J : Jb} {x : Ld} {lb n0 k B : Nat} {v v3 : Value} {o : Obj} (h : RuI w J x lb n0 k W) (hv : W.heap[lb]? = some (.cells #[v] 61 (0, 0))) (hown : W.ownsRow n0 74 4 v k (rdvs (J.rds x) k))
    (hW : W.setRow (w.heap.size + 1) (ldA (J.lds x (k + 1))) = W1) (hown3 : w3.ownsRow n0 74 4 v3 (k + 1) (rdvs (J.rds x) (k + 1))) (hg : (W1.alloc o).grownBy w3 v.ownBlock)
    (hlb : w.heap.size + 1 + 1 < lb) (hln : lb < n0) (hn : n0 ≤ W.heap.size) :
    RuI w J x lb n0 (k + 1) (w3.setCell ⟨lb, 0, none⟩ v3) ∧ KeepsFrom B W (w3.setCell ⟨lb, 0, none⟩ v3) ∧ KpG 57 n0 (w.heap.size + 1) lb W (w3.setCell ⟨lb, 0, none⟩ v3) := by
  obtain ⟨g1, g2, g3, g4⟩ := own_row hW h.ld
  have hob : ∀ j, v.ownBlock = some j → n0 ≤ j := fun j e => (World.ownsRow.lt hown j e).1
  have hot : ∀ j, v.ownBlock = some j → ∃ cs, (W1.alloc o).heap[j]? = some (.cells cs 74 (0, 0)) ∧ W.heap[j]? = some (.cells cs 74 (0, 0)) := fun j e => by
    obtain ⟨cs, hcs⟩ := rd_type hown e
    have := hob j e
    exact ⟨cs, (Below.heap_alloc _ _ _ (by rw [g3]; exact lt_at hcs)).trans ((g4 j (by omega)).trans hcs), hcs⟩
  have hs1 : (W1.alloc o).heap.size = W.heap.size + 1 := by simp [g3]
  have hs3 := hg.size
  have hal : ∀ j, j < W.heap.size → (W1.alloc o).heap[j]? = W1.heap[j]? := fun j hj => Below.heap_alloc _ _ _ (by rw [g3]; exact hj)
  have hgk : ∀ j, j < W.heap.size → v.ownBlock ≠ some j → w3.heap[j]? = W1.heap[j]? := fun j hj hne => (hg.block j (by omega) (fun e => hne e.symm)).trans (hal j hj)
  have hcell : ∀ j, j ≠ lb → (w3.setCell ⟨lb, 0, none⟩ v3).heap[j]? = w3.heap[j]? := fun j hj => heap_setCell_other _ _ _ _ hj
  have hno : ∀ j, j < n0 → v.ownBlock ≠ some j := fun j hj e => by have := hob j e; omega
  have hl3 : w3.heap[lb]? = some (.cells #[v] 61 (0, 0)) := (hgk lb (by omega) (hno lb hln)).trans ((g4 lb (by omega)).trans hv)
  have hb1 : Below w.heap.size w W1 := h.low.grown g2 h.low.size (fun j e => by cases e; omega)
  have hb3 : Below w.heap.size w w3 := (hb1.alloc hb1.size o).grown hg (by have := h.low.size; omega) (fun j e => by have := hob j e; omega)
  refine ⟨⟨?_, ?_, hb3.setCell (p := ⟨lb, 0, none⟩) (by show w.heap.size ≤ lb; omega) _, v3, heap_setCell_same w3 lb 0 _ _ v3 hl3, hown3.kept (row := some lb) ⟨rfl, rfl, rfl, by simp, fun j _ hj => hcell j (fun e => hj (by rw [e]))⟩ ?_⟩, ?_, ?_⟩
  · rw [hcell _ (by omega)]
    exact (hgk _ (by omega) (hno _ (by omega))).trans g1
  · rw [hcell _ (by omega)]
    exact (hgk _ (by omega) (hno _ (by omega))).trans ((g4 _ (by omega)).trans h.res)
  · cases hb : v3.ownBlock with
    | none => exact .inl rfl
    | some j => exact .inr (fun e => by cases e; have := (World.ownsRow.lt hown3 _ hb).1; omega)
  · refine KeepsFrom.trans ?_ (keeps_cell (x0 := lb) (u := v3))
    refine KeepsFrom.trans (Y := W1.alloc o) ?_ ((KeepsOthers.of_grownBy hg (fun j o' ej hj => by obtain ⟨cs, hc, _⟩ := hot j ej; rw [hc] at hj; cases hj; rfl)).from _)
    have h1 : KeepsFrom B W W1 := by rw [← hW]; exact keeps_row h.ld
    exact h1.trans (keeps_below ((Below.refl _ W1).alloc (Nat.le_refl _) o))
  · refine ⟨by simp; omega, fun j j1 j2 j3 => ?_, fun j cs hj j2 => ?_⟩
    · rw [hcell j j3]
      exact (hgk j (by omega) (hno j j1)).trans (g4 j j2)
    · have jl : j ≠ lb := by rintro rfl; rw [hv] at hj; cases hj
      rw [hcell j jl]
      refine (hgk j (lt_at hj) (fun e => ?_)).trans ((g4 j j2).trans hj)
      obtain ⟨cs', _, hc⟩ := hot j e
      rw [hj] at hc
      cases hc
end Go.Proofs.Ytpkcnojcklmhmaa
