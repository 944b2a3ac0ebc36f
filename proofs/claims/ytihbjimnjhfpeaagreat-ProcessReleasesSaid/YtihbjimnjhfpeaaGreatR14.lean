/- Texts of this seat, one behind the other. -/
import Derived.Test.YtihbjimnjhfpeaaGreatR13
import Derived.Maps.AppendAt
/- Walks of asked and checkTemps: contracts. -/
namespace Go.Proofs.YtihbjimnjhfpeaaGreat.Lt
open Go.RowKit Go.Lib Go.Maps

/-- A slice of ints that is read, from any place of a row. -/
def RowI (w : World) (v : Value) (l : List Int) : Prop := (∃ a cap, v = .slice a 0 cap ∧ l = []) ∨ ∃ b o cap, v = .slice (some ⟨b, o, none⟩) l.length cap ∧ l.length ≤ maxLen ∧ ∀ k (h : k < l.length), w.cell? ⟨b, o + k, none⟩ = some (.int .i64 l[k])
theorem RowI.keep {W w2 : World} {v : Value} {l : List Int} (h : RowI W v l) (hb : Below W.heap.size W w2) : RowI w2 v l := by
  rcases h with h | ⟨b, o, cap, hv, hm, hc⟩
  · exact .inl h
  · exact .inr ⟨b, o, cap, hv, hm, fun k hk => keep_cell hb (hc k hk)⟩
def okT (t : Int) : Bool := decide (-50000 ≤ t) && decide (t ≤ 200000)
def okL (l : List Int) : Bool := l.all okT
theorem okL_all {l : List Int} (h : okL l = true) (k : Nat) (hk : k < l.length) : okT l[k] = true := List.all_eq_true.1 h _ (List.getElem_mem hk)
theorem okL_end {l : List Int} {k : Nat} (h : ∀ j (hj : j < l.length), j < k → okT l[j] = true) (hk : k = l.length) : okL l = true := by
  subst hk
  refine List.all_eq_true.2 fun x hx => ?_
  obtain ⟨j, hj, rfl⟩ := List.getElem_of_mem hx
  exact h j hj hj
theorem okL_bad {l : List Int} {k : Nat} (hk : k < l.length) (h : okT l[k] = false) : okL l = false := by
  cases ho : okL l with
  | false => rfl
  | true => rw [okL_all ho k hk] at h; cases h
/-- The first error of temperatures. -/
def askE (v : Bool) (l : List Int) : Int := if v = false then 1 else if 10000 < l.length then 4 else if okL l then 0 else 7
end Go.Proofs.YtihbjimnjhfpeaaGreat.Lt

/- Walk of For: contract. -/
namespace Go.Proofs.YtihbjimnjhfpeaaGreat.Lt
open Go.RowKit Go.Lib Go.Maps

theorem blk_set {w : World} {b i : Nat} {cs : Array Value} {T : TypeId} {fz : Nat × Nat} {v : Value} (h : w.heap[b]? = some (.cells cs T fz)) : (w.setCell ⟨b, i, none⟩ v).heap[b]? = some (.cells (cs.setIfInBounds i v) T fz) := by
  obtain ⟨hlt, hk⟩ := Array.getElem?_eq_some_iff.1 h
  show (w.heap.modify b _)[b]? = _
  rw [Array.getElem?_eq_getElem (by rw [Array.size_modify]; exact hlt), Array.getElem_modify_self, hk]
  rfl
theorem blk_cell {w : World} {b i : Nat} {cs : Array Value} {T : TypeId} {fz : Nat × Nat} (h : w.heap[b]? = some (.cells cs T fz)) : w.cell? ⟨b, i, none⟩ = cs[i]? := by
  unfold World.cell?
  show (match w.heap[b]? with | some (.cells c _ _) => _ | _ => _) = _
  rw [h]
  rfl
theorem blk_free {w : World} {b i : Nat} {cs : Array Value} {T : TypeId} (h : w.heap[b]? = some (.cells cs T (0, 0))) : w.frozen? ⟨b, i, none⟩ = false := by
  unfold World.frozen?
  show (match w.heap[b]? with | some (.cells _ _ (lo, hi)) => (decide (lo ≤ i) && decide (i < hi)) | _ => false) = false
  rw [h]
  simp
def ivI (l : List Int) : List Value := l.map (Value.int .i64)
theorem ivI_append (a b : List Int) : ivI (a ++ b) = ivI a ++ ivI b := by simp [ivI]

/-- The kept rates of a killer at block b: rows of l1 and l2. -/
structure ForS (s : ByteArray) (r z d g : Int) (w : World) (b : Nat) (l1 l2 : List Int) (vD vU : Value) (wr : World) : Prop where
  blk : wr.heap[b]? = some (.cells #[.string s, .int .i64 r, .int .i64 z, .int .i64 d, .int .i64 g, vD, vU] 176 (0, 0))
  rowD : wr.ownsRow (b + 1) 3 1 vD l1.length (ivI l1)
  rowU : wr.ownsRow (b + 1) 3 1 vU l2.length (ivI l2)
  ne : vD.ownBlock = none ∨ vD.ownBlock ≠ vU.ownBlock
  low : Below w.heap.size w wr
  le : w.heap.size ≤ b
theorem ForS.cells {s : ByteArray} {r z d g : Int} {w : World} {b : Nat} {l1 l2 : List Int} {vD vU : Value} {wr : World} (h : ForS s r z d g w b l1 l2 vD vU wr) :
    wr.cell? ⟨b, 5, none⟩ = some vD ∧ wr.frozen? ⟨b, 5, none⟩ = false ∧ wr.cell? ⟨b, 6, none⟩ = some vU ∧ wr.frozen? ⟨b, 6, none⟩ = false ∧ b < wr.heap.size :=
  ⟨blk_cell h.blk, blk_free h.blk, blk_cell h.blk, blk_free h.blk, lt_of_block h.blk⟩
/-- Behind the append to the first row, ahead of its store. -/
theorem ForS.midD {s : ByteArray} {r z d g : Int} {w : World} {b : Nat} {l1 l2 : List Int} {vD vU vD' : Value} {wr w1 : World} {o : Obj} {x : Int} (h : ForS s r z d g w b l1 l2 vD vU wr)
    (hr : w1.ownsRow (b + 1) 3 1 vD' (l1.length + 1) (ivI l1 ++ [.int .i64 x])) (hg : (wr.alloc o).grownBy w1 vD.ownBlock) (hn : vD'.ownBlock = vD.ownBlock ∨ vD'.ownBlock = some (wr.alloc o).heap.size) :
    w1.cell? ⟨b, 5, none⟩ = some vD ∧ w1.frozen? ⟨b, 5, none⟩ = false ∧ w1.cell? ⟨b, 6, none⟩ = some vU ∧ w1.frozen? ⟨b, 6, none⟩ = false ∧ b < w1.heap.size ∧ ForS s r z d g w b (l1 ++ [x]) l2 vD' vU (w1.setCell ⟨b, 5, none⟩ vD') := by
  have hg0 := World.grownBy_alloc wr o none
  have hblt := lt_of_block h.blk
  have hDb : vD.ownBlock ≠ some b := fun e => by have := (World.ownsRow.lt h.rowD b e).1; omega
  have hblk0 : (wr.alloc o).heap[b]? = some (.cells #[.string s, .int .i64 r, .int .i64 z, .int .i64 d, .int .i64 g, vD, vU] 176 (0, 0)) := (hg0.block b hblt (by simp)).trans h.blk
  have hblk : w1.heap[b]? = some (.cells #[.string s, .int .i64 r, .int .i64 z, .int .i64 d, .int .i64 g, vD, vU] 176 (0, 0)) := (hg.block b (Nat.lt_of_lt_of_le hblt hg0.size) (fun e => hDb e.symm)).trans hblk0
  have hD'b : vD'.ownBlock ≠ some b := fun e => by have := (World.ownsRow.lt hr b e).1; omega
  have hUb : vU.ownBlock ≠ some b := fun e => by have := (World.ownsRow.lt h.rowU b e).1; omega
  have hU1 : w1.ownsRow (b + 1) 3 1 vU l2.length (ivI l2) := World.ownsRow.kept (World.ownsRow.alloc h.rowU o) hg (by
    rcases h.ne with h1 | h1
    · rw [h1]; cases vU.ownBlock <;> simp
    · exact .inr fun e => h1 e.symm)
  have hlow : Below w.heap.size w w1 := (h.low.alloc h.low.size o).grown hg (by have := h.low.size; simp; omega) (fun k hk => by have := (World.ownsRow.lt h.rowD k hk).1; have := h.le; omega)
  refine ⟨blk_cell hblk, blk_free hblk, blk_cell hblk, blk_free hblk, lt_of_block hblk, blk_set hblk, ?_, ownsRow_setCell_other hU1 hUb _, ?_, hlow.setCell (show w.heap.size ≤ b from h.le) _, h.le⟩
  · rw [ivI_append, List.length_append]; exact ownsRow_setCell_other hr hD'b _
  · rcases hn with h1 | h1
    · rw [h1]; exact h.ne
    · refine .inr fun e => ?_
      rw [h1] at e
      have h2 := (World.ownsRow.lt h.rowU _ e.symm).2
      simp at h2
      omega
def negs (k : Nat) : List Int := List.replicate k (-1)
/-- What For hands back. -/
def ForP (s : ByteArray) (r z d g : Int) (N : Nat) (w : World) (e : Ending) (w' : World) : Prop := ∃ b vD vU, e = .returned (.pointer (some ⟨b, 0, none⟩)) ∧ ForS s r z d g w b (negs N) (negs N) vD vU w'
end Go.Proofs.YtihbjimnjhfpeaaGreat.Lt

/- Walk of ask: contract. -/
namespace Go.Proofs.YtihbjimnjhfpeaaGreat.Lt
open Go.RowKit Go.Lib Go.Maps

section
variable {s : ByteArray} {r z d g : Int} {w wr w2 : World} {b gD gU cD cU n q : Nat} {l1 l2 : List Int} {vD vU : Value}
theorem ForS.below (h : ForS s r z d g w b l1 l2 vD vU wr) (hb : Below wr.heap.size wr w2) : ForS s r z d g w b l1 l2 vD vU w2 := by
  have hg : wr.grownBy w2 none := gbelow hb
  exact ⟨(hb.block b (lt_of_block h.blk)).trans h.blk, World.ownsRow.kept h.rowD hg (by cases vD.ownBlock <;> simp), World.ownsRow.kept h.rowU hg (by cases vU.ownBlock <;> simp), h.ne, h.low.trans (hb.mono h.low.size), h.le⟩
/-- The cells of the rows at one place. -/
theorem ForS.at (h : ForS s r z d g w b l1 l2 (.slice (some ⟨gD, 0, none⟩) n cD) (.slice (some ⟨gU, 0, none⟩) n cU) wr) (h1 : l1.length = n) (h2 : l2.length = n) (hq : q < n) :
    (∃ x, wr.cell? ⟨gD, q, none⟩ = some (.int .i64 x)) ∧ wr.frozen? ⟨gD, q, none⟩ = false ∧ (∃ x, wr.cell? ⟨gU, q, none⟩ = some (.int .i64 x)) ∧ wr.frozen? ⟨gU, q, none⟩ = false ∧ gD < wr.heap.size ∧ gU < wr.heap.size := by
  have rD := h.rowD
  have rU := h.rowU
  rw [h1] at rD
  rw [h2] at rU
  refine ⟨⟨l1[q]'(by omega), ?_⟩, World.ownsRow.frozenAt rD q, ⟨l2[q]'(by omega), ?_⟩, World.ownsRow.frozenAt rU q, (World.ownsRow.lt rD gD rfl).2, (World.ownsRow.lt rU gU rfl).2⟩
  · rw [World.ownsRow.cellAt rD q (by omega)]; simp [ivI, show q < l1.length by omega]
  · rw [World.ownsRow.cellAt rU q (by omega)]; simp [ivI, show q < l2.length by omega]
theorem ForS.set (h : ForS s r z d g w b l1 l2 (.slice (some ⟨gD, 0, none⟩) n cD) (.slice (some ⟨gU, 0, none⟩) n cU) wr) (h1 : l1.length = n) (h2 : l2.length = n) (x y : Int) :
    ForS s r z d g w b (l1.set q x) (l2.set q y) (.slice (some ⟨gD, 0, none⟩) n cD) (.slice (some ⟨gU, 0, none⟩) n cU) ((wr.setCell ⟨gD, q, none⟩ (.int .i64 x)).setCell ⟨gU, q, none⟩ (.int .i64 y)) := by
  have hD : b + 1 ≤ gD := (World.ownsRow.lt h.rowD gD rfl).1
  have hU : b + 1 ≤ gU := (World.ownsRow.lt h.rowU gU rfl).1
  have hle := h.le
  have hne : gD ≠ gU := by
    rcases h.ne with h3 | h3
    · cases h3
    · exact fun e => h3 (by rw [e]; rfl)
  have rD := h.rowD
  have rU := h.rowU
  rw [h1] at rD
  rw [h2] at rU
  have e1 : ivI (l1.set q x) = (ivI l1).set q (.int .i64 x) := by simp [ivI, List.map_set]
  have e2 : ivI (l2.set q y) = (ivI l2).set q (.int .i64 y) := by simp [ivI, List.map_set]
  refine ⟨?_, ?_, ?_, h.ne, (h.low.setCell (show w.heap.size ≤ gD by omega) _).setCell (show w.heap.size ≤ gU by omega) _, h.le⟩
  · rw [Below.heap_setCell _ _ _ _ (show b ≠ gU by omega), Below.heap_setCell _ _ _ _ (show b ≠ gD by omega)]; exact h.blk
  · rw [e1, List.length_set, h1]
    exact ownsRow_setCell_other (World.ownsRow.stored rD q (.int .i64 x)).1 (show Value.ownBlock (.slice (some ⟨gD, 0, none⟩) n cD) ≠ some gU from fun e => hne (by simpa [Value.ownBlock] using e)) _
  · rw [e2, List.length_set, h2]
    exact (World.ownsRow.stored (ownsRow_setCell_other rU (show Value.ownBlock (.slice (some ⟨gU, 0, none⟩) n cU) ≠ some gD from fun e => hne (by simpa [Value.ownBlock] using e.symm)) _) q (.int .i64 y)).1
end

/-- The rows of kept rates: not asked for, or the rate. -/
def RowsOk (r z : Int) (l1 l2 : List Int) : Prop := l1.length = 1003 ∧ l2.length = 1003 ∧ ∀ q : Nat, q < 1003 → l1[q]? = some (-1) ∨ (l1[q]? = some ((Pm.rateD r z ((q : Int) - 200) : Nat) : Int) ∧ l2[q]? = some ((Pm.rateU r z ((q : Int) - 200) : Nat) : Int))
theorem RowsOk.set {r z : Int} {l1 l2 : List Int} (h : RowsOk r z l1 l2) (q : Nat) : RowsOk r z (l1.set q ((Pm.rateD r z ((q : Int) - 200) : Nat) : Int)) (l2.set q ((Pm.rateU r z ((q : Int) - 200) : Nat) : Int)) := by
  obtain ⟨h1, h2, h3⟩ := h
  refine ⟨by rw [List.length_set]; exact h1, by rw [List.length_set]; exact h2, fun k hk => ?_⟩
  by_cases e : q = k
  · subst e
    exact .inr ⟨by rw [List.getElem?_set_self (by omega)], by rw [List.getElem?_set_self (by omega)]⟩
  · rw [List.getElem?_set_ne e, List.getElem?_set_ne e]; exact h3 k hk
def KnownAt (r z : Int) (l1 l2 : List Int) (q : Nat) : Prop := l1[q]? = some ((Pm.rateD r z ((q : Int) - 200) : Nat) : Int) ∧ l2[q]? = some ((Pm.rateU r z ((q : Int) - 200) : Nat) : Int)
theorem KnownAt.put {r z : Int} {l1 l2 : List Int} {q : Nat} (h1 : q < l1.length) (h2 : q < l2.length) :
    (∀ k, KnownAt r z l1 l2 k → KnownAt r z (l1.set q ((Pm.rateD r z ((q : Int) - 200) : Nat) : Int)) (l2.set q ((Pm.rateU r z ((q : Int) - 200) : Nat) : Int)) k) ∧
    (l1.set q ((Pm.rateD r z ((q : Int) - 200) : Nat) : Int))[q]? = some ((Pm.rateD r z ((q : Int) - 200) : Nat) : Int) ∧ (l2.set q ((Pm.rateU r z ((q : Int) - 200) : Nat) : Int))[q]? = some ((Pm.rateU r z ((q : Int) - 200) : Nat) : Int) := by
  refine ⟨fun k hk => ?_, List.getElem?_set_self h1, List.getElem?_set_self h2⟩
  by_cases e : q = k
  · subst e
    exact ⟨List.getElem?_set_self h1, List.getElem?_set_self h2⟩
  · unfold KnownAt
    rw [List.getElem?_set_ne e, List.getElem?_set_ne e]; exact hk
/-- The kept rates of a killer, at block b, rows at gD and gU. -/
def KeptS (s : ByteArray) (r z d g : Int) (w : World) (b gD gU : Nat) (wr : World) : Prop := ∃ l1 l2 cD cU, ForS s r z d g w b l1 l2 (.slice (some ⟨gD, 0, none⟩) 1003 cD) (.slice (some ⟨gU, 0, none⟩) 1003 cU) wr ∧ RowsOk r z l1 l2

/-- What a cell holds, whatever it is. -/
def cellV (w : World) (g q : Nat) : Value := (w.cell? ⟨g, q, none⟩).getD (.int .i64 0)
theorem cellV_of {w : World} {g q : Nat} {u : Value} (h : w.cell? ⟨g, q, none⟩ = some u) : w.cell? ⟨g, q, none⟩ = some (cellV w g q) := by unfold cellV; rw [h]; rfl
theorem cellV_set {w : World} {g q h k : Nat} {u : Value} (e : w.cell? ⟨g, q, none⟩ = some (cellV w g q)) : (w.setCell ⟨h, k, none⟩ u).cell? ⟨g, q, none⟩ = some (cellV (w.setCell ⟨h, k, none⟩ u) g q) := by
  by_cases he : (⟨h, k, none⟩ : Addr) = ⟨g, q, none⟩
  · exact cellV_of (u := u) (by rw [he]; exact World.cell?_setCell_same' _ _ _ (by rw [e]; rfl))
  · exact cellV_of (u := cellV w g q) (by rw [World.cell?_setCell_other _ _ _ _ he]; exact e)
/-- What a region of ask holds. -/
def AskS (s : ByteArray) (r z d g : Int) (b gD gU cD cU q : Nat) (w' : World) : Prop :=
  w'.cell? ⟨b, 0, none⟩ = some (.string s) ∧ w'.cell? ⟨b, 1, none⟩ = some (.int .i64 r) ∧ w'.cell? ⟨b, 2, none⟩ = some (.int .i64 z) ∧ w'.cell? ⟨b, 3, none⟩ = some (.int .i64 d) ∧ w'.cell? ⟨b, 4, none⟩ = some (.int .i64 g) ∧ w'.cell? ⟨b, 5, none⟩ = some (.slice (some ⟨gD, 0, none⟩) 1003 cD) ∧ w'.cell? ⟨b, 6, none⟩ = some (.slice (some ⟨gU, 0, none⟩) 1003 cU) ∧
  w'.cell? ⟨gD, q, none⟩ = some (cellV w' gD q) ∧ w'.frozen? ⟨gD, q, none⟩ = false ∧ w'.cell? ⟨gU, q, none⟩ = some (cellV w' gU q) ∧ w'.frozen? ⟨gU, q, none⟩ = false
theorem AskS.store {s : ByteArray} {r z d g : Int} {b gD gU cD cU q h k : Nat} {w' : World} {u : Value} (e : AskS s r z d g b gD gU cD cU q w') (hb : h ≠ b) : AskS s r z d g b gD gU cD cU q (w'.setCell ⟨h, k, none⟩ u) := by
  obtain ⟨h0, h1, h2, h3, h4, h5, h6, h7, h8, h9, h10⟩ := e
  have ho : ∀ i v, w'.cell? ⟨b, i, none⟩ = some v → (w'.setCell ⟨h, k, none⟩ u).cell? ⟨b, i, none⟩ = some v := fun i v e => by
    rw [World.cell?_setCell_other _ _ _ _ (fun e => hb (by cases e; rfl))]; exact e
  exact ⟨ho _ _ h0, ho _ _ h1, ho _ _ h2, ho _ _ h3, ho _ _ h4, ho _ _ h5, ho _ _ h6, cellV_set h7, (World.frozen?_setCell _ _ _ _).trans h8, cellV_set h9, (World.frozen?_setCell _ _ _ _).trans h10⟩
/-- All blocks but two stay. -/
structure Still (gD gU : Nat) (w w' : World) : Prop where
  size : w.heap.size ≤ w'.heap.size
  block : ∀ j, j < w.heap.size → j ≠ gD → j ≠ gU → w'.heap[j]? = w.heap[j]?
theorem Still.refl (gD gU : Nat) (w : World) : Still gD gU w w := ⟨Nat.le_refl _, fun _ _ _ _ => rfl⟩
theorem Still.trans {gD gU : Nat} {a b c : World} (h : Still gD gU a b) (h' : Still gD gU b c) : Still gD gU a c :=
  ⟨Nat.le_trans h.size h'.size, fun j hj h1 h2 => (h'.block j (Nat.lt_of_lt_of_le hj h.size) h1 h2).trans (h.block j hj h1 h2)⟩
theorem Still.below {gD gU : Nat} {a b : World} (h : Below a.heap.size a b) : Still gD gU a b := ⟨h.size, fun j hj _ _ => h.block j hj⟩
/-- What ask hands back. -/
def AskP (s : ByteArray) (r : Int) (Z : Nat) (d g : Int) (w : World) (b gD gU cD cU : Nat) (l1 l2 : List Int) (q : Nat) (wr : World) (e : Ending) (w' : World) : Prop :=
  (∃ v, e = .returned v) ∧ Still gD gU wr w' ∧ ∃ m1 m2, ForS s r Z d g w b m1 m2 (.slice (some ⟨gD, 0, none⟩) 1003 cD) (.slice (some ⟨gU, 0, none⟩) 1003 cU) w' ∧ RowsOk r Z m1 m2 ∧ KnownAt r Z m1 m2 q ∧ ∀ k, KnownAt r Z l1 l2 k → KnownAt r Z m1 m2 k

end Go.Proofs.YtihbjimnjhfpeaaGreat.Lt

/- Walk of At: contract. -/
namespace Go.Proofs.YtihbjimnjhfpeaaGreat.Lt
open Go.RowKit Go.Lib Go.Maps

theorem ForS.known {s : ByteArray} {r z d g : Int} {w wr : World} {b gD gU cD cU q : Nat} {l1 l2 : List Int} (h : ForS s r z d g w b l1 l2 (.slice (some ⟨gD, 0, none⟩) 1003 cD) (.slice (some ⟨gU, 0, none⟩) 1003 cU) wr) (hR : RowsOk r z l1 l2) (hq : q < 1003) (hk : KnownAt r z l1 l2 q) :
    wr.cell? ⟨gD, q, none⟩ = some (.int .i64 ((Pm.rateD r z ((q : Int) - 200) : Nat) : Int)) ∧ wr.cell? ⟨gU, q, none⟩ = some (.int .i64 ((Pm.rateU r z ((q : Int) - 200) : Nat) : Int)) := by
  have hD := h.rowD
  have hU := h.rowU
  rw [hR.1] at hD
  rw [hR.2.1] at hU
  rw [World.ownsRow.cellAt hD q (by omega), World.ownsRow.cellAt hU q (by omega)]
  unfold ivI
  rw [List.getElem?_map, List.getElem?_map, hk.1, hk.2]
  exact ⟨rfl, rfl⟩
/-- What At hands back. -/
def AtP (s : ByteArray) (r : Int) (Z : Nat) (d g : Int) (w : World) (b gD gU : Nat) (x y : Nat) (wr : World) (e : Ending) (w' : World) : Prop :=
  e = .returned (.tuple #[.int .i64 x, .int .i64 y]) ∧ KeptS s r Z d g w b gD gU w' ∧ Still gD gU wr w'
theorem AskP.run {s : ByteArray} {r d g : Int} {Z : Nat} {w wr : World} {b gD gU cD cU q : Nat} {l1 l2 : List Int} {e : Ending} {w0 : World} (h : AskP s r Z d g w b gD gU cD cU l1 l2 q w0 e wr) : ∃ v m1 m2, e = .returned v ∧ Still gD gU w0 wr ∧ ForS s r Z d g w b m1 m2 (.slice (some ⟨gD, 0, none⟩) 1003 cD) (.slice (some ⟨gU, 0, none⟩) 1003 cU) wr ∧ RowsOk r Z m1 m2 ∧ KnownAt r Z m1 m2 q ∧ ∀ k, KnownAt r Z l1 l2 k → KnownAt r Z m1 m2 k := by
  obtain ⟨⟨v, hv⟩, hs, m1, m2, h⟩ := h
  exact ⟨v, m1, m2, hv, hs, h⟩

theorem KeptS.below {s : ByteArray} {r z d g : Int} {w wr w2 : World} {b gD gU : Nat} (h : KeptS s r z d g w b gD gU wr) (hb : Below wr.heap.size wr w2) : KeptS s r z d g w b gD gU w2 := by
  obtain ⟨l1, l2, cD, cU, hF, hR⟩ := h
  exact ⟨l1, l2, cD, cU, hF.below hb, hR⟩

end Go.Proofs.YtihbjimnjhfpeaaGreat.Lt
