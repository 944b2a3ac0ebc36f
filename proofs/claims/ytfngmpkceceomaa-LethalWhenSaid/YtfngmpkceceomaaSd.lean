/- Walk of ask: contract. -/
import Derived.Test.YtfngmpkceceomaaSc
namespace Go.Proofs.Ytfngmpkceceomaa
open Go.RowKit Go.Lib Go.Maps

section
variable {s : ByteArray} {r z d g : Int} {w wr w2 : World} {b gD gU cD cU n q : Nat} {l1 l2 : List Int} {vD vU : Value}
theorem ForS.below (h : ForS s r z d g w b l1 l2 vD vU wr) (hb : Below wr.heap.size wr w2) : ForS s r z d g w b l1 l2 vD vU w2 := by
  have hg : wr.grownBy w2 none := gbelow hb
  exact ⟨(hb.block b (lt_of_block h.blk)).trans h.blk, World.ownsRow.kept h.rowD hg (by cases vD.ownBlock <;> simp), World.ownsRow.kept h.rowU hg (by cases vU.ownBlock <;> simp), h.ne, h.low.trans (hb.mono h.low.size), h.le⟩
theorem ForS.cells7 (h : ForS s r z d g w b l1 l2 vD vU wr) :
    wr.cell? ⟨b, 0, none⟩ = some (.string s) ∧ wr.cell? ⟨b, 1, none⟩ = some (.int .i64 r) ∧ wr.cell? ⟨b, 2, none⟩ = some (.int .i64 z) ∧ wr.cell? ⟨b, 3, none⟩ = some (.int .i64 d) ∧ wr.cell? ⟨b, 4, none⟩ = some (.int .i64 g) ∧ wr.cell? ⟨b, 5, none⟩ = some vD ∧ wr.cell? ⟨b, 6, none⟩ = some vU :=
  ⟨blk_cell h.blk, blk_cell h.blk, blk_cell h.blk, blk_cell h.blk, blk_cell h.blk, blk_cell h.blk, blk_cell h.blk⟩
/-- The cells of the rows at one place. -/
theorem ForS.at (h : ForS s r z d g w b l1 l2 (.slice (some ⟨gD, 0, none⟩) n cD) (.slice (some ⟨gU, 0, none⟩) n cU) wr) (h1 : l1.length = n) (h2 : l2.length = n) (hq : q < n) :
    (∃ x, wr.cell? ⟨gD, q, none⟩ = some (.int .i64 x)) ∧ wr.frozen? ⟨gD, q, none⟩ = false ∧ (∃ x, wr.cell? ⟨gU, q, none⟩ = some (.int .i64 x)) ∧ wr.frozen? ⟨gU, q, none⟩ = false ∧ gD < wr.heap.size ∧ gU < wr.heap.size := by
  have rD := h.rowD
  have rU := h.rowU
  rw [h1] at rD
  rw [h2] at rU
  refine ⟨⟨l1[q]'(by omega), ?_⟩, World.ownsRow.frozenAt rD q, ⟨l2[q]'(by omega), ?_⟩, World.ownsRow.frozenAt rU q, (World.ownsRow.lt rD gD rfl).2, (World.ownsRow.lt rU gU rfl).2⟩
  · rw [World.ownsRow.cellAt rD q (by omega)]; simp [ivI, show q < l1.length by omega]
  · rw [World.ownsRow.cellAt rU q (by omega)]; simp [ivI, show q < l2.length by omega]
theorem ForS.set (h : ForS s r z d g w b l1 l2 (.slice (some ⟨gD, 0, none⟩) n cD) (.slice (some ⟨gU, 0, none⟩) n cU) wr) (h1 : l1.length = n) (h2 : l2.length = n) (x y : Int) :
    ForS s r z d g w b (l1.set q x) (l2.set q y) (.slice (some ⟨gD, 0, none⟩) n cD) (.slice (some ⟨gU, 0, none⟩) n cU) ((wr.setCell ⟨gD, q, none⟩ (.int .i64 x)).setCell ⟨gU, q, none⟩ (.int .i64 y)) := by
  have hD : b + 1 ≤ gD := (World.ownsRow.lt h.rowD gD rfl).1
  have hU : b + 1 ≤ gU := (World.ownsRow.lt h.rowU gU rfl).1
  have hle := h.le
  have hne : gD ≠ gU := by
    rcases h.ne with h3 | h3
    · cases h3
    · exact fun e => h3 (by rw [e]; rfl)
  have rD := h.rowD
  have rU := h.rowU
  rw [h1] at rD
  rw [h2] at rU
  have e1 : ivI (l1.set q x) = (ivI l1).set q (.int .i64 x) := by simp [ivI, List.map_set]
  have e2 : ivI (l2.set q y) = (ivI l2).set q (.int .i64 y) := by simp [ivI, List.map_set]
  refine ⟨?_, ?_, ?_, h.ne, (h.low.setCell (show w.heap.size ≤ gD by omega) _).setCell (show w.heap.size ≤ gU by omega) _, h.le⟩
  · rw [Below.heap_setCell _ _ _ _ (show b ≠ gU by omega), Below.heap_setCell _ _ _ _ (show b ≠ gD by omega)]; exact h.blk
  · rw [e1, List.length_set, h1]
    exact ownsRow_setCell_other (World.ownsRow.stored rD q (.int .i64 x)).1 (show Value.ownBlock (.slice (some ⟨gD, 0, none⟩) n cD) ≠ some gU from fun e => hne (by simpa [Value.ownBlock] using e)) _
  · rw [e2, List.length_set, h2]
    exact (World.ownsRow.stored (ownsRow_setCell_other rU (show Value.ownBlock (.slice (some ⟨gU, 0, none⟩) n cU) ≠ some gD from fun e => hne (by simpa [Value.ownBlock] using e.symm)) _) q (.int .i64 y)).1
end

/-- The rows of kept rates: not asked for, or the rate. -/
def RowsOk (r z : Int) (l1 l2 : List Int) : Prop := l1.length = 1003 ∧ l2.length = 1003 ∧ ∀ q : Nat, q < 1003 → l1[q]? = some (-1) ∨ (l1[q]? = some ((Pm.rateD r z ((q : Int) - 200) : Nat) : Int) ∧ l2[q]? = some ((Pm.rateU r z ((q : Int) - 200) : Nat) : Int))
theorem RowsOk.set {r z : Int} {l1 l2 : List Int} (h : RowsOk r z l1 l2) (q : Nat) : RowsOk r z (l1.set q ((Pm.rateD r z ((q : Int) - 200) : Nat) : Int)) (l2.set q ((Pm.rateU r z ((q : Int) - 200) : Nat) : Int)) := by
  obtain ⟨h1, h2, h3⟩ := h
  refine ⟨by rw [List.length_set]; exact h1, by rw [List.length_set]; exact h2, fun k hk => ?_⟩
  by_cases e : q = k
  · subst e
    exact .inr ⟨by rw [List.getElem?_set_self (by omega)], by rw [List.getElem?_set_self (by omega)]⟩
  · rw [List.getElem?_set_ne e, List.getElem?_set_ne e]; exact h3 k hk
def KnownAt (r z : Int) (l1 l2 : List Int) (q : Nat) : Prop := l1[q]? = some ((Pm.rateD r z ((q : Int) - 200) : Nat) : Int) ∧ l2[q]? = some ((Pm.rateU r z ((q : Int) - 200) : Nat) : Int)
theorem KnownAt.put {r z : Int} {l1 l2 : List Int} {q : Nat} (h1 : q < l1.length) (h2 : q < l2.length) :
    (∀ k, KnownAt r z l1 l2 k → KnownAt r z (l1.set q ((Pm.rateD r z ((q : Int) - 200) : Nat) : Int)) (l2.set q ((Pm.rateU r z ((q : Int) - 200) : Nat) : Int)) k) ∧
    (l1.set q ((Pm.rateD r z ((q : Int) - 200) : Nat) : Int))[q]? = some ((Pm.rateD r z ((q : Int) - 200) : Nat) : Int) ∧ (l2.set q ((Pm.rateU r z ((q : Int) - 200) : Nat) : Int))[q]? = some ((Pm.rateU r z ((q : Int) - 200) : Nat) : Int) := by
  refine ⟨fun k hk => ?_, List.getElem?_set_self h1, List.getElem?_set_self h2⟩
  by_cases e : q = k
  · subst e
    exact ⟨List.getElem?_set_self h1, List.getElem?_set_self h2⟩
  · unfold KnownAt
    rw [List.getElem?_set_ne e, List.getElem?_set_ne e]; exact hk
theorem rowsOk_start (r z : Int) : RowsOk r z (negs 1003) (negs 1003) := ⟨negs_len _, negs_len _, fun q hq => .inl (by unfold negs; rw [List.getElem?_replicate, if_pos hq])⟩

/-- The kept rates of a killer, at block b, rows at gD and gU. -/
def KeptS (s : ByteArray) (r z d g : Int) (w : World) (b gD gU : Nat) (wr : World) : Prop := ∃ l1 l2 cD cU, ForS s r z d g w b l1 l2 (.slice (some ⟨gD, 0, none⟩) 1003 cD) (.slice (some ⟨gU, 0, none⟩) 1003 cU) wr ∧ RowsOk r z l1 l2

/-- What a cell holds, whatever it is. -/
def cellV (w : World) (g q : Nat) : Value := (w.cell? ⟨g, q, none⟩).getD (.int .i64 0)
theorem cellV_of {w : World} {g q : Nat} {u : Value} (h : w.cell? ⟨g, q, none⟩ = some u) : w.cell? ⟨g, q, none⟩ = some (cellV w g q) := by unfold cellV; rw [h]; rfl
theorem cellV_set {w : World} {g q h k : Nat} {u : Value} (e : w.cell? ⟨g, q, none⟩ = some (cellV w g q)) : (w.setCell ⟨h, k, none⟩ u).cell? ⟨g, q, none⟩ = some (cellV (w.setCell ⟨h, k, none⟩ u) g q) := by
  by_cases he : (⟨h, k, none⟩ : Addr) = ⟨g, q, none⟩
  · exact cellV_of (u := u) (by rw [he]; exact World.cell?_setCell_same' _ _ _ (by rw [e]; rfl))
  · exact cellV_of (u := cellV w g q) (by rw [World.cell?_setCell_other _ _ _ _ he]; exact e)
/-- What a region of ask holds. -/
def AskS (s : ByteArray) (r z d g : Int) (b gD gU cD cU q : Nat) (w' : World) : Prop :=
  w'.cell? ⟨b, 0, none⟩ = some (.string s) ∧ w'.cell? ⟨b, 1, none⟩ = some (.int .i64 r) ∧ w'.cell? ⟨b, 2, none⟩ = some (.int .i64 z) ∧ w'.cell? ⟨b, 3, none⟩ = some (.int .i64 d) ∧ w'.cell? ⟨b, 4, none⟩ = some (.int .i64 g) ∧ w'.cell? ⟨b, 5, none⟩ = some (.slice (some ⟨gD, 0, none⟩) 1003 cD) ∧ w'.cell? ⟨b, 6, none⟩ = some (.slice (some ⟨gU, 0, none⟩) 1003 cU) ∧
  w'.cell? ⟨gD, q, none⟩ = some (cellV w' gD q) ∧ w'.frozen? ⟨gD, q, none⟩ = false ∧ w'.cell? ⟨gU, q, none⟩ = some (cellV w' gU q) ∧ w'.frozen? ⟨gU, q, none⟩ = false
theorem AskS.store {s : ByteArray} {r z d g : Int} {b gD gU cD cU q h k : Nat} {w' : World} {u : Value} (e : AskS s r z d g b gD gU cD cU q w') (hb : h ≠ b) : AskS s r z d g b gD gU cD cU q (w'.setCell ⟨h, k, none⟩ u) := by
  obtain ⟨h0, h1, h2, h3, h4, h5, h6, h7, h8, h9, h10⟩ := e
  have ho : ∀ i v, w'.cell? ⟨b, i, none⟩ = some v → (w'.setCell ⟨h, k, none⟩ u).cell? ⟨b, i, none⟩ = some v := fun i v e => by
    rw [World.cell?_setCell_other _ _ _ _ (fun e => hb (by cases e; rfl))]; exact e
  exact ⟨ho _ _ h0, ho _ _ h1, ho _ _ h2, ho _ _ h3, ho _ _ h4, ho _ _ h5, ho _ _ h6, cellV_set h7, (World.frozen?_setCell _ _ _ _).trans h8, cellV_set h9, (World.frozen?_setCell _ _ _ _).trans h10⟩
theorem ForS.askS {s : ByteArray} {r z d g : Int} {w wr : World} {b gD gU cD cU q : Nat} {l1 l2 : List Int} (h : ForS s r z d g w b l1 l2 (.slice (some ⟨gD, 0, none⟩) 1003 cD) (.slice (some ⟨gU, 0, none⟩) 1003 cU) wr) (h1 : l1.length = 1003) (h2 : l2.length = 1003) (hq : q < 1003) : AskS s r z d g b gD gU cD cU q wr := by
  obtain ⟨c0, c1, c2, c3, c4, c5, c6⟩ := h.cells7
  obtain ⟨⟨_, dD⟩, fD, ⟨_, dU⟩, fU, _, _⟩ := h.at h1 h2 hq
  exact ⟨c0, c1, c2, c3, c4, c5, c6, cellV_of dD, fD, cellV_of dU, fU⟩

/-- All blocks but two stay. -/
structure Still (gD gU : Nat) (w w' : World) : Prop where
  size : w.heap.size ≤ w'.heap.size
  block : ∀ j, j < w.heap.size → j ≠ gD → j ≠ gU → w'.heap[j]? = w.heap[j]?
theorem Still.refl (gD gU : Nat) (w : World) : Still gD gU w w := ⟨Nat.le_refl _, fun _ _ _ _ => rfl⟩
theorem Still.trans {gD gU : Nat} {a b c : World} (h : Still gD gU a b) (h' : Still gD gU b c) : Still gD gU a c :=
  ⟨Nat.le_trans h.size h'.size, fun j hj h1 h2 => (h'.block j (Nat.lt_of_lt_of_le hj h.size) h1 h2).trans (h.block j hj h1 h2)⟩
theorem Still.below {gD gU : Nat} {a b : World} (h : Below a.heap.size a b) : Still gD gU a b := ⟨h.size, fun j hj _ _ => h.block j hj⟩
theorem Still.setD {gD gU q : Nat} {a b : World} {u : Value} (h : Still gD gU a b) : Still gD gU a (b.setCell ⟨gD, q, none⟩ u) :=
  ⟨by rw [size_set]; exact h.size, fun j hj h1 h2 => (Below.heap_setCell b ⟨gD, q, none⟩ u j h1).trans (h.block j hj h1 h2)⟩
theorem Still.setU {gD gU q : Nat} {a b : World} {u : Value} (h : Still gD gU a b) : Still gD gU a (b.setCell ⟨gU, q, none⟩ u) :=
  ⟨by rw [size_set]; exact h.size, fun j hj h1 h2 => (Below.heap_setCell b ⟨gU, q, none⟩ u j h2).trans (h.block j hj h1 h2)⟩
/-- What ask hands back. -/
def AskP (s : ByteArray) (r : Int) (Z : Nat) (d g : Int) (w : World) (b gD gU cD cU : Nat) (l1 l2 : List Int) (q : Nat) (wr : World) (e : Ending) (w' : World) : Prop :=
  (∃ v, e = .returned v) ∧ Still gD gU wr w' ∧ ∃ m1 m2, ForS s r Z d g w b m1 m2 (.slice (some ⟨gD, 0, none⟩) 1003 cD) (.slice (some ⟨gU, 0, none⟩) 1003 cU) w' ∧ RowsOk r Z m1 m2 ∧ KnownAt r Z m1 m2 q ∧ ∀ k, KnownAt r Z l1 l2 k → KnownAt r Z m1 m2 k

set_option maxRecDepth 20000 in
set_option maxHeartbeats 4000000 in
theorem ask_new (s : ByteArray) (r d g : Int) (Z : Nat) (w : World) (b q gD gU cD cU : Nat) (l1 l2 : List Int) (wr : World) (r1 : -200 ≤ r) (r2 : r ≤ 800) (z1 : 1 ≤ Z) (z2 : Z ≤ 60)
    (hF : ForS s r Z d g w b l1 l2 (.slice (some ⟨gD, 0, none⟩) 1003 cD) (.slice (some ⟨gU, 0, none⟩) 1003 cU) wr) (hq : q < 1003) (hR : RowsOk r Z l1 l2) (hx : l1[q]? = some (-1)) :
    Calls Try.prog 90 #[.pointer (some ⟨b, 0, none⟩), .int .i64 q] wr (AskP s r Z d g w b gD gU cD cU l1 l2 q wr) := by
  have HF := hid hF
  have HR := hid hR
  have hD : b + 1 ≤ gD := (World.ownsRow.lt hF.rowD gD rfl).1
  have hU : b + 1 ≤ gU := (World.ownsRow.lt hF.rowU gU rfl).1
  have hne : gD ≠ gU := by
    rcases hF.ne with h3 | h3
    · cases h3
    · exact fun e => h3 (by rw [e]; rfl)
  have c5 := hF.cells7.2.2.2.2.2.1
  have cq : wr.cell? ⟨gD, q, none⟩ = some (.int .i64 (-1)) := by
    have h := hF.rowD
    rw [hR.1] at h
    rw [World.ownsRow.cellAt h q (by omega)]
    unfold ivI
    rw [List.getElem?_map, hx]; rfl
  have hqi : (q : Int) < 1003 := by omega
  have EW : Hid (IntKind.i64.wrap ((q : Int) - 200) = (q : Int) - 200) := by unfold Hid; exact wrap_i64 (by omega) (by omega)
  obtain ⟨x, hx'⟩ : ∃ x, x = Pm.rateD r Z ((q : Int) - 200) := ⟨_, rfl⟩
  obtain ⟨y, hy'⟩ : ∃ y, y = Pm.rateU r Z ((q : Int) - 200) := ⟨_, rfl⟩
  have HX := hid hx'; have HY := hid hy'
  clear hx' hy'
  clear hF hR hx
  go_enter Try.func90, Try.ntmps90
  go_wp2_with fail
  have HF0 := hid (HF.out.below (Below.refl _ _).drew)
  clear c5 cq
  have HA0 := hid (HF0.out.askS HR.out.1 HR.out.2.1 hq)
  have HAS : ∀ (w' : World) (h k : Nat) (u : Value), Hid (h ≠ b) → AskS s r Z d g b gD gU cD cU q w' → AskS s r Z d g b gD gU cD cU q (w'.setCell ⟨h, k, none⟩ u) := fun w' h k u hb e => e.store hb
  have HK := hid HAS; clear HAS
  have HbD : Hid (gD ≠ b) := by unfold Hid; omega
  have HbU : Hid (gU ≠ b) := by unfold Hid; omega
  go_region_held3 (fun w' => w'.cell? ⟨b, 0, none⟩ = some (.string s) ∧ w'.cell? ⟨b, 1, none⟩ = some (.int .i64 r) ∧ w'.cell? ⟨b, 2, none⟩ = some (.int .i64 Z) ∧ w'.cell? ⟨b, 3, none⟩ = some (.int .i64 d) ∧ w'.cell? ⟨b, 4, none⟩ = some (.int .i64 g) ∧ w'.cell? ⟨b, 5, none⟩ = some (.slice (some ⟨gD, 0, none⟩) 1003 cD) ∧ w'.cell? ⟨b, 6, none⟩ = some (.slice (some ⟨gU, 0, none⟩) 1003 cU) ∧
      w'.cell? ⟨gD, q, none⟩ = some (cellV w' gD q) ∧ w'.frozen? ⟨gD, q, none⟩ = false ∧ w'.cell? ⟨gU, q, none⟩ = some (cellV w' gU q) ∧ w'.frozen? ⟨gU, q, none⟩ = false)
    (first | exact HA0.out | exact (HF0.out.below hb2).askS HR.out.1 HR.out.2.1 hq | exact HK.out _ gD q _ HbD (by assumption) | exact HK.out _ gU q _ HbU (by assumption))
    (first | (go_at_call 66; rw [EW.out]; refine (rrates_any _ _ _ _ ((q : Int) - 200) Z _ r1 r2 z1 z2 (by omega) (by omega)).mono ?_; rintro e w2 ⟨rfl, hb2⟩; rw [← HX.out, ← HY.out]))
  have HF2 := hid (HF0.out.below hb2)
  have HST := hid (((Still.below (gD := gD) (gU := gU) ((Below.refl _ _).drew.trans (hb2.mono (Nat.le_refl _)))).setD (q := q) (u := .int .i64 (x : Int))).setU (q := q) (u := .int .i64 (y : Int)))
  have HFS := hid (HF2.out.set (q := q) HR.out.1 HR.out.2.1 x y)
  have HRS := HR.out.set q
  have HKN := KnownAt.put (r := r) (z := Z) (l1 := l1) (l2 := l2) (q := q) (by have := HR.out.1; omega) (by have := HR.out.2.1; omega)
  rw [← HX.out, ← HY.out] at HRS HKN
  have HKN' := hid HKN; have HRS' := hid HRS
  clear hb2 HKN HRS
  rename_i hq9
  clear hq9
  go_wp2
  go_end0
  exact ⟨⟨_, rfl⟩, HST.out, _, _, HFS.out, HRS'.out, by unfold KnownAt; rw [← HX.out, ← HY.out]; exact HKN'.out.2, HKN'.out.1⟩
set_option maxHeartbeats 1000000 in
theorem ask_old (s : ByteArray) (r d g : Int) (Z : Nat) (w : World) (b q gD gU cD cU : Nat) (l1 l2 : List Int) (wr : World)
    (hF : ForS s r Z d g w b l1 l2 (.slice (some ⟨gD, 0, none⟩) 1003 cD) (.slice (some ⟨gU, 0, none⟩) 1003 cU) wr) (hq : q < 1003) (hR : RowsOk r Z l1 l2) (hx : KnownAt r Z l1 l2 q) :
    Calls Try.prog 90 #[.pointer (some ⟨b, 0, none⟩), .int .i64 q] wr (AskP s r Z d g w b gD gU cD cU l1 l2 q wr) := by
  have HP := hid (show AskP s r Z d g w b gD gU cD cU l1 l2 q wr (.returned (.tuple #[])) wr from ⟨⟨_, rfl⟩, Still.refl _ _ _, l1, l2, hF, hR, hx, fun _ h => h⟩)
  have c5 := hF.cells7.2.2.2.2.2.1
  have cq : wr.cell? ⟨gD, q, none⟩ = some (.int .i64 ((Pm.rateD r Z ((q : Int) - 200) : Nat) : Int)) := by
    have h := hF.rowD
    rw [hR.1] at h
    rw [World.ownsRow.cellAt h q (by omega)]
    unfold ivI
    rw [List.getElem?_map, hx.1]; rfl
  have hqi : (q : Int) < 1003 := by omega
  clear hF hR hx
  generalize Pm.rateD r Z ((q : Int) - 200) = x at cq
  have hd : decide ((x : Int) < 0) = false := by simp
  go_enter Try.func90, Try.ntmps90
  go_wp2_with fail
  go_end0
  exact HP.out
theorem ask_any (s : ByteArray) (r d g : Int) (Z : Nat) (w : World) (b q gD gU cD cU : Nat) (l1 l2 : List Int) (wr : World) (r1 : -200 ≤ r) (r2 : r ≤ 800) (z1 : 1 ≤ Z) (z2 : Z ≤ 60)
    (hF : ForS s r Z d g w b l1 l2 (.slice (some ⟨gD, 0, none⟩) 1003 cD) (.slice (some ⟨gU, 0, none⟩) 1003 cU) wr) (hq : q < 1003) (hR : RowsOk r Z l1 l2) :
    Calls Try.prog 90 #[.pointer (some ⟨b, 0, none⟩), .int .i64 q] wr (AskP s r Z d g w b gD gU cD cU l1 l2 q wr) := by
  rcases hR.2.2 q hq with h | h
  · exact ask_new s r d g Z w b q gD gU cD cU l1 l2 wr r1 r2 z1 z2 hF hq hR h
  · exact ask_old s r d g Z w b q gD gU cD cU l1 l2 wr hF hq hR h
end Go.Proofs.Ytfngmpkceceomaa
