/- Texts of this seat, one behind the other. -/
import Derived.Test.YtikjgbfbbkmmcaaGt
import Derived.Test.YtikjgbfbbkmmcaaSzp
import Derived.Laws.OwnMore
import Derived.Test.YtikjgbfbbkmmcaaG02
import Derived.Test.YtikjgbfbbkmmcaaQvd
/- What turns blocks of some types that are no older than B, and lays blocks: steps one behind the other. -/
namespace Go.Proofs.Ytikjgbfbbkmmcaa
open Go.RowKit

theorem gbelowQ {w w' : World} (h : Below w.heap.size w w') : w.grownBy w' none := ⟨h.os, h.tape, h.output, h.size, fun j hj _ => h.block j hj⟩
/-- One world comes out of another by steps that each turn one block of the types T, no older than B, or lay blocks. -/
def Tn (T : Nat → Prop) (B : Nat) (W W' : World) : Prop :=
  ∀ J : World → Prop, (∀ A A' row, J A → A.grownBy A' row → (∀ j, row = some j → B ≤ j ∧ ∃ o : Obj, A.heap[j]? = some o ∧ Obj.turns2 T o) → J A') → J W → J W'
section
variable {T : Nat → Prop} {B : Nat} {W W' W2 : World}
theorem Tn.refl (T : Nat → Prop) (B : Nat) (W : World) : Tn T B W W := fun _ _ h => h
theorem Tn.trans (h : Tn T B W W') (k : Tn T B W' W2) : Tn T B W W2 := fun J hJ h0 => k J hJ (h J hJ h0)
theorem Tn.step {row : Option Nat} (hg : W.grownBy W' row) (hr : ∀ j, row = some j → B ≤ j ∧ ∃ o : Obj, W.heap[j]? = some o ∧ Obj.turns2 T o) : Tn T B W W' := fun _ hJ h0 => hJ _ _ row h0 hg hr
theorem Tn.lay (hb : Below W.heap.size W W') : Tn T B W W' := Tn.step (row := none) (gbelowQ hb) (fun j e => by cases e)
theorem Tn.mono {B' : Nat} (h : Tn T B W W') (hB : B' ≤ B) : Tn T B' W W' := fun J hJ h0 => h J (fun A A' row hA hg hr => hJ A A' row hA hg (fun j e => ⟨Nat.le_trans hB (hr j e).1, (hr j e).2⟩)) h0
theorem Tn.os (h : Tn T B W W') : W'.os = W.os := h (fun X => X.os = W.os) (fun _ _ _ hA hg _ => hg.os.trans hA) rfl
theorem Tn.tape (h : Tn T B W W') : W'.tape = W.tape := h (fun X => X.tape = W.tape) (fun _ _ _ hA hg _ => hg.tape.trans hA) rfl
theorem Tn.output (h : Tn T B W W') : W'.output = W.output := h (fun X => X.output = W.output) (fun _ _ _ hA hg _ => hg.output.trans hA) rfl
theorem Tn.size (h : Tn T B W W') : W.heap.size ≤ W'.heap.size := h (fun X => W.heap.size ≤ X.heap.size) (fun _ _ _ hA hg _ => Nat.le_trans hA hg.size) (Nat.le_refl _)
theorem Tn.block (h : Tn T B W W') {j : Nat} (hj : j < B) (hs : j < W.heap.size) : W'.heap[j]? = W.heap[j]? :=
  (h (fun X => j < X.heap.size ∧ X.heap[j]? = W.heap[j]?) (fun _ _ row hA hg hr => ⟨Nat.lt_of_lt_of_le hA.1 hg.size, (hg.block j hA.1 (fun e => by have := (hr j e.symm).1; omega)).trans hA.2⟩) ⟨hs, rfl⟩).2
theorem Tn.other (h : Tn T B W W') {j : Nat} {cs : Array Value} {t : Nat} {fz : Nat × Nat} (hj : W.heap[j]? = some (.cells cs t fz)) (ht : ¬ T t) : W'.heap[j]? = some (.cells cs t fz) :=
  h (fun X => X.heap[j]? = some (.cells cs t fz)) (fun A _ row hA hg hr => (hg.block j (Array.getElem?_eq_some_iff.1 hA).1 (fun e => by
    obtain ⟨_, o, ho, hw | ⟨t', cs', ht', rfl⟩⟩ := hr j e.symm
    · rw [hA] at ho; cases ho; cases hw
    · rw [hA] at ho; cases ho; exact ht ht')).trans hA) hj
theorem Tn.below {w : World} (h : Tn T B W W') (hb : Below w.heap.size w W) (hB : w.heap.size ≤ B) : Below w.heap.size w W' :=
  ⟨h.os.trans hb.os, h.tape.trans hb.tape, h.output.trans hb.output, Nat.le_trans hb.size h.size, fun k hk => (h.block (by omega) (by have := hb.size; omega)).trans (hb.block k hk)⟩
theorem Tn.put {cs : Array Value} {t i : Nat} {v : Value} {fz : Nat × Nat} {b : Nat} (hB : B ≤ b) (h : W.heap[b]? = some (.cells cs t fz)) (hf : fz = (0, 0)) (ht : T t) : Tn T B W (W.setCell ⟨b, i, none⟩ v) :=
  Tn.step (row := some b) ⟨rfl, rfl, rfl, by simp, fun k _ hk => heap_setCell_other _ _ _ _ (fun e => hk (by rw [e]))⟩ (fun j e => by cases e; subst hf; exact ⟨hB, _, h, .inr ⟨t, cs, ht, rfl⟩⟩)
theorem Tn.ab {α : Type} {J : List α → World → Prop} (h : Tn T B W W') (hJ : AbG2 T B J) {s : List α} (h0 : J s W) : J s W' := h (fun X => J s X) (fun A A' row hA hg hr => hJ s A A' row hA hg hr) h0
end
end Go.Proofs.Ytikjgbfbbkmmcaa

/- Walks of the vessels' methods: contracts. -/
namespace Go.Proofs.Ytikjgbfbbkmmcaa
open Go.RowKit

theorem ltV_or (p q : Pr) : decide (orI (cmpI p.y q.y) (cmpI p.x q.x) < 0) = ltV p q := by
  unfold orI cmpI ltV
  rw [Bool.eq_iff_iff]
  simp only [decide_eq_true_iff]
  (repeat' split) <;> omega
theorem RowE.vess {w : World} {a : Option Addr} {n c k : Nat} {l : List Pr} (h : RowE encV w (.slice a n c) l) (hk : k < l.length) : ∃ b o, a = some ⟨b, o, none⟩ ∧ w.cell? ⟨b, o + k * 2, none⟩ = some (.int .i64 (vat l k).x) ∧ w.cell? ⟨b, o + k * 2 + 1, none⟩ = some (.int .i64 (vat l k).y) := by
  obtain ⟨b, o, rfl, hc⟩ := h.get hk
  rw [vat_eq hk]
  exact ⟨b, o, rfl, hc 0 _ rfl, hc 1 _ rfl⟩
theorem len_any (v : Value) (l : List Pr) (w : World) (hr : RowE encV w v l) : Calls Try.prog 142 #[v] w fun e w' => e = .returned (.int .i64 (l.length : Int)) ∧ w = w' := by
  obtain ⟨a, c, rfl⟩ := hr.shape
  have hm := hr.most
  unfold maxLen at hm
  clear hr
  go_enter Try.func142, Try.ntmps142
  go_wp2
  go_ret
  exact ⟨rfl, rfl⟩
set_option maxRecDepth 20000 in
set_option maxHeartbeats 4000000 in
theorem less_any (v : Value) (l : List Pr) (i j : Nat) (w : World) (hr : RowE encV w v l) (hi : i < l.length) (hj : j < l.length) :
    Calls Try.prog 143 #[v, .int .i64 (i : Nat), .int .i64 (j : Nat)] w fun e w' => e = .returned (.bool (ltV (vat l i) (vat l j))) ∧ Below w.heap.size w w' := by
  obtain ⟨a, cc, rfl⟩ := hr.shape
  have hm := hr.most
  unfold maxLen at hm
  obtain ⟨b, o, rfl, x0, x1⟩ := hr.vess hi
  obtain ⟨b', o', hv, y0, y1⟩ := hr.vess hj
  injection hv with hv
  injection hv with e1 e2
  subst e1 e2
  have hi' : (i : Int) < l.length := by omega
  have hj' : (j : Int) < l.length := by omega
  obtain ⟨c, hc⟩ : ∃ c, cmpI (vat l i).y (vat l j).y = c := ⟨_, rfl⟩
  obtain ⟨d, hd⟩ : ∃ d, cmpI (vat l i).x (vat l j).x = d := ⟨_, rfl⟩
  have HQ1 := hid (fun W => cmp_q _ _ _ hc W)
  have HQ2 := hid (fun W => cmp_q _ _ _ hd W)
  have HE := hid (ltV_or (vat l i) (vat l j))
  rw [hc, hd] at HE
  generalize l.length = n at *
  generalize vat l i = p at *
  generalize vat l j = q at *
  clear hr hc hd hi hj
  go_enter Try.func143, Try.ntmps143
  go_wp2
  refine wp_region_still_tail 22 (by kernel_rfl) (by kernel_rfl) ?_
  simp only [List.take_succ_cons, List.take_zero, List.drop_succ_cons, List.drop_zero]
  iterate 10 still_step
  still_call (HQ1.out _)
  iterate 10 still_step
  still_call (HQ2.out _)
  refine wpStill_nil ?_
  have HB2 := hid ((Below.refl w.heap.size w).drew.alloc (by simp) (.cells #[.int .i64 c, .int .i64 d] 3))
  have HRW := hid (rowI_two (w := w.drew) (x := c) (y := d) (T := 3) rfl)
  go_wp2_with fail
  refine (or_any c d _ _ HRW.out).mono ?_
  rintro e w3 ⟨rfl, rfl⟩
  go_wp2_with fail
  go_ret
  exact ⟨ret_bool HE.out, HB2.out⟩
end Go.Proofs.Ytikjgbfbbkmmcaa

/- Walk of the vessels' Swap: contract. -/
namespace Go.Proofs.Ytikjgbfbbkmmcaa
open Go.RowKit

theorem OwnE.frz {α : Type} {C : Enc α} {w : World} {base E g cap : Nat} {l : List α} (h : OwnE C w base E (.slice (some ⟨g, 0, none⟩) l.length cap) l) (j : Nat) : w.frozen? ⟨g, j, none⟩ = false := World.ownsRow.frozenAt h j
set_option maxRecDepth 20000 in
set_option maxHeartbeats 4000000 in
theorem swap_any (g cap : Nat) (l : List Pr) (i j base : Nat) (w : World) (hr : OwnE encV w base 99 (.slice (some ⟨g, 0, none⟩) l.length cap) l) (hi : i < l.length) (hj : j < l.length) :
    Calls Try.prog 146 #[.slice (some ⟨g, 0, none⟩) l.length cap, .int .i64 (i : Nat), .int .i64 (j : Nat)] w fun e w' => e = .returned (.tuple #[]) ∧
      w' = (((((w.setCell ⟨g, i * 2, none⟩ (.int .i64 (vat l j).x)).setCell ⟨g, i * 2 + 1, none⟩ (.int .i64 (vat l j).y)).setCell ⟨g, j * 2, none⟩ (.int .i64 (vat l i).x)).setCell ⟨g, j * 2 + 1, none⟩ (.int .i64 (vat l i).y))).drew := by
  have hm := hr.most
  unfold maxLen at hm
  obtain ⟨b, o, hv, x0, x1⟩ := hr.row.vess hi
  cases hv
  obtain ⟨b', o', hv, y0, y1⟩ := hr.row.vess hj
  cases hv
  simp only [Nat.zero_add] at x0 x1 y0 y1
  obtain ⟨u0, k0⟩ := cell?_setCell_some (p := ⟨g, i * 2, none⟩) (x := .int .i64 (vat l j).x) y0
  obtain ⟨u1, k1⟩ := cell?_setCell_some (p := ⟨g, i * 2 + 1, none⟩) (x := .int .i64 (vat l j).y) (cell?_setCell_some (p := ⟨g, i * 2, none⟩) (x := .int .i64 (vat l j).x) y1).choose_spec
  have f0 := hr.frz (i * 2)
  have f1 := hr.frz (i * 2 + 1)
  have f2 := hr.frz (j * 2)
  have f3 := hr.frz (j * 2 + 1)
  have hi' : (i : Int) < l.length := by omega
  have hj' : (j : Int) < l.length := by omega
  generalize l.length = n at *
  generalize vat l i = p at *
  generalize vat l j = q at *
  clear hr hi hj
  go_enter Try.func146, Try.ntmps146
  go_wp2
  go_region
  go_end0
  exact ⟨rfl, rfl⟩
end Go.Proofs.Ytikjgbfbbkmmcaa
