/- Walks of validStep of both: contracts. -/
import Derived.Test.YtpkcnojcklmhmaaVf
import Derived.Deep.DeepCutAuto
namespace Go.Proofs.Ytpkcnojcklmhmaa
open Go.RowKit

/-- Three cells of a box. -/
def Tri3 (b : Nat) (w w1 : World) (c0 c1 c2 : Value) : Prop := w1.cell? ⟨b, 0, none⟩ = some c0 ∧ w1.cell? ⟨b, 1, none⟩ = some c1 ∧ w1.cell? ⟨b, 2, none⟩ = some c2 ∧ b < w1.heap.size ∧ Below w.heap.size w w1
theorem tri3_start {w : World} {c0 c1 c2 : Value} {T : TypeId} : Tri3 w.heap.size w (w.alloc (.cells #[c0, c1, c2] T)) c0 c1 c2 := by
  have h := box1_start (w := w) (A := #[c0, c1, c2]) (T := T) (fz := (0, 0))
  exact ⟨h.fst 0, h.fst 1, h.fst 2, h.sz, h.low⟩
theorem tri3_keep {b : Nat} {w W w2 : World} {c0 c1 c2 : Value} (hb : Below W.heap.size W w2) (h : Tri3 b w W c0 c1 c2) : Tri3 b w w2 c0 c1 c2 := by
  obtain ⟨h0, h1, h2, h3, h4⟩ := h
  exact ⟨keep_cell hb h0, keep_cell hb h1, keep_cell hb h2, Nat.lt_of_lt_of_le h3 hb.size, bstep h4 h4.size hb⟩
theorem tri3_set {b q j : Nat} {w W : World} {c0 c1 c2 u : Value} (h : Tri3 b w W c0 c1 c2) (hq : b < q) (hw : w.heap.size ≤ q) : Tri3 b w (W.setCell ⟨q, j, none⟩ u) c0 c1 c2 := by
  obtain ⟨h0, h1, h2, h3, h4⟩ := h
  have hk : ∀ i, (W.setCell ⟨q, j, none⟩ u).cell? ⟨b, i, none⟩ = W.cell? ⟨b, i, none⟩ := fun i => World.cell?_of_block (a := ⟨b, i, none⟩) (heap_setCell_other _ _ _ _ (show b ≠ q by omega))
  exact ⟨(hk 0).trans h0, (hk 1).trans h1, (hk 2).trans h2, by simpa using h3, h4.setCell (p := ⟨q, j, none⟩) hw _⟩
theorem new_at {W : World} {o : Obj} {n : Nat} (h : W.heap.size = n) : (W.alloc o).heap[n]? = some o := by subst h; exact heap_alloc_new W o
/-- A struct kind that was just laid. -/
def kindO : Obj := .cells #[.string ⟨#[]⟩, .int .i64 0, .int .i64 0, .nilFunc] 158
theorem kindO_cells {W : World} {q : Nat} (h : W.heap[q]? = some kindO) : W.cell? ⟨q, 0, none⟩ = some (.string ⟨#[]⟩) ∧ W.cell? ⟨q, 1, none⟩ = some (.int .i64 0) ∧ W.cell? ⟨q, 2, none⟩ = some (.int .i64 0) ∧ W.cell? ⟨q, 3, none⟩ = some .nilFunc ∧ W.frozen? ⟨q, 0, none⟩ = false ∧ W.frozen? ⟨q, 1, none⟩ = false ∧ W.frozen? ⟨q, 2, none⟩ = false ∧ W.frozen? ⟨q, 3, none⟩ = false :=
  ⟨cell_of_row _ _ 0 _ _ _ h, cell_of_row _ _ 1 _ _ _ h, cell_of_row _ _ 2 _ _ _ h, cell_of_row _ _ 3 _ _ _ h, frozen_of_row _ _ 0 _ _ h, frozen_of_row _ _ 1 _ _ h, frozen_of_row _ _ 2 _ _ h, frozen_of_row _ _ 3 _ _ h⟩
theorem infoK1 : (Try.prog.info? 158).map (·.size) = some 4 := by kernel_rfl
theorem kind_at1 (h l : Nat) (w : World) : Sem.run Try.prog (Instr.index 159 (.agg (kindA h l)) (.int .i64 1)) w = .ok (.agg #[.string ⟨#[118, 101, 110, 116]⟩, .int .i64 0, .int .i64 2000, (.func (.func 128) #[] #[.pointer (some ⟨h, 0, none⟩), .pointer (some ⟨l, 0, none⟩)])]) w := by
  obtain ⟨i0, hi, hs⟩ : ∃ i, Try.prog.info? 158 = some i ∧ i.size = 4 := by
    have h1 := infoK1
    cases h2 : Try.prog.info? 158 with
    | none => rw [h2] at h1; cases h1
    | some i => rw [h2] at h1; exact ⟨i, rfl, Option.some.inj h1⟩
  simp [Instr.index, run_underlying Try.underlying159, asIntOf, sizeOf, typeInfo, hi, hs, kindA, bothV, hotV, longV, go_sem]
theorem kind_at2 (h l : Nat) (w : World) : Sem.run Try.prog (Instr.index 159 (.agg (kindA h l)) (.int .i64 2)) w = .ok (.agg #[.string ⟨#[117, 112]⟩, .int .i64 0, .int .i64 0, (.func (.func 126) #[] #[])]) w := by
  obtain ⟨i0, hi, hs⟩ : ∃ i, Try.prog.info? 158 = some i ∧ i.size = 4 := by
    have h1 := infoK1
    cases h2 : Try.prog.info? 158 with
    | none => rw [h2] at h1; cases h1
    | some i => rw [h2] at h1; exact ⟨i, rfl, Option.some.inj h1⟩
  simp [Instr.index, run_underlying Try.underlying159, asIntOf, sizeOf, typeInfo, hi, hs, kindA, bothV, hotV, longV, go_sem]
theorem kind_at3 (h l : Nat) (w : World) : Sem.run Try.prog (Instr.index 159 (.agg (kindA h l)) (.int .i64 3)) w = .ok (.agg #[.string ⟨#[99, 111, 111, 107]⟩, .int .i64 1, .int .i64 2000, (.func (.func 127) #[] #[])]) w := by
  obtain ⟨i0, hi, hs⟩ : ∃ i, Try.prog.info? 158 = some i ∧ i.size = 4 := by
    have h1 := infoK1
    cases h2 : Try.prog.info? 158 with
    | none => rw [h2] at h1; cases h1
    | some i => rw [h2] at h1; exact ⟨i, rfl, Option.some.inj h1⟩
  simp [Instr.index, run_underlying Try.underlying159, asIntOf, sizeOf, typeInfo, hi, hs, kindA, bothV, hotV, longV, go_sem]
theorem kind_at4 (h l : Nat) (w : World) : Sem.run Try.prog (Instr.index 159 (.agg (kindA h l)) (.int .i64 4)) w = .ok (.agg #[.string ⟨#[99, 111, 111, 108]⟩, .int .i64 1, .int .i64 2000, (.func (.func 127) #[] #[])]) w := by
  obtain ⟨i0, hi, hs⟩ : ∃ i, Try.prog.info? 158 = some i ∧ i.size = 4 := by
    have h1 := infoK1
    cases h2 : Try.prog.info? 158 with
    | none => rw [h2] at h1; cases h1
    | some i => rw [h2] at h1; exact ⟨i, rfl, Option.some.inj h1⟩
  simp [Instr.index, run_underlying Try.underlying159, asIntOf, sizeOf, typeInfo, hi, hs, kindA, bothV, hotV, longV, go_sem]
set_option maxRecDepth 20000 in
set_option maxHeartbeats 4000000 in
theorem vstep_gen (k s n lo hi : Int) (wd : ByteArray) (fn : Fn) (ca : Nat → Nat → Array Value) (w : World) (h1 : inB k 1 4 = true) (h2 : inB s 0 200000 = true)
    (kx : ∀ h l w, Sem.run Try.prog (Instr.index 159 (.agg (kindA h l)) (.int .i64 k)) w = .ok (.agg #[.string wd, .int .i64 lo, .int .i64 hi, .func fn #[] (ca h l)]) w) :
    Calls Try.prog 107 #[.agg #[.int .i64 k, .int .i64 s, .int .i64 n]] w fun e w' => e = .returned (.bool (inB n lo hi)) ∧ Below w.heap.size w w' := by
  have hT := tri3_start (w := w) (c0 := .int .i64 k) (c1 := .int .i64 s) (c2 := .int .i64 n) (T := 76)
  have HT := hid hT
  obtain ⟨b0, b1, b2, hz, hB⟩ := hT
  have H1 := hid h1
  have H2 := hid h2
  have KX := hid kx
  clear h1 h2 kx
  go_enter Try.func107, Try.ntmps107
  go_wp2_with (go_at_call 78; refine (vwithin_any _ _ _ _).mono ?_; rintro e w' ⟨rfl, rfl⟩; (first | rw [H1.out] | rw [H2.out]))
  clear b0 b1 b2 hz hB
  refine wp_region_held_drew (S := fun w' => Tri3 w.heap.size w w' (.int .i64 k) (.int .i64 s) (.int .i64 n)) (by kernel_rfl) (tri3_keep (Below.refl _ _).drew HT.out) (fun hS0 => ?_)
  refine wpAnyH_take (i := 1) (v := ?_) rfl (by kernel_rfl) (by kernel_rfl) (by kernel_rfl) (fun _ _ _ h => h) (Or.inl ⟨by rfl, ?_⟩) hS0 ?_
  rotate_left
  · intro w' hSw
    obtain ⟨q0, q1, q2, _⟩ := hSw
    go_simp
    try with_reducible rfl
  try simp only [Act.put]
  try simp only [List.setIfInBounds_toArray]
  try simp only [List.set_cons_zero, List.set_cons_succ]
  refine wpAnyH_take (i := 2) (v := ?_) rfl (by kernel_rfl) (by kernel_rfl) (by kernel_rfl) (fun _ _ _ h => h) (Or.inl ⟨by rfl, ?_⟩) hS0 ?_
  rotate_left
  · intro w' hSw
    obtain ⟨q0, q1, q2, _⟩ := hSw
    go_simp
    try with_reducible rfl
  try simp only [Act.put]
  try simp only [List.setIfInBounds_toArray]
  try simp only [List.set_cons_zero, List.set_cons_succ]
  (refine wpAnyH_ready (rs := [0, 4]) (by kernel_rfl) (by simp) ?_)
  refine AllReadyH.cons rfl (fun K hK => ?_) ?_
  · go_simp
    refine (kinds_any _).mono ?_
    rintro e w2 ⟨hh, ll, rfl, g1, g2, hb⟩
    have kx := KX.out hh ll
    clear g1 g2
    go_wp2_with fail
    (refine hK.out _ _ (tri3_keep hb hS0) (fun hS1 => ?_); clear hK K)
    refine wpAnyH_take (i := 3) (v := ?_) rfl (by kernel_rfl) (by kernel_rfl) (by kernel_rfl) (fun _ _ _ h => h) (Or.inl ⟨by rfl, ?_⟩) hS1 ?_
    rotate_left
    · intro w' hSw
      obtain ⟨q0, q1, q2, _⟩ := hSw
      go_simp
      try with_reducible rfl
    try simp only [Act.put]
    try simp only [List.setIfInBounds_toArray]
    try simp only [List.set_cons_zero, List.set_cons_succ]
    (refine wpAnyH_ready (rs := [4]) (by kernel_rfl) (by simp) ?_)
    refine AllReadyH.cons rfl (fun K hK => ?_) AllReadyH.nil
    go_simp
    (refine hK.out _ _ (tri3_keep ((Below.refl _ _).alloc (Nat.le_refl _) _) hS1) (fun hS2 => ?_); clear hK K)
    (refine wpAnyH_ready (rs := [5]) (by kernel_rfl) (by simp) ?_)
    refine AllReadyH.cons rfl (fun K hK => ?_) AllReadyH.nil
    go_simp
    (refine hK.out _ _ (tri3_keep ((Below.refl _ _).alloc (Nat.le_refl _) _) hS1) (fun hS3 => ?_); clear hK K)
    refine wpAnyH_done (by kernel_rfl) ?_ _
    have HS3 := hid hS3
    obtain ⟨q0, q1, q2, qz, qB⟩ := hS3
    clear hS0 hS1
    go_wp2_with (go_at_call 78; refine (vwithin_any _ _ _ _).mono ?_; rintro e w' ⟨rfl, rfl⟩)
    go_ret
    exact ⟨rfl, HS3.out.2.2.2.2⟩
  · refine AllReadyH.cons rfl (fun K hK => ?_) AllReadyH.nil
    go_simp
    (refine hK.out _ _ (tri3_keep ((Below.refl _ _).alloc (Nat.le_refl _) _) hS0) (fun hS1 => ?_); clear hK K)
    (refine wpAnyH_ready (rs := [0]) (by kernel_rfl) (by simp) ?_)
    refine AllReadyH.cons rfl (fun K hK => ?_) AllReadyH.nil
    go_simp
    refine (kinds_any _).mono ?_
    rintro e w2 ⟨hh, ll, rfl, g1, g2, hb⟩
    have kx := KX.out hh ll
    have hq := hb.block (w.heap.size + 1) (by simp)
    have HQ := hid (kindO_cells (hq.trans (new_at (by simp))))
    clear g1 g2 hq
    go_wp2_with fail
    (refine hK.out _ _ (tri3_keep hb hS1) (fun hS2 => ?_); clear hK K)
    refine wpAnyH_take (i := 3) (v := ?_) rfl (by kernel_rfl) (by kernel_rfl) (by kernel_rfl) (fun _ _ _ h => h) (Or.inl ⟨by rfl, ?_⟩) hS2 ?_
    rotate_left
    · intro w' hSw
      obtain ⟨q0, q1, q2, _⟩ := hSw
      go_simp
      try with_reducible rfl
    try simp only [Act.put]
    try simp only [List.setIfInBounds_toArray]
    try simp only [List.set_cons_zero, List.set_cons_succ]
    (refine wpAnyH_ready (rs := [5]) (by kernel_rfl) (by simp) ?_)
    refine AllReadyH.cons rfl (fun K hK => ?_) AllReadyH.nil
    obtain ⟨e0, e1, e2, e3, f0, f1, f2, f3⟩ := HQ.out
    go_simp
    (refine hK.out _ _ (tri3_set (tri3_set (tri3_set (tri3_set hS2 (by simp) (by simp)) (by simp) (by simp)) (by simp) (by simp)) (by simp) (by simp)) (fun hS3 => ?_); clear hK K)
    refine wpAnyH_done (by kernel_rfl) ?_ _
    have HS3 := hid hS3
    obtain ⟨q0, q1, q2, qz, qB⟩ := hS3
    clear hS0 hS1
    go_wp2_with (go_at_call 78; refine (vwithin_any _ _ _ _).mono ?_; rintro e w' ⟨rfl, rfl⟩)
    go_ret
    exact ⟨rfl, HS3.out.2.2.2.2⟩
theorem loK_at (k : Int) : (k = 1 → loK k = 0 ∧ hiK k = 2000) ∧ (k = 2 → loK k = 0 ∧ hiK k = 0) ∧ (k = 3 → loK k = 1 ∧ hiK k = 2000) ∧ (k = 4 → loK k = 1 ∧ hiK k = 2000) := by
  refine ⟨?_, ?_, ?_, ?_⟩ <;> rintro rfl <;> exact ⟨rfl, rfl⟩
theorem stepB_eq (k s n : Int) : stepB ⟨k, s, n⟩ = (inB k 1 4 && inB s 0 200000 && inB n (loK k) (hiK k)) := rfl
set_option maxHeartbeats 2000000 in
theorem vstep_any (k s n : Int) (w : World) : Calls Try.prog 107 #[.agg #[.int .i64 k, .int .i64 s, .int .i64 n]] w fun e w' => e = .returned (.bool (stepB ⟨k, s, n⟩)) ∧ Below w.heap.size w w' := by
  have hE := hid (stepB_eq k s n)
  obtain ⟨b0, b1, b2, hz, hB⟩ := tri3_start (w := w) (c0 := .int .i64 k) (c1 := .int .i64 s) (c2 := .int .i64 n) (T := 76)
  cases h1 : inB k 1 4
  · go_enter Try.func107, Try.ntmps107
    go_wp2_with (go_at_call 78; refine (vwithin_any _ _ _ _).mono ?_; rintro e w' ⟨rfl, rfl⟩; rw [h1])
    go_ret
    exact ⟨ret_bool (by rw [hE.out, h1]; rfl), hB⟩
  cases h2 : inB s 0 200000
  · go_enter Try.func107, Try.ntmps107
    go_wp2_with (go_at_call 78; refine (vwithin_any _ _ _ _).mono ?_; rintro e w' ⟨rfl, rfl⟩; (first | rw [h1] | rw [h2]))
    go_ret
    exact ⟨ret_bool (by rw [hE.out, h2, Bool.and_false]; rfl), hB⟩
  have hEE : stepB ⟨k, s, n⟩ = inB n (loK k) (hiK k) := by rw [hE.out, h1, h2]; rfl
  rw [hEE]
  obtain ⟨l1, l2, l3, l4⟩ := loK_at k
  have hk := inB_iff.1 h1
  rcases (show k = 1 ∨ k = 2 ∨ k = 3 ∨ k = 4 by omega) with rfl | rfl | rfl | rfl
  · rw [(l1 rfl).1, (l1 rfl).2]; exact vstep_gen _ _ _ _ _ _ _ (fun h l => #[.pointer (some ⟨h, 0, none⟩), .pointer (some ⟨l, 0, none⟩)]) _ h1 h2 kind_at1
  · rw [(l2 rfl).1, (l2 rfl).2]; exact vstep_gen _ _ _ _ _ _ _ (fun _ _ => #[]) _ h1 h2 kind_at2
  · rw [(l3 rfl).1, (l3 rfl).2]; exact vstep_gen _ _ _ _ _ _ _ (fun _ _ => #[]) _ h1 h2 kind_at3
  · rw [(l4 rfl).1, (l4 rfl).2]; exact vstep_gen _ _ _ _ _ _ _ (fun _ _ => #[]) _ h1 h2 kind_at4
end Go.Proofs.Ytpkcnojcklmhmaa
