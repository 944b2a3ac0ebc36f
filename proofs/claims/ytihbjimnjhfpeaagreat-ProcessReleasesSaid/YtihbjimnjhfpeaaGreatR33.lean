/- Texts of this seat, one behind the other. -/
import Derived.Test.YtihbjimnjhfpeaaGreatR32
import Derived.Test.YtihbjimnjhfpeaaGreatR22
import Derived.Laws.EntriesVeiled
import Derived.Laws.Tables
import Derived.Deep.DeepCutAuto
/- Walks of ValidSchedules of both: contracts. -/
namespace Go.Proofs.YtihbjimnjhfpeaaGreat
open Go.RowKit Go.Lib

end Go.Proofs.YtihbjimnjhfpeaaGreat

/- Walks of fits and of Lookup's early ends: contracts. -/
namespace Go.Proofs.YtihbjimnjhfpeaaGreat
open Go.RowKit Go.Lib

set_option maxRecDepth 20000 in
set_option maxHeartbeats 2000000 in
theorem fits_any (x : Sch) (i f : Int) (w : World) :
    Calls Tryz.prog 136 #[.agg #[.string x.pr, .int .i64 x.it, .int .i64 x.tm, .int .i64 x.tk, .int .i64 x.fl], .int .i64 i, .int .i64 f] w fun e w' => e = .returned (.bool (x.fit i f)) ∧ Below w.heap.size w w' := by
  have BX := hid (box1_start (w := w) (A := #[.string x.pr, .int .i64 x.it, .int .i64 x.tm, .int .i64 x.tk, .int .i64 x.fl]) (T := 38) (fz := (0, 0)))
  have HF := hid (show x.fit i f = (decide (x.it ≤ i) && decide (f ≤ x.fl)) from rfl)
  obtain ⟨pr, it, tm, tk, fl⟩ := x
  dsimp only at *
  generalize Sch.fit _ i f = ff at *
  cases h1 : decide (it ≤ i)
  · have HE : Hid (ff = false) := by
      refine hid ?_
      rw [HF.out, h1]; rfl
    go_enter Tryz.func136, Tryz.ntmps136
    go_wp2_with fail
    go_ret
    exact ⟨ret_bool HE.out.symm, BX.out.low⟩
  · have HE : Hid (ff = decide (f ≤ fl)) := by
      refine hid ?_
      rw [HF.out, h1]; rfl
    go_enter Tryz.func136, Tryz.ntmps136
    go_wp2_with fail
    go_ret
    exact ⟨ret_bool HE.out.symm, BX.out.low⟩
def LkP (V E : Int) (w : World) (e : Ending) (w' : World) : Prop := e = .returned (.tuple #[.int .i64 V, .int .i64 E]) ∧ Below w.heap.size w w'
end Go.Proofs.YtihbjimnjhfpeaaGreat

/- Walk of kinds: contract. -/
namespace Go.Proofs.YtihbjimnjhfpeaaGreat.Rt
open Go.RowKit

/-- What kinds makes: words, bounds, and functions; that of KVent knows the other two at two places. -/
def bothV (h l : Nat) : Value := .func (.func 162) #[] #[.pointer (some ⟨h, 0, none⟩), .pointer (some ⟨l, 0, none⟩)]
def hotV : Value := .func (.func 160) #[] #[]
def longV : Value := .func (.func 161) #[] #[]
def kindA (h l : Nat) : Array Value := #[.string ⟨#[]⟩, .int .i64 0, .int .i64 0, .nilFunc, .string ⟨#[118, 101, 110, 116]⟩, .int .i64 0, .int .i64 2000, bothV h l,
  .string ⟨#[117, 112]⟩, .int .i64 0, .int .i64 0, hotV, .string ⟨#[99, 111, 111, 107]⟩, .int .i64 1, .int .i64 2000, longV, .string ⟨#[99, 111, 111, 108]⟩, .int .i64 1, .int .i64 2000, longV]
theorem infoK (h l : Nat) : (Tryz.prog.info? 189).map (·.size) = some (kindA h l).size := by
  have : (Tryz.prog.info? 189).map (·.size) = some 20 := by kernel_rfl
  rw [this]; rfl
theorem kindA_one (h l : Nat) : (kindA h l).all (·.oneCell') = true := by simp [kindA, bothV, hotV, longV, Value.oneCell']
/-- The functions of kinds, and the two places. -/
def KindsP (w : World) (e : Ending) (w' : World) : Prop := ∃ h l : Nat, e = .returned (.agg (kindA h l)) ∧ w'.cell? ⟨h, 0, none⟩ = some hotV ∧ w'.cell? ⟨l, 0, none⟩ = some longV ∧ Below w.heap.size w w'
theorem kinds_start {w W5 : World} {Z cs : Array Value} {T T' : TypeId} (hW : (((w.alloc (.cells Z T)).alloc (.cells #[hotV] T')).alloc (.cells #[longV] T')).setRow w.heap.size cs = W5) :
    W5.cell? ⟨w.heap.size + 1, 0, none⟩ = some hotV ∧ W5.cell? ⟨w.heap.size + 1 + 1, 0, none⟩ = some longV ∧ W5.heap[w.heap.size]? = some (.cells cs T (0, 0)) ∧ Below w.heap.size w W5 := by
  subst hW
  have h1 := box2_start (w := w.alloc (.cells Z T)) (A := #[hotV]) (B := #[longV]) (T := T') (T' := T') (fz := (0, 0)) (fz' := (0, 0))
  have hs : (w.alloc (.cells Z T)).heap.size = w.heap.size + 1 := by simp
  have h0 : (((w.alloc (.cells Z T)).alloc (.cells #[hotV] T')).alloc (.cells #[longV] T')).heap[w.heap.size]? = some (.cells Z T (0, 0)) := by
    rw [Below.heap_alloc _ _ _ (by simp; omega), Below.heap_alloc _ _ _ (by simp), heap_alloc_new]
  generalize ((w.alloc (.cells Z T)).alloc (.cells #[hotV] T')).alloc (.cells #[longV] T') = W2 at h1 h0
  have hl : Below w.heap.size w W2 := balloc h1.low
  have ho : ∀ k i, k ≠ w.heap.size → (W2.setRow w.heap.size cs).cell? ⟨k, i, none⟩ = W2.cell? ⟨k, i, none⟩ := fun k i hk => World.cell?_of_block (a := ⟨k, i, none⟩) (setRow_other _ _ _ _ hk)
  have e1 := h1.fst 0
  have e2 := h1.snd 0
  rw [hs] at e1 e2
  exact ⟨(ho _ _ (by omega)).trans e1, (ho _ _ (by omega)).trans e2, setRow_heap _ _ _ _ _ _ h0, hl.trans ⟨rfl, rfl, rfl, by simp, fun k hk => setRow_other _ _ _ _ (by omega)⟩⟩
theorem three_old {w : World} {Z A B : Array Value} {T T1 T2 : TypeId} : (((w.alloc (.cells Z T)).alloc (.cells A T1)).alloc (.cells B T2)).heap[w.heap.size]? = some (.cells Z T (0, 0)) := by
  rw [Below.heap_alloc _ _ _ (by simp; omega), Below.heap_alloc _ _ _ (by simp), heap_alloc_new]
set_option maxRecDepth 100000 in
set_option maxHeartbeats 4000000 in
theorem kinds_any (w : World) : Calls Tryz.prog 142 #[] w (KindsP w) := by
  go_enter Tryz.func142, Tryz.ntmps142
  go_wp2_with (refine wpList_store_row rfl 189 _ _ rfl w.heap.size (kindA (w.heap.size + 1) (w.heap.size + 1 + 1)) rfl rfl 189 _ three_old (infoK _ _) rfl (kindA_one _ _) ?_; generalize hW : World.setRow _ _ _ = W5; have HS := hid (kinds_start hW); clear hW)
  refine bodyPost_ret (results_cell_row Tryz.results142 _ _ w.heap.size 189 (kindA (w.heap.size + 1) (w.heap.size + 1 + 1)) (0, 0) _ rfl HS.out.2.2.1 Tryz.underlying189 rfl (infoK _ _)) rfl ?_
  exact ⟨_, _, rfl, HS.out.1, HS.out.2.1, HS.out.2.2.2⟩
end Go.Proofs.YtihbjimnjhfpeaaGreat.Rt

/- Walks of validStep of both: contracts. -/
namespace Go.Proofs.YtihbjimnjhfpeaaGreat.Rt
open Go.RowKit

/-- Three cells of a box. -/
def Tri3 (b : Nat) (w w1 : World) (c0 c1 c2 : Value) : Prop := w1.cell? ⟨b, 0, none⟩ = some c0 ∧ w1.cell? ⟨b, 1, none⟩ = some c1 ∧ w1.cell? ⟨b, 2, none⟩ = some c2 ∧ b < w1.heap.size ∧ Below w.heap.size w w1
theorem tri3_start {w : World} {c0 c1 c2 : Value} {T : TypeId} : Tri3 w.heap.size w (w.alloc (.cells #[c0, c1, c2] T)) c0 c1 c2 := by
  have h := box1_start (w := w) (A := #[c0, c1, c2]) (T := T) (fz := (0, 0))
  exact ⟨h.fst 0, h.fst 1, h.fst 2, h.sz, h.low⟩
theorem tri3_keep {b : Nat} {w W w2 : World} {c0 c1 c2 : Value} (hb : Below W.heap.size W w2) (h : Tri3 b w W c0 c1 c2) : Tri3 b w w2 c0 c1 c2 := by
  obtain ⟨h0, h1, h2, h3, h4⟩ := h
  exact ⟨keep_cell hb h0, keep_cell hb h1, keep_cell hb h2, Nat.lt_of_lt_of_le h3 hb.size, bstep h4 h4.size hb⟩
theorem tri3_set {b q j : Nat} {w W : World} {c0 c1 c2 u : Value} (h : Tri3 b w W c0 c1 c2) (hq : b < q) (hw : w.heap.size ≤ q) : Tri3 b w (W.setCell ⟨q, j, none⟩ u) c0 c1 c2 := by
  obtain ⟨h0, h1, h2, h3, h4⟩ := h
  have hk : ∀ i, (W.setCell ⟨q, j, none⟩ u).cell? ⟨b, i, none⟩ = W.cell? ⟨b, i, none⟩ := fun i => World.cell?_of_block (a := ⟨b, i, none⟩) (heap_setCell_other _ _ _ _ (show b ≠ q by omega))
  exact ⟨(hk 0).trans h0, (hk 1).trans h1, (hk 2).trans h2, by simpa using h3, h4.setCell (p := ⟨q, j, none⟩) hw _⟩
theorem new_at {W : World} {o : Obj} {n : Nat} (h : W.heap.size = n) : (W.alloc o).heap[n]? = some o := by subst h; exact heap_alloc_new W o
/-- A struct kind that was just laid. -/
def kindO : Obj := .cells #[.string ⟨#[]⟩, .int .i64 0, .int .i64 0, .nilFunc] 188
theorem kindO_cells {W : World} {q : Nat} (h : W.heap[q]? = some kindO) : W.cell? ⟨q, 0, none⟩ = some (.string ⟨#[]⟩) ∧ W.cell? ⟨q, 1, none⟩ = some (.int .i64 0) ∧ W.cell? ⟨q, 2, none⟩ = some (.int .i64 0) ∧ W.cell? ⟨q, 3, none⟩ = some .nilFunc ∧ W.frozen? ⟨q, 0, none⟩ = false ∧ W.frozen? ⟨q, 1, none⟩ = false ∧ W.frozen? ⟨q, 2, none⟩ = false ∧ W.frozen? ⟨q, 3, none⟩ = false :=
  ⟨cell_of_row _ _ 0 _ _ _ h, cell_of_row _ _ 1 _ _ _ h, cell_of_row _ _ 2 _ _ _ h, cell_of_row _ _ 3 _ _ _ h, frozen_of_row _ _ 0 _ _ h, frozen_of_row _ _ 1 _ _ h, frozen_of_row _ _ 2 _ _ h, frozen_of_row _ _ 3 _ _ h⟩
theorem infoK1 : (Tryz.prog.info? 188).map (·.size) = some 4 := by kernel_rfl
theorem kind_at1 (h l : Nat) (w : World) : Sem.run Tryz.prog (Instr.index 189 (.agg (kindA h l)) (.int .i64 1)) w = .ok (.agg #[.string ⟨#[118, 101, 110, 116]⟩, .int .i64 0, .int .i64 2000, (.func (.func 162) #[] #[.pointer (some ⟨h, 0, none⟩), .pointer (some ⟨l, 0, none⟩)])]) w := by
  obtain ⟨i0, hi, hs⟩ : ∃ i, Tryz.prog.info? 188 = some i ∧ i.size = 4 := by
    have h1 := infoK1
    cases h2 : Tryz.prog.info? 188 with
    | none => rw [h2] at h1; cases h1
    | some i => rw [h2] at h1; exact ⟨i, rfl, Option.some.inj h1⟩
  simp [Instr.index, run_underlying Tryz.underlying189, asIntOf, sizeOf, typeInfo, hi, hs, kindA, bothV, hotV, longV, go_sem]
theorem kind_at2 (h l : Nat) (w : World) : Sem.run Tryz.prog (Instr.index 189 (.agg (kindA h l)) (.int .i64 2)) w = .ok (.agg #[.string ⟨#[117, 112]⟩, .int .i64 0, .int .i64 0, (.func (.func 160) #[] #[])]) w := by
  obtain ⟨i0, hi, hs⟩ : ∃ i, Tryz.prog.info? 188 = some i ∧ i.size = 4 := by
    have h1 := infoK1
    cases h2 : Tryz.prog.info? 188 with
    | none => rw [h2] at h1; cases h1
    | some i => rw [h2] at h1; exact ⟨i, rfl, Option.some.inj h1⟩
  simp [Instr.index, run_underlying Tryz.underlying189, asIntOf, sizeOf, typeInfo, hi, hs, kindA, bothV, hotV, longV, go_sem]
theorem kind_at3 (h l : Nat) (w : World) : Sem.run Tryz.prog (Instr.index 189 (.agg (kindA h l)) (.int .i64 3)) w = .ok (.agg #[.string ⟨#[99, 111, 111, 107]⟩, .int .i64 1, .int .i64 2000, (.func (.func 161) #[] #[])]) w := by
  obtain ⟨i0, hi, hs⟩ : ∃ i, Tryz.prog.info? 188 = some i ∧ i.size = 4 := by
    have h1 := infoK1
    cases h2 : Tryz.prog.info? 188 with
    | none => rw [h2] at h1; cases h1
    | some i => rw [h2] at h1; exact ⟨i, rfl, Option.some.inj h1⟩
  simp [Instr.index, run_underlying Tryz.underlying189, asIntOf, sizeOf, typeInfo, hi, hs, kindA, bothV, hotV, longV, go_sem]
theorem kind_at4 (h l : Nat) (w : World) : Sem.run Tryz.prog (Instr.index 189 (.agg (kindA h l)) (.int .i64 4)) w = .ok (.agg #[.string ⟨#[99, 111, 111, 108]⟩, .int .i64 1, .int .i64 2000, (.func (.func 161) #[] #[])]) w := by
  obtain ⟨i0, hi, hs⟩ : ∃ i, Tryz.prog.info? 188 = some i ∧ i.size = 4 := by
    have h1 := infoK1
    cases h2 : Tryz.prog.info? 188 with
    | none => rw [h2] at h1; cases h1
    | some i => rw [h2] at h1; exact ⟨i, rfl, Option.some.inj h1⟩
  simp [Instr.index, run_underlying Tryz.underlying189, asIntOf, sizeOf, typeInfo, hi, hs, kindA, bothV, hotV, longV, go_sem]
set_option maxRecDepth 20000 in
set_option maxHeartbeats 4000000 in
theorem vstep_gen (k s n lo hi : Int) (wd : ByteArray) (fn : Fn) (ca : Nat → Nat → Array Value) (w : World) (h1 : inB k 1 4 = true) (h2 : inB s 0 200000 = true)
    (kx : ∀ h l w, Sem.run Tryz.prog (Instr.index 189 (.agg (kindA h l)) (.int .i64 k)) w = .ok (.agg #[.string wd, .int .i64 lo, .int .i64 hi, .func fn #[] (ca h l)]) w) :
    Calls Tryz.prog 130 #[.agg #[.int .i64 k, .int .i64 s, .int .i64 n]] w fun e w' => e = .returned (.bool (inB n lo hi)) ∧ Below w.heap.size w w' := by
  have hT := tri3_start (w := w) (c0 := .int .i64 k) (c1 := .int .i64 s) (c2 := .int .i64 n) (T := 105)
  have HT := hid hT
  obtain ⟨b0, b1, b2, hz, hB⟩ := hT
  have H1 := hid h1
  have H2 := hid h2
  have KX := hid kx
  clear h1 h2 kx
  go_enter Tryz.func130, Tryz.ntmps130
  go_wp2_with (go_at_call 61; refine (vwithin_any _ _ _ _).mono ?_; rintro e w' ⟨rfl, rfl⟩; (first | rw [H1.out] | rw [H2.out]))
  clear b0 b1 b2 hz hB
  refine wp_region_held_drew (S := fun w' => Tri3 w.heap.size w w' (.int .i64 k) (.int .i64 s) (.int .i64 n)) (by kernel_rfl) (tri3_keep (Below.refl _ _).drew HT.out) (fun hS0 => ?_)
  refine wpAnyH_take (i := 1) (v := ?_) rfl (by kernel_rfl) (by kernel_rfl) (by kernel_rfl) (fun _ _ _ h => h) (Or.inl ⟨by rfl, ?_⟩) hS0 ?_
  rotate_left
  · intro w' hSw
    obtain ⟨q0, q1, q2, _⟩ := hSw
    go_simp
    try with_reducible rfl
  try simp only [Act.put]
  try simp only [List.setIfInBounds_toArray]
  try simp only [List.set_cons_zero, List.set_cons_succ]
  refine wpAnyH_take (i := 2) (v := ?_) rfl (by kernel_rfl) (by kernel_rfl) (by kernel_rfl) (fun _ _ _ h => h) (Or.inl ⟨by rfl, ?_⟩) hS0 ?_
  rotate_left
  · intro w' hSw
    obtain ⟨q0, q1, q2, _⟩ := hSw
    go_simp
    try with_reducible rfl
  try simp only [Act.put]
  try simp only [List.setIfInBounds_toArray]
  try simp only [List.set_cons_zero, List.set_cons_succ]
  (refine wpAnyH_ready (rs := [0, 4]) (by kernel_rfl) (by simp) ?_)
  refine AllReadyH.cons rfl (fun K hK => ?_) ?_
  · go_simp
    refine (kinds_any _).mono ?_
    rintro e w2 ⟨hh, ll, rfl, g1, g2, hb⟩
    have kx := KX.out hh ll
    clear g1 g2
    go_wp2_with fail
    (refine hK.out _ _ (tri3_keep hb hS0) (fun hS1 => ?_); clear hK K)
    refine wpAnyH_take (i := 3) (v := ?_) rfl (by kernel_rfl) (by kernel_rfl) (by kernel_rfl) (fun _ _ _ h => h) (Or.inl ⟨by rfl, ?_⟩) hS1 ?_
    rotate_left
    · intro w' hSw
      obtain ⟨q0, q1, q2, _⟩ := hSw
      go_simp
      try with_reducible rfl
    try simp only [Act.put]
    try simp only [List.setIfInBounds_toArray]
    try simp only [List.set_cons_zero, List.set_cons_succ]
    (refine wpAnyH_ready (rs := [4]) (by kernel_rfl) (by simp) ?_)
    refine AllReadyH.cons rfl (fun K hK => ?_) AllReadyH.nil
    go_simp
    (refine hK.out _ _ (tri3_keep ((Below.refl _ _).alloc (Nat.le_refl _) _) hS1) (fun hS2 => ?_); clear hK K)
    (refine wpAnyH_ready (rs := [5]) (by kernel_rfl) (by simp) ?_)
    refine AllReadyH.cons rfl (fun K hK => ?_) AllReadyH.nil
    go_simp
    (refine hK.out _ _ (tri3_keep ((Below.refl _ _).alloc (Nat.le_refl _) _) hS1) (fun hS3 => ?_); clear hK K)
    refine wpAnyH_done (by kernel_rfl) ?_ _
    have HS3 := hid hS3
    obtain ⟨q0, q1, q2, qz, qB⟩ := hS3
    clear hS0 hS1
    go_wp2_with (go_at_call 61; refine (vwithin_any _ _ _ _).mono ?_; rintro e w' ⟨rfl, rfl⟩)
    go_ret
    exact ⟨rfl, HS3.out.2.2.2.2⟩
  · refine AllReadyH.cons rfl (fun K hK => ?_) AllReadyH.nil
    go_simp
    (refine hK.out _ _ (tri3_keep ((Below.refl _ _).alloc (Nat.le_refl _) _) hS0) (fun hS1 => ?_); clear hK K)
    (refine wpAnyH_ready (rs := [0]) (by kernel_rfl) (by simp) ?_)
    refine AllReadyH.cons rfl (fun K hK => ?_) AllReadyH.nil
    go_simp
    refine (kinds_any _).mono ?_
    rintro e w2 ⟨hh, ll, rfl, g1, g2, hb⟩
    have kx := KX.out hh ll
    have hq := hb.block (w.heap.size + 1) (by simp)
    have HQ := hid (kindO_cells (hq.trans (new_at (by simp))))
    clear g1 g2 hq
    go_wp2_with fail
    (refine hK.out _ _ (tri3_keep hb hS1) (fun hS2 => ?_); clear hK K)
    refine wpAnyH_take (i := 3) (v := ?_) rfl (by kernel_rfl) (by kernel_rfl) (by kernel_rfl) (fun _ _ _ h => h) (Or.inl ⟨by rfl, ?_⟩) hS2 ?_
    rotate_left
    · intro w' hSw
      obtain ⟨q0, q1, q2, _⟩ := hSw
      go_simp
      try with_reducible rfl
    try simp only [Act.put]
    try simp only [List.setIfInBounds_toArray]
    try simp only [List.set_cons_zero, List.set_cons_succ]
    (refine wpAnyH_ready (rs := [5]) (by kernel_rfl) (by simp) ?_)
    refine AllReadyH.cons rfl (fun K hK => ?_) AllReadyH.nil
    obtain ⟨e0, e1, e2, e3, f0, f1, f2, f3⟩ := HQ.out
    go_simp
    (refine hK.out _ _ (tri3_set (tri3_set (tri3_set (tri3_set hS2 (by simp) (by simp)) (by simp) (by simp)) (by simp) (by simp)) (by simp) (by simp)) (fun hS3 => ?_); clear hK K)
    refine wpAnyH_done (by kernel_rfl) ?_ _
    have HS3 := hid hS3
    obtain ⟨q0, q1, q2, qz, qB⟩ := hS3
    clear hS0 hS1
    go_wp2_with (go_at_call 61; refine (vwithin_any _ _ _ _).mono ?_; rintro e w' ⟨rfl, rfl⟩)
    go_ret
    exact ⟨rfl, HS3.out.2.2.2.2⟩
theorem loK_at (k : Int) : (k = 1 → loK k = 0 ∧ hiK k = 2000) ∧ (k = 2 → loK k = 0 ∧ hiK k = 0) ∧ (k = 3 → loK k = 1 ∧ hiK k = 2000) ∧ (k = 4 → loK k = 1 ∧ hiK k = 2000) := by
  refine ⟨?_, ?_, ?_, ?_⟩ <;> rintro rfl <;> exact ⟨rfl, rfl⟩
theorem stepB_eq (k s n : Int) : stepB ⟨k, s, n⟩ = (inB k 1 4 && inB s 0 200000 && inB n (loK k) (hiK k)) := rfl
set_option maxHeartbeats 2000000 in
theorem vstep_any (k s n : Int) (w : World) : Calls Tryz.prog 130 #[.agg #[.int .i64 k, .int .i64 s, .int .i64 n]] w fun e w' => e = .returned (.bool (stepB ⟨k, s, n⟩)) ∧ Below w.heap.size w w' := by
  have hE := hid (stepB_eq k s n)
  obtain ⟨b0, b1, b2, hz, hB⟩ := tri3_start (w := w) (c0 := .int .i64 k) (c1 := .int .i64 s) (c2 := .int .i64 n) (T := 105)
  cases h1 : inB k 1 4
  · go_enter Tryz.func130, Tryz.ntmps130
    go_wp2_with (go_at_call 61; refine (vwithin_any _ _ _ _).mono ?_; rintro e w' ⟨rfl, rfl⟩; rw [h1])
    go_ret
    exact ⟨ret_bool (by rw [hE.out, h1]; rfl), hB⟩
  cases h2 : inB s 0 200000
  · go_enter Tryz.func130, Tryz.ntmps130
    go_wp2_with (go_at_call 61; refine (vwithin_any _ _ _ _).mono ?_; rintro e w' ⟨rfl, rfl⟩; (first | rw [h1] | rw [h2]))
    go_ret
    exact ⟨ret_bool (by rw [hE.out, h2, Bool.and_false]; rfl), hB⟩
  have hEE : stepB ⟨k, s, n⟩ = inB n (loK k) (hiK k) := by rw [hE.out, h1, h2]; rfl
  rw [hEE]
  obtain ⟨l1, l2, l3, l4⟩ := loK_at k
  have hk := inB_iff.1 h1
  rcases (show k = 1 ∨ k = 2 ∨ k = 3 ∨ k = 4 by omega) with rfl | rfl | rfl | rfl
  · rw [(l1 rfl).1, (l1 rfl).2]; exact vstep_gen _ _ _ _ _ _ _ (fun h l => #[.pointer (some ⟨h, 0, none⟩), .pointer (some ⟨l, 0, none⟩)]) _ h1 h2 kind_at1
  · rw [(l2 rfl).1, (l2 rfl).2]; exact vstep_gen _ _ _ _ _ _ _ (fun _ _ => #[]) _ h1 h2 kind_at2
  · rw [(l3 rfl).1, (l3 rfl).2]; exact vstep_gen _ _ _ _ _ _ _ (fun _ _ => #[]) _ h1 h2 kind_at3
  · rw [(l4 rfl).1, (l4 rfl).2]; exact vstep_gen _ _ _ _ _ _ _ (fun _ _ => #[]) _ h1 h2 kind_at4
end Go.Proofs.YtihbjimnjhfpeaaGreat.Rt

/- Walks of the reference's validStep, of ValidProgram of both: contracts. -/
namespace Go.Proofs.YtihbjimnjhfpeaaGreat.Rt
open Go.RowKit

theorem stepB_no {k s n : Int} (h : inB s 0 200000 = false) : stepB ⟨k, s, n⟩ = false := by rw [stepB_eq, h, Bool.and_false]; rfl
theorem stepB_1 {s n : Int} (h : inB s 0 200000 = true) : stepB ⟨1, s, n⟩ = inB n 0 2000 := by rw [stepB_eq, h]; rfl
theorem stepB_2 {s n : Int} (h : inB s 0 200000 = true) : stepB ⟨2, s, n⟩ = (n == 0) := by
  rw [stepB_eq, h, (loK_at 2).2.1 rfl |>.1, (loK_at 2).2.1 rfl |>.2]
  show inB n 0 0 = _
  rw [Bool.eq_iff_iff, inB_iff]
  simp only [beq_iff_eq]
  omega
theorem stepB_3 {s n : Int} (h : inB s 0 200000 = true) : stepB ⟨3, s, n⟩ = inB n 1 2000 := by rw [stepB_eq, h]; rfl
theorem stepB_4 {s n : Int} (h : inB s 0 200000 = true) : stepB ⟨4, s, n⟩ = inB n 1 2000 := by rw [stepB_eq, h]; rfl
theorem stepB_5 {k s n : Int} (h : inB k 1 4 = false) : stepB ⟨k, s, n⟩ = false := by rw [stepB_eq, h]; rfl
set_option maxHeartbeats 4000000 in
theorem xstep_any (k s n : Int) (w : World) : Calls Tryz.prog 138 #[.agg #[.int .i64 k, .int .i64 s, .int .i64 n]] w fun e w' => e = .returned (.bool (stepB ⟨k, s, n⟩)) ∧ Below w.heap.size w w' := by
  obtain ⟨b0, b1, b2, hz, hB⟩ := tri3_start (w := w) (c0 := .int .i64 k) (c1 := .int .i64 s) (c2 := .int .i64 n) (T := 105)
  cases h2 : inB s 0 200000
  · have hE := hid (stepB_no (k := k) (n := n) h2)
    go_enter Tryz.func138, Tryz.ntmps138
    go_wp2_with (go_at_call 91; refine (xwithin_any _ _ _ _).mono ?_; rintro e w' ⟨rfl, rfl⟩; rw [h2])
    go_ret
    exact ⟨ret_bool hE.out.symm, hB⟩
  by_cases k1 : k = 1
  · subst k1
    have hE := hid (stepB_1 (n := n) h2)
    go_enter Tryz.func138, Tryz.ntmps138
    go_wp2_with (go_at_call 91; refine (xwithin_any _ _ _ _).mono ?_; rintro e w' ⟨rfl, rfl⟩; (first | rw [h2] | skip))
    go_ret
    exact ⟨ret_bool hE.out.symm, hB⟩
  have k1' : (k == 1) = false := by simpa using k1
  by_cases k2 : k = 2
  · subst k2
    have hE := hid (stepB_2 (n := n) h2)
    go_enter Tryz.func138, Tryz.ntmps138
    go_wp2_with (go_at_call 91; refine (xwithin_any _ _ _ _).mono ?_; rintro e w' ⟨rfl, rfl⟩; (first | rw [h2] | skip))
    go_ret
    exact ⟨ret_bool hE.out.symm, hB⟩
  have k2' : (k == 2) = false := by simpa using k2
  by_cases k3 : k = 3
  · subst k3
    have hE := hid (stepB_3 (n := n) h2)
    go_enter Tryz.func138, Tryz.ntmps138
    go_wp2_with (go_at_call 91; refine (xwithin_any _ _ _ _).mono ?_; rintro e w' ⟨rfl, rfl⟩; (first | rw [h2] | skip))
    go_ret
    exact ⟨ret_bool hE.out.symm, hB⟩
  have k3' : (k == 3) = false := by simpa using k3
  by_cases k4 : k = 4
  · subst k4
    have hE := hid (stepB_4 (n := n) h2)
    go_enter Tryz.func138, Tryz.ntmps138
    go_wp2_with (go_at_call 91; refine (xwithin_any _ _ _ _).mono ?_; rintro e w' ⟨rfl, rfl⟩; (first | rw [h2] | skip))
    go_ret
    exact ⟨ret_bool hE.out.symm, hB⟩
  have k4' : (k == 4) = false := by simpa using k4
  have hE := hid (stepB_5 (s := s) (n := n) (inB_not.2 (show ¬ (1 ≤ k ∧ k ≤ 4) by omega)))
  clear k1 k2 k3 k4
  go_enter Tryz.func138, Tryz.ntmps138
  go_wp2_with (go_at_call 91; refine (xwithin_any _ _ _ _).mono ?_; rintro e w' ⟨rfl, rfl⟩; rw [h2])
  go_ret
  exact ⟨ret_bool hE.out.symm, hB⟩

theorem progB_short {m : Nat} {p : Nat → St} (h : inB m 1 16 = false) : progB m p = false := by unfold progB; rw [h]; rfl
theorem progB_bad {m i : Nat} {p : Nat → St} (hi : i < m) (h : stepB (p i) = false) : progB m p = false := by
  unfold progB
  rw [allB_bad (p := fun i => stepB (p i)) hi h, Bool.and_false]
theorem progB_end {m : Nat} {p : Nat → St} (h : inB m 1 16 = true) (g : ∀ j, j < m → stepB (p j) = true) : progB m p = true := by
  unfold progB
  rw [h, allB_end (p := fun i => stepB (p i)) g]; rfl
set_option maxHeartbeats 4000000 in
theorem vprog_any (v : Value) (m : Nat) (p : Nat → St) (w : World) (hr : RowP w v m p) : Calls Tryz.prog 84 #[v] w fun e w' => e = .returned (.bool (progB m p)) ∧ Below w.heap.size w w' := by
  have HK := hid (fun w1 (g : Below w.heap.size w w1) => hr.keep g)
  obtain ⟨a, b, o, cap, rfl, hc, hm, ha, _⟩ := hr
  have HA := hid ha
  have hnm : m ≤ 9223372036854775807 := by unfold maxLen at hm; omega
  clear ha hm
  cases h1 : inB m 1 16
  · have hE := hid (progB_short (p := p) h1)
    go_enter Tryz.func84, Tryz.ntmps84
    go_wp2_with (go_at_call 61; refine (vwithin_any _ _ _ _).mono ?_; rintro e w' ⟨rfl, rfl⟩; rw [h1])
    go_ret
    exact ⟨ret_bool hE.out.symm, Below.refl _ _⟩
  have H1 := hid h1
  go_enter Tryz.func84, Tryz.ntmps84
  go_wp2_with (go_at_call 61; refine (vwithin_any _ _ _ _).mono ?_; rintro e w' ⟨rfl, rfl⟩; rw [h1])
  clear h1
  go_loopw [11] (fun t wr => ∃ k : Nat, k ≤ m ∧ t = .int .i64 (k : Int) ∧ Hid (∀ j, j < k → stepB (p j) = true) ∧ Hid (Below w.heap.size w wr)) (fun t _ => m - (intOf t).toNat)
  case atStart => exact ⟨0, Nat.zero_le _, rfl, fun j h => absurd h (Nat.not_lt_zero _), Below.refl _ _⟩
  case round =>
    obtain ⟨k, hk, rfl, hok, hB⟩ := hrel
    by_cases hlt : k < m
    · have hlt' : (k : Int) < m := by omega
      obtain ⟨a', b', o', cap', hv, _, _, ha', hcell⟩ := HK.out _ hB.out
      injection hv with hv1 hv2 hv3
      subst hv1 hv3
      rcases ha' with h0 | rfl
      · omega
      obtain ⟨c0, c1, c2⟩ := hcell k hlt
      have HB2 := hid (hB.out.alloc hB.out.size (.cells #[.int .i64 (p k).k, .int .i64 (p k).s, .int .i64 (p k).n] 105))
      clear hcell hv2
      simp only at c0 c1 c2
      have HE := hid (show stepB ⟨(p k).k, (p k).s, (p k).n⟩ = stepB (p k) from rfl)
      cases hs : stepB (p k)
      · have hE := hid (progB_bad hlt hs)
        have HS := hid (HE.out.trans hs)
        clear HE hs hlt
        generalize (p k).k = x at c0 HB2 HS
        generalize (p k).s = y at c1 HB2 HS
        generalize (p k).n = z at c2 HB2 HS
        go_wp2_with (go_at_call 130; refine (vstep_any _ _ _ _).mono ?_; rintro e w3 ⟨rfl, hb⟩; rw [HS.out])
        go_ret
        exact ⟨ret_bool hE.out.symm, bstep HB2.out HB2.out.size hb⟩
      · have hst := hid (all_step (p := fun j => stepB (p j)) hok.out hs)
        have HS := hid (HE.out.trans hs)
        clear HE hs hlt
        generalize (p k).k = x at c0 HB2 HS
        generalize (p k).s = y at c1 HB2 HS
        generalize (p k).n = z at c2 HB2 HS
        go_wp2_with (go_at_call 130; refine (vstep_any _ _ _ _).mono ?_; rintro e w3 ⟨rfl, hb⟩; rw [HS.out]; have HB3 := hid (bstep HB2.out HB2.out.size hb); clear hb)
        go_roundw
        case rel => exact ⟨k + 1, by omega, by go_num, hst, HB3⟩
        case measure => simp [intOf]; omega
    · obtain rfl : k = m := by omega
      have hE := hid (progB_end H1.out hok.out)
      go_wp2
      go_ret
      exact ⟨ret_bool hE.out.symm, hB.out⟩
set_option maxHeartbeats 4000000 in
theorem xprog_any (v : Value) (m : Nat) (p : Nat → St) (w : World) (hr : RowP w v m p) : Calls Tryz.prog 90 #[v] w fun e w' => e = .returned (.bool (progB m p)) ∧ Below w.heap.size w w' := by
  have HK := hid (fun w1 (g : Below w.heap.size w w1) => hr.keep g)
  obtain ⟨a, b, o, cap, rfl, hc, hm, ha, _⟩ := hr
  have HA := hid ha
  have hnm : m ≤ 9223372036854775807 := by unfold maxLen at hm; omega
  clear ha hm
  cases h1 : inB m 1 16
  · have hE := hid (progB_short (p := p) h1)
    go_enter Tryz.func90, Tryz.ntmps90
    go_wp2_with (go_at_call 91; refine (xwithin_any _ _ _ _).mono ?_; rintro e w' ⟨rfl, rfl⟩; rw [h1])
    go_ret
    exact ⟨ret_bool hE.out.symm, Below.refl _ _⟩
  have H1 := hid h1
  go_enter Tryz.func90, Tryz.ntmps90
  go_wp2_with (go_at_call 91; refine (xwithin_any _ _ _ _).mono ?_; rintro e w' ⟨rfl, rfl⟩; rw [h1])
  clear h1
  go_loopw [3] (fun t wr => ∃ k : Nat, k ≤ m ∧ t = .int .i64 (k : Int) ∧ Hid (∀ j, j < k → stepB (p j) = true) ∧ Hid (Below w.heap.size w wr)) (fun t _ => m - (intOf t).toNat)
  case atStart => exact ⟨0, Nat.zero_le _, rfl, fun j h => absurd h (Nat.not_lt_zero _), Below.refl _ _⟩
  case round =>
    obtain ⟨k, hk, rfl, hok, hB⟩ := hrel
    by_cases hlt : k < m
    · have hlt' : (k : Int) < m := by omega
      obtain ⟨a', b', o', cap', hv, _, _, ha', hcell⟩ := HK.out _ hB.out
      injection hv with hv1 hv2 hv3
      subst hv1 hv3
      rcases ha' with h0 | rfl
      · omega
      obtain ⟨c0, c1, c2⟩ := hcell k hlt
      clear hcell hv2
      simp only at c0 c1 c2
      have HE := hid (show stepB ⟨(p k).k, (p k).s, (p k).n⟩ = stepB (p k) from rfl)
      cases hs : stepB (p k)
      · have hE := hid (progB_bad hlt hs)
        have HS := hid (HE.out.trans hs)
        clear HE hs hlt
        generalize (p k).k = x at c0 HS
        generalize (p k).s = y at c1 HS
        generalize (p k).n = z at c2 HS
        go_wp2_with (go_at_call 138; refine (xstep_any _ _ _ _).mono ?_; rintro e w3 ⟨rfl, hb⟩; rw [HS.out])
        go_ret
        exact ⟨ret_bool hE.out.symm, bstep hB.out hB.out.size hb⟩
      · have hst := hid (all_step (p := fun j => stepB (p j)) hok.out hs)
        have HS := hid (HE.out.trans hs)
        clear HE hs hlt
        generalize (p k).k = x at c0 HS
        generalize (p k).s = y at c1 HS
        generalize (p k).n = z at c2 HS
        go_wp2_with (go_at_call 138; refine (xstep_any _ _ _ _).mono ?_; rintro e w3 ⟨rfl, hb⟩; rw [HS.out]; have HB3 := hid (bstep hB.out hB.out.size hb); clear hb)
        go_roundw
        case rel => exact ⟨k + 1, by omega, by go_num, hst, HB3⟩
        case measure => simp [intOf]; omega
    · obtain rfl : k = m := by omega
      have hE := hid (progB_end H1.out hok.out)
      go_wp2
      go_ret
      exact ⟨ret_bool hE.out.symm, hB.out⟩
end Go.Proofs.YtihbjimnjhfpeaaGreat.Rt

/- Walks of ValidRecord of both: contracts. -/
namespace Go.Proofs.YtihbjimnjhfpeaaGreat.Rt
open Go.RowKit

theorem readB_eq (s t c b : Int) : readB ⟨s, t, c, b⟩ = (inB t (-1000000) 1000000 && inB c (-1000000) 1000000 && inB b (-1000000) 1000000) := rfl
theorem threeR (a b c : Bool) : a = false ∨ (a = true ∧ b = false) ∨ (a = true ∧ b = true ∧ c = false) ∨ (a = true ∧ b = true ∧ c = true) := by cases a <;> cases b <;> cases c <;> simp
set_option maxHeartbeats 2000000 in
theorem vreading_any (s t c b : Int) (w : World) : Calls Tryz.prog 85 #[.agg #[.int .i64 s, .int .i64 t, .int .i64 c, .int .i64 b]] w fun e w' => e = .returned (.bool (readB ⟨s, t, c, b⟩)) ∧ Below w.heap.size w w' := by
  have hc := hid (readB_eq s t c b)
  rcases threeR (inB t (-1000000) 1000000) (inB c (-1000000) 1000000) (inB b (-1000000) 1000000) with h1 | ⟨h1, h2⟩ | ⟨h1, h2, h3⟩ | ⟨h1, h2, h3⟩
  all_goals
    go_enter Tryz.func85, Tryz.ntmps85
    go_wp2_with (go_at_call 61; refine (vwithin_any _ _ _ _).mono ?_; rintro e w' ⟨rfl, rfl⟩)
    go_ret
    exact ⟨ret_bool (by rw [hc.out]; simp only [Bool.false_and, Bool.true_and, Bool.and_false, *]), (Below.refl _ _).alloc (Nat.le_refl _) _⟩

theorem rec_bd {m : Nat} {r : Nat → Rd} (hm : 1 ≤ m) : ∀ {k : Nat}, (∀ j, j < k → recAt m r j = true) → 0 ≤ loS r k ∧ loS r k ≤ (m : Int) - 1 ∧ 0 ≤ hiS m r k ∧ hiS m r k ≤ (m : Int) - 1
  | 0, _ => by simp only [loS, hiS]; omega
  | k + 1, h => by
    obtain ⟨h1, h2, h3, h4⟩ := rec_bd hm (k := k) (fun j hj => h j (by omega))
    have hk := h k (by omega)
    simp only [recAt, Bool.and_eq_true, inB_iff] at hk
    have e1 : loS r (k + 1) = (r k).s := rfl
    have e2 : hiS m r (k + 1) = min ((r k).s + 1) ((m : Int) - 1) := rfl
    rw [e1, e2]
    omega
theorem recAt_eq (m : Nat) (r : Nat → Rd) (k : Nat) : recAt m r k = (inB (r k).s (loS r k) (hiS m r k) && readB (r k)) := rfl
theorem recB_prog {m : Nat} {p : Nat → St} {n : Nat} {r : Nat → Rd} (h : progB m p = false) : recB m p n r = false := by unfold recB; rw [h]; rfl
theorem recB_long {m : Nat} {p : Nat → St} {n : Nat} {r : Nat → Rd} (h : 2000 < n) : recB m p n r = false := by unfold recB; rw [decide_eq_false (by omega), Bool.and_false]; rfl
theorem recB_bad {m : Nat} {p : Nat → St} {n k : Nat} {r : Nat → Rd} (hk : k < n) (h : recAt m r k = false) : recB m p n r = false := by unfold recB; rw [allB_bad hk h, Bool.and_false]
theorem recB_end {m : Nat} {p : Nat → St} {n : Nat} {r : Nat → Rd} (h : progB m p = true) (hn : n ≤ 2000) (g : ∀ j, j < n → recAt m r j = true) : recB m p n r = true := by unfold recB; rw [h, decide_eq_true hn, allB_end g]; rfl
theorem progB_one {m : Nat} {p : Nat → St} (h : progB m p = true) : 1 ≤ m ∧ m ≤ 16 := by have := (progB_iff.1 h).1; omega
set_option maxRecDepth 20000 in
set_option maxHeartbeats 4000000 in
theorem vrec_any (u : Value) (m : Nat) (p : Nat → St) (v : Value) (n : Nat) (r : Nat → Rd) (w : World) (hp : RowP w u m p) (hr : RowR w v n r) :
    Calls Tryz.prog 41 #[u, v] w fun e w' => e = .returned (.bool (recB m p n r)) ∧ Below w.heap.size w w' := by
  have HK := hid (fun w1 (g : Below w.heap.size w w1) => hr.keep g)
  have HP := hid hp
  have hnm := hr.most
  have hmm := RowT.most hp
  unfold maxLen at hnm hmm
  obtain ⟨pa, pc, rfl⟩ := RowT.shape hp
  obtain ⟨va, vc, rfl⟩ := hr.shape
  clear hp hr
  cases hpr : progB m p
  · have hE := hid (recB_prog (n := n) (r := r) hpr)
    go_enter Tryz.func41, Tryz.ntmps41
    go_wp2_with (go_at_call 84; refine (vprog_any _ _ _ _ HP.out).mono ?_; rintro e w1 ⟨rfl, hb⟩; rw [hpr])
    go_ret
    exact ⟨ret_bool hE.out.symm, hb⟩
  by_cases hn : 2000 < n
  · have hE := hid (recB_long (m := m) (p := p) (r := r) hn)
    have hd : decide (2000 < (n : Int)) = true := by simp; omega
    go_enter Tryz.func41, Tryz.ntmps41
    go_wp2_with (go_at_call 84; refine (vprog_any _ _ _ _ HP.out).mono ?_; rintro e w1 ⟨rfl, hb⟩; rw [hpr])
    go_ret
    exact ⟨ret_bool hE.out.symm, hb⟩
  have hd : decide (2000 < (n : Int)) = false := by simp; omega
  obtain ⟨hm1, hm16⟩ := progB_one hpr
  have HN := hid (show n ≤ 2000 by omega)
  have HPR := hid hpr
  clear hn
  go_enter Tryz.func41, Tryz.ntmps41
  go_wp2_with (go_at_call 84; refine (vprog_any _ _ _ _ HP.out).mono ?_; rintro e w1 ⟨rfl, hb⟩; rw [hpr]; have HB := hid hb; clear hb)
  clear hpr
  go_loopw [5, 6, 19] (fun lo hi t wr => ∃ k : Nat, k ≤ n ∧ t = .int .i64 (k : Int) ∧ lo = .int .i64 (loS r k) ∧ hi = .int .i64 (hiS m r k) ∧ Hid (∀ j, j < k → recAt m r j = true) ∧ Hid (Below w.heap.size w wr)) (fun _ _ t _ => n - (intOf t).toNat)
  case atStart => exact ⟨0, Nat.zero_le _, rfl, rfl, rfl, fun j h => absurd h (Nat.not_lt_zero _), HB⟩
  case round =>
    obtain ⟨k, hk, rfl, rfl, rfl, hok, hB⟩ := hrel
    by_cases hlt : k < n
    · have hlt' : (k : Int) < n := by omega
      obtain ⟨a', b', o', cap', hv, _, _, ha', hcell⟩ := HK.out _ hB.out
      injection hv with hv1 hv2 hv3
      subst hv1 hv3
      rcases ha' with h0 | rfl
      · omega
      obtain ⟨c0, c1, c2, c3⟩ := hcell k hlt
      have HB2 := hid (hB.out.alloc hB.out.size (.cells #[.int .i64 (r k).s, .int .i64 (r k).t, .int .i64 (r k).c, .int .i64 (r k).b] 56))
      have HST := hid (fun h => all_step hok.out (k := k) h)
      have HBAD := hid (fun h => recB_bad (m := m) (p := p) (r := r) hlt h)
      have HRE := hid (recAt_eq m r k)
      have hbd := rec_bd hm1 hok.out
      have HL1 := hid (show loS r (k + 1) = (r k).s from rfl)
      have HL2 := hid (show hiS m r (k + 1) = min ((r k).s + 1) ((m : Int) - 1) from rfl)
      obtain ⟨x, hX⟩ : ∃ x, x = r k := ⟨_, rfl⟩
      rw [← hX] at c0 c1 c2 c3 HB2 HRE HL1 HL2
      clear hX hcell hv2 hlt
      obtain ⟨s, t, c, b⟩ := x
      simp only at c0 c1 c2 c3 HB2
      have HL1 := hid (show loS r (k + 1) = s from HL1.out)
      have HL2 := hid (show hiS m r (k + 1) = min (s + 1) ((m : Int) - 1) from HL2.out)
      have HRE := hid (show recAt m r k = (inB s (loS r k) (hiS m r k) && readB ⟨s, t, c, b⟩) from HRE.out)
      obtain ⟨L, hL⟩ : ∃ L, L = loS r k := ⟨_, rfl⟩
      obtain ⟨Hh, hH⟩ : ∃ L, L = hiS m r k := ⟨_, rfl⟩
      rw [← hL, ← hH] at hbd HRE
      rw [← hL, ← hH]
      clear hL hH
      obtain ⟨hb1, hb2, hb3, hb4⟩ := hbd
      cases e1 : inB s L Hh
      · have HF := hid (HBAD.out (by rw [HRE.out, e1]; rfl))
        go_wp2_with (first | (go_at_call 61; refine (vwithin_any _ _ _ _).mono ?_; rintro e w' ⟨rfl, rfl⟩) | (go_at_call 85; refine (vreading_any _ _ _ _ _).mono ?_; rintro e w4 ⟨rfl, hb⟩))
        go_ret
        exact ⟨ret_bool HF.out.symm, HB2.out⟩
      have hs := inB_iff.1 e1
      obtain ⟨hs1, hs2⟩ := hs
      cases e2 : readB ⟨s, t, c, b⟩
      · have HF := hid (HBAD.out (by rw [HRE.out, e2, Bool.and_false]))
        go_wp2_with (first | (go_at_call 61; refine (vwithin_any _ _ _ _).mono ?_; rintro e w' ⟨rfl, rfl⟩) | (go_at_call 85; refine (vreading_any _ _ _ _ _).mono ?_; rintro e w4 ⟨rfl, hb⟩; rw [e2]; have HB3 := hid (bstep HB2.out HB2.out.size hb); clear hb))
        go_ret
        exact ⟨ret_bool HF.out.symm, HB3.out⟩
      · have HF := hid (HST.out (by rw [HRE.out, e1, e2]; rfl))
        have hK0 : ∀ w4, Below (wr.alloc (.cells #[.int .i64 s, .int .i64 t, .int .i64 c, .int .i64 b] 56)).heap.size (wr.alloc (.cells #[.int .i64 s, .int .i64 t, .int .i64 c, .int .i64 b] 56)) w4 → w4.cell? ⟨wr.heap.size, 0, none⟩ = some (.int .i64 s) := fun w4 hb => keep_cell hb (cell_alloc_new wr _ _ _ 0)
        have HK0 := hid hK0
        clear hK0
        rcases (show s + 1 ≤ (m : Int) - 1 ∧ min (s + 1) ((m : Int) - 1) = s + 1 ∨ (m : Int) - 1 < s + 1 ∧ min (s + 1) ((m : Int) - 1) = (m : Int) - 1 by omega) with ⟨h7, h8⟩ | ⟨h7, h8⟩
        · rw [h8] at HL2
          clear h8
          go_wp2_with (first | (go_at_call 61; refine (vwithin_any _ _ _ _).mono ?_; rintro e w' ⟨rfl, rfl⟩) | (go_at_call 85; refine (vreading_any _ _ _ _ _).mono ?_; rintro e w4 ⟨rfl, hb⟩; rw [e2]; have k0 := HK0.out _ hb; have HB3 := hid (bstep HB2.out HB2.out.size hb); clear hb))
          go_region
          go_wp2
          go_roundw
          case rel => exact ⟨k + 1, by omega, by go_num, int_eq HL1.out.symm, int_eq HL2.out.symm, HF, by first | exact HB3 | exact hid HB3.out.drew⟩
          case measure => simp [intOf]; omega
        · rw [h8] at HL2
          clear h8
          go_wp2_with (first | (go_at_call 61; refine (vwithin_any _ _ _ _).mono ?_; rintro e w' ⟨rfl, rfl⟩) | (go_at_call 85; refine (vreading_any _ _ _ _ _).mono ?_; rintro e w4 ⟨rfl, hb⟩; rw [e2]; have k0 := HK0.out _ hb; have HB3 := hid (bstep HB2.out HB2.out.size hb); clear hb))
          go_region
          go_wp2
          go_roundw
          case rel => exact ⟨k + 1, by omega, by go_num, int_eq HL1.out.symm, int_eq HL2.out.symm, HF, by first | exact HB3 | exact hid HB3.out.drew⟩
          case measure => simp [intOf]; omega
    · obtain rfl : k = n := by omega
      have hE := hid (recB_end HPR.out HN.out hok.out)
      go_wp2
      go_ret
      exact ⟨ret_bool hE.out.symm, hB.out⟩
end Go.Proofs.YtihbjimnjhfpeaaGreat.Rt
