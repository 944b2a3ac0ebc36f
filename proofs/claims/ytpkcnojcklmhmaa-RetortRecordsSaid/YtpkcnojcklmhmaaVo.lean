/- Walk of awake: the example's vessel heats as the chapter says. -/
import Derived.Test.YtpkcnojcklmhmaaVm
namespace Go.Proofs.Ytpkcnojcklmhmaa
open Go.RowKit

/-- The example's program. -/
def exP : Nat → St := fun _ => ⟨2, 120000, 0⟩
def exQ : Nat → Tri := fun _ => ⟨0, 0, 0⟩
theorem ex_good : goodB ⟨#[97]⟩ 100 1 250 0 0 1 exP 0 exQ ⟨0, 0, 0, 20000, 1000⟩ = true := by decide
theorem ex_none (w : World) : RowT w (.slice none 0 0) 0 exQ := ⟨none, 0, 0, 0, rfl, Nat.le_refl _, by simp [maxLen], .inl rfl, fun k hk => absurd hk (Nat.not_lt_zero k)⟩
def ExP (w : World) (b : Nat) : Prop := w.cell? ⟨b, 0, none⟩ = some (.int .i64 2) ∧ w.cell? ⟨b, 1, none⟩ = some (.int .i64 120000) ∧ w.cell? ⟨b, 2, none⟩ = some (.int .i64 0)
theorem ex_prog {w : World} {b : Nat} (h : ExP w b) : RowP w (.slice (some ⟨b, 0, none⟩) 1 1) 1 exP :=
  ⟨some ⟨b, 0, none⟩, b, 0, 1, rfl, Nat.le_refl _, by simp [maxLen], .inr rfl, fun k hk => by
    obtain rfl : k = 0 := by omega
    exact h⟩
set_option maxRecDepth 20000 in
theorem ex_out : TickP 2 120000 0 250 0 0 0 0 0 (20000 + chN 100 1 (aimK exQ 0 120000 0 - 20000)) 1000 = TickP 2 120000 0 250 0 0 0 0 0 30000 1000 := by
  have : (20000 : Int) + chN 100 1 (aimK exQ 0 120000 0 - 20000) = 30000 := by decide
  rw [this]
theorem ex_tick (w : World) (b : Nat) (h : ExP w b) :
    Calls Try.prog 95 #[.agg #[.string ⟨#[97]⟩, .int .i64 100, .int .i64 1, .int .i64 250, .int .i64 0, .int .i64 0, .slice (some ⟨b, 0, none⟩) 1 1, .slice none 0 0], .agg #[.int .i64 0, .int .i64 0, .int .i64 0, .int .i64 20000, .int .i64 1000]] w fun e w' =>
      e = .returned (.tuple #[.agg #[.int .i64 1, .int .i64 0, .int .i64 1, .int .i64 30000, .int .i64 1000], .agg #[.int .i64 0, .int .i64 30000, .int .i64 30000, .int .i64 30000]]) ∧ Below w.heap.size w w' := by
  have hT := tick_2 ⟨#[97]⟩ 100 1 250 0 0 (.slice (some ⟨b, 0, none⟩) 1 1) 1 exP (.slice none 0 0) 0 exQ 0 0 0 20000 1000 w (ex_prog h) (ex_none w) (by decide) (by decide) (by decide) (by decide) (by decide) (by decide) (by decide) (by decide) (by decide) rfl (by decide) (by decide) (by decide) (by decide) (by decide) (by decide) (by decide) (by decide) (by decide) (by decide) (by decide) (by decide)
  refine Calls.mono hT ?_
  intro e w' he
  have he' : TickP 2 120000 0 250 0 0 0 0 0 (20000 + chN 100 1 (aimK exQ 0 120000 0 - 20000)) 1000 w e w' := he
  rw [ex_out] at he'
  obtain ⟨h1, h2⟩ := he'
  refine ⟨h1.trans ?_, h2⟩
  have o1 : ovB 2 120000 0 30000 (0 + 1) = false := by decide
  have o2 : airN 2 250 1000 = 1000 := by decide
  have o3 : upN 0 1000 = 0 := by decide
  rw [o1, o2, o3]
  rfl

/-- The four blocks of Tick. -/
structure T4 (w W : World) (A B R Q : Array Value) : Prop where
  a : W.heap[w.heap.size]? = some (.cells A 53 (0, 0))
  b : W.heap[w.heap.size + 1]? = some (.cells B 57 (0, 0))
  r : W.heap[w.heap.size + 1 + 1]? = some (.cells R 57 (0, 0))
  q : W.heap[w.heap.size + 1 + 1 + 1]? = some (.cells Q 74 (0, 0))
  low : Below w.heap.size w W
theorem T4.keep {w W W2 : World} {A B R Q : Array Value} (h : T4 w W A B R Q) (hb : Below W.heap.size W W2) : T4 w W2 A B R Q :=
  ⟨(hb.block _ (lt_blk h.a)).trans h.a, (hb.block _ (lt_blk h.b)).trans h.b, (hb.block _ (lt_blk h.r)).trans h.r, (hb.block _ (lt_blk h.q)).trans h.q, bstep h.low h.low.size hb⟩
theorem t4_start {w : World} {A B R Q : Array Value} : T4 w ((((w.alloc (.cells A 53)).alloc (.cells B 57)).alloc (.cells R 57)).alloc (.cells Q 74)) A B R Q := by
  refine ⟨?_, ?_, ?_, ?_, ?_⟩
  · rw [Below.heap_alloc _ _ _ (by simp <;> omega), Below.heap_alloc _ _ _ (by simp <;> omega), Below.heap_alloc _ _ _ (by simp), heap_alloc_new]
  · rw [Below.heap_alloc _ _ _ (by simp <;> omega), Below.heap_alloc _ _ _ (by simp)]
    exact new_at (by simp)
  · rw [Below.heap_alloc _ _ _ (by simp)]
    exact new_at (by simp)
  · exact new_at (by simp)
  · exact ((((Below.refl _ w).alloc (Nat.le_refl _) _).alloc (by simp) _).alloc (by simp <;> omega) _).alloc (by simp <;> omega) _
theorem T4.cells {w W : World} {c0 c1 c2 c3 c4 c5 d0 d1 d2 d3 d4 : Value} {R Q : Array Value} (h : T4 w W #[c0, c1, c2, c3, c4, c5] #[d0, d1, d2, d3, d4] R Q) :
    (W.cell? ⟨w.heap.size, 0, none⟩ = some c0 ∧ W.cell? ⟨w.heap.size, 1, none⟩ = some c1 ∧ W.cell? ⟨w.heap.size, 2, none⟩ = some c2 ∧ W.cell? ⟨w.heap.size, 3, none⟩ = some c3 ∧ W.cell? ⟨w.heap.size, 4, none⟩ = some c4 ∧ W.cell? ⟨w.heap.size, 5, none⟩ = some c5) ∧
    W.cell? ⟨w.heap.size + 1, 0, none⟩ = some d0 ∧ W.cell? ⟨w.heap.size + 1, 1, none⟩ = some d1 ∧ W.cell? ⟨w.heap.size + 1, 2, none⟩ = some d2 ∧ W.cell? ⟨w.heap.size + 1, 3, none⟩ = some d3 ∧ W.cell? ⟨w.heap.size + 1, 4, none⟩ = some d4 :=
  ⟨⟨cell_of_row _ _ 0 _ _ _ h.a, cell_of_row _ _ 1 _ _ _ h.a, cell_of_row _ _ 2 _ _ _ h.a, cell_of_row _ _ 3 _ _ _ h.a, cell_of_row _ _ 4 _ _ _ h.a, cell_of_row _ _ 5 _ _ _ h.a⟩, cell_of_row _ _ 0 _ _ _ h.b, cell_of_row _ _ 1 _ _ _ h.b, cell_of_row _ _ 2 _ _ _ h.b, cell_of_row _ _ 3 _ _ _ h.b, cell_of_row _ _ 4 _ _ _ h.b⟩
theorem T4.outs {w W : World} {A B : Array Value} {z0 z1 z2 z3 z4 y0 y1 y2 y3 : Value} (h : T4 w W A B #[z0, z1, z2, z3, z4] #[y0, y1, y2, y3]) :
    (W.cell? ⟨w.heap.size + 1 + 1, 0, none⟩ = some z0 ∧ W.cell? ⟨w.heap.size + 1 + 1, 1, none⟩ = some z1 ∧ W.cell? ⟨w.heap.size + 1 + 1, 2, none⟩ = some z2 ∧ W.cell? ⟨w.heap.size + 1 + 1, 3, none⟩ = some z3 ∧ W.cell? ⟨w.heap.size + 1 + 1, 4, none⟩ = some z4) ∧
    (W.cell? ⟨w.heap.size + 1 + 1 + 1, 0, none⟩ = some y0 ∧ W.cell? ⟨w.heap.size + 1 + 1 + 1, 1, none⟩ = some y1 ∧ W.cell? ⟨w.heap.size + 1 + 1 + 1, 2, none⟩ = some y2 ∧ W.cell? ⟨w.heap.size + 1 + 1 + 1, 3, none⟩ = some y3) ∧
    (∀ i, W.frozen? ⟨w.heap.size + 1 + 1, i, none⟩ = false) ∧ (∀ i, W.frozen? ⟨w.heap.size + 1 + 1 + 1, i, none⟩ = false) :=
  ⟨⟨cell_of_row _ _ 0 _ _ _ h.r, cell_of_row _ _ 1 _ _ _ h.r, cell_of_row _ _ 2 _ _ _ h.r, cell_of_row _ _ 3 _ _ _ h.r, cell_of_row _ _ 4 _ _ _ h.r⟩, ⟨cell_of_row _ _ 0 _ _ _ h.q, cell_of_row _ _ 1 _ _ _ h.q, cell_of_row _ _ 2 _ _ _ h.q, cell_of_row _ _ 3 _ _ _ h.q⟩, fun i => frozen_of_row _ _ i _ _ h.r, fun i => frozen_of_row _ _ i _ _ h.q⟩
set_option maxRecDepth 20000 in
set_option maxHeartbeats 4000000 in
theorem exTick_any (w : World) (b : Nat) (h : ExP w b) :
    Calls Try.prog 73 #[.agg #[.string ⟨#[97]⟩, .int .i64 100, .int .i64 1, .int .i64 250, .int .i64 0, .int .i64 0], .slice (some ⟨b, 0, none⟩) 1 1, .slice none 0 0, .agg #[.int .i64 0, .int .i64 0, .int .i64 0, .int .i64 20000, .int .i64 1000]] w fun e w' =>
      e = .returned (.tuple #[.agg #[.int .i64 1, .int .i64 0, .int .i64 1, .int .i64 30000, .int .i64 1000], .agg #[.int .i64 0, .int .i64 30000, .int .i64 30000, .int .i64 30000], .int .i64 0]) ∧ Below w.heap.size w w' := by
  have HE := hid (fun w1 (g : Below w.heap.size w w1) => (show ExP w1 b from ⟨keep_cell g h.1, keep_cell g h.2.1, keep_cell g h.2.2⟩))
  have HT := hid (t4_start (w := w) (A := #[.string ⟨#[97]⟩, .int .i64 100, .int .i64 1, .int .i64 250, .int .i64 0, .int .i64 0]) (B := #[.int .i64 0, .int .i64 0, .int .i64 0, .int .i64 20000, .int .i64 1000]) (R := #[.int .i64 0, .int .i64 0, .int .i64 0, .int .i64 0, .int .i64 0]) (Q := #[.int .i64 0, .int .i64 0, .int .i64 0, .int .i64 0]))
  clear h
  go_enter Try.func73, Try.ntmps73
  go_wp2_with fail
  refine (valid_any _ _ _ _ _ _ _ 1 exP _ 0 exQ _ _ _ _ _ _ (by decide) (ex_prog (HE.out _ HT.out.low)) (ex_none _)).mono ?_
  rintro e w1 ⟨rfl, hb⟩
  rw [ex_good]
  have HT1 := hid (HT.out.keep hb)
  clear HT hb
  obtain ⟨⟨a0, a1, a2, a3, a4, a5⟩, b0, b1, b2, b3, b4⟩ := HT1.out.cells
  go_wp2_with fail
  refine (ex_tick _ b (HE.out _ HT1.out.low)).mono ?_
  rintro e w2 ⟨rfl, hb⟩
  have HT2 := hid (HT1.out.keep hb)
  clear a0 a1 a2 a3 a4 a5 b0 b1 b2 b3 b4 hb HT1
  go_upto_region 8 with (fail)
  have hlt := lt_blk HT2.out.q
  have HB3 := hid (box2_start (w := w2) (A := #[.int .i64 1, .int .i64 0, .int .i64 1, .int .i64 30000, .int .i64 1000]) (B := #[.int .i64 0, .int .i64 30000, .int .i64 30000, .int .i64 30000]) (T := 57) (T' := 74) (fz := (0, 0)) (fz' := (0, 0)))
  have HT3 := hid (HT2.out.keep HB3.out.low)
  generalize World.alloc (World.alloc w2 _) _ = W3 at HB3 HT3 ⊢
  obtain ⟨⟨r0, r1, r2, r3, r4⟩, ⟨s0, s1, s2, s3⟩, fr, fs⟩ := HT3.out.outs
  have fr0 := fr 0; have fr1 := fr 1; have fr2 := fr 2; have fr3 := fr 3; have fr4 := fr 4
  have fs0 := fs 0; have fs1 := fs 1; have fs2 := fs 2; have fs3 := fs 3
  have i0 := HB3.out.fst 0; have i1 := HB3.out.fst 1; have i2 := HB3.out.fst 2; have i3 := HB3.out.fst 3; have i4 := HB3.out.fst 4
  have j0 := HB3.out.snd 0; have j1 := HB3.out.snd 1; have j2 := HB3.out.snd 2; have j3 := HB3.out.snd 3
  simp only [List.getElem?_toArray, List.getElem?_cons_zero, List.getElem?_cons_succ] at i0 i1 i2 i3 i4 j0 j1 j2 j3
  clear fr fs HT2
  obtain ⟨m0, hm0⟩ : ∃ m, m = w2.heap.size := ⟨_, rfl⟩
  rw [← hm0] at i0 i1 i2 i3 i4 j0 j1 j2 j3 hlt ⊢
  clear hm0 HB3
  have n1 : ¬ m0 = w.heap.size + 1 + 1 := by omega
  have n2 : ¬ w.heap.size + 1 + 1 = m0 := by omega
  have n3 : ¬ m0 + 1 = w.heap.size + 1 + 1 := by omega
  have n4 : ¬ w.heap.size + 1 + 1 = m0 + 1 := by omega
  have n5 : ¬ m0 = w.heap.size + 1 + 1 + 1 := by omega
  have n6 : ¬ w.heap.size + 1 + 1 + 1 = m0 := by omega
  have n7 : ¬ m0 + 1 = w.heap.size + 1 + 1 + 1 := by omega
  have n8 : ¬ w.heap.size + 1 + 1 + 1 = m0 + 1 := by omega
  clear hlt
  go_region
  all_goals go_wp2_with fail
  obtain ⟨h1, h2⟩ := out9_blocks (v0 := .int .i64 1) (v1 := .int .i64 0) (v2 := .int .i64 1) (v3 := .int .i64 30000) (v4 := .int .i64 1000) (u0 := .int .i64 0) (u1 := .int .i64 30000) (u2 := .int .i64 30000) (u3 := .int .i64 30000) HT3.out.r HT3.out.q (by omega)
  have hl := out9_low (v0 := .int .i64 1) (v1 := .int .i64 0) (v2 := .int .i64 1) (v3 := .int .i64 30000) (v4 := .int .i64 1000) (u0 := .int .i64 0) (u1 := .int .i64 30000) (u2 := .int .i64 30000) (u3 := .int .i64 30000) (a := w.heap.size + 1 + 1) (b := w.heap.size + 1 + 1 + 1) HT3.out.low (by omega) (by omega)
  have k0 := cell_of_row _ _ 0 _ _ _ h1
  have k1 := cell_of_row _ _ 1 _ _ _ h1
  have k2 := cell_of_row _ _ 2 _ _ _ h1
  have k3 := cell_of_row _ _ 3 _ _ _ h1
  have k4 := cell_of_row _ _ 4 _ _ _ h1
  have l0 := cell_of_row _ _ 0 _ _ _ h2
  have l1 := cell_of_row _ _ 1 _ _ _ h2
  have l2 := cell_of_row _ _ 2 _ _ _ h2
  have l3 := cell_of_row _ _ 3 _ _ _ h2
  unfold out9 at k0 k1 k2 k3 k4 l0 l1 l2 l3 hl
  simp only [List.getElem?_toArray, List.getElem?_cons_zero, List.getElem?_cons_succ] at k0 k1 k2 k3 k4 l0 l1 l2 l3
  clear r0 r1 r2 r3 r4 s0 s1 s2 s3 fr0 fr1 fr2 fr3 fr4 fs0 fs1 fs2 fs3 i0 i1 i2 i3 i4 j0 j1 j2 j3 n1 n2 n3 n4 n5 n6 n7 n8 h1 h2
  exact bodyPost_ret (v := .tuple #[.agg #[.int .i64 1, .int .i64 0, .int .i64 1, .int .i64 30000, .int .i64 1000], .agg #[.int .i64 0, .int .i64 30000, .int .i64 30000, .int .i64 30000], .int .i64 0]) (by simp [results, Try.results73, go_sem, k0, k1, k2, k3, k4, l0, l1, l2, l3]) rfl ⟨rfl, hl.drew⟩
set_option maxRecDepth 20000 in
set_option maxHeartbeats 4000000 in
theorem vawake_any (w : World) : Calls Try.prog 36 #[] w fun e w' => e = .returned (.bool true) ∧ Below w.heap.size w w' := by
  have hX : ∀ (T T' : TypeId) (A : Array Value), ExP ((w.alloc (.cells A T)).alloc (.cells #[.int .i64 2, .int .i64 120000, .int .i64 0] T')) (w.heap.size + 1) := fun T T' A => by
    have h := box2_start (w := w) (A := A) (B := #[.int .i64 2, .int .i64 120000, .int .i64 0]) (T := T) (T' := T') (fz := (0, 0)) (fz' := (0, 0))
    exact ⟨h.snd 0, h.snd 1, h.snd 2⟩
  have HX := hid hX
  have HL := hid (fun (o o' : Obj) => ((Below.refl w.heap.size w).alloc (Nat.le_refl _) o).alloc (by simp) o')
  clear hX
  go_enter Try.func36, Try.ntmps36
  go_wp2_with fail
  refine (exTick_any _ _ (HX.out _ _ _)).mono ?_
  rintro e w2 ⟨rfl, hb⟩
  have HB := hid (bstep (HL.out _ _) (HL.out _ _).size hb)
  clear hb
  go_wp2_with fail
  go_ret
  exact ⟨rfl, (HB.out.alloc HB.out.size _).alloc (by have := HB.out.size; simp; omega) _⟩
end Go.Proofs.Ytpkcnojcklmhmaa
