/- Walk of RetortValid. -/
import Derived.Test.YtlkcddbddgnihaaVu
import Derived.Test.YtlkcddbddgnihaaVq
namespace Go.Proofs.Ytlkcddbddgnihaa
open Go.RowKit

/-- A job's box, and two loads' behind it. -/
structure V3 (w W : World) (na nb : Nat) (J A B : Array Value) : Prop where
  j : W.heap[w.heap.size]? = some (.cells J 58 (0, 0))
  a : W.heap[na]? = some (.cells A 56 (0, 0))
  b : W.heap[nb]? = some (.cells B 56 (0, 0))
  low : Below w.heap.size w W
theorem V3.keep {w W W2 : World} {na nb : Nat} {J A B : Array Value} (h : V3 w W na nb J A B) (hb : Below W.heap.size W W2) : V3 w W2 na nb J A B :=
  ⟨(hb.block _ (lt_blk h.j)).trans h.j, (hb.block _ (lt_blk h.a)).trans h.a, (hb.block _ (lt_blk h.b)).trans h.b, bstep h.low h.low.size hb⟩
theorem V3.cells {w W : World} {na nb : Nat} {c0 c1 c2 c3 c4 c5 c6 c7 c8 c9 c10 c11 c12 a0 a1 a2 a3 a4 b0 b1 b2 b3 b4 : Value} (h : V3 w W na nb #[c0, c1, c2, c3, c4, c5, c6, c7, c8, c9, c10, c11, c12] #[a0, a1, a2, a3, a4] #[b0, b1, b2, b3, b4]) :
    (W.cell? ⟨w.heap.size, 0, none⟩ = some c0 ∧ W.cell? ⟨w.heap.size, 1, none⟩ = some c1 ∧ W.cell? ⟨w.heap.size, 2, none⟩ = some c2 ∧ W.cell? ⟨w.heap.size, 3, none⟩ = some c3 ∧ W.cell? ⟨w.heap.size, 4, none⟩ = some c4 ∧ W.cell? ⟨w.heap.size, 5, none⟩ = some c5 ∧ W.cell? ⟨w.heap.size, 6, none⟩ = some c6 ∧ W.cell? ⟨w.heap.size, 7, none⟩ = some c7 ∧ W.cell? ⟨w.heap.size, 8, none⟩ = some c8 ∧ W.cell? ⟨w.heap.size, 9, none⟩ = some c9 ∧ W.cell? ⟨w.heap.size, 10, none⟩ = some c10 ∧ W.cell? ⟨w.heap.size, 11, none⟩ = some c11 ∧ W.cell? ⟨w.heap.size, 12, none⟩ = some c12) ∧
    (W.cell? ⟨na, 0, none⟩ = some a0 ∧ W.cell? ⟨na, 1, none⟩ = some a1 ∧ W.cell? ⟨na, 2, none⟩ = some a2 ∧ W.cell? ⟨na, 3, none⟩ = some a3 ∧ W.cell? ⟨na, 4, none⟩ = some a4) ∧
    (W.cell? ⟨nb, 0, none⟩ = some b0 ∧ W.cell? ⟨nb, 1, none⟩ = some b1 ∧ W.cell? ⟨nb, 2, none⟩ = some b2 ∧ W.cell? ⟨nb, 3, none⟩ = some b3 ∧ W.cell? ⟨nb, 4, none⟩ = some b4) :=
  ⟨⟨cell_of_row _ _ 0 _ _ _ h.j, cell_of_row _ _ 1 _ _ _ h.j, cell_of_row _ _ 2 _ _ _ h.j, cell_of_row _ _ 3 _ _ _ h.j, cell_of_row _ _ 4 _ _ _ h.j, cell_of_row _ _ 5 _ _ _ h.j, cell_of_row _ _ 6 _ _ _ h.j, cell_of_row _ _ 7 _ _ _ h.j, cell_of_row _ _ 8 _ _ _ h.j, cell_of_row _ _ 9 _ _ _ h.j, cell_of_row _ _ 10 _ _ _ h.j, cell_of_row _ _ 11 _ _ _ h.j, cell_of_row _ _ 12 _ _ _ h.j⟩, ⟨cell_of_row _ _ 0 _ _ _ h.a, cell_of_row _ _ 1 _ _ _ h.a, cell_of_row _ _ 2 _ _ _ h.a, cell_of_row _ _ 3 _ _ _ h.a, cell_of_row _ _ 4 _ _ _ h.a⟩, cell_of_row _ _ 0 _ _ _ h.b, cell_of_row _ _ 1 _ _ _ h.b, cell_of_row _ _ 2 _ _ _ h.b, cell_of_row _ _ 3 _ _ _ h.b, cell_of_row _ _ 4 _ _ _ h.b⟩
theorem V3.all {w W : World} {na nb : Nat} {c0 c1 c2 c3 c4 c5 c6 c7 c8 c9 c10 c11 c12 a0 a1 a2 a3 a4 b0 b1 b2 b3 b4 : Value} (h : V3 w W na nb #[c0, c1, c2, c3, c4, c5, c6, c7, c8, c9, c10, c11, c12] #[a0, a1, a2, a3, a4] #[b0, b1, b2, b3, b4]) :
    W.cell? ⟨w.heap.size, 0, none⟩ = some (c0) ∧ W.cell? ⟨w.heap.size, 1, none⟩ = some (c1) ∧ W.cell? ⟨w.heap.size, 2, none⟩ = some (c2) ∧ W.cell? ⟨w.heap.size, 3, none⟩ = some (c3) ∧ W.cell? ⟨w.heap.size, 4, none⟩ = some (c4) ∧ W.cell? ⟨w.heap.size, 5, none⟩ = some (c5) ∧ W.cell? ⟨w.heap.size, 6, none⟩ = some (c6) ∧ W.cell? ⟨w.heap.size, 7, none⟩ = some (c7) ∧ W.cell? ⟨w.heap.size, 8, none⟩ = some (c8) ∧ W.cell? ⟨w.heap.size, 9, none⟩ = some (c9) ∧ W.cell? ⟨w.heap.size, 10, none⟩ = some (c10) ∧ W.cell? ⟨w.heap.size, 11, none⟩ = some (c11) ∧ W.cell? ⟨w.heap.size, 12, none⟩ = some (c12) ∧ W.cell? ⟨na, 0, none⟩ = some (a0) ∧ W.cell? ⟨na, 1, none⟩ = some (a1) ∧ W.cell? ⟨na, 2, none⟩ = some (a2) ∧ W.cell? ⟨na, 3, none⟩ = some (a3) ∧ W.cell? ⟨na, 4, none⟩ = some (a4) ∧ W.cell? ⟨nb, 0, none⟩ = some (b0) ∧ W.cell? ⟨nb, 1, none⟩ = some (b1) ∧ W.cell? ⟨nb, 2, none⟩ = some (b2) ∧ W.cell? ⟨nb, 3, none⟩ = some (b3) ∧ W.cell? ⟨nb, 4, none⟩ = some (b4) ∧ Hid (V3 w W na nb #[c0, c1, c2, c3, c4, c5, c6, c7, c8, c9, c10, c11, c12] #[a0, a1, a2, a3, a4] #[b0, b1, b2, b3, b4]) := by
  obtain ⟨⟨j0, j1, j2, j3, j4, j5, j6, j7, j8, j9, j10, j11, j12⟩, ⟨x0, x1, x2, x3, x4⟩, y0, y1, y2, y3, y4⟩ := h.cells
  exact ⟨j0, j1, j2, j3, j4, j5, j6, j7, j8, j9, j10, j11, j12, x0, x1, x2, x3, x4, y0, y1, y2, y3, y4, h⟩
theorem v3_of {w W : World} {na nb : Nat} {c0 c1 c2 c3 c4 c5 c6 c7 c8 c9 c10 c11 c12 a0 a1 a2 a3 a4 b0 b1 b2 b3 b4 : Value} (h : W.cell? ⟨w.heap.size, 0, none⟩ = some (c0) ∧ W.cell? ⟨w.heap.size, 1, none⟩ = some (c1) ∧ W.cell? ⟨w.heap.size, 2, none⟩ = some (c2) ∧ W.cell? ⟨w.heap.size, 3, none⟩ = some (c3) ∧ W.cell? ⟨w.heap.size, 4, none⟩ = some (c4) ∧ W.cell? ⟨w.heap.size, 5, none⟩ = some (c5) ∧ W.cell? ⟨w.heap.size, 6, none⟩ = some (c6) ∧ W.cell? ⟨w.heap.size, 7, none⟩ = some (c7) ∧ W.cell? ⟨w.heap.size, 8, none⟩ = some (c8) ∧ W.cell? ⟨w.heap.size, 9, none⟩ = some (c9) ∧ W.cell? ⟨w.heap.size, 10, none⟩ = some (c10) ∧ W.cell? ⟨w.heap.size, 11, none⟩ = some (c11) ∧ W.cell? ⟨w.heap.size, 12, none⟩ = some (c12) ∧ W.cell? ⟨na, 0, none⟩ = some (a0) ∧ W.cell? ⟨na, 1, none⟩ = some (a1) ∧ W.cell? ⟨na, 2, none⟩ = some (a2) ∧ W.cell? ⟨na, 3, none⟩ = some (a3) ∧ W.cell? ⟨na, 4, none⟩ = some (a4) ∧ W.cell? ⟨nb, 0, none⟩ = some (b0) ∧ W.cell? ⟨nb, 1, none⟩ = some (b1) ∧ W.cell? ⟨nb, 2, none⟩ = some (b2) ∧ W.cell? ⟨nb, 3, none⟩ = some (b3) ∧ W.cell? ⟨nb, 4, none⟩ = some (b4) ∧ Hid (V3 w W na nb #[c0, c1, c2, c3, c4, c5, c6, c7, c8, c9, c10, c11, c12] #[a0, a1, a2, a3, a4] #[b0, b1, b2, b3, b4])) : V3 w W na nb #[c0, c1, c2, c3, c4, c5, c6, c7, c8, c9, c10, c11, c12] #[a0, a1, a2, a3, a4] #[b0, b1, b2, b3, b4] := h.2.2.2.2.2.2.2.2.2.2.2.2.2.2.2.2.2.2.2.2.2.2.2.out
/-- A job's box alone. -/
structure V1 (w W : World) (J : Array Value) : Prop where
  j : W.heap[w.heap.size]? = some (.cells J 58 (0, 0))
  low : Below w.heap.size w W
theorem V1.keep {w W W2 : World} {J : Array Value} (h : V1 w W J) (hb : Below W.heap.size W W2) : V1 w W2 J := ⟨(hb.block _ (lt_blk h.j)).trans h.j, bstep h.low h.low.size hb⟩
theorem v1_start {w : World} {J : Array Value} : V1 w (w.alloc (.cells J 58)) J := ⟨heap_alloc_new _ _, (Below.refl _ _).alloc (Nat.le_refl _) _⟩
theorem V1.two {w W W4 : World} {J A B : Array Value} (h : V1 w W J) (hb : Below (W.alloc (.cells A 56)).heap.size (W.alloc (.cells A 56)) W4) : V3 w (W4.alloc (.cells B 56)) W.heap.size W4.heap.size J A B := by
  have h1 := (h.keep ((Below.refl _ _).alloc (Nat.le_refl _) (.cells A 56))).keep hb
  have h2 := h1.keep ((Below.refl _ _).alloc (Nat.le_refl _) (.cells B 56))
  have ha : W4.heap[W.heap.size]? = some (.cells A 56 (0, 0)) := (hb.block _ (by simp)).trans (heap_alloc_new _ _)
  exact ⟨h2.j, (Below.heap_alloc _ _ _ (lt_blk ha)).trans ha, heap_alloc_new _ _, h2.low⟩

set_option maxRecDepth 100000 in
set_option maxHeartbeats 8000000 in
theorem valid_walk (s : ByteArray) (h c v p ch : Int) (u : Value) (m : Nat) (P : Nat → St) (z : Value) (n : Nat) (q : Nat → Tri) (t st g tc ai : Int) (x : Int) (w : World) (hs : s.size ≤ maxLen) (hp : RowP w u m P) (hq : RowT w z n q) (wx : (Lit.int .i64 x).wf = true) :
    Calls Try.prog 8 #[.agg (jobA s h c v p ch u z t st g tc ai), .int .i64 x] w fun e w' => e = .returned (.bool true) ∧ Below w.heap.size w w' := by
  clear wx
  unfold jobA
  have HP := hid (fun w1 (g : Below w.heap.size w w1) => (show RowP w1 u m P from RowT.keep hp g))
  have HQ := hid (fun w1 (g : Below w.heap.size w w1) => hq.keep g)
  have HS := hid hs
  obtain ⟨pa, pc, rfl⟩ := RowT.shape hp
  obtain ⟨qa, qc, rfl⟩ := hq.shape
  clear hp hq hs
  have HV := hid (v1_start (w := w) (J := #[.string s, .int .i64 h, .int .i64 c, .int .i64 v, .int .i64 p, .int .i64 ch, .slice pa m pc, .slice qa n qc, .int .i64 t, .int .i64 st, .int .i64 g, .int .i64 tc, .int .i64 ai]))
  cases hbr : (decide (m ≤ 40) && decide (n ≤ 40))
  · go_enter Try.func8, Try.ntmps8
    go_wp2_with fail
    refine (vbrief_any _ _ _ _ _ _ _ _ _ _ _ _ _ _ _ _ _ _).mono ?_
    rintro e w1 ⟨rfl, hb⟩
    rw [hbr]
    have HV := hid (HV.out.keep hb)
    clear hb
    go_wp2_with fail
    refine (vawake_any _).mono ?_
    rintro e w9 ⟨rfl, hb⟩
    have HV := hid (HV.out.keep hb)
    clear hb
    go_wp2_with fail
    go_ret
    exact ⟨rfl, HV.out.low⟩
  · have C1 : Hid (∀ w1, Calls Try.prog 40 #[.int .i64 x] w1 (BegP (begT x) (begA x) (begE x) w1)) := fun w1 => begin_any _ _
    have C2 : Hid (∀ w1, Calls Try.prog 41 #[.int .i64 x] w1 (BegP (begT x) (begA x) (begE x) w1)) := fun w1 => xbegin_any _ _
    generalize begT x = B1 at C1 C2
    generalize begA x = B2 at C1 C2
    generalize begE x = B3 at C1 C2
    have s1 := ibeq_same B3
    have s1a := ibeq_same B1
    have s1b := ibeq_same B2
    obtain ⟨b1, hb1⟩ : ∃ b, b = vesB s h c v p ch := ⟨_, rfl⟩
    obtain ⟨b2, hb2⟩ : ∃ b, b = progB m P := ⟨_, rfl⟩
    obtain ⟨b3, hb3⟩ : ∃ b, b = fltB n q := ⟨_, rfl⟩
    obtain ⟨b4, hb4⟩ : ∃ b, b = ldB m P ⟨t, st, g, tc, ai⟩ := ⟨_, rfl⟩
    obtain ⟨b5, hb5⟩ : ∃ b, b = doneB m P ⟨t, st, g, tc, ai⟩ := ⟨_, rfl⟩
    have H1 := hid hb1; have H2 := hid hb2; have H3 := hid hb3; have H4 := hid hb4; have H5 := hid hb5
    have s2 := beq_same b1; have s3 := beq_same b2; have s4 := beq_same b3; have s5 := beq_same b4; have s6 := beq_same b5
    clear hb1 hb2 hb3 hb4 hb5
    go_enter Try.func8, Try.ntmps8
    go_wp2_with fail
    refine (vbrief_any _ _ _ _ _ _ _ _ _ _ _ _ _ _ _ _ _ _).mono ?_
    rintro e w1 ⟨rfl, hb⟩
    rw [hbr]
    have HV := hid (HV.out.keep hb)
    clear hb
    go_wp2_with fail
    refine (C1.out _).mono ?_
    rintro e w2 ⟨rfl, hb⟩
    have HV := hid (HV.out.keep hb)
    clear hb
    go_wp2_with fail
    refine (C2.out _).mono ?_
    rintro e w4 ⟨rfl, hb⟩
    have H3V := hid (HV.out.two (B := #[.int .i64 0, .int .i64 0, .int .i64 0, .int .i64 B1, .int .i64 B2]) hb)
    clear hb
    obtain ⟨na, hna⟩ : ∃ k, k = w2.heap.size := ⟨_, rfl⟩
    rw [← hna] at H3V
    rw [← hna]
    clear hna
    obtain ⟨nb, hnb⟩ : ∃ k, k = w4.heap.size := ⟨_, rfl⟩
    go_wp2_with fail
    rw [← hnb] at H3V
    rw [← hnb]
    clear hnb
    have HV0 := hid (H3V.out.keep (Below.refl _ _).drew)
    have HV1 := hid HV0.out.all
    generalize World.alloc w4 _ = W5 at H3V HV0 HV1 ⊢
    simp only [List.append_eq, List.cons_append, List.nil_append]
    go_region_held3 (fun w' => w'.cell? ⟨w.heap.size, 0, none⟩ = some (.string s) ∧ w'.cell? ⟨w.heap.size, 1, none⟩ = some (.int .i64 h) ∧ w'.cell? ⟨w.heap.size, 2, none⟩ = some (.int .i64 c) ∧ w'.cell? ⟨w.heap.size, 3, none⟩ = some (.int .i64 v) ∧ w'.cell? ⟨w.heap.size, 4, none⟩ = some (.int .i64 p) ∧ w'.cell? ⟨w.heap.size, 5, none⟩ = some (.int .i64 ch) ∧ w'.cell? ⟨w.heap.size, 6, none⟩ = some (.slice pa m pc) ∧ w'.cell? ⟨w.heap.size, 7, none⟩ = some (.slice qa n qc) ∧ w'.cell? ⟨w.heap.size, 8, none⟩ = some (.int .i64 t) ∧ w'.cell? ⟨w.heap.size, 9, none⟩ = some (.int .i64 st) ∧ w'.cell? ⟨w.heap.size, 10, none⟩ = some (.int .i64 g) ∧ w'.cell? ⟨w.heap.size, 11, none⟩ = some (.int .i64 tc) ∧ w'.cell? ⟨w.heap.size, 12, none⟩ = some (.int .i64 ai) ∧ w'.cell? ⟨na, 0, none⟩ = some (.int .i64 0) ∧ w'.cell? ⟨na, 1, none⟩ = some (.int .i64 0) ∧ w'.cell? ⟨na, 2, none⟩ = some (.int .i64 0) ∧ w'.cell? ⟨na, 3, none⟩ = some (.int .i64 B1) ∧ w'.cell? ⟨na, 4, none⟩ = some (.int .i64 B2) ∧ w'.cell? ⟨nb, 0, none⟩ = some (.int .i64 0) ∧ w'.cell? ⟨nb, 1, none⟩ = some (.int .i64 0) ∧ w'.cell? ⟨nb, 2, none⟩ = some (.int .i64 0) ∧ w'.cell? ⟨nb, 3, none⟩ = some (.int .i64 B1) ∧ w'.cell? ⟨nb, 4, none⟩ = some (.int .i64 B2) ∧ Hid (V3 w w' na nb #[.string s, .int .i64 h, .int .i64 c, .int .i64 v, .int .i64 p, .int .i64 ch, .slice pa m pc, .slice qa n qc, .int .i64 t, .int .i64 st, .int .i64 g, .int .i64 tc, .int .i64 ai] #[.int .i64 0, .int .i64 0, .int .i64 0, .int .i64 B1, .int .i64 B2] #[.int .i64 0, .int .i64 0, .int .i64 0, .int .i64 B1, .int .i64 B2]))
      (first | exact HV1.out | exact ((v3_of (by assumption)).keep (by assumption)).all)
      (first
      | (go_at_call 42; refine (vves_any _ _ _ _ _ _ _ HS.out).mono ?_; rintro e wk ⟨rfl, hb⟩; rw [← H1.out])
      | (go_at_call 43; refine (xves_any _ _ _ _ _ _ _ HS.out).mono ?_; rintro e wk ⟨rfl, hb⟩; rw [← H1.out])
      | (go_at_call 44; refine (vprog_any _ _ _ _ (HP.out _ (v3_of (by assumption)).low)).mono ?_; rintro e wk ⟨rfl, hb⟩; rw [← H2.out])
      | (go_at_call 45; refine (xprog_any _ _ _ _ (HP.out _ (v3_of (by assumption)).low)).mono ?_; rintro e wk ⟨rfl, hb⟩; rw [← H2.out])
      | (go_at_call 46; refine (vflt_any _ _ _ _ (HQ.out _ (v3_of (by assumption)).low)).mono ?_; rintro e wk ⟨rfl, hb⟩; rw [← H3.out])
      | (go_at_call 47; refine (xflt_any _ _ _ _ (HQ.out _ (v3_of (by assumption)).low)).mono ?_; rintro e wk ⟨rfl, hb⟩; rw [← H3.out])
      | (go_at_call 48; refine (vld_any _ _ _ _ _ _ _ _ _ (HP.out _ (v3_of (by assumption)).low)).mono ?_; rintro e wk ⟨rfl, hb⟩; rw [← H4.out])
      | (go_at_call 49; refine (xld_any _ _ _ _ _ _ _ _ _ (HP.out _ (v3_of (by assumption)).low)).mono ?_; rintro e wk ⟨rfl, hb⟩; rw [← H4.out])
      | (go_at_call 50; refine (vdone_any _ _ _ _ _ _ _ _ _ (HP.out _ (v3_of (by assumption)).low)).mono ?_; rintro e wk ⟨rfl, hb⟩; rw [← H5.out])
      | (go_at_call 51; refine (xdone_any _ _ _ _ _ _ _ _ _ (HP.out _ (v3_of (by assumption)).low)).mono ?_; rintro e wk ⟨rfl, hb⟩; rw [← H5.out])
      | (go_at_call 15; refine (vawake_any _).mono ?_; rintro e wk ⟨rfl, hb⟩))
    rename_i hq
    have HB := hid (v3_of hq).low
    clear hq
    go_wp2_with fail
    go_ret
    exact ⟨rfl, HB.out⟩
end Go.Proofs.Ytlkcddbddgnihaa
