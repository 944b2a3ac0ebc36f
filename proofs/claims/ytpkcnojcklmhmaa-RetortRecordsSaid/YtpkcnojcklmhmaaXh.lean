/- Walk of RetortRuns. -/
import Derived.Test.YtpkcnojcklmhmaaXg
import Derived.Test.YtpkcnojcklmhmaaVu
import Derived.Test.YtpkcnojcklmhmaaVo
import Derived.Test.YtpkcnojcklmhmaaVd
namespace Go.Proofs.Ytpkcnojcklmhmaa
open Go.RowKit

theorem isame (a : Int) : (a == a) = true := by simp
/-- What Run of both hands back. -/
def RunG (Z : Ld) (N : Nat) (E : Int) (r : Nat → Rd) (w : World) (e : Ending) (w' : World) : Prop :=
  ∃ (a : Option Addr) (c : Nat), e = .returned (.tuple #[.agg (ldA Z), .slice a N c, .int .i64 E]) ∧ RowR w' (.slice a N c) N r ∧ Below w.heap.size w w'
theorem runG_of {J : Jb} {x : Ld} {K : Nat} {w : World} {e : Ending} {w' : World} (h : RunK J x K w e w') : RunG (J.endL (J.lds x K)) (J.endN (J.lds x K) K) (J.err (J.lds x K)) (J.rds x) w e w' := by
  obtain ⟨v, h1, h2, h3⟩ := h
  obtain ⟨a, c, rfl⟩ := h2.shape
  exact ⟨a, c, h1, h2, h3⟩
theorem runG_bad {r : Nat → Rd} {w : World} {e : Ending} {w' : World} (h : RunBad w e w') : RunG ⟨0, 0, 0, 0, 0⟩ 0 1 r w e w' := ⟨none, 0, h.1, rowR_nil _ _, h.2⟩
theorem run_both (s : ByteArray) (h c v p ch : Int) (u : Value) (m : Nat) (P : Nat → St) (z : Value) (n : Nat) (q : Nat → Tri) (t st g tc ai : Int) (hs : s.size ≤ maxLen) :
    ∃ (Z : Ld) (N : Nat) (E : Int) (r : Nat → Rd),
      (∀ w, RowP w u m P → RowT w z n q → Calls Try.prog 37 #[.agg #[.string s, .int .i64 h, .int .i64 c, .int .i64 v, .int .i64 p, .int .i64 ch], u, z, .agg #[.int .i64 t, .int .i64 st, .int .i64 g, .int .i64 tc, .int .i64 ai]] w (RunG Z N E r w)) ∧
      (∀ w, RowP w u m P → RowT w z n q → Calls Try.prog 38 #[.agg #[.string s, .int .i64 h, .int .i64 c, .int .i64 v, .int .i64 p, .int .i64 ch], u, z, .agg #[.int .i64 t, .int .i64 st, .int .i64 g, .int .i64 tc, .int .i64 ai]] w (RunG Z N E r w)) := by
  obtain ⟨J, hJ⟩ : ∃ J : Jb, J = ⟨s, h, c, v, p, ch, m, P, n, q⟩ := ⟨_, rfl⟩
  obtain ⟨x, hx⟩ : ∃ x : Ld, x = ⟨t, st, g, tc, ai⟩ := ⟨_, rfl⟩
  cases hg : goodB s h c v p ch m P n q ⟨t, st, g, tc, ai⟩
  · refine ⟨⟨0, 0, 0, 0, 0⟩, 0, 1, fun _ => ⟨0, 0, 0, 0⟩, fun w hp hq => ?_, fun w hp hq => ?_⟩
    · exact (run_bad ⟨s, h, c, v, p, ch, m, P, n, q⟩ ⟨t, st, g, tc, ai⟩ u z w hs hp hq hg).mono fun e w' h => runG_bad h
    · exact (xrun_bad ⟨s, h, c, v, p, ch, m, P, n, q⟩ ⟨t, st, g, tc, ai⟩ u z w hs hp hq hg).mono fun e w' h => runG_bad h
  · obtain ⟨K, hK⟩ := Jb.stops_ex ⟨s, h, c, v, p, ch, m, P, n, q⟩ ⟨t, st, g, tc, ai⟩
    have f1 := fun (w : World) (hp : RowP w u m P) (hq : RowT w z n q) => (run_job ⟨s, h, c, v, p, ch, m, P, n, q⟩ ⟨t, st, g, tc, ai⟩ u z w K hs hp hq hg hK).mono fun e w' h => runG_of h
    have f2 := fun (w : World) (hp : RowP w u m P) (hq : RowT w z n q) => (xrun_job ⟨s, h, c, v, p, ch, m, P, n, q⟩ ⟨t, st, g, tc, ai⟩ u z w K hs hp hq hg hK).mono fun e w' h => runG_of h
    exact ⟨_, _, _, _, f1, f2⟩
/-- A job's box. -/
structure VJ (w W : World) (J : Array Value) : Prop where
  j : W.heap[w.heap.size]? = some (.cells J 59 (0, 0))
  low : Below w.heap.size w W
theorem VJ.keep {w W W2 : World} {J : Array Value} (h : VJ w W J) (hb : Below W.heap.size W W2) : VJ w W2 J := ⟨(hb.block _ (lt_at h.j)).trans h.j, bstep h.low h.low.size hb⟩
theorem vj_start {w : World} {J : Array Value} : VJ w (w.alloc (.cells J 59)) J := ⟨heap_alloc_new _ _, (Below.refl _ _).alloc (Nat.le_refl _) _⟩
theorem VJ.cells {w W : World} {c0 c1 c2 c3 c4 c5 c6 c7 c8 c9 c10 c11 c12 : Value} (h : VJ w W #[c0, c1, c2, c3, c4, c5, c6, c7, c8, c9, c10, c11, c12]) :
    W.cell? ⟨w.heap.size, 0, none⟩ = some c0 ∧ W.cell? ⟨w.heap.size, 1, none⟩ = some c1 ∧ W.cell? ⟨w.heap.size, 2, none⟩ = some c2 ∧ W.cell? ⟨w.heap.size, 3, none⟩ = some c3 ∧ W.cell? ⟨w.heap.size, 4, none⟩ = some c4 ∧ W.cell? ⟨w.heap.size, 5, none⟩ = some c5 ∧ W.cell? ⟨w.heap.size, 6, none⟩ = some c6 ∧ W.cell? ⟨w.heap.size, 7, none⟩ = some c7 ∧ W.cell? ⟨w.heap.size, 8, none⟩ = some c8 ∧ W.cell? ⟨w.heap.size, 9, none⟩ = some c9 ∧ W.cell? ⟨w.heap.size, 10, none⟩ = some c10 ∧ W.cell? ⟨w.heap.size, 11, none⟩ = some c11 ∧ W.cell? ⟨w.heap.size, 12, none⟩ = some c12 :=
  ⟨cell_of_row _ _ 0 _ _ _ h.j, cell_of_row _ _ 1 _ _ _ h.j, cell_of_row _ _ 2 _ _ _ h.j, cell_of_row _ _ 3 _ _ _ h.j, cell_of_row _ _ 4 _ _ _ h.j, cell_of_row _ _ 5 _ _ _ h.j, cell_of_row _ _ 6 _ _ _ h.j, cell_of_row _ _ 7 _ _ _ h.j, cell_of_row _ _ 8 _ _ _ h.j, cell_of_row _ _ 9 _ _ _ h.j, cell_of_row _ _ 10 _ _ _ h.j, cell_of_row _ _ 11 _ _ _ h.j, cell_of_row _ _ 12 _ _ _ h.j⟩
set_option maxRecDepth 100000 in
set_option maxHeartbeats 8000000 in
theorem runs_walk (s : ByteArray) (h c v p ch : Int) (u : Value) (m : Nat) (P : Nat → St) (z : Value) (n : Nat) (q : Nat → Tri) (t st g tc ai : Int) (w : World) (hs : s.size ≤ maxLen) (hp : RowP w u m P) (hq : RowT w z n q) :
    Calls Try.prog 8 #[.agg (jobA s h c v p ch u z t st g tc ai)] w fun e w' => e = .returned (.bool true) ∧ Below w.heap.size w w' := by
  unfold jobA
  have HP := hid (fun w1 (g : Below w.heap.size w w1) => (show RowP w1 u m P from RowT.keep hp g))
  have HQ := hid (fun w1 (g : Below w.heap.size w w1) => hq.keep g)
  obtain ⟨pa, pc, rfl⟩ := RowT.shape hp
  obtain ⟨qa, qc, rfl⟩ := hq.shape
  obtain ⟨Z, N, E, r, hC1, hC2⟩ := run_both s h c v p ch (.slice pa m pc) m P (.slice qa n qc) n q t st g tc ai hs
  have C1 := hid hC1; have C2 := hid hC2
  clear hp hq hs hC1 hC2
  have HV := hid (vj_start (w := w) (J := #[.string s, .int .i64 h, .int .i64 c, .int .i64 v, .int .i64 p, .int .i64 ch, .slice pa m pc, .slice qa n qc, .int .i64 t, .int .i64 st, .int .i64 g, .int .i64 tc, .int .i64 ai]))
  obtain ⟨j0, j1, j2, j3, j4, j5, j6, j7, j8, j9, j10, j11, j12⟩ := HV.out.cells
  cases hbr : (decide (m ≤ 40) && decide (n ≤ 40))
  · go_enter Try.func8, Try.ntmps8
    go_wp2_with fail
    refine (vbrief_any _ _ _ _ _ _ _ _ _ _ _ _ _ _ _ _ _ _).mono ?_
    rintro e w1 ⟨rfl, hb⟩
    rw [hbr]
    have HV := hid (HV.out.keep hb)
    clear hb
    go_wp2_with fail
    refine (vawake_any _).mono ?_
    rintro e w9 ⟨rfl, hb⟩
    have HV := hid (HV.out.keep hb)
    clear hb
    go_wp2_with fail
    go_ret
    exact ⟨rfl, HV.out.low⟩
  · go_enter Try.func8, Try.ntmps8
    go_wp2_with fail
    refine (vbrief_any _ _ _ _ _ _ _ _ _ _ _ _ _ _ _ _ _ _).mono ?_
    rintro e w1 ⟨rfl, hb⟩
    rw [hbr]
    have HV := hid (HV.out.keep hb)
    clear hb j0 j1 j2 j3 j4 j5 j6 j7 j8 j9 j10 j11 j12
    obtain ⟨j0, j1, j2, j3, j4, j5, j6, j7, j8, j9, j10, j11, j12⟩ := HV.out.cells
    go_wp2_with fail
    refine (C1.out _ (HP.out _ HV.out.low) (HQ.out _ HV.out.low)).mono ?_
    rintro e w2 ⟨a1, c1, rfl, hr1, hb⟩
    have HV := hid (HV.out.keep hb)
    have HR1 := hid hr1
    clear hb hr1 j0 j1 j2 j3 j4 j5 j6 j7 j8 j9 j10 j11 j12
    go_wp2_with (refine wpList_store_row rfl 57 _ _ rfl w2.heap.size (ldA Z) rfl rfl 57 _ (heap_alloc_new w2 _) (infoLd _) (by rfl) (ldA_one _) ?_; generalize hW : World.setRow _ _ _ = W3; have H3 := hid (new_row hW); clear hW; have HV := hid (HV.out.keep H3.out.2.1); obtain ⟨j0, j1, j2, j3, j4, j5, j6, j7, j8, j9, j10, j11, j12⟩ := HV.out.cells)
    refine (C2.out _ (HP.out _ HV.out.low) (HQ.out _ HV.out.low)).mono ?_
    rintro e w4 ⟨a2, c2, rfl, hr2, hb⟩
    have HR2 := hid hr2; have HB4 := hid hb
    clear hb hr2 j0 j1 j2 j3 j4 j5 j6 j7 j8 j9 j10 j11 j12
    have HV := hid (HV.out.keep HB4.out)
    have HR1 := hid ((HR1.out.keep H3.out.2.1).keep HB4.out)
    have HN := hid ((HB4.out.block _ (lt_at H3.out.1)).trans H3.out.1)
    have s1 := isame E; have s2 := isame Z.tick; have s3 := isame Z.step; have s4 := isame Z.gone; have s5 := isame Z.temp; have s6 := isame Z.air
    go_wp2_with (first
      | (refine wpList_store_row rfl 57 _ _ rfl w4.heap.size (ldA Z) rfl rfl 57 _ (heap_alloc_new w4 _) (infoLd _) (by rfl) (ldA_one _) ?_; generalize hW : World.setRow _ _ _ = W5; have H5 := hid (new_row hW); clear hW; have HV := hid (HV.out.keep H5.out.2.1); have HR1 := hid (HR1.out.keep H5.out.2.1); have HR2 := hid (HR2.out.keep H5.out.2.1); have HN := hid ((H5.out.2.1.block _ (lt_at HN.out)).trans HN.out); have p0 := cell_of_row _ _ 0 _ _ _ HN.out; have p1 := cell_of_row _ _ 1 _ _ _ HN.out; have p2 := cell_of_row _ _ 2 _ _ _ HN.out; have p3 := cell_of_row _ _ 3 _ _ _ HN.out; have p4 := cell_of_row _ _ 4 _ _ _ HN.out; have q0 := cell_of_row _ _ 0 _ _ _ H5.out.1; have q1 := cell_of_row _ _ 1 _ _ _ H5.out.1; have q2 := cell_of_row _ _ 2 _ _ _ H5.out.1; have q3 := cell_of_row _ _ 3 _ _ _ H5.out.1; have q4 := cell_of_row _ _ 4 _ _ _ H5.out.1; simp only [ldA, List.getElem?_toArray, List.getElem?_cons_zero, List.getElem?_cons_succ] at p0 p1 p2 p3 p4 q0 q1 q2 q3 q4)
      | (go_at_call 39; refine (xsame_any _ _ _ _ _ _ _ HR1.out HR2.out).mono ?_; rintro e w6 ⟨rfl, k6, rfl⟩; rw [sameR_self])
      | (go_at_call 36; refine (vawake_any _).mono ?_; rintro e w9 ⟨rfl, hb9⟩; have HB9 := hid hb9; clear hb9))
    go_ret
    exact ⟨rfl, bstep HV.out.low HV.out.low.size ((show Below W5.heap.size W5 (W5.drewN k6) from bdrewN (Below.refl _ _)).trans (HB9.out.mono (by simp)))⟩
end Go.Proofs.Ytpkcnojcklmhmaa
