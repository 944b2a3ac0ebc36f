/- Walks of least's closure and of cooks: contracts. -/
import Derived.Test.YtedfajokiblfhaaGreatPdd
namespace Go.Proofs.YtedfajokiblfhaaGreat
open Go.RowKit Go.Shelf Go.Lib

/-- A can is sterile with n ticks of a search, and its cooling. -/
def tstC (c : Cn) (f : Int → Nat) (D : Dish) (need bath cold : Int) (cooling n : Nat) : Bool := enD need (afN c f (afN c f D bath n) cold cooling)
/-- A cook's block is laid anew. -/
theorem set4w {W W' : World} {b : Nat} {T : TypeId} {x0 x1 x2 x3 y0 y1 y2 y3 : Value} (h : W.heap[b]? = some (.cells #[x0, x1, x2, x3] T (0, 0))) (hW : (((W.setCell ⟨b, 0, none⟩ y0).setCell ⟨b, 1, none⟩ y1).setCell ⟨b, 2, none⟩ y2).setCell ⟨b, 3, none⟩ y3 = W') :
    W'.heap[b]? = some (.cells #[y0, y1, y2, y3] T (0, 0)) ∧ (∀ g, g ≠ b → W'.heap[g]? = W.heap[g]?) ∧ W.grownBy W' (some b) := by
  subst hW
  have h0 := heap_setCell_same W b 0 _ _ y0 h
  have h1 := heap_setCell_same _ b 1 _ _ y1 h0
  have h2 := heap_setCell_same _ b 2 _ _ y2 h1
  have h3 := heap_setCell_same _ b 3 _ _ y3 h2
  have hg : ∀ g, g ≠ b → ((((W.setCell ⟨b, 0, none⟩ y0).setCell ⟨b, 1, none⟩ y1).setCell ⟨b, 2, none⟩ y2).setCell ⟨b, 3, none⟩ y3).heap[g]? = W.heap[g]? := fun g hg => by
    rw [heap_setCell_other _ _ _ _ (by exact hg), heap_setCell_other _ _ _ _ (by exact hg), heap_setCell_other _ _ _ _ (by exact hg), heap_setCell_other _ _ _ _ (by exact hg)]
  exact ⟨h3, hg, rfl, rfl, rfl, by simp, fun k _ hk => hg k (fun e => hk (by rw [e]))⟩
theorem below_row {w W : World} {row : Option Nat} (hb : Below w.heap.size w W) : w.grownBy W row := ⟨hb.os, hb.tape, hb.output, hb.size, fun j hj _ => hb.block j hj⟩
/-- A search's box, and its cells. -/
theorem sr_cells {c : Cn} {need : Int} {F : Nat} {lb : Array Value} {bath cold : Int} {most cooling : Nat} {sb : Nat} {W : World} (h : W.heap[sb]? = some (.cells #[.int .i64 (c.R : Int), .int .i64 (c.L : Int), .int .i64 c.A, .int .i64 c.B, .int .i64 c.K, .int .i64 c.A2, .int .i64 c.B2, .int .i64 need, .func (.func F) #[] lb, .int .i64 bath, .int .i64 (most : Nat), .int .i64 cold, .int .i64 (cooling : Nat)] 97 (0, 0))) :
    (W.cell? ⟨sb, 0, none⟩ = some (.int .i64 (c.R : Int)) ∧ W.cell? ⟨sb, 1, none⟩ = some (.int .i64 (c.L : Int)) ∧ W.cell? ⟨sb, 2, none⟩ = some (.int .i64 c.A) ∧ W.cell? ⟨sb, 3, none⟩ = some (.int .i64 c.B) ∧ W.cell? ⟨sb, 4, none⟩ = some (.int .i64 c.K) ∧ W.cell? ⟨sb, 5, none⟩ = some (.int .i64 c.A2) ∧ W.cell? ⟨sb, 6, none⟩ = some (.int .i64 c.B2) ∧ W.cell? ⟨sb, 7, none⟩ = some (.int .i64 need) ∧ W.cell? ⟨sb, 8, none⟩ = some (.func (.func F) #[] lb)) ∧
    (W.cell? ⟨sb, 9, none⟩ = some (.int .i64 bath) ∧ W.cell? ⟨sb, 10, none⟩ = some (.int .i64 (most : Nat)) ∧ W.cell? ⟨sb, 11, none⟩ = some (.int .i64 cold) ∧ W.cell? ⟨sb, 12, none⟩ = some (.int .i64 (cooling : Nat))) :=
  ⟨⟨cell_of_row _ _ 0 _ _ _ h, cell_of_row _ _ 1 _ _ _ h, cell_of_row _ _ 2 _ _ _ h, cell_of_row _ _ 3 _ _ _ h, cell_of_row _ _ 4 _ _ _ h, cell_of_row _ _ 5 _ _ _ h, cell_of_row _ _ 6 _ _ _ h, cell_of_row _ _ 7 _ _ _ h, cell_of_row _ _ 8 _ _ _ h⟩, ⟨cell_of_row _ _ 9 _ _ _ h, cell_of_row _ _ 10 _ _ _ h, cell_of_row _ _ 11 _ _ _ h, cell_of_row _ _ 12 _ _ _ h⟩⟩

set_option maxRecDepth 100000 in
set_option maxHeartbeats 8000000 in
theorem least1_any (c : Cn) (need : Int) (F : Nat) (lb : Array Value) (bath cold : Int) (most cooling : Nat) (f : Int → Nat) (lo hi : Int) (mb B0 : Nat) (I : World → Prop) (x : Ck) (sb yb : Nat) (z0 z1 z2 z3 : Value) (w : World) (hR : RateOk F lb f lo hi mb B0 I) (hF : Fix I mb) (hv : c.V) (hG : Good c x.d) (hb : okT cold = true) (hn : cooling ≤ 2000) (hI : I w)
    (hsb : w.heap[sb]? = some (.cells #[.int .i64 (c.R : Int), .int .i64 (c.L : Int), .int .i64 c.A, .int .i64 c.B, .int .i64 c.K, .int .i64 c.A2, .int .i64 c.B2, .int .i64 need, .func (.func F) #[] lb, .int .i64 bath, .int .i64 (most : Nat), .int .i64 cold, .int .i64 (cooling : Nat)] 97 (0, 0))) (hyb : w.heap[yb]? = some (.cells #[z0, z1, z2, z3] 127 (0, 0))) (hat : CkAt yb x w) (hbc : lo ≤ cold ∧ cold ≤ hi) (hbd : ∀ t ∈ x.d.1.1, lo ≤ t ∧ t ≤ hi) :
    Calls Tryz.prog 101 #[.agg (ckc x), .pointer (some ⟨sb, 0, none⟩), .pointer (some ⟨yb, 0, none⟩)] w fun e w' =>
      (enD need (afN c f x.d cold cooling) = true ∧ e = .returned (.bool true) ∧ Below w.heap.size w w') ∨ (enD need (afN c f x.d cold cooling) = false ∧ e = .returned (.bool false) ∧ w'.heap[yb]? = some (.cells (ckc x) 127 (0, 0)) ∧ w.grownBy w' (some yb)) := by
  have HB := hid ((Below.refl _ w).alloc (Nat.le_refl _) (.cells (ckc x) 127))
  have HX := hid (heap_alloc_new w (.cells (ckc x) 127))
  have HSB := hid ((HB.out.block _ (lt_of_block hsb)).trans hsb)
  have HYB := hid ((HB.out.block _ (lt_of_block hyb)).trans hyb)
  have HST := hid (ssterile_any c need F lb bath cold most cooling f lo hi mb B0 I x.d x.ua x.ub x.uc x.ud _ hR hF hv hG hb hn (hR.below hI HB.out) (hat.temps.keep HB.out) (hat.sums.keep HB.out) hbc hbd)
  have hz := lt_of_block HX.out
  have hyz := lt_of_block hyb
  clear hR hF hv hG hb hn hI hat hbc hbd hsb hyb
  obtain ⟨⟨m0, m1, m2, m3, m4, m5, m6, m7, m8⟩, ⟨s0, s1, s2, s3⟩⟩ := sr_cells HSB.out
  have d0 := cell_of_row _ _ 0 _ _ _ HX.out
  have d1 := cell_of_row _ _ 1 _ _ _ HX.out
  have d2 := cell_of_row _ _ 2 _ _ _ HX.out
  simp only [ckc, List.getElem?_toArray, List.getElem?_cons_zero, List.getElem?_cons_succ] at d0 d1 d2
  generalize enD need (afN c f x.d cold cooling) = tst at *
  simp only [ckc] at *
  go_enter Tryz.func101, Tryz.ntmps101
  go_wp2_with fail
  refine HST.out.mono ?_
  rintro e w2 ⟨rfl, hb2⟩
  have HX2 := hid ((hb2.block _ (lt_of_block HX.out)).trans HX.out)
  have HY2 := hid ((hb2.block _ (lt_of_block HYB.out)).trans HYB.out)
  have HB2 := hid (bstep HB.out HB.out.size hb2)
  have hz2 := hb2.size
  clear hb2 m0 m1 m2 m3 m4 m5 m6 m7 m8 s0 s1 s2 s3 d0 d1 d2 HST HSB
  cases tst with
  | true =>
    go_wp2_with fail
    refine bodyPost_ret (v := .bool true) (by simp [results, Tryz.results101, go_sem]) rfl ⟨rfl, HB2.out⟩
  | false =>
    have d0 := cell_of_row _ _ 0 _ _ _ HX2.out
    have d1 := cell_of_row _ _ 1 _ _ _ HX2.out
    have d2 := cell_of_row _ _ 2 _ _ _ HX2.out
    have d3 := cell_of_row _ _ 3 _ _ _ HX2.out
    have y0 := cell_of_row _ _ 0 _ _ _ HY2.out
    have y1 := cell_of_row _ _ 1 _ _ _ HY2.out
    have y2 := cell_of_row _ _ 2 _ _ _ HY2.out
    have y3 := cell_of_row _ _ 3 _ _ _ HY2.out
    simp only [List.getElem?_toArray, List.getElem?_cons_zero, List.getElem?_cons_succ] at d0 d1 d2 d3 y0 y1 y2 y3
    have f0 := frozen_of_row _ _ 0 _ _ HY2.out
    have f1 := frozen_of_row _ _ 1 _ _ HY2.out
    have f2 := frozen_of_row _ _ 2 _ _ HY2.out
    have f3 := frozen_of_row _ _ 3 _ _ HY2.out
    have hzy := lt_of_block HY2.out
    go_wp2_with fail
    generalize hW : World.setCell _ ⟨yb, 3, none⟩ _ = W5
    obtain ⟨h5, e5, g5⟩ := set4w HY2.out hW
    have H5 := hid (And.intro h5 (Lt.grown_more (below_row HB2.out) g5 (fun j e => .inl (Option.some.inj e).symm)))
    refine bodyPost_ret (v := .bool false) (by simp [results, Tryz.results101, go_sem]) rfl ⟨rfl, H5.out.1, H5.out.2⟩

set_option maxRecDepth 100000 in
set_option maxHeartbeats 4000000 in
theorem cooks_any (c : Cn) (need : Int) (F : Nat) (lb : Array Value) (bath cold : Int) (most cooling : Nat) (more : Nat) (x : Ck) (w : World) :
    Calls Tryz.prog 105 #[.agg #[.int .i64 (c.R : Int), .int .i64 (c.L : Int), .int .i64 c.A, .int .i64 c.B, .int .i64 c.K, .int .i64 c.A2, .int .i64 c.B2, .int .i64 need, .func (.func F) #[] lb, .int .i64 bath, .int .i64 (most : Nat), .int .i64 cold, .int .i64 (cooling : Nat)], .agg (ckc x), .int .i64 (more : Nat)] w fun e w' => e = .returned (.func (.func 135) #[] #[.pointer (some ⟨w.heap.size + 1, 0, none⟩), .pointer (some ⟨w.heap.size, 0, none⟩), .pointer (some ⟨w.heap.size + 1 + 1, 0, none⟩)]) ∧
      w' = ((w.alloc (.cells #[.int .i64 (c.R : Int), .int .i64 (c.L : Int), .int .i64 c.A, .int .i64 c.B, .int .i64 c.K, .int .i64 c.A2, .int .i64 c.B2, .int .i64 need, .func (.func F) #[] lb, .int .i64 bath, .int .i64 (most : Nat), .int .i64 cold, .int .i64 (cooling : Nat)] 97)).alloc (.cells (ckc x) 127)).alloc (.cells #[.int .i64 (more : Nat)] 3) := by
  simp only [ckc]
  go_enter Tryz.func105, Tryz.ntmps105
  go_wp2_with fail
  refine bodyPost_ret (v := .func (.func 135) #[] #[.pointer (some ⟨w.heap.size + 1, 0, none⟩), .pointer (some ⟨w.heap.size, 0, none⟩), .pointer (some ⟨w.heap.size + 1 + 1, 0, none⟩)]) (by simp [results, Tryz.results105, go_sem]) rfl ⟨rfl, rfl⟩
end Go.Proofs.YtedfajokiblfhaaGreat
