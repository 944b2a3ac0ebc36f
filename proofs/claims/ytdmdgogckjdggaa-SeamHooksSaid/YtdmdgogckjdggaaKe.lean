/- Walk of SeamHooks. -/
import Derived.Test.YtdmdgogckjdggaaKd
import Derived.Deep.DeepCutAuto
namespace Go.Proofs.Ytdmdgogckjdggaa
open Go.RowKit

theorem hooks_plain {x y : Sh} (h1 : x.bh ≤ y.bh) (h2 : x.ch ≤ y.ch) (h3 : y.ht = x.ht) (h4 : y.ep = x.ep) (h5 : y.bp = x.bp) : ovT x / 10 ≤ ovT y / 10 ∧ pctT x ≤ pctT y := by
  have ho : ovT x ≤ ovT y := by unfold ovT; omega
  exact ⟨Int.ediv_le_ediv (by omega) ho, pct_mono (by unfold roomT; omega) ho⟩
theorem boxS_of {W : World} {b : Nat} {x : Sh} {T : TypeId} (h : W.heap[b]? = some (.cells #[.int .i64 x.tk, .int .i64 x.hd, .int .i64 x.bh, .int .i64 x.ch, .int .i64 x.ht, .int .i64 x.ep, .int .i64 x.bp, .int .i64 x.wr, .int .i64 x.th, .int .i64 x.cs] T (0, 0))) : BoxS W b x := ⟨cell_of_row _ _ 0 _ _ _ h, cell_of_row _ _ 1 _ _ _ h, cell_of_row _ _ 2 _ _ _ h, cell_of_row _ _ 3 _ _ _ h, cell_of_row _ _ 4 _ _ _ h, cell_of_row _ _ 5 _ _ _ h, cell_of_row _ _ 6 _ _ _ h, cell_of_row _ _ 7 _ _ _ h, cell_of_row _ _ 8 _ _ _ h, cell_of_row _ _ 9 _ _ _ h⟩
/-- Two boxes, one behind the other, in a world that is w but for what is new. -/
structure TwoH (w W : World) (cx cy : Array Value) : Prop where
  a : W.heap[w.heap.size]? = some (.cells cx 28 (0, 0))
  b : W.heap[w.heap.size + 1]? = some (.cells cy 28 (0, 0))
  low : Below w.heap.size w W
theorem two_start (w : World) (c d : Array Value) : TwoH w ((w.alloc (.cells c 28)).alloc (.cells d 28)) c d := by
  have ha := heap_alloc_new w (.cells c 28)
  have hb := heap_alloc_new (w.alloc (.cells c 28)) (.cells d 28)
  rw [show (w.alloc (.cells c 28)).heap.size = w.heap.size + 1 by simp] at hb
  exact ⟨(Below.heap_alloc _ _ _ (Array.getElem?_eq_some_iff.1 ha).1).trans ha, hb, ((Below.refl _ _).alloc (Nat.le_refl _) _).alloc (by simp) _⟩
theorem TwoH.set {w W : World} {cx cy : Array Value} (h : TwoH w W cx cy) (j : Nat) (u : Value) : TwoH w (W.setCell ⟨w.heap.size + 1, j, none⟩ u) cx (cy.setIfInBounds j u) :=
  ⟨(heap_setCell_other _ _ _ _ (by simp)).trans h.a, heap_setCell_same _ _ _ _ _ _ h.b, h.low.setCell (p := ⟨w.heap.size + 1, j, none⟩) (Nat.le_succ _) _⟩
theorem block_lt {W : World} {b : Nat} {o : Obj} (h : W.heap[b]? = some o) : b < W.heap.size := (Array.getElem?_eq_some_iff.1 h).1
theorem TwoH.keep {w W w2 : World} {cx cy : Array Value} (h : TwoH w W cx cy) (hb : Below W.heap.size W w2) : TwoH w w2 cx cy :=
  ⟨(hb.block _ (block_lt h.a)).trans h.a, (hb.block _ (block_lt h.b)).trans h.b, bstep h.low h.low.size hb⟩
set_option maxRecDepth 20000 in
set_option maxHeartbeats 8000000 in
theorem hooks_walk (x : Sh) (body cover : Int) (w : World) :
    Calls Try.prog 5 #[.agg #[.int .i64 x.tk, .int .i64 x.hd, .int .i64 x.bh, .int .i64 x.ch, .int .i64 x.ht, .int .i64 x.ep, .int .i64 x.bp, .int .i64 x.wr, .int .i64 x.th, .int .i64 x.cs], .int .i64 body, .int .i64 cover] w fun e w' => e = .returned (.bool true) ∧ Below w.heap.size w w' := by
  cases hx : shB x
  · have HX := hid hx
    clear hx
    rcases (show (0 < body ∧ body ≤ 20000) ∨ ¬ 0 < body ∨ (0 < body ∧ ¬ body ≤ 20000) by omega) with ⟨h1, h2⟩ | h1 | ⟨h1, h2⟩ <;> rcases (show (0 < cover ∧ cover ≤ 20000) ∨ ¬ 0 < cover ∨ (0 < cover ∧ ¬ cover ≤ 20000) by omega) with ⟨h3, h4⟩ | h3 | ⟨h3, h4⟩
    all_goals
      go_enter Try.func5, Try.ntmps5
      go_upto_region 6 with (fail)
      generalize hW : World.alloc (World.alloc w _) _ = W
      have HT := hid (show ∃ cy, TwoH w W #[.int .i64 x.tk, .int .i64 x.hd, .int .i64 x.bh, .int .i64 x.ch, .int .i64 x.ht, .int .i64 x.ep, .int .i64 x.bp, .int .i64 x.wr, .int .i64 x.th, .int .i64 x.cs] cy by rw [← hW]; exact ⟨_, two_start w _ _⟩)
      clear hW
      obtain ⟨cy, HT2⟩ := HT.out
      have HT3 := hid HT2
      obtain ⟨b0, b1, b2, b3, b4, b5, b6, b7, b8, b9⟩ := boxS_of HT2.a
      clear HT HT2
      go_wp2_with fail
      refine (kxsheet_any x _).mono ?_
      rintro e w1 ⟨rfl, hb⟩
      rw [HX.out]
      have HB1 := hid (HT3.out.keep hb).low
      clear hb
      go_wp2_with fail
      refine (kawake_any _).mono ?_
      rintro e w2 ⟨rfl, hb⟩
      have HB2 := hid (bstep HB1.out HB1.out.size hb)
      clear hb
      go_wp2_with fail
      go_ret
      exact ⟨rfl, HB2.out⟩
  · have HX := hid hx
    obtain ⟨_, _, _, _, _, ⟨q1, q2⟩, ⟨q3, q4⟩, _, _, _⟩ := shB_iff.1 hx
    clear hx
    rcases (show (0 < body ∧ body ≤ 20000) ∨ ¬ 0 < body ∨ (0 < body ∧ ¬ body ≤ 20000) by omega) with ⟨h1, h2⟩ | h1 | ⟨h1, h2⟩ <;> rcases (show (0 < cover ∧ cover ≤ 20000) ∨ ¬ 0 < cover ∨ (0 < cover ∧ ¬ cover ≤ 20000) by omega) with ⟨h3, h4⟩ | h3 | ⟨h3, h4⟩
    · obtain ⟨y, hy⟩ : ∃ y : Sh, y = ⟨x.tk, x.hd, x.bh + body, x.ch + cover, x.ht, x.ep, x.bp, x.wr, x.th, x.cs⟩ := ⟨_, rfl⟩
      obtain ⟨hq1, hq2⟩ := hooks_plain (x := x) (y := y) (by rw [hy]; simp only; omega) (by rw [hy]; simp only; omega) (by rw [hy]) (by rw [hy]) (by rw [hy])
      have HQ1 := hid hq1
      have HQ2 := hid hq2
      clear hq1 hq2
      go_enter Try.func5, Try.ntmps5
      go_upto_region 6 with (fail)
      generalize hW : World.alloc (World.alloc w _) _ = W
      have HT3 := hid (show TwoH w W #[.int .i64 x.tk, .int .i64 x.hd, .int .i64 x.bh, .int .i64 x.ch, .int .i64 x.ht, .int .i64 x.ep, .int .i64 x.bp, .int .i64 x.wr, .int .i64 x.th, .int .i64 x.cs] #[.int .i64 y.tk, .int .i64 y.hd, .int .i64 y.bh, .int .i64 y.ch, .int .i64 y.ht, .int .i64 y.ep, .int .i64 y.bp, .int .i64 y.wr, .int .i64 y.th, .int .i64 y.cs] by rw [← hW, hy]; exact two_start w _ _)
      clear hW hy
      have HTX := hid (fun W2 (h : Below W.heap.size W W2) => HT3.out.keep h)
      obtain ⟨b0, b1, b2, b3, b4, b5, b6, b7, b8, b9⟩ := boxS_of HT3.out.a
      go_wp2_with fail
      refine (kxsheet_any x _).mono ?_
      rintro e w1 ⟨rfl, hb⟩
      rw [HX.out]
      have HTA := hid (HTX.out _ hb)
      clear hb b0 b1 b2 b3 b4 b5 b6 b7 b8 b9
      obtain ⟨c0, c1, c2, c3, c4, c5, c6, c7, c8, c9⟩ := boxS_of HTA.out.b
      cases hyv : shB y
      · have HYV := hid hyv
        clear hyv
        go_wp2_with fail
        refine (kxsheet_any y _).mono ?_
        rintro e w2 ⟨rfl, hb⟩
        rw [HYV.out]
        have HB1 := hid (HTA.out.keep hb).low
        clear hb
        go_wp2_with fail
        refine (kawake_any _).mono ?_
        rintro e w2 ⟨rfl, hb⟩
        have HB2 := hid (bstep HB1.out HB1.out.size hb)
        clear hb
        go_wp2_with fail
        go_ret
        exact ⟨rfl, HB2.out⟩
      · have HYV := hid hyv
        clear hyv
        go_wp2_with fail
        refine (kxsheet_any y _).mono ?_
        rintro e w2 ⟨rfl, hb⟩
        rw [HYV.out]
        have HTB := hid (HTA.out.keep hb)
        clear hb c0 c1 c2 c3 c4 c5 c6 c7 c8 c9
        obtain ⟨b0, b1, b2, b3, b4, b5, b6, b7, b8, b9⟩ := boxS_of HTB.out.a
        go_wp2_with fail
        refine (koverl_ok x _ HX.out).mono ?_
        rintro e w3 ⟨rfl, hb⟩
        have HTC := hid (HTB.out.keep hb)
        clear hb b0 b1 b2 b3 b4 b5 b6 b7 b8 b9
        obtain ⟨c0, c1, c2, c3, c4, c5, c6, c7, c8, c9⟩ := boxS_of HTC.out.b
        go_wp2_with fail
        refine (koverl_ok y _ HYV.out).mono ?_
        rintro e w4 ⟨rfl, hb⟩
        have HTD := hid (HTC.out.keep hb)
        clear hb c0 c1 c2 c3 c4 c5 c6 c7 c8 c9
        obtain ⟨b0, b1, b2, b3, b4, b5, b6, b7, b8, b9⟩ := boxS_of HTD.out.a
        go_wp2_with fail
        refine (kperc_ok x _ HX.out).mono ?_
        rintro e w5 ⟨rfl, hb⟩
        have HTE := hid (HTD.out.keep hb)
        clear hb b0 b1 b2 b3 b4 b5 b6 b7 b8 b9
        obtain ⟨c0, c1, c2, c3, c4, c5, c6, c7, c8, c9⟩ := boxS_of HTE.out.b
        go_wp2_with fail
        refine (kperc_ok y _ HYV.out).mono ?_
        rintro e w6 ⟨rfl, hb⟩
        have HB6 := hid (HTE.out.keep hb).low
        clear hb c0 c1 c2 c3 c4 c5 c6 c7 c8 c9
        have hq1 := HQ1.out
        have hq2 := HQ2.out
        generalize ovT x / 10 = o1 at *
        generalize ovT y / 10 = o2 at *
        generalize pctT x = o3 at *
        generalize pctT y = o4 at *
        go_wp2_with fail
        refine (kawake_any _).mono ?_
        rintro e w7 ⟨rfl, hb⟩
        have HB7 := hid (bstep HB6.out HB6.out.size hb)
        clear hb
        go_wp2_with fail
        go_ret
        exact ⟨rfl, HB7.out⟩
    · obtain ⟨y, hy⟩ : ∃ y : Sh, y = ⟨x.tk, x.hd, x.bh + body, x.ch, x.ht, x.ep, x.bp, x.wr, x.th, x.cs⟩ := ⟨_, rfl⟩
      obtain ⟨hq1, hq2⟩ := hooks_plain (x := x) (y := y) (by rw [hy]; simp only; omega) (by rw [hy]; simp only; omega) (by rw [hy]) (by rw [hy]) (by rw [hy])
      have HQ1 := hid hq1
      have HQ2 := hid hq2
      clear hq1 hq2
      go_enter Try.func5, Try.ntmps5
      go_upto_region 6 with (fail)
      generalize hW : World.alloc (World.alloc w _) _ = W
      have HT3 := hid (show TwoH w W #[.int .i64 x.tk, .int .i64 x.hd, .int .i64 x.bh, .int .i64 x.ch, .int .i64 x.ht, .int .i64 x.ep, .int .i64 x.bp, .int .i64 x.wr, .int .i64 x.th, .int .i64 x.cs] #[.int .i64 y.tk, .int .i64 y.hd, .int .i64 y.bh, .int .i64 y.ch, .int .i64 y.ht, .int .i64 y.ep, .int .i64 y.bp, .int .i64 y.wr, .int .i64 y.th, .int .i64 y.cs] by rw [← hW, hy]; exact two_start w _ _)
      clear hW hy
      have HTX := hid (fun W2 (h : Below W.heap.size W W2) => HT3.out.keep h)
      obtain ⟨b0, b1, b2, b3, b4, b5, b6, b7, b8, b9⟩ := boxS_of HT3.out.a
      go_wp2_with fail
      refine (kxsheet_any x _).mono ?_
      rintro e w1 ⟨rfl, hb⟩
      rw [HX.out]
      have HTA := hid (HTX.out _ hb)
      clear hb b0 b1 b2 b3 b4 b5 b6 b7 b8 b9
      obtain ⟨c0, c1, c2, c3, c4, c5, c6, c7, c8, c9⟩ := boxS_of HTA.out.b
      cases hyv : shB y
      · have HYV := hid hyv
        clear hyv
        go_wp2_with fail
        refine (kxsheet_any y _).mono ?_
        rintro e w2 ⟨rfl, hb⟩
        rw [HYV.out]
        have HB1 := hid (HTA.out.keep hb).low
        clear hb
        go_wp2_with fail
        refine (kawake_any _).mono ?_
        rintro e w2 ⟨rfl, hb⟩
        have HB2 := hid (bstep HB1.out HB1.out.size hb)
        clear hb
        go_wp2_with fail
        go_ret
        exact ⟨rfl, HB2.out⟩
      · have HYV := hid hyv
        clear hyv
        go_wp2_with fail
        refine (kxsheet_any y _).mono ?_
        rintro e w2 ⟨rfl, hb⟩
        rw [HYV.out]
        have HTB := hid (HTA.out.keep hb)
        clear hb c0 c1 c2 c3 c4 c5 c6 c7 c8 c9
        obtain ⟨b0, b1, b2, b3, b4, b5, b6, b7, b8, b9⟩ := boxS_of HTB.out.a
        go_wp2_with fail
        refine (koverl_ok x _ HX.out).mono ?_
        rintro e w3 ⟨rfl, hb⟩
        have HTC := hid (HTB.out.keep hb)
        clear hb b0 b1 b2 b3 b4 b5 b6 b7 b8 b9
        obtain ⟨c0, c1, c2, c3, c4, c5, c6, c7, c8, c9⟩ := boxS_of HTC.out.b
        go_wp2_with fail
        refine (koverl_ok y _ HYV.out).mono ?_
        rintro e w4 ⟨rfl, hb⟩
        have HTD := hid (HTC.out.keep hb)
        clear hb c0 c1 c2 c3 c4 c5 c6 c7 c8 c9
        obtain ⟨b0, b1, b2, b3, b4, b5, b6, b7, b8, b9⟩ := boxS_of HTD.out.a
        go_wp2_with fail
        refine (kperc_ok x _ HX.out).mono ?_
        rintro e w5 ⟨rfl, hb⟩
        have HTE := hid (HTD.out.keep hb)
        clear hb b0 b1 b2 b3 b4 b5 b6 b7 b8 b9
        obtain ⟨c0, c1, c2, c3, c4, c5, c6, c7, c8, c9⟩ := boxS_of HTE.out.b
        go_wp2_with fail
        refine (kperc_ok y _ HYV.out).mono ?_
        rintro e w6 ⟨rfl, hb⟩
        have HB6 := hid (HTE.out.keep hb).low
        clear hb c0 c1 c2 c3 c4 c5 c6 c7 c8 c9
        have hq1 := HQ1.out
        have hq2 := HQ2.out
        generalize ovT x / 10 = o1 at *
        generalize ovT y / 10 = o2 at *
        generalize pctT x = o3 at *
        generalize pctT y = o4 at *
        go_wp2_with fail
        refine (kawake_any _).mono ?_
        rintro e w7 ⟨rfl, hb⟩
        have HB7 := hid (bstep HB6.out HB6.out.size hb)
        clear hb
        go_wp2_with fail
        go_ret
        exact ⟨rfl, HB7.out⟩
    · obtain ⟨y, hy⟩ : ∃ y : Sh, y = ⟨x.tk, x.hd, x.bh + body, x.ch, x.ht, x.ep, x.bp, x.wr, x.th, x.cs⟩ := ⟨_, rfl⟩
      obtain ⟨hq1, hq2⟩ := hooks_plain (x := x) (y := y) (by rw [hy]; simp only; omega) (by rw [hy]; simp only; omega) (by rw [hy]) (by rw [hy]) (by rw [hy])
      have HQ1 := hid hq1
      have HQ2 := hid hq2
      clear hq1 hq2
      go_enter Try.func5, Try.ntmps5
      go_upto_region 6 with (fail)
      generalize hW : World.alloc (World.alloc w _) _ = W
      have HT3 := hid (show TwoH w W #[.int .i64 x.tk, .int .i64 x.hd, .int .i64 x.bh, .int .i64 x.ch, .int .i64 x.ht, .int .i64 x.ep, .int .i64 x.bp, .int .i64 x.wr, .int .i64 x.th, .int .i64 x.cs] #[.int .i64 y.tk, .int .i64 y.hd, .int .i64 y.bh, .int .i64 y.ch, .int .i64 y.ht, .int .i64 y.ep, .int .i64 y.bp, .int .i64 y.wr, .int .i64 y.th, .int .i64 y.cs] by rw [← hW, hy]; exact two_start w _ _)
      clear hW hy
      have HTX := hid (fun W2 (h : Below W.heap.size W W2) => HT3.out.keep h)
      obtain ⟨b0, b1, b2, b3, b4, b5, b6, b7, b8, b9⟩ := boxS_of HT3.out.a
      go_wp2_with fail
      refine (kxsheet_any x _).mono ?_
      rintro e w1 ⟨rfl, hb⟩
      rw [HX.out]
      have HTA := hid (HTX.out _ hb)
      clear hb b0 b1 b2 b3 b4 b5 b6 b7 b8 b9
      obtain ⟨c0, c1, c2, c3, c4, c5, c6, c7, c8, c9⟩ := boxS_of HTA.out.b
      cases hyv : shB y
      · have HYV := hid hyv
        clear hyv
        go_wp2_with fail
        refine (kxsheet_any y _).mono ?_
        rintro e w2 ⟨rfl, hb⟩
        rw [HYV.out]
        have HB1 := hid (HTA.out.keep hb).low
        clear hb
        go_wp2_with fail
        refine (kawake_any _).mono ?_
        rintro e w2 ⟨rfl, hb⟩
        have HB2 := hid (bstep HB1.out HB1.out.size hb)
        clear hb
        go_wp2_with fail
        go_ret
        exact ⟨rfl, HB2.out⟩
      · have HYV := hid hyv
        clear hyv
        go_wp2_with fail
        refine (kxsheet_any y _).mono ?_
        rintro e w2 ⟨rfl, hb⟩
        rw [HYV.out]
        have HTB := hid (HTA.out.keep hb)
        clear hb c0 c1 c2 c3 c4 c5 c6 c7 c8 c9
        obtain ⟨b0, b1, b2, b3, b4, b5, b6, b7, b8, b9⟩ := boxS_of HTB.out.a
        go_wp2_with fail
        refine (koverl_ok x _ HX.out).mono ?_
        rintro e w3 ⟨rfl, hb⟩
        have HTC := hid (HTB.out.keep hb)
        clear hb b0 b1 b2 b3 b4 b5 b6 b7 b8 b9
        obtain ⟨c0, c1, c2, c3, c4, c5, c6, c7, c8, c9⟩ := boxS_of HTC.out.b
        go_wp2_with fail
        refine (koverl_ok y _ HYV.out).mono ?_
        rintro e w4 ⟨rfl, hb⟩
        have HTD := hid (HTC.out.keep hb)
        clear hb c0 c1 c2 c3 c4 c5 c6 c7 c8 c9
        obtain ⟨b0, b1, b2, b3, b4, b5, b6, b7, b8, b9⟩ := boxS_of HTD.out.a
        go_wp2_with fail
        refine (kperc_ok x _ HX.out).mono ?_
        rintro e w5 ⟨rfl, hb⟩
        have HTE := hid (HTD.out.keep hb)
        clear hb b0 b1 b2 b3 b4 b5 b6 b7 b8 b9
        obtain ⟨c0, c1, c2, c3, c4, c5, c6, c7, c8, c9⟩ := boxS_of HTE.out.b
        go_wp2_with fail
        refine (kperc_ok y _ HYV.out).mono ?_
        rintro e w6 ⟨rfl, hb⟩
        have HB6 := hid (HTE.out.keep hb).low
        clear hb c0 c1 c2 c3 c4 c5 c6 c7 c8 c9
        have hq1 := HQ1.out
        have hq2 := HQ2.out
        generalize ovT x / 10 = o1 at *
        generalize ovT y / 10 = o2 at *
        generalize pctT x = o3 at *
        generalize pctT y = o4 at *
        go_wp2_with fail
        refine (kawake_any _).mono ?_
        rintro e w7 ⟨rfl, hb⟩
        have HB7 := hid (bstep HB6.out HB6.out.size hb)
        clear hb
        go_wp2_with fail
        go_ret
        exact ⟨rfl, HB7.out⟩
    · obtain ⟨y, hy⟩ : ∃ y : Sh, y = ⟨x.tk, x.hd, x.bh, x.ch + cover, x.ht, x.ep, x.bp, x.wr, x.th, x.cs⟩ := ⟨_, rfl⟩
      obtain ⟨hq1, hq2⟩ := hooks_plain (x := x) (y := y) (by rw [hy]; simp only; omega) (by rw [hy]; simp only; omega) (by rw [hy]) (by rw [hy]) (by rw [hy])
      have HQ1 := hid hq1
      have HQ2 := hid hq2
      clear hq1 hq2
      go_enter Try.func5, Try.ntmps5
      go_upto_region 6 with (fail)
      generalize hW : World.alloc (World.alloc w _) _ = W
      have HT3 := hid (show TwoH w W #[.int .i64 x.tk, .int .i64 x.hd, .int .i64 x.bh, .int .i64 x.ch, .int .i64 x.ht, .int .i64 x.ep, .int .i64 x.bp, .int .i64 x.wr, .int .i64 x.th, .int .i64 x.cs] #[.int .i64 y.tk, .int .i64 y.hd, .int .i64 y.bh, .int .i64 y.ch, .int .i64 y.ht, .int .i64 y.ep, .int .i64 y.bp, .int .i64 y.wr, .int .i64 y.th, .int .i64 y.cs] by rw [← hW, hy]; exact two_start w _ _)
      clear hW hy
      have HTX := hid (fun W2 (h : Below W.heap.size W W2) => HT3.out.keep h)
      obtain ⟨b0, b1, b2, b3, b4, b5, b6, b7, b8, b9⟩ := boxS_of HT3.out.a
      go_wp2_with fail
      refine (kxsheet_any x _).mono ?_
      rintro e w1 ⟨rfl, hb⟩
      rw [HX.out]
      have HTA := hid (HTX.out _ hb)
      clear hb b0 b1 b2 b3 b4 b5 b6 b7 b8 b9
      obtain ⟨c0, c1, c2, c3, c4, c5, c6, c7, c8, c9⟩ := boxS_of HTA.out.b
      cases hyv : shB y
      · have HYV := hid hyv
        clear hyv
        go_wp2_with fail
        refine (kxsheet_any y _).mono ?_
        rintro e w2 ⟨rfl, hb⟩
        rw [HYV.out]
        have HB1 := hid (HTA.out.keep hb).low
        clear hb
        go_wp2_with fail
        refine (kawake_any _).mono ?_
        rintro e w2 ⟨rfl, hb⟩
        have HB2 := hid (bstep HB1.out HB1.out.size hb)
        clear hb
        go_wp2_with fail
        go_ret
        exact ⟨rfl, HB2.out⟩
      · have HYV := hid hyv
        clear hyv
        go_wp2_with fail
        refine (kxsheet_any y _).mono ?_
        rintro e w2 ⟨rfl, hb⟩
        rw [HYV.out]
        have HTB := hid (HTA.out.keep hb)
        clear hb c0 c1 c2 c3 c4 c5 c6 c7 c8 c9
        obtain ⟨b0, b1, b2, b3, b4, b5, b6, b7, b8, b9⟩ := boxS_of HTB.out.a
        go_wp2_with fail
        refine (koverl_ok x _ HX.out).mono ?_
        rintro e w3 ⟨rfl, hb⟩
        have HTC := hid (HTB.out.keep hb)
        clear hb b0 b1 b2 b3 b4 b5 b6 b7 b8 b9
        obtain ⟨c0, c1, c2, c3, c4, c5, c6, c7, c8, c9⟩ := boxS_of HTC.out.b
        go_wp2_with fail
        refine (koverl_ok y _ HYV.out).mono ?_
        rintro e w4 ⟨rfl, hb⟩
        have HTD := hid (HTC.out.keep hb)
        clear hb c0 c1 c2 c3 c4 c5 c6 c7 c8 c9
        obtain ⟨b0, b1, b2, b3, b4, b5, b6, b7, b8, b9⟩ := boxS_of HTD.out.a
        go_wp2_with fail
        refine (kperc_ok x _ HX.out).mono ?_
        rintro e w5 ⟨rfl, hb⟩
        have HTE := hid (HTD.out.keep hb)
        clear hb b0 b1 b2 b3 b4 b5 b6 b7 b8 b9
        obtain ⟨c0, c1, c2, c3, c4, c5, c6, c7, c8, c9⟩ := boxS_of HTE.out.b
        go_wp2_with fail
        refine (kperc_ok y _ HYV.out).mono ?_
        rintro e w6 ⟨rfl, hb⟩
        have HB6 := hid (HTE.out.keep hb).low
        clear hb c0 c1 c2 c3 c4 c5 c6 c7 c8 c9
        have hq1 := HQ1.out
        have hq2 := HQ2.out
        generalize ovT x / 10 = o1 at *
        generalize ovT y / 10 = o2 at *
        generalize pctT x = o3 at *
        generalize pctT y = o4 at *
        go_wp2_with fail
        refine (kawake_any _).mono ?_
        rintro e w7 ⟨rfl, hb⟩
        have HB7 := hid (bstep HB6.out HB6.out.size hb)
        clear hb
        go_wp2_with fail
        go_ret
        exact ⟨rfl, HB7.out⟩
    · obtain ⟨y, hy⟩ : ∃ y : Sh, y = ⟨x.tk, x.hd, x.bh, x.ch, x.ht, x.ep, x.bp, x.wr, x.th, x.cs⟩ := ⟨_, rfl⟩
      obtain ⟨hq1, hq2⟩ := hooks_plain (x := x) (y := y) (by rw [hy]; simp only; omega) (by rw [hy]; simp only; omega) (by rw [hy]) (by rw [hy]) (by rw [hy])
      have HQ1 := hid hq1
      have HQ2 := hid hq2
      clear hq1 hq2
      go_enter Try.func5, Try.ntmps5
      go_upto_region 6 with (fail)
      generalize hW : World.alloc (World.alloc w _) _ = W
      have HT3 := hid (show TwoH w W #[.int .i64 x.tk, .int .i64 x.hd, .int .i64 x.bh, .int .i64 x.ch, .int .i64 x.ht, .int .i64 x.ep, .int .i64 x.bp, .int .i64 x.wr, .int .i64 x.th, .int .i64 x.cs] #[.int .i64 y.tk, .int .i64 y.hd, .int .i64 y.bh, .int .i64 y.ch, .int .i64 y.ht, .int .i64 y.ep, .int .i64 y.bp, .int .i64 y.wr, .int .i64 y.th, .int .i64 y.cs] by rw [← hW, hy]; exact two_start w _ _)
      clear hW hy
      have HTX := hid (fun W2 (h : Below W.heap.size W W2) => HT3.out.keep h)
      obtain ⟨b0, b1, b2, b3, b4, b5, b6, b7, b8, b9⟩ := boxS_of HT3.out.a
      go_wp2_with fail
      refine (kxsheet_any x _).mono ?_
      rintro e w1 ⟨rfl, hb⟩
      rw [HX.out]
      have HTA := hid (HTX.out _ hb)
      clear hb b0 b1 b2 b3 b4 b5 b6 b7 b8 b9
      obtain ⟨c0, c1, c2, c3, c4, c5, c6, c7, c8, c9⟩ := boxS_of HTA.out.b
      cases hyv : shB y
      · have HYV := hid hyv
        clear hyv
        go_wp2_with fail
        refine (kxsheet_any y _).mono ?_
        rintro e w2 ⟨rfl, hb⟩
        rw [HYV.out]
        have HB1 := hid (HTA.out.keep hb).low
        clear hb
        go_wp2_with fail
        refine (kawake_any _).mono ?_
        rintro e w2 ⟨rfl, hb⟩
        have HB2 := hid (bstep HB1.out HB1.out.size hb)
        clear hb
        go_wp2_with fail
        go_ret
        exact ⟨rfl, HB2.out⟩
      · have HYV := hid hyv
        clear hyv
        go_wp2_with fail
        refine (kxsheet_any y _).mono ?_
        rintro e w2 ⟨rfl, hb⟩
        rw [HYV.out]
        have HTB := hid (HTA.out.keep hb)
        clear hb c0 c1 c2 c3 c4 c5 c6 c7 c8 c9
        obtain ⟨b0, b1, b2, b3, b4, b5, b6, b7, b8, b9⟩ := boxS_of HTB.out.a
        go_wp2_with fail
        refine (koverl_ok x _ HX.out).mono ?_
        rintro e w3 ⟨rfl, hb⟩
        have HTC := hid (HTB.out.keep hb)
        clear hb b0 b1 b2 b3 b4 b5 b6 b7 b8 b9
        obtain ⟨c0, c1, c2, c3, c4, c5, c6, c7, c8, c9⟩ := boxS_of HTC.out.b
        go_wp2_with fail
        refine (koverl_ok y _ HYV.out).mono ?_
        rintro e w4 ⟨rfl, hb⟩
        have HTD := hid (HTC.out.keep hb)
        clear hb c0 c1 c2 c3 c4 c5 c6 c7 c8 c9
        obtain ⟨b0, b1, b2, b3, b4, b5, b6, b7, b8, b9⟩ := boxS_of HTD.out.a
        go_wp2_with fail
        refine (kperc_ok x _ HX.out).mono ?_
        rintro e w5 ⟨rfl, hb⟩
        have HTE := hid (HTD.out.keep hb)
        clear hb b0 b1 b2 b3 b4 b5 b6 b7 b8 b9
        obtain ⟨c0, c1, c2, c3, c4, c5, c6, c7, c8, c9⟩ := boxS_of HTE.out.b
        go_wp2_with fail
        refine (kperc_ok y _ HYV.out).mono ?_
        rintro e w6 ⟨rfl, hb⟩
        have HB6 := hid (HTE.out.keep hb).low
        clear hb c0 c1 c2 c3 c4 c5 c6 c7 c8 c9
        have hq1 := HQ1.out
        have hq2 := HQ2.out
        generalize ovT x / 10 = o1 at *
        generalize ovT y / 10 = o2 at *
        generalize pctT x = o3 at *
        generalize pctT y = o4 at *
        go_wp2_with fail
        refine (kawake_any _).mono ?_
        rintro e w7 ⟨rfl, hb⟩
        have HB7 := hid (bstep HB6.out HB6.out.size hb)
        clear hb
        go_wp2_with fail
        go_ret
        exact ⟨rfl, HB7.out⟩
    · obtain ⟨y, hy⟩ : ∃ y : Sh, y = ⟨x.tk, x.hd, x.bh, x.ch, x.ht, x.ep, x.bp, x.wr, x.th, x.cs⟩ := ⟨_, rfl⟩
      obtain ⟨hq1, hq2⟩ := hooks_plain (x := x) (y := y) (by rw [hy]; simp only; omega) (by rw [hy]; simp only; omega) (by rw [hy]) (by rw [hy]) (by rw [hy])
      have HQ1 := hid hq1
      have HQ2 := hid hq2
      clear hq1 hq2
      go_enter Try.func5, Try.ntmps5
      go_upto_region 6 with (fail)
      generalize hW : World.alloc (World.alloc w _) _ = W
      have HT3 := hid (show TwoH w W #[.int .i64 x.tk, .int .i64 x.hd, .int .i64 x.bh, .int .i64 x.ch, .int .i64 x.ht, .int .i64 x.ep, .int .i64 x.bp, .int .i64 x.wr, .int .i64 x.th, .int .i64 x.cs] #[.int .i64 y.tk, .int .i64 y.hd, .int .i64 y.bh, .int .i64 y.ch, .int .i64 y.ht, .int .i64 y.ep, .int .i64 y.bp, .int .i64 y.wr, .int .i64 y.th, .int .i64 y.cs] by rw [← hW, hy]; exact two_start w _ _)
      clear hW hy
      have HTX := hid (fun W2 (h : Below W.heap.size W W2) => HT3.out.keep h)
      obtain ⟨b0, b1, b2, b3, b4, b5, b6, b7, b8, b9⟩ := boxS_of HT3.out.a
      go_wp2_with fail
      refine (kxsheet_any x _).mono ?_
      rintro e w1 ⟨rfl, hb⟩
      rw [HX.out]
      have HTA := hid (HTX.out _ hb)
      clear hb b0 b1 b2 b3 b4 b5 b6 b7 b8 b9
      obtain ⟨c0, c1, c2, c3, c4, c5, c6, c7, c8, c9⟩ := boxS_of HTA.out.b
      cases hyv : shB y
      · have HYV := hid hyv
        clear hyv
        go_wp2_with fail
        refine (kxsheet_any y _).mono ?_
        rintro e w2 ⟨rfl, hb⟩
        rw [HYV.out]
        have HB1 := hid (HTA.out.keep hb).low
        clear hb
        go_wp2_with fail
        refine (kawake_any _).mono ?_
        rintro e w2 ⟨rfl, hb⟩
        have HB2 := hid (bstep HB1.out HB1.out.size hb)
        clear hb
        go_wp2_with fail
        go_ret
        exact ⟨rfl, HB2.out⟩
      · have HYV := hid hyv
        clear hyv
        go_wp2_with fail
        refine (kxsheet_any y _).mono ?_
        rintro e w2 ⟨rfl, hb⟩
        rw [HYV.out]
        have HTB := hid (HTA.out.keep hb)
        clear hb c0 c1 c2 c3 c4 c5 c6 c7 c8 c9
        obtain ⟨b0, b1, b2, b3, b4, b5, b6, b7, b8, b9⟩ := boxS_of HTB.out.a
        go_wp2_with fail
        refine (koverl_ok x _ HX.out).mono ?_
        rintro e w3 ⟨rfl, hb⟩
        have HTC := hid (HTB.out.keep hb)
        clear hb b0 b1 b2 b3 b4 b5 b6 b7 b8 b9
        obtain ⟨c0, c1, c2, c3, c4, c5, c6, c7, c8, c9⟩ := boxS_of HTC.out.b
        go_wp2_with fail
        refine (koverl_ok y _ HYV.out).mono ?_
        rintro e w4 ⟨rfl, hb⟩
        have HTD := hid (HTC.out.keep hb)
        clear hb c0 c1 c2 c3 c4 c5 c6 c7 c8 c9
        obtain ⟨b0, b1, b2, b3, b4, b5, b6, b7, b8, b9⟩ := boxS_of HTD.out.a
        go_wp2_with fail
        refine (kperc_ok x _ HX.out).mono ?_
        rintro e w5 ⟨rfl, hb⟩
        have HTE := hid (HTD.out.keep hb)
        clear hb b0 b1 b2 b3 b4 b5 b6 b7 b8 b9
        obtain ⟨c0, c1, c2, c3, c4, c5, c6, c7, c8, c9⟩ := boxS_of HTE.out.b
        go_wp2_with fail
        refine (kperc_ok y _ HYV.out).mono ?_
        rintro e w6 ⟨rfl, hb⟩
        have HB6 := hid (HTE.out.keep hb).low
        clear hb c0 c1 c2 c3 c4 c5 c6 c7 c8 c9
        have hq1 := HQ1.out
        have hq2 := HQ2.out
        generalize ovT x / 10 = o1 at *
        generalize ovT y / 10 = o2 at *
        generalize pctT x = o3 at *
        generalize pctT y = o4 at *
        go_wp2_with fail
        refine (kawake_any _).mono ?_
        rintro e w7 ⟨rfl, hb⟩
        have HB7 := hid (bstep HB6.out HB6.out.size hb)
        clear hb
        go_wp2_with fail
        go_ret
        exact ⟨rfl, HB7.out⟩
    · obtain ⟨y, hy⟩ : ∃ y : Sh, y = ⟨x.tk, x.hd, x.bh, x.ch + cover, x.ht, x.ep, x.bp, x.wr, x.th, x.cs⟩ := ⟨_, rfl⟩
      obtain ⟨hq1, hq2⟩ := hooks_plain (x := x) (y := y) (by rw [hy]; simp only; omega) (by rw [hy]; simp only; omega) (by rw [hy]) (by rw [hy]) (by rw [hy])
      have HQ1 := hid hq1
      have HQ2 := hid hq2
      clear hq1 hq2
      go_enter Try.func5, Try.ntmps5
      go_upto_region 6 with (fail)
      generalize hW : World.alloc (World.alloc w _) _ = W
      have HT3 := hid (show TwoH w W #[.int .i64 x.tk, .int .i64 x.hd, .int .i64 x.bh, .int .i64 x.ch, .int .i64 x.ht, .int .i64 x.ep, .int .i64 x.bp, .int .i64 x.wr, .int .i64 x.th, .int .i64 x.cs] #[.int .i64 y.tk, .int .i64 y.hd, .int .i64 y.bh, .int .i64 y.ch, .int .i64 y.ht, .int .i64 y.ep, .int .i64 y.bp, .int .i64 y.wr, .int .i64 y.th, .int .i64 y.cs] by rw [← hW, hy]; exact two_start w _ _)
      clear hW hy
      have HTX := hid (fun W2 (h : Below W.heap.size W W2) => HT3.out.keep h)
      obtain ⟨b0, b1, b2, b3, b4, b5, b6, b7, b8, b9⟩ := boxS_of HT3.out.a
      go_wp2_with fail
      refine (kxsheet_any x _).mono ?_
      rintro e w1 ⟨rfl, hb⟩
      rw [HX.out]
      have HTA := hid (HTX.out _ hb)
      clear hb b0 b1 b2 b3 b4 b5 b6 b7 b8 b9
      obtain ⟨c0, c1, c2, c3, c4, c5, c6, c7, c8, c9⟩ := boxS_of HTA.out.b
      cases hyv : shB y
      · have HYV := hid hyv
        clear hyv
        go_wp2_with fail
        refine (kxsheet_any y _).mono ?_
        rintro e w2 ⟨rfl, hb⟩
        rw [HYV.out]
        have HB1 := hid (HTA.out.keep hb).low
        clear hb
        go_wp2_with fail
        refine (kawake_any _).mono ?_
        rintro e w2 ⟨rfl, hb⟩
        have HB2 := hid (bstep HB1.out HB1.out.size hb)
        clear hb
        go_wp2_with fail
        go_ret
        exact ⟨rfl, HB2.out⟩
      · have HYV := hid hyv
        clear hyv
        go_wp2_with fail
        refine (kxsheet_any y _).mono ?_
        rintro e w2 ⟨rfl, hb⟩
        rw [HYV.out]
        have HTB := hid (HTA.out.keep hb)
        clear hb c0 c1 c2 c3 c4 c5 c6 c7 c8 c9
        obtain ⟨b0, b1, b2, b3, b4, b5, b6, b7, b8, b9⟩ := boxS_of HTB.out.a
        go_wp2_with fail
        refine (koverl_ok x _ HX.out).mono ?_
        rintro e w3 ⟨rfl, hb⟩
        have HTC := hid (HTB.out.keep hb)
        clear hb b0 b1 b2 b3 b4 b5 b6 b7 b8 b9
        obtain ⟨c0, c1, c2, c3, c4, c5, c6, c7, c8, c9⟩ := boxS_of HTC.out.b
        go_wp2_with fail
        refine (koverl_ok y _ HYV.out).mono ?_
        rintro e w4 ⟨rfl, hb⟩
        have HTD := hid (HTC.out.keep hb)
        clear hb c0 c1 c2 c3 c4 c5 c6 c7 c8 c9
        obtain ⟨b0, b1, b2, b3, b4, b5, b6, b7, b8, b9⟩ := boxS_of HTD.out.a
        go_wp2_with fail
        refine (kperc_ok x _ HX.out).mono ?_
        rintro e w5 ⟨rfl, hb⟩
        have HTE := hid (HTD.out.keep hb)
        clear hb b0 b1 b2 b3 b4 b5 b6 b7 b8 b9
        obtain ⟨c0, c1, c2, c3, c4, c5, c6, c7, c8, c9⟩ := boxS_of HTE.out.b
        go_wp2_with fail
        refine (kperc_ok y _ HYV.out).mono ?_
        rintro e w6 ⟨rfl, hb⟩
        have HB6 := hid (HTE.out.keep hb).low
        clear hb c0 c1 c2 c3 c4 c5 c6 c7 c8 c9
        have hq1 := HQ1.out
        have hq2 := HQ2.out
        generalize ovT x / 10 = o1 at *
        generalize ovT y / 10 = o2 at *
        generalize pctT x = o3 at *
        generalize pctT y = o4 at *
        go_wp2_with fail
        refine (kawake_any _).mono ?_
        rintro e w7 ⟨rfl, hb⟩
        have HB7 := hid (bstep HB6.out HB6.out.size hb)
        clear hb
        go_wp2_with fail
        go_ret
        exact ⟨rfl, HB7.out⟩
    · obtain ⟨y, hy⟩ : ∃ y : Sh, y = ⟨x.tk, x.hd, x.bh, x.ch, x.ht, x.ep, x.bp, x.wr, x.th, x.cs⟩ := ⟨_, rfl⟩
      obtain ⟨hq1, hq2⟩ := hooks_plain (x := x) (y := y) (by rw [hy]; simp only; omega) (by rw [hy]; simp only; omega) (by rw [hy]) (by rw [hy]) (by rw [hy])
      have HQ1 := hid hq1
      have HQ2 := hid hq2
      clear hq1 hq2
      go_enter Try.func5, Try.ntmps5
      go_upto_region 6 with (fail)
      generalize hW : World.alloc (World.alloc w _) _ = W
      have HT3 := hid (show TwoH w W #[.int .i64 x.tk, .int .i64 x.hd, .int .i64 x.bh, .int .i64 x.ch, .int .i64 x.ht, .int .i64 x.ep, .int .i64 x.bp, .int .i64 x.wr, .int .i64 x.th, .int .i64 x.cs] #[.int .i64 y.tk, .int .i64 y.hd, .int .i64 y.bh, .int .i64 y.ch, .int .i64 y.ht, .int .i64 y.ep, .int .i64 y.bp, .int .i64 y.wr, .int .i64 y.th, .int .i64 y.cs] by rw [← hW, hy]; exact two_start w _ _)
      clear hW hy
      have HTX := hid (fun W2 (h : Below W.heap.size W W2) => HT3.out.keep h)
      obtain ⟨b0, b1, b2, b3, b4, b5, b6, b7, b8, b9⟩ := boxS_of HT3.out.a
      go_wp2_with fail
      refine (kxsheet_any x _).mono ?_
      rintro e w1 ⟨rfl, hb⟩
      rw [HX.out]
      have HTA := hid (HTX.out _ hb)
      clear hb b0 b1 b2 b3 b4 b5 b6 b7 b8 b9
      obtain ⟨c0, c1, c2, c3, c4, c5, c6, c7, c8, c9⟩ := boxS_of HTA.out.b
      cases hyv : shB y
      · have HYV := hid hyv
        clear hyv
        go_wp2_with fail
        refine (kxsheet_any y _).mono ?_
        rintro e w2 ⟨rfl, hb⟩
        rw [HYV.out]
        have HB1 := hid (HTA.out.keep hb).low
        clear hb
        go_wp2_with fail
        refine (kawake_any _).mono ?_
        rintro e w2 ⟨rfl, hb⟩
        have HB2 := hid (bstep HB1.out HB1.out.size hb)
        clear hb
        go_wp2_with fail
        go_ret
        exact ⟨rfl, HB2.out⟩
      · have HYV := hid hyv
        clear hyv
        go_wp2_with fail
        refine (kxsheet_any y _).mono ?_
        rintro e w2 ⟨rfl, hb⟩
        rw [HYV.out]
        have HTB := hid (HTA.out.keep hb)
        clear hb c0 c1 c2 c3 c4 c5 c6 c7 c8 c9
        obtain ⟨b0, b1, b2, b3, b4, b5, b6, b7, b8, b9⟩ := boxS_of HTB.out.a
        go_wp2_with fail
        refine (koverl_ok x _ HX.out).mono ?_
        rintro e w3 ⟨rfl, hb⟩
        have HTC := hid (HTB.out.keep hb)
        clear hb b0 b1 b2 b3 b4 b5 b6 b7 b8 b9
        obtain ⟨c0, c1, c2, c3, c4, c5, c6, c7, c8, c9⟩ := boxS_of HTC.out.b
        go_wp2_with fail
        refine (koverl_ok y _ HYV.out).mono ?_
        rintro e w4 ⟨rfl, hb⟩
        have HTD := hid (HTC.out.keep hb)
        clear hb c0 c1 c2 c3 c4 c5 c6 c7 c8 c9
        obtain ⟨b0, b1, b2, b3, b4, b5, b6, b7, b8, b9⟩ := boxS_of HTD.out.a
        go_wp2_with fail
        refine (kperc_ok x _ HX.out).mono ?_
        rintro e w5 ⟨rfl, hb⟩
        have HTE := hid (HTD.out.keep hb)
        clear hb b0 b1 b2 b3 b4 b5 b6 b7 b8 b9
        obtain ⟨c0, c1, c2, c3, c4, c5, c6, c7, c8, c9⟩ := boxS_of HTE.out.b
        go_wp2_with fail
        refine (kperc_ok y _ HYV.out).mono ?_
        rintro e w6 ⟨rfl, hb⟩
        have HB6 := hid (HTE.out.keep hb).low
        clear hb c0 c1 c2 c3 c4 c5 c6 c7 c8 c9
        have hq1 := HQ1.out
        have hq2 := HQ2.out
        generalize ovT x / 10 = o1 at *
        generalize ovT y / 10 = o2 at *
        generalize pctT x = o3 at *
        generalize pctT y = o4 at *
        go_wp2_with fail
        refine (kawake_any _).mono ?_
        rintro e w7 ⟨rfl, hb⟩
        have HB7 := hid (bstep HB6.out HB6.out.size hb)
        clear hb
        go_wp2_with fail
        go_ret
        exact ⟨rfl, HB7.out⟩
    · obtain ⟨y, hy⟩ : ∃ y : Sh, y = ⟨x.tk, x.hd, x.bh, x.ch, x.ht, x.ep, x.bp, x.wr, x.th, x.cs⟩ := ⟨_, rfl⟩
      obtain ⟨hq1, hq2⟩ := hooks_plain (x := x) (y := y) (by rw [hy]; simp only; omega) (by rw [hy]; simp only; omega) (by rw [hy]) (by rw [hy]) (by rw [hy])
      have HQ1 := hid hq1
      have HQ2 := hid hq2
      clear hq1 hq2
      go_enter Try.func5, Try.ntmps5
      go_upto_region 6 with (fail)
      generalize hW : World.alloc (World.alloc w _) _ = W
      have HT3 := hid (show TwoH w W #[.int .i64 x.tk, .int .i64 x.hd, .int .i64 x.bh, .int .i64 x.ch, .int .i64 x.ht, .int .i64 x.ep, .int .i64 x.bp, .int .i64 x.wr, .int .i64 x.th, .int .i64 x.cs] #[.int .i64 y.tk, .int .i64 y.hd, .int .i64 y.bh, .int .i64 y.ch, .int .i64 y.ht, .int .i64 y.ep, .int .i64 y.bp, .int .i64 y.wr, .int .i64 y.th, .int .i64 y.cs] by rw [← hW, hy]; exact two_start w _ _)
      clear hW hy
      have HTX := hid (fun W2 (h : Below W.heap.size W W2) => HT3.out.keep h)
      obtain ⟨b0, b1, b2, b3, b4, b5, b6, b7, b8, b9⟩ := boxS_of HT3.out.a
      go_wp2_with fail
      refine (kxsheet_any x _).mono ?_
      rintro e w1 ⟨rfl, hb⟩
      rw [HX.out]
      have HTA := hid (HTX.out _ hb)
      clear hb b0 b1 b2 b3 b4 b5 b6 b7 b8 b9
      obtain ⟨c0, c1, c2, c3, c4, c5, c6, c7, c8, c9⟩ := boxS_of HTA.out.b
      cases hyv : shB y
      · have HYV := hid hyv
        clear hyv
        go_wp2_with fail
        refine (kxsheet_any y _).mono ?_
        rintro e w2 ⟨rfl, hb⟩
        rw [HYV.out]
        have HB1 := hid (HTA.out.keep hb).low
        clear hb
        go_wp2_with fail
        refine (kawake_any _).mono ?_
        rintro e w2 ⟨rfl, hb⟩
        have HB2 := hid (bstep HB1.out HB1.out.size hb)
        clear hb
        go_wp2_with fail
        go_ret
        exact ⟨rfl, HB2.out⟩
      · have HYV := hid hyv
        clear hyv
        go_wp2_with fail
        refine (kxsheet_any y _).mono ?_
        rintro e w2 ⟨rfl, hb⟩
        rw [HYV.out]
        have HTB := hid (HTA.out.keep hb)
        clear hb c0 c1 c2 c3 c4 c5 c6 c7 c8 c9
        obtain ⟨b0, b1, b2, b3, b4, b5, b6, b7, b8, b9⟩ := boxS_of HTB.out.a
        go_wp2_with fail
        refine (koverl_ok x _ HX.out).mono ?_
        rintro e w3 ⟨rfl, hb⟩
        have HTC := hid (HTB.out.keep hb)
        clear hb b0 b1 b2 b3 b4 b5 b6 b7 b8 b9
        obtain ⟨c0, c1, c2, c3, c4, c5, c6, c7, c8, c9⟩ := boxS_of HTC.out.b
        go_wp2_with fail
        refine (koverl_ok y _ HYV.out).mono ?_
        rintro e w4 ⟨rfl, hb⟩
        have HTD := hid (HTC.out.keep hb)
        clear hb c0 c1 c2 c3 c4 c5 c6 c7 c8 c9
        obtain ⟨b0, b1, b2, b3, b4, b5, b6, b7, b8, b9⟩ := boxS_of HTD.out.a
        go_wp2_with fail
        refine (kperc_ok x _ HX.out).mono ?_
        rintro e w5 ⟨rfl, hb⟩
        have HTE := hid (HTD.out.keep hb)
        clear hb b0 b1 b2 b3 b4 b5 b6 b7 b8 b9
        obtain ⟨c0, c1, c2, c3, c4, c5, c6, c7, c8, c9⟩ := boxS_of HTE.out.b
        go_wp2_with fail
        refine (kperc_ok y _ HYV.out).mono ?_
        rintro e w6 ⟨rfl, hb⟩
        have HB6 := hid (HTE.out.keep hb).low
        clear hb c0 c1 c2 c3 c4 c5 c6 c7 c8 c9
        have hq1 := HQ1.out
        have hq2 := HQ2.out
        generalize ovT x / 10 = o1 at *
        generalize ovT y / 10 = o2 at *
        generalize pctT x = o3 at *
        generalize pctT y = o4 at *
        go_wp2_with fail
        refine (kawake_any _).mono ?_
        rintro e w7 ⟨rfl, hb⟩
        have HB7 := hid (bstep HB6.out HB6.out.size hb)
        clear hb
        go_wp2_with fail
        go_ret
        exact ⟨rfl, HB7.out⟩
end Go.Proofs.Ytdmdgogckjdggaa
