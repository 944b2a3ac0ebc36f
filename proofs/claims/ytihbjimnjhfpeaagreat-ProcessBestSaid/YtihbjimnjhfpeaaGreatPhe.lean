/- ProcessBest: a Choice that comes in; the walk. -/
import Derived.Test.YtihbjimnjhfpeaaGreatPhd
namespace Go.Proofs.YtihbjimnjhfpeaaGreat
open Go.ChangeShapes Go.WideShapes Go.ChangeAt Go.RowKit Go.Joins Go.Deep Go.Lib

theorem cellsCh : Tryz.prog.cellsOf 30 = 8 := by kernel_rfl
section
variable {H : Type} {enc : TypeId × Value → H} {w : World} {base : Nat} {spare : Nat → Bool} {held : Bool}
set_option maxRecDepth 100000 in
theorem open_choice {rr : Reach} {b0 : Nat} {v : Value} {d : DataW H} {p : List MemPlace} (hv : Value.okWide Tryz.prog w rr b0 30 v) (h : DataW.Trod enc Tryz.prog w base spare held 30 v d p) :
    ∃ (x : Kl) (u : Value) (l : List Int) (cold cooling : Int), v = .agg #[.string x.s, .int .i64 x.r, .int .i64 x.z, .int .i64 x.d, .int .i64 x.g, u, .int .i64 cold, .int .i64 cooling] ∧ x.s.size ≤ maxLen ∧ RowI w u l := by
  obtain ⟨cs, rfl, hsz⟩ := okWide_struct Tryz.underlying30 hv
  obtain ⟨ls⟩ := cs
  match ls, hsz.trans cellsCh with
  | [c0, c1, c2, c3, c4, c5, c6, c7], _ =>
    obtain ⟨fuel, hf⟩ := h
    obtain ⟨xs, n, _, hx, _, hlen, hg⟩ := DataW.trod_struct Tryz.underlying30 hf
    match xs, hlen with
    | [y0, y1, y2, y3], _ =>
      have g0 := hg 0 _ rfl; have g1 := hg 1 _ rfl; have g2 := hg 2 _ rfl; have g3 := hg 3 _ rfl
      simp [Value.cells, cellsKl, cellsS, cellsI] at g0 g1 g2 g3
      obtain ⟨q, rfl, rfl, rfl, rfl, rfl, ws⟩ := trod_killer g0
      obtain ⟨l, hl⟩ := rowI_of_ints g1
      obtain ⟨n2, e2, _⟩ := DataW.trod_int Tryz.underlying3 g2
      obtain ⟨n3, e3, _⟩ := DataW.trod_int Tryz.underlying3 g3
      simp at e2 e3
      subst e2 e3
      exact ⟨q, _, l, n2, n3, rfl, ws, hl⟩
end
set_option maxRecDepth 100000 in
set_option maxHeartbeats 8000000 in
theorem pbest_walk (r l a b k a2 b2 : Int) (q : Kl) (t : Int) (x : Kl) (v : Value) (p : List Int) (cold cooling : Int) (w : World) (hs : q.s.size ≤ maxLen) (_ht : (Lit.int .i64 t).wf = true) (hx : x.s.size ≤ maxLen) (hl : RowI w v p) :
    Calls Tryz.prog 3 #[.agg #[.int .i64 r, .int .i64 l, .int .i64 a, .int .i64 b, .int .i64 k, .int .i64 a2, .int .i64 b2, .string q.s, .int .i64 q.r, .int .i64 q.z, .int .i64 q.d, .int .i64 q.g, .int .i64 t], .agg #[.string x.s, .int .i64 x.r, .int .i64 x.z, .int .i64 x.d, .int .i64 x.g, v, .int .i64 cold, .int .i64 cooling]] w fun e w' => e = .returned (.bool true) ∧ Below w.heap.size w w' := by
  have hpm : p.length ≤ maxLen := RowI.most hl
  have HL := hid (fun w1 (g : Below w.heap.size w w1) => hl.keep g)
  obtain ⟨a0, cap, rfl⟩ := hl.shape
  have BX := hid (box2_start (w := w) (A := #[.int .i64 r, .int .i64 l, .int .i64 a, .int .i64 b, .int .i64 k, .int .i64 a2, .int .i64 b2, .string q.s, .int .i64 q.r, .int .i64 q.z, .int .i64 q.d, .int .i64 q.g, .int .i64 t]) (B := #[.string x.s, .int .i64 x.r, .int .i64 x.z, .int .i64 x.d, .int .i64 x.g, .slice a0 p.length cap, .int .i64 cold, .int .i64 cooling]) (T := 27) (T' := 30) (fz := (0, 0)) (fz' := (0, 0)))
  have HSM := hid (fun W => small04_any r l a b k a2 b2 W none 0 0 (by decide))
  have HP := hid (fun W h => best_any r l a b k a2 b2 W q x t cold cooling (.slice a0 p.length cap) p hs hx h hpm)
  have HQ := hid (fun W h => xbest_any r l a b k a2 b2 W q x t cold cooling (.slice a0 p.length cap) p hs hx h hpm)
  obtain ⟨ri, rn, re, hA⟩ := bestA_shape r l a b k a2 b2 q x t cold cooling p
  rw [hA] at HP HQ
  unfold BsP at HP HQ
  clear hA hs hx hl
  unfold maxLen at hpm
  go_enter Tryz.func3, Tryz.ntmps3
  have t0 := BX.out.fst 0; have t1 := BX.out.fst 1; have t2 := BX.out.fst 2; have t3 := BX.out.fst 3; have t4 := BX.out.fst 4; have t5 := BX.out.fst 5; have t6 := BX.out.fst 6; have t7 := BX.out.fst 7; have t8 := BX.out.fst 8; have t9 := BX.out.fst 9; have t10 := BX.out.fst 10; have t11 := BX.out.fst 11; have t12 := BX.out.fst 12; have c0 := BX.out.snd 0; have c1 := BX.out.snd 1; have c2 := BX.out.snd 2; have c3 := BX.out.snd 3; have c4 := BX.out.snd 4; have c5 := BX.out.snd 5; have c6 := BX.out.snd 6; have c7 := BX.out.snd 7
  simp only [List.getElem?_toArray, List.getElem?_cons_zero, List.getElem?_cons_succ] at t0 t1 t2 t3 t4 t5 t6 t7 t8 t9 t10 t11 t12 c0 c1 c2 c3 c4 c5 c6 c7
  go_wp2_with fail
  refine (HSM.out _).mono ?_
  rintro e w1 ⟨rfl, hb⟩
  have BX := hid (BX.out.keep hb)
  clear hb t0 t1 t2 t3 t4 t5 t6 t7 t8 t9 t10 t11 t12 c0 c1 c2 c3 c4 c5 c6 c7
  have t0 := BX.out.fst 0; have t1 := BX.out.fst 1; have t2 := BX.out.fst 2; have t3 := BX.out.fst 3; have t4 := BX.out.fst 4; have t5 := BX.out.fst 5; have t6 := BX.out.fst 6; have t7 := BX.out.fst 7; have t8 := BX.out.fst 8; have t9 := BX.out.fst 9; have t10 := BX.out.fst 10; have t11 := BX.out.fst 11; have t12 := BX.out.fst 12; have c0 := BX.out.snd 0; have c1 := BX.out.snd 1; have c2 := BX.out.snd 2; have c3 := BX.out.snd 3; have c4 := BX.out.snd 4; have c5 := BX.out.snd 5; have c6 := BX.out.snd 6; have c7 := BX.out.snd 7
  simp only [List.getElem?_toArray, List.getElem?_cons_zero, List.getElem?_cons_succ] at t0 t1 t2 t3 t4 t5 t6 t7 t8 t9 t10 t11 t12 c0 c1 c2 c3 c4 c5 c6 c7
  cases hsm : smallB r l 0 80
  · skip
    go_wp2_with fail
    refine (lawake_any _).mono ?_
    rintro e w9 ⟨rfl, hb⟩
    have BX := hid (BX.out.keep hb)
    clear hb
    go_wp2_with fail
    go_ret
    exact ⟨rfl, BX.out.low⟩
  cases h1 : decide (20 < cooling)
  case true =>
    go_wp2_with fail
    refine (lawake_any _).mono ?_
    rintro e w9 ⟨rfl, hb⟩
    have BX := hid (BX.out.keep hb)
    clear hb
    go_wp2_with fail
    go_ret
    exact ⟨rfl, BX.out.low⟩
  cases h2 : decide (2 < wrap64 (r * l))
  case true =>
    go_wp2_with fail
    refine (lawake_any _).mono ?_
    rintro e w9 ⟨rfl, hb⟩
    have BX := hid (BX.out.keep hb)
    clear hb
    go_wp2_with fail
    go_ret
    exact ⟨rfl, BX.out.low⟩
  by_cases h3 : p.length ≤ 4
  · have h3' : decide (4 < (p.length : Int)) = false := by simp; omega
    go_wp2_with fail
    refine (HP.out _ (HL.out _ BX.out.low)).mono ?_
    rintro e w2 ⟨rfl, hb⟩
    have BX := hid (BX.out.keep hb)
    clear hb t0 t1 t2 t3 t4 t5 t6 t7 t8 t9 t10 t11 t12 c0 c1 c2 c3 c4 c5 c6 c7
    have t0 := BX.out.fst 0; have t1 := BX.out.fst 1; have t2 := BX.out.fst 2; have t3 := BX.out.fst 3; have t4 := BX.out.fst 4; have t5 := BX.out.fst 5; have t6 := BX.out.fst 6; have t7 := BX.out.fst 7; have t8 := BX.out.fst 8; have t9 := BX.out.fst 9; have t10 := BX.out.fst 10; have t11 := BX.out.fst 11; have t12 := BX.out.fst 12; have c0 := BX.out.snd 0; have c1 := BX.out.snd 1; have c2 := BX.out.snd 2; have c3 := BX.out.snd 3; have c4 := BX.out.snd 4; have c5 := BX.out.snd 5; have c6 := BX.out.snd 6; have c7 := BX.out.snd 7
    simp only [List.getElem?_toArray, List.getElem?_cons_zero, List.getElem?_cons_succ] at t0 t1 t2 t3 t4 t5 t6 t7 t8 t9 t10 t11 t12 c0 c1 c2 c3 c4 c5 c6 c7
    go_wp2_with fail
    refine (HQ.out _ (HL.out _ BX.out.low)).mono ?_
    rintro e w3 ⟨rfl, hb⟩
    have BX := hid (BX.out.keep hb)
    clear hb t0 t1 t2 t3 t4 t5 t6 t7 t8 t9 t10 t11 t12 c0 c1 c2 c3 c4 c5 c6 c7
    go_wp2_with fail
    refine (lawake_any _).mono ?_
    rintro e w9 ⟨rfl, hb⟩
    have BX := hid (BX.out.keep hb)
    clear hb
    go_wp2_with fail
    go_ret
    exact ⟨rfl, BX.out.low⟩
  have h3' : decide (4 < (p.length : Int)) = true := by simp; omega
  cases h4 : decide ((p.length : Int) ≤ 64)
  · skip
    go_wp2_with fail
    refine (HP.out _ (HL.out _ BX.out.low)).mono ?_
    rintro e w2 ⟨rfl, hb⟩
    have BX := hid (BX.out.keep hb)
    clear hb t0 t1 t2 t3 t4 t5 t6 t7 t8 t9 t10 t11 t12 c0 c1 c2 c3 c4 c5 c6 c7
    have t0 := BX.out.fst 0; have t1 := BX.out.fst 1; have t2 := BX.out.fst 2; have t3 := BX.out.fst 3; have t4 := BX.out.fst 4; have t5 := BX.out.fst 5; have t6 := BX.out.fst 6; have t7 := BX.out.fst 7; have t8 := BX.out.fst 8; have t9 := BX.out.fst 9; have t10 := BX.out.fst 10; have t11 := BX.out.fst 11; have t12 := BX.out.fst 12; have c0 := BX.out.snd 0; have c1 := BX.out.snd 1; have c2 := BX.out.snd 2; have c3 := BX.out.snd 3; have c4 := BX.out.snd 4; have c5 := BX.out.snd 5; have c6 := BX.out.snd 6; have c7 := BX.out.snd 7
    simp only [List.getElem?_toArray, List.getElem?_cons_zero, List.getElem?_cons_succ] at t0 t1 t2 t3 t4 t5 t6 t7 t8 t9 t10 t11 t12 c0 c1 c2 c3 c4 c5 c6 c7
    go_wp2_with fail
    refine (HQ.out _ (HL.out _ BX.out.low)).mono ?_
    rintro e w3 ⟨rfl, hb⟩
    have BX := hid (BX.out.keep hb)
    clear hb t0 t1 t2 t3 t4 t5 t6 t7 t8 t9 t10 t11 t12 c0 c1 c2 c3 c4 c5 c6 c7
    go_wp2_with fail
    refine (lawake_any _).mono ?_
    rintro e w9 ⟨rfl, hb⟩
    have BX := hid (BX.out.keep hb)
    clear hb
    go_wp2_with fail
    go_ret
    exact ⟨rfl, BX.out.low⟩
  · skip
    go_wp2_with fail
    refine (lawake_any _).mono ?_
    rintro e w9 ⟨rfl, hb⟩
    have BX := hid (BX.out.keep hb)
    clear hb
    go_wp2_with fail
    go_ret
    exact ⟨rfl, BX.out.low⟩
end Go.Proofs.YtihbjimnjhfpeaaGreat
