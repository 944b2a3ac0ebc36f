/- Least where it looks: contract. -/
import Derived.Test.YtedfajokiblfhaaGreatPdn
import Derived.Test.YtedfajokiblfhaaGreatPdo
namespace Go.Proofs.YtedfajokiblfhaaGreat
open Go.RowKit Go.Lib

theorem lsB_start (r l a b k a2 b2 : Int) (q : Kl) (t bath cold cooling : Int) (w : World) :
    LsB r l a b k a2 b2 q t bath cold cooling w.heap.size ((((((w.alloc (.cells #[.int .i64 r, .int .i64 l, .int .i64 a, .int .i64 b, .int .i64 k, .int .i64 a2, .int .i64 b2] 23)).alloc (.cells #[.string q.s, .int .i64 q.r, .int .i64 q.z, .int .i64 q.d, .int .i64 q.g] 25)).alloc (.cells #[.int .i64 t] 3)).alloc (.cells #[.int .i64 bath] 3)).alloc (.cells #[.int .i64 cold] 3)).alloc (.cells #[.int .i64 cooling] 3)) ∧
    Below w.heap.size w ((((((w.alloc (.cells #[.int .i64 r, .int .i64 l, .int .i64 a, .int .i64 b, .int .i64 k, .int .i64 a2, .int .i64 b2] 23)).alloc (.cells #[.string q.s, .int .i64 q.r, .int .i64 q.z, .int .i64 q.d, .int .i64 q.g] 25)).alloc (.cells #[.int .i64 t] 3)).alloc (.cells #[.int .i64 bath] 3)).alloc (.cells #[.int .i64 cold] 3)).alloc (.cells #[.int .i64 cooling] 3)) := by
  have h := b3_start (w := w) (T1 := 23) (T2 := 25) (T3 := 3) (A := #[.int .i64 r, .int .i64 l, .int .i64 a, .int .i64 b, .int .i64 k, .int .i64 a2, .int .i64 b2]) (B := #[.string q.s, .int .i64 q.r, .int .i64 q.z, .int .i64 q.d, .int .i64 q.g]) (R := #[.int .i64 t])
  have hz : (((w.alloc (.cells #[.int .i64 r, .int .i64 l, .int .i64 a, .int .i64 b, .int .i64 k, .int .i64 a2, .int .i64 b2] 23)).alloc (.cells #[.string q.s, .int .i64 q.r, .int .i64 q.z, .int .i64 q.d, .int .i64 q.g] 25)).alloc (.cells #[.int .i64 t] 3)).heap.size = w.heap.size + 1 + 1 + 1 := by simp
  generalize ((w.alloc (.cells #[.int .i64 r, .int .i64 l, .int .i64 a, .int .i64 b, .int .i64 k, .int .i64 a2, .int .i64 b2] 23)).alloc (.cells #[.string q.s, .int .i64 q.r, .int .i64 q.z, .int .i64 q.d, .int .i64 q.g] 25)).alloc (.cells #[.int .i64 t] 3) = W at *
  have g := b3_start (w := W) (T1 := 3) (T2 := 3) (T3 := 3) (A := #[.int .i64 bath]) (B := #[.int .i64 cold]) (R := #[.int .i64 cooling])
  have g1 := g.one
  have g2 := g.two
  have g3 := g.three
  have hb := g.low
  rw [hz] at g1 g2 g3
  exact ⟨⟨(hb.block _ (lt_of_block h.one)).trans h.one, (hb.block _ (lt_of_block h.two)).trans h.two, (hb.block _ (lt_of_block h.three)).trans h.three, g1, g2, g3⟩, h.low.trans (hb.mono h.low.size)⟩
/-- What Least tells. -/
def LeastP (T : Nat → Bool) (G : Int → Int) (most : Nat) (w : World) (e : Ending) (w' : World) : Prop :=
  Below w.heap.size w w' ∧ ((∃ n : Nat, n ≤ most ∧ T n = true ∧ (∀ j, j < n → T j = false) ∧ e = .returned (.tuple #[.int .i64 (n : Nat), .int .i64 (G n), .int .i64 (if n = 0 then -1 else G ((n : Int) - 1)), .int .i64 0])) ∨ ((∀ j, j ≤ most → T j = false) ∧ e = .returned (.tuple #[.int .i64 0, .int .i64 0, .int .i64 0, .int .i64 8])))
set_option maxRecDepth 20000 in
set_option maxHeartbeats 8000000 in
theorem least_ok (c : Cn) (q : Kl) (t bath cold : Int) (cooling most : Nat) (Z : Nat) (w : World) (hz : q.z = Z) (hs : q.s.size ≤ maxLen) (hcv : c.V) (hv : Lt.validB q.s.data.toList q.r Z q.d q.g = true) (ho : okT t = true) (hob : okT bath = true) (hoc : okT cold = true) (hmost : most + cooling = 2000)
    (hmono : risB c (dish0 c t) bath cold = true → ∀ j n, j ≤ n → n ≤ most → tstC c (fun x => Lt.Pm.rateD q.r q.z (x / 250)) (dish0 c t) (q.g * (q.d * 1000000)) bath cold cooling j = true → tstC c (fun x => Lt.Pm.rateD q.r q.z (x / 250)) (dish0 c t) (q.g * (q.d * 1000000)) bath cold cooling n = true) :
    Calls Tryz.prog 23 #[.agg #[.int .i64 (c.R : Int), .int .i64 (c.L : Int), .int .i64 c.A, .int .i64 c.B, .int .i64 c.K, .int .i64 c.A2, .int .i64 c.B2], .agg #[.string q.s, .int .i64 q.r, .int .i64 q.z, .int .i64 q.d, .int .i64 q.g], .int .i64 t, .int .i64 bath, .int .i64 cold, .int .i64 (cooling : Nat)] w (LeastP (tstC c (fun x => Lt.Pm.rateD q.r q.z (x / 250)) (dish0 c t) (q.g * (q.d * 1000000)) bath cold cooling) (withF c.R c.L c.A c.B c.K c.A2 c.B2 q t bath cold cooling) most w) := by
  have HM := hid (fun W => mended_ok c q.s q.r q.d q.g t bath cold cooling most Z (.slice none 0 0) [] W hs hcv hv ho hob hoc rfl (by simpa using hmost) (.inl ⟨none, 0, rfl, rfl⟩) (fun D hD hr => by
    subst hD
    rw [← hz]
    exact hmono hr))
  rw [← hz] at HM
  simp only [dishR_nil] at HM
  have HWF := hid (fun (n : Int) (W : World) (h : LsB c.R c.L c.A c.B c.K c.A2 c.B2 q t bath cold cooling w.heap.size W) => with_any c.R c.L c.A c.B c.K c.A2 c.B2 q t bath cold cooling n w.heap.size W hs h)
  have HB := hid (lsB_start c.R c.L c.A c.B c.K c.A2 c.B2 q t bath cold cooling w)
  generalize withF c.R c.L c.A c.B c.K c.A2 c.B2 q t bath cold cooling = G at *
  generalize tstC c (fun x => Lt.Pm.rateD q.r q.z (x / 250)) (dish0 c t) (q.g * (q.d * 1000000)) bath cold cooling = T at *
  clear hz hs hcv hv ho hob hoc hmono
  have x0 := cell_of_row _ _ 0 _ _ _ HB.out.1.can
  have x1 := cell_of_row _ _ 1 _ _ _ HB.out.1.can
  have x2 := cell_of_row _ _ 2 _ _ _ HB.out.1.can
  have x3 := cell_of_row _ _ 3 _ _ _ HB.out.1.can
  have x4 := cell_of_row _ _ 4 _ _ _ HB.out.1.can
  have x5 := cell_of_row _ _ 5 _ _ _ HB.out.1.can
  have x6 := cell_of_row _ _ 6 _ _ _ HB.out.1.can
  have y0 := cell_of_row _ _ 0 _ _ _ HB.out.1.kil
  have y1 := cell_of_row _ _ 1 _ _ _ HB.out.1.kil
  have y2 := cell_of_row _ _ 2 _ _ _ HB.out.1.kil
  have y3 := cell_of_row _ _ 3 _ _ _ HB.out.1.kil
  have y4 := cell_of_row _ _ 4 _ _ _ HB.out.1.kil
  have i0 := cell_of_row _ _ 0 _ _ _ HB.out.1.ini
  have b0 := cell_of_row _ _ 0 _ _ _ HB.out.1.bat
  have c0 := cell_of_row _ _ 0 _ _ _ HB.out.1.col
  have o0 := cell_of_row _ _ 0 _ _ _ HB.out.1.coo
  simp only [List.getElem?_toArray, List.getElem?_cons_zero, List.getElem?_cons_succ] at x0 x1 x2 x3 x4 x5 x6 y0 y1 y2 y3 y4 i0 b0 c0 o0
  go_enter Tryz.func23, Tryz.ntmps23
  go_wp2_with fail
  refine (HM.out _).mono ?_
  rintro e w2 ⟨hb2, ⟨n, hn1, hn2, hn3, rfl⟩ | ⟨hn1, rfl⟩⟩
  · have HB2 := hid (HB.out.1.keep hb2)
    have HL2 := hid (HB.out.2.trans (hb2.mono HB.out.2.size))
    have HN := hid (And.intro hn1 (And.intro hn2 hn3))
    have heq := enter_at Tryz.func52 (by kernel_rfl) (by kernel_rfl)
    clear hb2 hn2 hn3 x0 x1 x2 x3 x4 x5 x6 y0 y1 y2 y3 y4 i0 b0 c0 o0 HB
    by_cases h0 : n = 0
    · subst h0
      go_wp2_with fail
      refine (HWF.out _ _ HB2.out).mono ?_
      rintro e w3 ⟨rfl, hb3⟩
      have HL3 := hid (bstep HL2.out HL2.out.size hb3)
      clear hb3
      go_wp2_with fail
      refine bodyPost_ret (v := .tuple #[.int .i64 0, .int .i64 (G 0), .int .i64 (-1), .int .i64 0]) (by simp [results, Tryz.results23, go_sem]) rfl ⟨HL3.out, .inl ⟨0, HN.out.1, HN.out.2.1, HN.out.2.2, rfl⟩⟩
    · have h0' : ¬ (n : Int) = 0 := by omega
      have HE := hid (show (if n = 0 then (-1 : Int) else G ((n : Int) - 1)) = G ((n : Int) - 1) from if_neg h0)
      have hn2000 : n ≤ 2000 := by omega
      clear h0
      go_wp2_with fail
      refine (HWF.out _ _ HB2.out).mono ?_
      rintro e w3 ⟨rfl, hb3⟩
      have HL3 := hid (bstep HL2.out HL2.out.size hb3)
      have HB3 := hid (HB2.out.keep hb3)
      clear hb3
      go_wp2_with fail
      refine (HWF.out _ _ HB3.out).mono ?_
      rintro e w4 ⟨rfl, hb4⟩
      have HL4 := hid (bstep HL3.out HL3.out.size hb4)
      clear hb4
      go_wp2_with fail
      refine bodyPost_ret (v := .tuple #[.int .i64 (n : Nat), .int .i64 (G n), .int .i64 (G ((n : Int) - 1)), .int .i64 0]) (by simp [results, Tryz.results23, go_sem]) rfl ⟨HL4.out, .inl ⟨n, HN.out.1, HN.out.2.1, HN.out.2.2, by rw [HE.out]⟩⟩
  · have HL2 := hid (HB.out.2.trans (hb2.mono HB.out.2.size))
    have HN := hid hn1
    clear hb2 hn1 x0 x1 x2 x3 x4 x5 x6 y0 y1 y2 y3 y4 i0 b0 c0 o0 HB
    go_wp2_with fail
    refine bodyPost_ret (v := .tuple #[.int .i64 0, .int .i64 0, .int .i64 0, .int .i64 8]) (by simp [results, Tryz.results23, go_sem]) rfl ⟨HL2.out, .inr ⟨HN.out, rfl⟩⟩
end Go.Proofs.YtedfajokiblfhaaGreat
