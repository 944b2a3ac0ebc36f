/- Walk of before: contract. -/
import Derived.Test.YtjfakhfkbnnbcaaOr
namespace Go.Proofs.Ytjfakhfkbnnbcaa
open Go.RowKit

def befB (x y : Sh) : Bool := decide (x.tk < y.tk) || (decide (x.tk = y.tk) && decide (x.hd < y.hd))
theorem befB_or (x y : Sh) : decide (orI (cmpI x.tk y.tk) (cmpI x.hd y.hd) < 0) = befB x y := by
  unfold orI cmpI befB
  rw [Bool.eq_iff_iff]
  simp only [decide_eq_true_iff, Bool.or_eq_true, Bool.and_eq_true]
  (repeat' split) <;> omega
set_option maxRecDepth 20000 in
set_option maxHeartbeats 4000000 in
theorem before_any (x y : Sh) (w : World) : Calls Try.prog 57 #[.agg #[.int .i64 x.tk, .int .i64 x.hd, .int .i64 x.bh, .int .i64 x.ch, .int .i64 x.ht, .int .i64 x.ep, .int .i64 x.bp, .int .i64 x.wr, .int .i64 x.th, .int .i64 x.cs], .agg #[.int .i64 y.tk, .int .i64 y.hd, .int .i64 y.bh, .int .i64 y.ch, .int .i64 y.ht, .int .i64 y.ep, .int .i64 y.bp, .int .i64 y.wr, .int .i64 y.th, .int .i64 y.cs]] w fun e w' => e = .returned (.bool (befB x y)) ∧ Below w.heap.size w w' := by
  have HX := hid (box2_start (w := w) (A := #[.int .i64 x.tk, .int .i64 x.hd, .int .i64 x.bh, .int .i64 x.ch, .int .i64 x.ht, .int .i64 x.ep, .int .i64 x.bp, .int .i64 x.wr, .int .i64 x.th, .int .i64 x.cs]) (B := #[.int .i64 y.tk, .int .i64 y.hd, .int .i64 y.bh, .int .i64 y.ch, .int .i64 y.ht, .int .i64 y.ep, .int .i64 y.bp, .int .i64 y.wr, .int .i64 y.th, .int .i64 y.cs]) (T := 39) (T' := 39) (fz := (0, 0)) (fz' := (0, 0)))
  obtain ⟨c, hc⟩ : ∃ c, cmpI x.tk y.tk = c := ⟨_, rfl⟩
  obtain ⟨d, hd⟩ : ∃ d, cmpI x.hd y.hd = d := ⟨_, rfl⟩
  have HQ1 := hid (fun W => cmp_q _ _ _ hc W)
  have HQ2 := hid (fun W => cmp_q _ _ _ hd W)
  have HE := hid (befB_or x y)
  rw [hc, hd] at HE
  clear hc hd
  go_enter Try.func57, Try.ntmps57
  go_wp2
  obtain ⟨p0, p1⟩ := show World.cell? ((w.alloc (.cells #[.int .i64 x.tk, .int .i64 x.hd, .int .i64 x.bh, .int .i64 x.ch, .int .i64 x.ht, .int .i64 x.ep, .int .i64 x.bp, .int .i64 x.wr, .int .i64 x.th, .int .i64 x.cs] 39)).alloc (.cells #[.int .i64 y.tk, .int .i64 y.hd, .int .i64 y.bh, .int .i64 y.ch, .int .i64 y.ht, .int .i64 y.ep, .int .i64 y.bp, .int .i64 y.wr, .int .i64 y.th, .int .i64 y.cs] 39)) ⟨w.heap.size, 0, none⟩ = some (.int .i64 x.tk) ∧ World.cell? ((w.alloc (.cells #[.int .i64 x.tk, .int .i64 x.hd, .int .i64 x.bh, .int .i64 x.ch, .int .i64 x.ht, .int .i64 x.ep, .int .i64 x.bp, .int .i64 x.wr, .int .i64 x.th, .int .i64 x.cs] 39)).alloc (.cells #[.int .i64 y.tk, .int .i64 y.hd, .int .i64 y.bh, .int .i64 y.ch, .int .i64 y.ht, .int .i64 y.ep, .int .i64 y.bp, .int .i64 y.wr, .int .i64 y.th, .int .i64 y.cs] 39)) ⟨w.heap.size, 1, none⟩ = some (.int .i64 x.hd) from ⟨HX.out.fst 0, HX.out.fst 1⟩
  obtain ⟨q0, q1⟩ := show World.cell? ((w.alloc (.cells #[.int .i64 x.tk, .int .i64 x.hd, .int .i64 x.bh, .int .i64 x.ch, .int .i64 x.ht, .int .i64 x.ep, .int .i64 x.bp, .int .i64 x.wr, .int .i64 x.th, .int .i64 x.cs] 39)).alloc (.cells #[.int .i64 y.tk, .int .i64 y.hd, .int .i64 y.bh, .int .i64 y.ch, .int .i64 y.ht, .int .i64 y.ep, .int .i64 y.bp, .int .i64 y.wr, .int .i64 y.th, .int .i64 y.cs] 39)) ⟨w.heap.size + 1, 0, none⟩ = some (.int .i64 y.tk) ∧ World.cell? ((w.alloc (.cells #[.int .i64 x.tk, .int .i64 x.hd, .int .i64 x.bh, .int .i64 x.ch, .int .i64 x.ht, .int .i64 x.ep, .int .i64 x.bp, .int .i64 x.wr, .int .i64 x.th, .int .i64 x.cs] 39)).alloc (.cells #[.int .i64 y.tk, .int .i64 y.hd, .int .i64 y.bh, .int .i64 y.ch, .int .i64 y.ht, .int .i64 y.ep, .int .i64 y.bp, .int .i64 y.wr, .int .i64 y.th, .int .i64 y.cs] 39)) ⟨w.heap.size + 1, 1, none⟩ = some (.int .i64 y.hd) from ⟨HX.out.snd 0, HX.out.snd 1⟩
  generalize World.alloc (World.alloc w _) _ = W at *
  refine wp_region_still_tail 10 (by kernel_rfl) (by kernel_rfl) ?_
  simp only [List.take_succ_cons, List.take_zero, List.drop_succ_cons, List.drop_zero]
  iterate 4 still_step
  still_call (HQ1.out _)
  iterate 4 still_step
  still_call (HQ2.out _)
  refine wpStill_nil ?_
  have HB2 := hid (HX.out.low.drew.alloc (by have := HX.out.sz; simp; omega) (.cells #[.int .i64 c, .int .i64 d] 3))
  have HRW := hid (rowI_two (w := W.drew) (x := c) (y := d) (T := 3) rfl)
  go_wp2_with fail
  refine (or_any c d _ _ HRW.out).mono ?_
  rintro e w3 ⟨rfl, rfl⟩
  go_wp2_with fail
  go_ret
  exact ⟨ret_bool HE.out, HB2.out⟩
end Go.Proofs.Ytjfakhfkbnnbcaa
