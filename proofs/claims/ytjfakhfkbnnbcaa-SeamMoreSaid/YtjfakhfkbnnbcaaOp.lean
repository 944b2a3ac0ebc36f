/- Walks of the reference's Good and Faults: contracts. -/
import Derived.Test.YtjfakhfkbnnbcaaP14
namespace Go.Proofs.Ytjfakhfkbnnbcaa
open Go.RowKit

set_option maxRecDepth 20000 in
set_option maxHeartbeats 8000000 in
theorem kxgood_at (n : Nm) (x : Sh) (w : World) (B : Bool) (C : Int) (hB : B = (okG n x && goodB n x)) (hC : C = if okG n x then 0 else 1) : Calls Try.prog 18 #[.agg #[.int .i64 n.bl, .int .i64 n.bh, .int .i64 n.cl, .int .i64 n.ch, .int .i64 n.pc, .int .i64 n.wr, .int .i64 n.tl, .int .i64 n.th, .int .i64 n.sl, .int .i64 n.sh], .agg #[.int .i64 x.tk, .int .i64 x.hd, .int .i64 x.bh, .int .i64 x.ch, .int .i64 x.ht, .int .i64 x.ep, .int .i64 x.bp, .int .i64 x.wr, .int .i64 x.th, .int .i64 x.cs]] w (BoolP B C w) := by
  have HB := hid hB
  have HC := hid hC
  clear hB hC
  have HX0 := hid (box2_start (w := w) (A := #[.int .i64 n.bl, .int .i64 n.bh, .int .i64 n.cl, .int .i64 n.ch, .int .i64 n.pc, .int .i64 n.wr, .int .i64 n.tl, .int .i64 n.th, .int .i64 n.sl, .int .i64 n.sh]) (B := #[.int .i64 x.tk, .int .i64 x.hd, .int .i64 x.bh, .int .i64 x.ch, .int .i64 x.ht, .int .i64 x.ep, .int .i64 x.bp, .int .i64 x.wr, .int .i64 x.th, .int .i64 x.cs]) (T := 23) (T' := 39) (fz := (0, 0)) (fz' := (0, 0)))
  have HBX := hid (fun w1 (g : Below ((w.alloc (.cells #[.int .i64 n.bl, .int .i64 n.bh, .int .i64 n.cl, .int .i64 n.ch, .int .i64 n.pc, .int .i64 n.wr, .int .i64 n.tl, .int .i64 n.th, .int .i64 n.sl, .int .i64 n.sh] 23)).alloc (.cells #[.int .i64 x.tk, .int .i64 x.hd, .int .i64 x.bh, .int .i64 x.ch, .int .i64 x.ht, .int .i64 x.ep, .int .i64 x.bp, .int .i64 x.wr, .int .i64 x.th, .int .i64 x.cs] 39)).heap.size ((w.alloc (.cells #[.int .i64 n.bl, .int .i64 n.bh, .int .i64 n.cl, .int .i64 n.ch, .int .i64 n.pc, .int .i64 n.wr, .int .i64 n.tl, .int .i64 n.th, .int .i64 n.sl, .int .i64 n.sh] 23)).alloc (.cells #[.int .i64 x.tk, .int .i64 x.hd, .int .i64 x.bh, .int .i64 x.ch, .int .i64 x.ht, .int .i64 x.ep, .int .i64 x.bp, .int .i64 x.wr, .int .i64 x.th, .int .i64 x.cs] 39)) w1) => HX0.out.keep g)
  cases hn : nmB n
  · have HN := hid hn
    have hE : okG n x = false := by unfold okG; rw [hn]; rfl
    obtain rfl : B = false := by rw [HB.out, hE]; rfl
    obtain rfl : C = 1 := by rw [HC.out, hE]; rfl
    clear hE
    clear hn
    go_enter Try.func18, Try.ntmps18
    go_wp2_with fail
    refine (kxnorm_any n _).mono ?_
    rintro e w1 ⟨rfl, hb⟩
    rw [HN.out]
    have HX1 := hid (HBX.out _ hb)
    clear hb
    go_wp2_with fail
    go_ret2
    exact ⟨rfl, HX1.out.low⟩
  have HN := hid hn
  clear hn
  cases hx : shB x
  · have HX := hid hx
    have hE : okG n x = false := by unfold okG; rw [HN.out, hx]; rfl
    obtain rfl : B = false := by rw [HB.out, hE]; rfl
    obtain rfl : C = 1 := by rw [HC.out, hE]; rfl
    clear hE
    clear hx
    go_enter Try.func18, Try.ntmps18
    go_wp2_with fail
    refine (kxnorm_any n _).mono ?_
    rintro e w1 ⟨rfl, hb⟩
    rw [HN.out]
    have HX1 := hid (HBX.out _ hb)
    obtain ⟨b0, b1, b2, b3, b4, b5, b6, b7, b8, b9⟩ := HX1.out.sheet
    clear hb
    go_wp2_with fail
    refine (kxsheet_any x _).mono ?_
    rintro e w2 ⟨rfl, hb⟩
    rw [HX.out]
    have HX1 := hid (HX1.out.keep hb)
    clear hb b0 b1 b2 b3 b4 b5 b6 b7 b8 b9
    go_wp2_with fail
    go_ret2
    exact ⟨rfl, HX1.out.low⟩
  have HX := hid hx
  have hE : okG n x = true := by unfold okG; rw [HN.out, hx]; rfl
  have HG := hid (show B = goodB n x by rw [HB.out, hE]; rfl)
  obtain rfl : C = 0 := by rw [HC.out, hE]; rfl
  clear hE
  clear hx
  go_enter Try.func18, Try.ntmps18
  go_wp2_with fail
  refine (kxnorm_any n _).mono ?_
  rintro e w1 ⟨rfl, hb⟩
  rw [HN.out]
  have HX1 := hid (HBX.out _ hb)
  obtain ⟨b0, b1, b2, b3, b4, b5, b6, b7, b8, b9⟩ := HX1.out.sheet
  clear hb
  go_wp2_with fail
  refine (kxsheet_any x _).mono ?_
  rintro e w2 ⟨rfl, hb⟩
  rw [HX.out]
  have HX2 := hid (HX1.out.keep hb)
  clear hb b0 b1 b2 b3 b4 b5 b6 b7 b8 b9 HX1
  obtain ⟨n0, n1, n2, n3, n4, n5, n6, n7, n8, n9⟩ := HX2.out.norm
  obtain ⟨b0, b1, b2, b3, b4, b5, b6, b7, b8, b9⟩ := HX2.out.sheet
  go_wp2_with fail
  refine (xfaults_any n x _ HX.out).mono ?_
  rintro e w3 ⟨v, rfl, hrow, hb⟩
  have HB3 := hid (bstep HX2.out.low HX2.out.low.size hb)
  obtain ⟨va, vb, vo, vcap, rfl, _⟩ := hrow
  have HL := hid (good_list n x)
  obtain ⟨N, hN⟩ : ∃ N, N = (fltL n x 6).length := ⟨_, rfl⟩
  rw [← hN] at HL ⊢
  clear hN hb n0 n1 n2 n3 n4 n5 n6 n7 n8 n9 b0 b1 b2 b3 b4 b5 b6 b7 b8 b9
  by_cases h0 : N = 0
  · obtain rfl : B = true := by rw [HG.out, ← HL.out]; exact decide_eq_true h0
    subst h0
    go_wp2_with fail
    go_ret2
    exact ⟨rfl, HB3.out⟩
  · obtain rfl : B = false := by rw [HG.out, ← HL.out]; exact decide_eq_false h0
    have hb0 : ((N : Int) == 0) = false := by simp; omega
    have hb1 : (N == 0) = false := by simp; omega
    clear h0
    go_wp2_with fail
    go_ret2
    exact ⟨by simp, HB3.out⟩
theorem kxgood_any (n : Nm) (x : Sh) (w : World) : Calls Try.prog 18 #[.agg #[.int .i64 n.bl, .int .i64 n.bh, .int .i64 n.cl, .int .i64 n.ch, .int .i64 n.pc, .int .i64 n.wr, .int .i64 n.tl, .int .i64 n.th, .int .i64 n.sl, .int .i64 n.sh], .agg #[.int .i64 x.tk, .int .i64 x.hd, .int .i64 x.bh, .int .i64 x.ch, .int .i64 x.ht, .int .i64 x.ep, .int .i64 x.bp, .int .i64 x.wr, .int .i64 x.th, .int .i64 x.cs]] w (BoolP (okG n x && goodB n x) (if okG n x then 0 else 1) w) := kxgood_at n x w _ _ rfl rfl
end Go.Proofs.Ytjfakhfkbnnbcaa
