/- Walks of what makes a sheet bad by a norm: contracts of the functions. -/
import Derived.Test.YtjfakhfkbnnbcaaP11
namespace Go.Proofs.Ytjfakhfkbnnbcaa
open Go.RowKit

theorem so_keep {w W w2 : World} {a b : Nat} {x : Sh} {lo hi : Int} {fv : Value} (hb : Below W.heap.size W w2) (h : World.cell? (W) ⟨a, 0, none⟩ = some (.int .i64 x.tk) ∧ World.cell? (W) ⟨a, 1, none⟩ = some (.int .i64 x.hd) ∧ World.cell? (W) ⟨a, 2, none⟩ = some (.int .i64 x.bh) ∧ World.cell? (W) ⟨a, 3, none⟩ = some (.int .i64 x.ch) ∧ World.cell? (W) ⟨a, 4, none⟩ = some (.int .i64 x.ht) ∧ World.cell? (W) ⟨a, 5, none⟩ = some (.int .i64 x.ep) ∧ World.cell? (W) ⟨a, 6, none⟩ = some (.int .i64 x.bp) ∧ World.cell? (W) ⟨a, 7, none⟩ = some (.int .i64 x.wr) ∧ World.cell? (W) ⟨a, 8, none⟩ = some (.int .i64 x.th) ∧ World.cell? (W) ⟨a, 9, none⟩ = some (.int .i64 x.cs) ∧ World.cell? (W) ⟨b, 0, none⟩ = some (.int .i64 lo) ∧ World.cell? (W) ⟨b + 1, 0, none⟩ = some (.int .i64 hi) ∧ World.cell? (W) ⟨b + 2, 0, none⟩ = some fv ∧ Below w.heap.size w (W)) : World.cell? (w2) ⟨a, 0, none⟩ = some (.int .i64 x.tk) ∧ World.cell? (w2) ⟨a, 1, none⟩ = some (.int .i64 x.hd) ∧ World.cell? (w2) ⟨a, 2, none⟩ = some (.int .i64 x.bh) ∧ World.cell? (w2) ⟨a, 3, none⟩ = some (.int .i64 x.ch) ∧ World.cell? (w2) ⟨a, 4, none⟩ = some (.int .i64 x.ht) ∧ World.cell? (w2) ⟨a, 5, none⟩ = some (.int .i64 x.ep) ∧ World.cell? (w2) ⟨a, 6, none⟩ = some (.int .i64 x.bp) ∧ World.cell? (w2) ⟨a, 7, none⟩ = some (.int .i64 x.wr) ∧ World.cell? (w2) ⟨a, 8, none⟩ = some (.int .i64 x.th) ∧ World.cell? (w2) ⟨a, 9, none⟩ = some (.int .i64 x.cs) ∧ World.cell? (w2) ⟨b, 0, none⟩ = some (.int .i64 lo) ∧ World.cell? (w2) ⟨b + 1, 0, none⟩ = some (.int .i64 hi) ∧ World.cell? (w2) ⟨b + 2, 0, none⟩ = some fv ∧ Below w.heap.size w (w2) :=
  ⟨keep_cell hb h.1, keep_cell hb h.2.1, keep_cell hb h.2.2.1, keep_cell hb h.2.2.2.1, keep_cell hb h.2.2.2.2.1, keep_cell hb h.2.2.2.2.2.1, keep_cell hb h.2.2.2.2.2.2.1, keep_cell hb h.2.2.2.2.2.2.2.1, keep_cell hb h.2.2.2.2.2.2.2.2.1, keep_cell hb h.2.2.2.2.2.2.2.2.2.1, keep_cell hb h.2.2.2.2.2.2.2.2.2.2.1, keep_cell hb h.2.2.2.2.2.2.2.2.2.2.2.1, keep_cell hb h.2.2.2.2.2.2.2.2.2.2.2.2.1, bstep h.2.2.2.2.2.2.2.2.2.2.2.2.2 h.2.2.2.2.2.2.2.2.2.2.2.2.2.size hb⟩
theorem so_new {w W : World} {a b : Nat} {x : Sh} {lo hi : Int} {fv : Value} (hx : BoxS W a x) (ho : OutB W b lo hi fv) (hb : Below w.heap.size w W) : World.cell? (W.drew) ⟨a, 0, none⟩ = some (.int .i64 x.tk) ∧ World.cell? (W.drew) ⟨a, 1, none⟩ = some (.int .i64 x.hd) ∧ World.cell? (W.drew) ⟨a, 2, none⟩ = some (.int .i64 x.bh) ∧ World.cell? (W.drew) ⟨a, 3, none⟩ = some (.int .i64 x.ch) ∧ World.cell? (W.drew) ⟨a, 4, none⟩ = some (.int .i64 x.ht) ∧ World.cell? (W.drew) ⟨a, 5, none⟩ = some (.int .i64 x.ep) ∧ World.cell? (W.drew) ⟨a, 6, none⟩ = some (.int .i64 x.bp) ∧ World.cell? (W.drew) ⟨a, 7, none⟩ = some (.int .i64 x.wr) ∧ World.cell? (W.drew) ⟨a, 8, none⟩ = some (.int .i64 x.th) ∧ World.cell? (W.drew) ⟨a, 9, none⟩ = some (.int .i64 x.cs) ∧ World.cell? (W.drew) ⟨b, 0, none⟩ = some (.int .i64 lo) ∧ World.cell? (W.drew) ⟨b + 1, 0, none⟩ = some (.int .i64 hi) ∧ World.cell? (W.drew) ⟨b + 2, 0, none⟩ = some fv ∧ Below w.heap.size w (W.drew) := by
  obtain ⟨b0, b1, b2, b3, b4, b5, b6, b7, b8, b9⟩ := hx
  exact ⟨b0, b1, b2, b3, b4, b5, b6, b7, b8, b9, ho.1, ho.2.1, ho.2.2, hb.drew⟩
theorem so_low {w W : World} {a b : Nat} {x : Sh} {lo hi : Int} {fv : Value} (h : World.cell? (W) ⟨a, 0, none⟩ = some (.int .i64 x.tk) ∧ World.cell? (W) ⟨a, 1, none⟩ = some (.int .i64 x.hd) ∧ World.cell? (W) ⟨a, 2, none⟩ = some (.int .i64 x.bh) ∧ World.cell? (W) ⟨a, 3, none⟩ = some (.int .i64 x.ch) ∧ World.cell? (W) ⟨a, 4, none⟩ = some (.int .i64 x.ht) ∧ World.cell? (W) ⟨a, 5, none⟩ = some (.int .i64 x.ep) ∧ World.cell? (W) ⟨a, 6, none⟩ = some (.int .i64 x.bp) ∧ World.cell? (W) ⟨a, 7, none⟩ = some (.int .i64 x.wr) ∧ World.cell? (W) ⟨a, 8, none⟩ = some (.int .i64 x.th) ∧ World.cell? (W) ⟨a, 9, none⟩ = some (.int .i64 x.cs) ∧ World.cell? (W) ⟨b, 0, none⟩ = some (.int .i64 lo) ∧ World.cell? (W) ⟨b + 1, 0, none⟩ = some (.int .i64 hi) ∧ World.cell? (W) ⟨b + 2, 0, none⟩ = some fv ∧ Below w.heap.size w (W)) : Below w.heap.size w W := h.2.2.2.2.2.2.2.2.2.2.2.2.2
theorem sp_keep {w W w2 : World} {a nb : Nat} {x : Sh} {q : Int} (hb : Below W.heap.size W w2) (h : World.cell? (W) ⟨a, 0, none⟩ = some (.int .i64 x.tk) ∧ World.cell? (W) ⟨a, 1, none⟩ = some (.int .i64 x.hd) ∧ World.cell? (W) ⟨a, 2, none⟩ = some (.int .i64 x.bh) ∧ World.cell? (W) ⟨a, 3, none⟩ = some (.int .i64 x.ch) ∧ World.cell? (W) ⟨a, 4, none⟩ = some (.int .i64 x.ht) ∧ World.cell? (W) ⟨a, 5, none⟩ = some (.int .i64 x.ep) ∧ World.cell? (W) ⟨a, 6, none⟩ = some (.int .i64 x.bp) ∧ World.cell? (W) ⟨a, 7, none⟩ = some (.int .i64 x.wr) ∧ World.cell? (W) ⟨a, 8, none⟩ = some (.int .i64 x.th) ∧ World.cell? (W) ⟨a, 9, none⟩ = some (.int .i64 x.cs) ∧ World.cell? (W) ⟨nb, 4, none⟩ = some (.int .i64 q) ∧ Below w.heap.size w (W)) : World.cell? (w2) ⟨a, 0, none⟩ = some (.int .i64 x.tk) ∧ World.cell? (w2) ⟨a, 1, none⟩ = some (.int .i64 x.hd) ∧ World.cell? (w2) ⟨a, 2, none⟩ = some (.int .i64 x.bh) ∧ World.cell? (w2) ⟨a, 3, none⟩ = some (.int .i64 x.ch) ∧ World.cell? (w2) ⟨a, 4, none⟩ = some (.int .i64 x.ht) ∧ World.cell? (w2) ⟨a, 5, none⟩ = some (.int .i64 x.ep) ∧ World.cell? (w2) ⟨a, 6, none⟩ = some (.int .i64 x.bp) ∧ World.cell? (w2) ⟨a, 7, none⟩ = some (.int .i64 x.wr) ∧ World.cell? (w2) ⟨a, 8, none⟩ = some (.int .i64 x.th) ∧ World.cell? (w2) ⟨a, 9, none⟩ = some (.int .i64 x.cs) ∧ World.cell? (w2) ⟨nb, 4, none⟩ = some (.int .i64 q) ∧ Below w.heap.size w (w2) :=
  ⟨keep_cell hb h.1, keep_cell hb h.2.1, keep_cell hb h.2.2.1, keep_cell hb h.2.2.2.1, keep_cell hb h.2.2.2.2.1, keep_cell hb h.2.2.2.2.2.1, keep_cell hb h.2.2.2.2.2.2.1, keep_cell hb h.2.2.2.2.2.2.2.1, keep_cell hb h.2.2.2.2.2.2.2.2.1, keep_cell hb h.2.2.2.2.2.2.2.2.2.1, keep_cell hb h.2.2.2.2.2.2.2.2.2.2.1, bstep h.2.2.2.2.2.2.2.2.2.2.2 h.2.2.2.2.2.2.2.2.2.2.2.size hb⟩
theorem sp_new {w W : World} {a nb : Nat} {x : Sh} {q : Int} (hx : BoxS W a x) (ho : W.cell? ⟨nb, 4, none⟩ = some (.int .i64 q)) (hb : Below w.heap.size w W) : World.cell? (W.drew) ⟨a, 0, none⟩ = some (.int .i64 x.tk) ∧ World.cell? (W.drew) ⟨a, 1, none⟩ = some (.int .i64 x.hd) ∧ World.cell? (W.drew) ⟨a, 2, none⟩ = some (.int .i64 x.bh) ∧ World.cell? (W.drew) ⟨a, 3, none⟩ = some (.int .i64 x.ch) ∧ World.cell? (W.drew) ⟨a, 4, none⟩ = some (.int .i64 x.ht) ∧ World.cell? (W.drew) ⟨a, 5, none⟩ = some (.int .i64 x.ep) ∧ World.cell? (W.drew) ⟨a, 6, none⟩ = some (.int .i64 x.bp) ∧ World.cell? (W.drew) ⟨a, 7, none⟩ = some (.int .i64 x.wr) ∧ World.cell? (W.drew) ⟨a, 8, none⟩ = some (.int .i64 x.th) ∧ World.cell? (W.drew) ⟨a, 9, none⟩ = some (.int .i64 x.cs) ∧ World.cell? (W.drew) ⟨nb, 4, none⟩ = some (.int .i64 q) ∧ Below w.heap.size w (W.drew) := by
  obtain ⟨b0, b1, b2, b3, b4, b5, b6, b7, b8, b9⟩ := hx
  exact ⟨b0, b1, b2, b3, b4, b5, b6, b7, b8, b9, ho, hb.drew⟩
theorem sp_low {w W : World} {a nb : Nat} {x : Sh} {q : Int} (h : World.cell? (W) ⟨a, 0, none⟩ = some (.int .i64 x.tk) ∧ World.cell? (W) ⟨a, 1, none⟩ = some (.int .i64 x.hd) ∧ World.cell? (W) ⟨a, 2, none⟩ = some (.int .i64 x.bh) ∧ World.cell? (W) ⟨a, 3, none⟩ = some (.int .i64 x.ch) ∧ World.cell? (W) ⟨a, 4, none⟩ = some (.int .i64 x.ht) ∧ World.cell? (W) ⟨a, 5, none⟩ = some (.int .i64 x.ep) ∧ World.cell? (W) ⟨a, 6, none⟩ = some (.int .i64 x.bp) ∧ World.cell? (W) ⟨a, 7, none⟩ = some (.int .i64 x.wr) ∧ World.cell? (W) ⟨a, 8, none⟩ = some (.int .i64 x.th) ∧ World.cell? (W) ⟨a, 9, none⟩ = some (.int .i64 x.cs) ∧ World.cell? (W) ⟨nb, 4, none⟩ = some (.int .i64 q) ∧ Below w.heap.size w (W)) : Below w.heap.size w W := h.2.2.2.2.2.2.2.2.2.2.2
set_option maxHeartbeats 1000000 in
theorem meas1_any (x : Sh) (w : World) : Calls Try.prog 77 #[.agg #[.int .i64 x.tk, .int .i64 x.hd, .int .i64 x.bh, .int .i64 x.ch, .int .i64 x.ht, .int .i64 x.ep, .int .i64 x.bp, .int .i64 x.wr, .int .i64 x.th, .int .i64 x.cs]] w fun e w' => e = .returned (.int .i64 x.bh) ∧ Below w.heap.size w w' := by
  have HB := hid (boxS_below w x)
  go_enter Try.func77, Try.ntmps77
  go_wp2
  go_ret
  exact ⟨rfl, HB.out⟩
set_option maxHeartbeats 1000000 in
theorem meas2_any (x : Sh) (w : World) : Calls Try.prog 78 #[.agg #[.int .i64 x.tk, .int .i64 x.hd, .int .i64 x.bh, .int .i64 x.ch, .int .i64 x.ht, .int .i64 x.ep, .int .i64 x.bp, .int .i64 x.wr, .int .i64 x.th, .int .i64 x.cs]] w fun e w' => e = .returned (.int .i64 x.ch) ∧ Below w.heap.size w w' := by
  have HB := hid (boxS_below w x)
  go_enter Try.func78, Try.ntmps78
  go_wp2
  go_ret
  exact ⟨rfl, HB.out⟩
set_option maxHeartbeats 1000000 in
theorem meas5_any (x : Sh) (w : World) : Calls Try.prog 81 #[.agg #[.int .i64 x.tk, .int .i64 x.hd, .int .i64 x.bh, .int .i64 x.ch, .int .i64 x.ht, .int .i64 x.ep, .int .i64 x.bp, .int .i64 x.wr, .int .i64 x.th, .int .i64 x.cs]] w fun e w' => e = .returned (.int .i64 x.th) ∧ Below w.heap.size w w' := by
  have HB := hid (boxS_below w x)
  go_enter Try.func81, Try.ntmps81
  go_wp2
  go_ret
  exact ⟨rfl, HB.out⟩
set_option maxHeartbeats 1000000 in
theorem meas6_any (x : Sh) (w : World) : Calls Try.prog 82 #[.agg #[.int .i64 x.tk, .int .i64 x.hd, .int .i64 x.bh, .int .i64 x.ch, .int .i64 x.ht, .int .i64 x.ep, .int .i64 x.bp, .int .i64 x.wr, .int .i64 x.th, .int .i64 x.cs]] w fun e w' => e = .returned (.int .i64 x.cs) ∧ Below w.heap.size w w' := by
  have HB := hid (boxS_below w x)
  go_enter Try.func82, Try.ntmps82
  go_wp2
  go_ret
  exact ⟨rfl, HB.out⟩
set_option maxRecDepth 20000 in
set_option maxHeartbeats 4000000 in
theorem fault1_any (x : Sh) (lo hi : Int) (b : Nat) (w : World) (ho : OutB w b lo hi (.func (.func 77) #[] #[])) :
    Calls Try.prog 91 #[.agg #[.int .i64 x.tk, .int .i64 x.hd, .int .i64 x.bh, .int .i64 x.ch, .int .i64 x.ht, .int .i64 x.ep, .int .i64 x.bp, .int .i64 x.wr, .int .i64 x.th, .int .i64 x.cs], .pointer (some ⟨b + 2, 0, none⟩), .pointer (some ⟨b, 0, none⟩), .pointer (some ⟨b + 1, 0, none⟩)] w fun e w' => e = .returned (.bool (!inB x.bh lo hi)) ∧ Below w.heap.size w w' := by
  have HX := hid (boxS_new w x)
  have HB := hid (boxS_below w x)
  have HO := hid (ho.keep (boxS_below w x))
  clear ho
  go_enter Try.func91, Try.ntmps91
  go_wp2
  generalize World.alloc w _ = W0 at *
  go_region_held3 (fun w' => World.cell? (w') ⟨w.heap.size, 0, none⟩ = some (.int .i64 x.tk) ∧ World.cell? (w') ⟨w.heap.size, 1, none⟩ = some (.int .i64 x.hd) ∧ World.cell? (w') ⟨w.heap.size, 2, none⟩ = some (.int .i64 x.bh) ∧ World.cell? (w') ⟨w.heap.size, 3, none⟩ = some (.int .i64 x.ch) ∧ World.cell? (w') ⟨w.heap.size, 4, none⟩ = some (.int .i64 x.ht) ∧ World.cell? (w') ⟨w.heap.size, 5, none⟩ = some (.int .i64 x.ep) ∧ World.cell? (w') ⟨w.heap.size, 6, none⟩ = some (.int .i64 x.bp) ∧ World.cell? (w') ⟨w.heap.size, 7, none⟩ = some (.int .i64 x.wr) ∧ World.cell? (w') ⟨w.heap.size, 8, none⟩ = some (.int .i64 x.th) ∧ World.cell? (w') ⟨w.heap.size, 9, none⟩ = some (.int .i64 x.cs) ∧ World.cell? (w') ⟨b, 0, none⟩ = some (.int .i64 lo) ∧ World.cell? (w') ⟨b + 1, 0, none⟩ = some (.int .i64 hi) ∧ World.cell? (w') ⟨b + 2, 0, none⟩ = some (.func (.func 77) #[] #[]) ∧ Below w.heap.size w (w')) (first | exact so_new HX.out HO.out HB.out | assumption | exact so_keep (by assumption) (by assumption)) (first
    | (go_at_call 77; refine (meas1_any x _).mono ?_; rintro e w2 ⟨rfl, hb⟩)
    | (go_at_call 41; refine (kwithin_any _ _ _ _).mono ?_; rintro e w2 ⟨rfl, rfl⟩))
  rename_i hS
  have hB9 := so_low hS
  go_wp2
  go_ret
  exact ⟨rfl, hB9⟩
set_option maxRecDepth 20000 in
set_option maxHeartbeats 4000000 in
theorem fault2_any (x : Sh) (lo hi : Int) (b : Nat) (w : World) (ho : OutB w b lo hi (.func (.func 78) #[] #[])) :
    Calls Try.prog 91 #[.agg #[.int .i64 x.tk, .int .i64 x.hd, .int .i64 x.bh, .int .i64 x.ch, .int .i64 x.ht, .int .i64 x.ep, .int .i64 x.bp, .int .i64 x.wr, .int .i64 x.th, .int .i64 x.cs], .pointer (some ⟨b + 2, 0, none⟩), .pointer (some ⟨b, 0, none⟩), .pointer (some ⟨b + 1, 0, none⟩)] w fun e w' => e = .returned (.bool (!inB x.ch lo hi)) ∧ Below w.heap.size w w' := by
  have HX := hid (boxS_new w x)
  have HB := hid (boxS_below w x)
  have HO := hid (ho.keep (boxS_below w x))
  clear ho
  go_enter Try.func91, Try.ntmps91
  go_wp2
  generalize World.alloc w _ = W0 at *
  go_region_held3 (fun w' => World.cell? (w') ⟨w.heap.size, 0, none⟩ = some (.int .i64 x.tk) ∧ World.cell? (w') ⟨w.heap.size, 1, none⟩ = some (.int .i64 x.hd) ∧ World.cell? (w') ⟨w.heap.size, 2, none⟩ = some (.int .i64 x.bh) ∧ World.cell? (w') ⟨w.heap.size, 3, none⟩ = some (.int .i64 x.ch) ∧ World.cell? (w') ⟨w.heap.size, 4, none⟩ = some (.int .i64 x.ht) ∧ World.cell? (w') ⟨w.heap.size, 5, none⟩ = some (.int .i64 x.ep) ∧ World.cell? (w') ⟨w.heap.size, 6, none⟩ = some (.int .i64 x.bp) ∧ World.cell? (w') ⟨w.heap.size, 7, none⟩ = some (.int .i64 x.wr) ∧ World.cell? (w') ⟨w.heap.size, 8, none⟩ = some (.int .i64 x.th) ∧ World.cell? (w') ⟨w.heap.size, 9, none⟩ = some (.int .i64 x.cs) ∧ World.cell? (w') ⟨b, 0, none⟩ = some (.int .i64 lo) ∧ World.cell? (w') ⟨b + 1, 0, none⟩ = some (.int .i64 hi) ∧ World.cell? (w') ⟨b + 2, 0, none⟩ = some (.func (.func 78) #[] #[]) ∧ Below w.heap.size w (w')) (first | exact so_new HX.out HO.out HB.out | assumption | exact so_keep (by assumption) (by assumption)) (first
    | (go_at_call 78; refine (meas2_any x _).mono ?_; rintro e w2 ⟨rfl, hb⟩)
    | (go_at_call 41; refine (kwithin_any _ _ _ _).mono ?_; rintro e w2 ⟨rfl, rfl⟩))
  rename_i hS
  have hB9 := so_low hS
  go_wp2
  go_ret
  exact ⟨rfl, hB9⟩
set_option maxRecDepth 20000 in
set_option maxHeartbeats 4000000 in
theorem fault5_any (x : Sh) (lo hi : Int) (b : Nat) (w : World) (ho : OutB w b lo hi (.func (.func 81) #[] #[])) :
    Calls Try.prog 91 #[.agg #[.int .i64 x.tk, .int .i64 x.hd, .int .i64 x.bh, .int .i64 x.ch, .int .i64 x.ht, .int .i64 x.ep, .int .i64 x.bp, .int .i64 x.wr, .int .i64 x.th, .int .i64 x.cs], .pointer (some ⟨b + 2, 0, none⟩), .pointer (some ⟨b, 0, none⟩), .pointer (some ⟨b + 1, 0, none⟩)] w fun e w' => e = .returned (.bool (!inB x.th lo hi)) ∧ Below w.heap.size w w' := by
  have HX := hid (boxS_new w x)
  have HB := hid (boxS_below w x)
  have HO := hid (ho.keep (boxS_below w x))
  clear ho
  go_enter Try.func91, Try.ntmps91
  go_wp2
  generalize World.alloc w _ = W0 at *
  go_region_held3 (fun w' => World.cell? (w') ⟨w.heap.size, 0, none⟩ = some (.int .i64 x.tk) ∧ World.cell? (w') ⟨w.heap.size, 1, none⟩ = some (.int .i64 x.hd) ∧ World.cell? (w') ⟨w.heap.size, 2, none⟩ = some (.int .i64 x.bh) ∧ World.cell? (w') ⟨w.heap.size, 3, none⟩ = some (.int .i64 x.ch) ∧ World.cell? (w') ⟨w.heap.size, 4, none⟩ = some (.int .i64 x.ht) ∧ World.cell? (w') ⟨w.heap.size, 5, none⟩ = some (.int .i64 x.ep) ∧ World.cell? (w') ⟨w.heap.size, 6, none⟩ = some (.int .i64 x.bp) ∧ World.cell? (w') ⟨w.heap.size, 7, none⟩ = some (.int .i64 x.wr) ∧ World.cell? (w') ⟨w.heap.size, 8, none⟩ = some (.int .i64 x.th) ∧ World.cell? (w') ⟨w.heap.size, 9, none⟩ = some (.int .i64 x.cs) ∧ World.cell? (w') ⟨b, 0, none⟩ = some (.int .i64 lo) ∧ World.cell? (w') ⟨b + 1, 0, none⟩ = some (.int .i64 hi) ∧ World.cell? (w') ⟨b + 2, 0, none⟩ = some (.func (.func 81) #[] #[]) ∧ Below w.heap.size w (w')) (first | exact so_new HX.out HO.out HB.out | assumption | exact so_keep (by assumption) (by assumption)) (first
    | (go_at_call 81; refine (meas5_any x _).mono ?_; rintro e w2 ⟨rfl, hb⟩)
    | (go_at_call 41; refine (kwithin_any _ _ _ _).mono ?_; rintro e w2 ⟨rfl, rfl⟩))
  rename_i hS
  have hB9 := so_low hS
  go_wp2
  go_ret
  exact ⟨rfl, hB9⟩
set_option maxRecDepth 20000 in
set_option maxHeartbeats 4000000 in
theorem fault6_any (x : Sh) (lo hi : Int) (b : Nat) (w : World) (ho : OutB w b lo hi (.func (.func 82) #[] #[])) :
    Calls Try.prog 91 #[.agg #[.int .i64 x.tk, .int .i64 x.hd, .int .i64 x.bh, .int .i64 x.ch, .int .i64 x.ht, .int .i64 x.ep, .int .i64 x.bp, .int .i64 x.wr, .int .i64 x.th, .int .i64 x.cs], .pointer (some ⟨b + 2, 0, none⟩), .pointer (some ⟨b, 0, none⟩), .pointer (some ⟨b + 1, 0, none⟩)] w fun e w' => e = .returned (.bool (!inB x.cs lo hi)) ∧ Below w.heap.size w w' := by
  have HX := hid (boxS_new w x)
  have HB := hid (boxS_below w x)
  have HO := hid (ho.keep (boxS_below w x))
  clear ho
  go_enter Try.func91, Try.ntmps91
  go_wp2
  generalize World.alloc w _ = W0 at *
  go_region_held3 (fun w' => World.cell? (w') ⟨w.heap.size, 0, none⟩ = some (.int .i64 x.tk) ∧ World.cell? (w') ⟨w.heap.size, 1, none⟩ = some (.int .i64 x.hd) ∧ World.cell? (w') ⟨w.heap.size, 2, none⟩ = some (.int .i64 x.bh) ∧ World.cell? (w') ⟨w.heap.size, 3, none⟩ = some (.int .i64 x.ch) ∧ World.cell? (w') ⟨w.heap.size, 4, none⟩ = some (.int .i64 x.ht) ∧ World.cell? (w') ⟨w.heap.size, 5, none⟩ = some (.int .i64 x.ep) ∧ World.cell? (w') ⟨w.heap.size, 6, none⟩ = some (.int .i64 x.bp) ∧ World.cell? (w') ⟨w.heap.size, 7, none⟩ = some (.int .i64 x.wr) ∧ World.cell? (w') ⟨w.heap.size, 8, none⟩ = some (.int .i64 x.th) ∧ World.cell? (w') ⟨w.heap.size, 9, none⟩ = some (.int .i64 x.cs) ∧ World.cell? (w') ⟨b, 0, none⟩ = some (.int .i64 lo) ∧ World.cell? (w') ⟨b + 1, 0, none⟩ = some (.int .i64 hi) ∧ World.cell? (w') ⟨b + 2, 0, none⟩ = some (.func (.func 82) #[] #[]) ∧ Below w.heap.size w (w')) (first | exact so_new HX.out HO.out HB.out | assumption | exact so_keep (by assumption) (by assumption)) (first
    | (go_at_call 82; refine (meas6_any x _).mono ?_; rintro e w2 ⟨rfl, hb⟩)
    | (go_at_call 41; refine (kwithin_any _ _ _ _).mono ?_; rintro e w2 ⟨rfl, rfl⟩))
  rename_i hS
  have hB9 := so_low hS
  go_wp2
  go_ret
  exact ⟨rfl, hB9⟩
set_option maxRecDepth 20000 in
set_option maxHeartbeats 4000000 in
theorem fault3_any (x : Sh) (q : Int) (nb : Nat) (w : World) (hx : ShOk x) (hn : w.cell? ⟨nb, 4, none⟩ = some (.int .i64 q)) :
    Calls Try.prog 79 #[.agg #[.int .i64 x.tk, .int .i64 x.hd, .int .i64 x.bh, .int .i64 x.ch, .int .i64 x.ht, .int .i64 x.ep, .int .i64 x.bp, .int .i64 x.wr, .int .i64 x.th, .int .i64 x.cs], .pointer (some ⟨nb, 0, none⟩)] w fun e w' => e = .returned (.bool (decide (pctT x < q))) ∧ Below w.heap.size w w' := by
  have HX := hid (boxS_new w x)
  have HB := hid (boxS_below w x)
  have HOK := hid hx
  have HN := hid (keep_cell (boxS_below w x) hn)
  clear hn hx
  obtain ⟨P, hP⟩ : ∃ P, P = pctT x := ⟨_, rfl⟩
  have HP := hid hP
  rw [← hP]
  clear hP
  go_enter Try.func79, Try.ntmps79
  go_wp2
  generalize World.alloc w _ = W0 at *
  go_region_held3 (fun w' => World.cell? (w') ⟨w.heap.size, 0, none⟩ = some (.int .i64 x.tk) ∧ World.cell? (w') ⟨w.heap.size, 1, none⟩ = some (.int .i64 x.hd) ∧ World.cell? (w') ⟨w.heap.size, 2, none⟩ = some (.int .i64 x.bh) ∧ World.cell? (w') ⟨w.heap.size, 3, none⟩ = some (.int .i64 x.ch) ∧ World.cell? (w') ⟨w.heap.size, 4, none⟩ = some (.int .i64 x.ht) ∧ World.cell? (w') ⟨w.heap.size, 5, none⟩ = some (.int .i64 x.ep) ∧ World.cell? (w') ⟨w.heap.size, 6, none⟩ = some (.int .i64 x.bp) ∧ World.cell? (w') ⟨w.heap.size, 7, none⟩ = some (.int .i64 x.wr) ∧ World.cell? (w') ⟨w.heap.size, 8, none⟩ = some (.int .i64 x.th) ∧ World.cell? (w') ⟨w.heap.size, 9, none⟩ = some (.int .i64 x.cs) ∧ World.cell? (w') ⟨nb, 4, none⟩ = some (.int .i64 q) ∧ Below w.heap.size w (w')) (first | exact sp_new HX.out HN.out HB.out | assumption | exact sp_keep (by assumption) (by assumption)) ((go_at_call 53; refine (kpct_any x _ HOK.out).mono ?_; rintro e w2 ⟨rfl, hb⟩; rw [← HP.out]))
  rename_i hS
  have hB9 := sp_low hS
  go_wp2
  go_ret
  exact ⟨rfl, hB9⟩
set_option maxHeartbeats 1000000 in
theorem fault4_any (x : Sh) (q : Int) (nb : Nat) (w : World) (hn : w.cell? ⟨nb, 5, none⟩ = some (.int .i64 q)) :
    Calls Try.prog 80 #[.agg #[.int .i64 x.tk, .int .i64 x.hd, .int .i64 x.bh, .int .i64 x.ch, .int .i64 x.ht, .int .i64 x.ep, .int .i64 x.bp, .int .i64 x.wr, .int .i64 x.th, .int .i64 x.cs], .pointer (some ⟨nb, 0, none⟩)] w fun e w' => e = .returned (.bool (decide (q < x.wr))) ∧ Below w.heap.size w w' := by
  have HB := hid (boxS_below w x)
  have hn2 := keep_cell (boxS_below w x) hn
  clear hn
  go_enter Try.func80, Try.ntmps80
  go_wp2
  go_ret
  exact ⟨rfl, HB.out⟩
end Go.Proofs.Ytjfakhfkbnnbcaa
