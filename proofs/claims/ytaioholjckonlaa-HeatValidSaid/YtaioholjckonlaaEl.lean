/- Walk of HeatValid. -/
import Derived.Test.YtaioholjckonlaaEh
namespace Go.Proofs.Ytaioholjckonlaa
open Go.RowKit

/-- Thirteen cells of four boxes, in a world that is W9 but for what is new. -/
def N13 (b n7 n9 : Nat) (W9 w1 : World) (c0 c1 c2 c3 c4 c5 c6 c7 c8 c9 c10 c11 c12 : Value) : Prop := w1.cell? ⟨b, 0, none⟩ = some c0 ∧ w1.cell? ⟨b, 1, none⟩ = some c1 ∧ w1.cell? ⟨b, 2, none⟩ = some c2 ∧ w1.cell? ⟨b, 3, none⟩ = some c3 ∧ w1.cell? ⟨b, 4, none⟩ = some c4 ∧ w1.cell? ⟨b, 5, none⟩ = some c5 ∧ w1.cell? ⟨b, 6, none⟩ = some c6 ∧ w1.cell? ⟨b + 1, 0, none⟩ = some c7 ∧ w1.cell? ⟨b + 1, 1, none⟩ = some c8 ∧ w1.cell? ⟨n7, 0, none⟩ = some c9 ∧ w1.cell? ⟨n7, 1, none⟩ = some c10 ∧ w1.cell? ⟨n9, 0, none⟩ = some c11 ∧ w1.cell? ⟨n9, 1, none⟩ = some c12 ∧ Below W9.heap.size W9 w1
section
variable {b n7 n9 : Nat} {W9 W w2 : World} {c0 c1 c2 c3 c4 c5 c6 c7 c8 c9 c10 c11 c12 : Value}
theorem N13.low (h : N13 b n7 n9 W9 W c0 c1 c2 c3 c4 c5 c6 c7 c8 c9 c10 c11 c12) : Below W9.heap.size W9 W := h.2.2.2.2.2.2.2.2.2.2.2.2.2
theorem n13_of (h : N13 b n7 n9 W9 W9 c0 c1 c2 c3 c4 c5 c6 c7 c8 c9 c10 c11 c12) (hb : Below W9.heap.size W9 W) : N13 b n7 n9 W9 W c0 c1 c2 c3 c4 c5 c6 c7 c8 c9 c10 c11 c12 := by
  obtain ⟨h0, h1, h2, h3, h4, h5, h6, h7, h8, h9, h10, h11, h12, _⟩ := h
  exact ⟨keep_cell hb h0, keep_cell hb h1, keep_cell hb h2, keep_cell hb h3, keep_cell hb h4, keep_cell hb h5, keep_cell hb h6, keep_cell hb h7, keep_cell hb h8, keep_cell hb h9, keep_cell hb h10, keep_cell hb h11, keep_cell hb h12, hb⟩
theorem n13_keep (h0 : N13 b n7 n9 W9 W9 c0 c1 c2 c3 c4 c5 c6 c7 c8 c9 c10 c11 c12) (h : N13 b n7 n9 W9 W c0 c1 c2 c3 c4 c5 c6 c7 c8 c9 c10 c11 c12) (hb : Below W.heap.size W w2) : N13 b n7 n9 W9 w2 c0 c1 c2 c3 c4 c5 c6 c7 c8 c9 c10 c11 c12 :=
  n13_of h0 (bstep h.low h.low.size hb)
end

set_option maxRecDepth 100000 in
set_option maxHeartbeats 8000000 in
theorem valid_walk (r l a b k a2 b2 : Int) (u : Value) (x : List Int) (br : Bool) (t : Int) (w : World) (hx : RowI w u x) (ht : (Lit.int .i64 t).wf = true) :
    Calls Try.prog 3 #[.agg #[.int .i64 r, .int .i64 l, .int .i64 a, .int .i64 b, .int .i64 k, .int .i64 a2, .int .i64 b2], .agg #[u, .bool br], .int .i64 t] w fun e w' => e = .returned (.bool true) ∧ Below w.heap.size w w' := by
  clear ht
  have HX := hid (fun w1 (g : Below w.heap.size w w1) => hx.keep g)
  obtain ⟨xa, xc, rfl⟩ := hx.shape
  clear hx
  have BX := hid (box2_start (w := w) (A := #[.int .i64 r, .int .i64 l, .int .i64 a, .int .i64 b, .int .i64 k, .int .i64 a2, .int .i64 b2]) (B := #[.slice xa x.length xc, .bool br]) (T := 23) (T' := 26) (fz := (0, 0)) (fz' := (0, 0)))
  obtain ⟨b0, b1, b2', b3, b4, b5, b6⟩ := BX.out.can
  obtain ⟨x0, x1⟩ := BX.out.body
  have hz := BX.out.sz
  by_cases h1 : x.length ≤ 100 ∧ 0 ≤ 80
  case neg =>
    have d1 := hid (decide_eq_false h1)
    go_enter Try.func3, Try.ntmps3
    go_wp2_with (first
      | (go_at_call 15; refine (brief_any _ _ _ _ _ _ _ _).mono ?_; rintro e w1 ⟨rfl, hb⟩; rw [d1.out]; have BX := hid (BX.out.keep hb); obtain ⟨b0, b1, b2', b3, b4, b5, b6⟩ := BX.out.can; obtain ⟨x0, x1⟩ := BX.out.body; have hz := BX.out.sz; clear hb)
      | (go_at_call 16; refine (awake_any _).mono ?_; rintro e w9 ⟨rfl, hb⟩; have BX := hid (BX.out.keep hb); obtain ⟨b0, b1, b2', b3, b4, b5, b6⟩ := BX.out.can; obtain ⟨x0, x1⟩ := BX.out.body; have hz := BX.out.sz; clear hb))
    go_ret
    exact ⟨rfl, BX.out.low⟩
  have d1 := hid (decide_eq_true h1)
  clear h1
  obtain ⟨O, hO⟩ : ∃ O, O = evenO r l a b k a2 b2 t := ⟨_, rfl⟩
  have HE1 : Hid (∀ w1, Calls Try.prog 17 #[.agg #[.int .i64 r, .int .i64 l, .int .i64 a, .int .i64 b, .int .i64 k, .int .i64 a2, .int .i64 b2], .int .i64 t] w1 (OutB O w1)) := fun w1 => by rw [hO]; exact even_all _ _ _ _ _ _ _ _ _
  have HE2 : Hid (∀ w1, Calls Try.prog 18 #[.agg #[.int .i64 r, .int .i64 l, .int .i64 a, .int .i64 b, .int .i64 k, .int .i64 a2, .int .i64 b2], .int .i64 t] w1 (OutB O w1)) := fun w1 => by rw [hO]; exact reven_any _ _ _ _ _ _ _ _ _
  clear hO
  obtain ⟨q1, hq1⟩ : ∃ q, q = canB r l a b k a2 b2 := ⟨_, rfl⟩
  obtain ⟨q2, hq2⟩ : ∃ q, q = bothB r l a b k a2 b2 x br := ⟨_, rfl⟩
  obtain ⟨q3, hq3⟩ : ∃ q : Int, q = (plcs r l a b k a2 b2 : Nat) := ⟨_, rfl⟩
  obtain ⟨q4, hq4⟩ : ∃ q, q = (((plcs r l a b k a2 b2 : Nat) : Int) == 1) := ⟨_, rfl⟩
  have HQ1 := hid hq1; have HQ2 := hid hq2; have HQ3 := hid hq3; have HQ4 := hid hq4
  clear hq1 hq2 hq3 hq4
  have s1 : (q1 == q1) = true := by simp
  have s2 : (q2 == q2) = true := by simp
  have s3 : (q3 == q3) = true := by simp
  have s4 : (q4 == q4) = true := by simp
  have s5 : (O.2 == O.2) = true := by simp
  go_enter Try.func3, Try.ntmps3
  go_wp2_with (first
      | (go_at_call 15; refine (brief_any _ _ _ _ _ _ _ _).mono ?_; rintro e w1 ⟨rfl, hb⟩; rw [d1.out]; have BX := hid (BX.out.keep hb); obtain ⟨b0, b1, b2', b3, b4, b5, b6⟩ := BX.out.can; obtain ⟨x0, x1⟩ := BX.out.body; have hz := BX.out.sz; clear hb))
  refine (HE1.out _).mono ?_
  rintro e w4 ⟨ua, uc, rfl, hr4, hb⟩
  clear b0 b1 b2' b3 b4 b5 b6 x0 x1 hz
  have BX := hid (BX.out.keep hb); obtain ⟨b0, b1, b2', b3, b4, b5, b6⟩ := BX.out.can; obtain ⟨x0, x1⟩ := BX.out.body; have hz := BX.out.sz; clear hb
  have hz0 : w.heap.size < _ := Nat.lt_of_succ_lt hz
  go_wp2_with fail
  obtain ⟨hb, z0, z1⟩ := laid2 (w2 := w4) (d0 := .slice ua O.1.1.length uc) (d1 := .bool O.1.2) (T := 26) rfl
  have HR4 := hid (hr4.keep hb)
  clear b0 b1 b2' b3 b4 b5 b6 x0 x1 hz
  have BX := hid (BX.out.keep hb); obtain ⟨b0, b1, b2', b3, b4, b5, b6⟩ := BX.out.can; obtain ⟨x0, x1⟩ := BX.out.body; have hz := BX.out.sz; clear hb
  have hz0 : w.heap.size < _ := Nat.lt_of_succ_lt hz
  refine (HE2.out _).mono ?_
  rintro e w6 ⟨ub, ud, rfl, hr6, hb⟩
  have HR4 := hid (HR4.out.keep hb)
  have z0 := keep_cell hb z0
  have z1 := keep_cell hb z1
  have hz4 : w4.heap.size < w6.heap.size := World.block_lt_of_cell? w6 ⟨w4.heap.size, 0, none⟩ z0
  clear b0 b1 b2' b3 b4 b5 b6 x0 x1 hz
  have BX := hid (BX.out.keep hb); obtain ⟨b0, b1, b2', b3, b4, b5, b6⟩ := BX.out.can; obtain ⟨x0, x1⟩ := BX.out.body; have hz := BX.out.sz; clear hb
  have hz0 : w.heap.size < _ := Nat.lt_of_succ_lt hz
  go_wp2_with fail
  obtain ⟨hb, y0, y1⟩ := laid2 (w2 := w6) (d0 := .slice ub O.1.1.length ud) (d1 := .bool O.1.2) (T := 26) rfl
  have HR4 := hid (HR4.out.keep hb)
  have HR6 := hid (hr6.keep hb)
  have z0 := keep_cell hb z0
  have z1 := keep_cell hb z1
  clear b0 b1 b2' b3 b4 b5 b6 x0 x1 hz
  have BX := hid (BX.out.keep hb); obtain ⟨b0, b1, b2', b3, b4, b5, b6⟩ := BX.out.can; obtain ⟨x0, x1⟩ := BX.out.body; have hz := BX.out.sz; clear hb
  have hz0 : w.heap.size < _ := Nat.lt_of_succ_lt hz
  obtain ⟨n9, hn9⟩ : ∃ n, n = w6.heap.size := ⟨_, rfl⟩
  obtain ⟨n7, hn7⟩ : ∃ n, n = w4.heap.size := ⟨_, rfl⟩
  generalize World.alloc w6 _ = W9 at *
  rw [← hn9] at y0 y1 ⊢
  rw [← hn7] at z0 z1 ⊢
  have HLW := hid BX.out.low
  have T0 := hid (show N13 w.heap.size n7 n9 W9 W9 _ _ _ _ _ _ _ _ _ _ _ _ _ from ⟨b0, b1, b2', b3, b4, b5, b6, x0, x1, z0, z1, y0, y1, Below.refl _ _⟩)
  clear hn9 hn7 hz4 hr4 hr6 HE1 HE2 BX
  first
  | go_region_held3 (fun w' => w'.cell? ⟨w.heap.size, 0, none⟩ = some (.int .i64 r) ∧ w'.cell? ⟨w.heap.size, 1, none⟩ = some (.int .i64 l) ∧ w'.cell? ⟨w.heap.size, 2, none⟩ = some (.int .i64 a) ∧ w'.cell? ⟨w.heap.size, 3, none⟩ = some (.int .i64 b) ∧ w'.cell? ⟨w.heap.size, 4, none⟩ = some (.int .i64 k) ∧ w'.cell? ⟨w.heap.size, 5, none⟩ = some (.int .i64 a2) ∧ w'.cell? ⟨w.heap.size, 6, none⟩ = some (.int .i64 b2) ∧ w'.cell? ⟨w.heap.size + 1, 0, none⟩ = some (.slice xa x.length xc) ∧ w'.cell? ⟨w.heap.size + 1, 1, none⟩ = some (.bool br) ∧ w'.cell? ⟨n7, 0, none⟩ = some (.slice ua O.1.1.length uc) ∧ w'.cell? ⟨n7, 1, none⟩ = some (.bool O.1.2) ∧ w'.cell? ⟨n9, 0, none⟩ = some (.slice ub O.1.1.length ud) ∧ w'.cell? ⟨n9, 1, none⟩ = some (.bool O.1.2) ∧ Below W9.heap.size W9 w') (first | exact n13_of T0.out (Below.refl _ _).drew | exact n13_keep T0.out (by assumption) hb)
    (first
      | (go_at_call 19; refine (vcan_any _ _ _ _ _ _ _ _).mono ?_; rintro e w10 ⟨rfl, hb⟩; rw [← HQ1.out])
      | (go_at_call 20; refine (rvcan_any _ _ _ _ _ _ _ _).mono ?_; rintro e w11 ⟨rfl, hb⟩; rw [← HQ1.out])
      | (go_at_call 21; refine (vboth_any _ _ _ _ _ _ _ _ _ x _ (HX.out _ (bstep HLW.out HLW.out.size (N13.low (by assumption))))).mono ?_; rintro e w12 ⟨rfl, hb⟩; rw [← HQ2.out])
      | (go_at_call 22; refine (rvboth_any _ _ _ _ _ _ _ _ _ x _ (HX.out _ (bstep HLW.out HLW.out.size (N13.low (by assumption))))).mono ?_; rintro e w13 ⟨rfl, hb⟩; rw [← HQ2.out])
      | (go_at_call 23; refine (places_any _ _ _ _ _ _ _ _).mono ?_; rintro e w14 ⟨rfl, hb⟩; rw [← HQ3.out])
      | (go_at_call 24; refine (rplaces_any _ _ _ _ _ _ _ _).mono ?_; rintro e w15 ⟨rfl, hb⟩; rw [← HQ3.out])
      | (go_at_call 25; refine (stir_any _ _ _ _ _ _ _ _).mono ?_; rintro e w16 ⟨rfl, hb⟩; rw [← HQ4.out])
      | (go_at_call 26; refine (rstir_any _ _ _ _ _ _ _ _).mono ?_; rintro e w17 ⟨rfl, hb⟩; rw [← HQ4.out])
      | (go_at_call 27; refine (rsame_any _ _ _ _ _ _ _ (HR4.out.keep (N13.low (by assumption))) (HR6.out.keep (N13.low (by assumption)))).mono ?_; rintro e w18 ⟨rfl, hb⟩; rw [show (O.1.2 == O.1.2 && decide (O.1.1 = O.1.1)) = true by simp])
      | (go_at_call 16; refine (awake_any _).mono ?_; rintro e w19 ⟨rfl, hb⟩))
  | fail
  all_goals
    rename_i hq
    have hlow := N13.low hq
    go_wp2_with fail
    go_ret
    exact ⟨rfl, bstep HLW.out HLW.out.size hlow⟩
end Go.Proofs.Ytaioholjckonlaa
