/- Walk of HeatCuts. -/
import Derived.Test.YtaioholjckonlaaHv
import Derived.Test.YtaioholjckonlaaGb
import Derived.Deep.DeepCutAuto
namespace Go.Proofs.Ytaioholjckonlaa
open Go.RowKit

/-- Thirteen cells at b: a box of a struct Two, in a world that is W0 but for what is new. -/
def T13 (b : Nat) (W0 w1 : World) (c0 c1 c2 c3 c4 c5 c6 c7 c8 c9 c10 c11 c12 : Value) : Prop :=
  w1.cell? ⟨b, 0, none⟩ = some c0 ∧ w1.cell? ⟨b, 1, none⟩ = some c1 ∧ w1.cell? ⟨b, 2, none⟩ = some c2 ∧ w1.cell? ⟨b, 3, none⟩ = some c3 ∧ w1.cell? ⟨b, 4, none⟩ = some c4 ∧ w1.cell? ⟨b, 5, none⟩ = some c5 ∧ w1.cell? ⟨b, 6, none⟩ = some c6 ∧ w1.cell? ⟨b, 7, none⟩ = some c7 ∧ w1.cell? ⟨b, 8, none⟩ = some c8 ∧ w1.cell? ⟨b, 9, none⟩ = some c9 ∧ w1.cell? ⟨b, 10, none⟩ = some c10 ∧ w1.cell? ⟨b, 11, none⟩ = some c11 ∧ w1.cell? ⟨b, 12, none⟩ = some c12 ∧ Below W0.heap.size W0 w1
section
variable {b : Nat} {W0 W w2 : World} {c0 c1 c2 c3 c4 c5 c6 c7 c8 c9 c10 c11 c12 : Value}
theorem T13.low (h : T13 b W0 W c0 c1 c2 c3 c4 c5 c6 c7 c8 c9 c10 c11 c12) : Below W0.heap.size W0 W := h.2.2.2.2.2.2.2.2.2.2.2.2.2
theorem t13_of (h : T13 b W0 W0 c0 c1 c2 c3 c4 c5 c6 c7 c8 c9 c10 c11 c12) (hb : Below W0.heap.size W0 W) : T13 b W0 W c0 c1 c2 c3 c4 c5 c6 c7 c8 c9 c10 c11 c12 := by
  obtain ⟨h0, h1, h2, h3, h4, h5, h6, h7, h8, h9, h10, h11, h12, _⟩ := h
  exact ⟨keep_cell hb h0, keep_cell hb h1, keep_cell hb h2, keep_cell hb h3, keep_cell hb h4, keep_cell hb h5, keep_cell hb h6, keep_cell hb h7, keep_cell hb h8, keep_cell hb h9, keep_cell hb h10, keep_cell hb h11, keep_cell hb h12, hb⟩
theorem t13_alloc {o : Obj} (h0 : T13 b W0 W0 c0 c1 c2 c3 c4 c5 c6 c7 c8 c9 c10 c11 c12) (h : T13 b W0 W c0 c1 c2 c3 c4 c5 c6 c7 c8 c9 c10 c11 c12) : T13 b W0 (W.alloc o) c0 c1 c2 c3 c4 c5 c6 c7 c8 c9 c10 c11 c12 :=
  t13_of h0 (h.low.alloc h.low.size _)
theorem t13_set {n : Nat} {u v : Value} (h0 : T13 b W0 W0 c0 c1 c2 c3 c4 c5 c6 c7 c8 c9 c10 c11 c12) (h : T13 b W0 W c0 c1 c2 c3 c4 c5 c6 c7 c8 c9 c10 c11 c12) (hn : W0.heap.size ≤ n) : T13 b W0 ((W.setCell ⟨n, 0, none⟩ u).setCell ⟨n, 1, none⟩ v) c0 c1 c2 c3 c4 c5 c6 c7 c8 c9 c10 c11 c12 :=
  t13_of h0 ((h.low.setCell (p := ⟨n, 0, none⟩) hn u).setCell (p := ⟨n, 1, none⟩) hn v)
theorem t13_keep (h0 : T13 b W0 W0 c0 c1 c2 c3 c4 c5 c6 c7 c8 c9 c10 c11 c12) (h : T13 b W0 W c0 c1 c2 c3 c4 c5 c6 c7 c8 c9 c10 c11 c12) (hb : Below W.heap.size W w2) : T13 b W0 w2 c0 c1 c2 c3 c4 c5 c6 c7 c8 c9 c10 c11 c12 :=
  t13_of h0 (bstep h.low h.low.size hb)
theorem t13_app {base e : Nat} {v v' : Value} {xs : List Value} {l : List Int} (h : T13 b W0 W c0 c1 c2 c3 c4 c5 c6 c7 c8 c9 c10 c11 c12) (hown : W.ownsRow base e 1 v xs.length xs) (hb : W0.heap.size ≤ base) (hA : AppP W base e v xs l v' w2) : Below W0.heap.size W0 w2 :=
  app_low h.low hown hb hA
end
/-- A body that was just laid, and nothing stored yet. -/
def bodyO : Obj := .cells #[.slice none 0 0, .bool false] 26
theorem body_set {W : World} {n : Nat} {u v : Value} (h : W.heap[n]? = some bodyO) : ((W.setCell ⟨n, 0, none⟩ u).setCell ⟨n, 1, none⟩ v).cell? ⟨n, 0, none⟩ = some u ∧ ((W.setCell ⟨n, 0, none⟩ u).setCell ⟨n, 1, none⟩ v).cell? ⟨n, 1, none⟩ = some v := by
  have h1 := heap_setCell_same W n 0 _ _ u h
  have h2 := heap_setCell_same _ n 1 _ _ v h1
  exact ⟨cell_of_row _ _ 0 _ _ _ h2, cell_of_row _ _ 1 _ _ _ h2⟩
theorem body_rowI {W : World} {n : Nat} {u v z : Value} {l : List Int} (h : W.heap[n]? = some bodyO) (hr : RowI W z l) : RowI ((W.setCell ⟨n, 0, none⟩ u).setCell ⟨n, 1, none⟩ v) z l := by
  rcases hr with hr | ⟨b, o, cap, hz, hm, hc⟩
  · exact .inl hr
  · refine .inr ⟨b, o, cap, hz, hm, fun k hk => ?_⟩
    have hne : b ≠ n := by
      rintro rfl
      have h1 := hc k hk
      rw [cell_of_row W b (o + k) _ _ _ h] at h1
      match o + k, h1 with
      | 0, h1 => simp at h1
      | 1, h1 => simp at h1
      | j + 2, h1 => simp at h1
    rw [← hc k hk]
    exact World.cell?_of_block (a := ⟨b, o + k, none⟩) (by rw [heap_setCell_other _ _ _ _ hne, heap_setCell_other _ _ _ _ hne])
theorem body_free {W : World} {n : Nat} (h : W.heap[n]? = some bodyO) : W.cell? ⟨n, 0, none⟩ = some (.slice none 0 0) ∧ W.cell? ⟨n, 1, none⟩ = some (.bool false) ∧ W.frozen? ⟨n, 0, none⟩ = false ∧ W.frozen? ⟨n, 1, none⟩ = false :=
  ⟨cell_of_row _ _ 0 _ _ _ h, cell_of_row _ _ 1 _ _ _ h, frozen_of_row _ _ 0 _ _ h, frozen_of_row _ _ 1 _ _ h⟩

set_option maxRecDepth 100000 in
set_option maxHeartbeats 2000000 in
theorem cuts_walk (r l a b k a2 b2 : Int) (u : Value) (x : List Int) (br : Bool) (u2 : Value) (y : List Int) (br2 : Bool) (v : Value) (p : List Int) (v2 : Value) (q : List Int) (w : World) (hx : RowI w u x) (_hy : RowI w u2 y) (hp : RowI w v p) (hq : RowI w v2 q) :
    Calls Try.prog 14 #[TwoV r l a b k a2 b2 u br u2 br2 v v2] w fun e w' => e = .returned (.bool true) ∧ Below w.heap.size w w' := by
  unfold TwoV
  have HX := hid (fun w1 (g : Below w.heap.size w w1) => hx.keep g)
  have HP := hid (fun w1 (g : Below w.heap.size w w1) => hp.keep g)
  have HQ := hid (fun w1 (g : Below w.heap.size w w1) => hq.keep g)
  obtain ⟨xa, xc, rfl⟩ := hx.shape
  obtain ⟨ya, yc, rfl⟩ := _hy.shape
  obtain ⟨pa, pc, rfl⟩ := hp.shape
  obtain ⟨qa, qc, rfl⟩ := hq.shape
  clear hx _hy hp hq
  have BX := hid (box1_start (w := w) (A := #[.int .i64 r, .int .i64 l, .int .i64 a, .int .i64 b, .int .i64 k, .int .i64 a2, .int .i64 b2, .slice xa x.length xc, .bool br, .slice ya y.length yc, .bool br2, .slice pa p.length pc, .slice qa q.length qc]) (T := 59) (fz := (0, 0)))
  obtain ⟨t0, t1, t2, t3, t4, t5, t6, t7, t8, t9, t10, t11, t12⟩ := BX.out.thirteen
  have hz := BX.out.sz
  by_cases h1 : x.length ≤ 100 ∧ p.length ≤ 80
  case neg =>
    have d1 := hid (decide_eq_false h1)
    go_enter Try.func14, Try.ntmps14
    go_wp2_with (first
      | (go_at_call 15; refine (brief_any _ _ _ _ _ _ _ _).mono ?_; rintro e w1 ⟨rfl, hb⟩; rw [d1.out]; have BX := hid (BX.out.keep hb); obtain ⟨t0, t1, t2, t3, t4, t5, t6, t7, t8, t9, t10, t11, t12⟩ := BX.out.thirteen; have hz := BX.out.sz; clear hb)
      | (go_at_call 16; refine (awake_any _).mono ?_; rintro e w9 ⟨rfl, hb⟩; have BX := hid (BX.out.keep hb); obtain ⟨t0, t1, t2, t3, t4, t5, t6, t7, t8, t9, t10, t11, t12⟩ := BX.out.thirteen; have hz := BX.out.sz; clear hb))
    go_ret
    exact ⟨rfl, BX.out.low⟩
  have d1 := hid (decide_eq_true h1)
  have G1 := hid h1
  clear h1
  by_cases h2 : x.length ≤ 100 ∧ q.length ≤ 80
  case neg =>
    have d2 := hid (decide_eq_false h2)
    go_enter Try.func14, Try.ntmps14
    go_wp2_with (first
      | (go_at_call 15; refine (brief_any _ _ _ _ _ _ _ _).mono ?_; rintro e w1 ⟨rfl, hb⟩; (first | rw [d1.out] | rw [d2.out]); have BX := hid (BX.out.keep hb); obtain ⟨t0, t1, t2, t3, t4, t5, t6, t7, t8, t9, t10, t11, t12⟩ := BX.out.thirteen; have hz := BX.out.sz; clear hb)
      | (go_at_call 16; refine (awake_any _).mono ?_; rintro e w9 ⟨rfl, hb⟩; have BX := hid (BX.out.keep hb); obtain ⟨t0, t1, t2, t3, t4, t5, t6, t7, t8, t9, t10, t11, t12⟩ := BX.out.thirteen; have hz := BX.out.sz; clear hb))
    go_ret
    exact ⟨rfl, BX.out.low⟩
  have d2 := hid (decide_eq_true h2)
  have G2 := hid h2
  clear h2
  obtain ⟨O1, hO1⟩ : ∃ O, O = runO r l a b k a2 b2 (x, br) p := ⟨_, rfl⟩
  obtain ⟨O2, hO2⟩ : ∃ O, O = runO r l a b k a2 b2 (x, br) (p ++ q) := ⟨_, rfl⟩
  have HCUT : Hid (O1.2 = 0 → O2 = runO r l a b k a2 b2 O1.1 q) := fun h => by rw [hO1] at h ⊢; rw [hO2]; exact runO_cut G1.out.2 G2.out.2 h
  have HBAD : Hid (O1.2 ≠ 0 → O2.2 ≠ 0) := fun h => by rw [hO1] at h; rw [hO2]; exact runO_bad G1.out.2 h
  have HR1 : Hid (∀ w1, RowI w1 (.slice xa x.length xc) x → RowI w1 (.slice pa p.length pc) p → Calls Try.prog 30 #[.agg #[.int .i64 r, .int .i64 l, .int .i64 a, .int .i64 b, .int .i64 k, .int .i64 a2, .int .i64 b2], .agg #[.slice xa x.length xc, .bool br], .slice pa p.length pc] w1 (OutB O1 w1)) := fun w1 g1 g2 => by rw [hO1]; exact run_all _ _ _ _ _ _ _ _ _ _ _ _ _ g1 g2
  have HR2 : Hid (∀ w1 (z : Value), RowI w1 (.slice xa x.length xc) x → RowI w1 z (p ++ q) → Calls Try.prog 30 #[.agg #[.int .i64 r, .int .i64 l, .int .i64 a, .int .i64 b, .int .i64 k, .int .i64 a2, .int .i64 b2], .agg #[.slice xa x.length xc, .bool br], z] w1 (OutB O2 w1)) := fun w1 z g1 g2 => by rw [hO2]; exact run_all _ _ _ _ _ _ _ _ _ _ _ _ _ g1 g2
  clear hO1 hO2
  go_enter Try.func14, Try.ntmps14
  go_wp2_with (first
      | (go_at_call 15; refine (brief_any _ _ _ _ _ _ _ _).mono ?_; rintro e w1 ⟨rfl, hb⟩; (first | rw [d1.out] | rw [d2.out]); have BX := hid (BX.out.keep hb); obtain ⟨t0, t1, t2, t3, t4, t5, t6, t7, t8, t9, t10, t11, t12⟩ := BX.out.thirteen; have hz := BX.out.sz; clear hb))
  refine (HR1.out _ (HX.out _ BX.out.low) (HP.out _ BX.out.low)).mono ?_
  rintro e w4 ⟨ua, uc, rfl, hr4, hb⟩
  have BX := hid (BX.out.keep hb); obtain ⟨t0, t1, t2, t3, t4, t5, t6, t7, t8, t9, t10, t11, t12⟩ := BX.out.thirteen; have hz := BX.out.sz; clear hb
  go_upto_region 4 with (fail)
  obtain ⟨hb, z0, z1⟩ := laid2 (w2 := w4) (d0 := .slice ua O1.1.1.length uc) (d1 := .bool O1.1.2) (T := 26) rfl
  have HR4 := hid (hr4.keep hb)
  have BX := hid (BX.out.keep hb); obtain ⟨t0, t1, t2, t3, t4, t5, t6, t7, t8, t9, t10, t11, t12⟩ := BX.out.thirteen; have hz := BX.out.sz; clear hb
  generalize World.alloc w4 _ = W0 at *
  have T0 := hid (show T13 w.heap.size W0 W0 _ _ _ _ _ _ _ _ _ _ _ _ _ from ⟨t0, t1, t2, t3, t4, t5, t6, t7, t8, t9, t10, t11, t12, Below.refl _ _⟩)
  go_cut [5, 6] (fun s5 s6 wx => ∃ (n5 : Nat) (ub : Option Addr) (uc' : Nat), s5 = .pointer (some ⟨n5, 0, none⟩) ∧ s6 = .int .i64 O2.2 ∧ wx.cell? ⟨n5, 0, none⟩ = some (.slice ub O2.1.1.length uc') ∧ wx.cell? ⟨n5, 1, none⟩ = some (.bool O2.1.2) ∧ Hid (Below W0.heap.size W0 wx) ∧ Hid (RowI wx (.slice ub O2.1.1.length uc') O2.1.1))
  case first =>
    obtain ⟨i0, hi, hz0, hz1', hz2'⟩ := info_parts infoIf
    have HLN := hid (And.intro G1.out.2 G2.out.2)
    go_region_held3 (fun w' => w'.cell? ⟨w.heap.size, 0, none⟩ = some (.int .i64 r) ∧ w'.cell? ⟨w.heap.size, 1, none⟩ = some (.int .i64 l) ∧ w'.cell? ⟨w.heap.size, 2, none⟩ = some (.int .i64 a) ∧ w'.cell? ⟨w.heap.size, 3, none⟩ = some (.int .i64 b) ∧ w'.cell? ⟨w.heap.size, 4, none⟩ = some (.int .i64 k) ∧ w'.cell? ⟨w.heap.size, 5, none⟩ = some (.int .i64 a2) ∧ w'.cell? ⟨w.heap.size, 6, none⟩ = some (.int .i64 b2) ∧ w'.cell? ⟨w.heap.size, 7, none⟩ = some (.slice xa x.length xc) ∧ w'.cell? ⟨w.heap.size, 8, none⟩ = some (.bool br) ∧ w'.cell? ⟨w.heap.size, 9, none⟩ = some (.slice ya y.length yc) ∧ w'.cell? ⟨w.heap.size, 10, none⟩ = some (.bool br2) ∧ w'.cell? ⟨w.heap.size, 11, none⟩ = some (.slice pa p.length pc) ∧ w'.cell? ⟨w.heap.size, 12, none⟩ = some (.slice qa q.length qc) ∧ Below W0.heap.size W0 w') (first | exact t13_of T0.out (Below.refl _ _).drew | exact t13_of T0.out (hB8.alloc hB8.size _) | exact t13_of T0.out (by assumption) | exact t13_of T0.out (Hid.out (by assumption)) | exact t13_alloc T0.out (by assumption) | exact t13_set T0.out (by assumption) (by first | exact Nat.le_refl _ | exact Nat.le_succ _ | exact hB6.size | exact hB7.size))
      (first
        | (refine step_app2 rfl (.tmp 39) (.tmp 41) 24 rfl W0.heap.size 3 i0 Try.underlying24 hi hz0 hz1' hz2' _ [] rfl (by first | exact own_at rfl (by simp) (by omega) | exact (own_at rfl rfl (by simp)).alloc _) (.slice pa p.length pc) p rfl (RowI.src (HP.out _ (by have h : T13 w.heap.size W0 _ _ _ _ _ _ _ _ _ _ _ _ _ _ := (by assumption); exact bstep BX.out.low BX.out.low.size h.low))) (by have := HLN.out; simp; omega) (by have h : T13 w.heap.size W0 _ _ _ _ _ _ _ _ _ _ _ _ _ _ := (by assumption); exact h.low.size) ?_; intro v3 w6 hO1 hA1; have hB6 := t13_app (by assumption) hO1 (Nat.le_refl _) hA1; have HO6 := hid (app_first hA1); (first | (have F6 := hid (show Apart w6 W0.heap.size bodyO v3 from apart_app hA1 (apart_at (o := bodyO) rfl))) | skip); (first | (have g6 := apart_app hA1 (apart_new (o := bodyO) (own_new rfl (Nat.le_refl _))); rw [World.size_alloc] at g6; have F6 := hid (show Apart w6 (W0.heap.size + 1) bodyO v3 from g6); clear g6) | skip); clear hO1 hA1)
        | (refine step_app2 rfl (.tmp 42) (.tmp 44) 24 rfl W0.heap.size 3 i0 Try.underlying24 hi hz0 hz1' hz2' v3 (ivs p) rfl (by first | exact HO6.out | exact HO6.out.alloc _) (.slice qa q.length qc) q rfl (RowI.src (HQ.out _ (by have h : T13 w.heap.size W0 _ _ _ _ _ _ _ _ _ _ _ _ _ _ := (by assumption); exact bstep BX.out.low BX.out.low.size h.low))) (by have := HLN.out; rw [ivs_len]; omega) (by have h : T13 w.heap.size W0 _ _ _ _ _ _ _ _ _ _ _ _ _ _ := (by assumption); exact h.low.size) ?_; intro v4 w7 hO2 hA2; have hB7 := t13_app (by assumption) hO2 (Nat.le_refl _) hA2; have HR7 := hid (own_rowI (app_next hA2) (by have := HLN.out; rw [List.length_append]; omega)); (first | (have F7 := hid (apart_app hA2 F6.out)) | skip); (first | (have F7 := hid (show Apart w7 w6.heap.size bodyO v4 from apart_app hA2 (apart_new (o := bodyO) HO6.out))) | skip); clear hO2 hA2)
        | (go_at_call 30; have hL : Below W0.heap.size W0 _ := T13.low (by assumption); refine (HR2.out _ v4 (HX.out _ (bstep BX.out.low BX.out.low.size hL)) (by first | exact HR7.out | exact HR7.out.keep ((Below.refl _ _).alloc (Nat.le_refl _) _))).mono ?_; rintro e w8 ⟨ub, uc8, rfl, hr8, hb8⟩; have hB8 := bstep hL hL.size hb8; have HR8 := hid hr8; (first | (have F8 := hid ((hb8.block _ (lt_of_block F7.out.1)).trans F7.out.1)) | skip); (first | (have F8 := hid ((hb8.block _ (by simp)).trans (heap_alloc_new w7 bodyO))) | skip); (first | (have ff := body_free F8.out; obtain ⟨f0, f1, f2, f3⟩ := ff) | skip)))
    all_goals
      go_wp2_with fail
      go_meet
      first
        | exact ⟨_, ub, uc8, rfl, rfl, (body_set F8.out).1, (body_set F8.out).2, hid ((hB8.setCell (p := ⟨_, 0, none⟩) (by first | exact Nat.le_refl _ | exact Nat.le_succ _ | exact hB6.size | exact hB7.size) _).setCell (p := ⟨_, 1, none⟩) (by first | exact Nat.le_refl _ | exact Nat.le_succ _ | exact hB6.size | exact hB7.size) _), hid (body_rowI F8.out HR8.out)⟩
        | exact ⟨_, ub, uc8, rfl, rfl, cell_alloc_new w8 _ _ _ 0, cell_alloc_new w8 _ _ _ 1, hid (hB8.alloc hB8.size _), hid (HR8.out.keep ((Below.refl _ _).alloc (Nat.le_refl _) _))⟩
  case rest =>
    obtain ⟨n5, ub, uc', rfl, rfl, y0, y1, HB, HRB⟩ := hcut
    clear t0 t1 t2 t3 t4 t5 t6 t7 t8 t9 t10 t11 t12 hz T0
    have hb := HB.out
    have HR4 := hid (HR4.out.keep hb)
    have z0 := keep_cell hb z0
    have z1 := keep_cell hb z1
    have BX := hid (BX.out.keep hb); obtain ⟨t0, t1, t2, t3, t4, t5, t6, t7, t8, t9, t10, t11, t12⟩ := BX.out.thirteen; have hz := BX.out.sz; clear hb
    by_cases hO : O1.2 = 0
    · have hc0 : (O1.2 != 0) = false := by simpa using hO
      have hgf : (O2.2 == O2.2) = true := by simp
      have HR3 : Hid (∀ w1, RowI w1 (.slice ua O1.1.1.length uc) O1.1.1 → RowI w1 (.slice qa q.length qc) q → Calls Try.prog 30 #[.agg #[.int .i64 r, .int .i64 l, .int .i64 a, .int .i64 b, .int .i64 k, .int .i64 a2, .int .i64 b2], .agg #[.slice ua O1.1.1.length uc, .bool O1.1.2], .slice qa q.length qc] w1 (OutB O2 w1)) := fun w1 g1 g2 => by rw [HCUT.out hO]; exact run_all _ _ _ _ _ _ _ _ _ _ _ _ _ g1 g2
      clear hO
      go_wp2_with fail
      refine (HR3.out _ HR4.out (HQ.out _ BX.out.low)).mono ?_
      rintro e w9 ⟨ud, ucd, rfl, hr9, hb⟩
      have y0 := keep_cell hb y0
      have y1 := keep_cell hb y1
      have HRB := hid (HRB.out.keep hb)
      have hn5 : n5 < w9.heap.size := World.block_lt_of_cell? w9 ⟨n5, 0, none⟩ y0
      have BX := hid (BX.out.keep hb); obtain ⟨t0, t1, t2, t3, t4, t5, t6, t7, t8, t9, t10, t11, t12⟩ := BX.out.thirteen; have hz := BX.out.sz; clear hb
      go_wp2_with fail
      obtain ⟨hb, x0, x1⟩ := laid2 (w2 := w9) (d0 := .slice ud O2.1.1.length ucd) (d1 := .bool O2.1.2) (T := 26) rfl
      have HR9 := hid (hr9.keep hb)
      have HRB := hid (HRB.out.keep hb)
      have BX := hid (BX.out.keep hb); obtain ⟨t0, t1, t2, t3, t4, t5, t6, t7, t8, t9, t10, t11, t12⟩ := BX.out.thirteen; have hz := BX.out.sz; clear hb
      refine (rsame_any _ _ _ _ _ _ _ HRB.out HR9.out).mono ?_
      rintro e w10 ⟨rfl, hb⟩
      rw [show (O2.1.2 == O2.1.2 && decide (O2.1.1 = O2.1.1)) = true by simp]
      have BX := hid (BX.out.keep hb); obtain ⟨t0, t1, t2, t3, t4, t5, t6, t7, t8, t9, t10, t11, t12⟩ := BX.out.thirteen; have hz := BX.out.sz; clear hb
      go_wp2_with fail
      refine (awake_any _).mono ?_
      rintro e w11 ⟨rfl, hb⟩
      have BX := hid (BX.out.keep hb); obtain ⟨t0, t1, t2, t3, t4, t5, t6, t7, t8, t9, t10, t11, t12⟩ := BX.out.thirteen; have hz := BX.out.sz; clear hb
      go_wp2_with fail
      go_ret
      exact ⟨rfl, BX.out.low⟩
    · have hc0 : (O1.2 != 0) = true := by simpa using hO
      have hc2 : (O2.2 != 0) = true := by simpa using HBAD.out hO
      clear hO
      go_wp2_with fail
      refine (awake_any _).mono ?_
      rintro e w11 ⟨rfl, hb⟩
      have BX := hid (BX.out.keep hb); obtain ⟨t0, t1, t2, t3, t4, t5, t6, t7, t8, t9, t10, t11, t12⟩ := BX.out.thirteen; have hz := BX.out.sz; clear hb
      go_wp2_with fail
      go_ret
      exact ⟨rfl, BX.out.low⟩
end Go.Proofs.Ytaioholjckonlaa
