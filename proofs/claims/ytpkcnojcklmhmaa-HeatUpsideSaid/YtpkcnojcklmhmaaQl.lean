/- Walk of HeatTurns. -/
import Derived.Test.YtpkcnojcklmhmaaQk
namespace Go.Proofs.Ytpkcnojcklmhmaa
open Go.RowKit

set_option maxRecDepth 100000 in
set_option maxHeartbeats 8000000 in
theorem turns_walk (r l a b k a2 b2 : Int) (u : Value) (x : List Int) (br : Bool) (u2 : Value) (y : List Int) (br2 : Bool) (w : World) (hx : RowI w u x) (hcx : CapR u x) (hy : RowI w u2 y) :
    Calls Try.prog 6 #[.agg #[.int .i64 r, .int .i64 l, .int .i64 a, .int .i64 b, .int .i64 k, .int .i64 a2, .int .i64 b2], .agg #[u, .bool br], .agg #[u2, .bool br2]] w fun e w' => e = .returned (.bool true) ∧ Below w.heap.size w w' := by
  have HX := hid (fun w1 (g : Below w.heap.size w w1) => hx.keep g)
  have HY := hid (fun w1 (g : Below w.heap.size w w1) => hy.keep g)
  have HCX := hid hcx
  obtain ⟨xa, xc, rfl⟩ := hx.shape
  have HF := hid hy.form
  obtain ⟨ya, yc, rfl⟩ := hy.shape
  clear hx hy hcx
  have R0 := hid (r3_start (w := w) (A := #[.int .i64 r, .int .i64 l, .int .i64 a, .int .i64 b, .int .i64 k, .int .i64 a2, .int .i64 b2]) (B := #[.slice xa x.length xc, .bool br]) (R := #[.slice ya y.length yc, .bool br2]))
  obtain ⟨⟨b0, b1, b2', b3, b4, b5, b6⟩, ⟨x0, x1⟩, ⟨y0, y1⟩⟩ := R0.out.eleven
  by_cases h1 : x.length ≤ 100 ∧ 0 ≤ 80
  case neg =>
    have d1 := hid (decide_eq_false h1)
    go_enter Try.func6, Try.ntmps6
    go_wp2_with fail
    refine (brief_any _ _ _ _ _ _ _ _).mono ?_
    rintro e w1 ⟨rfl, hb⟩
    rw [d1.out]
    have R1 := hid (R0.out.keep hb)
    clear hb b0 b1 b2' b3 b4 b5 b6 x0 x1 y0 y1
    obtain ⟨⟨b0, b1, b2', b3, b4, b5, b6⟩, ⟨x0, x1⟩, ⟨y0, y1⟩⟩ := R1.out.eleven
    go_wp2_with fail
    refine (awake_any _).mono ?_
    rintro e w9 ⟨rfl, hb⟩
    have R9 := hid (R1.out.keep hb)
    clear hb
    go_wp2_with fail
    go_ret
    exact ⟨rfl, R9.out.low⟩
  have d1 := hid (decide_eq_true h1)
  clear h1
  by_cases h2 : y.length ≤ 100 ∧ 0 ≤ 80
  case neg =>
    have d2 := hid (decide_eq_false h2)
    go_enter Try.func6, Try.ntmps6
    go_wp2_with fail
    refine (brief_any _ _ _ _ _ _ _ _).mono ?_
    rintro e w1 ⟨rfl, hb⟩
    rw [d1.out]
    have R1 := hid (R0.out.keep hb)
    clear hb b0 b1 b2' b3 b4 b5 b6 x0 x1 y0 y1
    obtain ⟨⟨b0, b1, b2', b3, b4, b5, b6⟩, ⟨x0, x1⟩, ⟨y0, y1⟩⟩ := R1.out.eleven
    go_wp2_with fail
    refine (brief_any _ _ _ _ _ _ _ _).mono ?_
    rintro e w2 ⟨rfl, hb⟩
    rw [d2.out]
    have R2 := hid (R1.out.keep hb)
    clear hb b0 b1 b2' b3 b4 b5 b6 x0 x1 y0 y1
    obtain ⟨⟨b0, b1, b2', b3, b4, b5, b6⟩, ⟨x0, x1⟩, ⟨y0, y1⟩⟩ := R2.out.eleven
    go_wp2_with fail
    refine (awake_any _).mono ?_
    rintro e w9 ⟨rfl, hb⟩
    have R9 := hid (R2.out.keep hb)
    clear hb
    go_wp2_with fail
    go_ret
    exact ⟨rfl, R9.out.low⟩
  have d2 := hid (decide_eq_true h2)
  have hy100 : y.length ≤ 100 := h2.1
  clear h2
  obtain ⟨O, hO⟩ : ∃ O, O = turnO r l a b k a2 b2 (x, br) := ⟨_, rfl⟩
  have HT : Hid (∀ w1, RowI w1 (.slice xa x.length xc) x → Calls Try.prog 31 #[.agg #[.int .i64 r, .int .i64 l, .int .i64 a, .int .i64 b, .int .i64 k, .int .i64 a2, .int .i64 b2], .agg #[.slice xa x.length xc, .bool br]] w1 (OutB O w1)) := fun w1 g1 => by rw [hO]; exact turned_all _ _ _ _ _ _ _ _ _ _ _ g1 HCX.out
  have HRT : Hid (∀ w1, RowI w1 (.slice xa x.length xc) x → Calls Try.prog 32 #[.agg #[.int .i64 r, .int .i64 l, .int .i64 a, .int .i64 b, .int .i64 k, .int .i64 a2, .int .i64 b2], .agg #[.slice xa x.length xc, .bool br]] w1 (OutB O w1)) := fun w1 g1 => by rw [hO]; exact rturned_all _ _ _ _ _ _ _ _ _ _ _ g1
  have HSH : Hid (∀ s, ∃ P : Bd × Int, (∀ w1, RowI w1 (.slice xa x.length xc) x → Calls Try.prog 33 #[.agg #[.int .i64 r, .int .i64 l, .int .i64 a, .int .i64 b, .int .i64 k, .int .i64 a2, .int .i64 b2], .agg #[.slice xa x.length xc, .bool br], .int .i64 s] w1 (OutB P w1)) ∧ (∀ w1, RowI w1 (.slice xa x.length xc) x → Calls Try.prog 34 #[.agg #[.int .i64 r, .int .i64 l, .int .i64 a, .int .i64 b, .int .i64 k, .int .i64 a2, .int .i64 b2], .agg #[.slice xa x.length xc, .bool br], .int .i64 s] w1 (OutB P w1))) := fun s => ⟨shiftO r l a b k a2 b2 (x, br) s, fun w1 g1 => shifted_all _ _ _ _ _ _ _ _ _ _ _ _ g1, fun w1 g1 => rshifted_all _ _ _ _ _ _ _ _ _ _ _ _ g1⟩
  clear hO
  go_enter Try.func6, Try.ntmps6
  go_wp2_with fail
  refine (brief_any _ _ _ _ _ _ _ _).mono ?_
  rintro e w1 ⟨rfl, hb⟩
  rw [d1.out]
  have R1 := hid (R0.out.keep hb)
  clear hb b0 b1 b2' b3 b4 b5 b6 x0 x1 y0 y1
  obtain ⟨⟨b0, b1, b2', b3, b4, b5, b6⟩, ⟨x0, x1⟩, ⟨y0, y1⟩⟩ := R1.out.eleven
  go_wp2_with fail
  refine (brief_any _ _ _ _ _ _ _ _).mono ?_
  rintro e w2 ⟨rfl, hb⟩
  rw [d2.out]
  have R2 := hid (R1.out.keep hb)
  clear hb b0 b1 b2' b3 b4 b5 b6 x0 x1 y0 y1
  obtain ⟨⟨b0, b1, b2', b3, b4, b5, b6⟩, ⟨x0, x1⟩, ⟨y0, y1⟩⟩ := R2.out.eleven
  go_wp2_with fail
  have n0 := fun p : LowBy w2 => low_cell x0 p
  have n1 := fun p : LowBy w2 => low_cell x1 p
  have n2 := fun p : LowBy w2 => low_cell y0 p
  have n3 := fun p : LowBy w2 => low_cell y1 p
  have hXp := fun p : LowBy w2 => HX.out p.W (bstep R2.out.low R2.out.low.size p.low)
  have hYp := fun p : LowBy w2 => HY.out p.W (bstep R2.out.low R2.out.low.size p.low)
  have hc1 := fun p : LowBy w2 => low_of (hbelow_any p.W _ _ _ _ br br2 (hXp p) (hYp p))
  have hc2 := fun p : LowBy w2 => low_of (rbelow_any p.W _ _ _ _ br br2 (hXp p) (hYp p))
  have hc3 := fun p : LowBy w2 => low_of (hsame_any p.W _ _ _ _ br br2 (hXp p) (hYp p))
  have hc4 := fun p : LowBy w2 => low_of (rsame_any p.W _ _ _ _ br br2 (hXp p) (hYp p))
  have hc5 := fun p : LowBy w2 => low_of (hsame_any p.W _ _ _ _ br br (hXp p) (hXp p))
  rw [same_self (x, br)] at hc5
  clear hXp hYp
  refine wp_region_low (by kernel_rfl) (by kernel_rfl) (fun R hR => ?_)
  (refine low_step (by assumption) ?_; intro R hR K hK; go_simp; first | (refine hK _ ?_; clear hK K) | (apply Exists.intro; refine ⟨fun _ => ?_, hK _ ?_⟩; (first | (go_at_call 28; exact hc1 _) | (go_at_call 29; exact hc2 _) | (go_at_call 30; first | with_reducible exact hc3 _ | with_reducible exact hc5 _) | (go_at_call 14; exact hc4 _)); clear hK K))
  (refine low_step (by assumption) ?_; intro R hR K hK; go_simp; first | (refine hK _ ?_; clear hK K) | (apply Exists.intro; refine ⟨fun _ => ?_, hK _ ?_⟩; (first | (go_at_call 28; exact hc1 _) | (go_at_call 29; exact hc2 _) | (go_at_call 30; first | with_reducible exact hc3 _ | with_reducible exact hc5 _) | (go_at_call 14; exact hc4 _)); clear hK K))
  (refine low_step (by assumption) ?_; intro R hR K hK; go_simp; first | (refine hK _ ?_; clear hK K) | (apply Exists.intro; refine ⟨fun _ => ?_, hK _ ?_⟩; (first | (go_at_call 28; exact hc1 _) | (go_at_call 29; exact hc2 _) | (go_at_call 30; first | with_reducible exact hc3 _ | with_reducible exact hc5 _) | (go_at_call 14; exact hc4 _)); clear hK K))
  (refine low_step (by assumption) ?_; intro R hR K hK; go_simp; first | (refine hK _ ?_; clear hK K) | (apply Exists.intro; refine ⟨fun _ => ?_, hK _ ?_⟩; (first | (go_at_call 28; exact hc1 _) | (go_at_call 29; exact hc2 _) | (go_at_call 30; first | with_reducible exact hc3 _ | with_reducible exact hc5 _) | (go_at_call 14; exact hc4 _)); clear hK K))
  (refine low_step (by assumption) ?_; intro R hR K hK; go_simp; first | (refine hK _ ?_; clear hK K) | (apply Exists.intro; refine ⟨fun _ => ?_, hK _ ?_⟩; (first | (go_at_call 28; exact hc1 _) | (go_at_call 29; exact hc2 _) | (go_at_call 30; first | with_reducible exact hc3 _ | with_reducible exact hc5 _) | (go_at_call 14; exact hc4 _)); clear hK K))
  (refine low_step (by assumption) ?_; intro R hR K hK; go_simp; first | (refine hK _ ?_; clear hK K) | (apply Exists.intro; refine ⟨fun _ => ?_, hK _ ?_⟩; (first | (go_at_call 28; exact hc1 _) | (go_at_call 29; exact hc2 _) | (go_at_call 30; first | with_reducible exact hc3 _ | with_reducible exact hc5 _) | (go_at_call 14; exact hc4 _)); clear hK K))
  (refine low_step (by assumption) ?_; intro R hR K hK; go_simp; first | (refine hK _ ?_; clear hK K) | (apply Exists.intro; refine ⟨fun _ => ?_, hK _ ?_⟩; (first | (go_at_call 28; exact hc1 _) | (go_at_call 29; exact hc2 _) | (go_at_call 30; first | with_reducible exact hc3 _ | with_reducible exact hc5 _) | (go_at_call 14; exact hc4 _)); clear hK K))
  (refine low_step (by assumption) ?_; intro R hR K hK; go_simp; first | (refine hK _ ?_; clear hK K) | (apply Exists.intro; refine ⟨fun _ => ?_, hK _ ?_⟩; (first | (go_at_call 28; exact hc1 _) | (go_at_call 29; exact hc2 _) | (go_at_call 30; first | with_reducible exact hc3 _ | with_reducible exact hc5 _) | (go_at_call 14; exact hc4 _)); clear hK K))
  (refine low_step (by assumption) ?_; intro R hR K hK; go_simp; first | (refine hK _ ?_; clear hK K) | (apply Exists.intro; refine ⟨fun _ => ?_, hK _ ?_⟩; (first | (go_at_call 28; exact hc1 _) | (go_at_call 29; exact hc2 _) | (go_at_call 30; first | with_reducible exact hc3 _ | with_reducible exact hc5 _) | (go_at_call 14; exact hc4 _)); clear hK K))
  (refine low_step (by assumption) ?_; intro R hR K hK; go_simp; first | (refine hK _ ?_; clear hK K) | (apply Exists.intro; refine ⟨fun _ => ?_, hK _ ?_⟩; (first | (go_at_call 28; exact hc1 _) | (go_at_call 29; exact hc2 _) | (go_at_call 30; first | with_reducible exact hc3 _ | with_reducible exact hc5 _) | (go_at_call 14; exact hc4 _)); clear hK K))
  (refine low_step (by assumption) ?_; intro R hR K hK; go_simp; first | (refine hK _ ?_; clear hK K) | (apply Exists.intro; refine ⟨fun _ => ?_, hK _ ?_⟩; (first | (go_at_call 28; exact hc1 _) | (go_at_call 29; exact hc2 _) | (go_at_call 30; first | with_reducible exact hc3 _ | with_reducible exact hc5 _) | (go_at_call 14; exact hc4 _)); clear hK K))
  (refine low_step (by assumption) ?_; intro R hR K hK; go_simp; first | (refine hK _ ?_; clear hK K) | (apply Exists.intro; refine ⟨fun _ => ?_, hK _ ?_⟩; (first | (go_at_call 28; exact hc1 _) | (go_at_call 29; exact hc2 _) | (go_at_call 30; first | with_reducible exact hc3 _ | with_reducible exact hc5 _) | (go_at_call 14; exact hc4 _)); clear hK K))
  (refine low_step (by assumption) ?_; intro R hR K hK; go_simp; first | (refine hK _ ?_; clear hK K) | (apply Exists.intro; refine ⟨fun _ => ?_, hK _ ?_⟩; (first | (go_at_call 28; exact hc1 _) | (go_at_call 29; exact hc2 _) | (go_at_call 30; first | with_reducible exact hc3 _ | with_reducible exact hc5 _) | (go_at_call 14; exact hc4 _)); clear hK K))
  (refine low_step (by assumption) ?_; intro R hR K hK; go_simp; first | (refine hK _ ?_; clear hK K) | (apply Exists.intro; refine ⟨fun _ => ?_, hK _ ?_⟩; (first | (go_at_call 28; exact hc1 _) | (go_at_call 29; exact hc2 _) | (go_at_call 30; first | with_reducible exact hc3 _ | with_reducible exact hc5 _) | (go_at_call 14; exact hc4 _)); clear hK K))
  (refine low_step (by assumption) ?_; intro R hR K hK; go_simp; first | (refine hK _ ?_; clear hK K) | (apply Exists.intro; refine ⟨fun _ => ?_, hK _ ?_⟩; (first | (go_at_call 28; exact hc1 _) | (go_at_call 29; exact hc2 _) | (go_at_call 30; first | with_reducible exact hc3 _ | with_reducible exact hc5 _) | (go_at_call 14; exact hc4 _)); clear hK K))
  (refine low_step (by assumption) ?_; intro R hR K hK; go_simp; first | (refine hK _ ?_; clear hK K) | (apply Exists.intro; refine ⟨fun _ => ?_, hK _ ?_⟩; (first | (go_at_call 28; exact hc1 _) | (go_at_call 29; exact hc2 _) | (go_at_call 30; first | with_reducible exact hc3 _ | with_reducible exact hc5 _) | (go_at_call 14; exact hc4 _)); clear hK K))
  (refine low_step (by assumption) ?_; intro R hR K hK; go_simp; first | (refine hK _ ?_; clear hK K) | (apply Exists.intro; refine ⟨fun _ => ?_, hK _ ?_⟩; (first | (go_at_call 28; exact hc1 _) | (go_at_call 29; exact hc2 _) | (go_at_call 30; first | with_reducible exact hc3 _ | with_reducible exact hc5 _) | (go_at_call 14; exact hc4 _)); clear hK K))
  (refine low_step (by assumption) ?_; intro R hR K hK; go_simp; first | (refine hK _ ?_; clear hK K) | (apply Exists.intro; refine ⟨fun _ => ?_, hK _ ?_⟩; (first | (go_at_call 28; exact hc1 _) | (go_at_call 29; exact hc2 _) | (go_at_call 30; first | with_reducible exact hc3 _ | with_reducible exact hc5 _) | (go_at_call 14; exact hc4 _)); clear hK K))
  (refine low_step (by assumption) ?_; intro R hR K hK; go_simp; first | (refine hK _ ?_; clear hK K) | (apply Exists.intro; refine ⟨fun _ => ?_, hK _ ?_⟩; (first | (go_at_call 28; exact hc1 _) | (go_at_call 29; exact hc2 _) | (go_at_call 30; first | with_reducible exact hc3 _ | with_reducible exact hc5 _) | (go_at_call 14; exact hc4 _)); clear hK K))
  (refine low_step (by assumption) ?_; intro R hR K hK; go_simp; first | (refine hK _ ?_; clear hK K) | (apply Exists.intro; refine ⟨fun _ => ?_, hK _ ?_⟩; (first | (go_at_call 28; exact hc1 _) | (go_at_call 29; exact hc2 _) | (go_at_call 30; first | with_reducible exact hc3 _ | with_reducible exact hc5 _) | (go_at_call 14; exact hc4 _)); clear hK K))
  (refine low_step (by assumption) ?_; intro R hR K hK; go_simp; first | (refine hK _ ?_; clear hK K) | (apply Exists.intro; refine ⟨fun _ => ?_, hK _ ?_⟩; (first | (go_at_call 28; exact hc1 _) | (go_at_call 29; exact hc2 _) | (go_at_call 30; first | with_reducible exact hc3 _ | with_reducible exact hc5 _) | (go_at_call 14; exact hc4 _)); clear hK K))
  (refine low_step (by assumption) ?_; intro R hR K hK; go_simp; first | (refine hK _ ?_; clear hK K) | (apply Exists.intro; refine ⟨fun _ => ?_, hK _ ?_⟩; (first | (go_at_call 28; exact hc1 _) | (go_at_call 29; exact hc2 _) | (go_at_call 30; first | with_reducible exact hc3 _ | with_reducible exact hc5 _) | (go_at_call 14; exact hc4 _)); clear hK K))
  refine low_nil (by assumption) ?_; intro _ hw'; obtain ⟨⟨wq, hlow⟩, hw''⟩ := hw'; subst hw''; have HLOW := hid hlow; clear hlow; (try simp only)
  clear n0 n1 n2 n3 hc1 hc2 hc3 hc4 hc5
  have Rq := hid (R2.out.keep HLOW.out)
  clear x0 x1 y0 y1 b0 b1 b2' b3 b4 b5 b6
  obtain ⟨⟨b0, b1, b2', b3, b4, b5, b6⟩, ⟨x0, x1⟩, ⟨y0, y1⟩⟩ := Rq.out.eleven
  go_wp2_with fail
  refine (HT.out _ (HX.out _ Rq.out.low)).mono ?_
  rintro e w4 ⟨ua, uc, rfl, hr4, hb⟩
  have R4 := hid (Rq.out.keep hb)
  have HU4 := hid hr4
  clear hb hr4 x0 x1 y0 y1 b0 b1 b2' b3 b4 b5 b6
  obtain ⟨⟨b0, b1, b2', b3, b4, b5, b6⟩, ⟨x0, x1⟩, ⟨y0, y1⟩⟩ := R4.out.eleven
  have hz := lt_of_block R4.out.res
  have hza := lt_of_block R4.out.can
  have hzb := lt_of_block R4.out.bod
  go_wp2_with fail
  clear x0 x1 y0 y1 b0 b1 b2' b3 b4 b5 b6 hz hza hzb
  have hb := (Below.refl w4.heap.size w4).alloc (Nat.le_refl _) (.cells #[.slice ua O.1.1.length uc, .bool O.1.2] 26)
  have R5 := hid (R4.out.keep hb)
  have HU5 := hid (HU4.out.keep hb)
  have HN5 := hid (show BodAt (w4.alloc (.cells #[.slice ua O.1.1.length uc, .bool O.1.2] 26)) w4.heap.size ua O.1.1.length uc O.1.2 from bodAt_new)
  have hz4 := lt_of_block R4.out.res
  obtain ⟨W5, hW5⟩ : ∃ W5, W5 = w4.alloc (.cells #[.slice ua O.1.1.length uc, .bool O.1.2] 26) := ⟨_, rfl⟩
  have hs5 : w4.heap.size < W5.heap.size := by rw [hW5]; simp
  obtain ⟨n7, hn7⟩ : ∃ n, n = w4.heap.size := ⟨_, rfl⟩
  rw [← hW5] at R5 HU5 HN5 ⊢
  rw [← hn7] at HN5 hz4 hs5 ⊢
  clear hW5 hn7 hb
  obtain ⟨⟨b0, b1, b2', b3, b4, b5, b6⟩, ⟨x0, x1⟩, ⟨y0, y1⟩⟩ := R5.out.eleven
  go_wp2_with fail
  refine (HRT.out _ (HX.out _ R5.out.low)).mono ?_
  rintro e w6 ⟨ub, ud, rfl, hr6, hb⟩
  have R6 := hid (R5.out.keep hb)
  have HU6 := hid (HU5.out.keep hb)
  have HN6 := hid (HN5.out.keep hb)
  have HV6 := hid hr6
  have hs6 : n7 < w6.heap.size := Nat.lt_of_lt_of_le hs5 hb.size
  clear hb hr6 x0 x1 y0 y1 b0 b1 b2' b3 b4 b5 b6
  obtain ⟨⟨b0, b1, b2', b3, b4, b5, b6⟩, ⟨x0, x1⟩, ⟨y0, y1⟩⟩ := R6.out.eleven
  obtain ⟨e0, e1, f0, f1⟩ := HN6.out.cells
  have hz := lt_of_block R6.out.res
  have hza := lt_of_block R6.out.can
  have hzb := lt_of_block R6.out.bod
  go_wp2_with fail
  clear x0 x1 y0 y1 b0 b1 b2' b3 b4 b5 b6 e0 e1 f0 f1 hz hza hzb
  have hb := (Below.refl w6.heap.size w6).alloc (Nat.le_refl _) (.cells #[.slice ub O.1.1.length ud, .bool O.1.2] 26)
  have R7 := hid (R6.out.keep hb)
  have HU7 := hid (HU6.out.keep hb)
  have HV7 := hid (HV6.out.keep hb)
  have HN7 := hid (HN6.out.keep hb)
  have HM7 := hid (show BodAt (w6.alloc (.cells #[.slice ub O.1.1.length ud, .bool O.1.2] 26)) w6.heap.size ub O.1.1.length ud O.1.2 from bodAt_new)
  obtain ⟨W7, hW7⟩ : ∃ W7, W7 = w6.alloc (.cells #[.slice ub O.1.1.length ud, .bool O.1.2] 26) := ⟨_, rfl⟩
  have hs7 : w6.heap.size < W7.heap.size := by rw [hW7]; simp
  obtain ⟨n9, hn9⟩ : ∃ n, n = w6.heap.size := ⟨_, rfl⟩
  rw [← hW7] at R7 HU7 HV7 HN7 HM7 ⊢
  rw [← hn9] at HM7 hs6 hs7 ⊢
  clear hW7 hn9 hb
  obtain ⟨e0, e1, f0, f1⟩ := HN7.out.cells
  obtain ⟨g0, g1, i0, i1⟩ := HM7.out.cells
  obtain ⟨⟨b0, b1, b2', b3, b4, b5, b6⟩, ⟨x0, x1⟩, ⟨y0, y1⟩⟩ := R7.out.eleven
  have HSA := hid (rsame_any W7 _ _ _ _ O.1.2 O.1.2 HU7.out HV7.out)
  rw [same_self O.1] at HSA
  go_wp2_with fail
  refine HSA.out.mono ?_
  rintro e w8 ⟨rfl, hb⟩
  have R8 := hid (R7.out.keep hb)
  have HN8 := hid (HN7.out.keep hb)
  have HM8 := hid (HM7.out.keep hb)
  clear hb HSA x0 x1 y0 y1 b0 b1 b2' b3 b4 b5 b6 e0 e1 f0 f1 g0 g1 i0 i1
  obtain ⟨e0, e1, f0, f1⟩ := HN8.out.cells
  obtain ⟨g0, g1, i0, i1⟩ := HM8.out.cells
  obtain ⟨⟨b0, b1, b2', b3, b4, b5, b6⟩, ⟨x0, x1⟩, ⟨y0, y1⟩⟩ := R8.out.eleven
  have hyl : y.length = 0 ∨ 0 < y.length := by omega
  have HR8 := hid (HY.out _ R8.out.low)
  have hyc : 0 < y.length → ∃ (yb yo : Nat) (t : Int), ya = some ⟨yb, yo, none⟩ ∧ w8.cell? ⟨yb, yo, none⟩ = some (.int .i64 t) := fun h0 => by
    obtain ⟨yb, yo, ycc, hv, hc⟩ := HR8.out.some h0
    injection hv with q1 q2 q3
    exact ⟨yb, yo, _, q1, hc 0 h0⟩
  rcases hyl with hy0 | hy0
  · have hyz : ¬ (0 : Int) < (y.length : Int) := by omega
    clear hyc
    go_wp2_with fail
    obtain ⟨P, hP1, hP2⟩ := HSH.out (0)
    have HP1 := hid hP1; have HP2 := hid hP2
    clear hP1 hP2
    refine (HP1.out _ (HX.out _ R8.out.low)).mono ?_
    rintro e w10 ⟨va, vc, rfl, hr10, hb⟩
    have R10 := hid (R8.out.keep hb)
    have HN10 := hid (HN8.out.keep hb)
    have HM10 := hid (HM8.out.keep hb)
    clear hb x0 x1 y0 y1 b0 b1 b2' b3 b4 b5 b6 e0 e1 f0 f1 g0 g1 i0 i1
    obtain ⟨e0, e1, f0, f1⟩ := HN10.out.cells
    have R11 := hid (R10.out.set2 (u := .slice va P.1.1.length vc) (v := .bool P.1.2) hz4)
    have HN11 := hid (HN10.out.set (a' := va) (n' := P.1.1.length) (c' := vc) (br' := P.1.2))
    have HM11 := hid (HM10.out.other (m := n7) (u := .slice va P.1.1.length vc) (v := .bool P.1.2) (by omega))
    have HA11 := hid (rowI_off (x := .slice va P.1.1.length vc) (y := .bool P.1.2) hr10 HN10.out)
    clear hr10
    obtain ⟨⟨b0, b1, b2', b3, b4, b5, b6⟩, ⟨x0, x1⟩, ⟨y0, y1⟩⟩ := R10.out.eleven
    go_wp2_with fail
    refine (HP2.out _ (HX.out _ R11.out.low)).mono ?_
    rintro e w12 ⟨vb, vd, rfl, hr12, hb⟩
    have R12 := hid (R11.out.keep hb)
    have HN12 := hid (HN11.out.keep hb)
    have HM12 := hid (HM11.out.keep hb)
    have HA12 := hid (HA11.out.keep hb)
    clear hb x0 x1 y0 y1 b0 b1 b2' b3 b4 b5 b6 e0 e1 f0 f1
    obtain ⟨e0, e1, f0, f1⟩ := HN12.out.cells
    obtain ⟨g0, g1, i0, i1⟩ := HM12.out.cells
    have R13 := hid (R12.out.set2 (g := n9) (u := .slice vb P.1.1.length vd) (v := .bool P.1.2) (by omega))
    have HA13 := hid (rowI_off (x := .slice vb P.1.1.length vd) (y := .bool P.1.2) HA12.out HM12.out)
    have HV13 := hid (rowI_off (x := .slice vb P.1.1.length vd) (y := .bool P.1.2) hr12 HM12.out)
    have HSB := hid (rsame_any _ _ _ _ _ P.1.2 P.1.2 HA13.out HV13.out)
    rw [same_self P.1] at HSB
    have hne : ¬ n7 = n9 := by omega
    have hne' : ¬ n9 = n7 := by omega
    clear hr12
    go_wp2_with fail
    refine HSB.out.mono ?_
    rintro e w14 ⟨rfl, hb⟩
    have R14 := hid (R13.out.keep hb)
    clear hb
    go_wp2_with fail
    refine (awake_any _).mono ?_
    rintro e w15 ⟨rfl, hb⟩
    have R15 := hid (R14.out.keep hb)
    clear hb
    go_wp2_with fail
    go_ret
    exact ⟨rfl, R15.out.low⟩
  · have hyz : (0 : Int) < (y.length : Int) := by omega
    obtain ⟨yb, yo, t, rfl, yt⟩ := hyc hy0
    go_wp2_with fail
    obtain ⟨P, hP1, hP2⟩ := HSH.out (t)
    have HP1 := hid hP1; have HP2 := hid hP2
    clear hP1 hP2
    refine (HP1.out _ (HX.out _ R8.out.low)).mono ?_
    rintro e w10 ⟨va, vc, rfl, hr10, hb⟩
    have R10 := hid (R8.out.keep hb)
    have HN10 := hid (HN8.out.keep hb)
    have HM10 := hid (HM8.out.keep hb)
    clear hb x0 x1 y0 y1 b0 b1 b2' b3 b4 b5 b6 e0 e1 f0 f1 g0 g1 i0 i1
    obtain ⟨e0, e1, f0, f1⟩ := HN10.out.cells
    have R11 := hid (R10.out.set2 (u := .slice va P.1.1.length vc) (v := .bool P.1.2) hz4)
    have HN11 := hid (HN10.out.set (a' := va) (n' := P.1.1.length) (c' := vc) (br' := P.1.2))
    have HM11 := hid (HM10.out.other (m := n7) (u := .slice va P.1.1.length vc) (v := .bool P.1.2) (by omega))
    have HA11 := hid (rowI_off (x := .slice va P.1.1.length vc) (y := .bool P.1.2) hr10 HN10.out)
    clear hr10
    obtain ⟨⟨b0, b1, b2', b3, b4, b5, b6⟩, ⟨x0, x1⟩, ⟨y0, y1⟩⟩ := R10.out.eleven
    go_wp2_with fail
    refine (HP2.out _ (HX.out _ R11.out.low)).mono ?_
    rintro e w12 ⟨vb, vd, rfl, hr12, hb⟩
    have R12 := hid (R11.out.keep hb)
    have HN12 := hid (HN11.out.keep hb)
    have HM12 := hid (HM11.out.keep hb)
    have HA12 := hid (HA11.out.keep hb)
    clear hb x0 x1 y0 y1 b0 b1 b2' b3 b4 b5 b6 e0 e1 f0 f1
    obtain ⟨e0, e1, f0, f1⟩ := HN12.out.cells
    obtain ⟨g0, g1, i0, i1⟩ := HM12.out.cells
    have R13 := hid (R12.out.set2 (g := n9) (u := .slice vb P.1.1.length vd) (v := .bool P.1.2) (by omega))
    have HA13 := hid (rowI_off (x := .slice vb P.1.1.length vd) (y := .bool P.1.2) HA12.out HM12.out)
    have HV13 := hid (rowI_off (x := .slice vb P.1.1.length vd) (y := .bool P.1.2) hr12 HM12.out)
    have HSB := hid (rsame_any _ _ _ _ _ P.1.2 P.1.2 HA13.out HV13.out)
    rw [same_self P.1] at HSB
    have hne : ¬ n7 = n9 := by omega
    have hne' : ¬ n9 = n7 := by omega
    clear hr12
    go_wp2_with fail
    refine HSB.out.mono ?_
    rintro e w14 ⟨rfl, hb⟩
    have R14 := hid (R13.out.keep hb)
    clear hb
    go_wp2_with fail
    refine (awake_any _).mono ?_
    rintro e w15 ⟨rfl, hb⟩
    have R15 := hid (R14.out.keep hb)
    clear hb
    go_wp2_with fail
    go_ret
    exact ⟨rfl, R15.out.low⟩
end Go.Proofs.Ytpkcnojcklmhmaa
