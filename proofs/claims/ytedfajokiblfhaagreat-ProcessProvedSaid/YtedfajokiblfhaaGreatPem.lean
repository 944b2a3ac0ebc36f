/- Walk of ProcessProved. -/
import Derived.Test.YtedfajokiblfhaaGreatPel
import Derived.Test.YtedfajokiblfhaaGreatE2
import Derived.Test.YtedfajokiblfhaaGreatZa
namespace Go.Proofs.YtedfajokiblfhaaGreat
open Go.RowKit Go.Lib

set_option maxRecDepth 100000 in
set_option maxHeartbeats 8000000 in
theorem pproved_walk (r l a b k a2 b2 : Int) (q : Kl) (t : Int) (bath cold cooling n : Int) (w : World) (hs : q.s.size ≤ maxLen) (_ht : (Lit.int .i64 t).wf = true) (_hp : (Lit.int .i64 bath).wf = true) (_hq : (Lit.int .i64 cold).wf = true) (_hr : (Lit.int .i64 cooling).wf = true) (_hn : (Lit.int .i64 n).wf = true) :
    Calls Tryz.prog 6 #[.agg #[.int .i64 r, .int .i64 l, .int .i64 a, .int .i64 b, .int .i64 k, .int .i64 a2, .int .i64 b2, .string q.s, .int .i64 q.r, .int .i64 q.z, .int .i64 q.d, .int .i64 q.g, .int .i64 t], .agg #[.int .i64 bath, .int .i64 cold, .int .i64 cooling], .int .i64 n] w fun e w' => e = .returned (.bool true) ∧ Below w.heap.size w w' := by
  have BX := hid (box2_start (w := w) (A := #[.int .i64 r, .int .i64 l, .int .i64 a, .int .i64 b, .int .i64 k, .int .i64 a2, .int .i64 b2, .string q.s, .int .i64 q.r, .int .i64 q.z, .int .i64 q.d, .int .i64 q.g, .int .i64 t]) (B := #[.int .i64 bath, .int .i64 cold, .int .i64 cooling]) (T := 27) (T' := 44) (fz := (0, 0)) (fz' := (0, 0)))
  have HSM := hid (fun W => small04_any r l a b k a2 b2 W none 0 0 (by decide))
  have HP1 := hid (fun W => proved_any r l a b k a2 b2 W q t bath cold cooling n hs)
  have HP2 := hid (fun W => xproved_any r l a b k a2 b2 W q t bath cold cooling n hs)
  generalize provO (sterP r l a b k a2 b2 q t bath cold cooling) n = P at *
  clear hs
  go_enter Tryz.func6, Tryz.ntmps6
  have t0 := BX.out.fst 0; have t1 := BX.out.fst 1; have t2 := BX.out.fst 2; have t3 := BX.out.fst 3; have t4 := BX.out.fst 4; have t5 := BX.out.fst 5; have t6 := BX.out.fst 6; have t7 := BX.out.fst 7; have t8 := BX.out.fst 8; have t9 := BX.out.fst 9; have t10 := BX.out.fst 10; have t11 := BX.out.fst 11; have t12 := BX.out.fst 12
  have c0 := BX.out.snd 0; have c1 := BX.out.snd 1; have c2 := BX.out.snd 2
  simp only [List.getElem?_toArray, List.getElem?_cons_zero, List.getElem?_cons_succ] at t0 t1 t2 t3 t4 t5 t6 t7 t8 t9 t10 t11 t12 c0 c1 c2
  go_wp2_with fail
  refine (HSM.out _).mono ?_
  rintro e w1 ⟨rfl, hb⟩
  have BX := hid (BX.out.keep hb)
  clear hb t0 t1 t2 t3 t4 t5 t6 t7 t8 t9 t10 t11 t12 c0 c1 c2
  have t0 := BX.out.fst 0; have t1 := BX.out.fst 1; have t2 := BX.out.fst 2; have t3 := BX.out.fst 3; have t4 := BX.out.fst 4; have t5 := BX.out.fst 5; have t6 := BX.out.fst 6; have t7 := BX.out.fst 7; have t8 := BX.out.fst 8; have t9 := BX.out.fst 9; have t10 := BX.out.fst 10; have t11 := BX.out.fst 11; have t12 := BX.out.fst 12
  have c0 := BX.out.snd 0; have c1 := BX.out.snd 1; have c2 := BX.out.snd 2
  simp only [List.getElem?_toArray, List.getElem?_cons_zero, List.getElem?_cons_succ] at t0 t1 t2 t3 t4 t5 t6 t7 t8 t9 t10 t11 t12 c0 c1 c2
  cases hsm : smallB r l 0 80
  · skip
    go_wp2_with fail
    refine (lawake_any _).mono ?_
    rintro e w2 ⟨rfl, hb⟩
    have BX := hid (BX.out.keep hb)
    clear hb t0 t1 t2 t3 t4 t5 t6 t7 t8 t9 t10 t11 t12 c0 c1 c2
    go_wp2_with fail
    go_ret
    exact ⟨rfl, BX.out.low⟩
  cases h1 : decide (40 < cooling)
  case true =>
    go_wp2_with fail
    refine (lawake_any _).mono ?_
    rintro e w2 ⟨rfl, hb⟩
    have BX := hid (BX.out.keep hb)
    clear hb t0 t1 t2 t3 t4 t5 t6 t7 t8 t9 t10 t11 t12 c0 c1 c2
    go_wp2_with fail
    go_ret
    exact ⟨rfl, BX.out.low⟩
  cases h2 : decide (200 < n)
  case false =>
    go_wp2_with fail
    have m0 := fun p : LowBy w1 => low_cell t0 p; have m1 := fun p : LowBy w1 => low_cell t1 p; have m2 := fun p : LowBy w1 => low_cell t2 p; have m3 := fun p : LowBy w1 => low_cell t3 p; have m4 := fun p : LowBy w1 => low_cell t4 p; have m5 := fun p : LowBy w1 => low_cell t5 p; have m6 := fun p : LowBy w1 => low_cell t6 p; have m7 := fun p : LowBy w1 => low_cell t7 p; have m8 := fun p : LowBy w1 => low_cell t8 p; have m9 := fun p : LowBy w1 => low_cell t9 p; have m10 := fun p : LowBy w1 => low_cell t10 p; have m11 := fun p : LowBy w1 => low_cell t11 p; have m12 := fun p : LowBy w1 => low_cell t12 p
    have n0 := fun p : LowBy w1 => low_cell c0 p; have n1 := fun p : LowBy w1 => low_cell c1 p; have n2 := fun p : LowBy w1 => low_cell c2 p
    have hp1 := fun p : LowBy w1 => low_of (HP1.out p.W)
    have hp2 := fun p : LowBy w1 => low_of (HP2.out p.W)
    have haw := fun p : LowBy w1 => low_of (lawake_any p.W)
    clear t0 t1 t2 t3 t4 t5 t6 t7 t8 t9 t10 t11 t12 c0 c1 c2
    cases P
    all_goals
      refine wp_region_low (by kernel_rfl) (by kernel_rfl) (fun R hR => ?_)
      (refine low_step (by assumption) ?_; intro R hR K hK; go_simp; first | (refine hK _ ?_; clear hK K) | (apply Exists.intro; refine ⟨fun _ => ?_, hK _ ?_⟩; (first | (go_at_call 25; exact hp1 _) | (go_at_call 27; exact hp2 _) | (go_at_call 10; exact haw _)); clear hK K))
      (refine low_step (by assumption) ?_; intro R hR K hK; go_simp; first | (refine hK _ ?_; clear hK K) | (apply Exists.intro; refine ⟨fun _ => ?_, hK _ ?_⟩; (first | (go_at_call 25; exact hp1 _) | (go_at_call 27; exact hp2 _) | (go_at_call 10; exact haw _)); clear hK K))
      (refine low_step (by assumption) ?_; intro R hR K hK; go_simp; first | (refine hK _ ?_; clear hK K) | (apply Exists.intro; refine ⟨fun _ => ?_, hK _ ?_⟩; (first | (go_at_call 25; exact hp1 _) | (go_at_call 27; exact hp2 _) | (go_at_call 10; exact haw _)); clear hK K))
      (refine low_step (by assumption) ?_; intro R hR K hK; go_simp; first | (refine hK _ ?_; clear hK K) | (apply Exists.intro; refine ⟨fun _ => ?_, hK _ ?_⟩; (first | (go_at_call 25; exact hp1 _) | (go_at_call 27; exact hp2 _) | (go_at_call 10; exact haw _)); clear hK K))
      (refine low_step (by assumption) ?_; intro R hR K hK; go_simp; first | (refine hK _ ?_; clear hK K) | (apply Exists.intro; refine ⟨fun _ => ?_, hK _ ?_⟩; (first | (go_at_call 25; exact hp1 _) | (go_at_call 27; exact hp2 _) | (go_at_call 10; exact haw _)); clear hK K))
      (refine low_step (by assumption) ?_; intro R hR K hK; go_simp; first | (refine hK _ ?_; clear hK K) | (apply Exists.intro; refine ⟨fun _ => ?_, hK _ ?_⟩; (first | (go_at_call 25; exact hp1 _) | (go_at_call 27; exact hp2 _) | (go_at_call 10; exact haw _)); clear hK K))
      (refine low_step (by assumption) ?_; intro R hR K hK; go_simp; first | (refine hK _ ?_; clear hK K) | (apply Exists.intro; refine ⟨fun _ => ?_, hK _ ?_⟩; (first | (go_at_call 25; exact hp1 _) | (go_at_call 27; exact hp2 _) | (go_at_call 10; exact haw _)); clear hK K))
      (refine low_step (by assumption) ?_; intro R hR K hK; go_simp; first | (refine hK _ ?_; clear hK K) | (apply Exists.intro; refine ⟨fun _ => ?_, hK _ ?_⟩; (first | (go_at_call 25; exact hp1 _) | (go_at_call 27; exact hp2 _) | (go_at_call 10; exact haw _)); clear hK K))
      (refine low_step (by assumption) ?_; intro R hR K hK; go_simp; first | (refine hK _ ?_; clear hK K) | (apply Exists.intro; refine ⟨fun _ => ?_, hK _ ?_⟩; (first | (go_at_call 25; exact hp1 _) | (go_at_call 27; exact hp2 _) | (go_at_call 10; exact haw _)); clear hK K))
      (refine low_step (by assumption) ?_; intro R hR K hK; go_simp; first | (refine hK _ ?_; clear hK K) | (apply Exists.intro; refine ⟨fun _ => ?_, hK _ ?_⟩; (first | (go_at_call 25; exact hp1 _) | (go_at_call 27; exact hp2 _) | (go_at_call 10; exact haw _)); clear hK K))
      (refine low_step (by assumption) ?_; intro R hR K hK; go_simp; first | (refine hK _ ?_; clear hK K) | (apply Exists.intro; refine ⟨fun _ => ?_, hK _ ?_⟩; (first | (go_at_call 25; exact hp1 _) | (go_at_call 27; exact hp2 _) | (go_at_call 10; exact haw _)); clear hK K))
      (refine low_step (by assumption) ?_; intro R hR K hK; go_simp; first | (refine hK _ ?_; clear hK K) | (apply Exists.intro; refine ⟨fun _ => ?_, hK _ ?_⟩; (first | (go_at_call 25; exact hp1 _) | (go_at_call 27; exact hp2 _) | (go_at_call 10; exact haw _)); clear hK K))
      (refine low_step (by assumption) ?_; intro R hR K hK; go_simp; first | (refine hK _ ?_; clear hK K) | (apply Exists.intro; refine ⟨fun _ => ?_, hK _ ?_⟩; (first | (go_at_call 25; exact hp1 _) | (go_at_call 27; exact hp2 _) | (go_at_call 10; exact haw _)); clear hK K))
      (refine low_step (by assumption) ?_; intro R hR K hK; go_simp; first | (refine hK _ ?_; clear hK K) | (apply Exists.intro; refine ⟨fun _ => ?_, hK _ ?_⟩; (first | (go_at_call 25; exact hp1 _) | (go_at_call 27; exact hp2 _) | (go_at_call 10; exact haw _)); clear hK K))
      (refine low_step (by assumption) ?_; intro R hR K hK; go_simp; first | (refine hK _ ?_; clear hK K) | (apply Exists.intro; refine ⟨fun _ => ?_, hK _ ?_⟩; (first | (go_at_call 25; exact hp1 _) | (go_at_call 27; exact hp2 _) | (go_at_call 10; exact haw _)); clear hK K))
      (refine low_step (by assumption) ?_; intro R hR K hK; go_simp; first | (refine hK _ ?_; clear hK K) | (apply Exists.intro; refine ⟨fun _ => ?_, hK _ ?_⟩; (first | (go_at_call 25; exact hp1 _) | (go_at_call 27; exact hp2 _) | (go_at_call 10; exact haw _)); clear hK K))
      (refine low_step (by assumption) ?_; intro R hR K hK; go_simp; first | (refine hK _ ?_; clear hK K) | (apply Exists.intro; refine ⟨fun _ => ?_, hK _ ?_⟩; (first | (go_at_call 25; exact hp1 _) | (go_at_call 27; exact hp2 _) | (go_at_call 10; exact haw _)); clear hK K))
      (refine low_step (by assumption) ?_; intro R hR K hK; go_simp; first | (refine hK _ ?_; clear hK K) | (apply Exists.intro; refine ⟨fun _ => ?_, hK _ ?_⟩; (first | (go_at_call 25; exact hp1 _) | (go_at_call 27; exact hp2 _) | (go_at_call 10; exact haw _)); clear hK K))
      (refine low_step (by assumption) ?_; intro R hR K hK; go_simp; first | (refine hK _ ?_; clear hK K) | (apply Exists.intro; refine ⟨fun _ => ?_, hK _ ?_⟩; (first | (go_at_call 25; exact hp1 _) | (go_at_call 27; exact hp2 _) | (go_at_call 10; exact haw _)); clear hK K))
      (refine low_step (by assumption) ?_; intro R hR K hK; go_simp; first | (refine hK _ ?_; clear hK K) | (apply Exists.intro; refine ⟨fun _ => ?_, hK _ ?_⟩; (first | (go_at_call 25; exact hp1 _) | (go_at_call 27; exact hp2 _) | (go_at_call 10; exact haw _)); clear hK K))
      (refine low_step (by assumption) ?_; intro R hR K hK; go_simp; first | (refine hK _ ?_; clear hK K) | (apply Exists.intro; refine ⟨fun _ => ?_, hK _ ?_⟩; (first | (go_at_call 25; exact hp1 _) | (go_at_call 27; exact hp2 _) | (go_at_call 10; exact haw _)); clear hK K))
      (refine low_step (by assumption) ?_; intro R hR K hK; go_simp; first | (refine hK _ ?_; clear hK K) | (apply Exists.intro; refine ⟨fun _ => ?_, hK _ ?_⟩; (first | (go_at_call 25; exact hp1 _) | (go_at_call 27; exact hp2 _) | (go_at_call 10; exact haw _)); clear hK K))
      (refine low_step (by assumption) ?_; intro R hR K hK; go_simp; first | (refine hK _ ?_; clear hK K) | (apply Exists.intro; refine ⟨fun _ => ?_, hK _ ?_⟩; (first | (go_at_call 25; exact hp1 _) | (go_at_call 27; exact hp2 _) | (go_at_call 10; exact haw _)); clear hK K))
      (refine low_step (by assumption) ?_; intro R hR K hK; go_simp; first | (refine hK _ ?_; clear hK K) | (apply Exists.intro; refine ⟨fun _ => ?_, hK _ ?_⟩; (first | (go_at_call 25; exact hp1 _) | (go_at_call 27; exact hp2 _) | (go_at_call 10; exact haw _)); clear hK K))
      (refine low_step (by assumption) ?_; intro R hR K hK; go_simp; first | (refine hK _ ?_; clear hK K) | (apply Exists.intro; refine ⟨fun _ => ?_, hK _ ?_⟩; (first | (go_at_call 25; exact hp1 _) | (go_at_call 27; exact hp2 _) | (go_at_call 10; exact haw _)); clear hK K))
      (refine low_step (by assumption) ?_; intro R hR K hK; go_simp; first | (refine hK _ ?_; clear hK K) | (apply Exists.intro; refine ⟨fun _ => ?_, hK _ ?_⟩; (first | (go_at_call 25; exact hp1 _) | (go_at_call 27; exact hp2 _) | (go_at_call 10; exact haw _)); clear hK K))
      (refine low_step (by assumption) ?_; intro R hR K hK; go_simp; first | (refine hK _ ?_; clear hK K) | (apply Exists.intro; refine ⟨fun _ => ?_, hK _ ?_⟩; (first | (go_at_call 25; exact hp1 _) | (go_at_call 27; exact hp2 _) | (go_at_call 10; exact haw _)); clear hK K))
      (refine low_step (by assumption) ?_; intro R hR K hK; go_simp; first | (refine hK _ ?_; clear hK K) | (apply Exists.intro; refine ⟨fun _ => ?_, hK _ ?_⟩; (first | (go_at_call 25; exact hp1 _) | (go_at_call 27; exact hp2 _) | (go_at_call 10; exact haw _)); clear hK K))
      (refine low_step (by assumption) ?_; intro R hR K hK; go_simp; first | (refine hK _ ?_; clear hK K) | (apply Exists.intro; refine ⟨fun _ => ?_, hK _ ?_⟩; (first | (go_at_call 25; exact hp1 _) | (go_at_call 27; exact hp2 _) | (go_at_call 10; exact haw _)); clear hK K))
      (refine low_step (by assumption) ?_; intro R hR K hK; go_simp; first | (refine hK _ ?_; clear hK K) | (apply Exists.intro; refine ⟨fun _ => ?_, hK _ ?_⟩; (first | (go_at_call 25; exact hp1 _) | (go_at_call 27; exact hp2 _) | (go_at_call 10; exact haw _)); clear hK K))
      (refine low_step (by assumption) ?_; intro R hR K hK; go_simp; first | (refine hK _ ?_; clear hK K) | (apply Exists.intro; refine ⟨fun _ => ?_, hK _ ?_⟩; (first | (go_at_call 25; exact hp1 _) | (go_at_call 27; exact hp2 _) | (go_at_call 10; exact haw _)); clear hK K))
      (refine low_step (by assumption) ?_; intro R hR K hK; go_simp; first | (refine hK _ ?_; clear hK K) | (apply Exists.intro; refine ⟨fun _ => ?_, hK _ ?_⟩; (first | (go_at_call 25; exact hp1 _) | (go_at_call 27; exact hp2 _) | (go_at_call 10; exact haw _)); clear hK K))
      (refine low_step (by assumption) ?_; intro R hR K hK; go_simp; first | (refine hK _ ?_; clear hK K) | (apply Exists.intro; refine ⟨fun _ => ?_, hK _ ?_⟩; (first | (go_at_call 25; exact hp1 _) | (go_at_call 27; exact hp2 _) | (go_at_call 10; exact haw _)); clear hK K))
      refine low_nil (by assumption) ?_; intro _ hw'; obtain ⟨⟨wq, hlow⟩, hw''⟩ := hw'; subst hw''; have HLOW := hid hlow; clear hlow; (try simp only)
      go_wp2_with fail
      go_ret
      exact ⟨rfl, bstep BX.out.low BX.out.low.size HLOW.out⟩
  cases h3 : decide (n ≤ 2000)
  case true =>
    go_wp2_with fail
    refine (lawake_any _).mono ?_
    rintro e w2 ⟨rfl, hb⟩
    have BX := hid (BX.out.keep hb)
    clear hb t0 t1 t2 t3 t4 t5 t6 t7 t8 t9 t10 t11 t12 c0 c1 c2
    go_wp2_with fail
    go_ret
    exact ⟨rfl, BX.out.low⟩
  · skip
    go_wp2_with fail
    have m0 := fun p : LowBy w1 => low_cell t0 p; have m1 := fun p : LowBy w1 => low_cell t1 p; have m2 := fun p : LowBy w1 => low_cell t2 p; have m3 := fun p : LowBy w1 => low_cell t3 p; have m4 := fun p : LowBy w1 => low_cell t4 p; have m5 := fun p : LowBy w1 => low_cell t5 p; have m6 := fun p : LowBy w1 => low_cell t6 p; have m7 := fun p : LowBy w1 => low_cell t7 p; have m8 := fun p : LowBy w1 => low_cell t8 p; have m9 := fun p : LowBy w1 => low_cell t9 p; have m10 := fun p : LowBy w1 => low_cell t10 p; have m11 := fun p : LowBy w1 => low_cell t11 p; have m12 := fun p : LowBy w1 => low_cell t12 p
    have n0 := fun p : LowBy w1 => low_cell c0 p; have n1 := fun p : LowBy w1 => low_cell c1 p; have n2 := fun p : LowBy w1 => low_cell c2 p
    have hp1 := fun p : LowBy w1 => low_of (HP1.out p.W)
    have hp2 := fun p : LowBy w1 => low_of (HP2.out p.W)
    have haw := fun p : LowBy w1 => low_of (lawake_any p.W)
    clear t0 t1 t2 t3 t4 t5 t6 t7 t8 t9 t10 t11 t12 c0 c1 c2
    cases P
    all_goals
      refine wp_region_low (by kernel_rfl) (by kernel_rfl) (fun R hR => ?_)
      (refine low_step (by assumption) ?_; intro R hR K hK; go_simp; first | (refine hK _ ?_; clear hK K) | (apply Exists.intro; refine ⟨fun _ => ?_, hK _ ?_⟩; (first | (go_at_call 25; exact hp1 _) | (go_at_call 27; exact hp2 _) | (go_at_call 10; exact haw _)); clear hK K))
      (refine low_step (by assumption) ?_; intro R hR K hK; go_simp; first | (refine hK _ ?_; clear hK K) | (apply Exists.intro; refine ⟨fun _ => ?_, hK _ ?_⟩; (first | (go_at_call 25; exact hp1 _) | (go_at_call 27; exact hp2 _) | (go_at_call 10; exact haw _)); clear hK K))
      (refine low_step (by assumption) ?_; intro R hR K hK; go_simp; first | (refine hK _ ?_; clear hK K) | (apply Exists.intro; refine ⟨fun _ => ?_, hK _ ?_⟩; (first | (go_at_call 25; exact hp1 _) | (go_at_call 27; exact hp2 _) | (go_at_call 10; exact haw _)); clear hK K))
      (refine low_step (by assumption) ?_; intro R hR K hK; go_simp; first | (refine hK _ ?_; clear hK K) | (apply Exists.intro; refine ⟨fun _ => ?_, hK _ ?_⟩; (first | (go_at_call 25; exact hp1 _) | (go_at_call 27; exact hp2 _) | (go_at_call 10; exact haw _)); clear hK K))
      (refine low_step (by assumption) ?_; intro R hR K hK; go_simp; first | (refine hK _ ?_; clear hK K) | (apply Exists.intro; refine ⟨fun _ => ?_, hK _ ?_⟩; (first | (go_at_call 25; exact hp1 _) | (go_at_call 27; exact hp2 _) | (go_at_call 10; exact haw _)); clear hK K))
      (refine low_step (by assumption) ?_; intro R hR K hK; go_simp; first | (refine hK _ ?_; clear hK K) | (apply Exists.intro; refine ⟨fun _ => ?_, hK _ ?_⟩; (first | (go_at_call 25; exact hp1 _) | (go_at_call 27; exact hp2 _) | (go_at_call 10; exact haw _)); clear hK K))
      (refine low_step (by assumption) ?_; intro R hR K hK; go_simp; first | (refine hK _ ?_; clear hK K) | (apply Exists.intro; refine ⟨fun _ => ?_, hK _ ?_⟩; (first | (go_at_call 25; exact hp1 _) | (go_at_call 27; exact hp2 _) | (go_at_call 10; exact haw _)); clear hK K))
      (refine low_step (by assumption) ?_; intro R hR K hK; go_simp; first | (refine hK _ ?_; clear hK K) | (apply Exists.intro; refine ⟨fun _ => ?_, hK _ ?_⟩; (first | (go_at_call 25; exact hp1 _) | (go_at_call 27; exact hp2 _) | (go_at_call 10; exact haw _)); clear hK K))
      (refine low_step (by assumption) ?_; intro R hR K hK; go_simp; first | (refine hK _ ?_; clear hK K) | (apply Exists.intro; refine ⟨fun _ => ?_, hK _ ?_⟩; (first | (go_at_call 25; exact hp1 _) | (go_at_call 27; exact hp2 _) | (go_at_call 10; exact haw _)); clear hK K))
      (refine low_step (by assumption) ?_; intro R hR K hK; go_simp; first | (refine hK _ ?_; clear hK K) | (apply Exists.intro; refine ⟨fun _ => ?_, hK _ ?_⟩; (first | (go_at_call 25; exact hp1 _) | (go_at_call 27; exact hp2 _) | (go_at_call 10; exact haw _)); clear hK K))
      (refine low_step (by assumption) ?_; intro R hR K hK; go_simp; first | (refine hK _ ?_; clear hK K) | (apply Exists.intro; refine ⟨fun _ => ?_, hK _ ?_⟩; (first | (go_at_call 25; exact hp1 _) | (go_at_call 27; exact hp2 _) | (go_at_call 10; exact haw _)); clear hK K))
      (refine low_step (by assumption) ?_; intro R hR K hK; go_simp; first | (refine hK _ ?_; clear hK K) | (apply Exists.intro; refine ⟨fun _ => ?_, hK _ ?_⟩; (first | (go_at_call 25; exact hp1 _) | (go_at_call 27; exact hp2 _) | (go_at_call 10; exact haw _)); clear hK K))
      (refine low_step (by assumption) ?_; intro R hR K hK; go_simp; first | (refine hK _ ?_; clear hK K) | (apply Exists.intro; refine ⟨fun _ => ?_, hK _ ?_⟩; (first | (go_at_call 25; exact hp1 _) | (go_at_call 27; exact hp2 _) | (go_at_call 10; exact haw _)); clear hK K))
      (refine low_step (by assumption) ?_; intro R hR K hK; go_simp; first | (refine hK _ ?_; clear hK K) | (apply Exists.intro; refine ⟨fun _ => ?_, hK _ ?_⟩; (first | (go_at_call 25; exact hp1 _) | (go_at_call 27; exact hp2 _) | (go_at_call 10; exact haw _)); clear hK K))
      (refine low_step (by assumption) ?_; intro R hR K hK; go_simp; first | (refine hK _ ?_; clear hK K) | (apply Exists.intro; refine ⟨fun _ => ?_, hK _ ?_⟩; (first | (go_at_call 25; exact hp1 _) | (go_at_call 27; exact hp2 _) | (go_at_call 10; exact haw _)); clear hK K))
      (refine low_step (by assumption) ?_; intro R hR K hK; go_simp; first | (refine hK _ ?_; clear hK K) | (apply Exists.intro; refine ⟨fun _ => ?_, hK _ ?_⟩; (first | (go_at_call 25; exact hp1 _) | (go_at_call 27; exact hp2 _) | (go_at_call 10; exact haw _)); clear hK K))
      (refine low_step (by assumption) ?_; intro R hR K hK; go_simp; first | (refine hK _ ?_; clear hK K) | (apply Exists.intro; refine ⟨fun _ => ?_, hK _ ?_⟩; (first | (go_at_call 25; exact hp1 _) | (go_at_call 27; exact hp2 _) | (go_at_call 10; exact haw _)); clear hK K))
      (refine low_step (by assumption) ?_; intro R hR K hK; go_simp; first | (refine hK _ ?_; clear hK K) | (apply Exists.intro; refine ⟨fun _ => ?_, hK _ ?_⟩; (first | (go_at_call 25; exact hp1 _) | (go_at_call 27; exact hp2 _) | (go_at_call 10; exact haw _)); clear hK K))
      (refine low_step (by assumption) ?_; intro R hR K hK; go_simp; first | (refine hK _ ?_; clear hK K) | (apply Exists.intro; refine ⟨fun _ => ?_, hK _ ?_⟩; (first | (go_at_call 25; exact hp1 _) | (go_at_call 27; exact hp2 _) | (go_at_call 10; exact haw _)); clear hK K))
      (refine low_step (by assumption) ?_; intro R hR K hK; go_simp; first | (refine hK _ ?_; clear hK K) | (apply Exists.intro; refine ⟨fun _ => ?_, hK _ ?_⟩; (first | (go_at_call 25; exact hp1 _) | (go_at_call 27; exact hp2 _) | (go_at_call 10; exact haw _)); clear hK K))
      (refine low_step (by assumption) ?_; intro R hR K hK; go_simp; first | (refine hK _ ?_; clear hK K) | (apply Exists.intro; refine ⟨fun _ => ?_, hK _ ?_⟩; (first | (go_at_call 25; exact hp1 _) | (go_at_call 27; exact hp2 _) | (go_at_call 10; exact haw _)); clear hK K))
      (refine low_step (by assumption) ?_; intro R hR K hK; go_simp; first | (refine hK _ ?_; clear hK K) | (apply Exists.intro; refine ⟨fun _ => ?_, hK _ ?_⟩; (first | (go_at_call 25; exact hp1 _) | (go_at_call 27; exact hp2 _) | (go_at_call 10; exact haw _)); clear hK K))
      (refine low_step (by assumption) ?_; intro R hR K hK; go_simp; first | (refine hK _ ?_; clear hK K) | (apply Exists.intro; refine ⟨fun _ => ?_, hK _ ?_⟩; (first | (go_at_call 25; exact hp1 _) | (go_at_call 27; exact hp2 _) | (go_at_call 10; exact haw _)); clear hK K))
      (refine low_step (by assumption) ?_; intro R hR K hK; go_simp; first | (refine hK _ ?_; clear hK K) | (apply Exists.intro; refine ⟨fun _ => ?_, hK _ ?_⟩; (first | (go_at_call 25; exact hp1 _) | (go_at_call 27; exact hp2 _) | (go_at_call 10; exact haw _)); clear hK K))
      (refine low_step (by assumption) ?_; intro R hR K hK; go_simp; first | (refine hK _ ?_; clear hK K) | (apply Exists.intro; refine ⟨fun _ => ?_, hK _ ?_⟩; (first | (go_at_call 25; exact hp1 _) | (go_at_call 27; exact hp2 _) | (go_at_call 10; exact haw _)); clear hK K))
      (refine low_step (by assumption) ?_; intro R hR K hK; go_simp; first | (refine hK _ ?_; clear hK K) | (apply Exists.intro; refine ⟨fun _ => ?_, hK _ ?_⟩; (first | (go_at_call 25; exact hp1 _) | (go_at_call 27; exact hp2 _) | (go_at_call 10; exact haw _)); clear hK K))
      (refine low_step (by assumption) ?_; intro R hR K hK; go_simp; first | (refine hK _ ?_; clear hK K) | (apply Exists.intro; refine ⟨fun _ => ?_, hK _ ?_⟩; (first | (go_at_call 25; exact hp1 _) | (go_at_call 27; exact hp2 _) | (go_at_call 10; exact haw _)); clear hK K))
      (refine low_step (by assumption) ?_; intro R hR K hK; go_simp; first | (refine hK _ ?_; clear hK K) | (apply Exists.intro; refine ⟨fun _ => ?_, hK _ ?_⟩; (first | (go_at_call 25; exact hp1 _) | (go_at_call 27; exact hp2 _) | (go_at_call 10; exact haw _)); clear hK K))
      (refine low_step (by assumption) ?_; intro R hR K hK; go_simp; first | (refine hK _ ?_; clear hK K) | (apply Exists.intro; refine ⟨fun _ => ?_, hK _ ?_⟩; (first | (go_at_call 25; exact hp1 _) | (go_at_call 27; exact hp2 _) | (go_at_call 10; exact haw _)); clear hK K))
      (refine low_step (by assumption) ?_; intro R hR K hK; go_simp; first | (refine hK _ ?_; clear hK K) | (apply Exists.intro; refine ⟨fun _ => ?_, hK _ ?_⟩; (first | (go_at_call 25; exact hp1 _) | (go_at_call 27; exact hp2 _) | (go_at_call 10; exact haw _)); clear hK K))
      (refine low_step (by assumption) ?_; intro R hR K hK; go_simp; first | (refine hK _ ?_; clear hK K) | (apply Exists.intro; refine ⟨fun _ => ?_, hK _ ?_⟩; (first | (go_at_call 25; exact hp1 _) | (go_at_call 27; exact hp2 _) | (go_at_call 10; exact haw _)); clear hK K))
      (refine low_step (by assumption) ?_; intro R hR K hK; go_simp; first | (refine hK _ ?_; clear hK K) | (apply Exists.intro; refine ⟨fun _ => ?_, hK _ ?_⟩; (first | (go_at_call 25; exact hp1 _) | (go_at_call 27; exact hp2 _) | (go_at_call 10; exact haw _)); clear hK K))
      (refine low_step (by assumption) ?_; intro R hR K hK; go_simp; first | (refine hK _ ?_; clear hK K) | (apply Exists.intro; refine ⟨fun _ => ?_, hK _ ?_⟩; (first | (go_at_call 25; exact hp1 _) | (go_at_call 27; exact hp2 _) | (go_at_call 10; exact haw _)); clear hK K))
      refine low_nil (by assumption) ?_; intro _ hw'; obtain ⟨⟨wq, hlow⟩, hw''⟩ := hw'; subst hw''; have HLOW := hid hlow; clear hlow; (try simp only)
      go_wp2_with fail
      go_ret
      exact ⟨rfl, bstep BX.out.low BX.out.low.size HLOW.out⟩
end Go.Proofs.YtedfajokiblfhaaGreat
