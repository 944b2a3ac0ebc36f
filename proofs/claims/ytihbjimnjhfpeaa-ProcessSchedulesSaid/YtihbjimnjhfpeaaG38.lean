/- Texts of this seat, one behind the other. -/
import Derived.Test.YtihbjimnjhfpeaaG37
import Derived.Test.YtihbjimnjhfpeaaG15
import Derived.Test.YtihbjimnjhfpeaaG11
/- Walk of a search's least: contract. -/
namespace Go.Proofs.Ytihbjimnjhfpeaa
open Go.RowKit Go.Lib

theorem yb_low {w W W' : World} {b : Nat} (h : Below w.heap.size w W) (hg : W.grownBy W' (some b)) (hb : w.heap.size ≤ b) : Below w.heap.size w W' := h.grown hg h.size (fun j e => by cases e; exact hb)
theorem tst_shift {c : Cn} {f : Int → Nat} {D E : Dish} {need bath cold : Int} {cooling p : Nat} (j : Nat) (h : E = afN c f D bath p) : tstC c f E need bath cold cooling j = tstC c f D need bath cold cooling (p + j) := by
  unfold tstC
  rw [h, afN_add]

set_option maxRecDepth 100000 in
set_option maxHeartbeats 8000000 in
theorem sleast_any (c : Cn) (need : Int) (F : Nat) (lb : Array Value) (bath cold : Int) (most cooling : Nat) (f : Int → Nat) (lo hi : Int) (mb B0 : Nat) (I : World → Prop) (D : Dish) (ua ub : Option Addr) (uc ud : Nat) (w : World) (hR : RateOk F lb f lo hi mb B0 I) (hF : Fix I mb) (hv : c.V) (hG : Good c D) (hb : okT bath = true) (hbb : lo ≤ bath ∧ bath ≤ hi) (hc0 : okT cold = true) (hbc : lo ≤ cold ∧ cold ≤ hi) (hbd : ∀ t ∈ D.1.1, lo ≤ t ∧ t ≤ hi)
    (hmost : most ≤ 2000) (hn : cooling ≤ 2000) (hmono : risB c D bath cold = true → ∀ j n, j ≤ n → n ≤ most → tstC c f D need bath cold cooling j = true → tstC c f D need bath cold cooling n = true)
    (hI : I w) (ht : RowI w (.slice ua D.1.1.length uc) D.1.1) (hs : RowI w (.slice ub D.2.length ud) (ivN D.2)) :
    Calls Try.prog 29 #[.agg #[.int .i64 (c.R : Int), .int .i64 (c.L : Int), .int .i64 c.A, .int .i64 c.B, .int .i64 c.K, .int .i64 c.A2, .int .i64 c.B2, .int .i64 need, .func (.func F) #[] lb, .int .i64 bath, .int .i64 (most : Nat), .int .i64 cold, .int .i64 (cooling : Nat)], .agg #[.slice ua D.1.1.length uc, .bool D.1.2, .slice ub D.2.length ud]] w (LeastR (tstC c f D need bath cold cooling) most w) := by
  have HRR := hid hR
  have hB0 := hR.le w hI
  have HF1 := hid (fun p (hp : p ≤ most) (x : Ck) (more : Nat) (sbC fb qb : Nat) (W : World) (hmore : 1 ≤ more ∧ more ≤ 45) (h : LsL c need F lb bath cold most cooling I f D p x w W) (h1 : W.heap[sbC]? = some (.cells #[.int .i64 (c.R : Int), .int .i64 (c.L : Int), .int .i64 c.A, .int .i64 c.B, .int .i64 c.K, .int .i64 c.A2, .int .i64 c.B2, .int .i64 need, .func (.func F) #[] lb, .int .i64 bath, .int .i64 (most : Nat), .int .i64 cold, .int .i64 (cooling : Nat)] 58 (0, 0))) (h2 : W.heap[fb]? = some (.cells (ckc x) 78 (0, 0))) (h3 : W.heap[qb]? = some (.cells #[.int .i64 (more : Nat)] 3 (0, 0))) => by
    have hx := h.dis
    obtain ⟨N, hN1, hN⟩ := rounds_ex x.m more most hmore.1 (by rw [h.tick]; exact hp)
    have h9 := first_any c need F lb bath cold most cooling f lo hi mb B0 I x more N sbC fb qb w.heap.size (w.heap.size + 1 + 1) W hR hF hv (by rw [hx]; exact afN_good p hv.ok hG hb) hb hbb hc0 hbc (by rw [hx]; exact afN_bd p hv.ok hG hbb hbd) (by rw [h.tick]; omega) hmost hn hmore hN (by omega) h1 h2 h3 h.one h.last h.inv h.at'
    exact Calls.mono h9 (R' := fun e W' => W.grownBy W' (some (w.heap.size + 1 + 1)) ∧
      ((∃ k y, p + k * more ≤ most ∧ (∀ j, j < k → tstC c f x.d need bath cold cooling (j * more) = false) ∧ tstC c f x.d need bath cold cooling (k * more) = true ∧ e = .returned (.tuple #[.agg (ckc y), .bool true]) ∧ XsC c f x.d bath x.m more (w.heap.size + 1 + 1) k y W' ∧ LastC c f x.d bath x.m more (w.heap.size + 1 + 1) k W') ∨
       ((∀ j, p + j * more ≤ most → tstC c f x.d need bath cold cooling (j * more) = false) ∧ e = .returned (.tuple #[.agg zck, .bool false]) ∧ ∃ k, 1 ≤ k ∧ p + (k - 1) * more ≤ most ∧ LastC c f x.d bath x.m more (w.heap.size + 1 + 1) k W'))) (by
      rintro e W' ⟨hg, ⟨k, y, hk, r1, r2, r3, r4, r5⟩ | ⟨r1, r2, r3⟩⟩
      · exact ⟨hg, .inl ⟨k, y, by have := (hN k).1 hk; rw [h.tick] at this; exact this, r1, r2, r3, r4, r5⟩⟩
      · exact ⟨hg, .inr ⟨fun j hj => r1 j ((hN j).2 (by rw [h.tick]; exact hj)), r2, N, hN1, by have := (hN (N - 1)).1 (by omega); rw [h.tick] at this; exact this, r3⟩⟩))
  have HS2 := hid (b2_start (w := w) (T1 := 58) (T2 := 63) (A := #[.int .i64 (c.R : Int), .int .i64 (c.L : Int), .int .i64 c.A, .int .i64 c.B, .int .i64 c.K, .int .i64 c.A2, .int .i64 c.B2, .int .i64 need, .func (.func F) #[] lb, .int .i64 bath, .int .i64 (most : Nat), .int .i64 cold, .int .i64 (cooling : Nat)]) (B := #[.slice ua D.1.1.length uc, .bool D.1.2, .slice ub D.2.length ud]))
  have HS3 := hid (b3_start (w := w) (T1 := 58) (T2 := 63) (T3 := 78) (A := #[.int .i64 (c.R : Int), .int .i64 (c.L : Int), .int .i64 c.A, .int .i64 c.B, .int .i64 c.K, .int .i64 c.A2, .int .i64 c.B2, .int .i64 need, .func (.func F) #[] lb, .int .i64 bath, .int .i64 (most : Nat), .int .i64 cold, .int .i64 (cooling : Nat)]) (B := #[.slice ua D.1.1.length uc, .bool D.1.2, .slice ub D.2.length ud]) (R := ckc ⟨D, 0, ua, ub, uc, ud⟩))
  have p1 : 0 < D.1.1.length := by have := (bodyV_iff.1 hG.body).1; have := hv.ok.p.1; omega
  have p2 : 0 < (ivN D.2).length := by have := hG.len; have := hv.ok.p.1; rw [ivN_len]; omega
  have HL3 : Hid (LsL c need F lb bath cold most cooling I f D 0 ⟨D, 0, ua, ub, uc, ud⟩ w (((w.alloc (.cells #[.int .i64 (c.R : Int), .int .i64 (c.L : Int), .int .i64 c.A, .int .i64 c.B, .int .i64 c.K, .int .i64 c.A2, .int .i64 c.B2, .int .i64 need, .func (.func F) #[] lb, .int .i64 bath, .int .i64 (most : Nat), .int .i64 cold, .int .i64 (cooling : Nat)] 58)).alloc (.cells #[.slice ua D.1.1.length uc, .bool D.1.2, .slice ub D.2.length ud] 63)).alloc (.cells (ckc ⟨D, 0, ua, ub, uc, ud⟩) 78))) :=
    ⟨HS3.out.one, HS3.out.three, ⟨ht.keep HS3.out.low, hs.keep HS3.out.low, fun p e => .inl (by cases e; have := rowI_lt ht p1; omega), fun p e => .inl (by cases e; have := rowI_lt hs p2; omega)⟩, (afN_zero c f D bath).symm, rfl, hR.below hI HS3.out.low, HS3.out.low⟩
  have HMO := hid hmono
  obtain ⟨⟨m0, m1, m2, m3, m4, m5, m6, m7, m8⟩, ⟨s0, s1, s2, s3⟩⟩ := sr_cells HS3.out.one
  have d0 := cell_of_row _ _ 0 _ _ _ HS2.out.two
  have d1 := cell_of_row _ _ 1 _ _ _ HS2.out.two
  have d2 := cell_of_row _ _ 2 _ _ _ HS2.out.two
  have t0 := cell_of_row _ _ 0 _ _ _ HS3.out.two
  have t1 := cell_of_row _ _ 1 _ _ _ HS3.out.two
  have t2 := cell_of_row _ _ 2 _ _ _ HS3.out.two
  have z2 := HS2.out.lt
  have z3 := lt_of_block HS3.out.three
  have z4 := lt_of_block HS3.out.two
  have HRI := hid (fun W => rising_any c need F lb bath cold most cooling D ua ub uc ud W)
  simp only [ckc, List.getElem?_toArray, List.getElem?_cons_zero, List.getElem?_cons_succ] at d0 d1 d2 t0 t1 t2 m0 m1 m2 m3 m4 m5 m6 m7 m8 s0 s1 s2 s3
  clear hR hF hv hG hb hbb hc0 hbc hbd hmono hI ht hs p1 p2 HS2 HS3
  go_enter Try.func29, Try.ntmps29
  go_wp2_with fail
  refine (HRI.out _).mono ?_
  rintro e W2 ⟨rfl, hb2⟩
  have HL := hid (HL3.out.keep HRR.out hb2)
  clear hb2 m0 m1 m2 m3 m4 m5 m6 m7 m8 s0 s1 s2 s3 d0 d1 d2 t0 t1 t2 z2 z3 z4 HL3 HRI
  cases hri : risB c D bath cold
  · have hpm : 0 ≤ most := Nat.zero_le _
    have hnop : ∀ j, j < 0 → tstC c f D need bath cold cooling j = false := fun j hj => absurd hj (Nat.not_lt_zero j)
    clear HMO
    obtain ⟨x, hx⟩ : ∃ x : Ck, x = ⟨D, 0, ua, ub, uc, ud⟩ := ⟨_, rfl⟩
    rw [← hx] at HL
    obtain ⟨p, hp⟩ : ∃ p : Nat, p = 0 := ⟨_, rfl⟩
    rw [← hp] at HL hpm hnop
    clear hx hp
    have HM := hid HL.out.tick
    obtain ⟨⟨m0, m1, m2, m3, m4, m5, m6, m7, m8⟩, ⟨s0, s1, s2, s3⟩⟩ := sr_cells HL.out.one
    have l0 := cell_of_row _ _ 0 _ _ _ HL.out.last
    have l1 := cell_of_row _ _ 1 _ _ _ HL.out.last
    have l2 := cell_of_row _ _ 2 _ _ _ HL.out.last
    have l3 := cell_of_row _ _ 3 _ _ _ HL.out.last
    simp only [ckc, List.getElem?_toArray, List.getElem?_cons_zero, List.getElem?_cons_succ] at l0 l1 l2 l3
    have hz3 := lt_of_block HL.out.last
    have HCK := hid (cooks_any c need F lb bath cold most cooling 1 x)
    simp only [ckc] at HCK
    go_wp2_with fail
    refine (HCK.out _).mono ?_
    rintro e W4 ⟨rfl, hW4⟩
    obtain ⟨h1, h2, h3, h4⟩ := cooks3 (x := x) (more := 1) hW4.symm
    have HL4 := hid (HL.out.keep HRR.out h4)
    have HQ := hid (And.intro h1 (And.intro h2 h3))
    clear hW4 h1 h2 h3 h4 m0 m1 m2 m3 m4 m5 m6 m7 m8 s0 s1 s2 s3 l0 l1 l2 l3 HCK
    go_wp2_with fail
    refine (HF1.out p hpm x 1 _ _ _ W4 (by omega) HL4.out HQ.out.1 HQ.out.2.1 HQ.out.2.2).mono ?_
    rintro e W5 ⟨hg, ⟨k, y, hk, hno, hyes, rfl, hxs, hla⟩ | ⟨hno, rfl, hla⟩⟩
    · have HLW := hid (yb_low HL4.out.low hg (by omega))
      have HR : Hid (p + k ≤ most ∧ tstC c f D need bath cold cooling (p + k) = true ∧ (∀ j, j < p + k → tstC c f D need bath cold cooling j = false) ∧ y.m = p + k) := by
        have hT := fun j => tst_shift (f := f) (need := need) (cold := cold) (cooling := cooling) (bath := bath) j HL4.out.dis
        have e1 : k * 1 = k := Nat.mul_one k
        rw [hT, e1] at hyes
        refine ⟨by omega, hyes, fun j hj => ?_, by have := hxs.2.2; rw [HM.out, e1] at this; exact this⟩
        by_cases h : j < p
        · exact hnop j h
        · have := hno (j - p) (by omega)
          rw [hT, Nat.mul_one, show p + (j - p) = j by omega] at this
          exact this
      have n3 := cell_of_row _ _ 3 _ _ _ (heap_alloc_new W5 (.cells (ckc y) 78))
      simp only [ckc, List.getElem?_toArray, List.getElem?_cons_zero, List.getElem?_cons_succ] at n3 ⊢
      rw [HR.out.2.2.2] at n3
      rw [HR.out.2.2.2]
      clear hno hyes hxs hla hg
      go_wp2_with fail
      refine bodyPost_ret (v := .tuple #[.int .i64 ((p + k : Nat) : Int), .int .i64 0]) (by simp [results, Try.results29, go_sem]) rfl ⟨HLW.out.alloc (by have := HLW.out.size; omega) _, .inl ⟨p + k, HR.out.1, HR.out.2.1, HR.out.2.2.1, rfl⟩⟩
    · have HLW := hid (yb_low HL4.out.low hg (by omega))
      have HR : Hid (∀ j, j ≤ most → tstC c f D need bath cold cooling j = false) := by
        intro j hj
        by_cases h : j < p
        · exact hnop j h
        · have := hno (j - p) (by omega)
          rw [Nat.mul_one, tst_shift (j - p) HL4.out.dis, show p + (j - p) = j by omega] at this
          exact this
      simp only [zck]
      clear hno hla hg
      go_wp2_with fail
      refine bodyPost_ret (v := .tuple #[.int .i64 0, .int .i64 8]) (by simp [results, Try.results29, go_sem]) rfl ⟨HLW.out.alloc (by have := HLW.out.size; omega) _, .inr ⟨HR.out, rfl⟩⟩
  · have hmo := HMO.out hri
    obtain ⟨x, hx⟩ : ∃ x : Ck, x = ⟨D, 0, ua, ub, uc, ud⟩ := ⟨_, rfl⟩
    rw [← hx] at HL
    clear hx
    have HM0 := hid HL.out.tick
    obtain ⟨⟨m0, m1, m2, m3, m4, m5, m6, m7, m8⟩, ⟨s0, s1, s2, s3⟩⟩ := sr_cells HL.out.one
    have l0 := cell_of_row _ _ 0 _ _ _ HL.out.last
    have l1 := cell_of_row _ _ 1 _ _ _ HL.out.last
    have l2 := cell_of_row _ _ 2 _ _ _ HL.out.last
    have l3 := cell_of_row _ _ 3 _ _ _ HL.out.last
    simp only [ckc, List.getElem?_toArray, List.getElem?_cons_zero, List.getElem?_cons_succ] at l0 l1 l2 l3
    have hz3 := lt_of_block HL.out.last
    have HCK := hid (cooks_any c need F lb bath cold most cooling 45 x)
    simp only [ckc] at HCK
    have HMO2 := hid hmo
    clear hmo HMO
    go_wp2_with fail
    refine (HCK.out _).mono ?_
    rintro e W4 ⟨rfl, hW4⟩
    obtain ⟨h1, h2, h3, h4⟩ := cooks3 (x := x) (more := 45) hW4.symm
    have HL4 := hid (HL.out.keep HRR.out h4)
    have HQ := hid (And.intro h1 (And.intro h2 h3))
    clear hW4 h1 h2 h3 h4 m0 m1 m2 m3 m4 m5 m6 m7 m8 s0 s1 s2 s3 l0 l1 l2 l3 HCK
    go_wp2_with fail
    refine (HF1.out 0 (Nat.zero_le _) x 45 _ _ _ W4 (by omega) HL4.out HQ.out.1 HQ.out.2.1 HQ.out.2.2).mono ?_
    rintro e W5 ⟨hg, hres⟩
    have hres2 : ∃ k, (k = 0 ∨ (k - 1) * 45 ≤ most) ∧ (∀ j, j < k → tstC c f x.d need bath cold cooling (j * 45) = false) ∧ LastC c f x.d bath x.m 45 (w.heap.size + 1 + 1) k W5 := by
      rcases hres with ⟨k, y, hk, hno, hyes, rfl, hxs, hla⟩ | ⟨hno, rfl, k, hk1, hk2, hla⟩
      · exact ⟨k, .inr (by have : (k - 1) * 45 ≤ k * 45 := Nat.mul_le_mul_right _ (by omega); omega), hno, hla⟩
      · exact ⟨k, .inr (by omega), fun j hj => hno j (by have : j * 45 ≤ (k - 1) * 45 := Nat.mul_le_mul_right _ (by omega); omega), hla⟩
    have hres3 : ∃ v, e = .returned v := by
      rcases hres with ⟨k, y, hk, hno, hyes, rfl, hxs, hla⟩ | ⟨hno, rfl, k, hk1, hk2, hla⟩
      · exact ⟨_, rfl⟩
      · exact ⟨_, rfl⟩
    obtain ⟨v9, rfl⟩ := hres3
    obtain ⟨k, hkm, hno, z, hz1, hz2⟩ := hres2
    have hpm : (k - 1) * 45 ≤ most := by rcases hkm with rfl | h <;> omega
    have hnop : ∀ j, j < (k - 1) * 45 → tstC c f D need bath cold cooling j = false := by
      intro j hj
      cases hT : tstC c f D need bath cold cooling j
      · rfl
      · have h1 := HMO2.out j ((k - 1) * 45) (by omega) hpm hT
        have h2 := hno (k - 1) (by omega)
        rw [tst_shift ((k - 1) * 45) HL4.out.dis, Nat.zero_add, h1] at h2
        cases h2
    have HL9 : Hid (LsL c need F lb bath cold most cooling I f D ((k - 1) * 45) z w W5) := by
      have hd := HL4.out.dis
      have hy0 := hg.size
      refine ⟨(hg.block _ (lt_of_block HL4.out.one) (fun e => by have := Option.some.inj e; omega)).trans HL4.out.one, hz1, hz2.1, ?_, by rw [hz2.2.2, HM0.out]; omega, HRR.out.keep _ _ _ HL4.out.inv hg (fun j e => by cases e; omega), yb_low HL4.out.low hg (by omega)⟩
      rw [hz2.2.1, hd, afN_zero]
    clear hno hz1 hz2 hg hres HL HL4 HQ HMO2 HM0 hkm
    have HL := hid HL9.out
    clear HL9
    generalize (k - 1) * 45 = p at *
    generalize z = x at *
    have HM := hid HL.out.tick
    obtain ⟨⟨m0, m1, m2, m3, m4, m5, m6, m7, m8⟩, ⟨s0, s1, s2, s3⟩⟩ := sr_cells HL.out.one
    have l0 := cell_of_row _ _ 0 _ _ _ HL.out.last
    have l1 := cell_of_row _ _ 1 _ _ _ HL.out.last
    have l2 := cell_of_row _ _ 2 _ _ _ HL.out.last
    have l3 := cell_of_row _ _ 3 _ _ _ HL.out.last
    simp only [ckc, List.getElem?_toArray, List.getElem?_cons_zero, List.getElem?_cons_succ] at l0 l1 l2 l3
    have hz3 := lt_of_block HL.out.last
    have HCK := hid (cooks_any c need F lb bath cold most cooling 1 x)
    simp only [ckc] at HCK
    go_wp2_with fail
    refine (HCK.out _).mono ?_
    rintro e W4 ⟨rfl, hW4⟩
    obtain ⟨h1, h2, h3, h4⟩ := cooks3 (x := x) (more := 1) hW4.symm
    have HL4 := hid (HL.out.keep HRR.out h4)
    have HQ := hid (And.intro h1 (And.intro h2 h3))
    clear hW4 h1 h2 h3 h4 m0 m1 m2 m3 m4 m5 m6 m7 m8 s0 s1 s2 s3 l0 l1 l2 l3 HCK
    go_wp2_with fail
    refine (HF1.out p hpm x 1 _ _ _ W4 (by omega) HL4.out HQ.out.1 HQ.out.2.1 HQ.out.2.2).mono ?_
    rintro e W5 ⟨hg, ⟨k, y, hk, hno, hyes, rfl, hxs, hla⟩ | ⟨hno, rfl, hla⟩⟩
    · have HLW := hid (yb_low HL4.out.low hg (by omega))
      have HR : Hid (p + k ≤ most ∧ tstC c f D need bath cold cooling (p + k) = true ∧ (∀ j, j < p + k → tstC c f D need bath cold cooling j = false) ∧ y.m = p + k) := by
        have hT := fun j => tst_shift (f := f) (need := need) (cold := cold) (cooling := cooling) (bath := bath) j HL4.out.dis
        have e1 : k * 1 = k := Nat.mul_one k
        rw [hT, e1] at hyes
        refine ⟨by omega, hyes, fun j hj => ?_, by have := hxs.2.2; rw [HM.out, e1] at this; exact this⟩
        by_cases h : j < p
        · exact hnop j h
        · have := hno (j - p) (by omega)
          rw [hT, Nat.mul_one, show p + (j - p) = j by omega] at this
          exact this
      have n3 := cell_of_row _ _ 3 _ _ _ (heap_alloc_new W5 (.cells (ckc y) 78))
      simp only [ckc, List.getElem?_toArray, List.getElem?_cons_zero, List.getElem?_cons_succ] at n3 ⊢
      rw [HR.out.2.2.2] at n3
      rw [HR.out.2.2.2]
      clear hno hyes hxs hla hg
      go_wp2_with fail
      refine bodyPost_ret (v := .tuple #[.int .i64 ((p + k : Nat) : Int), .int .i64 0]) (by simp [results, Try.results29, go_sem]) rfl ⟨HLW.out.alloc (by have := HLW.out.size; omega) _, .inl ⟨p + k, HR.out.1, HR.out.2.1, HR.out.2.2.1, rfl⟩⟩
    · have HLW := hid (yb_low HL4.out.low hg (by omega))
      have HR : Hid (∀ j, j ≤ most → tstC c f D need bath cold cooling j = false) := by
        intro j hj
        by_cases h : j < p
        · exact hnop j h
        · have := hno (j - p) (by omega)
          rw [Nat.mul_one, tst_shift (j - p) HL4.out.dis, show p + (j - p) = j by omega] at this
          exact this
      simp only [zck]
      clear hno hla hg
      go_wp2_with fail
      refine bodyPost_ret (v := .tuple #[.int .i64 0, .int .i64 8]) (by simp [results, Try.results29, go_sem]) rfl ⟨HLW.out.alloc (by have := HLW.out.size; omega) _, .inr ⟨HR.out, rfl⟩⟩
end Go.Proofs.Ytihbjimnjhfpeaa

/- slices.Repeat no times; ticks; Cook: contracts. -/
namespace Go.Proofs.Ytihbjimnjhfpeaa
open Go.RowKit Go.Lib

set_option maxRecDepth 100000 in
set_option maxHeartbeats 1000000 in
theorem mul64_none (w : World) :
    Calls Try.prog 66 #[.int .u64 1, .int .u64 0] w fun e w' => e = .returned (.tuple #[.int .u64 0, .int .u64 0]) ∧ w = w' := by
  have e1 : bits .and .u64 1 4294967295 = 1 := by decide
  have e3 : bits .and .u64 0 4294967295 = 0 := by decide
  go_enter Try.func66, Try.ntmps66
  go_wp2
  go_ret2
  exact ⟨rfl, rfl⟩
set_option maxRecDepth 100000 in
set_option maxHeartbeats 1000000 in
theorem mul_none (w : World) :
    Calls Try.prog 52 #[.int .u64 1, .int .u64 0] w fun e w' => e = .returned (.tuple #[.int .u64 0, .int .u64 0]) ∧ w = w' := by
  go_enter Try.func52, Try.ntmps52
  go_wp2_with (go_at_call 66; refine (mul64_none _).mono ?_; rintro e w' ⟨rfl, rfl⟩)
  go_ret2
  exact ⟨rfl, rfl⟩
set_option maxRecDepth 100000 in
set_option maxHeartbeats 2000000 in
theorem repeat_none (w : World) (b o cap : Nat) :
    Calls Try.prog 31 #[.slice (some ⟨b, o, none⟩) 1 cap, .int .i64 0] w (RepP w []) := by
  have hmk := run_make_row' (P := Try.prog) 44 3 (.int .i64 0) 8 Try.underlying44 infoIf rfl .i64 .i64 0 (by omega) (by omega)
  simp only [show ((0 : Nat) : Int) = 0 from rfl] at hmk
  go_enter Try.func31, Try.ntmps31
  go_wp2_with (first
    | (go_at_call 52; refine (mul_none _).mono ?_; rintro e w' ⟨rfl, rfl⟩)
    | (refine wpList_copy_splice rfl (.tmp 31) (.tmp 32) 44 44 rfl 3 Try.underlying44 infoI (some ⟨w.heap.size, 0, none⟩) (some ⟨b, o, none⟩) 0 0 1 cap rfl rfl w.heap.size 0 (List.replicate 0 (Value.int .i64 0)) 3 (made_at w 0 3) [] rfl (fun h => absurd h (Nat.lt_irrefl 0)) (by simp) (ints_one []) w.heap.size w ((Below.refl _ w).alloc (Nat.le_refl _) _) (Nat.le_refl _) ?_; intro w6 HG6 hB6))
  have hg6 := HG6.out
  simp only [List.replicate_zero, splice, List.take_nil, List.drop_nil, List.append_nil] at hg6
  have HG := hid hg6
  have HB6 := hid hB6
  clear HG6 hg6 hB6 hmk
  go_loopw [8] (fun i wr => i = .int .i64 0 ∧ Hid (wr.heap[w.heap.size]? = some (.cells (ivs []).toArray 3 (0, 0))) ∧ Hid (Below w.heap.size w wr)) (fun i _ => 0)
  case atStart => exact ⟨rfl, HG, HB6⟩
  case round =>
    obtain ⟨rfl, HW, HB⟩ := hrel
    go_wp2
    go_ret
    exact ⟨w.heap.size, rfl, Nat.le_refl _, HW.out, HB.out⟩

theorem rep_any (w : World) (b o cap n : Nat) (t : Int) (hc : w.cell? ⟨b, o, none⟩ = some (.int .i64 t)) (hn : n ≤ 4096) :
    Calls Try.prog 31 #[.slice (some ⟨b, o, none⟩) 1 cap, .int .i64 (n : Int)] w (RepP w (List.replicate n t)) := by
  rcases Nat.eq_zero_or_pos n with rfl | h
  · exact repeat_none w b o cap
  · exact repeat_any w b o cap n t hc h hn
def tick1 (x : Int) : Bool := decide (0 ≤ x) && decide (x ≤ 2000)
def ticksB (l : List Int) : Bool := l.all tick1 && decide (l.sum ≤ 2000)
theorem ticks_bad {l : List Int} {k : Nat} (hk : k < l.length) (h : tick1 l[k] = false) : ticksB l = false := by
  have : l.all tick1 = false := by
    rw [List.all_eq_false]
    exact ⟨l[k], List.getElem_mem hk, by rw [h]; simp⟩
  unfold ticksB
  rw [this]; rfl
theorem sum_take {l : List Int} {k : Nat} (hk : k < l.length) : (l.take (k + 1)).sum = (l.take k).sum + l[k] := by
  rw [List.take_add_one, List.getElem?_eq_getElem hk, Option.toList_some, List.sum_append, List.sum_singleton]
theorem sum_bd {l : List Int} (h : ∀ j (hj : j < l.length), tick1 l[j] = true) : 0 ≤ l.sum ∧ l.sum ≤ 2000 * l.length := by
  induction l with
  | nil => simp
  | cons x l ih =>
    have h0 := h 0 (by simp)
    have h1 := ih (fun j hj => by have := h (j + 1) (by simp; omega); simpa using this)
    simp [tick1] at h0
    simp only [List.sum_cons, List.length_cons]
    omega
set_option maxHeartbeats 2000000 in
theorem ticks_any (w : World) (v : Value) (l : List Int) (hl : RowI w v l) (hlen : l.length ≤ 1000) :
    Calls Try.prog 25 #[v] w fun e w' => e = .returned (.bool (ticksB l)) ∧ w = w' := by
  rcases hl with ⟨a0, c0, rfl, rfl⟩ | ⟨b, o, cap, rfl, hm, hc⟩
  · go_enter Try.func25, Try.ntmps25
    go_wp2
    refine wp_loop_rounds 1 ?_
    rw [rounds_succ]
    go_wp2
    go_ret
    exact ⟨rfl, rfl⟩
  · have HC := hid hc; clear hc hm
    go_enter Try.func25, Try.ntmps25
    go_wp2
    go_loop [3, 8] (fun s i => ∃ k : Nat, k ≤ l.length ∧ i = .int .i64 (k : Int) ∧ s = .int .i64 (l.take k).sum ∧ Hid (∀ j (hj : j < l.length), j < k → tick1 l[j] = true)) (fun s i => l.length - (intOf i).toNat)
    case atStart => exact ⟨0, Nat.zero_le _, rfl, rfl, fun j _ h => absurd h (Nat.not_lt_zero _)⟩
    case round =>
      obtain ⟨k, hk, rfl, rfl, hok⟩ := hrel
      have hbd : 0 ≤ (l.take k).sum ∧ (l.take k).sum ≤ 2000 * k := by
        have := sum_bd (l := l.take k) (fun j hj => by rw [List.length_take] at hj; rw [List.getElem_take]; exact hok.out j (by omega) (by omega))
        rw [List.length_take, Nat.min_eq_left hk] at this
        exact this
      by_cases hlt : k < l.length
      · have ex := HC.out k hlt
        have hlt' : (k : Int) < l.length := by omega
        have HSU := hid (sum_take hlt)
        cases ho : tick1 l[k]
        · have hE := hid (ticks_bad hlt ho)
          generalize (l.take k).sum = sm at *
          generalize l[k] = x at ex ho
          change (decide (0 ≤ x) && decide (x ≤ 2000)) = false at ho
          go_wp2_with (go_at_call 11; refine (pwithin_any _ _ _ _).mono ?_; rintro e w' ⟨rfl, rfl⟩)
          go_ret
          exact ⟨by rw [hE.out]; rfl, rfl⟩
        · have hst : Hid (∀ j (hj : j < l.length), j < k + 1 → tick1 l[j] = true) := fun j hj h => by
            rcases Nat.lt_or_ge j k with h1 | h1
            · exact hok.out j hj h1
            · obtain rfl : j = k := by omega
              exact ho
          have hxb : 0 ≤ l[k] ∧ l[k] ≤ 2000 := by simpa [tick1] using ho
          generalize (l.take k).sum = sm at *
          generalize l[k] = x at ex ho HSU hxb
          change (decide (0 ≤ x) && decide (x ≤ 2000)) = true at ho
          go_wp2_with (go_at_call 11; refine (pwithin_any _ _ _ _).mono ?_; rintro e w' ⟨rfl, rfl⟩)
          go_round
          case rel => exact ⟨k + 1, by omega, by go_num, by rw [HSU.out], hst⟩
          case measure => simp [intOf]; omega
      · obtain rfl : k = l.length := by omega
        rw [List.take_length] at *
        have hE := hid (show ticksB l = decide (l.sum ≤ 2000) by
          unfold ticksB
          rw [show l.all tick1 = true from List.all_eq_true.2 fun x hx => by
            obtain ⟨j, hj, e⟩ := List.mem_iff_getElem.1 hx
            rw [← e]
            exact hok.out j hj hj]
          rfl)
        generalize l.sum = sm at *
        go_wp2
        go_ret
        exact ⟨by rw [hE.out]; rfl, rfl⟩
end Go.Proofs.Ytihbjimnjhfpeaa

/- A slice of ints that comes in, opened, over heat's texts. -/
namespace Go.Proofs.Ytihbjimnjhfpeaa
open Go.ChangeShapes Go.WideShapes Go.ChangeAt Go.RowKit Go.Joins Go.Deep

section
variable {H : Type} {enc : TypeId × Value → H} {w : World} {base : Nat} {spare : Nat → Bool} {held : Bool}
set_option maxRecDepth 100000 in
theorem open_rowI {r : Reach} {b0 : Nat} {v : Value} {d : DataW H} {p : List MemPlace} (hv : Value.okWide Try.prog w r b0 44 v) (h : DataW.Trod enc Try.prog w base spare held 44 v d p) :
    ∃ l : List Int, RowI w v l := by
  obtain ⟨a0, len, cap, rfl⟩ := okWide_slice Try.underlying44 hv
  obtain ⟨fuel, hf⟩ := h
  rcases open_ints Try.underlying44 Try.underlying3 cellsI hf with ⟨hcs, hx⟩ | ⟨a, len', cap', zs, hcs, _, hl, hm, hz, hx, hcell, hwz⟩
  · simp [Value.cells] at hcs
    obtain ⟨rfl, rfl, rfl⟩ := hcs
    exact ⟨[], .inl ⟨_, _, rfl, rfl⟩⟩
  · simp [Value.cells] at hcs
    obtain ⟨rfl, rfl, rfl⟩ := hcs
    have hz' : len ≤ zs.length := by rw [hz]; split <;> omega
    clear hz
    by_cases hp : 0 < zs.length
    · obtain ⟨b, off, rfl, hc⟩ := ints_at hcell hp
      have ht : (zs.take len).length = len := by rw [List.length_take]; omega
      refine ⟨zs.take len, .inr ⟨b, off, cap, by rw [ht], by rw [ht]; omega, fun k hk => ?_⟩⟩
      rw [ht] at hk
      rw [hc k (by omega), List.getElem_take]
      simp [List.getD, show k < zs.length by omega]
    · obtain rfl : len = 0 := by omega
      exact ⟨[], .inl ⟨_, _, rfl, rfl⟩⟩
end
end Go.Proofs.Ytihbjimnjhfpeaa
