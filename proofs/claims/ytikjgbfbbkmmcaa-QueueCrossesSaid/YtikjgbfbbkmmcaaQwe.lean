/- The chapter's example (awake): contract. -/
import Derived.Test.YtikjgbfbbkmmcaaQwd
import Derived.Test.YtikjgbfbbkmmcaaQvz
namespace Go.Proofs.Ytikjgbfbbkmmcaa
open Go.RowKit Go.Maps

theorem plan_any (v : Value) (l : List Bsk) (m p wt : Int) (w : World) (hr : RowE encB w v l) (hs : ∀ b ∈ l, b.pr.size ≤ maxLen) :
    Calls Try.prog 22 #[v, .int .i64 m, .int .i64 p, .int .i64 wt] w (PlanP l m p wt w) := by
  cases hb : bskQ l
  · exact plan_bad v l m p wt w hr hs hb
  · cases hn : numsQ m p wt
    · exact plan_far v l m p wt w hr hs hb hn
    · obtain ⟨M, rfl⟩ : ∃ M : Nat, m = (M : Int) := ⟨m.toNat, by
        unfold numsQ at hn
        simp only [Bool.and_eq_true, inQ_iff] at hn
        omega⟩
      exact plan_ok v l M p wt w hr hs hb hn
theorem proved_m (v : Value) (l : List Bsk) (m : Int) (M : Nat) (hm : m = (M : Nat)) (p wt : Int) (f k : Int) (F K : Nat) (hF : f = (F : Nat)) (hK : k = (K : Nat)) (w : World) (hr : RowE encB w v l) (hs : ∀ b ∈ l, b.pr.size ≤ maxLen) (hb : bskQ l = true) (hn : numsQ m p wt = true) (hk : K < l.length) (hfk : F ≤ K) :
    Calls Try.prog 16 #[v, .int .i64 m, .int .i64 p, .int .i64 wt, .agg #[.int .i64 f, .int .i64 k]] w fun e w' => e = .returned (.bool (prvQ l m p wt f k)) ∧ Below w.heap.size w w' := by
  subst hm hF hK
  exact proved_in v l M p wt F K w hr hs hb hn hk hfk
/-- What Plan hands back where there is no plan is a proof. -/
theorem prv_of {l : List Bsk} {m p wt : Int} {f k : Nat} (hb : bskQ l = true) (hn : numsQ m p wt = true) (hk : k < l.length) (h : RsnP (caQ l) m.toNat p f k) (hl : caQ l k + wt < fcT (caQ l) m.toNat p k) : prvQ l m p wt f k = true ∧ f ≤ k := by
  have hnn := hn
  unfold numsQ at hn
  simp only [Bool.and_eq_true, inQ_iff] at hn
  obtain ⟨M, rfl⟩ : ∃ M : Nat, m = (M : Int) := ⟨m.toNat, by omega⟩
  rw [Int.toNat_natCast] at h hl
  obtain ⟨q, hq, h1, _, h2⟩ := rsn_ok (n := l.length) (by omega) h hk hl
  have e1 : (k : Int) - (f : Int) = (q : Int) * (M : Int) := by rw [h1, Int.natCast_add, Int.natCast_mul]; omega
  have hM : (0 : Int) < (M : Int) := by omega
  refine ⟨?_, by rw [h1]; exact Nat.le_add_right _ _⟩
  unfold prvQ
  rw [hb, hnn, e1, Int.mul_emod_left, Int.mul_ediv_cancel _ (by omega), inQ_iff.2 (by rw [h1]; exact ⟨by omega, by rw [Int.natCast_add]; omega⟩), decide_eq_true (show (k : Int) < l.length by omega), decide_eq_true (show (0 : Int) < (q : Int) * (M : Int) from Int.mul_pos (by omega) hM)]
  simp only [Int.toNat_natCast, Bool.and_true, Bool.true_and, decide_true]
  exact decide_eq_true h2
def aw3 : List Bsk := [⟨1, 0, ⟨#[97]⟩, 1⟩, ⟨2, 0, ⟨#[97]⟩, 1⟩, ⟨3, 0, ⟨#[97]⟩, 1⟩]
theorem aw_valid : bskQ aw3 = true := by decide
theorem aw_E1 : planE aw3 2 100 50 = 8 := by decide
theorem aw_E2 : planE aw3 2 50 50 = 0 := by decide
theorem aw_L2 : planL aw3 2 50 50 = [⟨0, 0, 0⟩, ⟨1, 1, 0⟩, ⟨2, 0, 50⟩] := by rfl
theorem aw_P : prvQ aw3 2 100 50 0 2 = true := by decide
theorem aw_C : clnQ [1, 2, -1, -2] = true := by decide
theorem aw_n1 : numsQ 2 100 50 = true := by decide
theorem aw_str : ∀ b ∈ aw3, b.pr.size ≤ maxLen := by
  intro b hb
  simp only [aw3, List.mem_cons, List.not_mem_nil, or_false] at hb
  rcases hb with rfl | rfl | rfl <;> (show 1 ≤ maxLen; unfold maxLen; omega)
theorem eqSst (w : World) : (binOp .eql 57 (.agg #[.int .i64 2, .int .i64 0, .int .i64 50]) (.agg #[.int .i64 2, .int .i64 0, .int .i64 50])).run Try.prog w = .ok (.bool true) w := by kernel_rfl
theorem rowE_new {α : Type} {C : Enc α} {W : World} {T : TypeId} {l : List α} {cs : Array Value} (hc : cs = (evs C l).toArray) (hm : l.length ≤ maxLen) : RowE C (W.alloc (.cells cs T)) (.slice (some ⟨W.heap.size, 0, none⟩) l.length l.length) l := by
  subst hc
  refine ⟨_, W.heap.size, 0, l.length, rfl, Nat.le_refl _, hm, .inr rfl, fun k hk j x hx => ?_⟩
  rw [Nat.zero_add, cell_alloc_new W _ T (0, 0), List.getElem?_toArray]
  exact evs_at C l k hk j x hx
theorem rowI_new {W : World} {T : TypeId} {l : List Int} {cs : Array Value} (hc : cs = (l.map (Value.int .i64)).toArray) (hm : l.length ≤ maxLen) : RowI (W.alloc (.cells cs T)) (.slice (some ⟨W.heap.size, 0, none⟩) l.length l.length) l := by
  subst hc
  refine .inr ⟨W.heap.size, 0, l.length, rfl, hm, fun k hk => ?_⟩
  rw [Nat.zero_add, cell_alloc_new W _ T (0, 0), List.getElem?_toArray]
  simp [hk]
set_option maxRecDepth 20000 in
set_option maxHeartbeats 8000000 in
theorem awake_any (w : World) : Calls Try.prog 8 #[] w fun e w' => e = .returned (.bool true) ∧ Below w.heap.size w w' := by
  have hB0 : Below w.heap.size w (w.alloc (.cells #[.int .i64 1, .int .i64 0, .string ⟨#[97]⟩, .int .i64 1, .int .i64 2, .int .i64 0, .string ⟨#[97]⟩, .int .i64 1, .int .i64 3, .int .i64 0, .string ⟨#[97]⟩, .int .i64 1] 55)) := (Below.refl _ _).alloc (Nat.le_refl _) _
  have hR0 : RowE encB (w.alloc (.cells #[.int .i64 1, .int .i64 0, .string ⟨#[97]⟩, .int .i64 1, .int .i64 2, .int .i64 0, .string ⟨#[97]⟩, .int .i64 1, .int .i64 3, .int .i64 0, .string ⟨#[97]⟩, .int .i64 1] 55)) (.slice (some ⟨w.heap.size, 0, none⟩) 3 3) aw3 := rowE_new (C := encB) (l := aw3) rfl (by show 3 ≤ maxLen; unfold maxLen; omega)
  go_enter Try.func8, Try.ntmps8
  go_wp2_with fail
  generalize World.alloc w _ = W0 at *
  have HRK := hid (fun w1 (g : Below W0.heap.size W0 w1) => hR0.keep g)
  have HB0 := hid hB0
  refine (plan_any _ aw3 2 100 50 W0 hR0 aw_str).mono ?_
  rintro e w1 ⟨u, f, k, rfl, hu, _, hE, hb1⟩
  obtain ⟨F, K, rfl, rfl, hK, hrs, hla⟩ := hE aw_E1
  rw [aw_E1]
  obtain ⟨hprv, hFK⟩ := prv_of aw_valid aw_n1 hK hrs hla
  have HPR := hid hprv
  have HKK := hid (And.intro hK hFK)
  obtain ⟨ua, uc, rfl⟩ := hu.shape
  have HB1 := hid hb1
  have HBX := hid (heap_alloc_new w1 (.cells #[.int .i64 (F : Nat), .int .i64 (K : Nat)] 32))
  have HBA := hid (hb1.alloc hb1.size (.cells #[.int .i64 (F : Nat), .int .i64 (K : Nat)] 32))
  clear hu hE hb1 hprv hFK hK hrs hla hR0 hB0
  go_wp2_with fail
  generalize World.alloc w1 _ = W1 at *
  refine (plan_any _ aw3 2 50 50 W1 (HRK.out _ HBA.out) aw_str).mono ?_
  rintro e w2 ⟨u2, f2, k2, rfl, hu2, hz2, _, hb2⟩
  obtain ⟨rfl, rfl⟩ := hz2 (by rw [aw_E2]; decide)
  rw [aw_E2]
  rw [aw_L2] at hu2
  obtain ⟨va, vc, rfl⟩ := hu2.shape
  obtain ⟨sb, so, hsv, s0, s1, s2⟩ := hu2.sst (k := 2) (by decide)
  subst hsv
  simp only [List.length_cons, List.length_nil, Nat.reduceAdd, Nat.reduceMul, List.getElem_cons_succ, List.getElem_cons_zero] at s0 s1 s2 ⊢
  have HBX2 := hid ((hb2.block _ (Array.getElem?_eq_some_iff.1 HBX.out).1).trans HBX.out)
  have HBA2 := hid (bstep HBA.out HBA.out.size hb2)
  have HAL := hid ((Below.refl w2.heap.size w2).alloc (Nat.le_refl _) (.cells #[.int .i64 0, .int .i64 0] 32))
  have HSS := hid (And.intro s0 (And.intro s1 s2))
  clear hz2 hb2 s0 s1 s2 hu2 HBX HBA
  have d0 := cell_of_row _ _ 0 _ _ _ ((HAL.out.block _ (Array.getElem?_eq_some_iff.1 HBX2.out).1).trans HBX2.out)
  have d1 := cell_of_row _ _ 1 _ _ _ ((HAL.out.block _ (Array.getElem?_eq_some_iff.1 HBX2.out).1).trans HBX2.out)
  simp only [List.getElem?_toArray, List.getElem?_cons_zero, List.getElem?_cons_succ] at d0 d1
  go_wp2_with fail
  generalize World.alloc w2 _ = W2 at *
  have HB2 := hid (bstep HBA2.out HBA2.out.size HAL.out)
  refine (proved_m _ aw3 2 2 rfl 100 50 _ _ F K rfl rfl W2 (HRK.out _ HB2.out) aw_str aw_valid aw_n1 HKK.out.1 HKK.out.2).mono ?_
  rintro e w3 ⟨rfl, hb3⟩
  rw [HPR.out]
  have HB3 := hid (bstep HB2.out HB2.out.size hb3)
  have HS3 := hid (And.intro (keep_cell HAL.out HSS.out.1) (And.intro (keep_cell HAL.out HSS.out.2.1) (keep_cell HAL.out HSS.out.2.2)))
  have HS4 := hid (And.intro (keep_cell hb3 HS3.out.1) (And.intro (keep_cell hb3 HS3.out.2.1) (keep_cell hb3 HS3.out.2.2)))
  clear hb3 d0 d1
  go_wp2_with fail
  refine (proved_m _ aw3 2 2 rfl 100 50 _ _ 0 2 rfl rfl w3 (HRK.out _ HB3.out) aw_str aw_valid aw_n1 (by decide) (by decide)).mono ?_
  rintro e w4 ⟨rfl, hb4⟩
  rw [show prvQ aw3 2 100 50 ((0 : Nat) : Int) ((2 : Nat) : Int) = true from aw_P]
  obtain ⟨s0, s1, s2⟩ := And.intro (keep_cell hb4 HS4.out.1) (And.intro (keep_cell hb4 HS4.out.2.1) (keep_cell hb4 HS4.out.2.2))
  have HB4 := hid (bstep HB3.out HB3.out.size hb4)
  have hq := eqSst
  have hba : Below w4.heap.size w4 (w4.alloc (.cells #[.int .i64 1, .int .i64 2, .int .i64 (-1), .int .i64 (-2)] 3)) := (Below.refl _ _).alloc (Nat.le_refl _) _
  have hrn : RowI (w4.alloc (.cells #[.int .i64 1, .int .i64 2, .int .i64 (-1), .int .i64 (-2)] 3)) (.slice (some ⟨w4.heap.size, 0, none⟩) 4 4) [1, 2, -1, -2] := rowI_new (l := [1, 2, -1, -2]) rfl (by show 4 ≤ maxLen; unfold maxLen; omega)
  have HCL := hid (clean_any _ _ _ hrn (by intro x hx; simp only [List.mem_cons, List.not_mem_nil, or_false] at hx; omega) (by decide))
  rw [aw_C] at HCL
  have HB5 := hid (bstep HB4.out HB4.out.size hba)
  clear hb4 hba hrn
  go_wp2_with fail
  refine HCL.out.mono ?_
  rintro e w5 ⟨rfl, hb5⟩
  have HB6 := hid (bstep HB5.out HB5.out.size hb5)
  clear hb5 HCL
  go_wp2_with fail
  go_ret
  exact ⟨rfl, HB0.out.trans (HB6.out.mono HB0.out.size)⟩
end Go.Proofs.Ytikjgbfbbkmmcaa
