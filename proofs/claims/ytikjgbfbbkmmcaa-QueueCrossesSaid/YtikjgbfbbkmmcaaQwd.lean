/- Walks of Clean and Wrong, Proved: contracts. -/
import Derived.Test.YtikjgbfbbkmmcaaQwc
import Derived.Test.YtikjgbfbbkmmcaaQvx
namespace Go.Proofs.Ytikjgbfbbkmmcaa
open Go.RowKit Go.Maps

def clnQ (l : List Int) : Bool := decide (crsK l l.length = some [])
theorem clean_any (v : Value) (l : List Int) (w : World) (hr : RowI w v l) (hb : ∀ x ∈ l, -9223372036854775808 ≤ x ∧ x ≤ 9223372036854775807) (hf : l.length ≤ 1000000) : Calls Try.prog 32 #[v] w fun e w' => e = .returned (.bool (clnQ l)) ∧ Below w.heap.size w w' := by
  have HC := hid (crossed_any v l w hr hb hf)
  clear hr hb hf
  go_enter Try.func32, Try.ntmps32
  go_wp2_with fail
  refine HC.out.mono ?_
  rintro e w1 ⟨b, n, s, rfl, hn, hm, hi, ha, hbb, hbl, hlo⟩
  have HM := hid hm; have HBL := hid hbl
  by_cases hw : wrgK l < 0
  · have hcs := hi.1 hw
    have HE : Hid (clnQ l = ((s.length : Int) == 0)) := by
      show clnQ l = _
      unfold clnQ
      rw [hcs]
      cases s with
      | nil => simp
      | cons a s => simp; omega
    have HSZ := hid (setD_size s)
    generalize wrgK l = q at *
    clear hi ha hm hbl hcs hn hlo HC
    go_wp2_with (at_len; refine wpList_wanted' rfl ?_; refine wpList_len_own _ rfl _ 76 rfl 3 4 Try.underlying76 _ b n (setD s) rfl HM.out ?_; rw [HSZ.out])
    go_ret
    exact ⟨ret_bool HE.out.symm, HBL.out⟩
  · have HE : Hid (clnQ l = false) := by
      show clnQ l = false
      unfold clnQ
      rw [decide_eq_false_iff_not]
      intro h
      have h0 := crsK_ok l h
      have := hi.2
      cases hs : crsK l l.length with
      | none => rw [hs] at h; cases h
      | some s' =>
        have h1 := wrgK_no hs
        omega
    have hw2 : ¬ wrgK l < 0 := hw
    generalize wrgK l = q at *
    clear hi ha hm hbl hn hlo HC hw
    go_wp2
    go_ret
    exact ⟨ret_bool HE.out.symm, HBL.out⟩
theorem wrong_any (v : Value) (l : List Int) (w : World) (hr : RowI w v l) (hb : ∀ x ∈ l, -9223372036854775808 ≤ x ∧ x ≤ 9223372036854775807) (hf : l.length ≤ 1000000) : Calls Try.prog 34 #[v] w fun e w' => e = .returned (.int .i64 (wrgK l)) ∧ Below w.heap.size w w' := by
  have HC := hid (crossed_any v l w hr hb hf)
  clear hr hb hf
  go_enter Try.func34, Try.ntmps34
  go_wp2_with fail
  refine HC.out.mono ?_
  rintro e w1 ⟨b, n, s, rfl, hn, hm, hi, ha, hbb, hbl, hlo⟩
  have HBL := hid hbl
  clear hi ha hm hbl hn hlo HC
  go_wp2
  go_ret
  exact ⟨rfl, HBL.out⟩
/-- Proved, in plain words. -/
def prvQ (l : List Bsk) (m p wt f k : Int) : Bool :=
  bskQ l && numsQ m p wt && (inQ f 0 k && decide (k < l.length)) && (decide (0 < k - f) && decide ((k - f) % m = 0)) && decide (caQ l k.toNat + wt < caQ l f.toNat + (k - f) / m * p)
set_option maxRecDepth 20000 in
set_option maxHeartbeats 8000000 in
theorem proved_in (v : Value) (l : List Bsk) (M : Nat) (p wt : Int) (f k : Nat) (w : World) (hr : RowE encB w v l) (hs : ∀ b ∈ l, b.pr.size ≤ maxLen) (hb : bskQ l = true) (hn : numsQ M p wt = true) (hk : k < l.length) (hfk : f ≤ k) :
    Calls Try.prog 16 #[v, .int .i64 (M : Nat), .int .i64 p, .int .i64 wt, .agg #[.int .i64 (f : Nat), .int .i64 (k : Nat)]] w fun e w' => e = .returned (.bool (prvQ l M p wt f k)) ∧ Below w.heap.size w w' := by
  have HV := hid (fun w1 (g : Below w.heap.size w w1) => valid_any _ l w1 (hr.keep g) hs)
  have HR := hid (fun w1 (g : Below w.heap.size w w1) => hr.keep g)
  rw [hb] at HV
  obtain ⟨va, vc, rfl⟩ := hr.shape
  have H1 := hid (qcount_any M); have H2 := hid (qcook_any p); have H3 := hid (qwait_any wt)
  have H4 := hid (qwithin_q f 0 k true (inQ_iff.2 (by omega)))
  have hbq := bskQ_iff.1 hb
  have hnq := hn
  unfold numsQ at hn
  simp only [Bool.and_eq_true] at hn
  rw [hn.1.1] at H1
  rw [hn.1.2] at H2
  rw [hn.2] at H3
  simp only [inQ_iff] at hn
  obtain ⟨⟨hM, hP⟩, hW⟩ := hn
  have hB0 := hid ((Below.refl w.heap.size w).alloc (Nat.le_refl _) (.cells #[.int .i64 (f : Nat), .int .i64 (k : Nat)] 32))
  have HC1 := H1; have HC2 := H2; have HC3 := H3
  have HE : Hid (prvQ l M p wt f k = (decide (0 < (k : Int) - f) && decide (((k : Int) - f) % M = 0) && decide (caQ l k + wt < caQ l f + ((k : Int) - f) / M * p))) := by
    show prvQ l M p wt f k = _
    unfold prvQ
    rw [hb, hnq, inQ_iff.2 (show (0 : Int) ≤ f ∧ (f : Int) ≤ k by omega), decide_eq_true (show (k : Int) < l.length by omega)]
    simp
  have hm := hr.most
  unfold maxLen at hm
  have hlen := hbq.1
  obtain ⟨n, hnl⟩ : ∃ n, n = l.length := ⟨_, rfl⟩
  have HN := hid hnl
  have hkn : (k : Int) < n := by omega
  have hfn : (f : Int) < n := by omega
  have hlen' : n ≤ 500 := by omega
  have HKS := hid hk
  have HFS : Hid (f < l.length) := by show f < l.length; omega
  have hca := And.intro (caQ_nonneg hbq.2.1 f) (And.intro (caQ_nonneg hbq.2.1 k) (And.intro (caQ_most hbq.2.1 f) (caQ_most hbq.2.1 k)))
  rw [← hnl] at HV HR hm ⊢
  clear hr hs hb hbq hnq hk hnl H1 H2 H3 hlen
  go_enter Try.func16, Try.ntmps16
  go_wp2_with fail
  refine (HV.out _ hB0.out).mono ?_
  rintro e w1 ⟨rfl, hb1⟩
  have HX : Hid (w1.heap[w.heap.size]? = some (.cells #[.int .i64 (f : Nat), .int .i64 (k : Nat)] 32 (0, 0)) ∧ Below w.heap.size w w1) := ⟨(hb1.block _ (by simp)).trans (heap_alloc_new w _), bstep hB0.out hB0.out.size hb1⟩
  clear hb1 HV hB0
  have l0 := cell_of_row _ _ 0 _ _ _ HX.out.1
  have l1 := cell_of_row _ _ 1 _ _ _ HX.out.1
  simp only [List.getElem?_toArray, List.getElem?_cons_zero, List.getElem?_cons_succ] at l0 l1
  go_wp2_with fail
  refine (HC1.out _).mono ?_
  rintro e w2 ⟨rfl, rfl⟩
  go_wp2_with fail
  refine (HC2.out _).mono ?_
  rintro e w2 ⟨rfl, rfl⟩
  go_wp2_with fail
  refine (HC3.out _).mono ?_
  rintro e w2 ⟨rfl, rfl⟩
  go_wp2_with fail
  refine (H4.out _).mono ?_
  rintro e w2 ⟨rfl, rfl⟩
  obtain ⟨b0, o0, hva, c0, c1, c2, c3⟩ := (HR.out _ HX.out.2).bsk HFS.out
  obtain ⟨b1, o1, hva1, d0, d1, d2, d3⟩ := (HR.out _ HX.out.2).bsk HKS.out
  subst hva
  cases hva1
  rw [← caQ_at HFS.out] at c1
  rw [← caQ_at HKS.out] at d1
  generalize caQ l f = C at *
  generalize caQ l k = D at *
  clear c0 c2 c3 d0 d2 d3 HC1 HC2 HC3 H4
  obtain ⟨dq, hdq⟩ : ∃ dq : Nat, (k : Int) - (f : Int) = (dq : Nat) := ⟨k - f, by omega⟩
  have hd5 : dq ≤ 500 := by omega
  rw [hdq] at HE
  have hM0 : (M : Int) ≠ 0 := by omega
  by_cases h0 : dq = 0
  · subst h0
    have g1 : decide ((0 : Int) < ((0 : Nat) : Int)) = false := by decide
    have g2 : decide ((0 : Int) < 0) = false := by decide
    have HF : Hid (prvQ l M p wt f k = false) := by show _ = _; rw [HE.out]; rfl
    clear HE
    go_wp2
    go_quiet (fail)
    have HB := hid (bdrewN (n := nq) HX.out.2)
    go_wp2
    go_ret
    exact ⟨ret_bool HF.out.symm, HB.out⟩
  · have g1 : decide ((0 : Int) < (dq : Int)) = true := decide_eq_true (by omega)
    have t1 : (dq : Int).tmod (M : Int) = (dq : Int) % (M : Int) := Int.tmod_eq_emod_of_nonneg (by omega)
    have t2 : (dq : Int).tdiv (M : Int) = (dq : Int) / (M : Int) := Int.tdiv_eq_ediv_of_nonneg (by omega)
    have hpos : (0 : Int) < (dq : Int) := by omega
    have hposN : 0 < dq := by omega
    have g1N : decide (0 < dq) = true := decide_eq_true hposN
    by_cases h1 : (dq : Int) % (M : Int) = 0
    · have g3 : ((dq : Int) % (M : Int) == 0) = true := by simpa using h1
      have HF : Hid (prvQ l M p wt f k = decide (D + wt < C + (dq : Int) / (M : Int) * p)) := by
        show _ = _
        rw [HE.out, g1, decide_eq_true h1]; rfl
      obtain ⟨x, hx⟩ : ∃ x : Nat, (dq : Int) / (M : Int) = (x : Nat) := ⟨dq / M, by simp⟩
      have hx5 : x ≤ 500 := by
        have := Int.ediv_le_self (M : Int) (show (0 : Int) ≤ (dq : Int) by omega)
        omega
      rw [hx] at HF t2
      have m1 : 0 ≤ (x : Int) * p := Int.mul_nonneg (by omega) (by omega)
      have m2 : (x : Int) * p ≤ 50000000000 := by
        have := Int.mul_le_mul (show (x : Int) ≤ 500 by omega) (show p ≤ 100000000 by omega) (by omega) (by omega)
        omega
      rw [h1] at t1
      clear HE hx
      go_wp2
      go_quiet (fail)
      have HB := hid (bdrewN (n := nq) HX.out.2)
      go_wp2
      go_ret
      exact ⟨ret_bool HF.out.symm, HB.out⟩
    · have g3 : ((dq : Int) % (M : Int) == 0) = false := by simpa using h1
      have HF : Hid (prvQ l M p wt f k = false) := by show _ = _; rw [HE.out, decide_eq_false h1]; simp
      obtain ⟨y, hy⟩ : ∃ y, (dq : Int) % (M : Int) = y := ⟨_, rfl⟩
      rw [hy] at g3 t1
      clear HE h1 hy t2
      go_wp2
      go_quiet (fail)
      have HB := hid (bdrewN (n := nq) HX.out.2)
      go_wp2
      go_ret
      exact ⟨ret_bool HF.out.symm, HB.out⟩
end Go.Proofs.Ytikjgbfbbkmmcaa
