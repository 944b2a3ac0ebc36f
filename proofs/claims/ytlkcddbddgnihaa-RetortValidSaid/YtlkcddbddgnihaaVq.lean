/- Walk of RetortMarks. -/
import Derived.Test.YtlkcddbddgnihaaVo
import Derived.Test.YtlkcddbddgnihaaVe
import Derived.Test.YtlkcddbddgnihaaVd
import Derived.Test.YtlkcddbddgnihaaVs
namespace Go.Proofs.Ytlkcddbddgnihaa
open Go.RowKit

theorem below_n {w w' : World} (h : ∃ n, w' = w.drewN n) : Below w.heap.size w w' := by obtain ⟨n, rfl⟩ := h; exact bdrewN (Below.refl _ _)
theorem beq_same (a : Bool) : (a == a) = true := by cases a <;> rfl
theorem ibeq_same (a : Int) : (a == a) = true := by simp
theorem ibne_same (a : Int) : (a != a) = false := by simp
set_option maxRecDepth 20000 in
set_option maxHeartbeats 4000000 in
theorem marks_walk (v : Value) (n : Nat) (r : Nat → Rd) (u : Value) (m : Nat) (q : Nat → Rd) (e : Int) (w : World) (hr : RowR w v n r) (hq : RowR w u m q) (we : (Lit.int .i64 e).wf = true) :
    Calls Try.prog 4 #[v, u, .int .i64 e] w fun x w' => x = .returned (.bool true) ∧ Below w.heap.size w w' := by
  clear we
  have HR := hid (fun w1 (g : Below w.heap.size w w1) => hr.keep g)
  have HQ := hid (fun w1 (g : Below w.heap.size w w1) => hq.keep g)
  have hn := hr.most
  have hm := hq.most
  unfold maxLen at hn hm
  obtain ⟨va, vc, rfl⟩ := hr.shape
  obtain ⟨ua, uc, rfl⟩ := hq.shape
  clear hr hq
  by_cases h1 : n ≤ 2100
  case neg =>
    have d1 : decide (2100 < (n : Int)) = true := by simp; omega
    go_enter Try.func4, Try.ntmps4
    go_wp2_with (go_at_call 15; refine (vawake_any _).mono ?_; rintro e w9 ⟨rfl, hb⟩)
    go_ret
    exact ⟨rfl, hb⟩
  have d1 : decide (2100 < (n : Int)) = false := by simp; omega
  by_cases h2 : m ≤ 2100
  case neg =>
    have d2 : decide (2100 < (m : Int)) = true := by simp; omega
    go_enter Try.func4, Try.ntmps4
    go_wp2_with (go_at_call 15; refine (vawake_any _).mono ?_; rintro e w9 ⟨rfl, hb⟩)
    go_ret
    exact ⟨rfl, hb⟩
  have d2 : decide (2100 < (m : Int)) = false := by simp; omega
  have C1 : Hid (∀ w1, RowR w1 (.slice va n vc) n r → Calls Try.prog 27 #[.slice va n vc, .int .i64 e] w1 (LstP (marksO r n e) (markE n e) w1)) := fun w1 g => marks_any _ _ _ _ _ g
  have C2 : Hid (∀ w1, RowR w1 (.slice va n vc) n r → Calls Try.prog 28 #[.slice va n vc, .int .i64 e] w1 (LstP (marksO r n e) (markE n e) w1)) := fun w1 g => xmarks_any _ _ _ _ _ g
  have C3 : Hid (∀ w1, RowR w1 (.slice va n vc) n r → Calls Try.prog 29 #[.slice va n vc, .int .i64 e] w1 (LstP (credO r n e) (markE n e) w1)) := fun w1 g => credit_any _ _ _ _ _ g
  have C4 : Hid (∀ w1, RowR w1 (.slice va n vc) n r → Calls Try.prog 30 #[.slice va n vc, .int .i64 e] w1 (LstP (credO r n e) (markE n e) w1)) := fun w1 g => xcredit_any _ _ _ _ _ g
  generalize marksO r n e = L1 at C1 C2
  generalize credO r n e = L2 at C3 C4
  generalize markE n e = E at C1 C2 C3 C4
  have s1 := ibne_same E
  have s2 := ibeq_same E
  have HS := hid (sameR_self n r)
  generalize hS : sameR n m r q = S
  have HSS := hid hS
  have s3 := beq_same S
  have hB := Below.refl w.heap.size w
  have HB := hid hB
  clear hB hS h1 h2
  go_enter Try.func4, Try.ntmps4
  go_wp2_with fail
  refine (C1.out _ (HR.out _ HB.out)).mono ?_
  rintro e1 w1 ⟨l1, rfl, R1, hb⟩
  have HB := hid (bstep HB.out HB.out.size hb)
  have R1 := hid R1
  clear hb
  go_wp2_with fail
  refine (C2.out _ (HR.out _ HB.out)).mono ?_
  rintro e2 w2 ⟨l2, rfl, R2, hb⟩
  have HB := hid (bstep HB.out HB.out.size hb)
  have R1 := hid (R1.out.keep hb)
  have R2 := hid R2
  clear hb
  go_wp2_with fail
  refine (sameI_any _ _ _ _ _ R1.out R2.out).mono ?_
  rintro e3 w3 ⟨rfl, hd⟩
  rw [decide_eq_true (rfl : L1 = L1)]
  have HB := hid (bstep HB.out HB.out.size (below_n hd))
  clear hd
  clear R1 R2
  go_wp2_with fail
  refine (C3.out _ (HR.out _ HB.out)).mono ?_
  rintro e4 w4 ⟨l3, rfl, R3, hb⟩
  have HB := hid (bstep HB.out HB.out.size hb)
  have R3 := hid R3
  clear hb
  go_wp2_with fail
  refine (C4.out _ (HR.out _ HB.out)).mono ?_
  rintro e5 w5 ⟨l4, rfl, R4, hb⟩
  have HB := hid (bstep HB.out HB.out.size hb)
  have R3 := hid (R3.out.keep hb)
  have R4 := hid R4
  clear hb
  go_wp2_with fail
  refine (sameI_any _ _ _ _ _ R3.out R4.out).mono ?_
  rintro e6 w6 ⟨rfl, hd⟩
  rw [decide_eq_true (rfl : L2 = L2)]
  have HB := hid (bstep HB.out HB.out.size (below_n hd))
  clear hd
  clear R3 R4
  go_wp2_with fail
  refine (vsame_any _ _ _ _ _ _ _ (HR.out _ HB.out) (HQ.out _ HB.out)).mono ?_
  rintro e7 w7 ⟨rfl, hd⟩
  rw [HSS.out]
  have HB := hid (bstep HB.out HB.out.size (below_n hd))
  clear hd
  go_wp2_with fail
  refine (xsame_any _ _ _ _ _ _ _ (HR.out _ HB.out) (HQ.out _ HB.out)).mono ?_
  rintro e8 w8 ⟨rfl, hd⟩
  rw [HSS.out]
  have HB := hid (bstep HB.out HB.out.size (below_n hd))
  clear hd
  go_wp2_with fail
  refine (vsame_any _ _ _ _ _ _ _ (HR.out _ HB.out) (HR.out _ HB.out)).mono ?_
  rintro e9 w9 ⟨rfl, hd⟩
  rw [HS.out]
  have HB := hid (bstep HB.out HB.out.size (below_n hd))
  clear hd
  go_wp2_with fail
  refine (vawake_any _).mono ?_
  rintro e10 w10 ⟨rfl, hb⟩
  have HB := hid (bstep HB.out HB.out.size hb)
  clear hb
  go_wp2_with fail
  go_ret
  exact ⟨rfl, HB.out⟩
end Go.Proofs.Ytlkcddbddgnihaa
