/- Marks and Credit of both, whatever comes in: contracts. -/
import Derived.Test.YtedfajokiblfhaaVc
namespace Go.Proofs.Ytedfajokiblfhaa.Rt
open Go.RowKit

theorem markE_zero {n : Nat} {e : Int} (h : markE n e = 0) : n ≤ 2000 ∧ 1 ≤ e ∧ e ≤ 2000 := by
  unfold markE at h
  by_cases h1 : 2000 < n
  · rw [if_pos h1] at h; cases h
  · rw [if_neg h1] at h
    cases h2 : inB e 1 2000
    · rw [h2] at h; cases h
    · exact ⟨by omega, inB_iff.1 h2⟩
def marksO (r : Nat → Rd) (n : Nat) (e : Int) : List Int := if markE n e = 0 then marksL r n e.toNat n else []
def credO (r : Nat → Rd) (n : Nat) (e : Int) : List Int := if markE n e = 0 then credL r n e.toNat n else []
set_option maxHeartbeats 1000000 in
theorem credit_any (v : Value) (n : Nat) (e : Int) (r : Nat → Rd) (w : World) (hr : RowR w v n r) :
    Calls Try.prog 53 #[v, .int .i64 e] w (LstP (credO r n e) (markE n e) w) := by
  by_cases h : markE n e = 0
  · obtain ⟨h1, h2, h3⟩ := markE_zero h
    obtain ⟨k, rfl⟩ : ∃ k : Nat, e = k := ⟨e.toNat, by omega⟩
    rw [h, show credO r n (k : Int) = credL r n k n by unfold credO; rw [if_pos h]; rfl]
    exact credit_ok v n k r w hr h1 (by omega) (by omega)
  · rw [show credO r n e = [] by unfold credO; rw [if_neg h]]
    obtain ⟨a, b, o, cap, rfl, _, _, _, _⟩ := hr
    have hnm : n ≤ maxLen := by omega
    have h' : (markE n e != 0) = true := by simpa using h
    generalize hE : markE n e = E at h'
    have HE := hid hE
    clear hE h
    go_enter Try.func53, Try.ntmps53
    go_wp2_with (go_at_call 80; refine (checkMarks_any _ _ _ _ _ hnm).mono ?_; rintro e w' ⟨rfl, rfl⟩; rw [HE.out])
    go_ret2
    exact ⟨_, rfl, rowI_nil _, Below.refl _ _⟩
end Go.Proofs.Ytedfajokiblfhaa.Rt
