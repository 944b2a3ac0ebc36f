/- Walk of CodeMisread: where nothing is asked. -/
import Derived.Test.YtlnfebginkmbhaaDoorMe
import Derived.Test.YtlnfebginkmbhaaDoorDv
namespace Go.Proofs.YtlnfebginkmbhaaDoor
open Go.RowKit

theorem xchanged_at (s : ByteArray) (k : Nat) (c : UInt8) (a : Int) (v : Value) (w : World) (h : k < s.size) (ha : a = (k : Int)) (hv : v = .int .u8 (c.toNat : Int)) :
    Calls Tryd.prog 36 #[.string s, .int .i64 a, v] w fun e w' => e = .returned (.string (setS s k c)) ∧ Below w.heap.size w w' := by
  subst ha hv
  exact xchanged_any s k c w h
set_option maxRecDepth 100000 in
set_option maxHeartbeats 4000000 in
theorem misread_no (s : ByteArray) (a v : Int) (w : World) (hw : Wts w) (hE : soundS s = false ∨ (soundS s = true ∧ a < 0) ∨ (soundS s = true ∧ 0 ≤ a ∧ 8 < a) ∨ (soundS s = true ∧ 0 ≤ a ∧ a ≤ 8 ∧ sgn v = 0)) :
    Calls Tryd.prog 7 #[.string s, .int .i64 a, .int .i64 v] w fun e w' => e = .returned (.bool true) ∧ Below w.heap.size w w' := by
  have HW := hid hw
  clear hw
  rcases hE with h | ⟨h, h1⟩ | ⟨h, h1, h2⟩ | ⟨h, h1, h2, h3⟩
  all_goals
    have HS := hid h
    clear h
    go_enter Tryd.func7, Tryd.ntmps7
    go_wp2_with fail
    refine (awake6_any _ HW.out).mono ?_
    rintro e w1 ⟨rfl, hb⟩
    have HB1 := hid hb
    clear hb
    go_wp2_with fail
    refine (xsound_any s w1).mono ?_
    rintro e w2 ⟨rfl, rfl⟩
    rw [HS.out]
  · go_wp2_with fail
    go_ret
    exact ⟨rfl, HB1.out⟩
  · go_wp2_with fail
    go_ret
    exact ⟨rfl, HB1.out⟩
  · have h4 : ¬ a < 0 := by omega
    go_wp2_with fail
    go_ret
    exact ⟨rfl, HB1.out⟩
  · have h4 : ¬ a < 0 := by omega
    have h5 : ¬ 8 < a := by omega
    have H3 := hid h3
    clear h3
    go_wp2_with (go_at_call 27; refine (xsign_any _ _).mono ?_; rintro e w2 ⟨rfl, rfl⟩; rw [H3.out])
    go_ret
    exact ⟨rfl, HB1.out⟩
end Go.Proofs.YtlnfebginkmbhaaDoor
