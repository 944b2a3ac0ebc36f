/- Walks of Sign, IndexRune at a rune that is no ASCII sign, spelt: contracts. -/
import Derived.Test.YtmhkgpcnefcjaaaDoorDb
import Derived.Test.YtmhkgpcnefcjaaaDoorDc
namespace Go.Proofs.YtmhkgpcnefcjaaaDoor
open Go.RowKit

theorem sg_len : sg.length = 31 := rfl
theorem sgs_at (k : Nat) (h : k < (⟨#[48, 49, 50, 51, 52, 53, 54, 55, 56, 57, 65, 66, 67, 68, 69, 70, 71, 72, 74, 75, 76, 77, 78, 80, 81, 82, 83, 84, 85, 86, 87]⟩ : ByteArray).size) : ((⟨#[48, 49, 50, 51, 52, 53, 54, 55, 56, 57, 65, 66, 67, 68, 69, 70, 71, 72, 74, 75, 76, 77, 78, 80, 81, 82, 83, 84, 85, 86, 87]⟩ : ByteArray)[k]'h) = sg.getD k 0 := by
  have h' : k < sg.length := h
  rw [List.getD_eq_getElem?_getD, List.getElem?_eq_getElem h']
  rfl
set_option maxRecDepth 100000 in
set_option maxHeartbeats 1000000 in
theorem csign_any (v : Int) (w : World) : Calls Tryd.prog 82 #[.int .i64 v] w fun e w' => e = .returned (.int .u8 ((sgn v).toNat : Int)) ∧ w = w' := by
  by_cases h : 0 ≤ v ∧ v ≤ 30
  · have hb : inB v 0 30 = true := inB_iff.2 h
    obtain ⟨k, rfl⟩ : ∃ k : Nat, v = k := ⟨v.toNat, by omega⟩
    have HB := hid hb
    have HK := hid h
    have hk : k < 31 := by omega
    have hs : (Instr.index 9 (.string ⟨#[48, 49, 50, 51, 52, 53, 54, 55, 56, 57, 65, 66, 67, 68, 69, 70, 71, 72, 74, 75, 76, 77, 78, 80, 81, 82, 83, 84, 85, 86, 87]⟩) (.int .i64 (k : Int))).run Tryd.prog w = .ok (.int .u8 ((sgn k).toNat : Int)) w := by
      rw [run_index_string w 9 ⟨#[48, 49, 50, 51, 52, 53, 54, 55, 56, 57, 65, 66, 67, 68, 69, 70, 71, 72, 74, 75, 76, 77, 78, 80, 81, 82, 83, 84, 85, 86, 87]⟩ .i64 k Tryd.underlying9]
      have hsz : (⟨#[48, 49, 50, 51, 52, 53, 54, 55, 56, 57, 65, 66, 67, 68, 69, 70, 71, 72, 74, 75, 76, 77, 78, 80, 81, 82, 83, 84, 85, 86, 87]⟩ : ByteArray).size = 31 := rfl
      rw [dif_pos ⟨by omega, by rw [hsz]; omega⟩]
      unfold sgn
      rw [if_pos h]
      congr 1
      have := sgs_at k (by rw [hsz]; omega)
      simp only [Int.toNat_natCast]
      rw [this]
    clear hb h
    go_enter Tryd.func82, Tryd.ntmps82
    go_wp2_with (go_at_call 56; refine (cwithin_any _ _ _ _).mono ?_; rintro e w' ⟨rfl, rfl⟩; rw [HB.out])
    go_ret
    exact ⟨rfl, rfl⟩
  · have hb : inB v 0 30 = false := by rw [Bool.eq_false_iff]; exact fun g => h (inB_iff.1 g)
    have HB := hid hb
    have HE := hid (show (sgn v) = 0 by unfold sgn; rw [if_neg h])
    clear hb h
    go_enter Tryd.func82, Tryd.ntmps82
    go_wp2_with (go_at_call 56; refine (cwithin_any _ _ _ _).mono ?_; rintro e w' ⟨rfl, rfl⟩; rw [HB.out])
    go_ret
    exact ⟨by rw [HE.out]; rfl, rfl⟩
end Go.Proofs.YtmhkgpcnefcjaaaDoor
