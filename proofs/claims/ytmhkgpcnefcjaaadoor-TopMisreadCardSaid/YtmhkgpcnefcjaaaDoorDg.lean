/- Walk of IndexRune at a rune of two bytes or more: contracts. -/
import Derived.Test.YtmhkgpcnefcjaaaDoorDf
import Derived.WalkMore
namespace Go.Proofs.YtmhkgpcnefcjaaaDoor
open Go.RowKit

set_option maxHeartbeats 1000000 in
theorem vrune_any (r : Int) (w : World) (hv : (0 ≤ r ∧ r < 55296) ∨ (57343 < r ∧ r ≤ 1114111)) :
    Calls Tryd.prog 99 #[.int .i32 r] w fun e w' => e = .returned (.bool true) ∧ w = w' := by
  rcases hv with ⟨h3, h4⟩ | ⟨h3, h4⟩
  · go_enter Tryd.func99, Tryd.ntmps99
    go_wp2
    go_ret
    exact ⟨rfl, rfl⟩
  · have h5 : ¬ (0 ≤ r ∧ r < 55296) := by omega
    go_enter Tryd.func99, Tryd.ntmps99
    go_wp2
    go_ret
    exact ⟨rfl, rfl⟩
theorem ibyte_hi (a e : Nat) (b : UInt8) (w : World) (hb : 128 ≤ b.toNat) :
    Calls Tryd.prog 80 #[.string ((⟨#[48, 49, 50, 51, 52, 53, 54, 55, 56, 57, 65, 66, 67, 68, 69, 70, 71, 72, 74, 75, 76, 77, 78, 80, 81, 82, 83, 84, 85, 86, 87]⟩ : ByteArray).extract a e), .int .u8 (b.toNat : Int)] w fun e w' => e = .returned (.int .i64 (-1)) ∧ w' = w := by
  refine (ibyte_any _ _ _).mono ?_
  rintro e w' ⟨rfl, rfl⟩
  refine ⟨ret_int ?_, rfl⟩
  have : ((b.toNat : Int).toNat.toUInt8) = b := by simp
  rw [this]
  exact sg_hi (sgs_extract _ _) hb
set_option maxRecDepth 100000 in
set_option maxHeartbeats 4000000 in
theorem irune_enc2 (r : Int) (w : World) (a b : UInt8) (h : 128 ≤ r) (hne : r ≠ 65533) (hv : (0 ≤ r ∧ r < 55296) ∨ (57343 < r ∧ r ≤ 1114111)) (he : Utf8.encode r = ⟨#[a, b]⟩) (hb : 128 ≤ b.toNat) :
    Calls Tryd.prog 79 #[.string ⟨#[48, 49, 50, 51, 52, 53, 54, 55, 56, 57, 65, 66, 67, 68, 69, 70, 71, 72, 74, 75, 76, 77, 78, 80, 81, 82, 83, 84, 85, 86, 87]⟩, .int .i32 r] w fun e w' => e = .returned (.int .i64 (-1)) ∧ Below w.heap.size w w' := by
  have h2 : (r == 65533) = false := by simp; omega
  have hd2 : ((49 : Int) != (b.toNat : Int)) = true := by simp; omega
  have HB := hid hb
  have e1 : (((⟨#[48, 49, 50, 51, 52, 53, 54, 55, 56, 57, 65, 66, 67, 68, 69, 70, 71, 72, 74, 75, 76, 77, 78, 80, 81, 82, 83, 84, 85, 86, 87]⟩ : ByteArray)[1]'(by decide)).toNat) = 49 := rfl
  have e2 : (((⟨#[a, b]⟩ : ByteArray)[1]'(show 1 < 2 by omega))) = b := rfl
  have hcv : (convert 21 9 (.int .i32 r)).run Tryd.prog w = .ok (.string ⟨#[a, b]⟩) w := by
    rw [run_convert_int_string w 21 9 .i32 r (by kernel_rfl) Tryd.underlying9, he]
  clear he hb
  have h0 : 0 ≤ r := by omega
  have h1 : ¬ r < 128 := by omega
  have hw : IntKind.i64.wrap 2 = 2 := by kernel_rfl
  have HV := hid hv
  clear hv
  go_enter Tryd.func79, Tryd.ntmps79
  go_wp2_with (go_at_call 99; refine (vrune_any _ _ HV.out).mono ?_; rintro e w' ⟨rfl, rfl⟩)
  iterate 4 (all_goals (try go_step3); go_wp2_with fail)
  refine wp_loop_rounds 1 ?_
  rw [rounds_succ]
  iterate 4 (all_goals (try go_step3); go_wp2_with fail)
  go_quiet (fail)
  have HBW := hid (bdrewN (n := nq) (Below.refl w.heap.size w))
  generalize World.drewN w nq = w2 at *
  iterate 2 (all_goals (try go_step3); go_wp2_with fail)
  go_quiet ((go_at_call 80; exact Calls.quiet_of_same (ibyte_hi _ _ _ _ HB.out)))
  iterate 2 (all_goals (try go_step3); go_wp2_with fail)
  simp only [Exit.noGoto, Exit.inBlock, Exit.then]
  go_ret
  exact ⟨rfl, bdrewN HBW.out⟩
set_option maxRecDepth 100000 in
set_option maxHeartbeats 4000000 in
theorem irune_enc3 (r : Int) (w : World) (a b c : UInt8) (h : 128 ≤ r) (hne : r ≠ 65533) (hv : (0 ≤ r ∧ r < 55296) ∨ (57343 < r ∧ r ≤ 1114111)) (he : Utf8.encode r = ⟨#[a, b, c]⟩) (hb : 128 ≤ c.toNat) :
    Calls Tryd.prog 79 #[.string ⟨#[48, 49, 50, 51, 52, 53, 54, 55, 56, 57, 65, 66, 67, 68, 69, 70, 71, 72, 74, 75, 76, 77, 78, 80, 81, 82, 83, 84, 85, 86, 87]⟩, .int .i32 r] w fun e w' => e = .returned (.int .i64 (-1)) ∧ Below w.heap.size w w' := by
  have h2 : (r == 65533) = false := by simp; omega
  have hd2 : ((50 : Int) != (c.toNat : Int)) = true := by simp; omega
  have HB := hid hb
  have e1 : (((⟨#[48, 49, 50, 51, 52, 53, 54, 55, 56, 57, 65, 66, 67, 68, 69, 70, 71, 72, 74, 75, 76, 77, 78, 80, 81, 82, 83, 84, 85, 86, 87]⟩ : ByteArray)[2]'(by decide)).toNat) = 50 := rfl
  have e2 : (((⟨#[a, b, c]⟩ : ByteArray)[2]'(show 2 < 3 by omega))) = c := rfl
  have hcv : (convert 21 9 (.int .i32 r)).run Tryd.prog w = .ok (.string ⟨#[a, b, c]⟩) w := by
    rw [run_convert_int_string w 21 9 .i32 r (by kernel_rfl) Tryd.underlying9, he]
  clear he hb
  have h0 : 0 ≤ r := by omega
  have h1 : ¬ r < 128 := by omega
  have hw : IntKind.i64.wrap 3 = 3 := by kernel_rfl
  have HV := hid hv
  clear hv
  go_enter Tryd.func79, Tryd.ntmps79
  go_wp2_with (go_at_call 99; refine (vrune_any _ _ HV.out).mono ?_; rintro e w' ⟨rfl, rfl⟩)
  iterate 4 (all_goals (try go_step3); go_wp2_with fail)
  refine wp_loop_rounds 1 ?_
  rw [rounds_succ]
  iterate 4 (all_goals (try go_step3); go_wp2_with fail)
  go_quiet (fail)
  have HBW := hid (bdrewN (n := nq) (Below.refl w.heap.size w))
  generalize World.drewN w nq = w2 at *
  iterate 2 (all_goals (try go_step3); go_wp2_with fail)
  go_quiet ((go_at_call 80; exact Calls.quiet_of_same (ibyte_hi _ _ _ _ HB.out)))
  iterate 2 (all_goals (try go_step3); go_wp2_with fail)
  simp only [Exit.noGoto, Exit.inBlock, Exit.then]
  go_ret
  exact ⟨rfl, bdrewN HBW.out⟩
set_option maxRecDepth 100000 in
set_option maxHeartbeats 4000000 in
theorem irune_enc4 (r : Int) (w : World) (a b c d : UInt8) (h : 128 ≤ r) (hne : r ≠ 65533) (hv : (0 ≤ r ∧ r < 55296) ∨ (57343 < r ∧ r ≤ 1114111)) (he : Utf8.encode r = ⟨#[a, b, c, d]⟩) (hb : 128 ≤ d.toNat) :
    Calls Tryd.prog 79 #[.string ⟨#[48, 49, 50, 51, 52, 53, 54, 55, 56, 57, 65, 66, 67, 68, 69, 70, 71, 72, 74, 75, 76, 77, 78, 80, 81, 82, 83, 84, 85, 86, 87]⟩, .int .i32 r] w fun e w' => e = .returned (.int .i64 (-1)) ∧ Below w.heap.size w w' := by
  have h2 : (r == 65533) = false := by simp; omega
  have hd2 : ((51 : Int) != (d.toNat : Int)) = true := by simp; omega
  have HB := hid hb
  have e1 : (((⟨#[48, 49, 50, 51, 52, 53, 54, 55, 56, 57, 65, 66, 67, 68, 69, 70, 71, 72, 74, 75, 76, 77, 78, 80, 81, 82, 83, 84, 85, 86, 87]⟩ : ByteArray)[3]'(by decide)).toNat) = 51 := rfl
  have e2 : (((⟨#[a, b, c, d]⟩ : ByteArray)[3]'(show 3 < 4 by omega))) = d := rfl
  have hcv : (convert 21 9 (.int .i32 r)).run Tryd.prog w = .ok (.string ⟨#[a, b, c, d]⟩) w := by
    rw [run_convert_int_string w 21 9 .i32 r (by kernel_rfl) Tryd.underlying9, he]
  clear he hb
  have h0 : 0 ≤ r := by omega
  have h1 : ¬ r < 128 := by omega
  have hw : IntKind.i64.wrap 4 = 4 := by kernel_rfl
  have HV := hid hv
  clear hv
  go_enter Tryd.func79, Tryd.ntmps79
  go_wp2_with (go_at_call 99; refine (vrune_any _ _ HV.out).mono ?_; rintro e w' ⟨rfl, rfl⟩)
  iterate 4 (all_goals (try go_step3); go_wp2_with fail)
  refine wp_loop_rounds 1 ?_
  rw [rounds_succ]
  iterate 4 (all_goals (try go_step3); go_wp2_with fail)
  go_quiet (fail)
  have HBW := hid (bdrewN (n := nq) (Below.refl w.heap.size w))
  generalize World.drewN w nq = w2 at *
  iterate 2 (all_goals (try go_step3); go_wp2_with fail)
  go_quiet ((go_at_call 80; exact Calls.quiet_of_same (ibyte_hi _ _ _ _ HB.out)))
  iterate 2 (all_goals (try go_step3); go_wp2_with fail)
  simp only [Exit.noGoto, Exit.inBlock, Exit.then]
  go_ret
  exact ⟨rfl, bdrewN HBW.out⟩
end Go.Proofs.YtmhkgpcnefcjaaaDoor
