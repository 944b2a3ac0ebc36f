/- Walk of layer 6's awake: contract. -/
import Derived.Test.YtmhkgpcnefcjaaaDoorDt
namespace Go.Proofs.YtmhkgpcnefcjaaaDoor
open Go.RowKit

theorem isDate_59 : IsDate 59 2000 2 29 := by
  unfold IsDate IsYear
  decide
set_option maxRecDepth 100000 in
theorem ex_print : printS ⟨#[65]⟩ ⟨#[49, 55]⟩ ⟨#[50]⟩ 59 3 2000 = ⟨#[65, 49, 55, 48, 49, 85, 50, 51, 85]⟩ := by kernel_rfl
set_option maxRecDepth 100000 in
theorem ex_sound : soundS ⟨#[65, 49, 55, 48, 49, 85, 50, 51, 85]⟩ = true := by kernel_rfl
set_option maxRecDepth 100000 in
theorem ex_eight : ((⟨#[65, 49, 55, 48, 49, 85, 50, 51, 85]⟩ : ByteArray).extract 0 8).toList = [65, 49, 55, 48, 49, 85, 50, 51] := by kernel_rfl
theorem ex_stamp : stampB ⟨#[65]⟩ ⟨#[49, 55]⟩ ⟨#[50]⟩ 59 3 = true := by decide
set_option maxRecDepth 100000 in
set_option maxHeartbeats 2000000 in
theorem awake6_any (w : World) (hw : Wts w) : Calls Tryd.prog 7 #[] w fun e w' => e = .returned (.bool true) ∧ Below w.heap.size w w' := by
  obtain ⟨P, hP⟩ : ∃ P, P = printS ⟨#[65]⟩ ⟨#[49, 55]⟩ ⟨#[50]⟩ 59 3 2000 := ⟨_, rfl⟩
  have h1 : P.size = 9 := by rw [hP, ex_print]; rfl
  have h2 : (P.extract 0 8).toList = [65, 49, 55, 48, 49, 85, 50, 51] := by rw [hP, ex_print]; exact ex_eight
  have H3 := hid (show soundS P = true by rw [hP, ex_print]; exact ex_sound)
  have HPQ := hid hP
  have HW := hid hw
  have HWD := hid (show (if inB 59 0 73048 = true then Value.tuple #[.int .i64 ((5 + 59) % 7), .int .i64 0] else .tuple #[.int .i64 0, .int .i64 7]) = .tuple #[.int .i64 1, .int .i64 0] from rfl)
  clear hw hP
  go_enter Tryd.func7, Tryd.ntmps7
  go_wp2_with fail
  refine (cdate_ok 59 2000 2 29 _ isDate_59).mono ?_
  rintro e w1 ⟨rfl, hb⟩
  have HX := hid (show Bx w (w1.alloc (.cells #[.int .i64 2000, .int .i64 2, .int .i64 29] 61)) w1.heap.size 61 #[.int .i64 2000, .int .i64 2, .int .i64 29] from
    ⟨heap_alloc_new _ _, hb.size, bstep hb hb.size ((Below.refl _ _).alloc (Nat.le_refl _) _)⟩)
  clear hb
  go_wp2_with (go_at_call 34; refine (cweekday_any _ _).mono ?_; rintro e wk ⟨rfl, rfl⟩; rw [HWD.out])
  refine (cprint_ok _ _ _ _ _ 2000 _ ex_stamp isDate_59.1 (HW.out.keep HX.out.low)).mono ?_
  rintro e w2 ⟨rfl, hb⟩
  rw [← HPQ.out]
  have HX := hid (HX.out.keep hb)
  obtain ⟨c0, c1, c2⟩ := HX.out.three
  clear hb
  have HR := hid (csound_any P w2 (HW.out.keep HX.out.low))
  rw [H3.out] at HR
  go_wp2_with (first
    | (go_at_call 35; refine (count_two _).mono ?_; rintro e wk ⟨rfl, rfl⟩)
    | (go_at_call 32; refine HR.out.mono ?_; rintro e wk ⟨rfl, hb⟩))
  go_ret
  exact ⟨rfl, (HX.out.keep hb).low⟩
end Go.Proofs.YtmhkgpcnefcjaaaDoor
