/- Walks of OfYear, ValidDate, DayOf of the code: contracts. -/
import Derived.Test.YtlnfebginkmbhaaDoorDp
namespace Go.Proofs.YtlnfebginkmbhaaDoor
open Go.RowKit

set_option maxRecDepth 100000 in
set_option maxHeartbeats 2000000 in
theorem cofyear_ok (n y : Int) (w : World) (h : IsYear n y) :
    Calls Tryd.prog 19 #[.int .i64 n] w fun e w' => e = .returned (.tuple #[.int .i64 (n - soY y), .int .i64 0]) ∧ w' = w := by
  have HY := hid h
  have H := hid (show inB n 0 73048 = true from inB_iff.2 (isYear_nn h))
  clear h
  go_enter Tryd.func19, Tryd.ntmps19
  go_wp2_with (first
    | (go_at_call 39; refine (isday_any _ _).mono ?_; rintro e w' ⟨rfl, rfl⟩; rw [H.out])
    | (go_at_call 40; refine (yearof_any _ y _ HY.out).mono ?_; rintro e w' ⟨rfl, rfl⟩))
  go_ret2
  exact ⟨rfl, rfl⟩
set_option maxRecDepth 100000 in
set_option maxHeartbeats 2000000 in
theorem cofyear_bad (n : Int) (w : World) (h : inB n 0 73048 = false) :
    Calls Tryd.prog 19 #[.int .i64 n] w fun e w' => e = .returned (.tuple #[.int .i64 0, .int .i64 7]) ∧ w' = w := by
  have H := hid h
  clear h
  go_enter Tryd.func19, Tryd.ntmps19
  go_wp2_with (go_at_call 39; refine (isday_any _ _).mono ?_; rintro e w' ⟨rfl, rfl⟩; rw [H.out])
  go_ret2
  exact ⟨rfl, rfl⟩
theorem cwithin_q (a b c : Int) (w : World) : Calls Tryd.prog 45 #[.int .i64 a, .int .i64 b, .int .i64 c] w fun e w' => e = .returned (.bool (inB a b c)) ∧ w' = w :=
  (cwithin_any a b c w).mono fun _ _ ⟨h, g⟩ => ⟨h, g.symm⟩
theorem cwithin_l (a b c : Int) (r : Bool) (w : World) (h : inB a b c = r) : Calls Tryd.prog 45 #[.int .i64 a, .int .i64 b, .int .i64 c] w fun e w' => e = .returned (.bool r) ∧ w' = w := by
  subst h; exact cwithin_q a b c w
theorem before_q (y m : Int) (w : World) (h1 : 1 ≤ m) (h2 : m ≤ 13) : Calls Tryd.prog 41 #[.int .i64 y, .int .i64 m] w fun e w' => e = .returned (.int .i64 (dB y m)) ∧ w' = w :=
  (before_any y m w h1 h2).mono fun _ _ ⟨h, g⟩ => ⟨h, g.symm⟩
theorem start_q (y : Int) (w : World) (h1 : 2000 ≤ y) (h2 : y ≤ 2200) : Calls Tryd.prog 44 #[.int .i64 y] w fun e w' => e = .returned (.int .i64 (soY y)) ∧ w' = w :=
  (start_any y w h1 h2).mono fun _ _ ⟨h, g⟩ => ⟨h, g.symm⟩
theorem dateB_eq (y m d : Int) : dateB y m d = (inB y 2000 2199 && inB m 1 12 && inB d 1 (mlen y m)) := by
  unfold dateB inB; simp
set_option maxRecDepth 100000 in
set_option maxHeartbeats 2000000 in
theorem cvdate_any (y m d : Int) (w : World) :
    Calls Tryd.prog 13 #[.agg #[.int .i64 y, .int .i64 m, .int .i64 d]] w fun e w' => e = .returned (.bool (dateB y m d)) ∧ Below w.heap.size w w' := by
  have HX := bx_new w 23 #[.int .i64 y, .int .i64 m, .int .i64 d]
  obtain ⟨c0, c1, c2⟩ := HX.three
  have HB := hid HX.low
  clear HX
  have HD := hid (dateB_eq y m d)
  cases h1 : inB y 2000 2199
  · have H1 := hid h1
    rw [h1, Bool.false_and, Bool.false_and] at HD
    clear h1
    go_enter Tryd.func13, Tryd.ntmps13
    go_wp2_with fail
    generalize World.alloc w _ = W1 at *
    go_quiet ((go_at_call 45; exact Calls.quiet_of_same (cwithin_l _ _ _ _ _ H1.out)))
    go_wp2_with fail
    go_ret
    exact ⟨ret_bool HD.out.symm, bdrewN HB.out⟩
  · have H1 := hid h1
    obtain ⟨y1, y2⟩ := inB_iff.1 h1
    cases h2 : inB m 1 12
    · have H2 := hid h2
      rw [h1, h2, Bool.and_false, Bool.false_and] at HD
      clear h1 h2
      go_enter Tryd.func13, Tryd.ntmps13
      go_wp2_with fail
      generalize World.alloc w _ = W1 at *
      go_quiet ((go_at_call 45; first | exact Calls.quiet_of_same (cwithin_l _ _ _ _ _ H1.out) | exact Calls.quiet_of_same (cwithin_l _ _ _ _ _ H2.out)))
      go_wp2_with fail
      go_ret
      exact ⟨ret_bool HD.out.symm, bdrewN HB.out⟩
    · have H2 := hid h2
      obtain ⟨m1, m2⟩ := inB_iff.1 h2
      rw [h1, h2, Bool.and_true, Bool.true_and] at HD
      have H3 := hid (rfl : inB d 1 (mlen y m) = inB d 1 (mlen y m))
      generalize hq3 : inB d 1 (mlen y m) = b3 at HD H3
      have H4 := hid hq3
      clear h1 h2 hq3
      have hb1 := dB_bd (y := y) (m := m) (by omega) (by omega)
      have hb2 := dB_bd (y := y) (m := m + 1) (by omega) (by omega)
      have hs := dB_succ (y := y) m1 m2
      have hw1 : IntKind.i64.wrap (m + 1) = m + 1 := IntWalk.i64_in _ ⟨by omega, by omega⟩
      have hw2 : IntKind.i64.wrap (dB y (m + 1) - dB y m) = mlen y m := by rw [IntWalk.i64_in _ ⟨by omega, by omega⟩]; omega
      have P1 := hid (show 1 ≤ m by omega)
      have P2 := hid (show m ≤ 13 by omega)
      have P3 := hid (show 1 ≤ m + 1 by omega)
      have P4 := hid (show m + 1 ≤ 13 by omega)
      clear hb1 hb2 hs
      go_enter Tryd.func13, Tryd.ntmps13
      go_wp2_with fail
      generalize World.alloc w _ = W1 at *
      go_quiet ((first
        | (go_at_call 45; first | exact Calls.quiet_of_same (cwithin_l _ _ _ _ _ H1.out) | exact Calls.quiet_of_same (cwithin_l _ _ _ _ _ H2.out) | exact Calls.quiet_of_same (cwithin_l _ _ _ _ _ H4.out))
        | (go_at_call 41; exact Calls.quiet_of_same (before_q _ _ _ (by first | exact P1.out | exact P3.out) (by first | exact P2.out | exact P4.out)))))
      go_wp2_with fail
      go_ret
      exact ⟨ret_bool HD.out.symm, bdrewN HB.out⟩
set_option maxRecDepth 100000 in
set_option maxHeartbeats 2000000 in
theorem cdayof_any (y m d : Int) (w : World) :
    Calls Tryd.prog 11 #[.agg #[.int .i64 y, .int .i64 m, .int .i64 d]] w fun e w' => e = .returned (if dateB y m d = true then .tuple #[.int .i64 (dayN y m d), .int .i64 0] else .tuple #[.int .i64 0, .int .i64 7]) ∧ Below w.heap.size w w' := by
  have HX := bx_new w 23 #[.int .i64 y, .int .i64 m, .int .i64 d]
  obtain ⟨c0, c1, c2⟩ := HX.three
  have HXX := hid HX
  clear HX
  cases h : dateB y m d
  · have HD := hid h
    clear h
    go_enter Tryd.func11, Tryd.ntmps11
    go_wp2_with fail
    refine (cvdate_any y m d _).mono ?_
    rintro e w1 ⟨rfl, hb⟩
    rw [HD.out]
    have HB1 := hid (HXX.out.keep hb).low
    clear hb
    go_wp2_with fail
    go_ret2
    exact ⟨rfl, HB1.out⟩
  · have HD := hid h
    have hq := h
    rw [dateB_eq, Bool.and_eq_true, Bool.and_eq_true, inB_iff, inB_iff, inB_iff] at hq
    obtain ⟨⟨⟨y1, y2⟩, ⟨m1, m2⟩⟩, ⟨d1, d2⟩⟩ := hq
    have hml := mlen_pos y m
    have hb1 := dB_bd (y := y) (m := m) (by omega) (by omega)
    have hs1 := soY_day y1 y2
    have hw1 : IntKind.i64.wrap (soY y + dB y m) = soY y + dB y m := by rw [IntWalk.i64_in _ ⟨by omega, by omega⟩]
    have hw2 : IntKind.i64.wrap (soY y + dB y m + d) = soY y + dB y m + d := by rw [IntWalk.i64_in _ ⟨by omega, by omega⟩]
    have hw3 : IntKind.i64.wrap (soY y + dB y m + d - 1) = soY y + dB y m + d - 1 := by rw [IntWalk.i64_in _ ⟨by omega, by omega⟩]
    have P1 := hid (show 1 ≤ m by omega)
    have P2 := hid (show m ≤ 13 by omega)
    have P3 := hid (show 2000 ≤ y by omega)
    have P4 := hid (show y ≤ 2200 by omega)
    clear h
    go_enter Tryd.func11, Tryd.ntmps11
    go_wp2_with fail
    refine (cvdate_any y m d _).mono ?_
    rintro e w1 ⟨rfl, hb⟩
    rw [HD.out]
    have HX1 := HXX.out.keep hb
    obtain ⟨c0, c1, c2⟩ := HX1.three
    have HB1 := hid HX1.low
    clear hb HX1
    go_wp2_with fail
    go_quiet ((first
      | (go_at_call 44; exact Calls.quiet_of_same (start_q _ _ P3.out P4.out))
      | (go_at_call 41; exact Calls.quiet_of_same (before_q _ _ _ P1.out P2.out))))
    go_wp2_with fail
    go_ret2
    exact ⟨rfl, bdrewN HB1.out⟩
end Go.Proofs.YtlnfebginkmbhaaDoor
