/- Walks of the reference's DateOf of no day, DayOf, Weekday, OfYear: contracts. -/
import Derived.Test.YtmhkgpcnefcjaaaDoorDw
namespace Go.Proofs.YtmhkgpcnefcjaaaDoor
open Go.RowKit

set_option maxRecDepth 100000 in
set_option maxHeartbeats 2000000 in
theorem xdate_bad (n : Int) (w : World) (h : inB n 0 73048 = false) :
    Calls Tryd.prog 74 #[.int .i64 n] w fun e w' => e = .returned (.tuple #[.agg #[.int .i64 0, .int .i64 0, .int .i64 0], .int .i64 7]) ∧ Below w.heap.size w w' := by
  have H := hid h
  clear h
  go_enter Tryd.func74, Tryd.ntmps74
  go_wp2_with (go_at_call 76; refine (xday_any _ _).mono ?_; rintro e w' ⟨rfl, rfl⟩; rw [H.out])
  refine bodyPost_ret (v := .tuple #[.agg #[.int .i64 0, .int .i64 0, .int .i64 0], .int .i64 7]) (by simp [results, Tryd.results74, go_sem]) rfl ⟨rfl, ?_⟩
  exact (Below.refl _ _).alloc (Nat.le_refl _) _
set_option maxRecDepth 100000 in
set_option maxHeartbeats 4000000 in
theorem xdayof_any (y m d : Int) (w : World) :
    Calls Tryd.prog 98 #[.agg #[.int .i64 y, .int .i64 m, .int .i64 d]] w fun e w' => e = .returned (if dateB y m d = true then .tuple #[.int .i64 (dayN y m d), .int .i64 0] else .tuple #[.int .i64 0, .int .i64 7]) ∧ Below w.heap.size w w' := by
  have HX := bx_new w 61 #[.int .i64 y, .int .i64 m, .int .i64 d]
  obtain ⟨c0, c1, c2⟩ := HX.three
  have HXX := hid HX
  clear HX
  cases h : dateB y m d
  · have HD := hid h
    clear h
    go_enter Tryd.func98, Tryd.ntmps98
    go_wp2_with fail
    refine (xvdate_any y m d _).mono ?_
    rintro e w1 ⟨rfl, hb⟩
    rw [HD.out]
    have HB1 := hid (HXX.out.keep hb).low
    clear hb
    go_wp2_with fail
    go_ret2
    exact ⟨rfl, HB1.out⟩
  · have HD := hid h
    have hq := h
    rw [dateB_eq, Bool.and_eq_true, Bool.and_eq_true, inB_iff, inB_iff, inB_iff] at hq
    obtain ⟨⟨⟨y1, y2⟩, ⟨m1, m2⟩⟩, ⟨d1, d2⟩⟩ := hq
    have hml := mlen_pos y m
    have d3 : d ≤ 31 := by omega
    clear h d2 hml
    go_enter Tryd.func98, Tryd.ntmps98
    go_wp2_with fail
    refine (xvdate_any y m d _).mono ?_
    rintro e w1 ⟨rfl, hb⟩
    rw [HD.out]
    have HX1 := HXX.out.keep hb
    obtain ⟨c0, c1, c2⟩ := HX1.three
    have HB1 := hid HX1.low
    clear hb HX1
    go_wp2_with fail
    go_loop [4, 5] (fun s t => ∃ k : Int, 1 ≤ k ∧ k ≤ m ∧ s = .int .i64 (d - 1 + dB y k) ∧ t = .int .i64 k) (fun _ t => (m - intOf t).toNat)
    case atStart => exact ⟨1, by omega, m1, by rw [dB_1, Int.add_zero], rfl⟩
    case round =>
      obtain ⟨k, k1, k2, rfl, rfl⟩ := hrel
      have hb1 := dB_bd (y := y) (m := k) k1 (by omega)
      by_cases hlt : k < m
      · have hs := dB_succ (y := y) (m := k) k1 (by omega)
        have hb2 := mlen_pos y k
        have HLT := hid hlt
        have HS := hid (show d - 1 + dB y k + mlen y k = d - 1 + dB y (k + 1) by omega)
        have hkm : k ≤ 12 := by omega
        clear hs
        go_wp2_with (go_at_call 97; refine (days_q _ _ _ (by omega) (by omega)).mono ?_; rintro e w' ⟨rfl, rfl⟩)
        go_round
        case rel => exact ⟨k + 1, by omega, by have := HLT.out; omega, int_eq HS.out, by go_num⟩
        case measure => have := HLT.out; simp [intOf]; omega
      · obtain rfl : k = m := by omega
        clear hlt
        obtain ⟨B, hB⟩ : ∃ B, B = d - 1 + dB y k := ⟨_, rfl⟩
        have HBQ := hid hB
        have hBb : 0 ≤ B ∧ B ≤ 400 := by omega
        rw [← hB]
        clear hB hb1
        go_wp2_with fail
        go_loop [4, 6] (fun s t => ∃ z : Int, 2000 ≤ z ∧ z ≤ y ∧ s = .int .i64 (B + soY z) ∧ t = .int .i64 z) (fun _ t => (y - intOf t).toNat)
        case atStart => exact ⟨2000, by omega, y1, by rw [soY_2000, Int.add_zero], rfl⟩
        case round =>
          obtain ⟨z, z1, z2, rfl, rfl⟩ := hrel
          have hz1 := soY_day z1 (by omega)
          by_cases hlt : z < y
          · have hs := soY_succ z1
            have hyl : 365 ≤ ylen z ∧ ylen z ≤ 366 := by rw [ylen_lp]; rcases lp_01 z with ⟨_, h2⟩ | ⟨_, h2⟩ <;> omega
            have HLT := hid hlt
            have HS := hid (show B + soY z + ylen z = B + soY (z + 1) by omega)
            clear hs
            go_wp2_with (go_at_call 96; refine (year_q _ _).mono ?_; rintro e w' ⟨rfl, rfl⟩)
            go_round
            case rel => exact ⟨z + 1, by omega, by have := HLT.out; omega, int_eq HS.out, by go_num⟩
            case measure => have := HLT.out; simp [intOf]; omega
          · obtain rfl : z = y := by omega
            have HE := hid (show B + soY z = dayN z k d by rw [HBQ.out]; unfold dayN; omega)
            clear hlt
            go_wp2_with fail
            go_ret2
            exact ⟨by rw [← HE.out]; rfl, HB1.out⟩
set_option maxRecDepth 100000 in
set_option maxHeartbeats 2000000 in
theorem xofyear_ok (n y m d : Int) (w : World) (h : IsDate n y m d) :
    Calls Tryd.prog 75 #[.int .i64 n] w fun e w' => e = .returned (.tuple #[.int .i64 (n - soY y), .int .i64 0]) ∧ Below w.heap.size w w' := by
  have H := hid h
  have y1 := h.1.1
  have y2 := h.1.2.1
  have hnn := isYear_nn h.1
  have hsy := soY_day y1 y2
  have HF := hid (show dateB y 1 1 = true by rw [dateB_eq]; simp only [Bool.and_eq_true, inB_iff]; have := mlen_pos y 1; omega)
  have HN := hid (show dayN y 1 1 = soY y by unfold dayN; rw [dB_1]; omega)
  clear h
  go_enter Tryd.func75, Tryd.ntmps75
  go_wp2_with fail
  refine (xdate_ok n y m d _ H.out).mono ?_
  rintro e w1 ⟨rfl, hb⟩
  have HX := hid (show Bx w (w1.alloc (.cells #[.int .i64 y, .int .i64 m, .int .i64 d] 61)) w1.heap.size 61 #[.int .i64 y, .int .i64 m, .int .i64 d] from
    ⟨heap_alloc_new _ _, hb.size, bstep hb hb.size ((Below.refl _ _).alloc (Nat.le_refl _) _)⟩)
  clear hb
  go_wp2_with fail
  refine (xdayof_any y 1 1 _).mono ?_
  rintro e w2 ⟨rfl, hb⟩
  rw [if_pos HF.out, HN.out]
  have HX2 := hid (HX.out.keep hb).low
  clear hb
  go_wp2_with fail
  go_ret2
  exact ⟨rfl, HX2.out⟩
set_option maxRecDepth 100000 in
set_option maxHeartbeats 2000000 in
theorem xofyear_bad (n : Int) (w : World) (h : inB n 0 73048 = false) :
    Calls Tryd.prog 75 #[.int .i64 n] w fun e w' => e = .returned (.tuple #[.int .i64 0, .int .i64 7]) ∧ Below w.heap.size w w' := by
  have H := hid h
  clear h
  go_enter Tryd.func75, Tryd.ntmps75
  go_wp2_with fail
  refine (xdate_bad n _ H.out).mono ?_
  rintro e w1 ⟨rfl, hb⟩
  have HB := hid (bstep hb hb.size ((Below.refl w1.heap.size w1).alloc (Nat.le_refl _) (.cells #[.int .i64 0, .int .i64 0, .int .i64 0] 61)))
  clear hb
  go_wp2_with fail
  go_ret2
  exact ⟨rfl, HB.out⟩
end Go.Proofs.YtmhkgpcnefcjaaaDoor
