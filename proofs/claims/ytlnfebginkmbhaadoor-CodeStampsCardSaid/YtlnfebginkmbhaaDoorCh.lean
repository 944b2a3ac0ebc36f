/- Walk of CodeStamps. -/
import Derived.Test.YtlnfebginkmbhaaDoorCf
import Derived.Test.YtlnfebginkmbhaaDoorCg
namespace Go.Proofs.YtlnfebginkmbhaaDoor
open Go.RowKit

set_option maxRecDepth 100000 in
set_option maxHeartbeats 8000000 in
theorem stamps_bad (pl pr ln : ByteArray) (dy pe : Int) (n : Int) (w : World) (h : stampB pl pr ln dy pe = false) (hw : Wts w) :
    Calls Tryd.prog 5 #[.agg #[.string pl, .string pr, .string ln, .int .i64 dy, .int .i64 pe], .int .i64 n] w fun e w' => e = .returned (.bool true) ∧ Below w.heap.size w w' := by
  have HW := hid hw
  have HS := hid h
  have HX := hid (bx_new w 40 #[.string pl, .string pr, .string ln, .int .i64 dy, .int .i64 pe])
  clear h hw
  go_enter Tryd.func5, Tryd.ntmps5
  go_wp2_with fail
  refine (awake6_any _ (HW.out.keep HX.out.low)).mono ?_
  rintro e w1 ⟨rfl, hb⟩
  have HX := hid (HX.out.keep hb); obtain ⟨b0, b1, b2, b3, b4⟩ := HX.out.five; clear hb
  go_wp2_with fail
  refine (cprint_bad pl pr ln dy pe _ HS.out).mono ?_
  rintro e w2 ⟨rfl, hb⟩
  have HX := hid (HX.out.keep hb); obtain ⟨b0, b1, b2, b3, b4⟩ := HX.out.five; clear hb
  go_wp2_with fail
  refine (xprint_bad pl pr ln dy pe _ HS.out).mono ?_
  rintro e w3 ⟨rfl, hb⟩
  have HX := hid (HX.out.keep hb)
  clear hb
  clear b0 b1 b2 b3 b4
  go_wp2_with fail
  go_region_held3 (fun w' => w'.cell? ⟨w.heap.size, 0, none⟩ = some (.string pl) ∧ w'.cell? ⟨w.heap.size, 1, none⟩ = some (.string pr) ∧ w'.cell? ⟨w.heap.size, 2, none⟩ = some (.string ln) ∧ w'.cell? ⟨w.heap.size, 3, none⟩ = some (.int .i64 dy) ∧ w'.cell? ⟨w.heap.size, 4, none⟩ = some (.int .i64 pe) ∧ Hid (Bx w w' w.heap.size 40 #[.string pl, .string pr, .string ln, .int .i64 dy, .int .i64 pe]))
    (first | exact HX.out.drw.all5 | exact ((st_of (by assumption)).keep (by assumption)).all5 | assumption)
    (first
    | (go_at_call 32; refine (cstamp_any _ _ _ _ _ _).mono ?_; rintro e wk ⟨rfl, hb⟩; rw [HS.out]; have HDD := hid ((st_of (by assumption)).keep hb))
    | (go_at_call 33; refine (xstamp_any _ _ _ _ _ _).mono ?_; rintro e wk ⟨rfl, hb⟩; rw [HS.out]; have HDD := hid ((st_of (by assumption)).keep hb)))
  go_wp2_with (go_at_call 21; refine (xday_any _ _).mono ?_; rintro e wk ⟨rfl, rfl⟩)
  go_ret
  exact ⟨rfl, HDD.out.low⟩
set_option maxRecDepth 100000 in
set_option maxHeartbeats 8000000 in
theorem stamps_far (pl pr ln : ByteArray) (dy pe : Int) (n y mm dd : Int) (w : World) (h : stampB pl pr ln dy pe = true) (hdt : IsDate dy y mm dd) (hn : inB n 0 73048 = false) (hw : Wts w) :
    Calls Tryd.prog 5 #[.agg #[.string pl, .string pr, .string ln, .int .i64 dy, .int .i64 pe], .int .i64 n] w fun e w' => e = .returned (.bool true) ∧ Below w.heap.size w w' := by
  have HW := hid hw
  have HS := hid h
  have HX := hid (bx_new w 40 #[.string pl, .string pr, .string ln, .int .i64 dy, .int .i64 pe])
  have hyr := hdt.1
  have HDT := hid hdt
  have HYR := hid hyr
  obtain ⟨T, hT⟩ : ∃ T, T = printS pl pr ln dy pe y := ⟨_, rfl⟩
  have HT := hid hT
  have HP := hid (fun W (g : Wts W) => cprint_ok pl pr ln dy pe y W h hyr g)
  have HQ := hid (fun W => xprint_ok pl pr ln dy pe y mm dd W h hdt)
  rw [← hT] at HP HQ
  have HN := hid hn
  clear h hw hdt hyr hT hn
  go_enter Tryd.func5, Tryd.ntmps5
  go_wp2_with fail
  refine (awake6_any _ (HW.out.keep HX.out.low)).mono ?_
  rintro e w1 ⟨rfl, hb⟩
  have HX := hid (HX.out.keep hb); obtain ⟨b0, b1, b2, b3, b4⟩ := HX.out.five; clear hb
  go_wp2_with fail
  refine (HP.out _ (HW.out.keep HX.out.low)).mono ?_
  rintro e w2 ⟨rfl, hb⟩
  have HX := hid (HX.out.keep hb); obtain ⟨b0, b1, b2, b3, b4⟩ := HX.out.five; clear hb
  go_wp2_with fail
  refine (HQ.out _).mono ?_
  rintro e w3 ⟨rfl, hb⟩
  have HX := hid (HX.out.keep hb)
  clear hb
  clear b0 b1 b2 b3 b4
  go_wp2_with fail
  go_region_held3 (fun w' => w'.cell? ⟨w.heap.size, 0, none⟩ = some (.string pl) ∧ w'.cell? ⟨w.heap.size, 1, none⟩ = some (.string pr) ∧ w'.cell? ⟨w.heap.size, 2, none⟩ = some (.string ln) ∧ w'.cell? ⟨w.heap.size, 3, none⟩ = some (.int .i64 dy) ∧ w'.cell? ⟨w.heap.size, 4, none⟩ = some (.int .i64 pe) ∧ Hid (Bx w w' w.heap.size 40 #[.string pl, .string pr, .string ln, .int .i64 dy, .int .i64 pe]))
    (first | exact HX.out.drw.all5 | exact ((st_of (by assumption)).keep (by assumption)).all5 | assumption)
    (first
    | (go_at_call 32; refine (cstamp_any _ _ _ _ _ _).mono ?_; rintro e wk ⟨rfl, hb⟩; rw [HS.out]; have HDD := hid ((st_of (by assumption)).keep hb))
    | (go_at_call 33; refine (xstamp_any _ _ _ _ _ _).mono ?_; rintro e wk ⟨rfl, hb⟩; rw [HS.out]; have HDD := hid ((st_of (by assumption)).keep hb)))
  go_wp2_with (go_at_call 21; refine (xday_any _ _).mono ?_; rintro e wk ⟨rfl, rfl⟩; rw [HN.out])
  go_ret
  exact ⟨rfl, HDD.out.low⟩
set_option maxRecDepth 100000 in
set_option maxHeartbeats 8000000 in
theorem stamps_near (pl pr ln : ByteArray) (dy pe : Int) (n y mm dd y0 : Int) (w : World) (h : stampB pl pr ln dy pe = true) (hdt : IsDate dy y mm dd) (hn : inB n 0 73048 = true) (h0 : IsYear n y0) (hw : Wts w) :
    Calls Tryd.prog 5 #[.agg #[.string pl, .string pr, .string ln, .int .i64 dy, .int .i64 pe], .int .i64 n] w fun e w' => e = .returned (.bool true) ∧ Below w.heap.size w w' := by
  have HW := hid hw
  have HS := hid h
  have HX := hid (bx_new w 40 #[.string pl, .string pr, .string ln, .int .i64 dy, .int .i64 pe])
  have hyr := hdt.1
  have HDT := hid hdt
  have HYR := hid hyr
  obtain ⟨T, hT⟩ : ∃ T, T = printS pl pr ln dy pe y := ⟨_, rfl⟩
  have HT := hid hT
  have HP := hid (fun W (g : Wts W) => cprint_ok pl pr ln dy pe y W h hyr g)
  have HQ := hid (fun W => xprint_ok pl pr ln dy pe y mm dd W h hdt)
  rw [← hT] at HP HQ
  have HN := hid hn
  obtain ⟨k1, k2, k3, k45, k7, e1, e3, e7⟩ := code_facts pl pr ln dy pe y h hyr
  rw [← hT] at k1 k2 k3 k45 k7 e1 e3 e7
  obtain ⟨_, _, _, ⟨d1, d2⟩, p5⟩ := (stampB_iff ..).1 h
  have hyb := year_bd hyr
  obtain ⟨R, hR⟩ : ∃ R, R = srch (y % 10) (dy - soY y) n (y0 - 1999).toNat := ⟨_, rfl⟩
  obtain ⟨l1, l2, l3⟩ := latest_facts hyr h0 R hR.symm
  have HRD := hid (fun W (g : Wts W) => cread_R T n y0 R W k1 k2 g h0 (by rw [k45]; omega) (by rw [k45, k3]; exact hR.symm))
  rw [k45, k7] at HRD
  have hnb := inB_iff.1 hn
  clear hw hdt hR k1 k2 k3 k45 k7 hn
  cases R with
  | none =>
    have hlt := l2 rfl
    have HRV := hid (show readV T (dy - soY y) pe none = .tuple #[.agg #[.string ⟨#[]⟩, .string ⟨#[]⟩, .string ⟨#[]⟩, .int .i64 0, .int .i64 0], .int .i64 8] from rfl)
    have hge : ¬ dy ≤ n := by omega
    clear h hyr hT l1 l2 l3 e1 e3 e7 h0 hyb
    go_enter Tryd.func5, Tryd.ntmps5
    go_wp2_with fail
    refine (awake6_any _ (HW.out.keep HX.out.low)).mono ?_
    rintro e w1 ⟨rfl, hb⟩
    have HX := hid (HX.out.keep hb); obtain ⟨b0, b1, b2, b3, b4⟩ := HX.out.five; clear hb
    go_wp2_with fail
    refine (HP.out _ (HW.out.keep HX.out.low)).mono ?_
    rintro e w2 ⟨rfl, hb⟩
    have HX := hid (HX.out.keep hb); obtain ⟨b0, b1, b2, b3, b4⟩ := HX.out.five; clear hb
    go_wp2_with fail
    refine (HQ.out _).mono ?_
    rintro e w3 ⟨rfl, hb⟩
    have HX := hid (HX.out.keep hb)
    clear hb
    clear b0 b1 b2 b3 b4
    go_wp2_with fail
    go_region_held3 (fun w' => w'.cell? ⟨w.heap.size, 0, none⟩ = some (.string pl) ∧ w'.cell? ⟨w.heap.size, 1, none⟩ = some (.string pr) ∧ w'.cell? ⟨w.heap.size, 2, none⟩ = some (.string ln) ∧ w'.cell? ⟨w.heap.size, 3, none⟩ = some (.int .i64 dy) ∧ w'.cell? ⟨w.heap.size, 4, none⟩ = some (.int .i64 pe) ∧ Hid (Bx w w' w.heap.size 40 #[.string pl, .string pr, .string ln, .int .i64 dy, .int .i64 pe]))
      (first | exact HX.out.drw.all5 | exact ((st_of (by assumption)).keep (by assumption)).all5 | assumption)
      (first
      | (go_at_call 32; refine (cstamp_any _ _ _ _ _ _).mono ?_; rintro e wk ⟨rfl, hb⟩; rw [HS.out]; have HDD := hid ((st_of (by assumption)).keep hb))
      | (go_at_call 33; refine (xstamp_any _ _ _ _ _ _).mono ?_; rintro e wk ⟨rfl, hb⟩; rw [HS.out]; have HDD := hid ((st_of (by assumption)).keep hb)))

    go_wp2_with (go_at_call 21; refine (xday_any _ _).mono ?_; rintro e wk ⟨rfl, rfl⟩; rw [HN.out])
    refine (HRD.out _ (HW.out.keep HDD.out.low)).mono ?_
    rintro e w5 ⟨rfl, hb⟩
    rw [HRV.out]
    have HX5 := hid ((HDD.out.keep hb).alc (.cells #[.string ⟨#[]⟩, .string ⟨#[]⟩, .string ⟨#[]⟩, .int .i64 0, .int .i64 0] 40))
    obtain ⟨x0, x1, x2, x3, x4⟩ := HX5.out.five
    clear hb
    go_wp2_with fail
    go_ret
    exact ⟨rfl, HX5.out.low⟩
  | some z =>
    obtain ⟨q1, q2, q3⟩ := l3 z rfl
    have HRV := hid (show readV T (dy - soY y) pe (some z) = .tuple #[.agg #[.string pl, .string pr, .string ln, .int .i64 (soY z + (dy - soY y)), .int .i64 pe], .int .i64 0] by
      show Value.tuple #[.agg #[.string (T.extract 0 1), .string (T.extract 1 3), .string (T.extract 6 7), .int .i64 (soY z + (dy - soY y)), .int .i64 pe], .int .i64 0] = _
      rw [e1, e3, e7])
    obtain ⟨D, hD⟩ : ∃ D, D = soY z + (dy - soY y) := ⟨_, rfl⟩
    rw [← hD] at HRV q2 q3
    have hDb := isYear_nn q2
    have HST := hid (show stampB pl pr ln D pe = true by
      obtain ⟨g1, g2, g3, _, g5⟩ := (stampB_iff ..).1 h
      exact (stampB_iff ..).2 ⟨g1, g2, g3, hDb, g5⟩)
    have HPT := hid (show printS pl pr ln D pe z = T by
      rw [hT]
      unfold printS
      rw [q1, show D - soY z = dy - soY y by omega])
    have HQ2 := hid q2
    by_cases hc : dy ≤ n ∧ n < dy + 3651
    · obtain ⟨hc1, hc2⟩ := hc
      have hz := l1 hc1 hc2
      injection hz with hz
      have hDD : dy = D := by rw [hD, hz]; omega
      subst hDD
      clear h hyr hT l1 l2 l3 e1 e3 e7 h0 hyb q1 q2 hz hDb q3 hD
      go_enter Tryd.func5, Tryd.ntmps5
      go_wp2_with fail
      refine (awake6_any _ (HW.out.keep HX.out.low)).mono ?_
      rintro e w1 ⟨rfl, hb⟩
      have HX := hid (HX.out.keep hb); obtain ⟨b0, b1, b2, b3, b4⟩ := HX.out.five; clear hb
      go_wp2_with fail
      refine (HP.out _ (HW.out.keep HX.out.low)).mono ?_
      rintro e w2 ⟨rfl, hb⟩
      have HX := hid (HX.out.keep hb); obtain ⟨b0, b1, b2, b3, b4⟩ := HX.out.five; clear hb
      go_wp2_with fail
      refine (HQ.out _).mono ?_
      rintro e w3 ⟨rfl, hb⟩
      have HX := hid (HX.out.keep hb)
      clear hb
      clear b0 b1 b2 b3 b4
      go_wp2_with fail
      go_region_held3 (fun w' => w'.cell? ⟨w.heap.size, 0, none⟩ = some (.string pl) ∧ w'.cell? ⟨w.heap.size, 1, none⟩ = some (.string pr) ∧ w'.cell? ⟨w.heap.size, 2, none⟩ = some (.string ln) ∧ w'.cell? ⟨w.heap.size, 3, none⟩ = some (.int .i64 dy) ∧ w'.cell? ⟨w.heap.size, 4, none⟩ = some (.int .i64 pe) ∧ Hid (Bx w w' w.heap.size 40 #[.string pl, .string pr, .string ln, .int .i64 dy, .int .i64 pe]))
        (first | exact HX.out.drw.all5 | exact ((st_of (by assumption)).keep (by assumption)).all5 | assumption)
        (first
        | (go_at_call 32; refine (cstamp_any _ _ _ _ _ _).mono ?_; rintro e wk ⟨rfl, hb⟩; rw [HS.out]; have HDD := hid ((st_of (by assumption)).keep hb))
        | (go_at_call 33; refine (xstamp_any _ _ _ _ _ _).mono ?_; rintro e wk ⟨rfl, hb⟩; rw [HS.out]; have HDD := hid ((st_of (by assumption)).keep hb)))

      go_wp2_with (go_at_call 21; refine (xday_any _ _).mono ?_; rintro e wk ⟨rfl, rfl⟩; rw [HN.out])
      refine (HRD.out _ (HW.out.keep HDD.out.low)).mono ?_
      rintro e w5 ⟨rfl, hb⟩
      rw [HRV.out]
      have HX5 := hid ((HDD.out.keep hb).alc (.cells #[.string pl, .string pr, .string ln, .int .i64 dy, .int .i64 pe] 40))
      obtain ⟨x0, x1, x2, x3, x4⟩ := HX5.out.five
      clear hb
      go_wp2_with fail
      go_ret
      exact ⟨rfl, HX5.out.low⟩
    · have HC := hid hc
      clear h hyr hT l1 l2 l3 e1 e3 e7 h0 hyb q1 q2 hD hc
      go_enter Tryd.func5, Tryd.ntmps5
      go_wp2_with fail
      refine (awake6_any _ (HW.out.keep HX.out.low)).mono ?_
      rintro e w1 ⟨rfl, hb⟩
      have HX := hid (HX.out.keep hb); obtain ⟨b0, b1, b2, b3, b4⟩ := HX.out.five; clear hb
      go_wp2_with fail
      refine (HP.out _ (HW.out.keep HX.out.low)).mono ?_
      rintro e w2 ⟨rfl, hb⟩
      have HX := hid (HX.out.keep hb); obtain ⟨b0, b1, b2, b3, b4⟩ := HX.out.five; clear hb
      go_wp2_with fail
      refine (HQ.out _).mono ?_
      rintro e w3 ⟨rfl, hb⟩
      have HX := hid (HX.out.keep hb)
      clear hb
      clear b0 b1 b2 b3 b4
      go_wp2_with fail
      go_region_held3 (fun w' => w'.cell? ⟨w.heap.size, 0, none⟩ = some (.string pl) ∧ w'.cell? ⟨w.heap.size, 1, none⟩ = some (.string pr) ∧ w'.cell? ⟨w.heap.size, 2, none⟩ = some (.string ln) ∧ w'.cell? ⟨w.heap.size, 3, none⟩ = some (.int .i64 dy) ∧ w'.cell? ⟨w.heap.size, 4, none⟩ = some (.int .i64 pe) ∧ Hid (Bx w w' w.heap.size 40 #[.string pl, .string pr, .string ln, .int .i64 dy, .int .i64 pe]))
        (first | exact HX.out.drw.all5 | exact ((st_of (by assumption)).keep (by assumption)).all5 | assumption)
        (first
        | (go_at_call 32; refine (cstamp_any _ _ _ _ _ _).mono ?_; rintro e wk ⟨rfl, hb⟩; rw [HS.out]; have HDD := hid ((st_of (by assumption)).keep hb))
        | (go_at_call 33; refine (xstamp_any _ _ _ _ _ _).mono ?_; rintro e wk ⟨rfl, hb⟩; rw [HS.out]; have HDD := hid ((st_of (by assumption)).keep hb)))

      go_wp2_with (go_at_call 21; refine (xday_any _ _).mono ?_; rintro e wk ⟨rfl, rfl⟩; rw [HN.out])
      refine (HRD.out _ (HW.out.keep HDD.out.low)).mono ?_
      rintro e w5 ⟨rfl, hb⟩
      rw [HRV.out]
      have HX4 := HDD.out.keep hb
      have HX5 := hid (HX4.alc (.cells #[.string pl, .string pr, .string ln, .int .i64 D, .int .i64 pe] 40))
      have HY5 := hid (show Bx w (w5.alloc (.cells #[.string pl, .string pr, .string ln, .int .i64 D, .int .i64 pe] 40)) w5.heap.size 40 #[.string pl, .string pr, .string ln, .int .i64 D, .int .i64 pe] from ⟨heap_alloc_new _ _, HX4.low.size, HX5.out.low⟩)
      obtain ⟨x0, x1, x2, x3, x4⟩ := HX5.out.five
      clear hb HX4
      by_cases hc1 : dy ≤ n
      · have hc2 : ¬ n < dy + 3651 := fun g => HC.out ⟨hc1, g⟩
        go_wp2_with fail
        refine (cprint_ok pl pr ln D pe z _ HST.out HQ2.out (HW.out.keep HX5.out.low)).mono ?_
        rintro e w6 ⟨rfl, hb⟩
        rw [HPT.out]
        have HY6 := hid (HY5.out.keep hb)
        obtain ⟨z0, z1, z2, z3, z4⟩ := HY6.out.five
        clear hb
        go_wp2_with fail
        go_ret
        exact ⟨rfl, HY6.out.low⟩
      · go_wp2_with fail
        refine (cprint_ok pl pr ln D pe z _ HST.out HQ2.out (HW.out.keep HX5.out.low)).mono ?_
        rintro e w6 ⟨rfl, hb⟩
        rw [HPT.out]
        have HY6 := hid (HY5.out.keep hb)
        obtain ⟨z0, z1, z2, z3, z4⟩ := HY6.out.five
        clear hb
        go_wp2_with fail
        go_ret
        exact ⟨rfl, HY6.out.low⟩
theorem stamps_walk (pl pr ln : ByteArray) (dy pe : Int) (n : Int) (w : World) (hw : Wts w) :
    Calls Tryd.prog 5 #[.agg #[.string pl, .string pr, .string ln, .int .i64 dy, .int .i64 pe], .int .i64 n] w fun e w' => e = .returned (.bool true) ∧ Below w.heap.size w w' := by
  cases h : stampB pl pr ln dy pe
  · exact stamps_bad pl pr ln dy pe n w h hw
  · obtain ⟨_, _, _, ⟨d1, d2⟩, _⟩ := (stampB_iff ..).1 h
    obtain ⟨y, mm, dd, hdt⟩ := date_ex d1 d2
    cases hn : inB n 0 73048
    · exact stamps_far pl pr ln dy pe n y mm dd w h hdt hn hw
    · obtain ⟨n1, n2⟩ := inB_iff.1 hn
      obtain ⟨y0, h0⟩ := year_ex n1 n2
      exact stamps_near pl pr ln dy pe n y mm dd y0 w h hdt hn h0 hw
end Go.Proofs.YtlnfebginkmbhaaDoor
