/- Walk of Print: contracts. -/
import Derived.Test.YtmhkgpcnefcjaaaDoorDr
namespace Go.Proofs.YtmhkgpcnefcjaaaDoor
open Go.RowKit

theorem valB_sgn {v : Int} (h : 0 ≤ v ∧ v ≤ 30) : valB (sgn v) = v := by
  have : ∀ k : Fin 31, valB (sgn (k.val : Int)) = (k.val : Int) := by decide
  have h2 := this ⟨v.toNat, by omega⟩
  have e : (v.toNat : Int) = v := by omega
  simpa [e] using h2
theorem allSg_app (a b : ByteArray) : allSg (a ++ b).data.toList = (allSg a.data.toList && allSg b.data.toList) := by
  unfold allSg
  rw [ByteArray.data_append, Array.toList_append, List.all_append]
theorem allSg_txt {l : List Int} (h : ∀ x ∈ l, 0 ≤ x ∧ x ≤ 30) : allSg (txt l).data.toList = true := by
  unfold allSg txt
  simp only [List.all_map]
  refine List.all_eq_true.2 fun x hx => ?_
  simp only [Function.comp]
  rw [valB_sgn (h x hx)]
  exact decide_eq_true (h x hx).1
theorem speltB_iff {s : ByteArray} {n : Int} : speltB s n = true ↔ (s.size : Int) = n ∧ allSg s.data.toList = true := by
  unfold speltB; rw [Bool.and_eq_true, decide_eq_true_eq]
theorem nine_pre {pl pr ln : ByteArray} {Z A B pe : Int} (h1 : speltB pl 1 = true) (h2 : speltB pr 2 = true) (h3 : speltB ln 1 = true) (hZ : 0 ≤ Z ∧ Z ≤ 30) (hA : 0 ≤ A ∧ A ≤ 30) (hB : 0 ≤ B ∧ B ≤ 30) (hp : 0 ≤ pe ∧ pe ≤ 30) : nineB (preT pl pr ln Z A B pe) = true := by
  obtain ⟨s1, a1⟩ := speltB_iff.1 h1
  obtain ⟨s2, a2⟩ := speltB_iff.1 h2
  obtain ⟨s3, a3⟩ := speltB_iff.1 h3
  rw [nineB_iff]
  have e1 : (txtV #[.int .i64 Z, .int .i64 A, .int .i64 B]).size = 3 := txt_size _
  have e2 : (txtV #[.int .i64 pe, .int .i64 0]).size = 2 := txt_size _
  have a4 : allSg (txtV #[.int .i64 Z, .int .i64 A, .int .i64 B]).data.toList = true := allSg_txt (l := [Z, A, B]) (by simp [hZ, hA, hB])
  have a5 : allSg (txtV #[.int .i64 pe, .int .i64 0]).data.toList = true := allSg_txt (l := [pe, 0]) (by simp [hp])
  unfold preT
  refine ⟨?_, ?_⟩
  · simp only [ByteArray.size_append]; omega
  · rw [allSg_app, allSg_app, allSg_app, allSg_app, a1, a2, a3, a4, a5]; rfl
theorem year_ex0 (n : Int) : ∀ K : Nat, n < soY (2000 + K) → 0 ≤ n → ∃ k : Nat, k < K ∧ soY (2000 + k) ≤ n ∧ n < soY (2000 + k + 1)
  | 0, h, h0 => by have e : soY (2000 + ((0 : Nat) : Int)) = 0 := by decide
                   omega
  | K + 1, h, h0 => by
    by_cases g : n < soY (2000 + K)
    · obtain ⟨k, h1, h2⟩ := year_ex0 n K g h0
      exact ⟨k, by omega, h2⟩
    · refine ⟨K, by omega, by omega, ?_⟩
      have e : (2000 + ((K + 1 : Nat) : Int)) = 2000 + K + 1 := by omega
      rw [← e]; exact h
theorem year_ex {n : Int} (h0 : 0 ≤ n) (h1 : n ≤ 73048) : ∃ y, IsYear n y := by
  obtain ⟨k, hk, h2, h3⟩ := year_ex0 n 200 (by have := soY_2200; show n < soY 2200; omega) h0
  exact ⟨2000 + k, by omega, by omega, h2, h3⟩
/-- The code of a valid stamp on a day of the year y. -/
def printS (pl pr ln : ByteArray) (dy pe y : Int) : ByteArray := txt (mend (vals (preT pl pr ln (y % 10) ((dy - soY y) / 31) ((dy - soY y) % 31) pe)) 8)
theorem stampB_iff (pl pr ln : ByteArray) (dy pe : Int) : stampB pl pr ln dy pe = true ↔ speltB pl 1 = true ∧ speltB pr 2 = true ∧ speltB ln 1 = true ∧ (0 ≤ dy ∧ dy ≤ 73048) ∧ (0 ≤ pe ∧ pe ≤ 30) := by
  unfold stampB
  simp only [Bool.and_eq_true, inB_iff]
  constructor
  · rintro ⟨⟨⟨⟨h1, h2⟩, h3⟩, h4⟩, h5⟩; exact ⟨h1, h2, h3, h4, h5⟩
  · rintro ⟨h1, h2, h3, h4, h5⟩; exact ⟨⟨⟨⟨h1, h2⟩, h3⟩, h4⟩, h5⟩
theorem year_bd {n y : Int} (h : IsYear n y) : 0 ≤ n - soY y ∧ n - soY y ≤ 365 := by
  obtain ⟨h1, h2, h3, h4⟩ := h
  have := soY_succ h1
  have := ylen_lp y
  rcases lp_01 y with ⟨_, h⟩ | ⟨_, h⟩ <;> omega
theorem pre_ok {pl pr ln : ByteArray} {dy pe y : Int} (h : stampB pl pr ln dy pe = true) (hy : IsYear dy y) : nineB (preT pl pr ln (y % 10) ((dy - soY y) / 31) ((dy - soY y) % 31) pe) = true := by
  obtain ⟨h1, h2, h3, h4, h5⟩ := (stampB_iff ..).1 h
  have hb := year_bd hy
  exact nine_pre h1 h2 h3 (by omega) (by omega) (by omega) h5
set_option maxRecDepth 100000 in
set_option maxHeartbeats 2000000 in
theorem cprint_ok (pl pr ln : ByteArray) (dy pe : Int) (y : Int) (w : World) (h : stampB pl pr ln dy pe = true) (hy : IsYear dy y) (hw : Wts w) :
    Calls Tryd.prog 27 #[.agg #[.string pl, .string pr, .string ln, .int .i64 dy, .int .i64 pe]] w fun e w' => e = .returned (.tuple #[.string (printS pl pr ln dy pe y), .int .i64 0]) ∧ Below w.heap.size w w' := by
  have HX := hid (bx_new w 48 #[.string pl, .string pr, .string ln, .int .i64 dy, .int .i64 pe])
  have HS := hid h
  have HW := hid hw
  have H9 := hid (pre_ok h hy)
  have HY := hid hy
  obtain ⟨h1, h2, h3, _, _⟩ := (stampB_iff ..).1 h
  have Q1 := hid (speltB_iff.1 h1).1
  have Q2 := hid (speltB_iff.1 h2).1
  have Q3 := hid (speltB_iff.1 h3).1
  clear h hw hy h1 h2 h3
  go_enter Tryd.func27, Tryd.ntmps27
  go_wp2_with fail
  refine (cstamp_any _ _ _ _ _ _).mono ?_
  rintro e w1 ⟨rfl, hb⟩
  rw [HS.out]
  have HX := hid (HX.out.keep hb); obtain ⟨b0, b1, b2, b3, b4⟩ := HX.out.five; clear hb
  go_wp2_with fail
  refine (printed_any pl pr ln dy pe y (dy - soY y) _ (by have := Q1.out; omega) (by have := Q2.out; omega) (by have := Q3.out; omega) HY.out rfl H9.out (HW.out.keep HX.out.low)).mono ?_
  rintro e w2 ⟨rfl, hb⟩
  have HX := hid (HX.out.keep hb); obtain ⟨b0, b1, b2, b3, b4⟩ := HX.out.five; clear hb
  go_wp2_with fail
  go_ret2
  exact ⟨rfl, HX.out.low⟩
set_option maxRecDepth 100000 in
set_option maxHeartbeats 2000000 in
theorem cprint_bad (pl pr ln : ByteArray) (dy pe : Int) (w : World) (h : stampB pl pr ln dy pe = false) :
    Calls Tryd.prog 27 #[.agg #[.string pl, .string pr, .string ln, .int .i64 dy, .int .i64 pe]] w fun e w' => e = .returned (.tuple #[.string ⟨#[]⟩, .int .i64 1]) ∧ Below w.heap.size w w' := by
  have HX := hid (bx_new w 48 #[.string pl, .string pr, .string ln, .int .i64 dy, .int .i64 pe])
  have HS := hid h
  clear h
  go_enter Tryd.func27, Tryd.ntmps27
  go_wp2_with fail
  refine (cstamp_any _ _ _ _ _ _).mono ?_
  rintro e w1 ⟨rfl, hb⟩
  rw [HS.out]
  have HX := hid (HX.out.keep hb); obtain ⟨b0, b1, b2, b3, b4⟩ := HX.out.five; clear hb
  go_wp2_with fail
  go_ret2
  exact ⟨rfl, HX.out.low⟩
end Go.Proofs.YtmhkgpcnefcjaaaDoor
