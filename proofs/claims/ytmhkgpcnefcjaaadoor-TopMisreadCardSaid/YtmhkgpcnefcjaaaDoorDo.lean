/- Walks of yearOf, DateOf, Weekday, OfYear: contracts. -/
import Derived.Test.YtmhkgpcnefcjaaaDoorDd
import Derived.LoopTactic
namespace Go.Proofs.YtmhkgpcnefcjaaaDoor
open Go.RowKit

theorem soY_le {y z : Int} (h : 2000 ≤ y) (hz : y ≤ z) : soY y ≤ soY z := by
  rcases Int.lt_or_eq_of_le hz with h1 | h1
  · have := soY_mono h h1; omega
  · subst h1; omega
theorem year_start {n y : Int} (h : IsYear n y) (hn : 0 ≤ n) : 2000 + n / 366 ≤ y := by
  obtain ⟨h1, h2, h3, h4⟩ := h
  by_cases g : 2000 + n / 366 ≤ y
  · exact g
  · exfalso
    have h5 := soY_le (y := y + 1) (z := 2000 + n / 366) (by omega) (by omega)
    unfold soY at h5 h4
    omega
theorem isYear_nn {n y : Int} (h : IsYear n y) : 0 ≤ n ∧ n ≤ 73048 := by
  obtain ⟨h1, h2, h3, h4⟩ := h
  have a := soY_le (y := 2000) (z := y) (by omega) h1
  have b := soY_le (y := y + 1) (z := 2200) (by omega) (by omega)
  rw [soY_2000] at a
  rw [soY_2200] at b
  omega
set_option maxRecDepth 100000 in
set_option maxHeartbeats 2000000 in
theorem yearof_any (n y : Int) (w : World) (h : IsYear n y) :
    Calls Tryd.prog 60 #[.int .i64 n] w fun e w' => e = .returned (.tuple #[.int .i64 y, .int .i64 (n - soY y)]) ∧ w' = w := by
  have H := hid h
  obtain ⟨n1, n2⟩ := isYear_nn h
  have hs := year_start h n1
  obtain ⟨h1, h2, _, _⟩ := h
  have ht : n.tdiv 366 = n / 366 := Int.tdiv_eq_ediv_of_nonneg n1
  obtain ⟨z0, hz0⟩ : ∃ z, z = 2000 + n / 366 := ⟨_, rfl⟩
  have hz1 : 2000 ≤ z0 := by omega
  have HS := hid hs
  go_enter Tryd.func60, Tryd.ntmps60
  go_wp2_with fail
  go_loop [2] (fun t => ∃ z : Int, 2000 ≤ z ∧ z ≤ y ∧ t = .int .i64 z) (fun t => (y - intOf t).toNat)
  case atStart => exact ⟨2000 + n / 366, by omega, HS.out, rfl⟩
  case round =>
    obtain ⟨z, g1, g2, rfl⟩ := hrel
    have HG := hid g1
    have g3 : z ≤ 2199 := by omega
    by_cases hlt : z < y
    · have hle : soY (z + 1) ≤ n := by
        have := soY_le (y := z + 1) (z := y) (by omega) (by omega)
        have := H.out.2.2.1
        omega
      have HLT := hid hlt
      clear hlt
      go_wp2_with (go_at_call 77; refine (start_any _ _ (by omega) (by omega)).mono ?_; rintro e w' ⟨rfl, rfl⟩)
      go_round
      case rel => exact ⟨z + 1, by omega, by have := HLT.out; omega, by go_num⟩
      case measure => have := HLT.out; simp [intOf]; omega
    · obtain rfl : z = y := by omega
      have hle : ¬ soY (z + 1) ≤ n := by have := H.out.2.2.2; omega
      have hb := soY_day g1 g3
      clear hlt
      go_wp2_with (go_at_call 77; refine (start_any _ _ (by omega) (by omega)).mono ?_; rintro e w' ⟨rfl, rfl⟩)
      go_ret2
      exact ⟨rfl, rfl⟩
end Go.Proofs.YtmhkgpcnefcjaaaDoor
