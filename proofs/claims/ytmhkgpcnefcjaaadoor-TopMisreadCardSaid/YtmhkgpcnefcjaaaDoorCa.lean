/- Walk of latest: contract. -/
import Derived.Test.YtmhkgpcnefcjaaaDoorDx
import Derived.Test.YtmhkgpcnefcjaaaDoorDt
namespace Go.Proofs.YtmhkgpcnefcjaaaDoor
open Go.RowKit

/-- A year that a code may say. -/
def okY (D u n z : Int) : Bool := (z % 10 == D) && decide (u < ylen z) && decide (soY z + u ≤ n)
def srch (D u n : Int) : Nat → Option Int
  | 0 => none
  | k + 1 => if okY D u n (2000 + k) = true then some (2000 + k) else srch D u n k
def latV (u : Int) : Option Int → Value
  | some z => .tuple #[.int .i64 (soY z + u), .bool true]
  | none => .tuple #[.int .i64 0, .bool false]
theorem srch_ok {D u n : Int} {k : Nat} {R : Option Int} (h : srch D u n (k + 1) = R) (g : okY D u n (2000 + k) = true) : R = some (2000 + (k : Int)) := by
  rw [← h]; simp [srch, g]
theorem srch_no {D u n : Int} {k : Nat} {R : Option Int} (h : srch D u n (k + 1) = R) (g : okY D u n (2000 + k) = false) : srch D u n k = R := by
  rw [← h]; simp [srch, g]
theorem okY_eq (D u n z : Int) : okY D u n z = ((z % 10 == D) && decide (u < ylen z) && decide (soY z + u ≤ n)) := rfl
set_option maxRecDepth 100000 in
set_option maxHeartbeats 4000000 in
theorem latest_any (D u n y0 : Int) (R : Option Int) (w : World) (hy : IsYear n y0) (hu : 0 ≤ u ∧ u ≤ 365) (hR : srch D u n (y0 - 1999).toNat = R) :
    Calls Tryd.prog 59 #[.int .i64 D, .int .i64 u, .int .i64 n] w fun e w' => e = .returned (latV u R) ∧ w' = w := by
  have HY := hid hy
  obtain ⟨y1, y2, _, _⟩ := hy
  obtain ⟨u1, u2⟩ := hu
  have HR := hid hR
  clear hR
  go_enter Tryd.func59, Tryd.ntmps59
  go_wp2_with (go_at_call 60; refine (yearof_any _ y0 _ HY.out).mono ?_; rintro e w' ⟨rfl, rfl⟩)
  go_loop [6, 8] (fun _ t => ∃ k : Nat, k ≤ 200 ∧ t = .int .i64 (1999 + (k : Int)) ∧ Hid (srch D u n k = R)) (fun _ t => (intOf t - 1999).toNat)
  case atStart => exact ⟨(y0 - 1999).toNat, by omega, by congr 1; omega, HR⟩
  case round =>
    obtain ⟨k, hk, rfl, HK⟩ := hrel
    cases k with
    | zero =>
      have HE := hid (show R = none from HK.out.symm)
      have hge : ¬ (2000 : Int) ≤ 1999 + ((0 : Nat) : Int) := by omega
      go_wp2_with fail
      go_ret2
      exact ⟨by rw [HE.out]; rfl, rfl⟩
    | succ k =>
      obtain ⟨z, hz⟩ : ∃ z : Int, z = 2000 + (k : Int) := ⟨_, rfl⟩
      have ez : (1999 + ((k + 1 : Nat) : Int)) = z := by omega
      have HZ := hid hz
      have z1 : 2000 ≤ z := by omega
      have z2 : z ≤ 2199 := by omega
      have hsz := soY_day z1 z2
      have HSC := hid (soY_succ z1)
      have t1 : z.tmod 10 = z % 10 := Int.tmod_eq_emod_of_nonneg (by omega)
      have HQ := hid (okY_eq D u n z)
      rw [ez]
      have HGO := hid (fun (g : okY D u n z = true) => srch_ok HK.out (by rw [← hz]; exact g))
      have HNO := hid (fun (g : okY D u n z = false) => srch_no HK.out (by rw [← hz]; exact g))
      have HZK := hid (show z - 1 = 1999 + (k : Int) by omega)
      have HK2 := hid (show k ≤ 200 by omega)
      clear hz ez
      have hge : (2000 : Int) ≤ z := z1
      cases h1 : (z % 10 == D)
      · rw [h1, Bool.false_and, Bool.false_and] at HQ
        go_wp2_with (go_at_call 77; refine (start_any _ _ (by omega) (by omega)).mono ?_; rintro e w' ⟨rfl, rfl⟩)
        go_round
        case rel => exact ⟨k, HK2.out, int_eq HZK.out, hid (HNO.out HQ.out)⟩
        case measure => simp [intOf]; omega
      · have hsc2 := HSC.out
        by_cases h2 : u < ylen z
        · have hlt : soY z + u < soY (z + 1) := by omega
          by_cases h3 : soY z + u ≤ n
          · have HE := hid (HGO.out (by rw [HQ.out, h1, decide_eq_true h2, decide_eq_true h3]; rfl))
            clear hsc2 h2
            go_wp2_with (go_at_call 77; refine (start_any _ _ (by omega) (by omega)).mono ?_; rintro e w' ⟨rfl, rfl⟩)
            go_ret2
            exact ⟨by rw [HE.out, ← HZ.out]; rfl, rfl⟩
          · have HE := hid (HNO.out (by rw [HQ.out, h1, decide_eq_false h3]; simp))
            clear hsc2 h2
            go_wp2_with (go_at_call 77; refine (start_any _ _ (by omega) (by omega)).mono ?_; rintro e w' ⟨rfl, rfl⟩)
            go_round
            case rel => exact ⟨k, HK2.out, int_eq HZK.out, HE⟩
            case measure => simp [intOf]; omega
        · have hlt : ¬ soY z + u < soY (z + 1) := by omega
          have HE := hid (HNO.out (by rw [HQ.out, h1, decide_eq_false h2]; simp))
          clear hsc2 h2
          go_wp2_with (go_at_call 77; refine (start_any _ _ (by omega) (by omega)).mono ?_; rintro e w' ⟨rfl, rfl⟩)
          go_round
          case rel => exact ⟨k, HK2.out, int_eq HZK.out, HE⟩
          case measure => simp [intOf]; omega
end Go.Proofs.YtmhkgpcnefcjaaaDoor
