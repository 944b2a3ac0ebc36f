/- Walks of least, Coldest, Hottest and Centre of the reference, and of Centre: contracts. -/
import Derived.Test.YtpkcnojcklmhmaaFa
namespace Go.Proofs.Ytpkcnojcklmhmaa
open Go.RowKit

theorem Box1.two {w w1 : World} {d0 d1 : Value} (h : Box1 w w1 #[d0, d1]) : w1.cell? ⟨w.heap.size, 0, none⟩ = some d0 ∧ w1.cell? ⟨w.heap.size, 1, none⟩ = some d1 := ⟨h.fst 0, h.fst 1⟩
theorem bestT_of {lt : Int → Int → Bool} {T : List Int} {k j : Nat} (hj : j < T.length) (hk : k ≤ T.length) (h : (bestT lt T k).1 = j) : (bestT lt T k).2 = T[j] := by
  obtain ⟨h1, h2⟩ := bestT_at lt T k hk (by omega)
  subst h
  rw [← h2, getD_at h1]
theorem bestT_step {lt : Int → Int → Bool} {T : List Int} {k j : Nat} (hj : j < T.length) (hk : k < T.length) (h : (bestT lt T k).1 = j) : (bestT lt T (k + 1)).1 = if lt T[k] T[j] then k else j := by
  have h2 := bestT_of hj (by omega) h
  cases hb : lt T[k] T[j]
  · rw [bestT_no (v := T[k]) (getD_at hk) (by rw [h2]; exact hb), h]; rfl
  · rw [bestT_yes (v := T[k]) (getD_at hk) (by rw [h2]; exact hb)]; rfl

set_option maxRecDepth 20000 in
set_option maxHeartbeats 2000000 in
theorem least_any (w : World) (v : Value) (T : List Int) (br : Bool) (hl : RowI w v T) (h0 : 0 < T.length) :
    Calls Try.prog 55 #[.agg #[v, .bool br]] w fun e w' => e = .returned (.tuple #[.int .i64 ((bestT ltB T T.length).1 : Nat), .int .i64 (bestT ltB T T.length).2]) ∧ Below w.heap.size w w' := by
  obtain ⟨b, o, cap, rfl, hc⟩ := hl.some h0
  have hm : T.length ≤ maxLen := by rcases hl with ⟨_, _, _, h⟩ | ⟨_, _, _, _, h, _⟩ <;> simp_all [maxLen]
  unfold maxLen at hm
  have HC := hid (fun w1 (g : Below w.heap.size w w1) j h => keep_cell g (hc j h))
  clear hc hl
  have BX := hid (box1_start (w := w) (A := #[.slice (some ⟨b, o, none⟩) T.length cap, .bool br]) (T := 26) (fz := (0, 0)))
  obtain ⟨x0, x1⟩ := BX.out.two
  go_enter Try.func55, Try.ntmps55
  go_wp2_with fail
  go_loopw [4, 5] (fun p i wr => ∃ k j : Nat, k ≤ T.length ∧ j < T.length ∧ p = .int .i64 (j : Int) ∧ i = .int .i64 (k : Int) ∧ Hid ((bestT ltB T k).1 = j) ∧ Hid (Box1 w wr #[.slice (some ⟨b, o, none⟩) T.length cap, .bool br])) (fun _ i _ => T.length - (intOf i).toNat)
  case atStart => exact ⟨0, 0, Nat.zero_le _, h0, rfl, rfl, rfl, BX⟩
  case round =>
    obtain ⟨k, j, hk, hj, rfl, rfl, HB, BX⟩ := hrel
    clear x0 x1
    obtain ⟨x0, x1⟩ := BX.out.two
    have ey := HC.out _ BX.out.low j hj
    by_cases hlt : k < T.length
    · have ex := HC.out _ BX.out.low k hlt
      have HST := hid (bestT_step hj hlt HB.out)
      by_cases he : T[k] < T[j]
      · have hb : ltB T[k] T[j] = true := by simpa [ltB] using he
        rw [hb] at HST
        generalize T[k] = s at ex he
        generalize T[j] = q at ey he
        clear hb
        go_wp2
        go_quiet (fail)
        go_wp2
        go_roundw
        case rel => exact ⟨k + 1, k, by omega, hlt, rfl, by go_num, HST, hid (BX.out.keep (bdrewN (Below.refl _ _)))⟩
        case measure => simp [intOf]; omega
      · have hb : ltB T[k] T[j] = false := by simpa [ltB] using he
        rw [hb] at HST
        generalize T[k] = s at ex he
        generalize T[j] = q at ey he
        clear hb
        go_wp2
        go_quiet (fail)
        go_wp2
        go_roundw
        case rel => exact ⟨k + 1, j, by omega, hj, rfl, by go_num, HST, hid (BX.out.keep (bdrewN (Below.refl _ _)))⟩
        case measure => simp [intOf]; omega
    · obtain rfl : k = T.length := by omega
      have HV := hid (bestT_of hj (Nat.le_refl _) HB.out)
      generalize T[j] = q at ey HV
      go_wp2
      go_quiet (fail)
      go_wp2
      go_ret2
      exact ⟨by rw [HB.out, HV.out]; rfl, bdrewN BX.out.low⟩
end Go.Proofs.Ytpkcnojcklmhmaa
