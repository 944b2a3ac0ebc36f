/- slices.Concat over lists of baskets: contract. -/
import Derived.Test.YtikjgbfbbkmmcaaQwh
namespace Go.Proofs.Ytikjgbfbbkmmcaa
open Go.RowKit Go.Shelf Go.Lib

/-- The first k lists, one behind the other. -/
def flE (ls : Nat → List Bsk) (k : Nat) : List Bsk := (List.range k).flatMap ls
theorem flE_succ (ls : Nat → List Bsk) (k : Nat) : flE ls (k + 1) = flE ls k ++ ls k := by
  unfold flE
  rw [List.range_succ, List.flatMap_append]
  simp
theorem flE_mono (ls : Nat → List Bsk) {L : Nat} : ∀ d k, k + d = L → (flE ls k).length ≤ (flE ls L).length
  | 0, k, h => by rw [show k = L by omega]; exact Nat.le_refl _
  | d + 1, k, h => by
    refine Nat.le_trans ?_ (flE_mono ls d (k + 1) (by omega))
    rw [flE_succ, List.length_append]
    omega
set_option maxRecDepth 20000 in
set_option maxHeartbeats 4000000 in
theorem concatB_any (g cap L : Nat) (ls : Nat → List Bsk) (A : Nat → Option Addr) (C : Nat → Nat) (w : World) (hL : L ≤ 1000) (hbig : (flE ls L).length ≤ 100000)
    (hrow : ∀ j, j < L → w.cell? ⟨g, j, none⟩ = some (.slice (A j) (ls j).length (C j)) ∧ RowE encB w (.slice (A j) (ls j).length (C j)) (ls j)) :
    Calls Try.prog 36 #[.slice (some ⟨g, 0, none⟩) L cap] w fun e w' => ∃ v, e = .returned v ∧ OwnE encB w' w.heap.size 55 v (flE ls L) ∧ Below w.heap.size w w' := by
  have HROW := hid (fun (w1 : World) (hb : Below w.heap.size w w1) j (hj : j < L) => keep_cell hb (hrow j hj).1)
  have HRE := hid (fun (w1 : World) (hb : Below w.heap.size w w1) j (hj : j < L) => (hrow j hj).2.keep hb)
  have HBIG := hid hbig
  have HFS := hid (flE_succ ls)
  have HMO := hid (fun k (h : k ≤ L) => flE_mono ls (L := L) (L - k) k (by omega))
  clear hrow
  go_enter Try.func36, Try.ntmps36
  go_wp2
  go_loop [3, 11] (fun s t => ∃ k : Nat, k ≤ L ∧ s = .int .i64 ((flE ls k).length : Int) ∧ t = .int .i64 (k : Int)) (fun _ t => L - (intOf t).toNat)
  case atStart => exact ⟨0, Nat.zero_le _, by simp [flE], rfl⟩
  case round =>
    obtain ⟨k, hk, rfl, rfl⟩ := hrel
    by_cases hlt : k < L
    · have hlt' : (k : Int) < L := by omega
      have e1 := HROW.out w (Below.refl _ _) k hlt
      have h1 := HMO.out (k + 1) hlt
      have hlen := congrArg List.length (HFS.out k)
      rw [List.length_append] at hlen
      obtain ⟨S, hS⟩ : ∃ S, S = (flE ls k).length := ⟨_, rfl⟩
      obtain ⟨M, hM⟩ : ∃ M, M = (ls k).length := ⟨_, rfl⟩
      rw [← hS, ← hM] at hlen
      rw [hlen] at h1
      rw [← hM] at e1
      rw [← hS]
      have HLEN := hid hlen
      have hn0 : ¬ ((S : Int) + (M : Int) < 0) := by omega
      clear hS hM hlen
      go_wp2
      go_round
      case rel => exact ⟨k + 1, hlt, by rw [HLEN.out]; go_num, by go_num⟩
      case measure => simp [intOf]; omega
    · obtain rfl : k = L := by omega
      clear hlt hk
      obtain ⟨S, hS⟩ : ∃ S, S = (flE ls k).length := ⟨_, rfl⟩
      rw [← hS] at hbig ⊢
      clear hS
      go_wp2_with fail
      refine (growB_any S w (by omega)).mono ?_
      rintro e w1 ⟨u, rfl, hu, hb⟩
      have HU := hid hu
      have HB := hid hb
      clear hu hb
      obtain ⟨u0, c0, rfl⟩ := HU.out.shape
      obtain ⟨i0, hi, hz0, hz1, hz2⟩ := infoBsk
      go_wp2_with fail
      go_loopw [6, 27] (fun u t wr => ∃ m : Nat, m ≤ k ∧ t = .int .i64 (m : Int) ∧ Hid (OwnE encB wr w.heap.size 55 u (flE ls m)) ∧ Hid (Below w.heap.size w wr)) (fun _ t _ => k - (intOf t).toNat)
      case atStart => exact ⟨0, Nat.zero_le _, rfl, HU, HB⟩
      case round =>
        obtain ⟨m, hm, rfl, hO, hB⟩ := hrel
        obtain ⟨ua, uc, rfl⟩ := hO.out.shape
        by_cases hlt : m < k
        · have hlt' : (m : Int) < k := by omega
          have e1 := HROW.out _ hB.out m hlt
          have HSRC := hid (HRE.out _ hB.out m hlt)
          have HSUC := hid (HFS.out m)
          have hle := HMO.out (m + 1) hlt
          rw [HSUC.out, List.length_append] at hle
          have HBD := hid (show (flE ls m).length + (ls m).length ≤ 1000000 by have := HBIG.out; omega)
          have HLT := hid hlt
          generalize flE ls m = F at *
          generalize ls m = D at *
          clear hle hlt
          go_wp2_with (at_builtin; (refine wpList_appE encB rfl (.tmp 31) (.tmp 32) 22 rfl w.heap.size 55 40 i0 _ Try.underlying22 hi hz0 hz1 hz2 rfl (by decide) (by decide) _ F rfl hO.out _ D rfl HSRC.out HBD.out hB.out.size ?_); intro v3 w6 hA1; have HB6 := hid (hA1.low hB.out hO.out); have HO6 := hid hA1.1; obtain ⟨a3, c3, rfl⟩ := HO6.out.shape; clear hA1)
          go_roundw
          case rel => exact ⟨m + 1, HLT.out, by go_num, by have h := HO6; rw [List.length_append] at h; rw [HSUC.out]; exact h, HB6⟩
          case measure => have := HLT.out; simp [intOf]; omega
        · obtain rfl : m = k := by omega
          go_wp2_with fail
          go_ret
          exact ⟨_, rfl, hO.out, hB.out⟩
end Go.Proofs.Ytikjgbfbbkmmcaa
