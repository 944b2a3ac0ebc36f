/- Walk of the reference's root: contract. -/
import Derived.Test.YtfngmpkceceomaaWc
import Derived.Test.YtfngmpkceceomaaPn
import Derived.Test.YtfngmpkceceomaaBe
namespace Go.Proofs.Ytfngmpkceceomaa
open Go.RowKit Go.Lib

theorem pow_room : (1000000000000000000 : Nat) ^ 60 < 1000000 ^ 1000 := by decide +kernel
theorem ten_room : (10 : Nat) ^ 960 < 1000000 ^ 1000 := by decide +kernel
theorem powOk_m {m z : Nat} (h1 : 1 ≤ m) (h2 : m ≤ 1000000000000000000) (hz : z ≤ 60) : PowOk m z :=
  PowOk.of h1 (Nat.lt_of_le_of_lt (Nat.le_trans (Nat.pow_le_pow_left h2 z) (Nat.pow_le_pow_right (by omega) hz)) pow_room)
theorem powOk_ten {e : Nat} (he : e ≤ 960) : PowOk 10 e :=
  PowOk.of (by omega) (Nat.lt_of_le_of_lt (Nat.pow_le_pow_right (by omega) he) ten_room)
theorem powOk_lt {x n : Nat} (h : PowOk x n) : x ^ n < 1000000 ^ 1000 := h.at' (Nat.le_refl _)
theorem cmpI_le {x y : Nat} (h : x ≤ y) : decide (cmpI x y ≤ 0) = true := by
  unfold cmpI
  split
  · decide
  · rw [if_neg (by omega)]; decide
theorem cmpI_gt {x y : Nat} (h : y < x) : decide (cmpI x y ≤ 0) = false := by
  unfold cmpI
  rw [if_neg (by omega), if_pos h]; decide
theorem cmpI_zero {x y : Nat} (h : x = y) : (cmpI x y == 0) = true := by subst h; rw [cmpI_same]; rfl
theorem cmpI_nz {x y : Nat} (h : x ≠ y) : (cmpI x y == 0) = false := by
  unfold cmpI
  split
  · rfl
  · rw [if_pos (by omega)]; rfl

/-- Where the reference's root looks. -/
structure Rr (e z lo hi : Nat) : Prop where
  pos : 1 ≤ lo
  top : hi ≤ 100000000000000001
  lt : lo < hi
  low : lo ^ z ≤ 10 ^ e
  high : 10 ^ e < hi ^ z
theorem Rr.start {e z : Nat} (hz : 1 ≤ z) (he : e ≤ 16 * z) : Rr e z (tenN (e / z)) (10 * tenN (e / z) + 1) := by
  have hq : e / z ≤ 16 := Nat.div_le_of_le_mul (by rw [Nat.mul_comm]; exact he)
  have h1 := tenN_le hq
  have h2 : tenN 16 = 10000000000000000 := rfl
  have h3 := tenN_pos (e / z)
  refine ⟨h3, by omega, by omega, Pm.low_root e z, ?_⟩
  exact Nat.lt_of_lt_of_le (Pm.high_root e z hz) (Nat.pow_le_pow_left (Nat.le_succ _) z)
theorem Rr.done {e z lo hi : Nat} (h : Rr e z lo hi) (hz : 1 ≤ z) (h1 : hi = lo + 1) : Pm.rootN e z = lo := Pm.rootN_eq hz ⟨h.low, by rw [← h1]; exact h.high⟩

theorem mul10 (e z : Nat) (k : Nat) : tenN k * 10 = tenN (k + 1) := (tenN_succ k).symm

set_option maxHeartbeats 4000000 in
theorem rroot_any (e z : Nat) (w : World) (hz : 1 ≤ z) (hz2 : z ≤ 60) (he : e ≤ 16 * z) :
    Calls Try.prog 61 #[.int .i64 e, .int .i64 z] w fun r w' => r = .returned (.tuple #[.int .i64 (Pm.rootN e z : Nat), .bool (decide (e % z = 0))]) ∧ Below w.heap.size w w' := by
  have hq : e / z ≤ 16 := Nat.div_le_of_le_mul (by rw [Nat.mul_comm]; exact he)
  have HQ : Hid ((e : Int) / z = ((e / z : Nat) : Int)) := by unfold Hid; omega
  have hq0 : (0 : Int) ≤ (e : Int) / z := Int.ediv_nonneg (by omega) (by omega)
  have HS := hid (Rr.start hz he)
  have HT := hid (powOk_ten (e := e) (by omega))
  go_enter Try.func61, Try.ntmps61
  go_wp2_with (first
    | (go_at_call 25; refine (of_any 10 _ (by decide)).mono ?_; rintro r w1 ⟨v1, rfl, h1, hb1⟩; have H1 := hid h1; clear h1)
    | (go_at_call 24; refine (wpower_any e e v1 10 _ (Nat.le_refl _) (by omega) H1.out.reads HT.out).mono ?_; rintro r w2 ⟨v2, rfl, h2, hb2⟩; have H2 := hid h2; clear h2))
  have HB := hid (hb1.trans (hb2.mono hb1.size))
  have HG := hid H2.out.reads
  clear hb1 hb2 H1 H2
  go_loop [7, 8] (fun sl si => ∃ k m : Nat, k ≤ e / z ∧ si = .int .i64 k ∧ sl = .int .i64 m ∧ Hid (m = tenN k)) (fun _ si => e / z - (intOf si).toNat)
  case atStart => exact ⟨0, 1, Nat.zero_le _, rfl, rfl, rfl⟩
  case round =>
    obtain ⟨k, m, hk, rfl, rfl, hm⟩ := hrel
    have hmb : m ≤ 10000000000000000 := by rw [hm.out]; exact tenN_le (show k ≤ 16 by omega)
    by_cases hlt : k < e / z
    · have hmb' : m ≤ 1000000000000000 := by rw [hm.out]; exact tenN_le (show k ≤ 15 by omega)
      have hlt' : (k : Int) < (e : Int) / z := by rw [HQ.out]; omega
      go_wp2
      go_round
      case rel => exact ⟨k + 1, 10 * m, by omega, by go_num, by go_num, by rw [hm.out]; exact (Nat.mul_comm _ _).trans (tenN_succ k).symm⟩
      case measure => simp [intOf]; omega
    · obtain rfl : k = e / z := by omega
      have hge : ¬ ((e / z : Nat) : Int) < (e : Int) / z := by rw [HQ.out]; omega
      have HR : Hid (Rr e z m (10 * m + 1)) := by rw [hm.out]; exact HS
      clear hm
      go_wp2
      go_loopw [7, 9, 10] (fun sl sh _ wr => ∃ lo hi : Nat, sl = .int .i64 lo ∧ sh = .int .i64 hi ∧ Hid (Rr e z lo hi) ∧ Hid (WhR wr v2 (10 ^ e)) ∧ Hid (Below w.heap.size w wr)) (fun sl sh _ _ => (intOf sh - intOf sl).toNat)
      case atStart => exact ⟨m, 10 * m + 1, rfl, by go_num, HR, HG, HB⟩
      case round =>
        obtain ⟨lo, hi, rfl, rfl, hR, hG, hB⟩ := hrel
        have r1 := hR.out.pos
        have r2 := hR.out.top
        have r3 := hR.out.lt
        by_cases hgt : 1 < hi - lo
        · obtain ⟨q, hq⟩ : ∃ q, q = lo + (hi - lo) / 2 := ⟨_, rfl⟩
          have q1 : lo < q := by omega
          have q2 : q < hi := by omega
          have HM : Hid ((lo : Int) + ((hi : Int) - lo) / 2 = (q : Int)) := by unfold Hid; omega
          have hgt' : (1 : Int) < (hi : Int) - lo := by omega
          have hok := powOk_m (m := q) (z := z) (by omega) (by omega) hz2
          have HOK := hid hok
          clear hok hq
          by_cases hle : q ^ z ≤ 10 ^ e
          · have hc := cmpI_le hle
            have hst : Hid (Rr e z q hi) := ⟨by omega, r2, q2, hle, hR.out.high⟩
            clear hle
            go_wp2_with (first
              | (go_at_call 25; rw [HM.out]; refine (of_any q _ (by omega)).mono ?_; rintro r w1 ⟨v1, rfl, h1, hb1⟩; have H1 := hid h1; clear h1)
              | (go_at_call 24; refine (wpower_any z z v1 q _ (Nat.le_refl _) (by omega) H1.out.reads HOK.out).mono ?_; rintro r w3 ⟨v3, rfl, h3, hb3⟩; have H3 := hid h3; clear h3)
              | (go_at_call 26; refine (cmp_any v3 v2 (q ^ z) (10 ^ e) _ H3.out.reads ((hG.out.keep hb1).keep hb3) (powOk_lt HOK.out) (powOk_lt HT.out)).mono ?_; rintro r w4 ⟨rfl, n4, rfl⟩))
            go_roundw
            case rel => exact ⟨q, hi, rfl, rfl, hst, (((hG.out.keep hb1).keep hb3).keep (bdrewN (Below.refl _ _))), bdrewN ((hB.out.trans (hb1.mono hB.out.size)).trans (hb3.mono (Nat.le_trans hB.out.size hb1.size)))⟩
            case measure => simp [intOf]; omega
          · have hc := cmpI_gt (Nat.lt_of_not_le hle)
            have hst : Hid (Rr e z lo q) := ⟨r1, by omega, q1, hR.out.low, Nat.lt_of_not_le hle⟩
            clear hle
            go_wp2_with (first
              | (go_at_call 25; rw [HM.out]; refine (of_any q _ (by omega)).mono ?_; rintro r w1 ⟨v1, rfl, h1, hb1⟩; have H1 := hid h1; clear h1)
              | (go_at_call 24; refine (wpower_any z z v1 q _ (Nat.le_refl _) (by omega) H1.out.reads HOK.out).mono ?_; rintro r w3 ⟨v3, rfl, h3, hb3⟩; have H3 := hid h3; clear h3)
              | (go_at_call 26; refine (cmp_any v3 v2 (q ^ z) (10 ^ e) _ H3.out.reads ((hG.out.keep hb1).keep hb3) (powOk_lt HOK.out) (powOk_lt HT.out)).mono ?_; rintro r w4 ⟨rfl, n4, rfl⟩))
            go_roundw
            case rel => exact ⟨lo, q, rfl, rfl, hst, (((hG.out.keep hb1).keep hb3).keep (bdrewN (Below.refl _ _))), bdrewN ((hB.out.trans (hb1.mono hB.out.size)).trans (hb3.mono (Nat.le_trans hB.out.size hb1.size)))⟩
            case measure => simp [intOf]; omega
        · have hroot := hid (hR.out.done hz (by omega))
          have hex := Pm.root_exact e z hz
          rw [hroot.out] at hex
          have hok := powOk_m (m := lo) (z := z) (by omega) (by omega) hz2
          have HOK := hid hok
          have hgt' : ¬ (1 : Int) < (hi : Int) - lo := by omega
          clear hok
          by_cases hdv : e % z = 0
          · have hc := cmpI_zero (hex.2 hdv)
            have hd := hid (decide_eq_true hdv)
            clear hex hdv
            go_wp2_with (first
              | (go_at_call 25; refine (of_any lo _ (by omega)).mono ?_; rintro r w1 ⟨v1, rfl, h1, hb1⟩; have H1 := hid h1; clear h1)
              | (go_at_call 24; refine (wpower_any z z v1 lo _ (Nat.le_refl _) (by omega) H1.out.reads HOK.out).mono ?_; rintro r w3 ⟨v3, rfl, h3, hb3⟩; have H3 := hid h3; clear h3)
              | (go_at_call 26; refine (cmp_any v3 v2 (lo ^ z) (10 ^ e) _ H3.out.reads ((hG.out.keep hb1).keep hb3) (powOk_lt HOK.out) (powOk_lt HT.out)).mono ?_; rintro r w4 ⟨rfl, n4, rfl⟩))
            go_ret2
            exact ⟨by rw [hroot.out, hd.out]; rfl, bdrewN ((hB.out.trans (hb1.mono hB.out.size)).trans (hb3.mono (Nat.le_trans hB.out.size hb1.size)))⟩
          · have hc := cmpI_nz (fun h => hdv (hex.1 h))
            have hd := hid (decide_eq_false hdv)
            clear hex hdv
            go_wp2_with (first
              | (go_at_call 25; refine (of_any lo _ (by omega)).mono ?_; rintro r w1 ⟨v1, rfl, h1, hb1⟩; have H1 := hid h1; clear h1)
              | (go_at_call 24; refine (wpower_any z z v1 lo _ (Nat.le_refl _) (by omega) H1.out.reads HOK.out).mono ?_; rintro r w3 ⟨v3, rfl, h3, hb3⟩; have H3 := hid h3; clear h3)
              | (go_at_call 26; refine (cmp_any v3 v2 (lo ^ z) (10 ^ e) _ H3.out.reads ((hG.out.keep hb1).keep hb3) (powOk_lt HOK.out) (powOk_lt HT.out)).mono ?_; rintro r w4 ⟨rfl, n4, rfl⟩))
            go_ret2
            exact ⟨by rw [hroot.out, hd.out]; rfl, bdrewN ((hB.out.trans (hb1.mono hB.out.size)).trans (hb3.mono (Nat.le_trans hB.out.size hb1.size)))⟩
end Go.Proofs.Ytfngmpkceceomaa
