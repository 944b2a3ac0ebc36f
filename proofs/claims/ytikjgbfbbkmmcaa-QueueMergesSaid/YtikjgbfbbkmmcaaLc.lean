/- Walks of Name of the reference, of within, Valid and Needs of both: contracts. -/
import Derived.Test.YtikjgbfbbkmmcaaLb
namespace Go.Proofs.Ytikjgbfbbkmmcaa.Lt
open Go.RowKit


theorem wordB_small {c : UInt8} (h1 : 97 ≤ c.toNat) (h2 : c.toNat ≤ 122) : wordB c = true := by
  unfold wordB smallB; simp [h1, h2]
theorem wordB_digit {c : UInt8} (h1 : 48 ≤ c.toNat) (h2 : c.toNat ≤ 57) : wordB c = true := by
  unfold wordB digitB; simp [h1, h2]
theorem wordB_line {c : UInt8} (h1 : c.toNat = 95) : wordB c = true := by
  unfold wordB; simp [h1]
theorem wordB_not {c : UInt8} (h1 : ¬ (97 ≤ c.toNat ∧ c.toNat ≤ 122)) (h2 : ¬ (48 ≤ c.toNat ∧ c.toNat ≤ 57)) (h3 : c.toNat ≠ 95) : wordB c = false := by
  unfold wordB smallB digitB
  simp [h3]; omega

set_option maxHeartbeats 1000000 in
theorem rname_any (s : ByteArray) (w : World) (hs : s.size ≤ maxLen) :
    Calls Try.prog 45 #[.string s] w fun e w' => e = .returned (.bool (nameB s.data.toList)) ∧ w = w' := by
  unfold maxLen at hs
  have hl : s.data.toList.length = s.size := rfl
  by_cases h0 : s.size < 1
  · have hr : nameB s.data.toList = false := by
      have : s.size = 0 := by omega
      unfold nameB; simp [hl, this]
    have Hr := hid hr; clear hr
    have hd : decide ((s.size : Int) < 1) = true := by simp; omega
    go_enter Try.func45, Try.ntmps45
    go_wp2
    go_ret
    exact ⟨ret_bool Hr.out.symm, rfl⟩
  have hd0 : decide ((s.size : Int) < 1) = false := by simp; omega
  by_cases h1 : 16 < s.size
  · have hd : decide (16 < (s.size : Int)) = true := by simp; omega
    have hr := nameB_long s.data.toList (by omega)
    have Hr := hid hr; clear hr
    go_enter Try.func45, Try.ntmps45
    go_wp2
    go_ret
    exact ⟨ret_bool Hr.out.symm, rfl⟩
  have hd : decide (16 < (s.size : Int)) = false := by simp; omega
  have h4 : 0 < s.size := by omega
  have hh := hid (head_eq s h4)
  have hL := hid hl; clear hl
  by_cases h5 : s[0].toNat < 97
  · have hr := nameB_head s.data.toList (by rw [hh.out]; unfold smallB; simp; omega)
    have Hr := hid hr; clear hr
    have hd5 : decide ((s[0].toNat : Int) < 97) = true := by simp; omega
    go_enter Try.func45, Try.ntmps45
    go_wp2
    go_ret
    exact ⟨ret_bool Hr.out.symm, rfl⟩
  have hd5 : decide ((s[0].toNat : Int) < 97) = false := by simp; omega
  by_cases h6 : 122 < s[0].toNat
  · have hr := nameB_head s.data.toList (by rw [hh.out]; unfold smallB; simp; omega)
    have Hr := hid hr; clear hr
    have hd6 : decide (122 < (s[0].toNat : Int)) = true := by simp; omega
    go_enter Try.func45, Try.ntmps45
    go_wp2
    go_ret
    exact ⟨ret_bool Hr.out.symm, rfl⟩
  have hd6 : decide (122 < (s[0].toNat : Int)) = false := by simp; omega
  have h7 : smallB s[0] = true := by unfold smallB; simp; omega
  have H7 := hid h7; clear h7
  go_enter Try.func45, Try.ntmps45
  go_wp2
  go_loop [3] (fun i => ∃ k : Nat, k ≤ s.size ∧ i = .int .i64 k ∧ (s.data.toList.take k).all wordB = true) (fun i => s.size - (intOf i).toNat)
  case atStart => exact ⟨0, Nat.zero_le _, rfl, rfl⟩
  case round =>
    obtain ⟨k, hk, rfl, hal⟩ := hrel
    have Hal := hid hal; clear hal
    by_cases hlt : k < s.size
    · by_cases ha : 97 ≤ s[k].toNat
      · have ha1 : decide (97 ≤ (s[k].toNat : Int)) = true := by simp; omega
        by_cases hb : s[k].toNat ≤ 122
        · have hb1 : decide ((s[k].toNat : Int) ≤ 122) = true := by simp; omega
          have hn : Hid ((s.data.toList.take (k+1)).all wordB = true) := all_take_succ _ k hlt Hal.out (wordB_small ha hb)
          go_wp2
          go_round
          case rel => exact ⟨k + 1, by omega, by go_num, hn.out⟩
          case measure => simp [intOf]; omega
        · have hb1 : decide ((s[k].toNat : Int) ≤ 122) = false := by simp; omega
          have hn : nameB s.data.toList = false := nameB_at _ k hlt (wordB_not (c := s[k]) (by omega) (by omega) (by omega))
          have Hn := hid hn; clear hn
          have hc1 : decide (48 ≤ (s[k].toNat : Int)) = true := by simp; omega
          have hd1 : decide ((s[k].toNat : Int) ≤ 57) = false := by simp; omega
          have he1 : ((s[k].toNat : Int) == 95) = false := by simp; omega
          go_wp2
          go_ret
          exact ⟨ret_bool Hn.out.symm, rfl⟩
      · have ha1 : decide (97 ≤ (s[k].toNat : Int)) = false := by simp; omega
        by_cases hc : 48 ≤ s[k].toNat
        · have hc1 : decide (48 ≤ (s[k].toNat : Int)) = true := by simp; omega
          by_cases hd : s[k].toNat ≤ 57
          · have hd1 : decide ((s[k].toNat : Int) ≤ 57) = true := by simp; omega
            have hn : Hid ((s.data.toList.take (k+1)).all wordB = true) := all_take_succ _ k hlt Hal.out (wordB_digit hc hd)
            go_wp2
            go_round
            case rel => exact ⟨k + 1, by omega, by go_num, hn.out⟩
            case measure => simp [intOf]; omega
          · have hd1 : decide ((s[k].toNat : Int) ≤ 57) = false := by simp; omega
            by_cases he : s[k].toNat = 95
            · have he1 : ((s[k].toNat : Int) == 95) = true := by simp; omega
              have hn : Hid ((s.data.toList.take (k+1)).all wordB = true) := all_take_succ _ k hlt Hal.out (wordB_line he)
              clear he
              go_wp2
              go_round
              case rel => exact ⟨k + 1, by omega, by go_num, hn.out⟩
              case measure => simp [intOf]; omega
            · have he1 : ((s[k].toNat : Int) == 95) = false := by simp; omega
              have hn : nameB s.data.toList = false := nameB_at _ k hlt (wordB_not (c := s[k]) (by omega) (by omega) (by omega))
              have Hn := hid hn; clear hn
              go_wp2
              go_ret
              exact ⟨ret_bool Hn.out.symm, rfl⟩
        · have hc1 : decide (48 ≤ (s[k].toNat : Int)) = false := by simp; omega
          have he1 : ((s[k].toNat : Int) == 95) = false := by simp; omega
          have hn : nameB s.data.toList = false := nameB_at _ k hlt (wordB_not (c := s[k]) (by omega) (by omega) (by omega))
          have Hn := hid hn; clear hn
          go_wp2
          go_ret
          exact ⟨ret_bool Hn.out.symm, rfl⟩
    · have hr : nameB s.data.toList = true := by
        rw [nameB_iff]
        refine ⟨by rw [hL.out]; omega, by rw [hL.out]; omega, by rw [hh.out]; exact H7.out, ?_⟩
        have := Hal.out
        rwa [List.take_of_length_le (by rw [hL.out]; omega)] at this
      have Hr := hid hr; clear hr
      go_wp2
      go_ret
      exact ⟨ret_bool Hr.out.symm, rfl⟩

def validB (l : List UInt8) (r z d g : Int) : Bool :=
  nameB l && (decide (-200 ≤ r) && decide (r ≤ 800)) && (decide (1 ≤ z) && decide (z ≤ 60)) && (decide (1 ≤ d) && decide (d ≤ 1000000)) && (decide (1 ≤ g) && decide (g ≤ 20))

end Go.Proofs.Ytikjgbfbbkmmcaa.Lt
