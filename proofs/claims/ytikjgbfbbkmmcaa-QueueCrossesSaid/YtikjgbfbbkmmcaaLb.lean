/- Walks of Name of package lethal and of its reference: contracts. -/
import Derived.Test.YtikjgbfbbkmmcaaG01
namespace Go.Proofs.Ytikjgbfbbkmmcaa.Lt
open Go.RowKit

def smallB (c : UInt8) : Bool := 97 ≤ c.toNat && c.toNat ≤ 122
def digitB (c : UInt8) : Bool := 48 ≤ c.toNat && c.toNat ≤ 57
def wordB (c : UInt8) : Bool := smallB c || digitB c || c.toNat == 95
def nameB (l : List UInt8) : Bool := decide (1 ≤ l.length) && decide (l.length ≤ 16) && smallB (l.headD 0) && l.all wordB

set_option maxHeartbeats 400000 in
theorem small_any (c : UInt8) (w : World) :
    Calls Try.prog 88 #[.int .u8 c.toNat] w fun e w' => e = .returned (.bool (smallB c)) ∧ w = w' := by
  by_cases h : 97 ≤ c.toNat
  · have hd : decide (97 ≤ (c.toNat : Int)) = true := by simp; omega
    go_enter Try.func88, Try.ntmps88
    go_wp2
    go_ret
    exact ⟨by unfold smallB; simp [h]; omega, rfl⟩
  · have hd : decide (97 ≤ (c.toNat : Int)) = false := by simp; omega
    go_enter Try.func88, Try.ntmps88
    go_wp2
    go_ret
    exact ⟨by unfold smallB; simp [h], rfl⟩

set_option maxHeartbeats 400000 in
theorem digit_any (c : UInt8) (w : World) :
    Calls Try.prog 89 #[.int .u8 c.toNat] w fun e w' => e = .returned (.bool (digitB c)) ∧ w = w' := by
  by_cases h : 48 ≤ c.toNat
  · have hd : decide (48 ≤ (c.toNat : Int)) = true := by simp; omega
    go_enter Try.func89, Try.ntmps89
    go_wp2
    go_ret
    exact ⟨by unfold digitB; simp [h]; omega, rfl⟩
  · have hd : decide (48 ≤ (c.toNat : Int)) = false := by simp; omega
    go_enter Try.func89, Try.ntmps89
    go_wp2
    go_ret
    exact ⟨by unfold digitB; simp [h], rfl⟩

theorem nameB_iff (l : List UInt8) : nameB l = true ↔ 1 ≤ l.length ∧ l.length ≤ 16 ∧ smallB (l.headD 0) = true ∧ l.all wordB = true := by
  unfold nameB; simp [Bool.and_eq_true, and_assoc]
theorem nameB_long (l : List UInt8) (h : 16 < l.length) : nameB l = false := by
  unfold nameB; simp; omega
theorem nameB_head (l : List UInt8) (h : smallB (l.headD 0) = false) : nameB l = false := by
  unfold nameB; rw [h]; simp
theorem nameB_at (l : List UInt8) (k : Nat) (hk : k < l.length) (h : wordB l[k] = false) : nameB l = false := by
  rw [Bool.eq_false_iff]; intro hn
  have := ((nameB_iff l).1 hn).2.2.2
  rw [List.all_eq_true] at this
  have := this l[k] (List.getElem_mem hk)
  rw [h] at this; cases this
theorem all_take_succ (l : List UInt8) (k : Nat) (hk : k < l.length) (h : (l.take k).all wordB = true) (h' : wordB l[k] = true) : (l.take (k+1)).all wordB = true := by
  rw [List.take_succ_eq_append_getElem hk, List.all_append, h]; simp [h']
theorem toList_ne (s : ByteArray) (h : s.size ≠ 0) : s.toList.isEmpty = false := by
  rw [ByteArray.toList_eq]; cases h' : s.data.toList with
  | nil => exact absurd (by simpa using congrArg List.length h') h
  | cons a l => rfl
theorem head_eq (s : ByteArray) (h : 0 < s.size) : s.data.toList.headD 0 = s[0] := by
  have : 0 < s.data.toList.length := h
  cases h' : s.data.toList with
  | nil => rw [h'] at this; simp at this
  | cons a l =>
    show a = s.data[0]
    rw [← Array.getElem_toList]; simp [h']
theorem getElem_eq (s : ByteArray) (k : Nat) (h : k < s.size) : s.data.toList[k]'(by exact h) = s[k] := by
  rfl

set_option maxHeartbeats 400000 in
theorem lname_any (s : ByteArray) (w : World) (hs : s.size ≤ maxLen) :
    Calls Try.prog 73 #[.string s] w fun e w' => e = .returned (.bool (nameB s.data.toList)) ∧ w = w' := by
  unfold maxLen at hs
  have hl : s.data.toList.length = s.size := rfl
  by_cases h1 : 16 < s.size
  · have hd : decide (16 < (s.size : Int)) = true := by simp; omega
    have hr := nameB_long s.data.toList (by omega)
    go_enter Try.func73, Try.ntmps73
    go_wp2
    go_ret
    exact ⟨ret_bool hr.symm, rfl⟩
  · have hd : decide (16 < (s.size : Int)) = false := by simp; omega
    by_cases h2 : s.size = 0
    · have hr : nameB s.data.toList = false := by unfold nameB; simp [hl, h2]
      have h3 : s.toList.isEmpty = true := by rw [ByteArray.toList_eq]; simpa using List.eq_nil_of_length_eq_zero (hl.trans h2)
      have h3' : s.toList = [] := by simpa using h3
      clear hl h2
      go_enter Try.func73, Try.ntmps73
      go_wp2
      go_ret
      exact ⟨ret_bool hr.symm, rfl⟩
    · have h3 := toList_ne s h2
      have h3' : ¬ s.toList = [] := by simpa using h3
      have h4 : 0 < s.size := by omega
      have hh := hid (head_eq s h4)
      have hL := hid hl; clear hl
      have hge := hid (getElem_eq s)
      by_cases h5 : smallB s[0] = true
      · go_enter Try.func73, Try.ntmps73
        go_wp2_with (go_at_call 88; refine (small_any _ _).mono ?_; rintro e w' ⟨rfl, rfl⟩)
        go_loop [19] (fun i => ∃ k : Nat, k ≤ s.size ∧ i = .int .i64 k ∧ (s.data.toList.take k).all wordB = true) (fun i => s.size - (intOf i).toNat)
        case atStart => exact ⟨0, Nat.zero_le _, rfl, rfl⟩
        case round =>
          obtain ⟨k, hk, rfl, hal⟩ := hrel
          have Hal := hid hal; clear hal
          by_cases hlt : k < s.size
          · by_cases ha : smallB s[k] = true
            · have hn : Hid ((s.data.toList.take (k+1)).all wordB = true) := all_take_succ _ k hlt Hal.out (by show wordB s[k] = true; unfold wordB; rw [ha]; rfl)
              go_wp2_with (go_at_call 88; refine (small_any _ _).mono ?_; rintro e w' ⟨rfl, rfl⟩)
              go_round
              case rel => exact ⟨k + 1, by omega, by go_num, hn.out⟩
              case measure => simp [intOf]; omega
            · have ha' : smallB s[k] = false := by simpa using ha
              clear ha
              by_cases hb : digitB s[k] = true
              · have hn : Hid ((s.data.toList.take (k+1)).all wordB = true) := all_take_succ _ k hlt Hal.out (by show wordB s[k] = true; unfold wordB; rw [hb]; simp)
                go_wp2_with (first | (go_at_call 88; refine (small_any _ _).mono ?_; rintro e w' ⟨rfl, rfl⟩) | (go_at_call 89; refine (digit_any _ _).mono ?_; rintro e w' ⟨rfl, rfl⟩))
                go_round
                case rel => exact ⟨k + 1, by omega, by go_num, hn.out⟩
                case measure => simp [intOf]; omega
              · have hb' : digitB s[k] = false := by simpa using hb
                clear hb
                by_cases hc : s[k].toNat = 95
                · have hn : Hid ((s.data.toList.take (k+1)).all wordB = true) := all_take_succ _ k hlt Hal.out (by show wordB s[k] = true; unfold wordB; rw [hc]; simp)
                  have hc' : ((s[k].toNat : Int) != 95) = false := by rw [hc]; rfl
                  clear hc
                  go_wp2_with (first | (go_at_call 88; refine (small_any _ _).mono ?_; rintro e w' ⟨rfl, rfl⟩) | (go_at_call 89; refine (digit_any _ _).mono ?_; rintro e w' ⟨rfl, rfl⟩))
                  go_round
                  case rel => exact ⟨k + 1, by omega, by go_num, hn.out⟩
                  case measure => simp [intOf]; omega
                · have hn : nameB s.data.toList = false := nameB_at _ k hlt (by show wordB s[k] = false; unfold wordB; rw [ha', hb']; simpa using hc)
                  have hc' : ((s[k].toNat : Int) != 95) = true := by simp; omega
                  have Hn := hid hn; clear hn hc
                  go_wp2_with (first | (go_at_call 88; refine (small_any _ _).mono ?_; rintro e w' ⟨rfl, rfl⟩) | (go_at_call 89; refine (digit_any _ _).mono ?_; rintro e w' ⟨rfl, rfl⟩))
                  go_ret
                  exact ⟨ret_bool Hn.out.symm, rfl⟩
          · have hr : nameB s.data.toList = true := by
              rw [nameB_iff]
              refine ⟨by rw [hL.out]; omega, by rw [hL.out]; omega, by rw [hh.out]; exact h5, ?_⟩
              have := Hal.out
              rwa [List.take_of_length_le (by rw [hL.out]; omega)] at this
            have Hr := hid hr; clear hr
            go_wp2
            go_ret
            exact ⟨ret_bool Hr.out.symm, rfl⟩
      · have h5' : smallB s[0] = false := by simpa using h5
        have hr := nameB_head s.data.toList (by rw [hh.out]; exact h5')
        have Hr := hid hr; clear hr h5
        go_enter Try.func73, Try.ntmps73
        go_wp2_with (go_at_call 88; refine (small_any _ _).mono ?_; rintro e w' ⟨rfl, rfl⟩)
        go_ret
        exact ⟨ret_bool Hr.out.symm, rfl⟩
end Go.Proofs.Ytikjgbfbbkmmcaa.Lt
