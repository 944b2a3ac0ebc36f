/- Texts of this seat, one behind the other. -/
import Derived.Test.YtihbjimnjhfpeaaRows
import Derived.Test.YtihbjimnjhfpeaaG01
import Derived.WalkKit
import Derived.WalkSpells
import Derived.WalkLawsBesides
import Derived.BigQuiet
/- Walks of heat's small tests of a can, and of the reference's: contracts. -/
namespace Go.Proofs.Ytihbjimnjhfpeaa
open Go.RowKit

set_option maxHeartbeats 400000 in
theorem within_any (a b c : Int) (w : World) :
    Calls Try.prog 54 #[.int .i64 a, .int .i64 b, .int .i64 c] w fun e w' => e = .returned (.bool (decide (b ≤ a) && decide (a ≤ c))) ∧ w = w' := by
  by_cases h : b ≤ a
  · have hd : decide (b ≤ a) = true := by simpa using h
    go_enter Try.func54, Try.ntmps54
    go_wp2
    go_ret
    exact ⟨by simp [h], rfl⟩
  · have hd : decide (b ≤ a) = false := by simpa using h
    go_enter Try.func54, Try.ntmps54
    go_wp2
    go_ret
    exact ⟨by simp, rfl⟩
set_option maxHeartbeats 400000 in
theorem rwithin_any (a b c : Int) (w : World) :
    Calls Try.prog 21 #[.int .i64 a, .int .i64 b, .int .i64 c] w fun e w' => e = .returned (.bool (decide (b ≤ a) && decide (a ≤ c))) ∧ w = w' := by
  by_cases h : b ≤ a
  · have hd : decide (b ≤ a) = true := by simpa using h
    go_enter Try.func21, Try.ntmps21
    go_wp2
    go_ret
    exact ⟨by simp [h], rfl⟩
  · have hd : decide (b ≤ a) = false := by simpa using h
    go_enter Try.func21, Try.ntmps21
    go_wp2
    go_ret
    exact ⟨by simp, rfl⟩
set_option maxHeartbeats 400000 in
theorem warm_any (a : Int) (w : World) :
    Calls Try.prog 13 #[.int .i64 a] w fun e w' => e = .returned (.bool (decide (-50000 ≤ a) && decide (a ≤ 200000))) ∧ w = w' := by
  go_enter Try.func13, Try.ntmps13
  go_wp2_with (go_at_call 21; refine (rwithin_any _ _ _ _).mono ?_; rintro e w' ⟨rfl, rfl⟩)
  go_ret
  exact ⟨rfl, rfl⟩
theorem con_no1 {a b : Int} (h : (decide (0 ≤ a) && decide (a ≤ 500)) = false) : conB a b = false := by unfold conB; rw [h]; rfl
theorem con_no2 {a b : Int} (h : (decide (0 ≤ b) && decide (b ≤ 500)) = false) : conB a b = false := by unfold conB; rw [h]; simp
theorem con_yes {a b : Int} (h : (decide (0 ≤ a) && decide (a ≤ 500)) = true) (g : (decide (0 ≤ b) && decide (b ≤ 500)) = true) : conB a b = (decide (1 ≤ a + b) && decide (a + b ≤ 500)) := by unfold conB; rw [h, g]; rfl
set_option maxHeartbeats 1000000 in
theorem conducts_any (a b : Int) (w : World) :
    Calls Try.prog 55 #[.int .i64 a, .int .i64 b] w fun e w' => e = .returned (.bool (conB a b)) ∧ w = w' := by
  cases h1 : (decide (0 ≤ a) && decide (a ≤ 500))
  · have hc := hid (con_no1 (b := b) h1)
    go_enter Try.func55, Try.ntmps55
    go_wp2_with (go_at_call 54; refine (within_any _ _ _ _).mono ?_; rintro e w' ⟨rfl, rfl⟩)
    go_ret
    exact ⟨ret_bool hc.out.symm, rfl⟩
  cases h2 : (decide (0 ≤ b) && decide (b ≤ 500))
  · have hc := hid (con_no2 (a := a) h2)
    go_enter Try.func55, Try.ntmps55
    go_wp2_with (go_at_call 54; refine (within_any _ _ _ _).mono ?_; rintro e w' ⟨rfl, rfl⟩)
    go_ret
    exact ⟨ret_bool hc.out.symm, rfl⟩
  have hc := hid (con_yes h1 h2)
  have ha : 0 ≤ a ∧ a ≤ 500 := by simpa using h1
  have hb : 0 ≤ b ∧ b ≤ 500 := by simpa using h2
  obtain ⟨a1, a2⟩ := ha
  obtain ⟨b1, b2⟩ := hb
  go_enter Try.func55, Try.ntmps55
  go_wp2_with (go_at_call 54; refine (within_any _ _ _ _).mono ?_; rintro e w' ⟨rfl, rfl⟩)
  go_ret
  exact ⟨ret_bool hc.out.symm, rfl⟩

theorem brk_zero (a b : Int) : brkB 0 a b = (decide (a = 0) && decide (b = 0)) := rfl
theorem brk_some {k a b : Int} (h : k ≠ 0) : brkB k a b = ((decide (1 ≤ k) && decide (k ≤ 200000)) && conB a b) := by unfold brkB; rw [if_neg h]
theorem beq_dec (a : Int) : (a == 0) = decide (a = 0) := by by_cases h : a = 0 <;> simp [h]
set_option maxHeartbeats 1000000 in
theorem vbreak_any (r l a b k a2 b2 : Int) (w : World) : Calls Try.prog 56 #[.agg #[.int .i64 r, .int .i64 l, .int .i64 a, .int .i64 b, .int .i64 k, .int .i64 a2, .int .i64 b2]] w fun e w' => e = .returned (.bool (brkB k a2 b2)) ∧ Below w.heap.size w w' := by
  by_cases hk : k = 0
  · subst hk
    have hc := hid (brk_zero a2 b2)
    cases h1 : (a2 == 0)
    · rw [beq_dec] at h1
      have hc' := hid (show brkB 0 a2 b2 = false by rw [brk_zero, h1]; rfl)
      have h1' : (a2 == 0) = false := by rw [beq_dec]; exact h1
      go_enter Try.func56, Try.ntmps56
      go_wp2
      go_ret
      exact ⟨ret_bool hc'.out.symm, (Below.refl _ _).alloc (Nat.le_refl _) _⟩
    · have h2 := hid (show brkB 0 a2 b2 = (b2 == 0) by rw [brk_zero, ← beq_dec, ← beq_dec, h1]; rfl)
      go_enter Try.func56, Try.ntmps56
      go_wp2
      go_ret
      exact ⟨ret_bool h2.out.symm, (Below.refl _ _).alloc (Nat.le_refl _) _⟩
  · have hc := hid (brk_some (a := a2) (b := b2) hk)
    have hk' : (k == 0) = false := by simpa using hk
    cases h1 : (decide (1 ≤ k) && decide (k ≤ 200000))
    · go_enter Try.func56, Try.ntmps56
      go_wp2_with (first | (go_at_call 54; refine (within_any _ _ _ _).mono ?_; rintro e w' ⟨rfl, rfl⟩) | (go_at_call 55; refine (conducts_any _ _ _).mono ?_; rintro e w' ⟨rfl, rfl⟩))
      go_ret
      exact ⟨ret_bool (by rw [hc.out, h1]; rfl), (Below.refl _ _).alloc (Nat.le_refl _) _⟩
    · go_enter Try.func56, Try.ntmps56
      go_wp2_with (first | (go_at_call 54; refine (within_any _ _ _ _).mono ?_; rintro e w' ⟨rfl, rfl⟩) | (go_at_call 55; refine (conducts_any _ _ _).mono ?_; rintro e w' ⟨rfl, rfl⟩))
      go_ret
      exact ⟨ret_bool (by rw [hc.out, h1]; rfl), (Below.refl _ _).alloc (Nat.le_refl _) _⟩

theorem can_eq (r l a b k a2 b2 : Int) : canB r l a b k a2 b2 = ((decide (1 ≤ r) && decide (r ≤ 6)) && ((decide (1 ≤ l) && decide (l ≤ 8)) && (conB a b && brkB k a2 b2))) := rfl
theorem four (a b c _d : Bool) : a = false ∨ (a = true ∧ b = false) ∨ (a = true ∧ b = true ∧ c = false) ∨ (a = true ∧ b = true ∧ c = true) := by
  cases a <;> cases b <;> cases c <;> simp
set_option maxHeartbeats 2000000 in
theorem vcan_any (r l a b k a2 b2 : Int) (w : World) : Calls Try.prog 38 #[.agg #[.int .i64 r, .int .i64 l, .int .i64 a, .int .i64 b, .int .i64 k, .int .i64 a2, .int .i64 b2]] w fun e w' => e = .returned (.bool (canB r l a b k a2 b2)) ∧ Below w.heap.size w w' := by
  have hc := hid (can_eq r l a b k a2 b2)
  rcases four (decide (1 ≤ r) && decide (r ≤ 6)) (decide (1 ≤ l) && decide (l ≤ 8)) (conB a b) true with h1 | ⟨h1, h2⟩ | ⟨h1, h2, h3⟩ | ⟨h1, h2, h3⟩
  all_goals
    go_enter Try.func38, Try.ntmps38
    go_wp2_with (first | (go_at_call 54; refine (within_any _ _ _ _).mono ?_; rintro e w' ⟨rfl, rfl⟩) | (go_at_call 55; refine (conducts_any _ _ _).mono ?_; rintro e w' ⟨rfl, rfl⟩) | (go_at_call 56; refine (vbreak_any _ _ _ _ _ _ _ _).mono ?_; rintro e w' ⟨rfl, hb⟩))
    go_ret
    exact ⟨ret_bool (by rw [hc.out]; simp only [Bool.false_and, Bool.true_and, *]), by first | exact (Below.refl _ _).alloc (Nat.le_refl _) _ | exact balloc hb⟩
end Go.Proofs.Ytihbjimnjhfpeaa

/- Walks of small functions of package lethal and of its reference: contracts. -/
namespace Go.Proofs.Ytihbjimnjhfpeaa.Lt
open Go.RowKit

theorem hid {p : Prop} (h : p) : Hid p := h
theorem ret_bool {a b : Bool} (h : a = b) : Ending.returned (.bool a) = .returned (.bool b) := by rw [h]
theorem ret_int {k : IntKind} {a b : Int} (h : a = b) : Ending.returned (.int k a) = .returned (.int k b) := by rw [h]

set_option maxHeartbeats 400000 in
theorem within_any (a b c : Int) (w : World) :
    Calls Try.prog 53 #[.int .i64 a, .int .i64 b, .int .i64 c] w fun e w' => e = .returned (.bool (decide (b ≤ a) && decide (a ≤ c))) ∧ w = w' := by
  by_cases h : b ≤ a
  · have hd : decide (b ≤ a) = true := by simpa using h
    go_enter Try.func53, Try.ntmps53
    go_wp2
    go_ret
    exact ⟨by simp [h], rfl⟩
  · have hd : decide (b ≤ a) = false := by simpa using h
    go_enter Try.func53, Try.ntmps53
    go_wp2
    go_ret
    exact ⟨by simp, rfl⟩
end Go.Proofs.Ytihbjimnjhfpeaa.Lt

/- Walks of Name of package lethal and of its reference: contracts. -/
namespace Go.Proofs.Ytihbjimnjhfpeaa.Lt
open Go.RowKit

def smallB (c : UInt8) : Bool := 97 ≤ c.toNat && c.toNat ≤ 122
def digitB (c : UInt8) : Bool := 48 ≤ c.toNat && c.toNat ≤ 57
def wordB (c : UInt8) : Bool := smallB c || digitB c || c.toNat == 95
def nameB (l : List UInt8) : Bool := decide (1 ≤ l.length) && decide (l.length ≤ 16) && smallB (l.headD 0) && l.all wordB

set_option maxHeartbeats 400000 in
theorem small_any (c : UInt8) (w : World) :
    Calls Try.prog 35 #[.int .u8 c.toNat] w fun e w' => e = .returned (.bool (smallB c)) ∧ w = w' := by
  by_cases h : 97 ≤ c.toNat
  · have hd : decide (97 ≤ (c.toNat : Int)) = true := by simp; omega
    go_enter Try.func35, Try.ntmps35
    go_wp2
    go_ret
    exact ⟨by unfold smallB; simp [h]; omega, rfl⟩
  · have hd : decide (97 ≤ (c.toNat : Int)) = false := by simp; omega
    go_enter Try.func35, Try.ntmps35
    go_wp2
    go_ret
    exact ⟨by unfold smallB; simp [h], rfl⟩

set_option maxHeartbeats 400000 in
theorem digit_any (c : UInt8) (w : World) :
    Calls Try.prog 36 #[.int .u8 c.toNat] w fun e w' => e = .returned (.bool (digitB c)) ∧ w = w' := by
  by_cases h : 48 ≤ c.toNat
  · have hd : decide (48 ≤ (c.toNat : Int)) = true := by simp; omega
    go_enter Try.func36, Try.ntmps36
    go_wp2
    go_ret
    exact ⟨by unfold digitB; simp [h]; omega, rfl⟩
  · have hd : decide (48 ≤ (c.toNat : Int)) = false := by simp; omega
    go_enter Try.func36, Try.ntmps36
    go_wp2
    go_ret
    exact ⟨by unfold digitB; simp [h], rfl⟩

theorem nameB_iff (l : List UInt8) : nameB l = true ↔ 1 ≤ l.length ∧ l.length ≤ 16 ∧ smallB (l.headD 0) = true ∧ l.all wordB = true := by
  unfold nameB; simp [Bool.and_eq_true, and_assoc]
theorem nameB_long (l : List UInt8) (h : 16 < l.length) : nameB l = false := by
  unfold nameB; simp; omega
theorem nameB_head (l : List UInt8) (h : smallB (l.headD 0) = false) : nameB l = false := by
  unfold nameB; rw [h]; simp
theorem nameB_at (l : List UInt8) (k : Nat) (hk : k < l.length) (h : wordB l[k] = false) : nameB l = false := by
  rw [Bool.eq_false_iff]; intro hn
  have := ((nameB_iff l).1 hn).2.2.2
  rw [List.all_eq_true] at this
  have := this l[k] (List.getElem_mem hk)
  rw [h] at this; cases this
theorem all_take_succ (l : List UInt8) (k : Nat) (hk : k < l.length) (h : (l.take k).all wordB = true) (h' : wordB l[k] = true) : (l.take (k+1)).all wordB = true := by
  rw [List.take_succ_eq_append_getElem hk, List.all_append, h]; simp [h']
theorem toList_ne (s : ByteArray) (h : s.size ≠ 0) : s.toList.isEmpty = false := by
  rw [ByteArray.toList_eq]; cases h' : s.data.toList with
  | nil => exact absurd (by simpa using congrArg List.length h') h
  | cons a l => rfl
theorem head_eq (s : ByteArray) (h : 0 < s.size) : s.data.toList.headD 0 = s[0] := by
  have : 0 < s.data.toList.length := h
  cases h' : s.data.toList with
  | nil => rw [h'] at this; simp at this
  | cons a l =>
    show a = s.data[0]
    rw [← Array.getElem_toList]; simp [h']
theorem getElem_eq (s : ByteArray) (k : Nat) (h : k < s.size) : s.data.toList[k]'(by exact h) = s[k] := by
  rfl

set_option maxHeartbeats 400000 in
theorem lname_any (s : ByteArray) (w : World) (hs : s.size ≤ maxLen) :
    Calls Try.prog 22 #[.string s] w fun e w' => e = .returned (.bool (nameB s.data.toList)) ∧ w = w' := by
  unfold maxLen at hs
  have hl : s.data.toList.length = s.size := rfl
  by_cases h1 : 16 < s.size
  · have hd : decide (16 < (s.size : Int)) = true := by simp; omega
    have hr := nameB_long s.data.toList (by omega)
    go_enter Try.func22, Try.ntmps22
    go_wp2
    go_ret
    exact ⟨ret_bool hr.symm, rfl⟩
  · have hd : decide (16 < (s.size : Int)) = false := by simp; omega
    by_cases h2 : s.size = 0
    · have hr : nameB s.data.toList = false := by unfold nameB; simp [hl, h2]
      have h3 : s.toList.isEmpty = true := by rw [ByteArray.toList_eq]; simpa using List.eq_nil_of_length_eq_zero (hl.trans h2)
      have h3' : s.toList = [] := by simpa using h3
      clear hl h2
      go_enter Try.func22, Try.ntmps22
      go_wp2
      go_ret
      exact ⟨ret_bool hr.symm, rfl⟩
    · have h3 := toList_ne s h2
      have h3' : ¬ s.toList = [] := by simpa using h3
      have h4 : 0 < s.size := by omega
      have hh := hid (head_eq s h4)
      have hL := hid hl; clear hl
      have hge := hid (getElem_eq s)
      by_cases h5 : smallB s[0] = true
      · go_enter Try.func22, Try.ntmps22
        go_wp2_with (go_at_call 35; refine (small_any _ _).mono ?_; rintro e w' ⟨rfl, rfl⟩)
        go_loop [19] (fun i => ∃ k : Nat, k ≤ s.size ∧ i = .int .i64 k ∧ (s.data.toList.take k).all wordB = true) (fun i => s.size - (intOf i).toNat)
        case atStart => exact ⟨0, Nat.zero_le _, rfl, rfl⟩
        case round =>
          obtain ⟨k, hk, rfl, hal⟩ := hrel
          have Hal := hid hal; clear hal
          by_cases hlt : k < s.size
          · by_cases ha : smallB s[k] = true
            · have hn : Hid ((s.data.toList.take (k+1)).all wordB = true) := all_take_succ _ k hlt Hal.out (by show wordB s[k] = true; unfold wordB; rw [ha]; rfl)
              go_wp2_with (go_at_call 35; refine (small_any _ _).mono ?_; rintro e w' ⟨rfl, rfl⟩)
              go_round
              case rel => exact ⟨k + 1, by omega, by go_num, hn.out⟩
              case measure => simp [intOf]; omega
            · have ha' : smallB s[k] = false := by simpa using ha
              clear ha
              by_cases hb : digitB s[k] = true
              · have hn : Hid ((s.data.toList.take (k+1)).all wordB = true) := all_take_succ _ k hlt Hal.out (by show wordB s[k] = true; unfold wordB; rw [hb]; simp)
                go_wp2_with (first | (go_at_call 35; refine (small_any _ _).mono ?_; rintro e w' ⟨rfl, rfl⟩) | (go_at_call 36; refine (digit_any _ _).mono ?_; rintro e w' ⟨rfl, rfl⟩))
                go_round
                case rel => exact ⟨k + 1, by omega, by go_num, hn.out⟩
                case measure => simp [intOf]; omega
              · have hb' : digitB s[k] = false := by simpa using hb
                clear hb
                by_cases hc : s[k].toNat = 95
                · have hn : Hid ((s.data.toList.take (k+1)).all wordB = true) := all_take_succ _ k hlt Hal.out (by show wordB s[k] = true; unfold wordB; rw [hc]; simp)
                  have hc' : ((s[k].toNat : Int) != 95) = false := by rw [hc]; rfl
                  clear hc
                  go_wp2_with (first | (go_at_call 35; refine (small_any _ _).mono ?_; rintro e w' ⟨rfl, rfl⟩) | (go_at_call 36; refine (digit_any _ _).mono ?_; rintro e w' ⟨rfl, rfl⟩))
                  go_round
                  case rel => exact ⟨k + 1, by omega, by go_num, hn.out⟩
                  case measure => simp [intOf]; omega
                · have hn : nameB s.data.toList = false := nameB_at _ k hlt (by show wordB s[k] = false; unfold wordB; rw [ha', hb']; simpa using hc)
                  have hc' : ((s[k].toNat : Int) != 95) = true := by simp; omega
                  have Hn := hid hn; clear hn hc
                  go_wp2_with (first | (go_at_call 35; refine (small_any _ _).mono ?_; rintro e w' ⟨rfl, rfl⟩) | (go_at_call 36; refine (digit_any _ _).mono ?_; rintro e w' ⟨rfl, rfl⟩))
                  go_ret
                  exact ⟨ret_bool Hn.out.symm, rfl⟩
          · have hr : nameB s.data.toList = true := by
              rw [nameB_iff]
              refine ⟨by rw [hL.out]; omega, by rw [hL.out]; omega, by rw [hh.out]; exact h5, ?_⟩
              have := Hal.out
              rwa [List.take_of_length_le (by rw [hL.out]; omega)] at this
            have Hr := hid hr; clear hr
            go_wp2
            go_ret
            exact ⟨ret_bool Hr.out.symm, rfl⟩
      · have h5' : smallB s[0] = false := by simpa using h5
        have hr := nameB_head s.data.toList (by rw [hh.out]; exact h5')
        have Hr := hid hr; clear hr h5
        go_enter Try.func22, Try.ntmps22
        go_wp2_with (go_at_call 35; refine (small_any _ _).mono ?_; rintro e w' ⟨rfl, rfl⟩)
        go_ret
        exact ⟨ret_bool Hr.out.symm, rfl⟩
end Go.Proofs.Ytihbjimnjhfpeaa.Lt
