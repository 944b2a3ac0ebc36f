/- Texts of this seat, one behind the other. -/
import Derived.Test.YtedfajokiblfhaaGreatRows
import Derived.WalkKit
import Derived.WalkSpells
import Derived.WalkLawsBesides
import Derived.BigQuiet
import Derived.Deep.RegionHeld3
/- Walks of small functions of package lethal and of its reference: contracts. -/
namespace Go.Proofs.YtedfajokiblfhaaGreat.Lt
open Go.RowKit

theorem hid {p : Prop} (h : p) : Hid p := h
theorem ret_bool {a b : Bool} (h : a = b) : Ending.returned (.bool a) = .returned (.bool b) := by rw [h]
theorem ret_int {k : IntKind} {a b : Int} (h : a = b) : Ending.returned (.int k a) = .returned (.int k b) := by rw [h]

set_option maxHeartbeats 400000 in
theorem within_any (a b c : Int) (w : World) :
    Calls Tryz.prog 112 #[.int .i64 a, .int .i64 b, .int .i64 c] w fun e w' => e = .returned (.bool (decide (b ≤ a) && decide (a ≤ c))) ∧ w = w' := by
  by_cases h : b ≤ a
  · have hd : decide (b ≤ a) = true := by simpa using h
    go_enter Tryz.func112, Tryz.ntmps112
    go_wp2
    go_ret
    exact ⟨by simp [h], rfl⟩
  · have hd : decide (b ≤ a) = false := by simpa using h
    go_enter Tryz.func112, Tryz.ntmps112
    go_wp2
    go_ret
    exact ⟨by simp, rfl⟩
end Go.Proofs.YtedfajokiblfhaaGreat.Lt

/- Walks of Name of package lethal and of its reference: contracts. -/
namespace Go.Proofs.YtedfajokiblfhaaGreat.Lt
open Go.RowKit

def smallB (c : UInt8) : Bool := 97 ≤ c.toNat && c.toNat ≤ 122
def digitB (c : UInt8) : Bool := 48 ≤ c.toNat && c.toNat ≤ 57
def wordB (c : UInt8) : Bool := smallB c || digitB c || c.toNat == 95
def nameB (l : List UInt8) : Bool := decide (1 ≤ l.length) && decide (l.length ≤ 16) && smallB (l.headD 0) && l.all wordB

set_option maxHeartbeats 400000 in
theorem small_any (c : UInt8) (w : World) :
    Calls Tryz.prog 145 #[.int .u8 c.toNat] w fun e w' => e = .returned (.bool (smallB c)) ∧ w = w' := by
  by_cases h : 97 ≤ c.toNat
  · have hd : decide (97 ≤ (c.toNat : Int)) = true := by simp; omega
    go_enter Tryz.func145, Tryz.ntmps145
    go_wp2
    go_ret
    exact ⟨by unfold smallB; simp [h]; omega, rfl⟩
  · have hd : decide (97 ≤ (c.toNat : Int)) = false := by simp; omega
    go_enter Tryz.func145, Tryz.ntmps145
    go_wp2
    go_ret
    exact ⟨by unfold smallB; simp [h], rfl⟩

set_option maxHeartbeats 400000 in
theorem digit_any (c : UInt8) (w : World) :
    Calls Tryz.prog 146 #[.int .u8 c.toNat] w fun e w' => e = .returned (.bool (digitB c)) ∧ w = w' := by
  by_cases h : 48 ≤ c.toNat
  · have hd : decide (48 ≤ (c.toNat : Int)) = true := by simp; omega
    go_enter Tryz.func146, Tryz.ntmps146
    go_wp2
    go_ret
    exact ⟨by unfold digitB; simp [h]; omega, rfl⟩
  · have hd : decide (48 ≤ (c.toNat : Int)) = false := by simp; omega
    go_enter Tryz.func146, Tryz.ntmps146
    go_wp2
    go_ret
    exact ⟨by unfold digitB; simp [h], rfl⟩

theorem nameB_iff (l : List UInt8) : nameB l = true ↔ 1 ≤ l.length ∧ l.length ≤ 16 ∧ smallB (l.headD 0) = true ∧ l.all wordB = true := by
  unfold nameB; simp [Bool.and_eq_true, and_assoc]
theorem nameB_long (l : List UInt8) (h : 16 < l.length) : nameB l = false := by
  unfold nameB; simp; omega
theorem nameB_head (l : List UInt8) (h : smallB (l.headD 0) = false) : nameB l = false := by
  unfold nameB; rw [h]; simp
theorem nameB_at (l : List UInt8) (k : Nat) (hk : k < l.length) (h : wordB l[k] = false) : nameB l = false := by
  rw [Bool.eq_false_iff]; intro hn
  have := ((nameB_iff l).1 hn).2.2.2
  rw [List.all_eq_true] at this
  have := this l[k] (List.getElem_mem hk)
  rw [h] at this; cases this
theorem all_take_succ (l : List UInt8) (k : Nat) (hk : k < l.length) (h : (l.take k).all wordB = true) (h' : wordB l[k] = true) : (l.take (k+1)).all wordB = true := by
  rw [List.take_succ_eq_append_getElem hk, List.all_append, h]; simp [h']
theorem toList_ne (s : ByteArray) (h : s.size ≠ 0) : s.toList.isEmpty = false := by
  rw [ByteArray.toList_eq]; cases h' : s.data.toList with
  | nil => exact absurd (by simpa using congrArg List.length h') h
  | cons a l => rfl
theorem head_eq (s : ByteArray) (h : 0 < s.size) : s.data.toList.headD 0 = s[0] := by
  have : 0 < s.data.toList.length := h
  cases h' : s.data.toList with
  | nil => rw [h'] at this; simp at this
  | cons a l =>
    show a = s.data[0]
    rw [← Array.getElem_toList]; simp [h']
theorem getElem_eq (s : ByteArray) (k : Nat) (h : k < s.size) : s.data.toList[k]'(by exact h) = s[k] := by
  rfl

set_option maxHeartbeats 400000 in
theorem lname_any (s : ByteArray) (w : World) (hs : s.size ≤ maxLen) :
    Calls Tryz.prog 120 #[.string s] w fun e w' => e = .returned (.bool (nameB s.data.toList)) ∧ w = w' := by
  unfold maxLen at hs
  have hl : s.data.toList.length = s.size := rfl
  by_cases h1 : 16 < s.size
  · have hd : decide (16 < (s.size : Int)) = true := by simp; omega
    have hr := nameB_long s.data.toList (by omega)
    go_enter Tryz.func120, Tryz.ntmps120
    go_wp2
    go_ret
    exact ⟨ret_bool hr.symm, rfl⟩
  · have hd : decide (16 < (s.size : Int)) = false := by simp; omega
    by_cases h2 : s.size = 0
    · have hr : nameB s.data.toList = false := by unfold nameB; simp [hl, h2]
      have h3 : s.toList.isEmpty = true := by rw [ByteArray.toList_eq]; simpa using List.eq_nil_of_length_eq_zero (hl.trans h2)
      have h3' : s.toList = [] := by simpa using h3
      clear hl h2
      go_enter Tryz.func120, Tryz.ntmps120
      go_wp2
      go_ret
      exact ⟨ret_bool hr.symm, rfl⟩
    · have h3 := toList_ne s h2
      have h3' : ¬ s.toList = [] := by simpa using h3
      have h4 : 0 < s.size := by omega
      have hh := hid (head_eq s h4)
      have hL := hid hl; clear hl
      have hge := hid (getElem_eq s)
      by_cases h5 : smallB s[0] = true
      · go_enter Tryz.func120, Tryz.ntmps120
        go_wp2_with (go_at_call 145; refine (small_any _ _).mono ?_; rintro e w' ⟨rfl, rfl⟩)
        go_loop [19] (fun i => ∃ k : Nat, k ≤ s.size ∧ i = .int .i64 k ∧ (s.data.toList.take k).all wordB = true) (fun i => s.size - (intOf i).toNat)
        case atStart => exact ⟨0, Nat.zero_le _, rfl, rfl⟩
        case round =>
          obtain ⟨k, hk, rfl, hal⟩ := hrel
          have Hal := hid hal; clear hal
          by_cases hlt : k < s.size
          · by_cases ha : smallB s[k] = true
            · have hn : Hid ((s.data.toList.take (k+1)).all wordB = true) := all_take_succ _ k hlt Hal.out (by show wordB s[k] = true; unfold wordB; rw [ha]; rfl)
              go_wp2_with (go_at_call 145; refine (small_any _ _).mono ?_; rintro e w' ⟨rfl, rfl⟩)
              go_round
              case rel => exact ⟨k + 1, by omega, by go_num, hn.out⟩
              case measure => simp [intOf]; omega
            · have ha' : smallB s[k] = false := by simpa using ha
              clear ha
              by_cases hb : digitB s[k] = true
              · have hn : Hid ((s.data.toList.take (k+1)).all wordB = true) := all_take_succ _ k hlt Hal.out (by show wordB s[k] = true; unfold wordB; rw [hb]; simp)
                go_wp2_with (first | (go_at_call 145; refine (small_any _ _).mono ?_; rintro e w' ⟨rfl, rfl⟩) | (go_at_call 146; refine (digit_any _ _).mono ?_; rintro e w' ⟨rfl, rfl⟩))
                go_round
                case rel => exact ⟨k + 1, by omega, by go_num, hn.out⟩
                case measure => simp [intOf]; omega
              · have hb' : digitB s[k] = false := by simpa using hb
                clear hb
                by_cases hc : s[k].toNat = 95
                · have hn : Hid ((s.data.toList.take (k+1)).all wordB = true) := all_take_succ _ k hlt Hal.out (by show wordB s[k] = true; unfold wordB; rw [hc]; simp)
                  have hc' : ((s[k].toNat : Int) != 95) = false := by rw [hc]; rfl
                  clear hc
                  go_wp2_with (first | (go_at_call 145; refine (small_any _ _).mono ?_; rintro e w' ⟨rfl, rfl⟩) | (go_at_call 146; refine (digit_any _ _).mono ?_; rintro e w' ⟨rfl, rfl⟩))
                  go_round
                  case rel => exact ⟨k + 1, by omega, by go_num, hn.out⟩
                  case measure => simp [intOf]; omega
                · have hn : nameB s.data.toList = false := nameB_at _ k hlt (by show wordB s[k] = false; unfold wordB; rw [ha', hb']; simpa using hc)
                  have hc' : ((s[k].toNat : Int) != 95) = true := by simp; omega
                  have Hn := hid hn; clear hn hc
                  go_wp2_with (first | (go_at_call 145; refine (small_any _ _).mono ?_; rintro e w' ⟨rfl, rfl⟩) | (go_at_call 146; refine (digit_any _ _).mono ?_; rintro e w' ⟨rfl, rfl⟩))
                  go_ret
                  exact ⟨ret_bool Hn.out.symm, rfl⟩
          · have hr : nameB s.data.toList = true := by
              rw [nameB_iff]
              refine ⟨by rw [hL.out]; omega, by rw [hL.out]; omega, by rw [hh.out]; exact h5, ?_⟩
              have := Hal.out
              rwa [List.take_of_length_le (by rw [hL.out]; omega)] at this
            have Hr := hid hr; clear hr
            go_wp2
            go_ret
            exact ⟨ret_bool Hr.out.symm, rfl⟩
      · have h5' : smallB s[0] = false := by simpa using h5
        have hr := nameB_head s.data.toList (by rw [hh.out]; exact h5')
        have Hr := hid hr; clear hr h5
        go_enter Tryz.func120, Tryz.ntmps120
        go_wp2_with (go_at_call 145; refine (small_any _ _).mono ?_; rintro e w' ⟨rfl, rfl⟩)
        go_ret
        exact ⟨ret_bool Hr.out.symm, rfl⟩
end Go.Proofs.YtedfajokiblfhaaGreat.Lt

/- Walks of Name of the reference, of within, Valid and Needs of both: contracts. -/
namespace Go.Proofs.YtedfajokiblfhaaGreat.Lt
open Go.RowKit

set_option maxHeartbeats 400000 in
theorem rwithin_any (a b c : Int) (w : World) :
    Calls Tryz.prog 98 #[.int .i64 a, .int .i64 b, .int .i64 c] w fun e w' => e = .returned (.bool (decide (b ≤ a) && decide (a ≤ c))) ∧ w = w' := by
  by_cases h : b ≤ a
  · have hd : decide (b ≤ a) = true := by simpa using h
    go_enter Tryz.func98, Tryz.ntmps98
    go_wp2
    go_ret
    exact ⟨by simp [h], rfl⟩
  · have hd : decide (b ≤ a) = false := by simpa using h
    go_enter Tryz.func98, Tryz.ntmps98
    go_wp2
    go_ret
    exact ⟨by simp, rfl⟩

theorem wordB_small {c : UInt8} (h1 : 97 ≤ c.toNat) (h2 : c.toNat ≤ 122) : wordB c = true := by
  unfold wordB smallB; simp [h1, h2]
theorem wordB_digit {c : UInt8} (h1 : 48 ≤ c.toNat) (h2 : c.toNat ≤ 57) : wordB c = true := by
  unfold wordB digitB; simp [h1, h2]
theorem wordB_line {c : UInt8} (h1 : c.toNat = 95) : wordB c = true := by
  unfold wordB; simp [h1]
theorem wordB_not {c : UInt8} (h1 : ¬ (97 ≤ c.toNat ∧ c.toNat ≤ 122)) (h2 : ¬ (48 ≤ c.toNat ∧ c.toNat ≤ 57)) (h3 : c.toNat ≠ 95) : wordB c = false := by
  unfold wordB smallB digitB
  simp [h3]; omega

set_option maxHeartbeats 1000000 in
theorem rname_any (s : ByteArray) (w : World) (hs : s.size ≤ maxLen) :
    Calls Tryz.prog 97 #[.string s] w fun e w' => e = .returned (.bool (nameB s.data.toList)) ∧ w = w' := by
  unfold maxLen at hs
  have hl : s.data.toList.length = s.size := rfl
  by_cases h0 : s.size < 1
  · have hr : nameB s.data.toList = false := by
      have : s.size = 0 := by omega
      unfold nameB; simp [hl, this]
    have Hr := hid hr; clear hr
    have hd : decide ((s.size : Int) < 1) = true := by simp; omega
    go_enter Tryz.func97, Tryz.ntmps97
    go_wp2
    go_ret
    exact ⟨ret_bool Hr.out.symm, rfl⟩
  have hd0 : decide ((s.size : Int) < 1) = false := by simp; omega
  by_cases h1 : 16 < s.size
  · have hd : decide (16 < (s.size : Int)) = true := by simp; omega
    have hr := nameB_long s.data.toList (by omega)
    have Hr := hid hr; clear hr
    go_enter Tryz.func97, Tryz.ntmps97
    go_wp2
    go_ret
    exact ⟨ret_bool Hr.out.symm, rfl⟩
  have hd : decide (16 < (s.size : Int)) = false := by simp; omega
  have h4 : 0 < s.size := by omega
  have hh := hid (head_eq s h4)
  have hL := hid hl; clear hl
  by_cases h5 : s[0].toNat < 97
  · have hr := nameB_head s.data.toList (by rw [hh.out]; unfold smallB; simp; omega)
    have Hr := hid hr; clear hr
    have hd5 : decide ((s[0].toNat : Int) < 97) = true := by simp; omega
    go_enter Tryz.func97, Tryz.ntmps97
    go_wp2
    go_ret
    exact ⟨ret_bool Hr.out.symm, rfl⟩
  have hd5 : decide ((s[0].toNat : Int) < 97) = false := by simp; omega
  by_cases h6 : 122 < s[0].toNat
  · have hr := nameB_head s.data.toList (by rw [hh.out]; unfold smallB; simp; omega)
    have Hr := hid hr; clear hr
    have hd6 : decide (122 < (s[0].toNat : Int)) = true := by simp; omega
    go_enter Tryz.func97, Tryz.ntmps97
    go_wp2
    go_ret
    exact ⟨ret_bool Hr.out.symm, rfl⟩
  have hd6 : decide (122 < (s[0].toNat : Int)) = false := by simp; omega
  have h7 : smallB s[0] = true := by unfold smallB; simp; omega
  have H7 := hid h7; clear h7
  go_enter Tryz.func97, Tryz.ntmps97
  go_wp2
  go_loop [3] (fun i => ∃ k : Nat, k ≤ s.size ∧ i = .int .i64 k ∧ (s.data.toList.take k).all wordB = true) (fun i => s.size - (intOf i).toNat)
  case atStart => exact ⟨0, Nat.zero_le _, rfl, rfl⟩
  case round =>
    obtain ⟨k, hk, rfl, hal⟩ := hrel
    have Hal := hid hal; clear hal
    by_cases hlt : k < s.size
    · by_cases ha : 97 ≤ s[k].toNat
      · have ha1 : decide (97 ≤ (s[k].toNat : Int)) = true := by simp; omega
        by_cases hb : s[k].toNat ≤ 122
        · have hb1 : decide ((s[k].toNat : Int) ≤ 122) = true := by simp; omega
          have hn : Hid ((s.data.toList.take (k+1)).all wordB = true) := all_take_succ _ k hlt Hal.out (wordB_small ha hb)
          go_wp2
          go_round
          case rel => exact ⟨k + 1, by omega, by go_num, hn.out⟩
          case measure => simp [intOf]; omega
        · have hb1 : decide ((s[k].toNat : Int) ≤ 122) = false := by simp; omega
          have hn : nameB s.data.toList = false := nameB_at _ k hlt (wordB_not (c := s[k]) (by omega) (by omega) (by omega))
          have Hn := hid hn; clear hn
          have hc1 : decide (48 ≤ (s[k].toNat : Int)) = true := by simp; omega
          have hd1 : decide ((s[k].toNat : Int) ≤ 57) = false := by simp; omega
          have he1 : ((s[k].toNat : Int) == 95) = false := by simp; omega
          go_wp2
          go_ret
          exact ⟨ret_bool Hn.out.symm, rfl⟩
      · have ha1 : decide (97 ≤ (s[k].toNat : Int)) = false := by simp; omega
        by_cases hc : 48 ≤ s[k].toNat
        · have hc1 : decide (48 ≤ (s[k].toNat : Int)) = true := by simp; omega
          by_cases hd : s[k].toNat ≤ 57
          · have hd1 : decide ((s[k].toNat : Int) ≤ 57) = true := by simp; omega
            have hn : Hid ((s.data.toList.take (k+1)).all wordB = true) := all_take_succ _ k hlt Hal.out (wordB_digit hc hd)
            go_wp2
            go_round
            case rel => exact ⟨k + 1, by omega, by go_num, hn.out⟩
            case measure => simp [intOf]; omega
          · have hd1 : decide ((s[k].toNat : Int) ≤ 57) = false := by simp; omega
            by_cases he : s[k].toNat = 95
            · have he1 : ((s[k].toNat : Int) == 95) = true := by simp; omega
              have hn : Hid ((s.data.toList.take (k+1)).all wordB = true) := all_take_succ _ k hlt Hal.out (wordB_line he)
              clear he
              go_wp2
              go_round
              case rel => exact ⟨k + 1, by omega, by go_num, hn.out⟩
              case measure => simp [intOf]; omega
            · have he1 : ((s[k].toNat : Int) == 95) = false := by simp; omega
              have hn : nameB s.data.toList = false := nameB_at _ k hlt (wordB_not (c := s[k]) (by omega) (by omega) (by omega))
              have Hn := hid hn; clear hn
              go_wp2
              go_ret
              exact ⟨ret_bool Hn.out.symm, rfl⟩
        · have hc1 : decide (48 ≤ (s[k].toNat : Int)) = false := by simp; omega
          have he1 : ((s[k].toNat : Int) == 95) = false := by simp; omega
          have hn : nameB s.data.toList = false := nameB_at _ k hlt (wordB_not (c := s[k]) (by omega) (by omega) (by omega))
          have Hn := hid hn; clear hn
          go_wp2
          go_ret
          exact ⟨ret_bool Hn.out.symm, rfl⟩
    · have hr : nameB s.data.toList = true := by
        rw [nameB_iff]
        refine ⟨by rw [hL.out]; omega, by rw [hL.out]; omega, by rw [hh.out]; exact H7.out, ?_⟩
        have := Hal.out
        rwa [List.take_of_length_le (by rw [hL.out]; omega)] at this
      have Hr := hid hr; clear hr
      go_wp2
      go_ret
      exact ⟨ret_bool Hr.out.symm, rfl⟩

def validB (l : List UInt8) (r z d g : Int) : Bool :=
  nameB l && (decide (-200 ≤ r) && decide (r ≤ 800)) && (decide (1 ≤ z) && decide (z ≤ 60)) && (decide (1 ≤ d) && decide (d ≤ 1000000)) && (decide (1 ≤ g) && decide (g ≤ 20))

theorem five (a b c d e : Bool) : a = false ∨ (a = true ∧ b = false) ∨ (a = true ∧ b = true ∧ c = false) ∨ (a = true ∧ b = true ∧ c = true ∧ d = false) ∨ (a = true ∧ b = true ∧ c = true ∧ d = true ∧ e = false) ∨ (a = true ∧ b = true ∧ c = true ∧ d = true ∧ e = true) := by
  cases a <;> cases b <;> cases c <;> cases d <;> cases e <;> simp

set_option maxHeartbeats 1000000 in
theorem lvalid_any (s : ByteArray) (r z d g : Int) (w : World) (hs : s.size ≤ maxLen) :
    Calls Tryz.prog 80 #[.agg #[.string s, .int .i64 r, .int .i64 z, .int .i64 d, .int .i64 g]] w fun e w' => e = .returned (.bool (validB s.data.toList r z d g)) ∧ Below w.heap.size w w' := by
  have hv : validB s.data.toList r z d g = (nameB s.data.toList && (decide (-200 ≤ r) && decide (r ≤ 800)) && (decide (1 ≤ z) && decide (z ≤ 60)) && (decide (1 ≤ d) && decide (d ≤ 1000000)) && (decide (1 ≤ g) && decide (g ≤ 20))) := rfl
  have Hv := hid hv; clear hv
  rcases five (nameB s.data.toList) (decide (-200 ≤ r) && decide (r ≤ 800)) (decide (1 ≤ z) && decide (z ≤ 60)) (decide (1 ≤ d) && decide (d ≤ 1000000)) (decide (1 ≤ g) && decide (g ≤ 20)) with h1 | ⟨h1, h2⟩ | ⟨h1, h2, h3⟩ | ⟨h1, h2, h3, h4⟩ | ⟨h1, h2, h3, h4, h5⟩ | ⟨h1, h2, h3, h4, h5⟩
  all_goals
    go_enter Tryz.func80, Tryz.ntmps80
    go_wp2_with (first | (go_at_call 120; refine (lname_any _ _ hs).mono ?_; rintro e w' ⟨rfl, rfl⟩) | (go_at_call 112; refine (within_any _ _ _ _).mono ?_; rintro e w' ⟨rfl, rfl⟩))
    go_ret
    exact ⟨ret_bool (by rw [Hv.out]; simp only [Bool.false_and, *]; try rfl), (Below.refl _ _).alloc (Nat.le_refl _) _⟩

set_option maxHeartbeats 1000000 in
theorem rvalid_any (s : ByteArray) (r z d g : Int) (w : World) (hs : s.size ≤ maxLen) :
    Calls Tryz.prog 57 #[.agg #[.string s, .int .i64 r, .int .i64 z, .int .i64 d, .int .i64 g]] w fun e w' => e = .returned (.bool (validB s.data.toList r z d g)) ∧ Below w.heap.size w w' := by
  have hv : validB s.data.toList r z d g = (nameB s.data.toList && (decide (-200 ≤ r) && decide (r ≤ 800)) && (decide (1 ≤ z) && decide (z ≤ 60)) && (decide (1 ≤ d) && decide (d ≤ 1000000)) && (decide (1 ≤ g) && decide (g ≤ 20))) := rfl
  have Hv := hid hv; clear hv
  rcases five (nameB s.data.toList) (decide (-200 ≤ r) && decide (r ≤ 800)) (decide (1 ≤ z) && decide (z ≤ 60)) (decide (1 ≤ d) && decide (d ≤ 1000000)) (decide (1 ≤ g) && decide (g ≤ 20)) with h1 | ⟨h1, h2⟩ | ⟨h1, h2, h3⟩ | ⟨h1, h2, h3, h4⟩ | ⟨h1, h2, h3, h4, h5⟩ | ⟨h1, h2, h3, h4, h5⟩
  all_goals
    go_enter Tryz.func57, Tryz.ntmps57
    go_wp2_with (first | (go_at_call 97; refine (rname_any _ _ hs).mono ?_; rintro e w' ⟨rfl, rfl⟩) | (go_at_call 98; refine (rwithin_any _ _ _ _).mono ?_; rintro e w' ⟨rfl, rfl⟩))
    go_ret
    exact ⟨ret_bool (by rw [Hv.out]; simp only [Bool.false_and, *]; try rfl), (Below.refl _ _).alloc (Nat.le_refl _) _⟩
end Go.Proofs.YtedfajokiblfhaaGreat.Lt

/- Walks of Needs, Reached and Reductions of both, with what they call: contracts. -/
namespace Go.Proofs.YtedfajokiblfhaaGreat.Lt
open Go.RowKit

theorem bcell {W w1 : World} (hb : Below W.heap.size W w1) : (∀ b o, b < W.heap.size → w1.cell? ⟨b, o, none⟩ = W.cell? ⟨b, o, none⟩) ∧ (∀ b o, b < W.heap.size → w1.frozen? ⟨b, o, none⟩ = W.frozen? ⟨b, o, none⟩) :=
  ⟨fun b o h => hb.cell (p := ⟨b, o, none⟩) h, fun b o h => hb.frozen (p := ⟨b, o, none⟩) h⟩
theorem balloc {w w1 : World} {o : Obj} (hb : Below (w.alloc o).heap.size (w.alloc o) w1) : Below w.heap.size w w1 :=
  ((Below.refl _ _).alloc (Nat.le_refl _) _).trans (hb.mono (by simp))
theorem bdrewN {B : Nat} {w w1 : World} {n : Nat} (h : Below B w w1) : Below B w (w1.drewN n) := ⟨h.os, h.tape, h.output, h.size, h.block⟩
theorem cell_alloc_new (w : World) (cs : Array Value) (T : TypeId) (fz : Nat × Nat) (i : Nat) : (w.alloc (.cells cs T fz)).cell? ⟨w.heap.size, i, none⟩ = cs[i]? := by
  unfold World.cell?
  show (match (w.alloc (.cells cs T fz)).heap[w.heap.size]? with | some (.cells c _ _) => _ | _ => _) = _
  rw [heap_alloc_new]
  rfl
theorem box5_below {w w1 : World} {c0 c1 c2 c3 c4 : Value} {T : TypeId} {fz : Nat × Nat} (hb : Below (w.alloc (.cells #[c0, c1, c2, c3, c4] T fz)).heap.size (w.alloc (.cells #[c0, c1, c2, c3, c4] T fz)) w1) :
    w1.cell? ⟨w.heap.size, 0, none⟩ = some c0 ∧ w1.cell? ⟨w.heap.size, 1, none⟩ = some c1 ∧ w1.cell? ⟨w.heap.size, 2, none⟩ = some c2 ∧ w1.cell? ⟨w.heap.size, 3, none⟩ = some c3 ∧ w1.cell? ⟨w.heap.size, 4, none⟩ = some c4 ∧ w.heap.size < w1.heap.size ∧ Below w.heap.size w w1 := by
  obtain ⟨hc, _⟩ := bcell hb
  have hz : w.heap.size < (w.alloc (.cells #[c0, c1, c2, c3, c4] T fz)).heap.size := by simp
  refine ⟨?_, ?_, ?_, ?_, ?_, Nat.lt_of_lt_of_le hz hb.size, balloc hb⟩ <;> rw [hc _ _ hz, cell_alloc_new] <;> rfl
theorem kbox_keep {b : Nat} {w W w2 : World} {c0 c1 c2 c3 c4 : Value} (hb : Below W.heap.size W w2)
    (h : W.cell? ⟨b, 0, none⟩ = some c0 ∧ W.cell? ⟨b, 1, none⟩ = some c1 ∧ W.cell? ⟨b, 2, none⟩ = some c2 ∧ W.cell? ⟨b, 3, none⟩ = some c3 ∧ W.cell? ⟨b, 4, none⟩ = some c4 ∧ b < W.heap.size ∧ Below w.heap.size w W) :
    w2.cell? ⟨b, 0, none⟩ = some c0 ∧ w2.cell? ⟨b, 1, none⟩ = some c1 ∧ w2.cell? ⟨b, 2, none⟩ = some c2 ∧ w2.cell? ⟨b, 3, none⟩ = some c3 ∧ w2.cell? ⟨b, 4, none⟩ = some c4 ∧ b < w2.heap.size ∧ Below w.heap.size w w2 := by
  obtain ⟨h0, h1, h2, h3, h4, h5, h6⟩ := h
  obtain ⟨hc, _⟩ := bcell hb
  exact ⟨(hc _ _ h5).trans h0, (hc _ _ h5).trans h1, (hc _ _ h5).trans h2, (hc _ _ h5).trans h3, (hc _ _ h5).trans h4, Nat.lt_of_lt_of_le h5 hb.size, h6.trans (hb.mono h6.size)⟩
theorem validB_iff {l : List UInt8} {r z d g : Int} : validB l r z d g = true ↔ nameB l = true ∧ (-200 ≤ r ∧ r ≤ 800) ∧ (1 ≤ z ∧ z ≤ 60) ∧ (1 ≤ d ∧ d ≤ 1000000) ∧ (1 ≤ g ∧ g ≤ 20) := by
  unfold validB; simp [and_assoc]

theorem wrap_i64 {n : Int} (h1 : -9000000000000000000 ≤ n) (h2 : n ≤ 9000000000000000000) : IntKind.i64.wrap n = n := IntWalk.i64_in n ⟨by omega, by omega⟩
theorem ret_two {a b : Value} {a' b' : Value} (h : a = a') (h' : b = b') : Ending.returned (.tuple #[a, b]) = .returned (.tuple #[a', b']) := by rw [h, h']
theorem int_eq {k : IntKind} {a b : Int} (h : a = b) : Value.int k a = .int k b := by rw [h]

def chkF (v : Bool) (f : Int) : Int := if v then (if 0 ≤ f ∧ f ≤ 1000000000000000000 then 0 else 7) else 1

set_option maxHeartbeats 1000000 in
theorem reduction_any (s : ByteArray) (r z d g : Int) (w : World) (_hs : s.size ≤ maxLen) (h1 : 1 ≤ d) (h2 : d ≤ 1000000) :
    Calls Tryz.prog 81 #[.agg #[.string s, .int .i64 r, .int .i64 z, .int .i64 d, .int .i64 g]] w fun e w' => e = .returned (.int .i64 (d * 1000000)) ∧ Below w.heap.size w w' := by
  go_enter Tryz.func81, Tryz.ntmps81
  go_wp2
  go_ret
  exact ⟨rfl, (Below.refl _ _).alloc (Nat.le_refl _) _⟩

set_option maxHeartbeats 1000000 in
theorem needs_no (s : ByteArray) (r z d g : Int) (w : World) (hs : s.size ≤ maxLen) (hv : validB s.data.toList r z d g = false) :
    Calls Tryz.prog 44 #[.agg #[.string s, .int .i64 r, .int .i64 z, .int .i64 d, .int .i64 g]] w fun e w' => e = .returned (.int .i64 0) ∧ Below w.heap.size w w' := by
  go_enter Tryz.func44, Tryz.ntmps44
  go_wp2_with (go_at_call 80; refine (lvalid_any _ _ _ _ _ _ hs).mono ?_; rintro e w1 ⟨rfl, hb⟩)
  go_ret
  exact ⟨rfl, balloc hb⟩

theorem needs_bd {l : List UInt8} {r z d g : Int} (hv : validB l r z d g = true) : 1000000 ≤ g * (d * 1000000) ∧ g * (d * 1000000) ≤ 20000000000000 := by
  obtain ⟨_, _, _, ⟨d1, d2⟩, g1, g2⟩ := validB_iff.1 hv
  have a := Int.mul_le_mul g2 (show d * 1000000 ≤ 1000000000000 by omega) (by omega) (by omega)
  have b := Int.mul_le_mul g1 (show 1000000 ≤ d * 1000000 by omega) (by omega) (by omega)
  omega

set_option maxHeartbeats 1000000 in
theorem needs_yes (s : ByteArray) (r z d g : Int) (w : World) (hs : s.size ≤ maxLen) (hv : validB s.data.toList r z d g = true) :
    Calls Tryz.prog 44 #[.agg #[.string s, .int .i64 r, .int .i64 z, .int .i64 d, .int .i64 g]] w fun e w' => e = .returned (.int .i64 (g * (d * 1000000))) ∧ Below w.heap.size w w' := by
  obtain ⟨_, _, _, ⟨d1, d2⟩, g1, g2⟩ := validB_iff.1 hv
  obtain ⟨m1, m2⟩ := needs_bd hv
  go_enter Tryz.func44, Tryz.ntmps44
  go_wp2_with (go_at_call 80; refine (lvalid_any _ _ _ _ _ _ hs).mono ?_; rintro e w1 ⟨rfl, hb⟩; obtain ⟨b0, b1, b2, b3, b4, hz, hB⟩ := box5_below hb; clear hb)
  go_region_held3 (fun w' => w'.cell? ⟨w.heap.size, 0, none⟩ = some (.string s) ∧ w'.cell? ⟨w.heap.size, 1, none⟩ = some (.int .i64 r) ∧ w'.cell? ⟨w.heap.size, 2, none⟩ = some (.int .i64 z) ∧ w'.cell? ⟨w.heap.size, 3, none⟩ = some (.int .i64 d) ∧ w'.cell? ⟨w.heap.size, 4, none⟩ = some (.int .i64 g) ∧ w.heap.size < w'.heap.size ∧ Below w.heap.size w w') (first | exact ⟨b0, b1, b2, b3, b4, hz, hB.drew⟩ | exact kbox_keep (by assumption) (by assumption)) (first | (go_at_call 81; refine (reduction_any _ _ _ _ _ _ hs (by omega) (by omega)).mono ?_; rintro e w2 ⟨rfl, hb2⟩))
  go_wp2
  go_ret
  rename_i hq
  exact ⟨ret_int (wrap_i64 (by omega) (by omega)), hq.2.2.2.2.2.2⟩

set_option maxHeartbeats 1000000 in
theorem rneeds_no (s : ByteArray) (r z d g : Int) (w : World) (hs : s.size ≤ maxLen) (hv : validB s.data.toList r z d g = false) :
    Calls Tryz.prog 26 #[.agg #[.string s, .int .i64 r, .int .i64 z, .int .i64 d, .int .i64 g]] w fun e w' => e = .returned (.int .i64 0) ∧ Below w.heap.size w w' := by
  go_enter Tryz.func26, Tryz.ntmps26
  go_wp2_with (go_at_call 57; refine (rvalid_any _ _ _ _ _ _ hs).mono ?_; rintro e w1 ⟨rfl, hb⟩)
  go_ret
  exact ⟨rfl, balloc hb⟩

set_option maxHeartbeats 1000000 in
theorem rneeds_yes (s : ByteArray) (r z d g : Int) (w : World) (hs : s.size ≤ maxLen) (hv : validB s.data.toList r z d g = true) :
    Calls Tryz.prog 26 #[.agg #[.string s, .int .i64 r, .int .i64 z, .int .i64 d, .int .i64 g]] w fun e w' => e = .returned (.int .i64 (g * (d * 1000000))) ∧ Below w.heap.size w w' := by
  obtain ⟨_, _, _, ⟨d1, d2⟩, g1, g2⟩ := validB_iff.1 hv
  obtain ⟨m1, m2⟩ := needs_bd hv
  rw [← Int.mul_assoc] at m1 m2
  go_enter Tryz.func26, Tryz.ntmps26
  go_wp2_with (go_at_call 57; refine (rvalid_any _ _ _ _ _ _ hs).mono ?_; rintro e w1 ⟨rfl, hb⟩; obtain ⟨b0, b1, b2, b3, b4, hz, hB⟩ := box5_below hb; clear hb)
  go_ret
  exact ⟨ret_int (Int.mul_assoc _ _ _), hB⟩

theorem perMille_eq (f n : Int) (_h1 : 0 ≤ f) (h3 : 0 < n) : f / n * 1000 + f % n * 1000 / n = f * 1000 / n := by
  have e : f * 1000 = f / n * 1000 * n + f % n * 1000 := by
    have := Int.mul_ediv_add_emod f n
    have h : f / n * 1000 * n = n * (f / n) * 1000 := by rw [Int.mul_comm n, Int.mul_assoc, Int.mul_assoc, Int.mul_comm 1000 n]
    rw [h]; omega
  rw [e, Int.add_comm (f / n * 1000 * n), Int.add_mul_ediv_right _ _ (by omega), Int.add_comm]


end Go.Proofs.YtedfajokiblfhaaGreat.Lt
