/- Texts of this seat, one behind the other. -/
import Derived.Test.YtihbjimnjhfpeaaGreatRows
import Derived.Test.YtihbjimnjhfpeaaGreatG01
import Derived.WalkKit
import Derived.WalkSpells
import Derived.WalkLawsBesides
import Derived.BigQuiet
/- Walks of heat's small tests of a can, and of the reference's: contracts. -/
namespace Go.Proofs.YtihbjimnjhfpeaaGreat
open Go.RowKit

set_option maxHeartbeats 400000 in
theorem within_any (a b c : Int) (w : World) :
    Calls Tryz.prog 105 #[.int .i64 a, .int .i64 b, .int .i64 c] w fun e w' => e = .returned (.bool (decide (b ≤ a) && decide (a ≤ c))) ∧ w = w' := by
  by_cases h : b ≤ a
  · have hd : decide (b ≤ a) = true := by simpa using h
    go_enter Tryz.func105, Tryz.ntmps105
    go_wp2
    go_ret
    exact ⟨by simp [h], rfl⟩
  · have hd : decide (b ≤ a) = false := by simpa using h
    go_enter Tryz.func105, Tryz.ntmps105
    go_wp2
    go_ret
    exact ⟨by simp, rfl⟩
set_option maxHeartbeats 400000 in
theorem rwithin_any (a b c : Int) (w : World) :
    Calls Tryz.prog 58 #[.int .i64 a, .int .i64 b, .int .i64 c] w fun e w' => e = .returned (.bool (decide (b ≤ a) && decide (a ≤ c))) ∧ w = w' := by
  by_cases h : b ≤ a
  · have hd : decide (b ≤ a) = true := by simpa using h
    go_enter Tryz.func58, Tryz.ntmps58
    go_wp2
    go_ret
    exact ⟨by simp [h], rfl⟩
  · have hd : decide (b ≤ a) = false := by simpa using h
    go_enter Tryz.func58, Tryz.ntmps58
    go_wp2
    go_ret
    exact ⟨by simp, rfl⟩
set_option maxHeartbeats 400000 in
theorem warm_any (a : Int) (w : World) :
    Calls Tryz.prog 36 #[.int .i64 a] w fun e w' => e = .returned (.bool (decide (-50000 ≤ a) && decide (a ≤ 200000))) ∧ w = w' := by
  go_enter Tryz.func36, Tryz.ntmps36
  go_wp2_with (go_at_call 58; refine (rwithin_any _ _ _ _).mono ?_; rintro e w' ⟨rfl, rfl⟩)
  go_ret
  exact ⟨rfl, rfl⟩
theorem con_no1 {a b : Int} (h : (decide (0 ≤ a) && decide (a ≤ 500)) = false) : conB a b = false := by unfold conB; rw [h]; rfl
theorem con_no2 {a b : Int} (h : (decide (0 ≤ b) && decide (b ≤ 500)) = false) : conB a b = false := by unfold conB; rw [h]; simp
theorem con_yes {a b : Int} (h : (decide (0 ≤ a) && decide (a ≤ 500)) = true) (g : (decide (0 ≤ b) && decide (b ≤ 500)) = true) : conB a b = (decide (1 ≤ a + b) && decide (a + b ≤ 500)) := by unfold conB; rw [h, g]; rfl
set_option maxHeartbeats 1000000 in
theorem conducts_any (a b : Int) (w : World) :
    Calls Tryz.prog 106 #[.int .i64 a, .int .i64 b] w fun e w' => e = .returned (.bool (conB a b)) ∧ w = w' := by
  cases h1 : (decide (0 ≤ a) && decide (a ≤ 500))
  · have hc := hid (con_no1 (b := b) h1)
    go_enter Tryz.func106, Tryz.ntmps106
    go_wp2_with (go_at_call 105; refine (within_any _ _ _ _).mono ?_; rintro e w' ⟨rfl, rfl⟩)
    go_ret
    exact ⟨ret_bool hc.out.symm, rfl⟩
  cases h2 : (decide (0 ≤ b) && decide (b ≤ 500))
  · have hc := hid (con_no2 (a := a) h2)
    go_enter Tryz.func106, Tryz.ntmps106
    go_wp2_with (go_at_call 105; refine (within_any _ _ _ _).mono ?_; rintro e w' ⟨rfl, rfl⟩)
    go_ret
    exact ⟨ret_bool hc.out.symm, rfl⟩
  have hc := hid (con_yes h1 h2)
  have ha : 0 ≤ a ∧ a ≤ 500 := by simpa using h1
  have hb : 0 ≤ b ∧ b ≤ 500 := by simpa using h2
  obtain ⟨a1, a2⟩ := ha
  obtain ⟨b1, b2⟩ := hb
  go_enter Tryz.func106, Tryz.ntmps106
  go_wp2_with (go_at_call 105; refine (within_any _ _ _ _).mono ?_; rintro e w' ⟨rfl, rfl⟩)
  go_ret
  exact ⟨ret_bool hc.out.symm, rfl⟩
set_option maxHeartbeats 1000000 in
theorem rconducts_any (a b : Int) (w : World) :
    Calls Tryz.prog 59 #[.int .i64 a, .int .i64 b] w fun e w' => e = .returned (.bool (conB a b)) ∧ w = w' := by
  cases h1 : (decide (0 ≤ a) && decide (a ≤ 500))
  · have hc := hid (con_no1 (b := b) h1)
    go_enter Tryz.func59, Tryz.ntmps59
    go_wp2_with (go_at_call 58; refine (rwithin_any _ _ _ _).mono ?_; rintro e w' ⟨rfl, rfl⟩)
    go_ret
    exact ⟨ret_bool hc.out.symm, rfl⟩
  cases h2 : (decide (0 ≤ b) && decide (b ≤ 500))
  · have hc := hid (con_no2 (a := a) h2)
    go_enter Tryz.func59, Tryz.ntmps59
    go_wp2_with (go_at_call 58; refine (rwithin_any _ _ _ _).mono ?_; rintro e w' ⟨rfl, rfl⟩)
    go_ret
    exact ⟨ret_bool hc.out.symm, rfl⟩
  have hc := hid (con_yes h1 h2)
  have ha : 0 ≤ a ∧ a ≤ 500 := by simpa using h1
  have hb : 0 ≤ b ∧ b ≤ 500 := by simpa using h2
  obtain ⟨a1, a2⟩ := ha
  obtain ⟨b1, b2⟩ := hb
  go_enter Tryz.func59, Tryz.ntmps59
  go_wp2_with (go_at_call 58; refine (rwithin_any _ _ _ _).mono ?_; rintro e w' ⟨rfl, rfl⟩)
  go_ret
  exact ⟨ret_bool hc.out.symm, rfl⟩

theorem brk_zero (a b : Int) : brkB 0 a b = (decide (a = 0) && decide (b = 0)) := rfl
theorem brk_some {k a b : Int} (h : k ≠ 0) : brkB k a b = ((decide (1 ≤ k) && decide (k ≤ 200000)) && conB a b) := by unfold brkB; rw [if_neg h]
theorem beq_dec (a : Int) : (a == 0) = decide (a = 0) := by by_cases h : a = 0 <;> simp [h]
set_option maxHeartbeats 1000000 in
theorem vbreak_any (r l a b k a2 b2 : Int) (w : World) : Calls Tryz.prog 107 #[.agg #[.int .i64 r, .int .i64 l, .int .i64 a, .int .i64 b, .int .i64 k, .int .i64 a2, .int .i64 b2]] w fun e w' => e = .returned (.bool (brkB k a2 b2)) ∧ Below w.heap.size w w' := by
  by_cases hk : k = 0
  · subst hk
    have hc := hid (brk_zero a2 b2)
    cases h1 : (a2 == 0)
    · rw [beq_dec] at h1
      have hc' := hid (show brkB 0 a2 b2 = false by rw [brk_zero, h1]; rfl)
      have h1' : (a2 == 0) = false := by rw [beq_dec]; exact h1
      go_enter Tryz.func107, Tryz.ntmps107
      go_wp2
      go_ret
      exact ⟨ret_bool hc'.out.symm, (Below.refl _ _).alloc (Nat.le_refl _) _⟩
    · have h2 := hid (show brkB 0 a2 b2 = (b2 == 0) by rw [brk_zero, ← beq_dec, ← beq_dec, h1]; rfl)
      go_enter Tryz.func107, Tryz.ntmps107
      go_wp2
      go_ret
      exact ⟨ret_bool h2.out.symm, (Below.refl _ _).alloc (Nat.le_refl _) _⟩
  · have hc := hid (brk_some (a := a2) (b := b2) hk)
    have hk' : (k == 0) = false := by simpa using hk
    cases h1 : (decide (1 ≤ k) && decide (k ≤ 200000))
    · go_enter Tryz.func107, Tryz.ntmps107
      go_wp2_with (first | (go_at_call 105; refine (within_any _ _ _ _).mono ?_; rintro e w' ⟨rfl, rfl⟩) | (go_at_call 106; refine (conducts_any _ _ _).mono ?_; rintro e w' ⟨rfl, rfl⟩))
      go_ret
      exact ⟨ret_bool (by rw [hc.out, h1]; rfl), (Below.refl _ _).alloc (Nat.le_refl _) _⟩
    · go_enter Tryz.func107, Tryz.ntmps107
      go_wp2_with (first | (go_at_call 105; refine (within_any _ _ _ _).mono ?_; rintro e w' ⟨rfl, rfl⟩) | (go_at_call 106; refine (conducts_any _ _ _).mono ?_; rintro e w' ⟨rfl, rfl⟩))
      go_ret
      exact ⟨ret_bool (by rw [hc.out, h1]; rfl), (Below.refl _ _).alloc (Nat.le_refl _) _⟩

theorem can_eq (r l a b k a2 b2 : Int) : canB r l a b k a2 b2 = ((decide (1 ≤ r) && decide (r ≤ 6)) && ((decide (1 ≤ l) && decide (l ≤ 8)) && (conB a b && brkB k a2 b2))) := rfl
theorem four (a b c _d : Bool) : a = false ∨ (a = true ∧ b = false) ∨ (a = true ∧ b = true ∧ c = false) ∨ (a = true ∧ b = true ∧ c = true) := by
  cases a <;> cases b <;> cases c <;> simp
set_option maxHeartbeats 2000000 in
theorem vcan_any (r l a b k a2 b2 : Int) (w : World) : Calls Tryz.prog 66 #[.agg #[.int .i64 r, .int .i64 l, .int .i64 a, .int .i64 b, .int .i64 k, .int .i64 a2, .int .i64 b2]] w fun e w' => e = .returned (.bool (canB r l a b k a2 b2)) ∧ Below w.heap.size w w' := by
  have hc := hid (can_eq r l a b k a2 b2)
  rcases four (decide (1 ≤ r) && decide (r ≤ 6)) (decide (1 ≤ l) && decide (l ≤ 8)) (conB a b) true with h1 | ⟨h1, h2⟩ | ⟨h1, h2, h3⟩ | ⟨h1, h2, h3⟩
  all_goals
    go_enter Tryz.func66, Tryz.ntmps66
    go_wp2_with (first | (go_at_call 105; refine (within_any _ _ _ _).mono ?_; rintro e w' ⟨rfl, rfl⟩) | (go_at_call 106; refine (conducts_any _ _ _).mono ?_; rintro e w' ⟨rfl, rfl⟩) | (go_at_call 107; refine (vbreak_any _ _ _ _ _ _ _ _).mono ?_; rintro e w' ⟨rfl, hb⟩))
    go_ret
    exact ⟨ret_bool (by rw [hc.out]; simp only [Bool.false_and, Bool.true_and, *]), by first | exact (Below.refl _ _).alloc (Nat.le_refl _) _ | exact balloc hb⟩
set_option maxHeartbeats 2000000 in
theorem rvcan_any (r l a b k a2 b2 : Int) (w : World) : Calls Tryz.prog 21 #[.agg #[.int .i64 r, .int .i64 l, .int .i64 a, .int .i64 b, .int .i64 k, .int .i64 a2, .int .i64 b2]] w fun e w' => e = .returned (.bool (canB r l a b k a2 b2)) ∧ Below w.heap.size w w' := by
  have hc := hid (can_eq r l a b k a2 b2)
  rcases four (decide (1 ≤ r) && decide (r ≤ 6)) (decide (1 ≤ l) && decide (l ≤ 8)) (conB a b) true with h1 | ⟨h1, h2⟩ | ⟨h1, h2, h3⟩ | ⟨h1, h2, h3⟩
  all_goals skip
  rotate_left 3
  · by_cases hk : k = 0
    · subst hk
      have hz := hid (brk_zero a2 b2)
      by_cases ha2 : a2 = 0
      · subst ha2
        by_cases hb2 : b2 = 0
        · subst hb2
          go_enter Tryz.func21, Tryz.ntmps21
          go_wp2_with (first | (go_at_call 58; refine (rwithin_any _ _ _ _).mono ?_; rintro e w' ⟨rfl, rfl⟩) | (go_at_call 59; refine (rconducts_any _ _ _).mono ?_; rintro e w' ⟨rfl, rfl⟩))
          go_ret
          exact ⟨ret_bool (by rw [hc.out, h1, h2, h3]; rfl), (Below.refl _ _).alloc (Nat.le_refl _) _⟩
        · have hb2' : (b2 == 0) = false := by simpa using hb2
          have hz' := hid (show brkB 0 0 b2 = false by rw [brk_zero, ← beq_dec b2, hb2']; rfl)
          go_enter Tryz.func21, Tryz.ntmps21
          go_wp2_with (first | (go_at_call 58; refine (rwithin_any _ _ _ _).mono ?_; rintro e w' ⟨rfl, rfl⟩) | (go_at_call 59; refine (rconducts_any _ _ _).mono ?_; rintro e w' ⟨rfl, rfl⟩))
          go_ret
          exact ⟨ret_bool (by rw [hc.out, h1, h2, h3, hz'.out]; rfl), (Below.refl _ _).alloc (Nat.le_refl _) _⟩
      · have ha2' : (a2 == 0) = false := by simpa using ha2
        have hz' := hid (show brkB 0 a2 b2 = false by rw [brk_zero, ← beq_dec a2, ha2']; rfl)
        go_enter Tryz.func21, Tryz.ntmps21
        go_wp2_with (first | (go_at_call 58; refine (rwithin_any _ _ _ _).mono ?_; rintro e w' ⟨rfl, rfl⟩) | (go_at_call 59; refine (rconducts_any _ _ _).mono ?_; rintro e w' ⟨rfl, rfl⟩))
        go_ret
        exact ⟨ret_bool (by rw [hc.out, h1, h2, h3, hz'.out]; rfl), (Below.refl _ _).alloc (Nat.le_refl _) _⟩
    · have hk' : (k == 0) = false := by simpa using hk
      have hz := hid (brk_some (a := a2) (b := b2) hk)
      cases h4 : (decide (1 ≤ k) && decide (k ≤ 200000))
      all_goals
        go_enter Tryz.func21, Tryz.ntmps21
        go_wp2_with (first | (go_at_call 58; refine (rwithin_any _ _ _ _).mono ?_; rintro e w' ⟨rfl, rfl⟩) | (go_at_call 59; refine (rconducts_any _ _ _).mono ?_; rintro e w' ⟨rfl, rfl⟩))
        go_ret
        exact ⟨ret_bool (by rw [hc.out, h1, h2, h3, hz.out, h4]; rfl), (Below.refl _ _).alloc (Nat.le_refl _) _⟩
  all_goals
    go_enter Tryz.func21, Tryz.ntmps21
    go_wp2_with (first | (go_at_call 58; refine (rwithin_any _ _ _ _).mono ?_; rintro e w' ⟨rfl, rfl⟩) | (go_at_call 59; refine (rconducts_any _ _ _).mono ?_; rintro e w' ⟨rfl, rfl⟩))
    go_ret
    exact ⟨ret_bool (by rw [hc.out]; simp only [Bool.false_and, Bool.true_and, *]), (Below.refl _ _).alloc (Nat.le_refl _) _⟩
end Go.Proofs.YtihbjimnjhfpeaaGreat

/- Walks of temperatures, Places, Stirred, ValidBody of both: contracts. -/
namespace Go.Proofs.YtihbjimnjhfpeaaGreat
open Go.RowKit

set_option maxHeartbeats 2000000 in
theorem temps_any (w : World) (v : Value) (l : List Int) (hl : RowI w v l) :
    Calls Tryz.prog 149 #[v] w fun e w' => e = .returned (.bool (okL l)) ∧ w = w' := by
  rcases hl with ⟨a0, c0, rfl, rfl⟩ | ⟨b, o, cap, rfl, hm, hc⟩
  · go_enter Tryz.func149, Tryz.ntmps149
    go_wp2
    refine wp_loop_rounds 1 ?_
    rw [rounds_succ]
    go_wp2
    go_ret
    exact ⟨rfl, rfl⟩
  · have HC := hid hc; clear hc
    unfold maxLen at hm
    go_enter Tryz.func149, Tryz.ntmps149
    go_wp2
    go_loop [7] (fun i => ∃ k : Nat, k ≤ l.length ∧ i = .int .i64 (k : Int) ∧ Hid (∀ j (hj : j < l.length), j < k → okT l[j] = true)) (fun i => l.length - (intOf i).toNat)
    case atStart => exact ⟨0, Nat.zero_le _, rfl, fun j _ h => absurd h (Nat.not_lt_zero _)⟩
    case round =>
      obtain ⟨k, hk, rfl, hok⟩ := hrel
      by_cases hlt : k < l.length
      · have ex := HC.out k hlt
        have hlt' : (k : Int) < l.length := by omega
        cases ho : okT l[k]
        · have hE := hid (okL_bad hlt ho)
          generalize l[k] = x at ex ho
          change (decide (-50000 ≤ x) && decide (x ≤ 200000)) = false at ho
          go_wp2_with (go_at_call 105; refine (within_any _ _ _ _).mono ?_; rintro e w' ⟨rfl, rfl⟩)
          go_ret
          exact ⟨by rw [hE.out]; rfl, rfl⟩
        · have hst : Hid (∀ j (hj : j < l.length), j < k + 1 → okT l[j] = true) := fun j hj h => by
            rcases Nat.lt_or_ge j k with h1 | h1
            · exact hok.out j hj h1
            · obtain rfl : j = k := by omega
              exact ho
          generalize l[k] = x at ex ho
          change (decide (-50000 ≤ x) && decide (x ≤ 200000)) = true at ho
          go_wp2_with (go_at_call 105; refine (within_any _ _ _ _).mono ?_; rintro e w' ⟨rfl, rfl⟩)
          go_round
          case rel => exact ⟨k + 1, by omega, by go_num, hst⟩
          case measure => simp [intOf]; omega
      · obtain rfl : k = l.length := by omega
        have hE := hid (okL_end hok.out rfl)
        go_wp2
        go_ret
        exact ⟨by rw [hE.out]; rfl, rfl⟩

set_option maxHeartbeats 1000000 in
theorem places_no (r l a b k a2 b2 : Int) (w : World) (hv : canB r l a b k a2 b2 = false) : Calls Tryz.prog 150 #[.agg #[.int .i64 r, .int .i64 l, .int .i64 a, .int .i64 b, .int .i64 k, .int .i64 a2, .int .i64 b2]] w fun e w' => e = .returned (.int .i64 0) ∧ Below w.heap.size w w' := by
  go_enter Tryz.func150, Tryz.ntmps150
  go_wp2_with (go_at_call 66; refine (vcan_any _ _ _ _ _ _ _ _).mono ?_; rintro e w1 ⟨rfl, hb⟩)
  go_ret
  exact ⟨rfl, balloc hb⟩
theorem Cn.Ok.mul {c : Cn} (h : c.Ok) : 1 ≤ (c.R : Int) * c.L ∧ (c.R : Int) * c.L ≤ 48 := by
  have := h.p
  rw [← c.P_int]
  omega
set_option maxHeartbeats 1000000 in
theorem places_yes (c : Cn) (w : World) (hv : c.V) : Calls Tryz.prog 150 #[.agg #[.int .i64 (c.R : Int), .int .i64 (c.L : Int), .int .i64 c.A, .int .i64 c.B, .int .i64 c.K, .int .i64 c.A2, .int .i64 c.B2]] w fun e w' => e = .returned (.int .i64 (c.P : Nat)) ∧ Below w.heap.size w w' := by
  obtain ⟨p1, p2⟩ := hv.ok.mul
  have HP := hid c.P_int
  unfold Cn.V at hv
  go_enter Tryz.func150, Tryz.ntmps150
  go_wp2_with (go_at_call 66; refine (vcan_any _ _ _ _ _ _ _ _).mono ?_; rintro e w1 ⟨rfl, hb⟩; have BX := hid (box1_call hb); obtain ⟨b0, b1, b2', b3, b4, b5, b6⟩ := BX.out.can; have hz := BX.out.sz; clear hb)
  go_ret
  exact ⟨ret_int HP.out.symm, BX.out.low⟩

set_option maxHeartbeats 4000000 in
theorem vbody_can (r l a b k a2 b2 : Int) (w : World) (v : Value) (T : List Int) (br : Bool) (hl : RowI w v T) (hv : canB r l a b k a2 b2 = false) :
    Calls Tryz.prog 177 #[.agg #[.int .i64 r, .int .i64 l, .int .i64 a, .int .i64 b, .int .i64 k, .int .i64 a2, .int .i64 b2], .agg #[v, .bool br]] w fun e w' => e = .returned (.bool false) ∧ Below w.heap.size w w' := by
  obtain ⟨a0, cap, rfl⟩ := hl.shape
  clear hl
  obtain ⟨b0, b1, b2', b3, b4, b5, b6, x0, x1, hz, hB⟩ := nine_start (w := w) (c0 := .int .i64 r) (c1 := .int .i64 l) (c2 := .int .i64 a) (c3 := .int .i64 b) (c4 := .int .i64 k) (c5 := .int .i64 a2) (c6 := .int .i64 b2) (d0 := .slice a0 T.length cap) (d1 := .bool br) (T := 23) (T' := 87) (fz := (0, 0)) (fz' := (0, 0))
  go_enter Tryz.func177, Tryz.ntmps177
  go_wp2_with fail
  first
    | go_region_with (go_at_call 66; refine (vcan_any _ _ _ _ _ _ _ _).mono ?_; rintro e w1 ⟨rfl, hb⟩; have hz1 := bstep hB.drew hB.size hb; clear hb)
    | fail
  all_goals
    go_wp2
    go_ret
    exact ⟨rfl, hz1⟩
/-- The body is valid for a valid can. -/
def bodyV (c : Cn) (T : List Int) (br : Bool) : Bool := bodyB true c.R c.L c.K T br
theorem bodyV_len {c : Cn} {T : List Int} {br : Bool} (h : T.length ≠ c.P) : bodyV c T br = false := bodyB_len (by rw [← c.P_int]; omega)
theorem bodyV_brk {c : Cn} {T : List Int} (h : c.K = 0) : bodyV c T true = false := bodyB_brk h
theorem bodyV_rest {c : Cn} {T : List Int} {br : Bool} (h : T.length = c.P) (hk : br = false ∨ c.K ≠ 0) : bodyV c T br = okL T := bodyB_rest (by rw [← c.P_int]; omega) hk
theorem bodyV_iff {c : Cn} {T : List Int} {br : Bool} : bodyV c T br = true ↔ T.length = c.P ∧ (br = false ∨ c.K ≠ 0) ∧ okL T = true := by
  by_cases h : T.length = c.P
  · by_cases hk : br = false ∨ c.K ≠ 0
    · rw [bodyV_rest h hk]; exact ⟨fun g => ⟨h, hk, g⟩, fun g => g.2.2⟩
    · have hb : br = true := by cases br <;> simp_all
      have hc : c.K = 0 := Decidable.byContradiction fun g => hk (.inr g)
      subst hb
      rw [bodyV_brk hc]
      simp [hc]
  · rw [bodyV_len h]; simp [h]
set_option maxHeartbeats 4000000 in
theorem vbody_yes (c : Cn) (w : World) (v : Value) (T : List Int) (br : Bool) (hl : RowI w v T) (hv : c.V) :
    Calls Tryz.prog 177 #[.agg #[.int .i64 (c.R : Int), .int .i64 (c.L : Int), .int .i64 c.A, .int .i64 c.B, .int .i64 c.K, .int .i64 c.A2, .int .i64 c.B2], .agg #[v, .bool br]] w fun e w' => e = .returned (.bool (bodyV c T br)) ∧ Below w.heap.size w w' := by
  have hv0 := hid hv
  unfold Cn.V at hv
  have HL := hid (fun w1 (g : Below w.heap.size w w1) => hl.keep g)
  obtain ⟨a0, cap, rfl⟩ := hl.shape
  clear hl
  obtain ⟨b0, b1, b2', b3, b4, b5, b6, x0, x1, hz, hB⟩ := nine_start (w := w) (c0 := .int .i64 c.R) (c1 := .int .i64 c.L) (c2 := .int .i64 c.A) (c3 := .int .i64 c.B) (c4 := .int .i64 c.K) (c5 := .int .i64 c.A2) (c6 := .int .i64 c.B2) (d0 := .slice a0 T.length cap) (d1 := .bool br) (T := 23) (T' := 87) (fz := (0, 0)) (fz' := (0, 0))
  by_cases hlen : T.length = c.P
  · have hlen' : ((T.length : Int) == c.P) = true := by simp; omega
    have hlen2 : ((T.length : Int) != c.P) = false := by simp; omega
    by_cases hk : br = true ∧ c.K = 0
    · obtain ⟨rfl, hk⟩ := hk
      have hE := hid (bodyV_brk (T := T) hk)
      have hk' : (c.K == 0) = true := by simpa using hk
      clear hk hlen HL
      go_enter Tryz.func177, Tryz.ntmps177
      go_wp2_with fail
      first
        | go_region_held3 (fun w' => w'.cell? ⟨w.heap.size, 0, none⟩ = some (.int .i64 c.R) ∧ w'.cell? ⟨w.heap.size, 1, none⟩ = some (.int .i64 c.L) ∧ w'.cell? ⟨w.heap.size, 2, none⟩ = some (.int .i64 c.A) ∧ w'.cell? ⟨w.heap.size, 3, none⟩ = some (.int .i64 c.B) ∧ w'.cell? ⟨w.heap.size, 4, none⟩ = some (.int .i64 c.K) ∧ w'.cell? ⟨w.heap.size, 5, none⟩ = some (.int .i64 c.A2) ∧ w'.cell? ⟨w.heap.size, 6, none⟩ = some (.int .i64 c.B2) ∧ w'.cell? ⟨w.heap.size + 1, 0, none⟩ = some (.slice a0 T.length cap) ∧ w'.cell? ⟨w.heap.size + 1, 1, none⟩ = some (.bool true) ∧ w.heap.size + 1 < w'.heap.size ∧ Below w.heap.size w w') (first | exact ⟨b0, b1, b2', b3, b4, b5, b6, x0, x1, hz, hB.drew⟩ | exact nine_keep (by assumption) (by assumption)) (first | (go_at_call 66; refine (vcan_any _ _ _ _ _ _ _ _).mono ?_; rintro e w1 ⟨rfl, hb⟩) | (go_at_call 150; refine (places_yes c _ hv0.out).mono ?_; rintro e w2 ⟨rfl, hb⟩))
        | fail
      rename_i hq
      obtain ⟨b0, b1, b2', b3, b4, b5, b6, x0, x1, hz, hB⟩ := hq
      go_wp2
      go_ret
      exact ⟨ret_bool hE.out.symm, hB⟩
    · have hE := hid (bodyV_rest (br := br) hlen (by cases br <;> simp_all))
      clear hlen
      cases br
      · clear hk
        go_enter Tryz.func177, Tryz.ntmps177
        go_wp2_with fail
        first
          | go_region_held3 (fun w' => w'.cell? ⟨w.heap.size, 0, none⟩ = some (.int .i64 c.R) ∧ w'.cell? ⟨w.heap.size, 1, none⟩ = some (.int .i64 c.L) ∧ w'.cell? ⟨w.heap.size, 2, none⟩ = some (.int .i64 c.A) ∧ w'.cell? ⟨w.heap.size, 3, none⟩ = some (.int .i64 c.B) ∧ w'.cell? ⟨w.heap.size, 4, none⟩ = some (.int .i64 c.K) ∧ w'.cell? ⟨w.heap.size, 5, none⟩ = some (.int .i64 c.A2) ∧ w'.cell? ⟨w.heap.size, 6, none⟩ = some (.int .i64 c.B2) ∧ w'.cell? ⟨w.heap.size + 1, 0, none⟩ = some (.slice a0 T.length cap) ∧ w'.cell? ⟨w.heap.size + 1, 1, none⟩ = some (.bool false) ∧ w.heap.size + 1 < w'.heap.size ∧ Below w.heap.size w w') (first | exact ⟨b0, b1, b2', b3, b4, b5, b6, x0, x1, hz, hB.drew⟩ | exact nine_keep (by assumption) (by assumption)) (first | (go_at_call 66; refine (vcan_any _ _ _ _ _ _ _ _).mono ?_; rintro e w1 ⟨rfl, hb⟩) | (go_at_call 150; refine (places_yes c _ hv0.out).mono ?_; rintro e w2 ⟨rfl, hb⟩))
          | fail
        rename_i hq
        obtain ⟨b0, b1, b2', b3, b4, b5, b6, x0, x1, hz, hB⟩ := hq
        go_wp2_with (go_at_call 149; refine (temps_any _ _ T (HL.out _ hB)).mono ?_; rintro e w3 ⟨rfl, rfl⟩)
        go_ret
        exact ⟨ret_bool hE.out.symm, hB⟩
      · have hk' : (c.K == 0) = false := by simpa using hk
        clear hk
        go_enter Tryz.func177, Tryz.ntmps177
        go_wp2_with fail
        first
          | go_region_held3 (fun w' => w'.cell? ⟨w.heap.size, 0, none⟩ = some (.int .i64 c.R) ∧ w'.cell? ⟨w.heap.size, 1, none⟩ = some (.int .i64 c.L) ∧ w'.cell? ⟨w.heap.size, 2, none⟩ = some (.int .i64 c.A) ∧ w'.cell? ⟨w.heap.size, 3, none⟩ = some (.int .i64 c.B) ∧ w'.cell? ⟨w.heap.size, 4, none⟩ = some (.int .i64 c.K) ∧ w'.cell? ⟨w.heap.size, 5, none⟩ = some (.int .i64 c.A2) ∧ w'.cell? ⟨w.heap.size, 6, none⟩ = some (.int .i64 c.B2) ∧ w'.cell? ⟨w.heap.size + 1, 0, none⟩ = some (.slice a0 T.length cap) ∧ w'.cell? ⟨w.heap.size + 1, 1, none⟩ = some (.bool true) ∧ w.heap.size + 1 < w'.heap.size ∧ Below w.heap.size w w') (first | exact ⟨b0, b1, b2', b3, b4, b5, b6, x0, x1, hz, hB.drew⟩ | exact nine_keep (by assumption) (by assumption)) (first | (go_at_call 66; refine (vcan_any _ _ _ _ _ _ _ _).mono ?_; rintro e w1 ⟨rfl, hb⟩) | (go_at_call 150; refine (places_yes c _ hv0.out).mono ?_; rintro e w2 ⟨rfl, hb⟩))
          | fail
        rename_i hq
        obtain ⟨b0, b1, b2', b3, b4, b5, b6, x0, x1, hz, hB⟩ := hq
        go_wp2_with (go_at_call 149; refine (temps_any _ _ T (HL.out _ hB)).mono ?_; rintro e w3 ⟨rfl, rfl⟩)
        go_ret
        exact ⟨ret_bool hE.out.symm, hB⟩
  · have hlen' : ((T.length : Int) == c.P) = false := by simp; omega
    have hlen2 : ((T.length : Int) != c.P) = true := by simp; omega
    have hE := hid (bodyV_len (br := br) hlen)
    clear hlen HL
    go_enter Tryz.func177, Tryz.ntmps177
    go_wp2_with fail
    first
      | go_region_held3 (fun w' => w'.cell? ⟨w.heap.size, 0, none⟩ = some (.int .i64 c.R) ∧ w'.cell? ⟨w.heap.size, 1, none⟩ = some (.int .i64 c.L) ∧ w'.cell? ⟨w.heap.size, 2, none⟩ = some (.int .i64 c.A) ∧ w'.cell? ⟨w.heap.size, 3, none⟩ = some (.int .i64 c.B) ∧ w'.cell? ⟨w.heap.size, 4, none⟩ = some (.int .i64 c.K) ∧ w'.cell? ⟨w.heap.size, 5, none⟩ = some (.int .i64 c.A2) ∧ w'.cell? ⟨w.heap.size, 6, none⟩ = some (.int .i64 c.B2) ∧ w'.cell? ⟨w.heap.size + 1, 0, none⟩ = some (.slice a0 T.length cap) ∧ w'.cell? ⟨w.heap.size + 1, 1, none⟩ = some (.bool br) ∧ w.heap.size + 1 < w'.heap.size ∧ Below w.heap.size w w') (first | exact ⟨b0, b1, b2', b3, b4, b5, b6, x0, x1, hz, hB.drew⟩ | exact nine_keep (by assumption) (by assumption)) (first | (go_at_call 66; refine (vcan_any _ _ _ _ _ _ _ _).mono ?_; rintro e w1 ⟨rfl, hb⟩) | (go_at_call 150; refine (places_yes c _ hv0.out).mono ?_; rintro e w2 ⟨rfl, hb⟩))
      | fail
    rename_i hq
    obtain ⟨b0, b1, b2', b3, b4, b5, b6, x0, x1, hz, hB⟩ := hq
    go_wp2
    go_ret
    exact ⟨ret_bool hE.out.symm, hB⟩
end Go.Proofs.YtihbjimnjhfpeaaGreat

/- Walks of ValidBody of the reference, of check and asked: contracts. -/
namespace Go.Proofs.YtihbjimnjhfpeaaGreat
open Go.RowKit


/-- The first error of a body in baths: b is whether the body is valid. -/
def chkE (b : Bool) (l : List Int) : Int := if b = false then 1 else if okL l then (if 2000 < l.length then 4 else 0) else 7
theorem chkE_no (l : List Int) : chkE false l = 1 := rfl
theorem chkE_bad {l : List Int} (h : okL l = false) : chkE true l = 7 := by unfold chkE; rw [if_neg (by simp), h]; rfl
theorem chkE_long {l : List Int} (h : okL l = true) (g : 2000 < l.length) : chkE true l = 4 := by unfold chkE; rw [if_neg (by simp), h, if_pos rfl, if_pos g]
theorem chkE_ok {l : List Int} (h : okL l = true) (g : ¬ 2000 < l.length) : chkE true l = 0 := by unfold chkE; rw [if_neg (by simp), h, if_pos rfl, if_neg g]
theorem chkE_cases (b : Bool) (l : List Int) : chkE b l ≠ 0 ∨ (chkE b l = 0 ∧ b = true ∧ okL l = true ∧ l.length ≤ 2000) := by
  cases b with
  | false => exact .inl (by rw [chkE_no]; decide)
  | true =>
    cases ho : okL l with
    | false => exact .inl (by rw [chkE_bad ho]; decide)
    | true =>
      by_cases g : 2000 < l.length
      · exact .inl (by rw [chkE_long ho g]; decide)
      · exact .inr ⟨chkE_ok ho g, rfl, rfl, by omega⟩

/-- Whether a can, and a body for it, are valid. -/
def bothB (r l a b k a2 b2 : Int) (T : List Int) (br : Bool) : Bool := canB r l a b k a2 b2 && bodyB true r l k T br
theorem bothB_cn (c : Cn) (h : c.V) (T : List Int) (br : Bool) : bothB c.R c.L c.A c.B c.K c.A2 c.B2 T br = bodyV c T br := by unfold bothB; rw [show canB (c.R : Int) c.L c.A c.B c.K c.A2 c.B2 = true from h]; rfl
theorem vboth_any (r l a b k a2 b2 : Int) (w : World) (v : Value) (T : List Int) (br : Bool) (hl : RowI w v T) :
    Calls Tryz.prog 177 #[.agg #[.int .i64 r, .int .i64 l, .int .i64 a, .int .i64 b, .int .i64 k, .int .i64 a2, .int .i64 b2], .agg #[v, .bool br]] w fun e w' => e = .returned (.bool (bothB r l a b k a2 b2 T br)) ∧ Below w.heap.size w w' := by
  cases hv : canB r l a b k a2 b2
  · have e0 : bothB r l a b k a2 b2 T br = false := by unfold bothB; rw [hv]; rfl
    rw [e0]
    exact vbody_can r l a b k a2 b2 w v T br hl hv
  · obtain ⟨c, hc, rfl, rfl, rfl, rfl, rfl, rfl, rfl⟩ := canB_cn hv
    rw [bothB_cn c hc]
    exact vbody_yes c w v T br hl hc

set_option maxHeartbeats 4000000 in
theorem check_any (r l a b k a2 b2 : Int) (w : World) (v : Value) (T : List Int) (br : Bool) (v2 : Value) (l2 : List Int) (hl : RowI w v T) (hl2 : RowI w v2 l2) :
    Calls Tryz.prog 165 #[.agg #[.int .i64 r, .int .i64 l, .int .i64 a, .int .i64 b, .int .i64 k, .int .i64 a2, .int .i64 b2], .agg #[v, .bool br], v2] w fun e w' => e = .returned (.int .i64 (chkE (bothB r l a b k a2 b2 T br) l2)) ∧ Below w.heap.size w w' := by
  have HL := hid (fun w1 (g : Below w.heap.size w w1) => hl.keep g)
  have HL2 := hid (fun w1 (g : Below w.heap.size w w1) => hl2.keep g)
  obtain ⟨a0, cap, rfl⟩ := hl.shape
  obtain ⟨a1, cap1, rfl⟩ := hl2.shape
  clear hl hl2
  obtain ⟨b0, b1, b2', b3, b4, b5, b6, x0, x1, hz, hB⟩ := nine_start (w := w) (c0 := .int .i64 r) (c1 := .int .i64 l) (c2 := .int .i64 a) (c3 := .int .i64 b) (c4 := .int .i64 k) (c5 := .int .i64 a2) (c6 := .int .i64 b2) (d0 := .slice a0 T.length cap) (d1 := .bool br) (T := 23) (T' := 87) (fz := (0, 0)) (fz' := (0, 0))
  cases hb0 : bothB r l a b k a2 b2 T br
  · have hE := hid (chkE_no l2)
    go_enter Tryz.func165, Tryz.ntmps165
    go_wp2_with (go_at_call 177; refine (vboth_any _ _ _ _ _ _ _ _ _ T _ (HL.out _ hB)).mono ?_; rintro e w1 ⟨rfl, hb⟩; obtain ⟨b0, b1, b2', b3, b4, b5, b6, x0, x1, hz, hB⟩ := nine_keep hb ⟨b0, b1, b2', b3, b4, b5, b6, x0, x1, hz, hB⟩; clear hb)
    go_ret
    exact ⟨ret_int hE.out.symm, hB⟩
  cases ho : okL l2
  · have hE := hid (chkE_bad ho)
    go_enter Tryz.func165, Tryz.ntmps165
    go_wp2_with (first | (go_at_call 177; refine (vboth_any _ _ _ _ _ _ _ _ _ T _ (HL.out _ hB)).mono ?_; rintro e w1 ⟨rfl, hb⟩; obtain ⟨b0, b1, b2', b3, b4, b5, b6, x0, x1, hz, hB⟩ := nine_keep hb ⟨b0, b1, b2', b3, b4, b5, b6, x0, x1, hz, hB⟩; clear hb) | (go_at_call 149; refine (temps_any _ _ l2 (HL2.out _ hB)).mono ?_; rintro e w2 ⟨rfl, rfl⟩))
    go_ret
    exact ⟨ret_int hE.out.symm, hB⟩
  by_cases g : 2000 < l2.length
  · have hE := hid (chkE_long ho g)
    have g' : (2000 : Int) < l2.length := by omega
    go_enter Tryz.func165, Tryz.ntmps165
    go_wp2_with (first | (go_at_call 177; refine (vboth_any _ _ _ _ _ _ _ _ _ T _ (HL.out _ hB)).mono ?_; rintro e w1 ⟨rfl, hb⟩; obtain ⟨b0, b1, b2', b3, b4, b5, b6, x0, x1, hz, hB⟩ := nine_keep hb ⟨b0, b1, b2', b3, b4, b5, b6, x0, x1, hz, hB⟩; clear hb) | (go_at_call 149; refine (temps_any _ _ l2 (HL2.out _ hB)).mono ?_; rintro e w2 ⟨rfl, rfl⟩))
    go_ret
    exact ⟨ret_int hE.out.symm, hB⟩
  · have hE := hid (chkE_ok ho g)
    have g' : ¬ (2000 : Int) < l2.length := by omega
    go_enter Tryz.func165, Tryz.ntmps165
    go_wp2_with (first | (go_at_call 177; refine (vboth_any _ _ _ _ _ _ _ _ _ T _ (HL.out _ hB)).mono ?_; rintro e w1 ⟨rfl, hb⟩; obtain ⟨b0, b1, b2', b3, b4, b5, b6, x0, x1, hz, hB⟩ := nine_keep hb ⟨b0, b1, b2', b3, b4, b5, b6, x0, x1, hz, hB⟩; clear hb) | (go_at_call 149; refine (temps_any _ _ l2 (HL2.out _ hB)).mono ?_; rintro e w2 ⟨rfl, rfl⟩))
    go_ret
    exact ⟨ret_int hE.out.symm, hB⟩
end Go.Proofs.YtihbjimnjhfpeaaGreat
