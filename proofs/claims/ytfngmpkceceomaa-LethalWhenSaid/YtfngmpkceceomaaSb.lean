/- Walks of asked and checkTemps: contracts. -/
import Derived.Test.YtfngmpkceceomaaSa
namespace Go.Proofs.Ytfngmpkceceomaa
open Go.RowKit Go.Lib Go.Maps

/-- A slice of ints that is read, from any place of a row. -/
def RowI (w : World) (v : Value) (l : List Int) : Prop := (∃ a cap, v = .slice a 0 cap ∧ l = []) ∨ ∃ b o cap, v = .slice (some ⟨b, o, none⟩) l.length cap ∧ l.length ≤ maxLen ∧ ∀ k (h : k < l.length), w.cell? ⟨b, o + k, none⟩ = some (.int .i64 l[k])
theorem RowI.keep {W w2 : World} {v : Value} {l : List Int} (h : RowI W v l) (hb : Below W.heap.size W w2) : RowI w2 v l := by
  rcases h with h | ⟨b, o, cap, hv, hm, hc⟩
  · exact .inl h
  · exact .inr ⟨b, o, cap, hv, hm, fun k hk => keep_cell hb (hc k hk)⟩
def okT (t : Int) : Bool := decide (-50000 ≤ t) && decide (t ≤ 200000)
def okL (l : List Int) : Bool := l.all okT
theorem okL_all {l : List Int} (h : okL l = true) (k : Nat) (hk : k < l.length) : okT l[k] = true := List.all_eq_true.1 h _ (List.getElem_mem hk)
theorem okL_end {l : List Int} {k : Nat} (h : ∀ j (hj : j < l.length), j < k → okT l[j] = true) (hk : k = l.length) : okL l = true := by
  subst hk
  refine List.all_eq_true.2 fun x hx => ?_
  obtain ⟨j, hj, rfl⟩ := List.getElem_of_mem hx
  exact h j hj hj
theorem okL_bad {l : List Int} {k : Nat} (hk : k < l.length) (h : okT l[k] = false) : okL l = false := by
  cases ho : okL l with
  | false => rfl
  | true => rw [okL_all ho k hk] at h; cases h
/-- The first error of temperatures. -/
def askE (v : Bool) (l : List Int) : Int := if v = false then 1 else if 10000 < l.length then 4 else if okL l then 0 else 7
theorem askE_inv (l : List Int) : askE false l = 1 := rfl
theorem askE_long {l : List Int} (h : 10000 < l.length) : askE true l = 4 := by unfold askE; rw [if_neg (by simp), if_pos h]
theorem askE_ok {l : List Int} (h : ¬ 10000 < l.length) (ho : okL l = true) : askE true l = 0 := by unfold askE; rw [if_neg (by simp), if_neg h, ho]; rfl
theorem askE_bad {l : List Int} (h : ¬ 10000 < l.length) (ho : okL l = false) : askE true l = 7 := by unfold askE; rw [if_neg (by simp), if_neg h, ho]; rfl

set_option maxHeartbeats 4000000 in
theorem asked_any (s : ByteArray) (r z d g : Int) (w : World) (hs : s.size ≤ maxLen) (v : Value) (l : List Int) (hl : RowI w v l) :
    Calls Try.prog 72 #[.agg #[.string s, .int .i64 r, .int .i64 z, .int .i64 d, .int .i64 g], v] w fun e w' => e = .returned (.int .i64 (askE (validB s.data.toList r z d g) l)) ∧ Below w.heap.size w w' := by
  have hshape : ∃ a cap, v = .slice a l.length cap := by
    rcases hl with ⟨_, _, rfl, rfl⟩ | ⟨b, o, cap, rfl, _, _⟩
    · exact ⟨_, _, rfl⟩
    · exact ⟨_, _, rfl⟩
  cases hv : validB s.data.toList r z d g
  · obtain ⟨a, cap, rfl⟩ := hshape
    clear hl
    go_enter Try.func72, Try.ntmps72
    go_wp2_with (go_at_call 18; refine (rvalid_any _ _ _ _ _ _ hs).mono ?_; rintro e w1 ⟨rfl, hb⟩; obtain ⟨b0, b1, b2, b3, b4, hz, hB⟩ := box5_below hb; clear hb)
    go_ret
    exact ⟨rfl, hB⟩
  by_cases hlen : 10000 < l.length
  · obtain ⟨a, cap, rfl⟩ := hshape
    clear hl
    have hE := hid (askE_long hlen)
    have hlen' : (10000 : Int) < l.length := by omega
    go_enter Try.func72, Try.ntmps72
    go_wp2_with (go_at_call 18; refine (rvalid_any _ _ _ _ _ _ hs).mono ?_; rintro e w1 ⟨rfl, hb⟩; obtain ⟨b0, b1, b2, b3, b4, hz, hB⟩ := box5_below hb; clear hb)
    go_ret
    exact ⟨by rw [hE.out]; rfl, hB⟩
  have hlen' : ¬ (10000 : Int) < l.length := by omega
  have HL := hid hl
  rcases hl with ⟨a0, c0, rfl, rfl⟩ | ⟨b, o, cap, rfl, hm, hc⟩
  · have hE := hid (askE_ok hlen (show okL [] = true from rfl))
    go_enter Try.func72, Try.ntmps72
    go_wp2_with (go_at_call 18; refine (rvalid_any _ _ _ _ _ _ hs).mono ?_; rintro e w1 ⟨rfl, hb⟩; obtain ⟨b0, b1, b2, b3, b4, hz, hB⟩ := box5_below hb; clear hb)
    refine wp_loop_rounds 1 ?_
    rw [rounds_succ]
    go_wp2
    go_ret
    exact ⟨by rw [hE.out]; rfl, hB⟩
  · have HC := hid hc; clear hc hshape
    go_enter Try.func72, Try.ntmps72
    go_wp2_with (go_at_call 18; refine (rvalid_any _ _ _ _ _ _ hs).mono ?_; rintro e w1 ⟨rfl, hb⟩; have HC1 := hid (fun k hk => keep_cell (balloc hb) (HC.out k hk)); obtain ⟨b0, b1, b2, b3, b4, hz, hB⟩ := box5_below hb; clear hb)
    have HB := hid hB; clear hB b0 b1 b2 b3 b4 hz
    go_loopw [5] (fun i wr => ∃ k : Nat, k ≤ l.length ∧ i = .int .i64 (k : Int) ∧ Hid (∀ j (hj : j < l.length), j < k → okT l[j] = true) ∧ wr = w1) (fun i _ => l.length - (intOf i).toNat)
    case atStart => exact ⟨0, Nat.zero_le _, rfl, fun j _ h => absurd h (Nat.not_lt_zero _), rfl⟩
    case round =>
      obtain ⟨k, hk, rfl, hok, rfl⟩ := hrel
      by_cases hlt : k < l.length
      · have ex := HC1.out k hlt
        have hlt' : (k : Int) < l.length := by omega
        cases ho : okT l[k]
        · have hE := hid (askE_bad hlen (okL_bad hlt ho))
          generalize l[k] = x at ex ho
          change (decide (-50000 ≤ x) && decide (x ≤ 200000)) = false at ho
          go_wp2_with (go_at_call 58; refine (rwithin_any _ _ _ _).mono ?_; rintro e w' ⟨rfl, rfl⟩)
          go_ret
          exact ⟨by rw [hE.out]; rfl, HB.out⟩
        · have hst : Hid (∀ j (hj : j < l.length), j < k + 1 → okT l[j] = true) := fun j hj h => by
            rcases Nat.lt_or_ge j k with h1 | h1
            · exact hok.out j hj h1
            · obtain rfl : j = k := by omega
              exact ho
          generalize l[k] = x at ex ho
          change (decide (-50000 ≤ x) && decide (x ≤ 200000)) = true at ho
          go_wp2_with (go_at_call 58; refine (rwithin_any _ _ _ _).mono ?_; rintro e w' ⟨rfl, rfl⟩)
          go_roundw
          case rel => exact ⟨k + 1, by omega, by go_num, hst, by first | trivial | rfl⟩
          case measure => simp [intOf]; omega
      · obtain rfl : k = l.length := by omega
        have hE := hid (askE_ok hlen (okL_end hok.out rfl))
        go_wp2
        go_ret
        exact ⟨by rw [hE.out]; rfl, HB.out⟩

set_option maxHeartbeats 4000000 in
theorem checkTemps_any (s : ByteArray) (r z d g : Int) (w : World) (hs : s.size ≤ maxLen) (v : Value) (l : List Int) (hl : RowI w v l) :
    Calls Try.prog 68 #[.agg #[.string s, .int .i64 r, .int .i64 z, .int .i64 d, .int .i64 g], v] w fun e w' => e = .returned (.int .i64 (askE (validB s.data.toList r z d g) l)) ∧ Below w.heap.size w w' := by
  have hshape : ∃ a cap, v = .slice a l.length cap := by
    rcases hl with ⟨_, _, rfl, rfl⟩ | ⟨b, o, cap, rfl, _, _⟩
    · exact ⟨_, _, rfl⟩
    · exact ⟨_, _, rfl⟩
  cases hv : validB s.data.toList r z d g
  · obtain ⟨a, cap, rfl⟩ := hshape
    clear hl
    go_enter Try.func68, Try.ntmps68
    go_wp2_with (go_at_call 17; refine (lvalid_any _ _ _ _ _ _ hs).mono ?_; rintro e w1 ⟨rfl, hb⟩; obtain ⟨b0, b1, b2, b3, b4, hz, hB⟩ := box5_below hb; clear hb)
    go_ret
    exact ⟨rfl, hB⟩
  by_cases hlen : 10000 < l.length
  · obtain ⟨a, cap, rfl⟩ := hshape
    clear hl
    have hE := hid (askE_long hlen)
    have hlen' : (10000 : Int) < l.length := by omega
    go_enter Try.func68, Try.ntmps68
    go_wp2_with (go_at_call 17; refine (lvalid_any _ _ _ _ _ _ hs).mono ?_; rintro e w1 ⟨rfl, hb⟩; obtain ⟨b0, b1, b2, b3, b4, hz, hB⟩ := box5_below hb; clear hb)
    go_ret
    exact ⟨by rw [hE.out]; rfl, hB⟩
  have hlen' : ¬ (10000 : Int) < l.length := by omega
  rcases hl with ⟨a0, c0, rfl, rfl⟩ | ⟨b, o, cap, rfl, hm, hc⟩
  · have hE := hid (askE_ok hlen (show okL [] = true from rfl))
    go_enter Try.func68, Try.ntmps68
    go_wp2_with (go_at_call 17; refine (lvalid_any _ _ _ _ _ _ hs).mono ?_; rintro e w1 ⟨rfl, hb⟩; obtain ⟨b0, b1, b2, b3, b4, hz, hB⟩ := box5_below hb; clear hb)
    refine wp_loop_rounds 1 ?_
    rw [rounds_succ]
    go_wp2
    go_ret
    exact ⟨by rw [hE.out]; rfl, hB⟩
  · have HC := hid hc; clear hc hshape
    go_enter Try.func68, Try.ntmps68
    go_wp2_with (go_at_call 17; refine (lvalid_any _ _ _ _ _ _ hs).mono ?_; rintro e w1 ⟨rfl, hb⟩; have HC1 := hid (fun k hk => keep_cell (balloc hb) (HC.out k hk)); obtain ⟨b0, b1, b2, b3, b4, hz, hB⟩ := box5_below hb; clear hb)
    have HB := hid hB; clear hB b0 b1 b2 b3 b4 hz
    go_loopw [15] (fun i wr => ∃ k : Nat, k ≤ l.length ∧ i = .int .i64 (k : Int) ∧ Hid (∀ j (hj : j < l.length), j < k → okT l[j] = true) ∧ wr = w1) (fun i _ => l.length - (intOf i).toNat)
    case atStart => exact ⟨0, Nat.zero_le _, rfl, fun j _ h => absurd h (Nat.not_lt_zero _), rfl⟩
    case round =>
      obtain ⟨k, hk, rfl, hok, rfl⟩ := hrel
      by_cases hlt : k < l.length
      · have ex := HC1.out k hlt
        have hlt' : (k : Int) < l.length := by omega
        cases ho : okT l[k]
        · have hE := hid (askE_bad hlen (okL_bad hlt ho))
          generalize l[k] = x at ex ho
          change (decide (-50000 ≤ x) && decide (x ≤ 200000)) = false at ho
          go_wp2_with (go_at_call 57; refine (within_any _ _ _ _).mono ?_; rintro e w' ⟨rfl, rfl⟩)
          go_ret
          exact ⟨by rw [hE.out]; rfl, HB.out⟩
        · have hst : Hid (∀ j (hj : j < l.length), j < k + 1 → okT l[j] = true) := fun j hj h => by
            rcases Nat.lt_or_ge j k with h1 | h1
            · exact hok.out j hj h1
            · obtain rfl : j = k := by omega
              exact ho
          generalize l[k] = x at ex ho
          change (decide (-50000 ≤ x) && decide (x ≤ 200000)) = true at ho
          go_wp2_with (go_at_call 57; refine (within_any _ _ _ _).mono ?_; rintro e w' ⟨rfl, rfl⟩)
          go_roundw
          case rel => exact ⟨k + 1, by omega, by go_num, hst, by first | trivial | rfl⟩
          case measure => simp [intOf]; omega
      · obtain rfl : k = l.length := by omega
        have hE := hid (askE_ok hlen (okL_end hok.out rfl))
        go_wp2
        go_ret
        exact ⟨by rw [hE.out]; rfl, HB.out⟩
end Go.Proofs.Ytfngmpkceceomaa
