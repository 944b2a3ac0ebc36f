/- Walks of Table of both where there is none: contracts. -/
import Derived.Test.YtfcngnoelmlakaaTc
namespace Go.Proofs.Ytfcngnoelmlakaa
open Go.RowKit Go.Lib

def tabB (lo hi : Int) : Bool := decide (-1000 ≤ lo) && decide (lo ≤ 2000) && (decide (lo ≤ hi) && decide (hi ≤ 2000)) && decide (hi - lo ≤ 1000)
def tabE (v : Bool) : Int := if v then 7 else 1

set_option maxHeartbeats 4000000 in
theorem lTable_no (s : ByteArray) (r z d g : Int) (w : World) (hs : s.size ≤ maxLen) (lo hi : Int) (h : (validB s.data.toList r z d g && tabB lo hi) = false) :
    Calls Try.prog 31 #[.agg #[.string s, .int .i64 r, .int .i64 z, .int .i64 d, .int .i64 g], .int .i64 lo, .int .i64 hi] w fun e w' => e = .returned (.tuple #[.slice none 0 0, .int .i64 (tabE (validB s.data.toList r z d g))]) ∧ Below w.heap.size w w' := by
  cases hv : validB s.data.toList r z d g
  · go_enter Try.func31, Try.ntmps31
    go_wp2_with (first | (go_at_call 17; refine (lvalid_any _ _ _ _ _ _ hs).mono ?_; rintro e w1 ⟨rfl, hb⟩; obtain ⟨b0, b1, b2, b3, b4, hz, hB⟩ := box5_below hb; clear hb) | (go_at_call 57; refine (within_any _ _ _ _).mono ?_; rintro e w1 ⟨rfl, rfl⟩))
    go_ret2
    exact ⟨rfl, hB⟩
  rw [hv, Bool.true_and] at h
  cases h1 : (decide (-1000 ≤ lo) && decide (lo ≤ 2000))
  · go_enter Try.func31, Try.ntmps31
    go_wp2_with (first | (go_at_call 17; refine (lvalid_any _ _ _ _ _ _ hs).mono ?_; rintro e w1 ⟨rfl, hb⟩; obtain ⟨b0, b1, b2, b3, b4, hz, hB⟩ := box5_below hb; clear hb) | (go_at_call 57; refine (within_any _ _ _ _).mono ?_; rintro e w1 ⟨rfl, rfl⟩))
    go_ret2
    exact ⟨rfl, hB⟩
  cases h2 : (decide (lo ≤ hi) && decide (hi ≤ 2000))
  · go_enter Try.func31, Try.ntmps31
    go_wp2_with (first | (go_at_call 17; refine (lvalid_any _ _ _ _ _ _ hs).mono ?_; rintro e w1 ⟨rfl, hb⟩; obtain ⟨b0, b1, b2, b3, b4, hz, hB⟩ := box5_below hb; clear hb) | (go_at_call 57; refine (within_any _ _ _ _).mono ?_; rintro e w1 ⟨rfl, rfl⟩))
    go_ret2
    exact ⟨rfl, hB⟩
  have h3 : ¬ hi - lo ≤ 1000 := by
    unfold tabB at h; rw [h1, h2] at h; simpa using h
  have l1 : -1000 ≤ lo ∧ lo ≤ 2000 := by simpa using h1
  have l2 : lo ≤ hi ∧ hi ≤ 2000 := by simpa using h2
  obtain ⟨l1, l3⟩ := l1
  obtain ⟨l2, l4⟩ := l2
  go_enter Try.func31, Try.ntmps31
  go_wp2_with (first | (go_at_call 17; refine (lvalid_any _ _ _ _ _ _ hs).mono ?_; rintro e w1 ⟨rfl, hb⟩; obtain ⟨b0, b1, b2, b3, b4, hz, hB⟩ := box5_below hb; clear hb) | (go_at_call 57; refine (within_any _ _ _ _).mono ?_; rintro e w1 ⟨rfl, rfl⟩))
  go_ret2
  exact ⟨rfl, hB⟩

set_option maxHeartbeats 4000000 in
theorem rTable_no (s : ByteArray) (r z d g : Int) (w : World) (hs : s.size ≤ maxLen) (lo hi : Int) (h : (validB s.data.toList r z d g && tabB lo hi) = false) :
    Calls Try.prog 32 #[.agg #[.string s, .int .i64 r, .int .i64 z, .int .i64 d, .int .i64 g], .int .i64 lo, .int .i64 hi] w fun e w' => e = .returned (.tuple #[.slice none 0 0, .int .i64 (tabE (validB s.data.toList r z d g))]) ∧ Below w.heap.size w w' := by
  cases hv : validB s.data.toList r z d g
  · go_enter Try.func32, Try.ntmps32
    go_wp2_with (first | (go_at_call 18; refine (rvalid_any _ _ _ _ _ _ hs).mono ?_; rintro e w1 ⟨rfl, hb⟩; obtain ⟨b0, b1, b2, b3, b4, hz, hB⟩ := box5_below hb; clear hb) | (go_at_call 65; refine (told_any _ _).mono ?_; rintro e w1 ⟨rfl, rfl⟩))
    go_ret2
    exact ⟨rfl, hB⟩
  rw [hv, Bool.true_and] at h
  cases h1 : (decide (-1000 ≤ lo) && decide (lo ≤ 2000))
  · go_enter Try.func32, Try.ntmps32
    go_wp2_with (first | (go_at_call 18; refine (rvalid_any _ _ _ _ _ _ hs).mono ?_; rintro e w1 ⟨rfl, hb⟩; obtain ⟨b0, b1, b2, b3, b4, hz, hB⟩ := box5_below hb; clear hb) | (go_at_call 65; refine (told_any _ _).mono ?_; rintro e w1 ⟨rfl, rfl⟩))
    go_ret2
    exact ⟨rfl, hB⟩
  cases h2 : (decide (-1000 ≤ hi) && decide (hi ≤ 2000))
  · go_enter Try.func32, Try.ntmps32
    go_wp2_with (first | (go_at_call 18; refine (rvalid_any _ _ _ _ _ _ hs).mono ?_; rintro e w1 ⟨rfl, hb⟩; obtain ⟨b0, b1, b2, b3, b4, hz, hB⟩ := box5_below hb; clear hb) | (go_at_call 65; refine (told_any _ _).mono ?_; rintro e w1 ⟨rfl, rfl⟩))
    go_ret2
    exact ⟨rfl, hB⟩
  have l1 : -1000 ≤ lo ∧ lo ≤ 2000 := by simpa using h1
  have l2 : -1000 ≤ hi ∧ hi ≤ 2000 := by simpa using h2
  have h3 : ¬ (lo ≤ hi ∧ hi - lo ≤ 1000) := by
    intro h3
    have h4 : (decide (lo ≤ hi) && decide (hi ≤ 2000)) = true := by simp; omega
    unfold tabB at h; rw [h1, h4] at h; simp at h; omega
  obtain ⟨l1, l3⟩ := l1
  obtain ⟨l2, l4⟩ := l2
  by_cases h4 : lo ≤ hi
  · have h5 : ¬ hi - lo ≤ 1000 := by omega
    clear h3
    go_enter Try.func32, Try.ntmps32
    go_wp2_with (first | (go_at_call 18; refine (rvalid_any _ _ _ _ _ _ hs).mono ?_; rintro e w1 ⟨rfl, hb⟩; obtain ⟨b0, b1, b2, b3, b4, hz, hB⟩ := box5_below hb; clear hb) | (go_at_call 65; refine (told_any _ _).mono ?_; rintro e w1 ⟨rfl, rfl⟩))
    go_ret2
    exact ⟨rfl, hB⟩
  · clear h3
    go_enter Try.func32, Try.ntmps32
    go_wp2_with (first | (go_at_call 18; refine (rvalid_any _ _ _ _ _ _ hs).mono ?_; rintro e w1 ⟨rfl, hb⟩; obtain ⟨b0, b1, b2, b3, b4, hz, hB⟩ := box5_below hb; clear hb) | (go_at_call 65; refine (told_any _ _).mono ?_; rintro e w1 ⟨rfl, rfl⟩))
    go_ret2
    exact ⟨rfl, hB⟩

theorem RowR.shape {w : World} {v : Value} {l : List Nat} (h : RowR w v l) (hl : l ≠ []) : ∃ g cap, v = .slice (some ⟨g, 0, none⟩) l.length cap ∧ ∀ k (h : k < l.length), w.cell? ⟨g, k, none⟩ = some (.int .i64 (l[k] : Nat)) := by
  rcases h with ⟨_, h⟩ | h
  · exact absurd h hl
  · exact h
end Go.Proofs.Ytfcngnoelmlakaa
