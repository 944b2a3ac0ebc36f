/- Walks of the reference's Running at nil, Sum, SumUp: contracts. -/
import Derived.Test.YtfngmpkceceomaaSf
namespace Go.Proofs.Ytfngmpkceceomaa
open Go.RowKit Go.Lib Go.Maps

set_option maxHeartbeats 4000000 in
theorem rRunning_nil (s : ByteArray) (r d g : Int) (Z : Nat) (a0 : Option Addr) (cap0 : Nat) (w : World) (hs : s.size ≤ maxLen) (hv : validB s.data.toList r Z d g = true) :
    Calls Try.prog 43 #[.agg #[.string s, .int .i64 r, .int .i64 Z, .int .i64 d, .int .i64 g], .slice a0 0 cap0] w (RunP (dn r Z) [] w) := by
  have HA := hid (askE_ok (l := []) (by simp) rfl)
  have HLI : Hid (RowI (w.alloc (.cells #[.string s, .int .i64 r, .int .i64 Z, .int .i64 d, .int .i64 g] 23)) (.slice a0 0 cap0) []) := .inl ⟨_, _, rfl, rfl⟩
  go_enter Try.func43, Try.ntmps43
  go_wp2_with (first
    | (go_at_call 72; refine (asked_any _ _ _ _ _ _ hs _ [] HLI.out).mono ?_; rintro e w1 ⟨rfl, hb1⟩; rw [hv, HA.out]; obtain ⟨b0, b1, b2, b3, b4, hz, hB⟩ := box5_below hb1; clear hb1)
    | (go_at_call 73; refine (for_any _ _ _ _ _ _ hs).mono ?_; rintro e w2 ⟨p, vD, vU, rfl, hF⟩; have HF := hid hF; clear hF))
  obtain ⟨gD, gU, hK, hp, hgD, hgU⟩ := for_kept HF.out
  have HK := hid hK; have HB := hid hB
  clear hK hp hgD hgU HF b0 b1 b2 b3 b4 hz hB HLI
  refine wp_loop_rounds 1 ?_
  rw [rounds_succ]
  go_wp2
  go_ret2
  exact ⟨_, rfl, .inl ⟨rfl, rfl⟩, HB.out.trans (HK.out.low.mono HB.out.size)⟩
theorem rRunning_ok (s : ByteArray) (r d g : Int) (Z : Nat) (w : World) (hs : s.size ≤ maxLen) (v : Value) (l : List Int) (hl : RowI w v l) (hv : validB s.data.toList r Z d g = true) (ho : okL l = true) (hlen : l.length ≤ 10000) :
    Calls Try.prog 43 #[.agg #[.string s, .int .i64 r, .int .i64 Z, .int .i64 d, .int .i64 g], v] w (RunP (dn r Z) l w) := by
  rcases hl with ⟨a0, cap0, rfl, rfl⟩ | ⟨b, o, cap, rfl, hm, hc⟩
  · exact rRunning_nil s r d g Z a0 cap0 w hs hv
  · exact rRunning_yes s r d g Z w hs b o cap l hv ho hlen hc
theorem ask_cases (v : Bool) (l : List Int) : askE v l ≠ 0 ∨ (askE v l = 0 ∧ v = true ∧ okL l = true ∧ l.length ≤ 10000) := by
  cases v with
  | false => exact .inl (by rw [askE_inv]; decide)
  | true =>
    by_cases h : 10000 < l.length
    · exact .inl (by rw [askE_long h]; decide)
    · cases ho : okL l with
      | false => exact .inl (by rw [askE_bad h ho]; decide)
      | true => exact .inr ⟨askE_ok h ho, rfl, rfl, by omega⟩

/-- What Sum and SumUp answer. -/
def sumA (v : Bool) (f : Int → Nat) (l : List Int) : Int := if askE v l = 0 then (sumL f l : Nat) else 0
theorem sumA_no {v : Bool} {f : Int → Nat} {l : List Int} (h : askE v l ≠ 0) : sumA v f l = 0 := if_neg h
theorem sumA_ok {v : Bool} {f : Int → Nat} {l : List Int} (h : askE v l = 0) : sumA v f l = (sumL f l : Nat) := if_pos h
theorem RowR.two {w : World} {v : Value} {l : List Nat} (h : RowR w v l) : (v = .slice none 0 0 ∧ l = []) ∨ ∃ g cap, v = .slice (some ⟨g, 0, none⟩) l.length cap ∧ ∀ k (h : k < l.length), w.cell? ⟨g, k, none⟩ = some (.int .i64 (l[k] : Nat)) := h

set_option maxHeartbeats 4000000 in
theorem rSum_no (s : ByteArray) (r z d g : Int) (w : World) (hs : s.size ≤ maxLen) (v : Value) (l : List Int) (hl : RowI w v l) (hne : askE (validB s.data.toList r z d g) l ≠ 0) :
    Calls Try.prog 39 #[.agg #[.string s, .int .i64 r, .int .i64 z, .int .i64 d, .int .i64 g], v] w fun e w' => e = .returned (.tuple #[.int .i64 0, .int .i64 (askE (validB s.data.toList r z d g) l)]) ∧ Below w.heap.size w w' := by
  obtain ⟨c, hc⟩ : ∃ c, c = askE (validB s.data.toList r z d g) l := ⟨_, rfl⟩
  have hne' := hne
  rw [← hc] at hne ⊢
  have HC := hid hc; clear hc
  have HNE := hid hne'; clear hne'
  have hb : (c == 0) = false := by simpa using hne
  have HL := hid (RowI.keep hl (((Below.refl _ w).alloc (Nat.le_refl _) (.cells #[.string s, .int .i64 r, .int .i64 z, .int .i64 d, .int .i64 g] 23))))
  go_enter Try.func39, Try.ntmps39
  go_wp2_with (go_at_call 43; refine (rRunning_no _ _ _ _ _ _ hs _ l HL.out HNE.out).mono ?_; rintro e w1 ⟨rfl, hb1⟩; rw [← HC.out]; obtain ⟨b0, b1, b2, b3, b4, hz, hB⟩ := box5_below hb1; clear hb1)
  go_ret2
  exact ⟨rfl, hB⟩
theorem runK_last (f : Int → Nat) (l : List Int) (k : Nat) (h : k < (runK f l l.length).length) (hk : k + 1 = l.length) : (runK f l l.length)[k] = sumL f l := by
  simp [runK, hk]

set_option maxHeartbeats 4000000 in
theorem rSum_ok (s : ByteArray) (r d g : Int) (Z : Nat) (w : World) (hs : s.size ≤ maxLen) (v : Value) (l : List Int) (hl : RowI w v l) (hv : validB s.data.toList r Z d g = true) (ho : okL l = true) (hlen : l.length ≤ 10000) :
    Calls Try.prog 39 #[.agg #[.string s, .int .i64 r, .int .i64 Z, .int .i64 d, .int .i64 g], v] w fun e w' => e = .returned (.tuple #[.int .i64 (sumL (dn r Z) l : Nat), .int .i64 0]) ∧ Below w.heap.size w w' := by
  have HL := hid (RowI.keep hl (((Below.refl _ w).alloc (Nat.le_refl _) (.cells #[.string s, .int .i64 r, .int .i64 Z, .int .i64 d, .int .i64 g] 23))))
  have HO := hid ho
  clear hl ho
  go_enter Try.func39, Try.ntmps39
  go_wp2_with fail
  refine (rRunning_ok _ _ _ _ Z _ hs _ l HL.out hv HO.out hlen).mono ?_
  rintro e w1 ⟨v1, rfl, hr1, hb1⟩
  obtain ⟨b0, b1, b2, b3, b4, hz, hB⟩ := box5_below hb1
  clear hb1 b0 b1 b2 b3 b4 hz
  rcases hr1.two with ⟨rfl, hnil⟩ | ⟨ga, ca, rfl, hc⟩
  · have h0 : l = [] := List.length_eq_zero_iff.1 (by have := congrArg List.length hnil; rw [runK_len] at this; exact this)
    have HS : Hid (sumL (dn r Z) l = 0) := by rw [h0]; rfl
    go_wp2
    go_ret2
    exact ⟨by rw [HS.out]; rfl, hB⟩
  · have HC := hid hc; clear hc hr1
    have hrl := runK_len (dn r Z) l l.length
    rw [hrl]
    by_cases h0 : l.length = 0
    · have HS : Hid (sumL (dn r Z) l = 0) := by rw [List.length_eq_zero_iff.1 h0]; rfl
      go_wp2
      go_ret2
      exact ⟨by rw [HS.out]; rfl, hB⟩
    · obtain ⟨k, hk⟩ : ∃ k, l.length = k + 1 := ⟨l.length - 1, by omega⟩
      have ex := HC.out k (by rw [hrl]; omega)
      rw [runK_last (dn r Z) l k (by rw [hrl]; omega) hk.symm] at ex
      rw [hk]
      have hlk : k < k + 1 := by omega
      clear h0 hrl
      obtain ⟨x, hX⟩ : ∃ x, x = sumL (dn r Z) l := ⟨_, rfl⟩
      rw [← hX] at ex
      have HX := hid hX; clear hX
      go_wp2
      go_ret2
      exact ⟨by rw [← HX.out]; rfl, hB⟩
end Go.Proofs.Ytfngmpkceceomaa
