/- Walk of the reference's SumUp: contracts. -/
import Derived.Test.YtfngmpkceceomaaSg
namespace Go.Proofs.Ytfngmpkceceomaa
open Go.RowKit Go.Lib Go.Maps

set_option maxHeartbeats 4000000 in
theorem rSumUp_no (s : ByteArray) (r z d g : Int) (w : World) (hs : s.size ≤ maxLen) (v : Value) (l : List Int) (hl : RowI w v l) (hne : askE (validB s.data.toList r z d g) l ≠ 0) :
    Calls Try.prog 41 #[.agg #[.string s, .int .i64 r, .int .i64 z, .int .i64 d, .int .i64 g], v] w fun e w' => e = .returned (.tuple #[.int .i64 0, .int .i64 (askE (validB s.data.toList r z d g) l)]) ∧ Below w.heap.size w w' := by
  obtain ⟨c, hc⟩ : ∃ c, c = askE (validB s.data.toList r z d g) l := ⟨_, rfl⟩
  rw [← hc] at hne ⊢
  have HC := hid hc; clear hc
  have hb : (c == 0) = false := by simpa using hne
  have HL := hid (RowI.keep hl (((Below.refl _ w).alloc (Nat.le_refl _) (.cells #[.string s, .int .i64 r, .int .i64 z, .int .i64 d, .int .i64 g] 23))))
  go_enter Try.func41, Try.ntmps41
  go_wp2_with (go_at_call 72; refine (asked_any _ _ _ _ _ _ hs _ l HL.out).mono ?_; rintro e w1 ⟨rfl, hb1⟩; rw [← HC.out]; obtain ⟨b0, b1, b2, b3, b4, hz, hB⟩ := box5_below hb1; clear hb1)
  go_ret2
  exact ⟨rfl, hB⟩

set_option maxHeartbeats 4000000 in
theorem rSumUp_nil (s : ByteArray) (r d g : Int) (Z : Nat) (a0 : Option Addr) (cap0 : Nat) (w : World) (hs : s.size ≤ maxLen) (hv : validB s.data.toList r Z d g = true) :
    Calls Try.prog 41 #[.agg #[.string s, .int .i64 r, .int .i64 Z, .int .i64 d, .int .i64 g], .slice a0 0 cap0] w fun e w' => e = .returned (.tuple #[.int .i64 (sumL (up r Z) [] : Nat), .int .i64 0]) ∧ Below w.heap.size w w' := by
  have HA := hid (askE_ok (l := []) (by simp) rfl)
  have HLI : Hid (RowI (w.alloc (.cells #[.string s, .int .i64 r, .int .i64 Z, .int .i64 d, .int .i64 g] 23)) (.slice a0 0 cap0) []) := .inl ⟨_, _, rfl, rfl⟩
  go_enter Try.func41, Try.ntmps41
  go_wp2_with (first
    | (go_at_call 72; refine (asked_any _ _ _ _ _ _ hs _ [] HLI.out).mono ?_; rintro e w1 ⟨rfl, hb1⟩; rw [hv, HA.out]; obtain ⟨b0, b1, b2, b3, b4, hz, hB⟩ := box5_below hb1; clear hb1)
    | (go_at_call 73; refine (for_any _ _ _ _ _ _ hs).mono ?_; rintro e w2 ⟨p, vD, vU, rfl, hF⟩; have HF := hid hF; clear hF))
  obtain ⟨gD, gU, hK, hp, hgD, hgU⟩ := for_kept HF.out
  have HK := hid hK; have HB := hid hB
  clear hK hp hgD hgU HF b0 b1 b2 b3 b4 hz hB HLI
  refine wp_loop_rounds 1 ?_
  rw [rounds_succ]
  go_wp2
  go_ret2
  exact ⟨rfl, HB.out.trans (HK.out.low.mono HB.out.size)⟩

set_option maxHeartbeats 8000000 in
theorem rSumUp_yes (s : ByteArray) (r d g : Int) (Z : Nat) (w : World) (hs : s.size ≤ maxLen) (b o cap : Nat) (l : List Int) (hv : validB s.data.toList r Z d g = true) (ho : okL l = true) (hlen : l.length ≤ 10000)
    (hl : ∀ k (h : k < l.length), w.cell? ⟨b, o + k, none⟩ = some (.int .i64 l[k])) :
    Calls Try.prog 41 #[.agg #[.string s, .int .i64 r, .int .i64 Z, .int .i64 d, .int .i64 g], .slice (some ⟨b, o, none⟩) l.length cap] w fun e w' => e = .returned (.tuple #[.int .i64 (sumL (up r Z) l : Nat), .int .i64 0]) ∧ Below w.heap.size w w' := by
  obtain ⟨_, ⟨r1, r2⟩, ⟨z1, z2⟩, _, _⟩ := validB_iff.1 hv
  have HA := hid (askE_ok (l := l) (by omega) ho)
  have HLI : Hid (RowI (w.alloc (.cells #[.string s, .int .i64 r, .int .i64 Z, .int .i64 d, .int .i64 g] 23)) (.slice (some ⟨b, o, none⟩) l.length cap) l) := RowI.keep (.inr ⟨b, o, cap, rfl, by unfold maxLen; omega, hl⟩) ((Below.refl _ w).alloc (Nat.le_refl _) _)
  have HO := hid ho
  have HLC := hid hl
  clear hl ho
  go_enter Try.func41, Try.ntmps41
  go_wp2_with (first
    | (go_at_call 72; refine (asked_any _ _ _ _ _ _ hs _ l HLI.out).mono ?_; rintro e w1 ⟨rfl, hb1⟩; rw [hv, HA.out]; obtain ⟨b0, b1, b2, b3, b4, hz, hB⟩ := box5_below hb1; clear hb1)
    | (go_at_call 73; refine (for_any _ _ _ _ _ _ hs).mono ?_; rintro e w2 ⟨p, vD, vU, rfl, hF⟩; have HF := hid hF; clear hF))
  obtain ⟨gD, gU, hK, hp, hgD, hgU⟩ := for_kept HF.out
  have HK := hid hK; have HB := hid hB
  clear hK hp hgD hgU HF b0 b1 b2 b3 b4 hz hB HLI
  go_loopw [8, 9] (fun c i wr => ∃ k : Nat, k ≤ l.length ∧ i = .int .i64 (k : Int) ∧ ∃ c0 : Nat, c = .int .i64 (c0 : Int) ∧ Hid (c0 = sumL (up r Z) (l.take k)) ∧ Hid (KeptS s r Z d g w1 p gD gU wr)) (fun _ i _ => l.length - (intOf i).toNat)
  case atStart => exact ⟨0, Nat.zero_le _, rfl, 0, rfl, rfl, HK⟩
  case round =>
    obtain ⟨k, hk, rfl, c0, rfl, hc0, hK⟩ := hrel
    have hBw : Hid (Below w.heap.size w wr) := HB.out.trans (hK.out.low.mono HB.out.size)
    have hcs : c0 ≤ 1000000000000000000 := by rw [hc0.out]; exact sumL_le _ _
    clear HK
    by_cases hlt : k < l.length
    · have ex := keep_cell hBw.out (HLC.out k hlt)
      have hsum := sumL_succ (up r Z) l k hlt
      rw [← hc0.out] at hsum
      have hot := okL_all HO.out k hlt
      have HSUM := hid hsum
      clear hsum
      generalize l[k] = t at ex hot HSUM
      have hot' : -50000 ≤ t ∧ t ≤ 200000 := by simpa [okT] using hot
      obtain ⟨t1, t2⟩ := hot'
      have hx := up_le r Z t z1
      obtain ⟨x, hX⟩ : ∃ x, x = up r Z t := ⟨_, rfl⟩
      rw [← hX] at hx HSUM
      have HX := hid hX; clear hX hot
      have hlt' : (k : Int) < l.length := by omega
      go_wp2_with (first
        | (go_at_call 74; refine (at_any s r d g t Z w1 p gD gU _ r1 r2 (by omega) (by omega) t1 t2 hK.out).mono ?_; rintro e w3 ⟨rfl, hK3, hs3⟩; rw [show Pm.rateU r Z (qUp t) = x from HX.out.symm]; have HK3 := hid hK3; clear hK3 hs3)
        | (go_at_call 44; refine (cut_any c0 x _ hcs (by omega)).mono ?_; rintro e w4 ⟨rfl, rfl⟩))
      go_roundw
      case rel => exact ⟨k + 1, by omega, by go_num, cutN c0 x, rfl, HSUM.out.symm, HK3⟩
      case measure => simp [intOf]; omega
    · obtain rfl : k = l.length := by omega
      have hfin : Hid (c0 = sumL (up r Z) l) := by rw [hc0.out, List.take_length]; rfl
      go_wp2
      go_ret2
      exact ⟨by rw [← hfin.out]; rfl, hBw.out⟩
theorem rSumUp_ok (s : ByteArray) (r d g : Int) (Z : Nat) (w : World) (hs : s.size ≤ maxLen) (v : Value) (l : List Int) (hl : RowI w v l) (hv : validB s.data.toList r Z d g = true) (ho : okL l = true) (hlen : l.length ≤ 10000) :
    Calls Try.prog 41 #[.agg #[.string s, .int .i64 r, .int .i64 Z, .int .i64 d, .int .i64 g], v] w fun e w' => e = .returned (.tuple #[.int .i64 (sumL (up r Z) l : Nat), .int .i64 0]) ∧ Below w.heap.size w w' := by
  rcases hl with ⟨a0, cap0, rfl, rfl⟩ | ⟨b, o, cap, rfl, hm, hc⟩
  · exact rSumUp_nil s r d g Z a0 cap0 w hs hv
  · exact rSumUp_yes s r d g Z w hs b o cap l hv ho hlen hc
end Go.Proofs.Ytfngmpkceceomaa
