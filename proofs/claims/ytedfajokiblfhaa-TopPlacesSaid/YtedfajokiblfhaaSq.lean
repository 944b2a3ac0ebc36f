/- Walks of Sum, SumUp of package lethal: contracts. -/
import Derived.Test.YtedfajokiblfhaaC7
namespace Go.Proofs.Ytedfajokiblfhaa.Lt
open Go.RowKit Go.Lib Go.Maps

theorem RowI.form {w : World} {v : Value} {l : List Int} (h : RowI w v l) : ∃ a b o cap, v = .slice a l.length cap ∧ (l = [] ∨ a = some ⟨b, o, none⟩) ∧ (∀ j (h : j < l.length), w.cell? ⟨b, o + j, none⟩ = some (.int .i64 l[j])) ∧ (l ≠ [] → b < w.heap.size) := by
  rcases h with ⟨a, cap, rfl, rfl⟩ | ⟨b, o, cap, rfl, hm, hc⟩
  · exact ⟨a, 0, 0, cap, rfl, .inl rfl, fun j h => absurd h (Nat.not_lt_zero _), fun h => absurd rfl h⟩
  · refine ⟨_, b, o, cap, rfl, .inr rfl, hc, fun h => ?_⟩
    have h0 : 0 < l.length := List.length_pos_iff.2 h
    exact World.block_lt_of_cell? w ⟨b, o + 0, none⟩ (hc 0 h0)

set_option maxHeartbeats 4000000 in
theorem lSum_no (s : ByteArray) (r z d g : Int) (w : World) (hs : s.size ≤ maxLen) (v : Value) (l : List Int) (hl : RowI w v l) (hne : askE (validB s.data.toList r z d g) l ≠ 0) :
    Calls Try.prog 19 #[.agg #[.string s, .int .i64 r, .int .i64 z, .int .i64 d, .int .i64 g], v] w fun e w' => e = .returned (.tuple #[.int .i64 0, .int .i64 (askE (validB s.data.toList r z d g) l)]) ∧ Below w.heap.size w w' := by
  obtain ⟨c, hc⟩ : ∃ c, c = askE (validB s.data.toList r z d g) l := ⟨_, rfl⟩
  rw [← hc] at hne ⊢
  have HC := hid hc; clear hc
  have hb : (c == 0) = false := by simpa using hne
  have HL := hid (RowI.keep hl (((Below.refl _ w).alloc (Nat.le_refl _) (.cells #[.string s, .int .i64 r, .int .i64 z, .int .i64 d, .int .i64 g] 25))))
  go_enter Try.func19, Try.ntmps19
  go_wp2_with (go_at_call 44; refine (checkTemps_any _ _ _ _ _ _ hs _ l HL.out).mono ?_; rintro e w1 ⟨rfl, hb1⟩; rw [← HC.out]; obtain ⟨b0, b1, b2, b3, b4, hz, hB⟩ := box5_below hb1; clear hb1)
  go_ret2
  exact ⟨rfl, hB⟩

set_option maxHeartbeats 4000000 in
theorem lSum_ok (s : ByteArray) (r d g : Int) (Z : Nat) (w : World) (hs : s.size ≤ maxLen) (v : Value) (l : List Int) (hl : RowI w v l) (hv : validB s.data.toList r Z d g = true) (ho : okL l = true) (hlen : l.length ≤ 10000) :
    Calls Try.prog 19 #[.agg #[.string s, .int .i64 r, .int .i64 Z, .int .i64 d, .int .i64 g], v] w fun e w' => e = .returned (.tuple #[.int .i64 (sumL (dn r Z) l : Nat), .int .i64 0]) ∧ Below w.heap.size w w' := by
  obtain ⟨_, ⟨r1, r2⟩, ⟨z1, z2⟩, _, _⟩ := validB_iff.1 hv
  have HL := hid (RowI.keep hl (((Below.refl _ w).alloc (Nat.le_refl _) (.cells #[.string s, .int .i64 r, .int .i64 Z, .int .i64 d, .int .i64 g] 25))))
  obtain ⟨a, b, o, cap, rfl, ha, hc, hbl⟩ := hl.form
  have HA := hid (askE_ok (l := l) (by omega) ho)
  have HO := hid ho; have HAD := hid ha; have HC := hid hc; have HBL := hid hbl
  clear ho ha hc hbl hl
  go_enter Try.func19, Try.ntmps19
  go_wp2_with (first
    | (go_at_call 44; refine (checkTemps_any _ _ _ _ _ _ hs _ l HL.out).mono ?_; rintro e w1 ⟨rfl, hb1⟩; rw [hv, HA.out]; obtain ⟨b0, b1, b2, b3, b4, hz, hB⟩ := box5_below hb1; clear hb1)
    | (go_at_call 46; refine (rateDown_any _ _ _ _ Z _ hs).mono ?_; rintro e w2 ⟨L, mb, rfl, hS, hmb, _, hb2⟩; have HS := hid hS; have HB2 := hid (hB.trans (hb2.mono hB.size)); have HSZ := hid (Nat.le_trans hB.size hmb); clear hS hb2)
    | (go_at_call 45; refine (total_down s r d g Z L mb a b o cap l _ r1 r2 (by omega) (by omega) hlen HO.out HAD.out (fun j h => keep_cell HB2.out (HC.out j h)) (fun h => Nat.lt_of_lt_of_le (HBL.out h) HB2.out.size) HS.out).mono ?_; rintro e w3 ⟨rfl, hg3⟩))
  go_ret2
  exact ⟨rfl, HB2.out.grown hg3 HB2.out.size (fun j e => by cases e; exact HSZ.out)⟩

end Go.Proofs.Ytedfajokiblfhaa.Lt
