/- Walks of Ticks of both: contracts. -/
import Derived.Test.YtfcngnoelmlakaaWe
namespace Go.Proofs.Ytfcngnoelmlakaa
open Go.RowKit Go.Lib Go.Maps

def tInB (t : Int) : Bool := decide (-1000 ≤ t) && decide (t ≤ 2000)
def fInB (f : Int) : Bool := decide (0 ≤ f) && decide (f ≤ 1000000000000000000)
def tickE (v : Bool) (x : Nat) (t f : Int) : Int :=
  if v = false then 1 else if tInB t = false then 7 else if fInB f = false then 7 else if f = 0 then 0 else if x = 0 then 8 else 0
def tickV (v : Bool) (x : Nat) (t f : Int) : Int :=
  if v = false then 0 else if tInB t = false then 0 else if fInB f = false then 0 else if f = 0 then 0 else if x = 0 then 0 else (f + x - 1) / x
/-- The answer of Ticks, as one thing. -/
def TickA (v : Bool) (x : Nat) (t f a b : Int) : Prop := tickV v x t f = a ∧ tickE v x t f = b
theorem tick_cases (v : Bool) (x : Nat) (t f : Int) :
    (v = false ∧ TickA v x t f 0 1) ∨ (v = true ∧ tInB t = false ∧ TickA v x t f 0 7) ∨ (v = true ∧ tInB t = true ∧ fInB f = false ∧ TickA v x t f 0 7) ∨
    (v = true ∧ tInB t = true ∧ fInB f = true ∧ f = 0 ∧ TickA v x t f 0 0) ∨ (v = true ∧ tInB t = true ∧ fInB f = true ∧ f ≠ 0 ∧ x = 0 ∧ TickA v x t f 0 8) ∨
    (v = true ∧ tInB t = true ∧ fInB f = true ∧ f ≠ 0 ∧ x ≠ 0 ∧ TickA v x t f ((f + x - 1) / x) 0) := by
  cases v
  · exact .inl ⟨rfl, rfl, rfl⟩
  refine .inr ?_
  cases h1 : tInB t
  · refine .inl ⟨rfl, rfl, ?_⟩
    unfold TickA tickV tickE; simp [h1]
  refine .inr ?_
  cases h2 : fInB f
  · refine .inl ⟨rfl, rfl, rfl, ?_⟩
    unfold TickA tickV tickE; simp [h1, h2]
  refine .inr ?_
  by_cases h3 : f = 0
  · refine .inl ⟨rfl, rfl, rfl, h3, ?_⟩
    unfold TickA tickV tickE; rw [if_neg (by simp), if_neg (by simp [h1]), if_neg (by simp [h2]), if_pos h3, if_neg (by simp), if_neg (by simp [h1]), if_neg (by simp [h2]), if_pos h3]; exact ⟨rfl, rfl⟩
  refine .inr ?_
  by_cases h4 : x = 0
  · refine .inl ⟨rfl, rfl, rfl, h3, h4, ?_⟩
    unfold TickA tickV tickE; simp [h1, h2, h3, h4]
  · refine .inr ⟨rfl, rfl, rfl, h3, h4, ?_⟩
    unfold TickA tickV tickE; simp [h1, h2, h3, h4]
theorem ret_tick {v : Bool} {x : Nat} {t f a b : Int} (h : TickA v x t f a b) : Ending.returned (.tuple #[.int .i64 a, .int .i64 b]) = .returned (.tuple #[.int .i64 (tickV v x t f), .int .i64 (tickE v x t f)]) := by rw [h.1, h.2]

set_option maxHeartbeats 4000000 in
theorem lTicks_any (s : ByteArray) (r z d g : Int) (w : World) (hs : s.size ≤ maxLen) (t f : Int) :
    Calls Try.prog 49 #[.agg #[.string s, .int .i64 r, .int .i64 z, .int .i64 d, .int .i64 g], .int .i64 t, .int .i64 f] w fun e w' => e = .returned (.tuple #[.int .i64 (tickV (validB s.data.toList r z d g) (Pm.rateD r z t) t f), .int .i64 (tickE (validB s.data.toList r z d g) (Pm.rateD r z t) t f)]) ∧ Below w.heap.size w w' := by
  rcases tick_cases (validB s.data.toList r z d g) (Pm.rateD r z t) t f with ⟨hv, hA⟩ | ⟨hv, ht, hA⟩ | ⟨hv, ht, hf, hA⟩ | ⟨hv, ht, hf, rfl, hA⟩ | ⟨hv, ht, hf, h0, hx, hA⟩ | ⟨hv, ht, hf, h0, hx, hA⟩
  · have HA := hid hA; clear hA
    have c := hid (chkT_no t)
    go_enter Try.func49, Try.ntmps49
    go_wp2_with (first | (go_at_call 62; refine (checkT_any _ _ _ _ _ _ hs t).mono ?_; rintro e w1 ⟨rfl, hb⟩; rw [hv, c.out]; obtain ⟨b0, b1, b2, b3, b4, hz, hB⟩ := box5_below hb; clear hb))
    go_ret2
    exact ⟨ret_tick HA.out, hB⟩
  · have HA := hid hA; clear hA
    have c := hid (chkT_out t ht)
    clear ht
    go_enter Try.func49, Try.ntmps49
    go_wp2_with (first | (go_at_call 62; refine (checkT_any _ _ _ _ _ _ hs t).mono ?_; rintro e w1 ⟨rfl, hb⟩; rw [hv, c.out]; obtain ⟨b0, b1, b2, b3, b4, hz, hB⟩ := box5_below hb; clear hb))
    go_ret2
    exact ⟨ret_tick HA.out, hB⟩
  · have HA := hid hA; clear hA
    have c := hid (chkT_in t ht)
    have c2 := hid (chkF_out f hf)
    clear ht hf
    go_enter Try.func49, Try.ntmps49
    go_wp2_with (first
      | (go_at_call 62; refine (checkT_any _ _ _ _ _ _ hs t).mono ?_; rintro e w1 ⟨rfl, hb⟩; rw [hv, c.out]; obtain ⟨b0, b1, b2, b3, b4, hz, hB⟩ := box5_below hb; clear hb)
      | (go_at_call 76; refine (checkF_any _ _ _ _ _ _ hs f).mono ?_; rintro e w1 ⟨rfl, hb⟩; rw [hv, c2.out]; obtain ⟨b0, b1, b2, b3, b4, hz, hB⟩ := kbox_keep hb ⟨b0, b1, b2, b3, b4, hz, hB⟩))
    go_ret2
    exact ⟨ret_tick HA.out, hB⟩
  · have HA := hid hA; clear hA
    have c := hid (chkT_in t ht)
    have c2 := hid (chkF_in 0 hf)
    clear ht hf
    go_enter Try.func49, Try.ntmps49
    go_wp2_with (first
      | (go_at_call 62; refine (checkT_any _ _ _ _ _ _ hs t).mono ?_; rintro e w1 ⟨rfl, hb⟩; rw [hv, c.out]; obtain ⟨b0, b1, b2, b3, b4, hz, hB⟩ := box5_below hb; clear hb)
      | (go_at_call 76; refine (checkF_any _ _ _ _ _ _ hs 0).mono ?_; rintro e w1 ⟨rfl, hb⟩; rw [hv, c2.out]; obtain ⟨b0, b1, b2, b3, b4, hz, hB⟩ := kbox_keep hb ⟨b0, b1, b2, b3, b4, hz, hB⟩))
    go_ret2
    exact ⟨ret_tick HA.out, hB⟩
  · have HA := hid hA; clear hA
    have c := hid (chkT_in t ht)
    have c2 := hid (chkF_in f hf)
    obtain ⟨_, ⟨r1, r2⟩, ⟨z1, z2⟩, _, _⟩ := validB_iff.1 hv
    obtain ⟨Z, rfl⟩ := Int.eq_ofNat_of_zero_le (show 0 ≤ z by omega)
    have ht' : -1000 ≤ t ∧ t ≤ 2000 := by simpa [tInB] using ht
    obtain ⟨t1, t2⟩ := ht'
    have HX := hid hx
    clear ht hf hx
    have hf0 : (f == 0) = false := by simpa using h0
    go_enter Try.func49, Try.ntmps49
    go_wp2_with (first
      | (go_at_call 62; refine (checkT_any _ _ _ _ _ _ hs t).mono ?_; rintro e w1 ⟨rfl, hb⟩; rw [hv, c.out]; obtain ⟨b0, b1, b2, b3, b4, hz, hB⟩ := box5_below hb; clear hb)
      | (go_at_call 76; refine (checkF_any _ _ _ _ _ _ hs f).mono ?_; rintro e w1 ⟨rfl, hb⟩; rw [hv, c2.out]; obtain ⟨b0, b1, b2, b3, b4, hz, hB⟩ := kbox_keep hb ⟨b0, b1, b2, b3, b4, hz, hB⟩)
      | (go_at_call 63; refine (ratesOf_any _ _ _ _ _ _ hs).mono ?_; rintro e w2 ⟨mb, rfl, hmb, hb2, hM⟩; have HM := hid (hM Z); have HB2 := hid hb2; clear hM)
      | (go_at_call 64; refine (down_any _ _ _ _ t Z mb 0 _ r1 r2 (by omega) (by omega) (by omega) (by omega) (by omega) HM.out).mono ?_; rintro e w3 ⟨rfl, hg3, _⟩; rw [HX.out]))
    go_ret2
    exact ⟨ret_tick HA.out, (hB.trans (HB2.out.mono (by omega))).grown hg3 (Nat.le_trans (Nat.le_of_lt hz) HB2.out.size) (fun k hk => by cases hk; omega)⟩
  · obtain ⟨_, ⟨r1, r2⟩, ⟨z1, z2⟩, _, _⟩ := validB_iff.1 hv
    have hle := Pm.rateD_le r z t z1
    obtain ⟨x, hX⟩ : ∃ x, x = Pm.rateD r z t := ⟨_, rfl⟩
    rw [← hX] at hA hx hle ⊢
    have HX := hid hX; clear hX
    have HA := hid hA; clear hA
    have c := hid (chkT_in t ht)
    have c2 := hid (chkF_in f hf)
    obtain ⟨Z, rfl⟩ := Int.eq_ofNat_of_zero_le (show 0 ≤ z by omega)
    have ht' : -1000 ≤ t ∧ t ≤ 2000 := by simpa [tInB] using ht
    obtain ⟨t1, t2⟩ := ht'
    have hf' : 0 ≤ f ∧ f ≤ 1000000000000000000 := by simpa [fInB] using hf
    obtain ⟨f1, f2⟩ := hf'
    clear ht hf
    have hf0 : (f == 0) = false := by simpa using h0
    have hx0 : ((x : Int) == 0) = false := by simpa using hx
    go_enter Try.func49, Try.ntmps49
    go_wp2_with (first
      | (go_at_call 62; refine (checkT_any _ _ _ _ _ _ hs t).mono ?_; rintro e w1 ⟨rfl, hb⟩; rw [hv, c.out]; obtain ⟨b0, b1, b2, b3, b4, hz, hB⟩ := box5_below hb; clear hb)
      | (go_at_call 76; refine (checkF_any _ _ _ _ _ _ hs f).mono ?_; rintro e w1 ⟨rfl, hb⟩; rw [hv, c2.out]; obtain ⟨b0, b1, b2, b3, b4, hz, hB⟩ := kbox_keep hb ⟨b0, b1, b2, b3, b4, hz, hB⟩)
      | (go_at_call 63; refine (ratesOf_any _ _ _ _ _ _ hs).mono ?_; rintro e w2 ⟨mb, rfl, hmb, hb2, hM⟩; have HM := hid (hM Z); have HB2 := hid hb2; clear hM)
      | (go_at_call 64; refine (down_any _ _ _ _ t Z mb 0 _ r1 r2 (by omega) (by omega) (by omega) (by omega) (by omega) HM.out).mono ?_; rintro e w3 ⟨rfl, hg3, _⟩; rw [← HX.out]))
    go_ret2
    exact ⟨ret_tick HA.out, (hB.trans (HB2.out.mono (by omega))).grown hg3 (Nat.le_trans (Nat.le_of_lt hz) HB2.out.size) (fun k hk => by cases hk; omega)⟩

theorem up_div {f x : Int} (hf : 0 ≤ f) (hx : 0 < x) : (f + x - 1) / x = if 0 < f % x then f / x + 1 else f / x := by
  have e := Int.mul_ediv_add_emod f x
  have h0 := Int.emod_nonneg f (show x ≠ 0 by omega)
  have h1 := Int.emod_lt_of_pos f hx
  have e2 : f + x - 1 = (f % x + x - 1) + x * (f / x) := by omega
  rw [e2, Int.add_mul_ediv_left _ _ (by omega)]
  split
  · rename_i h
    have : (f % x + x - 1) / x = 1 := by
      rw [show f % x + x - 1 = (f % x - 1) + x * 1 by omega, Int.add_mul_ediv_left _ _ (by omega), Int.ediv_eq_zero_of_lt (by omega) (by omega)]; rfl
    rw [this]; omega
  · rename_i h
    have : (f % x + x - 1) / x = 0 := Int.ediv_eq_zero_of_lt (by omega) (by omega)
    rw [this]; omega

set_option maxHeartbeats 4000000 in
theorem rTicks_any (s : ByteArray) (r z d g : Int) (w : World) (hs : s.size ≤ maxLen) (t f : Int) :
    Calls Try.prog 50 #[.agg #[.string s, .int .i64 r, .int .i64 z, .int .i64 d, .int .i64 g], .int .i64 t, .int .i64 f] w fun e w' => e = .returned (.tuple #[.int .i64 (tickV (validB s.data.toList r z d g) (Pm.rateD r z t) t f), .int .i64 (tickE (validB s.data.toList r z d g) (Pm.rateD r z t) t f)]) ∧ Below w.heap.size w w' := by
  rcases tick_cases (validB s.data.toList r z d g) (Pm.rateD r z t) t f with ⟨hv, hA⟩ | ⟨hv, ht, hA⟩ | ⟨hv, ht, hf, hA⟩ | ⟨hv, ht, hf, rfl, hA⟩ | ⟨hv, ht, hf, h0, hx, hA⟩ | ⟨hv, ht, hf, h0, hx, hA⟩
  · have HA := hid hA; clear hA
    have c := hid (chkT_no t)
    go_enter Try.func50, Try.ntmps50
    go_wp2_with (first | (go_at_call 28; refine (rRate_any _ _ _ _ _ _ hs t).mono ?_; rintro e w1 ⟨rfl, hb⟩; rw [hv, c.out, rateA_no]; obtain ⟨b0, b1, b2, b3, b4, hz, hB⟩ := box5_below hb; clear hb) | (go_at_call 58; refine (rwithin_any _ _ _ _).mono ?_; rintro e w' ⟨rfl, rfl⟩))
    go_ret2
    exact ⟨ret_tick HA.out, hB⟩
  · have HA := hid hA; clear hA
    have c := hid (chkT_out t ht)
    have a := hid (rateA_out (Pm.rateD r z t) t ht)
    clear ht
    go_enter Try.func50, Try.ntmps50
    go_wp2_with (first | (go_at_call 28; refine (rRate_any _ _ _ _ _ _ hs t).mono ?_; rintro e w1 ⟨rfl, hb⟩; rw [hv, c.out, a.out]; obtain ⟨b0, b1, b2, b3, b4, hz, hB⟩ := box5_below hb; clear hb) | (go_at_call 58; refine (rwithin_any _ _ _ _).mono ?_; rintro e w' ⟨rfl, rfl⟩))
    go_ret2
    exact ⟨ret_tick HA.out, hB⟩
  · have HA := hid hA; clear hA
    have c := hid (chkT_in t ht)
    have a := hid (rateA_in (Pm.rateD r z t) t ht)
    clear ht
    change (decide (0 ≤ f) && decide (f ≤ 1000000000000000000)) = false at hf
    go_enter Try.func50, Try.ntmps50
    go_wp2_with (first | (go_at_call 28; refine (rRate_any _ _ _ _ _ _ hs t).mono ?_; rintro e w1 ⟨rfl, hb⟩; rw [hv, c.out, a.out]; obtain ⟨b0, b1, b2, b3, b4, hz, hB⟩ := box5_below hb; clear hb) | (go_at_call 58; refine (rwithin_any _ _ _ _).mono ?_; rintro e w' ⟨rfl, rfl⟩))
    go_ret2
    exact ⟨ret_tick HA.out, hB⟩
  · have HA := hid hA; clear hA
    have c := hid (chkT_in t ht)
    have a := hid (rateA_in (Pm.rateD r z t) t ht)
    clear ht hf
    go_enter Try.func50, Try.ntmps50
    go_wp2_with (first | (go_at_call 28; refine (rRate_any _ _ _ _ _ _ hs t).mono ?_; rintro e w1 ⟨rfl, hb⟩; rw [hv, c.out, a.out]; obtain ⟨b0, b1, b2, b3, b4, hz, hB⟩ := box5_below hb; clear hb) | (go_at_call 58; refine (rwithin_any _ _ _ _).mono ?_; rintro e w' ⟨rfl, rfl⟩))
    go_ret2
    exact ⟨ret_tick HA.out, hB⟩
  · have HA := hid hA; clear hA
    have c := hid (chkT_in t ht)
    have A : Hid (rateA true (Pm.rateD r z t) t = ((0 : Nat) : Int)) := (rateA_in (Pm.rateD r z t) t ht).trans (by rw [hx])
    clear ht hx
    change (decide (0 ≤ f) && decide (f ≤ 1000000000000000000)) = true at hf
    have hf0 : (f == 0) = false := by simpa using h0
    go_enter Try.func50, Try.ntmps50
    go_wp2_with (first | (go_at_call 28; refine (rRate_any _ _ _ _ _ _ hs t).mono ?_; rintro e w1 ⟨rfl, hb⟩; rw [hv, c.out, A.out]; obtain ⟨b0, b1, b2, b3, b4, hz, hB⟩ := box5_below hb; clear hb) | (go_at_call 58; refine (rwithin_any _ _ _ _).mono ?_; rintro e w' ⟨rfl, rfl⟩))
    go_ret2
    exact ⟨ret_tick HA.out, hB⟩
  · obtain ⟨_, _, ⟨z1, z2⟩, _, _⟩ := validB_iff.1 hv
    have hle := Pm.rateD_le r z t z1
    obtain ⟨x, hX⟩ : ∃ x, x = Pm.rateD r z t := ⟨_, rfl⟩
    rw [← hX] at hA hx hle ⊢
    have a := rateA_in x t ht
    rw [hX] at a
    have A := hid a
    have HX := hid hX; clear hX a
    have HA := hid hA; clear hA
    have c := hid (chkT_in t ht)
    have hf' : 0 ≤ f ∧ f ≤ 1000000000000000000 := by simpa [fInB] using hf
    obtain ⟨f1, f2⟩ := hf'
    clear ht
    change (decide (0 ≤ f) && decide (f ≤ 1000000000000000000)) = true at hf
    have hf0 : (f == 0) = false := by simpa using h0
    have hx0 : ((x : Int) == 0) = false := by simpa using hx
    have hud := up_div f1 (show (0 : Int) < x by omega)
    have k0 : 0 ≤ f / (x : Int) := Int.ediv_nonneg f1 (by omega)
    have k1 : f / (x : Int) ≤ 1000000000000000000 := Int.le_trans (Int.ediv_le_self _ f1) f2
    by_cases hr : 0 < f % (x : Int)
    · rw [if_pos hr] at hud
      have HA2 := HA.out; unfold Hid at HA; rw [hud] at HA2; have HA3 := hid HA2; clear HA2 hud HA
      have hrb := decide_eq_true hr
      go_enter Try.func50, Try.ntmps50
      go_wp2_with (first | (go_at_call 28; refine (rRate_any _ _ _ _ _ _ hs t).mono ?_; rintro e w1 ⟨rfl, hb⟩; rw [hv, c.out, A.out, ← HX.out]; obtain ⟨b0, b1, b2, b3, b4, hz, hB⟩ := box5_below hb; clear hb) | (go_at_call 58; refine (rwithin_any _ _ _ _).mono ?_; rintro e w' ⟨rfl, rfl⟩))
      go_ret2
      exact ⟨ret_tick HA3.out, hB⟩
    · rw [if_neg hr] at hud
      have HA2 := HA.out; unfold Hid at HA; rw [hud] at HA2; have HA3 := hid HA2; clear HA2 hud HA
      have hrb := decide_eq_false hr
      go_enter Try.func50, Try.ntmps50
      go_wp2_with (first | (go_at_call 28; refine (rRate_any _ _ _ _ _ _ hs t).mono ?_; rintro e w1 ⟨rfl, hb⟩; rw [hv, c.out, A.out, ← HX.out]; obtain ⟨b0, b1, b2, b3, b4, hz, hB⟩ := box5_below hb; clear hb) | (go_at_call 58; refine (rwithin_any _ _ _ _).mono ?_; rintro e w' ⟨rfl, rfl⟩))
      go_ret2
      exact ⟨ret_tick HA3.out, hB⟩
end Go.Proofs.Ytfcngnoelmlakaa
