/- Walks of Least of package lethal, with sort.Search over its test: contracts. -/
import Derived.Test.YtfngmpkceceomaaRc
namespace Go.Proofs.Ytfngmpkceceomaa
open Go.RowKit Go.Lib Go.Maps

/-- The least temperature with at least a rate. -/
structure IsLeast (r : Int) (Z : Nat) (rate T : Int) : Prop where
  lo : -1000 ≤ T
  hi : T ≤ 2000
  warm : rate ≤ (Pm.rateD r Z T : Nat)
  less : T = -1000 ∨ ((Pm.rateD r Z (T - 1) : Nat) : Int) < rate
theorem IsLeast.same {r : Int} {Z : Nat} {q T U : Int} (hz : 1 ≤ Z) (h1 : IsLeast r Z q T) (h2 : IsLeast r Z q U) : T = U := by
  rcases Int.lt_trichotomy T U with h | h | h
  · rcases h2.less with h3 | h3
    · have := h1.lo; omega
    · have := Pm.rateD_mono (r := r) (z := Z) (show 1 ≤ (Z : Int) by omega) (show T ≤ U - 1 by omega)
      have := h1.warm; omega
  · exact h
  · rcases h1.less with h3 | h3
    · have := h2.lo; omega
    · have := Pm.rateD_mono (r := r) (z := Z) (show 1 ≤ (Z : Int) by omega) (show U ≤ T - 1 by omega)
      have := h2.warm; omega
theorem rate_top {r : Int} {Z : Nat} (hr : r ≤ 800) (hz1 : 1 ≤ Z) (hz2 : Z ≤ 60) : Pm.rateD r Z 2000 = 10000000000000000 := by
  have e : Pm.expo r Z 2000 = 16 * (Z : Int) := by unfold Pm.expo; omega
  rw [Pm.rateD_pos (by omega), e, show (16 * (Z : Int)).toNat = 16 * Z by omega, Int.toNat_natCast, Pm.root_whole 16 Z hz1]

def testB (r : Int) (Z : Nat) (q : Int) (m : Nat) : Bool := decide (q ≤ (Pm.rateD r Z (-1000 + m) : Nat))
theorem least_found {r : Int} {Z : Nat} {q : Int} {n : Nat} (hr : r ≤ 800) (hz1 : 1 ≤ Z) (hz2 : Z ≤ 60) (hq : q ≤ 10000000000000000) (h : Found 3000 (testB r Z q) n) : IsLeast r Z q (-1000 + n) := by
  obtain ⟨h0, h1, h2⟩ := h
  refine ⟨by omega, by omega, ?_, ?_⟩
  · rcases h2 with rfl | h2
    · rw [show (-1000 + ((3000 : Nat) : Int)) = 2000 by rfl, rate_top hr hz1 hz2]; omega
    · exact of_decide_eq_true h2
  · rcases h1 with rfl | h1
    · exact .inl rfl
    · rcases Nat.eq_zero_or_pos n with rfl | hn
      · exact .inl rfl
      · have := of_decide_eq_false h1
        rw [show (-1000 + ((n - 1 : Nat) : Int)) = -1000 + (n : Int) - 1 by omega] at this
        exact .inr (by omega)

set_option maxHeartbeats 1000000 in
/-- sort.Search over Least's test; S counts the calls. -/
theorem search_least (n : Nat) (p : Nat → Bool) (S : Nat → World → Prop) (c1 c2 : Value) (w : World) (hn : n ≤ 1000000) (hS : S 0 w)
    (hcall : ∀ (m c : Nat) (wr : World), m < n → c < n → S c wr → Calls Try.prog 79 #[.int .i64 m, c1, c2] wr fun e w' => e = .returned (.bool (p m)) ∧ S (c + 1) w') :
    Calls Try.prog 78 #[.int .i64 n, .func (.func 79) #[] #[c1, c2]] w (SearchP n p (fun w' => ∃ c, S c w')) := by
  have HC := hid hcall; clear hcall
  have HS := hid hS; clear hS
  go_enter Try.func78, Try.ntmps78
  go_wp2
  go_loopw [5, 6] (fun a b wr => ∃ i j c : Nat, a = .int .i64 i ∧ b = .int .i64 j ∧ c + (j - i) ≤ n ∧ Hid (Span n p i j) ∧ Hid (S c wr)) (fun a b _ => (intOf b - intOf a).toNat)
  case atStart => exact ⟨0, n, 0, rfl, rfl, by omega, ⟨Nat.zero_le _, Nat.le_refl _, .inl rfl, .inl rfl⟩, HS⟩
  case round =>
    obtain ⟨i, j, c, rfl, rfl, hcn, hs, hS⟩ := hrel
    have hij := hs.out.le
    have hjn := hs.out.top
    by_cases hlt : i < j
    · obtain ⟨m, hm⟩ : ∃ m, m = (i + j) / 2 := ⟨_, rfl⟩
      have hm1 : i ≤ m := by omega
      have hm2 : m < j := by omega
      have HM : Hid (((i : Int) + j) / 2 = (m : Int)) := by unfold Hid; omega
      clear hm
      cases hp : p m
      · have HP := hid hp
        go_wp2_with (go_at_call 79; rw [HM.out]; refine (HC.out m c _ (by omega) (by omega) hS.out).mono ?_; rintro e w2 ⟨rfl, hS2⟩)
        go_roundw
        case rel => exact ⟨m + 1, j, c + 1, by go_num, rfl, by omega, hs.out.up hm2 HP.out, hS2⟩
        case measure => simp [intOf]; omega
      · have HP := hid hp
        go_wp2_with (go_at_call 79; rw [HM.out]; refine (HC.out m c _ (by omega) (by omega) hS.out).mono ?_; rintro e w2 ⟨rfl, hS2⟩)
        go_roundw
        case rel => exact ⟨i, m, c + 1, rfl, rfl, by omega, hs.out.down hm1 hm2 HP.out, hS2⟩
        case measure => simp [intOf]; omega
    · obtain rfl : i = j := by omega
      go_wp2
      go_ret
      exact ⟨i, rfl, ⟨hs.out.top, hs.out.low, hs.out.high⟩, c, hS.out⟩

/-- The cells of a rates box at block L. -/
def Box6 (wr : World) (L : Nat) (s : ByteArray) (r : Int) (Z : Nat) (d g : Int) (mb : Nat) : Prop :=
  wr.cell? ⟨L, 0, none⟩ = some (.string s) ∧ wr.cell? ⟨L, 1, none⟩ = some (.int .i64 r) ∧ wr.cell? ⟨L, 2, none⟩ = some (.int .i64 Z) ∧ wr.cell? ⟨L, 3, none⟩ = some (.int .i64 d) ∧ wr.cell? ⟨L, 4, none⟩ = some (.int .i64 g) ∧ wr.cell? ⟨L, 5, none⟩ = some (.map (some mb)) ∧ L < wr.heap.size
theorem grown_cell {w w' : World} {row : Option Nat} {b o : Nat} {v : Value} (hg : w.grownBy w' row) (hb : b < w.heap.size) (hne : some b ≠ row) (h : w.cell? ⟨b, o, none⟩ = some v) : w'.cell? ⟨b, o, none⟩ = some v := by
  rw [World.cell?_of_block (a := ⟨b, o, none⟩) (hg.block b hb hne)]; exact h
theorem Box6.grown {w w' : World} {row : Option Nat} {L mb : Nat} {s : ByteArray} {r d g : Int} {Z : Nat} (h : Box6 w L s r Z d g mb) (hg : w.grownBy w' row) (hne : some L ≠ row) : Box6 w' L s r Z d g mb := by
  obtain ⟨h0, h1, h2, h3, h4, h5, h6⟩ := h
  exact ⟨grown_cell hg h6 hne h0, grown_cell hg h6 hne h1, grown_cell hg h6 hne h2, grown_cell hg h6 hne h3, grown_cell hg h6 hne h4, grown_cell hg h6 hne h5, Nat.lt_of_lt_of_le h6 hg.size⟩
/-- What Least's test works on: the rates at L (their map at mb), the rate at Q. -/
def LsS (s : ByteArray) (r : Int) (Z : Nat) (d g q : Int) (L Q mb : Nat) (W : World) (c : Nat) (wr : World) : Prop :=
  Box6 wr L s r Z d g mb ∧ wr.cell? ⟨Q, 0, none⟩ = some (.int .i64 q) ∧ Q < wr.heap.size ∧ mb ≠ L ∧ mb ≠ Q ∧ MapI r Z wr mb c ∧ W.grownBy wr (some mb)

theorem LsS.cells {s : ByteArray} {r : Int} {Z : Nat} {d g q : Int} {L Q mb : Nat} {W : World} {c : Nat} {wr : World} (h : LsS s r Z d g q L Q mb W c wr) :
    wr.cell? ⟨L, 0, none⟩ = some (.string s) ∧ wr.cell? ⟨L, 1, none⟩ = some (.int .i64 r) ∧ wr.cell? ⟨L, 2, none⟩ = some (.int .i64 Z) ∧ wr.cell? ⟨L, 3, none⟩ = some (.int .i64 d) ∧ wr.cell? ⟨L, 4, none⟩ = some (.int .i64 g) ∧ wr.cell? ⟨L, 5, none⟩ = some (.map (some mb)) ∧ wr.cell? ⟨Q, 0, none⟩ = some (.int .i64 q) := by
  obtain ⟨⟨h0, h1, h2, h3, h4, h5, _⟩, h6, _⟩ := h
  exact ⟨h0, h1, h2, h3, h4, h5, h6⟩
theorem LsS.next {s : ByteArray} {r : Int} {Z : Nat} {d g q : Int} {L Q mb : Nat} {W : World} {c : Nat} {w w' : World} (h : LsS s r Z d g q L Q mb W c w) (hg : w.grownBy w' (some mb)) (hM : MapI r Z w' mb (c + 1)) : LsS s r Z d g q L Q mb W (c + 1) w' := by
  obtain ⟨h1, h2, h3, h4, h5, _, h7⟩ := h
  exact ⟨h1.grown hg (fun e => h4 (Option.some.inj e).symm), grown_cell hg h3 (fun e => h5 (Option.some.inj e).symm) h2, Nat.lt_of_lt_of_le h3 hg.size, h4, h5, hM, gtrans h7 hg⟩

theorem LsS.below {s : ByteArray} {r : Int} {Z : Nat} {d g q : Int} {L Q mb : Nat} {W : World} {c : Nat} {w w' : World} (h : LsS s r Z d g q L Q mb W c w) (hb : Below w.heap.size w w') : LsS s r Z d g q L Q mb W c w' := by
  obtain ⟨h1, h2, h3, h4, h5, h6, h7⟩ := h
  exact ⟨h1.grown (gbelow hb) (fun e => h4 (Option.some.inj e).symm), keep_cell hb h2, Nat.lt_of_lt_of_le h3 hb.size, h4, h5, h6.below hb, gtrans h7 (gbelow hb)⟩

set_option maxRecDepth 8000 in
set_option maxHeartbeats 4000000 in
theorem ltest_any (s : ByteArray) (r d g q : Int) (Z L Q mb c m : Nat) (W w : World) (hr1 : -200 ≤ r) (hr2 : r ≤ 800) (hz1 : 1 ≤ Z) (hz2 : Z ≤ 60) (hm : m ≤ 3000) (hc : c ≤ 1000000000) (hS : LsS s r Z d g q L Q mb W c w) :
    Calls Try.prog 79 #[.int .i64 m, .pointer (some ⟨L, 0, none⟩), .pointer (some ⟨Q, 0, none⟩)] w fun e w' => e = .returned (.bool (testB r Z q m)) ∧ LsS s r Z d g q L Q mb W (c + 1) w' := by
  have HS := hid hS
  have EW : Hid (IntKind.i64.wrap (-1000 + (m : Int)) = -1000 + m) := by unfold Hid; exact wrap_i64 (by omega) (by omega)
  have HTB : Hid (testB r Z q m = decide (q ≤ (Pm.rateD r Z (-1000 + m) : Nat))) := rfl
  obtain ⟨x, hx⟩ : ∃ x, x = Pm.rateD r Z (-1000 + m) := ⟨_, rfl⟩
  have HX := hid hx
  clear hx hS
  go_enter Try.func79, Try.ntmps79
  go_wp2
  have HS0 : Hid (LsS s r Z d g q L Q mb W c w.drew) := hid (LsS.below HS.out (Below.refl _ _).drew)
  go_region_held3 (fun w' => w'.cell? ⟨L, 0, none⟩ = some (.string s) ∧ w'.cell? ⟨L, 1, none⟩ = some (.int .i64 r) ∧ w'.cell? ⟨L, 2, none⟩ = some (.int .i64 Z) ∧ w'.cell? ⟨L, 3, none⟩ = some (.int .i64 d) ∧ w'.cell? ⟨L, 4, none⟩ = some (.int .i64 g) ∧ w'.cell? ⟨L, 5, none⟩ = some (.map (some mb)) ∧ w'.cell? ⟨Q, 0, none⟩ = some (.int .i64 q))
    (first | exact LsS.cells HS0.out | exact LsS.cells (LsS.next HS0.out hg3 hM3))
    (first | (go_at_call 64; rw [EW.out]; refine (down_any _ _ _ _ (-1000 + m) Z mb c _ hr1 hr2 hz1 hz2 (by omega) (by omega) hc HS0.out.2.2.2.2.2.1).mono ?_; rintro e w3 ⟨rfl, hg3, hM3⟩; rw [← HX.out]))
  go_wp2
  go_ret
  exact ⟨ret_bool (by rw [HTB.out, ← HX.out]), LsS.next HS0.out hg3 hM3⟩
end Go.Proofs.Ytfngmpkceceomaa
