/- Texts of this seat, one behind the other. -/
import Derived.Test.YtihbjimnjhfpeaaG20
import Derived.Test.YtihbjimnjhfpeaaG21
import Derived.Maps.OwnSet
import Derived.Maps.OwnOps
import Derived.Maps.Views
/- Walk of the reference's root: contract. -/
namespace Go.Proofs.Ytihbjimnjhfpeaa.Lt
open Go.RowKit Go.Lib

theorem pow_room : (1000000000000000000 : Nat) ^ 60 < 1000000 ^ 1000 := by decide +kernel
theorem ten_room : (10 : Nat) ^ 960 < 1000000 ^ 1000 := by decide +kernel
theorem powOk_m {m z : Nat} (h1 : 1 ≤ m) (h2 : m ≤ 1000000000000000000) (hz : z ≤ 60) : PowOk m z :=
  PowOk.of h1 (Nat.lt_of_le_of_lt (Nat.le_trans (Nat.pow_le_pow_left h2 z) (Nat.pow_le_pow_right (by omega) hz)) pow_room)
theorem powOk_ten {e : Nat} (he : e ≤ 960) : PowOk 10 e :=
  PowOk.of (by omega) (Nat.lt_of_le_of_lt (Nat.pow_le_pow_right (by omega) he) ten_room)
theorem powOk_lt {x n : Nat} (h : PowOk x n) : x ^ n < 1000000 ^ 1000 := h.at' (Nat.le_refl _)
theorem cmpI_le {x y : Nat} (h : x ≤ y) : decide (cmpI x y ≤ 0) = true := by
  unfold cmpI
  split
  · decide
  · rw [if_neg (by omega)]; decide
theorem cmpI_gt {x y : Nat} (h : y < x) : decide (cmpI x y ≤ 0) = false := by
  unfold cmpI
  rw [if_neg (by omega), if_pos h]; decide
theorem cmpI_zero {x y : Nat} (h : x = y) : (cmpI x y == 0) = true := by subst h; rw [cmpI_same]; rfl
theorem cmpI_nz {x y : Nat} (h : x ≠ y) : (cmpI x y == 0) = false := by
  unfold cmpI
  split
  · rfl
  · rw [if_pos (by omega)]; rfl

/-- Where the reference's root looks. -/
structure Rr (e z lo hi : Nat) : Prop where
  pos : 1 ≤ lo
  top : hi ≤ 100000000000000001
  lt : lo < hi
  low : lo ^ z ≤ 10 ^ e
  high : 10 ^ e < hi ^ z
theorem Rr.start {e z : Nat} (hz : 1 ≤ z) (he : e ≤ 16 * z) : Rr e z (tenN (e / z)) (10 * tenN (e / z) + 1) := by
  have hq : e / z ≤ 16 := Nat.div_le_of_le_mul (by rw [Nat.mul_comm]; exact he)
  have h1 := tenN_le hq
  have h2 : tenN 16 = 10000000000000000 := rfl
  have h3 := tenN_pos (e / z)
  refine ⟨h3, by omega, by omega, Pm.low_root e z, ?_⟩
  exact Nat.lt_of_lt_of_le (Pm.high_root e z hz) (Nat.pow_le_pow_left (Nat.le_succ _) z)
theorem Rr.done {e z lo hi : Nat} (h : Rr e z lo hi) (hz : 1 ≤ z) (h1 : hi = lo + 1) : Pm.rootN e z = lo := Pm.rootN_eq hz ⟨h.low, by rw [← h1]; exact h.high⟩

theorem mul10 (_e _z : Nat) (k : Nat) : tenN k * 10 = tenN (k + 1) := (tenN_succ k).symm

end Go.Proofs.Ytihbjimnjhfpeaa.Lt

/- Walks of the rates of package lethal: exponent, digits, down: contracts. -/
namespace Go.Proofs.Ytihbjimnjhfpeaa.Lt
open Go.RowKit Go.Lib Go.Maps

theorem box6_below {w w1 : World} {c0 c1 c2 c3 c4 c5 : Value} {T : TypeId} {fz : Nat × Nat} (hb : Below (w.alloc (.cells #[c0, c1, c2, c3, c4, c5] T fz)).heap.size (w.alloc (.cells #[c0, c1, c2, c3, c4, c5] T fz)) w1) :
    w1.cell? ⟨w.heap.size, 0, none⟩ = some c0 ∧ w1.cell? ⟨w.heap.size, 1, none⟩ = some c1 ∧ w1.cell? ⟨w.heap.size, 2, none⟩ = some c2 ∧ w1.cell? ⟨w.heap.size, 3, none⟩ = some c3 ∧ w1.cell? ⟨w.heap.size, 4, none⟩ = some c4 ∧ w1.cell? ⟨w.heap.size, 5, none⟩ = some c5 ∧ w.heap.size < w1.heap.size ∧ Below w.heap.size w w1 := by
  obtain ⟨hc, _⟩ := bcell hb
  have hz : w.heap.size < (w.alloc (.cells #[c0, c1, c2, c3, c4, c5] T fz)).heap.size := by simp
  refine ⟨?_, ?_, ?_, ?_, ?_, ?_, Nat.lt_of_lt_of_le hz hb.size, balloc hb⟩ <;> rw [hc _ _ hz, cell_alloc_new] <;> rfl

set_option maxHeartbeats 1000000 in
theorem exponent_any (s : ByteArray) (r z d g : Int) (mb : Nat) (w : World) (t : Int) (hr1 : -200 ≤ r) (hr2 : r ≤ 800) (hz1 : 1 ≤ z) (hz2 : z ≤ 60) (ht1 : -100000 ≤ t) (ht2 : t ≤ 100000) :
    Calls Try.prog 67 #[.agg #[.string s, .int .i64 r, .int .i64 z, .int .i64 d, .int .i64 g, .map (some mb)], .int .i64 t] w fun e w' => e = .returned (.int .i64 (Pm.expo r z t)) ∧ Below w.heap.size w w' := by
  by_cases h : t - r ≤ 10 * z
  · have he : Hid (Pm.expo r z t = 6 * z + (t - r)) := by unfold Pm.expo Hid; omega
    go_enter Try.func67, Try.ntmps67
    go_wp2
    go_ret
    exact ⟨ret_int he.out.symm, (Below.refl _ _).alloc (Nat.le_refl _) _⟩
  · have he : Hid (Pm.expo r z t = 6 * z + 10 * z) := by unfold Pm.expo Hid; omega
    go_enter Try.func67, Try.ntmps67
    go_wp2
    go_ret
    exact ⟨ret_int he.out.symm, (Below.refl _ _).alloc (Nat.le_refl _) _⟩

theorem law_int : Keyed Try.prog 3 := int_keyed Try.underlying3
theorem zero_int (w : World) : (zeroValue 3).run Try.prog w = .ok (.int .i64 0) w := by kernel_rfl
theorem key_int {t : Int} (h1 : -9000000000000000000 ≤ t) (h2 : t ≤ 9000000000000000000) : keyOf Try.prog 3 (.int .i64 t) = some (.int .i64 t) := keyOf_int_mk Try.underlying3 (WalkArith.wf_i64 (by omega))

/-- The map of known roots, as it reads. -/
def GoodM (r : Int) (Z : Nat) (D : DataW Unit) : Prop := IsMap D ∧ ∀ p : Nat, p < Z → Maps.has D (.int .i64 (r + 9 * (Z : Int) + p)) = true → D.atKey (.int .i64 (r + 9 * (Z : Int) + p)) (.lit (.int .i64 0)) = .lit (.int .i64 (Pm.rootN (15 * Z + p) Z : Nat))
theorem goodM_empty (r : Int) (Z : Nat) : GoodM r Z (.map []) := ⟨isMap_empty, fun p _ h => by simp [Maps.has] at h⟩
theorem GoodM.put {r : Int} {Z : Nat} {D : DataW Unit} (h : GoodM r Z D) (p : Nat) : GoodM r Z (D.put (.int .i64 (r + 9 * (Z : Int) + p)) (.lit (.int .i64 (Pm.rootN (15 * Z + p) Z : Nat)))) := by
  refine ⟨h.1.put _ _, fun q hq hh => ?_⟩
  by_cases e : q = p
  · subst e
    exact atKey_put_same h.1 (by constructor) _ _
  · have hne : (Lit.int .i64 (r + 9 * (Z : Int) + q)) ≠ .int .i64 (r + 9 * (Z : Int) + p) := by
      intro he; injection he with _ he; omega
    rw [atKey_put_other hne]
    rw [has_put_other hne] at hh
    exact h.2 q hq hh
/-- The map of known roots in block b, with at most n entries. -/
def MapI (r : Int) (Z : Nat) (w : World) (b n : Nat) : Prop := ∃ D : DataW Unit, w.ownsMap Try.prog 3 (plainElem Try.prog 3) b n D ∧ GoodM r Z D
theorem MapI.kept {r : Int} {Z : Nat} {w w' : World} {b n : Nat} {row : Option Nat} (h : MapI r Z w b n) (hg : w.grownBy w' row) (hne : some b ≠ row) : MapI r Z w' b n := by
  obtain ⟨D, h1, h2⟩ := h
  exact ⟨D, h1.kept hg hne, h2⟩
theorem MapI.below {r : Int} {Z : Nat} {w w' : World} {b n : Nat} (h : MapI r Z w b n) (hb : Below w.heap.size w w') : MapI r Z w' b n :=
  h.kept (row := none) ⟨hb.os, hb.tape, hb.output, hb.size, fun j hj _ => hb.block j hj⟩ (by simp)
theorem MapI.lt {r : Int} {Z : Nat} {w : World} {b n : Nat} (h : MapI r Z w b n) : b < w.heap.size := by
  obtain ⟨D, h1, _⟩ := h
  exact h1.lt
/-- What digits and down hand back. -/
def RateP (v : Nat) (r : Int) (Z mb n : Nat) (w : World) (e : Ending) (w' : World) : Prop := e = .returned (.int .i64 v) ∧ w.grownBy w' (some mb) ∧ MapI r Z w' mb (n + 1)

theorem gbelow {a b : World} {row : Option Nat} (h : Below a.heap.size a b) : a.grownBy b row := ⟨h.os, h.tape, h.output, h.size, fun k hk _ => h.block k hk⟩

theorem omap_below {H : Type} {P : Program} {k : TypeId} {R : Value → Option (DataW H × List MemPlace)} {w w1 : World} {b n : Nat} {D : DataW H} (h : w.ownsMap P k R b n D) (hb : Below w.heap.size w w1) : w1.ownsMap P k R b n D :=
  h.kept (row := none) (gbelow hb) (by simp)
theorem omap_alloc {H : Type} {P : Program} {k : TypeId} {R : Value → Option (DataW H × List MemPlace)} {w w1 : World} {o : Obj} {b n : Nat} {D : DataW H} (h : w.ownsMap P k R b n D) (hb : Below (w.alloc o).heap.size (w.alloc o) w1) : w1.ownsMap P k R b n D :=
  omap_below (h.alloc o) hb

set_option maxHeartbeats 2000000 in
theorem digits_any (s : ByteArray) (r d g : Int) (Z p mb n : Nat) (w : World) (hr1 : -200 ≤ r) (hr2 : r ≤ 800) (hz1 : 1 ≤ Z) (hz2 : Z ≤ 60) (hp : p < Z) (hn : n ≤ 1000000000) (hM : MapI r Z w mb n) :
    Calls Try.prog 69 #[.agg #[.string s, .int .i64 r, .int .i64 Z, .int .i64 d, .int .i64 g, .map (some mb)], .int .i64 p] w (RateP (Pm.rootN (15 * Z + p) Z) r Z mb n w) := by
  obtain ⟨D, hown, hgood⟩ := hM
  have hlt := hown.lt
  have hk := key_int (t := r + 9 * (Z : Int) + p) (by omega) (by omega)
  have HK := hid hk; clear hk
  have HG := hid hgood; clear hgood
  have EE : Hid (Pm.expo r Z (r + 9 * (Z : Int) + p) = ((15 * Z + p : Nat) : Int)) := by unfold Pm.expo Hid; omega
  have hle := Pm.root_le16 (15 * Z + p) Z hz1 (by omega)
  cases hh : Maps.has D (.int .i64 (r + 9 * (Z : Int) + p))
  · go_enter Try.func69, Try.ntmps69
    go_wp2_with (first
      | (at_lookup; refine wpList_lookup_own_ok_int _ rfl _ _ 74 rfl 3 3 .i64 law_int Try.underlying74 Try.underlying3 (zero_int _) mb n D rfl (hown.alloc _) _ _ rfl HK.out ?_; intro c hat hwc; clear hat hwc)
      | (go_at_call 67; refine (exponent_any _ _ _ _ _ _ _ _ hr1 hr2 (by omega) (by omega) (by omega) (by omega)).mono ?_; rintro e w1 ⟨rfl, hb⟩; have hown1 := omap_alloc hown hb; obtain ⟨b0, b1, b2, b3, b4, b5, hz, hB⟩ := box6_below hb; clear hb)
      | (go_at_call 73; rw [EE.out]; refine (lroot_any (15 * Z + p) Z _ hz1 hz2 (by omega)).mono ?_; rintro e w2 ⟨rfl, hb2⟩; have hown2 := omap_below hown1 hb2; have c5 := keep_cell hb2 b5; clear hown1)
      | (at_mapUpdate; refine wpList_mapUpdate_own _ rfl _ _ _ 74 rfl 3 3 law_int Try.underlying74 _ mb n D rfl hown2 (by unfold maxLen; omega) _ _ _ rfl rfl HK.out _ [] (plainElem_int Try.underlying3 (WalkArith.wf_i64 (by omega))) ?_; intro w3 hown3 hgrow3; clear hown2))
    go_ret
    refine ⟨rfl, ?_, _, hown3, HG.out.put p⟩
    exact gtrans (gtrans (gbelow hB) (gbelow hb2)) hgrow3
  · have hat0 := hid (HG.out.2 p hp hh)
    go_enter Try.func69, Try.ntmps69
    go_wp2_with (first
      | (at_lookup; refine wpList_lookup_own_ok_int _ rfl _ _ 74 rfl 3 3 .i64 law_int Try.underlying74 Try.underlying3 (zero_int _) mb n D rfl (hown.alloc _) _ _ rfl HK.out ?_; intro c hat hwc; have hat1 := hid hat; clear hat hwc))
    go_ret
    refine ⟨ret_int ?_, World.grownBy_alloc _ _ _, D, (hown.alloc _).mono (Nat.le_succ _), HG.out⟩
    have := hat0.out.symm.trans hat1.out
    simpa using this.symm
end Go.Proofs.Ytihbjimnjhfpeaa.Lt
