/- Walk of valid, and of small functions of a tick: contracts. -/
import Derived.Test.YtpkcnojcklmhmaaVi
namespace Go.Proofs.Ytpkcnojcklmhmaa
open Go.RowKit

/-- Eleven cells: a vessel's box and a load's behind it. -/
theorem Box2.elf {w w1 : World} {c0 c1 c2 c3 c4 c5 d0 d1 d2 d3 d4 : Value} (h : Box2 w w1 #[c0, c1, c2, c3, c4, c5] #[d0, d1, d2, d3, d4]) :
    (w1.cell? ⟨w.heap.size, 0, none⟩ = some c0 ∧ w1.cell? ⟨w.heap.size, 1, none⟩ = some c1 ∧ w1.cell? ⟨w.heap.size, 2, none⟩ = some c2 ∧ w1.cell? ⟨w.heap.size, 3, none⟩ = some c3 ∧ w1.cell? ⟨w.heap.size, 4, none⟩ = some c4 ∧ w1.cell? ⟨w.heap.size, 5, none⟩ = some c5) ∧
    w1.cell? ⟨w.heap.size + 1, 0, none⟩ = some d0 ∧ w1.cell? ⟨w.heap.size + 1, 1, none⟩ = some d1 ∧ w1.cell? ⟨w.heap.size + 1, 2, none⟩ = some d2 ∧ w1.cell? ⟨w.heap.size + 1, 3, none⟩ = some d3 ∧ w1.cell? ⟨w.heap.size + 1, 4, none⟩ = some d4 :=
  ⟨⟨h.fst 0, h.fst 1, h.fst 2, h.fst 3, h.fst 4, h.fst 5⟩, h.snd 0, h.snd 1, h.snd 2, h.snd 3, h.snd 4⟩
def goodB (s : ByteArray) (h c v p ch : Int) (m : Nat) (P : Nat → St) (n : Nat) (q : Nat → Tri) (x : Ld) : Bool := vesB s h c v p ch && (fltB n q && ldB m P x)
theorem goodB_eq (s : ByteArray) (h c v p ch : Int) (m : Nat) (P : Nat → St) (n : Nat) (q : Nat → Tri) (x : Ld) : goodB s h c v p ch m P n q x = (vesB s h c v p ch && (fltB n q && ldB m P x)) := rfl
set_option maxRecDepth 20000 in
set_option maxHeartbeats 4000000 in
theorem valid_any (s : ByteArray) (h c v p ch : Int) (u : Value) (m : Nat) (P : Nat → St) (z : Value) (n : Nat) (q : Nat → Tri) (t st g tc ai : Int) (w : World) (hs : s.size ≤ maxLen) (hp : RowP w u m P) (hq : RowT w z n q) :
    Calls Try.prog 74 #[.agg #[.string s, .int .i64 h, .int .i64 c, .int .i64 v, .int .i64 p, .int .i64 ch], u, z, .agg #[.int .i64 t, .int .i64 st, .int .i64 g, .int .i64 tc, .int .i64 ai]] w fun e w' => e = .returned (.bool (goodB s h c v p ch m P n q ⟨t, st, g, tc, ai⟩)) ∧ Below w.heap.size w w' := by
  have HP := hid (fun w1 (g : Below w.heap.size w w1) => hp.keep g)
  have HQ := hid (fun w1 (g : Below w.heap.size w w1) => hq.keep g)
  obtain ⟨pa, pc, rfl⟩ := RowT.shape hp
  obtain ⟨qa, qc, rfl⟩ := hq.shape
  have HS := hid hs
  clear hp hq hs
  have hc := hid (goodB_eq s h c v p ch m P n q ⟨t, st, g, tc, ai⟩)
  have BX := hid (box2_start (w := w) (A := #[.string s, .int .i64 h, .int .i64 c, .int .i64 v, .int .i64 p, .int .i64 ch]) (B := #[.int .i64 t, .int .i64 st, .int .i64 g, .int .i64 tc, .int .i64 ai]) (T := 53) (T' := 57) (fz := (0, 0)) (fz' := (0, 0)))
  rcases three (vesB s h c v p ch) (fltB n q) (ldB m P ⟨t, st, g, tc, ai⟩) with h1 | ⟨h1, h2⟩ | ⟨h1, h2, h3⟩ | ⟨h1, h2, h3⟩
  all_goals
    go_enter Try.func74, Try.ntmps74
    go_wp2_with (first
      | (go_at_call 96; refine (vves_any _ _ _ _ _ _ _ HS.out).mono ?_; rintro e w1 ⟨rfl, hb⟩; have BX := hid (BX.out.keep hb); obtain ⟨⟨a0, a1, a2, a3, a4, a5⟩, b0, b1, b2, b3, b4⟩ := BX.out.elf; clear hb)
      | (go_at_call 97; refine (vflt_any _ _ _ _ (HQ.out _ BX.out.low)).mono ?_; rintro e w2 ⟨rfl, hb⟩; have BX := hid (BX.out.keep hb); obtain ⟨⟨a0, a1, a2, a3, a4, a5⟩, b0, b1, b2, b3, b4⟩ := BX.out.elf; clear hb)
      | (go_at_call 98; refine (vld_any _ _ _ _ _ _ _ _ _ (HP.out _ BX.out.low)).mono ?_; rintro e w3 ⟨rfl, hb⟩; have BX := hid (BX.out.keep hb); obtain ⟨⟨a0, a1, a2, a3, a4, a5⟩, b0, b1, b2, b3, b4⟩ := BX.out.elf; clear hb))
    go_ret
    exact ⟨ret_bool (by rw [hc.out]; simp only [Bool.false_and, Bool.true_and, *]), BX.out.low⟩

/-- A share of a number, rounded up. -/
def upN (a b : Int) : Int := (a * b + 999) / 1000
theorem upN_eq {a b x : Int} (h : a * b = x) : upN a b = (x + 999) / 1000 := by unfold upN; rw [h]
theorem upN_bd {a b m : Int} (a1 : 0 ≤ a) (a2 : a ≤ m) (b1 : 0 ≤ b) (b2 : b ≤ 1000) : 0 ≤ upN a b ∧ upN a b ≤ m := by
  have h1 : 0 ≤ a * b := Int.mul_nonneg a1 b1
  have h2 : a * b ≤ m * 1000 := Int.le_trans (Int.mul_le_mul_of_nonneg_right a2 b1) (Int.mul_le_mul_of_nonneg_left b2 (by omega))
  unfold upN
  omega
set_option maxHeartbeats 1000000 in
theorem shareUp_any (a b : Int) (w : World) (a1 : 0 ≤ a) (a2 : a ≤ 50000) (b1 : 0 ≤ b) (b2 : b ≤ 1000) :
    Calls Try.prog 116 #[.int .i64 a, .int .i64 b] w fun e w' => e = .returned (.int .i64 (upN a b)) ∧ w = w' := by
  have h1 : 0 ≤ a * b := Int.mul_nonneg a1 b1
  have h2 : a * b ≤ 50000000 := by
    have : a * b ≤ 50000 * 1000 := Int.le_trans (Int.mul_le_mul_of_nonneg_right a2 b1) (Int.mul_le_mul_of_nonneg_left b2 (by omega))
    omega
  go_enter Try.func116, Try.ntmps116
  go_wp2
  go_ret
  exact ⟨ret_int (by unfold upN; omega), rfl⟩
set_option maxHeartbeats 1000000 in
theorem xup_any (a b : Int) (w : World) (a1 : 0 ≤ a) (a2 : a ≤ 50000) (b1 : 0 ≤ b) (b2 : b ≤ 1000) :
    Calls Try.prog 104 #[.int .i64 a, .int .i64 b] w fun e w' => e = .returned (.int .i64 (upN a b)) ∧ w = w' := by
  have h1 : 0 ≤ a * b := Int.mul_nonneg a1 b1
  have h2 : a * b ≤ 50000000 := by
    have : a * b ≤ 50000 * 1000 := Int.le_trans (Int.mul_le_mul_of_nonneg_right a2 b1) (Int.mul_le_mul_of_nonneg_left b2 (by omega))
    omega
  go_enter Try.func104, Try.ntmps104
  go_wp2
  go_ret
  exact ⟨ret_int (by unfold upN; omega), rfl⟩

/-- How much of the way is gone. -/
def chN (h c d : Int) : Int := if (d * (if 0 < d then h else c)).tdiv 1000 ≠ 0 then (d * (if 0 < d then h else c)).tdiv 1000 else if d < 0 then -1 else if 0 < d then 1 else 0
theorem prod_bd {d s : Int} (d1 : -300000 ≤ d) (d2 : d ≤ 300000) (s1 : 1 ≤ s) (s2 : s ≤ 1000) : -300000000 ≤ d * s ∧ d * s ≤ 300000000 ∧ (0 ≤ d → 0 ≤ d * s ∧ d * s ≤ d * 1000) ∧ (d ≤ 0 → d * s ≤ 0 ∧ d * 1000 ≤ d * s) := by
  have h1 : 0 ≤ d → 0 ≤ d * s ∧ d * s ≤ d * 1000 := fun h => ⟨Int.mul_nonneg h (by omega), Int.mul_le_mul_of_nonneg_left s2 h⟩
  have h2 : d ≤ 0 → d * s ≤ 0 ∧ d * 1000 ≤ d * s := fun h => by
    have e1 : 0 ≤ (-d) * s := Int.mul_nonneg (by omega) (by omega)
    have e2 : (-d) * s ≤ (-d) * 1000 := Int.mul_le_mul_of_nonneg_left s2 (by omega)
    rw [Int.neg_mul] at e1 e2
    omega
  refine ⟨?_, ?_, h1, h2⟩ <;>
  · rcases Int.le_total 0 d with h | h
    · have := h1 h; omega
    · have := h2 h; omega
theorem tdiv_bd {x : Int} (d : Int) (hp : 0 ≤ d → 0 ≤ x ∧ x ≤ d * 1000) (hn : d ≤ 0 → x ≤ 0 ∧ d * 1000 ≤ x) : (0 ≤ d → 0 ≤ x.tdiv 1000 ∧ x.tdiv 1000 ≤ d) ∧ (d ≤ 0 → x.tdiv 1000 ≤ 0 ∧ d ≤ x.tdiv 1000) := by
  constructor
  · intro h
    obtain ⟨h1, h2⟩ := hp h
    rw [Int.tdiv_eq_ediv_of_nonneg h1]
    omega
  · intro h
    obtain ⟨h1, h2⟩ := hn h
    have e : x.tdiv 1000 = -((-x) / 1000) := by
      rw [← Int.tdiv_eq_ediv_of_nonneg (by omega : 0 ≤ -x), Int.neg_tdiv, Int.neg_neg]
    rw [e]
    omega
theorem chN_bd {h c d : Int} (d1 : -300000 ≤ d) (d2 : d ≤ 300000) (h1 : 1 ≤ h) (h2 : h ≤ 1000) (c1 : 1 ≤ c) (c2 : c ≤ 1000) : (0 ≤ d → 0 ≤ chN h c d ∧ chN h c d ≤ d) ∧ (d ≤ 0 → chN h c d ≤ 0 ∧ d ≤ chN h c d) := by
  have hb : 1 ≤ (if 0 < d then h else c) ∧ (if 0 < d then h else c) ≤ 1000 := by split <;> omega
  obtain ⟨_, _, p1, p2⟩ := prod_bd d1 d2 hb.1 hb.2
  obtain ⟨t1, t2⟩ := tdiv_bd d p1 p2
  unfold chN
  generalize (d * (if 0 < d then h else c)).tdiv 1000 = y at t1 t2
  constructor
  · intro h
    have := t1 h
    split
    · exact this
    · split
      · omega
      · split <;> omega
  · intro h
    have := t2 h
    split
    · exact this
    · split
      · omega
      · split <;> omega
end Go.Proofs.Ytpkcnojcklmhmaa
