/- Texts of this seat, one behind the other. -/
import Derived.Test.YtihbjimnjhfpeaaGreatR01
import Derived.IntWalk
/- Walks of ValidBody of the reference, of check and asked: contracts. -/
namespace Go.Proofs.YtihbjimnjhfpeaaGreat
open Go.RowKit


/-- The first error of a body in baths: b is whether the body is valid. -/
def chkE (b : Bool) (l : List Int) : Int := if b = false then 1 else if okL l then (if 2000 < l.length then 4 else 0) else 7
theorem chkE_no (l : List Int) : chkE false l = 1 := rfl
theorem chkE_bad {l : List Int} (h : okL l = false) : chkE true l = 7 := by unfold chkE; rw [if_neg (by simp), h]; rfl
theorem chkE_long {l : List Int} (h : okL l = true) (g : 2000 < l.length) : chkE true l = 4 := by unfold chkE; rw [if_neg (by simp), h, if_pos rfl, if_pos g]
theorem chkE_ok {l : List Int} (h : okL l = true) (g : ¬ 2000 < l.length) : chkE true l = 0 := by unfold chkE; rw [if_neg (by simp), h, if_pos rfl, if_neg g]
/-- Whether a can, and a body for it, are valid. -/
def bothB (r l a b k a2 b2 : Int) (T : List Int) (br : Bool) : Bool := canB r l a b k a2 b2 && bodyB true r l k T br
theorem bothB_cn (c : Cn) (h : c.V) (T : List Int) (br : Bool) : bothB c.R c.L c.A c.B c.K c.A2 c.B2 T br = bodyV c T br := by unfold bothB; rw [show canB (c.R : Int) c.L c.A c.B c.K c.A2 c.B2 = true from h]; rfl
theorem vboth_any (r l a b k a2 b2 : Int) (w : World) (v : Value) (T : List Int) (br : Bool) (hl : RowI w v T) :
    Calls Tryz.prog 177 #[.agg #[.int .i64 r, .int .i64 l, .int .i64 a, .int .i64 b, .int .i64 k, .int .i64 a2, .int .i64 b2], .agg #[v, .bool br]] w fun e w' => e = .returned (.bool (bothB r l a b k a2 b2 T br)) ∧ Below w.heap.size w w' := by
  cases hv : canB r l a b k a2 b2
  · have e0 : bothB r l a b k a2 b2 T br = false := by unfold bothB; rw [hv]; rfl
    rw [e0]
    exact vbody_can r l a b k a2 b2 w v T br hl hv
  · obtain ⟨c, hc, rfl, rfl, rfl, rfl, rfl, rfl, rfl⟩ := canB_cn hv
    rw [bothB_cn c hc]
    exact vbody_yes c w v T br hl hc

set_option maxHeartbeats 4000000 in
theorem check_any (r l a b k a2 b2 : Int) (w : World) (v : Value) (T : List Int) (br : Bool) (v2 : Value) (l2 : List Int) (hl : RowI w v T) (hl2 : RowI w v2 l2) :
    Calls Tryz.prog 165 #[.agg #[.int .i64 r, .int .i64 l, .int .i64 a, .int .i64 b, .int .i64 k, .int .i64 a2, .int .i64 b2], .agg #[v, .bool br], v2] w fun e w' => e = .returned (.int .i64 (chkE (bothB r l a b k a2 b2 T br) l2)) ∧ Below w.heap.size w w' := by
  have HL := hid (fun w1 (g : Below w.heap.size w w1) => hl.keep g)
  have HL2 := hid (fun w1 (g : Below w.heap.size w w1) => hl2.keep g)
  obtain ⟨a0, cap, rfl⟩ := hl.shape
  obtain ⟨a1, cap1, rfl⟩ := hl2.shape
  clear hl hl2
  obtain ⟨b0, b1, b2', b3, b4, b5, b6, x0, x1, hz, hB⟩ := nine_start (w := w) (c0 := .int .i64 r) (c1 := .int .i64 l) (c2 := .int .i64 a) (c3 := .int .i64 b) (c4 := .int .i64 k) (c5 := .int .i64 a2) (c6 := .int .i64 b2) (d0 := .slice a0 T.length cap) (d1 := .bool br) (T := 23) (T' := 87) (fz := (0, 0)) (fz' := (0, 0))
  cases hb0 : bothB r l a b k a2 b2 T br
  · have hE := hid (chkE_no l2)
    go_enter Tryz.func165, Tryz.ntmps165
    go_wp2_with (go_at_call 177; refine (vboth_any _ _ _ _ _ _ _ _ _ T _ (HL.out _ hB)).mono ?_; rintro e w1 ⟨rfl, hb⟩; obtain ⟨b0, b1, b2', b3, b4, b5, b6, x0, x1, hz, hB⟩ := nine_keep hb ⟨b0, b1, b2', b3, b4, b5, b6, x0, x1, hz, hB⟩; clear hb)
    go_ret
    exact ⟨ret_int hE.out.symm, hB⟩
  cases ho : okL l2
  · have hE := hid (chkE_bad ho)
    go_enter Tryz.func165, Tryz.ntmps165
    go_wp2_with (first | (go_at_call 177; refine (vboth_any _ _ _ _ _ _ _ _ _ T _ (HL.out _ hB)).mono ?_; rintro e w1 ⟨rfl, hb⟩; obtain ⟨b0, b1, b2', b3, b4, b5, b6, x0, x1, hz, hB⟩ := nine_keep hb ⟨b0, b1, b2', b3, b4, b5, b6, x0, x1, hz, hB⟩; clear hb) | (go_at_call 149; refine (temps_any _ _ l2 (HL2.out _ hB)).mono ?_; rintro e w2 ⟨rfl, rfl⟩))
    go_ret
    exact ⟨ret_int hE.out.symm, hB⟩
  by_cases g : 2000 < l2.length
  · have hE := hid (chkE_long ho g)
    have g' : (2000 : Int) < l2.length := by omega
    go_enter Tryz.func165, Tryz.ntmps165
    go_wp2_with (first | (go_at_call 177; refine (vboth_any _ _ _ _ _ _ _ _ _ T _ (HL.out _ hB)).mono ?_; rintro e w1 ⟨rfl, hb⟩; obtain ⟨b0, b1, b2', b3, b4, b5, b6, x0, x1, hz, hB⟩ := nine_keep hb ⟨b0, b1, b2', b3, b4, b5, b6, x0, x1, hz, hB⟩; clear hb) | (go_at_call 149; refine (temps_any _ _ l2 (HL2.out _ hB)).mono ?_; rintro e w2 ⟨rfl, rfl⟩))
    go_ret
    exact ⟨ret_int hE.out.symm, hB⟩
  · have hE := hid (chkE_ok ho g)
    have g' : ¬ (2000 : Int) < l2.length := by omega
    go_enter Tryz.func165, Tryz.ntmps165
    go_wp2_with (first | (go_at_call 177; refine (vboth_any _ _ _ _ _ _ _ _ _ T _ (HL.out _ hB)).mono ?_; rintro e w1 ⟨rfl, hb⟩; obtain ⟨b0, b1, b2', b3, b4, b5, b6, x0, x1, hz, hB⟩ := nine_keep hb ⟨b0, b1, b2', b3, b4, b5, b6, x0, x1, hz, hB⟩; clear hb) | (go_at_call 149; refine (temps_any _ _ l2 (HL2.out _ hB)).mono ?_; rintro e w2 ⟨rfl, rfl⟩))
    go_ret
    exact ⟨ret_int hE.out.symm, hB⟩
end Go.Proofs.YtihbjimnjhfpeaaGreat

/- Walks of asked; of floor of both; a grid in memory, and what only reads it: contracts. -/
namespace Go.Proofs.YtihbjimnjhfpeaaGreat
open Go.RowKit

theorem q_floor {n d : Int} (hd : 0 < d) : (0 ≤ n ∧ n.tdiv d = n / d ∧ n.tmod d = n % d) ∨ (n < 0 ∧ n % d = 0 ∧ n.tdiv d = n / d ∧ n.tmod d = 0) ∨ (n < 0 ∧ n % d ≠ 0 ∧ n.tdiv d = n / d + 1 ∧ n.tmod d = n % d - d) := by
  rcases Int.lt_or_le n 0 with h | h
  · right
    by_cases hm : n % d = 0
    · left
      have hdvd : d ∣ n := Int.dvd_of_emod_eq_zero hm
      rw [Int.tdiv_eq_ediv, Int.tmod_eq_emod, if_pos (.inr hdvd), if_pos (.inr hdvd)]
      exact ⟨h, hm, by omega, by omega⟩
    · right
      have hn : ¬ (0 ≤ n ∨ d ∣ n) := by
        rintro (h1 | h1)
        · omega
        · exact hm (Int.emod_eq_zero_of_dvd h1)
      rw [Int.tdiv_eq_ediv, Int.tmod_eq_emod, if_neg hn, if_neg hn]
      have hs : d.sign = 1 := Int.sign_eq_one_of_pos hd
      have hab : (d.natAbs : Int) = d := Int.natAbs_of_nonneg (Int.le_of_lt hd)
      exact ⟨h, hm, by rw [hs], by rw [hab]⟩
  · left
    exact ⟨h, Int.tdiv_eq_ediv_of_nonneg h, Int.tmod_eq_emod_of_nonneg h⟩
theorem div_bd {n d : Int} (hd : 0 < d) (h1 : -1000000000000 ≤ n) (h2 : n ≤ 1000000000000) : -1000000000000 ≤ n / d ∧ n / d ≤ 1000000000000 := by
  constructor
  · refine Int.le_ediv_of_mul_le hd ?_
    have := Int.mul_le_mul_of_nonpos_left (a := -1000000000000) (b := d) (c := 1) (by omega) (by omega)
    omega
  · have h3 := Int.ediv_le_self (a := 1000000000000) d (by omega)
    have h4 := Int.ediv_le_ediv hd h2
    omega
set_option maxHeartbeats 1000000 in
theorem floor_any (n d : Int) (w : World) (hd : 0 < d) (hd2 : d ≤ 1000000) (h1 : -1000000000000 ≤ n) (h2 : n ≤ 1000000000000) :
    Calls Tryz.prog 192 #[.int .i64 n, .int .i64 d] w fun e w' => e = .returned (.int .i64 (n / d)) ∧ w = w' := by
  obtain ⟨b1, b2⟩ := div_bd hd h1 h2
  have m1 := Int.emod_nonneg n (show d ≠ 0 by omega)
  have m2 := Int.emod_lt_of_pos n hd
  have hz : (d == 0) = false := by simp; omega
  rcases q_floor (n := n) hd with ⟨h0, e1, e2⟩ | ⟨h0, hm, e1, e2⟩ | ⟨h0, hm, e1, e2⟩
  · have t : decide (n % d < 0) = false := by simp; omega
    go_enter Tryz.func192, Tryz.ntmps192
    go_wp2
    go_ret
    exact ⟨rfl, rfl⟩
  · go_enter Tryz.func192, Tryz.ntmps192
    go_wp2
    go_ret
    exact ⟨rfl, rfl⟩
  · have t : decide (n % d - d < 0) = true := by simp; omega
    go_enter Tryz.func192, Tryz.ntmps192
    go_wp2
    go_ret
    exact ⟨ret_int (by omega), rfl⟩
/-- A grid's cells: the can's, the temperatures (48 places), whether it is broken. -/
def gridL (c : Cn) (x : Bd) : List Value :=
  [.int .i64 (c.R : Int), .int .i64 (c.L : Int), .int .i64 c.A, .int .i64 c.B, .int .i64 c.K, .int .i64 c.A2, .int .i64 c.B2] ++ (x.1.map (.int .i64) ++ (List.replicate (48 - x.1.length) (.int .i64 0) ++ [.bool x.2]))
def gridA (c : Cn) (x : Bd) : Array Value := (gridL c x).toArray
theorem gridL_len {c : Cn} {x : Bd} (h : x.1.length ≤ 48) : (gridL c x).length = 56 := by simp [gridL]; omega
theorem gridA_size {c : Cn} {x : Bd} (h : x.1.length ≤ 48) : (gridA c x).size = 56 := by simp [gridA, gridL_len h]
theorem gridL_temp {c : Cn} {x : Bd} {j : Nat} (h : j < x.1.length) : (gridL c x)[7 + j]? = some (.int .i64 x.1[j]) := by
  unfold gridL
  rw [List.getElem?_append_right (by simp), List.getElem?_append_left (by simp; omega)]
  simp [h]
theorem gridL_brk {c : Cn} {x : Bd} (h : x.1.length ≤ 48) : (gridL c x)[55]? = some (.bool x.2) := by
  unfold gridL
  rw [List.getElem?_append_right (by simp), List.getElem?_append_right (by simp; omega), List.getElem?_append_right (by simp)]
  simp
  try omega
/-- A grid lies at b. -/
def GridAt (w : World) (b : Nat) (c : Cn) (x : Bd) : Prop := w.heap[b]? = some (.cells (gridA c x) 208 (0, 0))
/-- What is read of a grid. -/
structure GridC (w : World) (b : Nat) (c : Cn) (x : Bd) : Prop where
  c0 : w.cell? ⟨b, 0, none⟩ = some (.int .i64 (c.R : Int))
  c1 : w.cell? ⟨b, 1, none⟩ = some (.int .i64 (c.L : Int))
  c2 : w.cell? ⟨b, 2, none⟩ = some (.int .i64 c.A)
  c3 : w.cell? ⟨b, 3, none⟩ = some (.int .i64 c.B)
  c4 : w.cell? ⟨b, 4, none⟩ = some (.int .i64 c.K)
  c5 : w.cell? ⟨b, 5, none⟩ = some (.int .i64 c.A2)
  c6 : w.cell? ⟨b, 6, none⟩ = some (.int .i64 c.B2)
  temp : ∀ j (h : j < x.1.length), w.cell? ⟨b, 7 + j, none⟩ = some (.int .i64 x.1[j])
  brk : w.cell? ⟨b, 55, none⟩ = some (.bool x.2)
theorem GridAt.cell {w : World} {b : Nat} {c : Cn} {x : Bd} (h : GridAt w b c x) (i : Nat) : w.cell? ⟨b, i, none⟩ = (gridL c x)[i]? := by
  rw [cell_of_row w b i _ _ _ h]
  simp [gridA]
theorem GridAt.read {w : World} {b : Nat} {c : Cn} {x : Bd} (h : GridAt w b c x) (hl : x.1.length ≤ 48) : GridC w b c x :=
  ⟨h.cell 0, h.cell 1, h.cell 2, h.cell 3, h.cell 4, h.cell 5, h.cell 6, fun _ hj => (h.cell _).trans (gridL_temp hj), (h.cell _).trans (gridL_brk hl)⟩
theorem GridC.drewN {w : World} {b : Nat} {c : Cn} {x : Bd} (h : GridC w b c x) (n : Nat) : GridC (w.drewN n) b c x := ⟨h.c0, h.c1, h.c2, h.c3, h.c4, h.c5, h.c6, h.temp, h.brk⟩
theorem drew_more {w w1 w2 : World} (h : ∃ n, w1 = w.drewN n) (k : ∃ n, w2 = w1.drewN n) : ∃ n, w2 = w.drewN n := by
  obtain ⟨n, rfl⟩ := h
  obtain ⟨m, rfl⟩ := k
  exact ⟨_, by rw [World.drewN_drewN]⟩
/-- A number comes back, and the world has drawn. -/
def IntD (v : Int) (w : World) (e : Ending) (w' : World) : Prop := e = .returned (.int .i64 v) ∧ ∃ n, w' = w.drewN n
set_option maxHeartbeats 2000000 in
theorem near_out (b : Nat) (c : Cn) (x : Bd) (bath r l : Int) (w : World) (hG : GridC w b c x) (hc : c.Ok) (_r1 : -1 ≤ r) (_r2 : r ≤ c.R) (_l1 : -1 ≤ l) (_l2 : l ≤ c.L) (h : ¬ (0 ≤ r ∧ r < c.R ∧ 0 ≤ l ∧ l < c.L)) :
    Calls Tryz.prog 191 #[.pointer (some ⟨b, 0, none⟩), .int .i64 r, .int .i64 l, .int .i64 bath] w (IntD (nearT c.R c.L x.1 bath r l) w) := by
  have hN := hid (nearT_out (T := x.1) (b := bath) h)
  obtain ⟨hr1, hr2, hl1, hl2, _⟩ := hc
  have c0 := hG.c0
  have c1 := hG.c1
  by_cases hr : 0 ≤ r ∧ r < c.R
  · have d1 : (decide (0 ≤ r) && decide (r ≤ (c.R : Int) - 1)) = true := by simp; omega
    have d2 : (decide (0 ≤ l) && decide (l ≤ (c.L : Int) - 1)) = false := by
      rw [Bool.and_eq_false_iff, decide_eq_false_iff_not, decide_eq_false_iff_not]; omega
    clear hG h hr
    go_enter Tryz.func191, Tryz.ntmps191
    go_wp2_with (go_at_call 105; refine (within_any _ _ _ _).mono ?_; rintro e w' ⟨rfl, rfl⟩)
    go_ret
    exact ⟨by rw [hN.out]; rfl, 0, rfl⟩
  · have d1 : (decide (0 ≤ r) && decide (r ≤ (c.R : Int) - 1)) = false := by
      rw [Bool.and_eq_false_iff, decide_eq_false_iff_not, decide_eq_false_iff_not]; omega
    clear hG h hr
    go_enter Tryz.func191, Tryz.ntmps191
    go_wp2_with (go_at_call 105; refine (within_any _ _ _ _).mono ?_; rintro e w' ⟨rfl, rfl⟩)
    go_ret
    exact ⟨by rw [hN.out]; rfl, 0, rfl⟩
theorem wrap_i64 {n : Int} (h1 : -9000000000000000000 ≤ n) (h2 : n ≤ 9000000000000000000) : IntKind.i64.wrap n = n := IntWalk.i64_in n ⟨by omega, by omega⟩
set_option maxHeartbeats 2000000 in
theorem near_in (b : Nat) (c : Cn) (x : Bd) (bath : Int) (p q : Nat) (w : World) (hG : GridC w b c x) (hc : c.Ok) (hx : x.1.length = c.P) (hp : p < c.R) (hq : q < c.L) :
    Calls Tryz.prog 191 #[.pointer (some ⟨b, 0, none⟩), .int .i64 (p : Int), .int .i64 (q : Int), .int .i64 bath] w (IntD (nearT c.R c.L x.1 bath p q) w) := by
  have hidx := idx_lt hp hq
  have hN : nearT c.R c.L x.1 bath p q = x.1[q * c.R + p]'(by rw [hx]; exact hidx) := by
    rw [nearT_in ⟨by omega, by omega, by omega, by omega⟩, ← Int.natCast_mul, ← Int.natCast_add, Int.toNat_natCast, getD_at (by rw [hx]; exact hidx)]
  have ex := hG.temp (q * c.R + p) (by rw [hx]; exact hidx)
  rw [← hN] at ex
  clear hN
  obtain ⟨_, hp48⟩ := hc.p
  obtain ⟨hr1, hr2, hl1, hl2, _⟩ := hc
  have c0 := hG.c0
  have c1 := hG.c1
  have d1 : (p : Int) ≤ (c.R : Int) - 1 := by omega
  have d2 : (q : Int) ≤ (c.L : Int) - 1 := by omega
  have d3 : (0 : Int) ≤ p := by omega
  have d4 : (0 : Int) ≤ q := by omega
  clear hG hx
  unfold Cn.P at hp48
  generalize nearT c.R c.L x.1 bath p q = v at ex ⊢
  obtain ⟨m, hm⟩ : ∃ m, m = q * c.R := ⟨_, rfl⟩
  have hm' : (q : Int) * (c.R : Int) = (m : Int) := by rw [hm, Int.natCast_mul]
  rw [← hm] at ex hidx
  have hlt : m + p < 48 := by omega
  have s1 : IntKind.i64.wrap ((q : Int) * (c.R : Int)) = (m : Int) := by rw [hm']; exact wrap_i64 (by omega) (by omega)
  have s2 : IntKind.i64.wrap ((m : Int) + (p : Int)) = (m : Int) + p := wrap_i64 (by omega) (by omega)
  have s3 : 0 ≤ (m : Int) + p := by omega
  have s4 : (m : Int) + p < 48 := by omega
  have s5 : ((m : Int) + p).toNat = m + p := by omega
  clear hm hm' hidx hp48
  go_enter Tryz.func191, Tryz.ntmps191
  go_wp2_with (go_at_call 105; refine (within_any _ _ _ _).mono ?_; rintro e w' ⟨rfl, rfl⟩)
  go_quiet (fail)
  go_wp2
  go_ret
  exact ⟨rfl, _, rfl⟩
theorem near_any (b : Nat) (c : Cn) (x : Bd) (bath r l : Int) (w : World) (hG : GridC w b c x) (hc : c.Ok) (hx : x.1.length = c.P) (r1 : -1 ≤ r) (r2 : r ≤ c.R) (l1 : -1 ≤ l) (l2 : l ≤ c.L) :
    Calls Tryz.prog 191 #[.pointer (some ⟨b, 0, none⟩), .int .i64 r, .int .i64 l, .int .i64 bath] w (IntD (nearT c.R c.L x.1 bath r l) w) := by
  by_cases h : 0 ≤ r ∧ r < c.R ∧ 0 ≤ l ∧ l < c.L
  · obtain ⟨p, q, rfl, rfl, hp, hq, _⟩ := idx_nat h
    exact near_in b c x bath p q w hG hc hx hp hq
  · exact near_out b c x bath r l w hG hc r1 r2 l1 l2 h

/-- Two numbers come back, and the world has drawn. -/
def TwoD (u v : Int) (w : World) (e : Ending) (w' : World) : Prop := e = .returned (.tuple #[.int .i64 u, .int .i64 v]) ∧ ∃ n, w' = w.drewN n
set_option maxHeartbeats 2000000 in
theorem conduct_any (b : Nat) (c : Cn) (x : Bd) (w : World) (hG : GridC w b c x) :
    Calls Tryz.prog 190 #[.pointer (some ⟨b, 0, none⟩)] w (TwoD (c.a x.2) (c.b x.2) w) := by
  have c2 := hG.c2
  have c3 := hG.c3
  have c5 := hG.c5
  have c6 := hG.c6
  have c55 := hG.brk
  clear hG
  obtain ⟨T, br⟩ := x
  cases br
  · go_enter Tryz.func190, Tryz.ntmps190
    go_wp2
    go_quiet (fail)
    go_wp2
    go_ret2
    exact ⟨rfl, _, rfl⟩
  · go_enter Tryz.func190, Tryz.ntmps190
    go_wp2
    go_quiet (fail)
    go_wp2
    go_ret2
    exact ⟨rfl, _, rfl⟩
set_option maxHeartbeats 2000000 in
theorem gplaces_any (b : Nat) (c : Cn) (x : Bd) (w : World) (hG : GridC w b c x) (hc : c.Ok) :
    Calls Tryz.prog 180 #[.pointer (some ⟨b, 0, none⟩)] w (IntD (c.P : Nat) w) := by
  have c0 := hG.c0
  have c1 := hG.c1
  obtain ⟨p1, p2⟩ := hc.mul
  have HP := hid c.P_int
  have s1 : IntKind.i64.wrap ((c.R : Int) * (c.L : Int)) = (c.P : Nat) := by rw [HP.out]; exact wrap_i64 (by omega) (by omega)
  clear hG
  go_enter Tryz.func180, Tryz.ntmps180
  go_wp2
  go_quiet (fail)
  go_wp2
  go_ret
  exact ⟨rfl, _, rfl⟩

theorem mul_bd {a b M N : Int} (h1 : -M ≤ a) (h2 : a ≤ M) (h3 : -N ≤ b) (h4 : b ≤ N) : -(M * N) ≤ a * b ∧ a * b ≤ M * N := by
  have p1 := Int.mul_nonneg (show 0 ≤ M - a by omega) (show 0 ≤ N + b by omega)
  have p2 := Int.mul_nonneg (show 0 ≤ M + a by omega) (show 0 ≤ N - b by omega)
  have p3 := Int.mul_nonneg (show 0 ≤ M - a by omega) (show 0 ≤ N - b by omega)
  have p4 := Int.mul_nonneg (show 0 ≤ M + a by omega) (show 0 ≤ N + b by omega)
  constructor <;> grind
theorem gridC_drew {w w1 : World} {b : Nat} {c : Cn} {x : Bd} (h : GridC w b c x) (hd : ∃ n, w1 = w.drewN n) : GridC w1 b c x := by
  obtain ⟨n, rfl⟩ := hd
  exact h.drewN n
set_option maxHeartbeats 4000000 in
theorem mixed_any (b : Nat) (c : Cn) (x : Bd) (bath : Int) (r l : Nat) (w : World) (hG : GridC w b c x) (hc : c.Ok) (hx : Warm c x) (b1 : -50000 ≤ bath) (b2 : bath ≤ 200000) (hr : r < c.R) (hl : l < c.L) :
    Calls Tryz.prog 186 #[.pointer (some ⟨b, 0, none⟩), .int .i64 (r : Int), .int .i64 (l : Int), .int .i64 bath] w (IntD (mixT c.R c.L (c.a x.2) (c.b x.2) x.1 bath r l) w) := by
  have hM : mixT c.R c.L (c.a x.2) (c.b x.2) x.1 bath r l = num (c.a x.2) (c.b x.2) r (nearT c.R c.L x.1 bath ((r : Int) - 1) l) (nearT c.R c.L x.1 bath (r + 1) l) (nearT c.R c.L x.1 bath r ((l : Int) - 1)) (nearT c.R c.L x.1 bath r (l + 1)) (nearT c.R c.L x.1 bath r l) / (1000 * (2 * r + 1)) := rfl
  rw [hM]
  clear hM
  obtain ⟨a1, a2, a3⟩ := hc.ra x.2
  have hlen : x.1.length = c.P := hx.len
  have n1 := nearT_bd (r - 1 : Int) l hx.len hx.bd ⟨b1, b2⟩
  have n2 := nearT_bd (r + 1 : Int) l hx.len hx.bd ⟨b1, b2⟩
  have n3 := nearT_bd (r : Int) (l - 1 : Int) hx.len hx.bd ⟨b1, b2⟩
  have n4 := nearT_bd (r : Int) (l + 1 : Int) hx.len hx.bd ⟨b1, b2⟩
  have n5 := nearT_bd (r : Int) (l : Int) hx.len hx.bd ⟨b1, b2⟩
  have hr6 := hc.r2
  have hl8 := hc.l2
  have HG := hid hG; have HOK := hid hc; have HLEN := hid hlen
  have HD : Hid (∃ n, w = w.drewN n) := ⟨0, rfl⟩
  clear hG hx hlen
  obtain ⟨y1, e1⟩ : ∃ y, nearT c.R c.L x.1 bath ((r : Int) - 1) l = y := ⟨_, rfl⟩
  obtain ⟨y2, e2⟩ : ∃ y, nearT c.R c.L x.1 bath ((r : Int) + 1) l = y := ⟨_, rfl⟩
  obtain ⟨y3, e3⟩ : ∃ y, nearT c.R c.L x.1 bath (r : Int) ((l : Int) - 1) = y := ⟨_, rfl⟩
  obtain ⟨y4, e4⟩ : ∃ y, nearT c.R c.L x.1 bath (r : Int) ((l : Int) + 1) = y := ⟨_, rfl⟩
  obtain ⟨y5, e5⟩ : ∃ y, nearT c.R c.L x.1 bath (r : Int) (l : Int) = y := ⟨_, rfl⟩
  rw [e1] at n1; rw [e2] at n2; rw [e3] at n3; rw [e4] at n4; rw [e5] at n5
  rw [e1, e2, e3, e4, e5]
  have H1 := hid e1; have H2 := hid e2; have H3 := hid e3; have H4 := hid e4; have H5 := hid e5
  clear e1 e2 e3 e4 e5
  have HC : Hid (∀ w, GridC w b c x → Calls Tryz.prog 190 #[.pointer (some ⟨b, 0, none⟩)] w (TwoD (c.a x.2) (c.b x.2) w)) := fun w h => conduct_any b c x w h
  generalize c.a x.2 = A at a1 a3 HC ⊢
  generalize c.b x.2 = B at a2 a3 HC ⊢
  have t1 := mul_bd (a := (r : Int)) (b := y1) (M := 8) (N := 200000) (by omega) (by omega) (by omega) (by omega)
  have t2 := mul_bd (a := (r : Int) + 1) (b := y2) (M := 8) (N := 200000) (by omega) (by omega) (by omega) (by omega)
  have t3 := mul_bd (a := 2 * A) (b := (r : Int) * y1 + ((r : Int) + 1) * y2) (M := 1000) (N := 3200000) (by omega) (by omega) (by omega) (by omega)
  have t4 := mul_bd (a := B) (b := y3 + y4) (M := 500) (N := 400000) (by omega) (by omega) (by omega) (by omega)
  have t5 := mul_bd (a := 1000 - 2 * A - 2 * B) (b := y5) (M := 1000) (N := 200000) (by omega) (by omega) (by omega) (by omega)
  have t6 := mul_bd (a := 2 * (r : Int) + 1) (b := B * (y3 + y4) + (1000 - 2 * A - 2 * B) * y5) (M := 17) (N := 400000000) (by omega) (by omega) (by omega) (by omega)
  simp only [Int.reduceMul, Int.reduceNeg] at t1 t2 t3 t4 t5 t6
  obtain ⟨t1, t1'⟩ := t1; obtain ⟨t2, t2'⟩ := t2; obtain ⟨t3, t3'⟩ := t3; obtain ⟨t4, t4'⟩ := t4; obtain ⟨t5, t5'⟩ := t5; obtain ⟨t6, t6'⟩ := t6
  obtain ⟨n1, n1'⟩ := n1; obtain ⟨n2, n2'⟩ := n2; obtain ⟨n3, n3'⟩ := n3; obtain ⟨n4, n4'⟩ := n4; obtain ⟨n5, n5'⟩ := n5
  unfold num
  go_enter Tryz.func186, Tryz.ntmps186
  go_wp2_with (first
    | (go_at_call 190; refine (HC.out _ HG.out).mono ?_; rintro e w1 ⟨rfl, hd⟩; have HG := hid (gridC_drew HG.out hd); have HD := hid (drew_more HD.out hd); clear hd)
    | (go_at_call 191; refine (near_any b c x bath _ _ _ HG.out HOK.out HLEN.out (by omega) (by omega) (by omega) (by omega)).mono ?_; rintro e w1 ⟨rfl, hd⟩; have HG := hid (gridC_drew HG.out hd); have HD := hid (drew_more HD.out hd); clear hd; first | rw [H1.out] | rw [H2.out] | rw [H3.out] | rw [H4.out] | rw [H5.out])
    | (go_at_call 192; refine (floor_any _ _ _ (by omega) (by omega) (by omega) (by omega)).mono ?_; rintro e w1 ⟨rfl, rfl⟩))
  go_ret
  exact ⟨rfl, HD.out⟩
end Go.Proofs.YtihbjimnjhfpeaaGreat

/- Walks of foremost, coldest, hottest: contracts. -/
namespace Go.Proofs.YtihbjimnjhfpeaaGreat
open Go.RowKit

theorem bestT_bd (lt : Int → Int → Bool) (T : List Int) (k : Nat) (hk : k ≤ T.length) (h0 : 0 < T.length) (hT : ∀ x ∈ T, -50000 ≤ x ∧ x ≤ 200000) : (bestT lt T k).1 < T.length ∧ -50000 ≤ (bestT lt T k).2 ∧ (bestT lt T k).2 ≤ 200000 := by
  obtain ⟨h1, h2⟩ := bestT_at lt T k hk h0
  rw [getD_at h1] at h2
  have := hT _ (List.getElem_mem h1)
  rw [h2] at this
  exact ⟨h1, this⟩
theorem bestT_yes {lt : Int → Int → Bool} {T : List Int} {k : Nat} {v : Int} (hv : T.getD k 0 = v) (h : lt v (bestT lt T k).2 = true) : bestT lt T (k + 1) = (k, v) := by
  rw [← hv] at h ⊢
  show (if _ then _ else _) = _
  rw [h]; rfl
theorem bestT_no {lt : Int → Int → Bool} {T : List Int} {k : Nat} {v : Int} (hv : T.getD k 0 = v) (h : lt v (bestT lt T k).2 = false) : bestT lt T (k + 1) = bestT lt T k := by
  rw [← hv] at h
  show (if _ then _ else _) = _
  rw [h]; rfl

set_option maxHeartbeats 400000 in
theorem cold_lt (t u : Int) (w : World) : Calls Tryz.prog 194 #[.int .i64 t, .int .i64 u] w fun e w' => e = .returned (.bool (ltB t u)) ∧ w = w' := by
  have h := hid (show ltB t u = _ from rfl)
  go_enter Tryz.func194, Tryz.ntmps194
  go_wp2
  go_ret
  exact ⟨rfl, rfl⟩
set_option maxHeartbeats 4000000 in
theorem cold_best (b : Nat) (c : Cn) (x : Bd) (w : World) (hG : GridC w b c x) (hc : c.Ok) (hx : Warm c x) :
    Calls Tryz.prog 193 #[.pointer (some ⟨b, 0, none⟩), .func (.func 194) #[] #[]] w (TwoD ((bestT ltB x.1 x.1.length).1 : Nat) (bestT ltB x.1 x.1.length).2 w) := by
  obtain ⟨p1, p2⟩ := hc.p
  have hlen : x.1.length = c.P := hx.len
  have h0 : 0 < x.1.length := by omega
  have e0 := hG.temp 0 h0
  have HB := hid (fun k hk => bestT_bd ltB x.1 k hk h0 hx.bd)
  have HG := hid hG; have HOK := hid hc; have HLEN := hid hlen
  have HTD := hid (fun j (h : j < x.1.length) => getD_at h)
  have HT := hid (fun j (h : j < x.1.length) => hx.bd _ (List.getElem_mem h))
  have s0 : x.1.getD 0 0 = x.1[0] := getD_at h0
  have HS0 := hid s0
  clear hG hx hlen s0
  obtain ⟨v0, hv0⟩ : ∃ v, v = x.1[0] := ⟨_, rfl⟩
  rw [← hv0] at e0
  have HV0 := hid hv0
  clear hv0
  rw [show (7 + 0 : Nat) = 7 from rfl] at e0
  have P0 : 0 < c.P := by omega
  have P1 : ((c.P : Nat) : Int) ≤ 48 := by omega
  go_enter Tryz.func193, Tryz.ntmps193
  go_wp2
  go_quiet ((go_at_call 180; exact Calls.quiet_of (gplaces_any b c x _ (HG.out.drewN _) HOK.out)))
  go_wp2
  go_loop [4, 5, 20] (fun p t i => ∃ k : Nat, k ≤ c.P ∧ i = .int .i64 (k : Int) ∧ ∃ (j : Nat) (v : Int), p = .int .i64 (j : Int) ∧ t = .int .i64 v ∧ Hid (bestT ltB x.1 k = (j, v))) (fun _ _ i => c.P - (intOf i).toNat)
  case atStart => exact ⟨0, Nat.zero_le _, rfl, 0, v0, rfl, rfl, by show (0, x.1.getD 0 0) = _; rw [HS0.out, ← HV0.out]⟩
  case round =>
    obtain ⟨k, hk, rfl, j, v, rfl, rfl, hB⟩ := hrel
    clear e0
    by_cases hlt : k < c.P
    · have hlt2 : k < x.1.length := by rw [HLEN.out]; exact hlt
      have ex := (HG.out.drewN nq).temp k hlt2
      have HTK := hid (HTD.out k hlt2)
      obtain ⟨u, hu⟩ : ∃ u, u = x.1[k] := ⟨_, rfl⟩
      rw [← hu] at ex
      have HU := hid hu
      clear hu
      have hlt' : (k : Int) < c.P := by omega
      cases hq : ltB u v
      · have HN := hid (bestT_no (lt := ltB) (T := x.1) (k := k) (v := u) (HTK.out.trans HU.out.symm) (by rw [hB.out]; exact hq))
        go_wp2_with (go_at_call 194; refine (cold_lt _ _ _).mono ?_; rintro e w' ⟨rfl, rfl⟩)
        go_round
        case rel => exact ⟨k + 1, by omega, by go_num, j, v, rfl, rfl, HN.out.trans hB.out⟩
        case measure => simp [intOf]; omega
      · have HN := hid (bestT_yes (lt := ltB) (T := x.1) (k := k) (v := u) (HTK.out.trans HU.out.symm) (by rw [hB.out]; exact hq))
        go_wp2_with (go_at_call 194; refine (cold_lt _ _ _).mono ?_; rintro e w' ⟨rfl, rfl⟩)
        go_round
        case rel => exact ⟨k + 1, by omega, by go_num, k, u, rfl, rfl, HN.out⟩
        case measure => simp [intOf]; omega
    · obtain rfl : k = c.P := by omega
      have HE := hid hB.out
      go_wp2
      go_ret2
      exact ⟨by rw [HLEN.out, HE.out]; rfl, nq, rfl⟩
set_option maxHeartbeats 1000000 in
theorem coldest_any (b : Nat) (c : Cn) (x : Bd) (w : World) (hG : GridC w b c x) (hc : c.Ok) (hx : Warm c x) :
    Calls Tryz.prog 187 #[.pointer (some ⟨b, 0, none⟩)] w (TwoD ((bestT ltB x.1 x.1.length).1 : Nat) (bestT ltB x.1 x.1.length).2 w) := by
  go_enter Tryz.func187, Tryz.ntmps187
  go_wp2_with (go_at_call 193; refine (cold_best b c x _ hG hc hx).mono ?_; rintro e w1 ⟨rfl, hd⟩; have HD := hid hd; clear hd)
  go_ret2
  exact ⟨rfl, HD.out⟩
end Go.Proofs.YtihbjimnjhfpeaaGreat
