/- Walks of the reference's whole numbers: Of, Compare: contracts. -/
import Derived.Test.YtfngmpkceceomaaBc
import Derived.Test.YtfngmpkceceomaaPw
namespace Go.Proofs.Ytfngmpkceceomaa
open Go.RowKit Go.Lib

def B6 : Nat := 1000000
def iv (l : List Nat) : List Value := l.map fun (x : Nat) => Value.int .i64 (x : Int)
theorem iv_len (l : List Nat) : (iv l).length = l.length := by simp [iv]
theorem iv_get (l : List Nat) (k : Nat) (h : k < l.length) : (iv l)[k]? = some (.int .i64 (l[k] : Nat)) := by simp [iv, h]
theorem iv_append (a b : List Nat) : iv (a ++ b) = iv a ++ iv b := by simp [iv]
theorem iv_set (l : List Nat) (k x : Nat) : (iv l).set k (.int .i64 (x : Int)) = iv (l.set k x) := by simp [iv, List.map_set]
/-- A row of ints of the call's own. -/
def RowV (w : World) (base : Nat) (v : Value) (l : List Nat) : Prop := w.ownsRow base 3 1 v l.length (iv l)
/-- A row of ints that is read. -/
def RowR (w : World) (v : Value) (l : List Nat) : Prop := (v = .slice none 0 0 ∧ l = []) ∨ ∃ g cap, v = .slice (some ⟨g, 0, none⟩) l.length cap ∧ ∀ k (h : k < l.length), w.cell? ⟨g, k, none⟩ = some (.int .i64 (l[k] : Nat))
theorem RowV.reads {w : World} {base : Nat} {v : Value} {l : List Nat} (h : RowV w base v l) : RowR w v l := by
  rcases h.2 with ⟨rfl, h0⟩ | ⟨g, cap, cur, rfl, _⟩
  · exact .inl ⟨rfl, List.eq_nil_of_length_eq_zero h0⟩
  · exact .inr ⟨g, cap, rfl, fun k hk => by rw [World.ownsRow.cellAt h k (by omega), iv_get _ k hk]⟩
theorem RowR.keep {W w2 : World} {v : Value} {l : List Nat} (h : RowR W v l) (hb : Below W.heap.size W w2) : RowR w2 v l := by
  rcases h with h | ⟨g, cap, hv, hc⟩
  · exact .inl h
  · exact .inr ⟨g, cap, hv, fun k hk => keep_cell hb (hc k hk)⟩

/-- A whole number of the call's own; one that is read. -/
def Wh (w : World) (base : Nat) (v : Value) (x : Nat) : Prop := ∃ l, RowV w base v l ∧ Pw.Norm B6 l ∧ Pw.vl B6 l = x
def WhR (w : World) (v : Value) (x : Nat) : Prop := ∃ l, RowR w v l ∧ Pw.Norm B6 l ∧ Pw.vl B6 l = x
theorem Wh.reads {w : World} {base : Nat} {v : Value} {x : Nat} (h : Wh w base v x) : WhR w v x := by
  obtain ⟨l, h1, h2⟩ := h
  exact ⟨l, h1.reads, h2⟩
theorem WhR.keep {W w2 : World} {v : Value} {x : Nat} (h : WhR W v x) (hb : Below W.heap.size W w2) : WhR w2 v x := by
  obtain ⟨l, h1, h2⟩ := h
  exact ⟨l, h1.keep hb, h2⟩
theorem B6_pos : 2 ≤ B6 := by unfold B6; omega
attribute [irreducible] B6

/-- What Of, Times and Power hand back: a new whole number. -/
def WhP (x : Nat) (w : World) (e : Ending) (w' : World) : Prop := ∃ v, e = .returned v ∧ Wh w' w.heap.size v x ∧ Below w.heap.size w w'

theorem info_int : (Try.prog.info? 3).map (fun i => (i.zero, i.size, i.bytes)) = some (some (.int .i64 0), 1, 8) := by kernel_rfl

/-- Of, digit by digit. -/
structure OfR (n m : Nat) (l : List Nat) : Prop where
  dig : ∀ x ∈ l, x < B6
  sum : Pw.vl B6 l + m * B6 ^ l.length = n
  norm : m = 0 → Pw.Norm B6 l
theorem OfR.start (n : Nat) : OfR n n [] := ⟨by simp, by simp [Pw.vl], fun _ => ⟨by simp, by simp⟩⟩
theorem OfR.len {n m : Nat} {l : List Nat} (h : OfR n m l) (hm : 0 < m) (hn : n < 9000000000000000000) : l.length ≤ 3 := by
  rcases Nat.lt_or_ge 3 l.length with h4 | h4
  · have h1 := h.sum
    have h2 : B6 ^ 4 ≤ B6 ^ l.length := Nat.pow_le_pow_right (by have := B6_pos; omega) h4
    have h3 : 1 * B6 ^ l.length ≤ m * B6 ^ l.length := Nat.mul_le_mul_right _ hm
    have h5 : B6 ^ 4 = 1000000000000000000000000 := by unfold B6; rfl
    omega
  · exact h4
theorem OfR.step {n m : Nat} {l : List Nat} (h : OfR n m l) (hm : 0 < m) : OfR n (m / B6) (l ++ [m % B6]) := by
  have hb := B6_pos
  refine ⟨?_, ?_, fun h0 => ⟨?_, fun hne => ?_⟩⟩
  · intro x hx
    rcases List.mem_append.1 hx with hx | hx
    · exact h.dig x hx
    · simp at hx; subst hx; exact Nat.mod_lt _ (by omega)
  · have h1 := h.sum
    rw [Pw.vl_append]
    simp only [Pw.vl, List.length_append, List.length_cons, List.length_nil, Nat.mul_zero, Nat.add_zero, Nat.zero_add, Nat.pow_succ]
    have e : m * B6 ^ l.length = B6 ^ l.length * (m % B6) + m / B6 * (B6 ^ l.length * B6) := by
      conv => lhs; rw [← Nat.div_add_mod m B6]
      rw [Nat.add_mul, Nat.mul_comm (m % B6), Nat.mul_comm B6, Nat.mul_assoc, Nat.mul_comm B6 (B6 ^ _)]; omega
    omega
  · intro x hx
    rcases List.mem_append.1 hx with hx | hx
    · exact h.dig x hx
    · simp at hx; subst hx; exact Nat.mod_lt _ (by omega)
  · have hlast : (l ++ [m % B6]).getLast hne = m % B6 := by simp
    rw [hlast]
    have : m < B6 := by
      rcases Nat.lt_or_ge m B6 with h' | h'
      · exact h'
      · have := (Nat.one_le_div_iff (by omega : 0 < B6)).2 h'; omega
    rw [Nat.mod_eq_of_lt this]; exact hm
theorem B6_eq : B6 = 1000000 := by unfold B6; rfl
theorem row_append {w1 : World} {base : Nat} {v : Value} {l : List Nat} {x : Nat} {y : Int} (hy : y = (x : Int)) (h : w1.ownsRow base 3 1 v (l.length + 1) (iv l ++ [.int .i64 y])) : RowV w1 base v (l ++ [x]) := by
  subst hy
  unfold RowV
  rw [iv_append, List.length_append]
  exact h
theorem below_append {w wr w1 : World} {v : Value} {l : List Nat} {o : Obj} (hB : Below w.heap.size w wr) (hv : RowV wr w.heap.size v l) (hg : (wr.alloc o).grownBy w1 v.ownBlock) : Below w.heap.size w w1 :=
  (hB.alloc hB.size o).grown hg (by have := hB.size; simp; omega) (fun k hk => (World.ownsRow.lt hv k hk).1)

set_option maxHeartbeats 1000000 in
theorem of_any (n : Nat) (w : World) (hn : n < 9000000000000000000) : Calls Try.prog 25 #[.int .i64 n] w (WhP n w) := by
  obtain ⟨i0, hi, hz0, hz1, hz2⟩ := info_parts info_int
  go_enter Try.func25, Try.ntmps25
  go_wp2
  go_loopw [0, 3] (fun a v wr => ∃ m : Nat, a = .int .i64 m ∧ m < 9000000000000000000 ∧ ∃ l : List Nat, RowV wr w.heap.size v l ∧ Hid (OfR n m l) ∧ Below w.heap.size w wr) (fun a _ _ => (intOf a).toNat)
  case atStart => exact ⟨n, rfl, hn, [], World.ownsRow_nil _ _ _ _, OfR.start n, Below.refl _ _⟩
  case round =>
    obtain ⟨m, rfl, hmn, l, hv, hl, hB⟩ := hrel
    by_cases h0 : 0 < m
    · have hsz := hB.size
      have hlen := hl.out.len h0 hn
      have hst := hid (hl.out.step h0)
      go_wp2_with (at_builtin; refine wpList_append_own _ rfl (.tmp 6) (.tmp 9) 33 rfl w.heap.size 3 i0 (.int .i64 0) 1 8 Try.underlying33 hi hz0 hz1 hz2 rfl (by decide) _ _ _ rfl (World.ownsRow.alloc hv _) ⟨wr.heap.size, 0, none⟩ 1 1 [.int .i64 ((m : Int) % 1000000)] rfl rfl cell_one_at one_cell (by unfold maxLen; omega) (by omega) (by simp; omega) ?_; intro v1 w1 hown1 hgrow1 _)
      go_roundw
      case rel => exact ⟨m / 1000000, by go_num, by omega, l ++ [m % 1000000], row_append (by omega) hown1, by rw [← B6_eq]; exact hst, below_append hB hv hgrow1⟩
      case measure => simp [intOf]; omega
    · obtain rfl : m = 0 := by omega
      go_wp2
      go_ret
      exact ⟨_, rfl, ⟨l, hv, hl.out.norm rfl, by have := hl.out.sum; simpa using this⟩, hB⟩

theorem drew1 {w : World} {n m : Nat} : ∃ k, (w.drewN n).drewN m = w.drewN k := ⟨_, World.drewN_drewN _ _ _⟩
theorem drew2 {w : World} {n m q : Nat} : ∃ k, ((w.drewN n).drewN m).drewN q = w.drewN k := ⟨_, by rw [World.drewN_drewN, World.drewN_drewN]⟩
def cmpI (x y : Nat) : Int := if x < y then -1 else if y < x then 1 else 0
theorem cmpI_len {a b : List Nat} (ha : Pw.Norm B6 a) (hb : Pw.Norm B6 b) (h : a.length < b.length) : cmpI (Pw.vl B6 a) (Pw.vl B6 b) = -1 := by
  unfold cmpI; rw [if_pos (Pw.vl_lt_of_len (by have := B6_pos; omega) ha hb h)]
theorem cmpI_len' {a b : List Nat} (ha : Pw.Norm B6 a) (hb : Pw.Norm B6 b) (h : b.length < a.length) : cmpI (Pw.vl B6 a) (Pw.vl B6 b) = 1 := by
  have := Pw.vl_lt_of_len (by have := B6_pos; omega) hb ha h
  unfold cmpI; rw [if_neg (by omega), if_pos this]
theorem cmpI_top {a b : List Nat} (hl : a.length = b.length) (ha : Pw.Norm B6 a) (i : Nat) (hi : i < a.length) (hlt : a[i] < b[i]'(hl ▸ hi))
    (htop : ∀ j, i < j → (hj : j < a.length) → a[j] = b[j]'(hl ▸ hj)) : cmpI (Pw.vl B6 a) (Pw.vl B6 b) = -1 := by
  unfold cmpI; rw [if_pos (Pw.vl_lt_of_top hl ha.dig i hi hlt htop)]
theorem cmpI_top' {a b : List Nat} (hl : a.length = b.length) (hb : Pw.Norm B6 b) (i : Nat) (hi : i < a.length) (hlt : b[i]'(hl ▸ hi) < a[i])
    (htop : ∀ j, i < j → (hj : j < a.length) → a[j] = b[j]'(hl ▸ hj)) : cmpI (Pw.vl B6 a) (Pw.vl B6 b) = 1 := by
  have := Pw.vl_lt_of_top hl.symm hb.dig i (hl ▸ hi) hlt (fun j hj h2 => (htop j hj (hl.symm ▸ h2)).symm)
  unfold cmpI; rw [if_neg (by omega), if_pos this]
theorem cmpI_same (x : Nat) : cmpI x x = 0 := by unfold cmpI; rw [if_neg (Nat.lt_irrefl _), if_neg (Nat.lt_irrefl _)]

set_option maxHeartbeats 1000000 in
theorem cmp_len (a b : List Nat) (pa pb : Option Addr) (ca cb : Nat) (w : World) (ha : Pw.Norm B6 a) (hb : Pw.Norm B6 b) (hne : a.length ≠ b.length) :
    Calls Try.prog 26 #[.slice pa a.length ca, .slice pb b.length cb] w fun e w' => e = .returned (.int .i64 (cmpI (Pw.vl B6 a) (Pw.vl B6 b))) ∧ ∃ n, w' = w.drewN n := by
  have hd : ((a.length : Int) != b.length) = true := by simp; omega
  by_cases hlt : a.length < b.length
  · have hr := hid (cmpI_len ha hb hlt)
    go_enter Try.func26, Try.ntmps26
    go_wp2
    go_ret
    exact ⟨ret_int hr.out.symm, 0, rfl⟩
  · have hr := hid (cmpI_len' ha hb (by omega))
    go_enter Try.func26, Try.ntmps26
    go_wp2
    go_ret
    exact ⟨ret_int hr.out.symm, 0, rfl⟩

set_option maxHeartbeats 2000000 in
theorem cmp_same (a b : List Nat) (ga gb ca cb : Nat) (w : World) (ha : Pw.Norm B6 a) (hb : Pw.Norm B6 b) (hl : a.length = b.length) (h1 : a.length ≤ 1000000)
    (hca : ∀ k (h : k < a.length), w.cell? ⟨ga, k, none⟩ = some (.int .i64 (a[k] : Nat))) (hcb : ∀ k (h : k < b.length), w.cell? ⟨gb, k, none⟩ = some (.int .i64 (b[k] : Nat))) :
    Calls Try.prog 26 #[.slice (some ⟨ga, 0, none⟩) a.length ca, .slice (some ⟨gb, 0, none⟩) a.length cb] w fun e w' => e = .returned (.int .i64 (cmpI (Pw.vl B6 a) (Pw.vl B6 b))) ∧ ∃ n, w' = w.drewN n := by
  have HL := hid hl
  have HCA := hid hca
  have HCB := hid hcb
  clear hca hcb hl
  go_enter Try.func26, Try.ntmps26
  go_wp2
  go_loopw [5] (fun i wr => ∃ k : Nat, k ≤ a.length ∧ i = .int .i64 ((k : Int) - 1) ∧ Hid (∀ j, k ≤ j → (hj : j < a.length) → a[j] = b[j]'(HL.out ▸ hj)) ∧ ∃ n, wr = w.drewN n) (fun i _ => (intOf i + 1).toNat)
  case atStart => exact ⟨a.length, Nat.le_refl _, by go_num, fun j h1 h2 => absurd h2 (by omega), 0, rfl⟩
  case round =>
    obtain ⟨k, hk, rfl, htop, n, rfl⟩ := hrel
    by_cases hk0 : k = 0
    · subst hk0
      have hr : Hid (cmpI (Pw.vl B6 a) (Pw.vl B6 b) = 0) := by rw [top_same HL.out htop.out]; exact cmpI_same _
      rw [show ((0 : Nat) : Int) - 1 = -1 from rfl]
      go_wp2
      go_ret
      exact ⟨ret_int hr.out.symm, n, rfl⟩
    · obtain ⟨i, rfl⟩ : ∃ i, k = i + 1 := ⟨k - 1, by omega⟩
      rw [show ((i + 1 : Nat) : Int) - 1 = (i : Int) by omega]
      have ex := HCA.out i (by omega)
      have ey := HCB.out i (by rw [← HL.out]; omega)
      rcases Nat.lt_trichotomy (a[i]'(by omega)) (b[i]'(by rw [← HL.out]; omega)) with hxy | hxy | hxy
      · have hr := hid (cmpI_top HL.out ha i (by omega) hxy (fun j h1 h2 => htop.out j h1 h2))
        generalize a[i]'(by omega) = x at ex hxy
        generalize b[i]'(by rw [← HL.out]; omega) = y at ey hxy
        have hd1 : decide (x < y) = true := by simp; omega
        clear hxy
        go_wp2
        go_quiet (fail)
        go_wp2
        go_ret
        exact ⟨ret_int hr.out.symm, by first | exact ⟨_, rfl⟩ | exact drew1 | exact drew2⟩
      · have htop' := hid (show ∀ j, i ≤ j → (hj : j < a.length) → a[j] = b[j]'(HL.out ▸ hj) from fun j h1 h2 => by
          rcases Nat.eq_or_lt_of_le h1 with rfl | h3
          · exact hxy
          · exact htop.out j h3 h2)
        generalize a[i]'(by omega) = x at ex hxy
        generalize b[i]'(by rw [← HL.out]; omega) = y at ey hxy
        subst hxy
        go_wp2
        go_quiet (fail)
        go_wp2
        go_quiet (fail)
        go_wp2
        go_roundw
        case rel => exact ⟨i, by omega, rfl, htop', by first | exact ⟨_, rfl⟩ | exact drew1 | exact drew2⟩
        case measure => simp [intOf]
      · have hr := hid (cmpI_top' HL.out hb i (by omega) hxy (fun j h1 h2 => htop.out j h1 h2))
        generalize a[i]'(by omega) = x at ex hxy
        generalize b[i]'(by rw [← HL.out]; omega) = y at ey hxy
        have hd1 : decide (x < y) = false := by simp; omega
        have hd2 : decide (y < x) = true := by simp; omega
        clear hxy
        go_wp2
        go_quiet (fail)
        go_wp2
        go_quiet (fail)
        go_wp2
        go_ret
        exact ⟨ret_int hr.out.symm, by first | exact ⟨_, rfl⟩ | exact drew1 | exact drew2⟩

set_option maxHeartbeats 1000000 in
theorem cmp_zero (pa pb : Option Addr) (ca cb : Nat) (w : World) : Calls Try.prog 26 #[.slice pa 0 ca, .slice pb 0 cb] w fun e w' => e = .returned (.int .i64 (cmpI (Pw.vl B6 []) (Pw.vl B6 []))) ∧ ∃ n, w' = w.drewN n := by
  have hr := hid (cmpI_same (Pw.vl B6 []))
  go_enter Try.func26, Try.ntmps26
  go_wp2
  refine wp_loop_rounds 1 ?_
  rw [rounds_succ]
  go_wp2
  go_ret
  exact ⟨ret_int hr.out.symm, 0, rfl⟩

theorem cmp_any (va vb : Value) (x y : Nat) (w : World) (ra : WhR w va x) (rb : WhR w vb y) (hx : x < 1000000 ^ 1000) (hy : y < 1000000 ^ 1000) :
    Calls Try.prog 26 #[va, vb] w fun e w' => e = .returned (.int .i64 (cmpI x y)) ∧ ∃ n, w' = w.drewN n := by
  obtain ⟨a, ra, na, rfl⟩ := ra
  obtain ⟨b, rb, nb, rfl⟩ := rb
  have la := Pw.len_le B6_pos na (k := 1000) (by rw [B6_eq] at hx ⊢; exact hx)
  have lb := Pw.len_le B6_pos nb (k := 1000) (by rw [B6_eq] at hy ⊢; exact hy)
  clear hx hy
  have hc : (∃ ga ca, va = .slice (some ⟨ga, 0, none⟩) a.length ca ∧ ∀ k (h : k < a.length), w.cell? ⟨ga, k, none⟩ = some (.int .i64 (a[k] : Nat))) ∨ (va = .slice none 0 0 ∧ a = []) := by
    rcases ra with h | h
    · exact .inr h
    · exact .inl h
  have hd : (∃ gb cb, vb = .slice (some ⟨gb, 0, none⟩) b.length cb ∧ ∀ k (h : k < b.length), w.cell? ⟨gb, k, none⟩ = some (.int .i64 (b[k] : Nat))) ∨ (vb = .slice none 0 0 ∧ b = []) := by
    rcases rb with h | h
    · exact .inr h
    · exact .inl h
  by_cases hl : a.length = b.length
  · by_cases h0 : a.length = 0
    · obtain rfl := List.eq_nil_of_length_eq_zero h0
      obtain rfl := List.eq_nil_of_length_eq_zero (hl.symm.trans h0)
      have : ∃ pa ca, va = .slice pa 0 ca := by rcases hc with ⟨ga, ca, rfl, _⟩ | ⟨rfl, _⟩ <;> exact ⟨_, _, rfl⟩
      obtain ⟨pa, ca, rfl⟩ := this
      have : ∃ pb cb, vb = .slice pb 0 cb := by rcases hd with ⟨gb, cb, rfl, _⟩ | ⟨rfl, _⟩ <;> exact ⟨_, _, rfl⟩
      obtain ⟨pb, cb, rfl⟩ := this
      exact cmp_zero pa pb ca cb w
    · obtain ⟨ga, ca, rfl, ha⟩ := hc.resolve_right (fun h => h0 (by rw [h.2]; rfl))
      obtain ⟨gb, cb, rfl, hb⟩ := hd.resolve_right (fun h => h0 (by rw [hl, h.2]; rfl))
      rw [← hl]
      exact cmp_same a b ga gb ca cb w na nb hl (by omega) ha hb
  · have : ∃ pa ca, va = .slice pa a.length ca := by rcases hc with ⟨ga, ca, rfl, _⟩ | ⟨rfl, rfl⟩ <;> exact ⟨_, _, rfl⟩
    obtain ⟨pa, ca, rfl⟩ := this
    have : ∃ pb cb, vb = .slice pb b.length cb := by rcases hd with ⟨gb, cb, rfl, _⟩ | ⟨rfl, rfl⟩ <;> exact ⟨_, _, rfl⟩
    obtain ⟨pb, cb, rfl⟩ := this
    exact cmp_len a b pa pb ca cb w na nb hl
end Go.Proofs.Ytfngmpkceceomaa
