/- Texts of this seat, one behind the other. -/
import Derived.Test.YtihbjimnjhfpeaaGreatR09
import Derived.Deep.RegionWith
/- Walks of above, tenTo, the root's test, sort.Search over it, and root of package lethal: contracts. -/
namespace Go.Proofs.YtihbjimnjhfpeaaGreat.Lt
open Go.RowKit Go.Lib

/-- A number that is read. -/
def NumR (w : World) (v : Value) (l : List Nat) : Prop := ∃ g cap, v = .slice (some ⟨g, 0, none⟩) l.length cap ∧ ∀ k (h : k < l.length), w.cell? ⟨g, k, none⟩ = some (.int .u64 (l[k] : Nat))
theorem NumV.reads {w : World} {base : Nat} {v : Value} {l : List Nat} (h : NumV w base v l) (hl : l ≠ []) : NumR w v l := by
  have hv : ∃ g cap, v = .slice (some ⟨g, 0, none⟩) l.length cap := by
    rcases h.2 with ⟨_, h0⟩ | ⟨g, cap, cur, rfl, _⟩
    · exact absurd (List.eq_nil_of_length_eq_zero h0) hl
    · exact ⟨g, cap, rfl⟩
  obtain ⟨g, cap, rfl⟩ := hv
  exact ⟨g, cap, rfl, fun k hk => by rw [World.ownsRow.cellAt h k (by omega), wv_get _ k hk]⟩

theorem top_same {a b : List Nat} (hl : a.length = b.length) (h : ∀ j, 0 ≤ j → (hj : j < a.length) → a[j] = b[j]'(hl ▸ hj)) : a = b :=
  List.ext_getElem hl fun j h1 _ => h j (Nat.zero_le _) h1

def aboveB (a b : List Nat) : Bool := decide (Pm.val b < Pm.val a)
theorem aboveB_len {a b : List Nat} (ha : Pm.Norm a) (hb : Pm.Norm b) (h : a.length ≠ b.length) : aboveB a b = decide (b.length < a.length) := by
  unfold aboveB
  rcases Nat.lt_or_ge b.length a.length with h1 | h1
  · have := Pm.val_lt_of_len hb ha h1
    simp [h1, this]
  · have := Pm.val_lt_of_len ha hb (by omega)
    simp [show ¬ b.length < a.length by omega]; omega
theorem aboveB_top {a b : List Nat} (hl : a.length = b.length) (ha : Pm.Norm a) (hb : Pm.Norm b) (i : Nat) (hi : i < a.length) (hne : a[i] ≠ b[i]'(hl ▸ hi))
    (htop : ∀ j, i < j → (hj : j < a.length) → a[j] = b[j]'(hl ▸ hj)) : aboveB a b = decide (b[i]'(hl ▸ hi) < a[i]) := by
  unfold aboveB
  rcases Nat.lt_or_ge (b[i]'(hl ▸ hi)) a[i] with h1 | h1
  · have := Pm.val_lt_of_top hl.symm hb.word i (hl ▸ hi) h1 (fun j hj h2 => (htop j hj (hl.symm ▸ h2)).symm)
    simp [h1, this]
  · have := Pm.val_lt_of_top hl ha.word i hi (by omega) htop
    simp [show ¬ b[i]'(hl ▸ hi) < a[i] by omega]; omega
theorem aboveB_same {a b : List Nat} (h : a = b) : aboveB a b = false := by subst h; simp [aboveB]

set_option maxHeartbeats 1000000 in
theorem above_len (a b : List Nat) (ga gb ca cb : Nat) (w : World) (ha : Pm.Norm a) (hb : Pm.Norm b) (hne : a.length ≠ b.length) (_h1 : a.length ≤ 1000000) (_h2 : b.length ≤ 1000000) :
    Calls Tryz.prog 185 #[.slice (some ⟨ga, 0, none⟩) a.length ca, .slice (some ⟨gb, 0, none⟩) b.length cb] w fun e w' => e = .returned (.bool (aboveB a b)) ∧ ∃ n, w' = w.drewN n := by
  have hr := hid (aboveB_len ha hb hne)
  have hd : ((a.length : Int) != b.length) = true := by simp; omega
  go_enter Tryz.func185, Tryz.ntmps185
  go_wp2
  go_ret
  exact ⟨ret_bool (by rw [hr.out]), 0, rfl⟩

set_option maxHeartbeats 1000000 in
theorem above_same (a b : List Nat) (ga gb ca cb : Nat) (w : World) (ha : Pm.Norm a) (hb : Pm.Norm b) (hl : a.length = b.length) (h1 : a.length ≤ 1000000)
    (hca : ∀ k (h : k < a.length), w.cell? ⟨ga, k, none⟩ = some (.int .u64 (a[k] : Nat))) (hcb : ∀ k (h : k < b.length), w.cell? ⟨gb, k, none⟩ = some (.int .u64 (b[k] : Nat))) :
    Calls Tryz.prog 185 #[.slice (some ⟨ga, 0, none⟩) a.length ca, .slice (some ⟨gb, 0, none⟩) a.length cb] w fun e w' => e = .returned (.bool (aboveB a b)) ∧ ∃ n, w' = w.drewN n := by
  have HL := hid hl
  have HCA := hid hca
  have HCB := hid hcb
  clear hca hcb hl
  go_enter Tryz.func185, Tryz.ntmps185
  go_wp2
  go_loopw [5] (fun i wr => ∃ k : Nat, k ≤ a.length ∧ i = .int .i64 ((k : Int) - 1) ∧ Hid (∀ j, k ≤ j → (hj : j < a.length) → a[j] = b[j]'(HL.out ▸ hj)) ∧ ∃ n, wr = w.drewN n) (fun i _ => (intOf i + 1).toNat)
  case atStart => exact ⟨a.length, Nat.le_refl _, by go_num, fun j h1 h2 => absurd h2 (by omega), 0, rfl⟩
  case round =>
    obtain ⟨k, hk, rfl, htop, n, rfl⟩ := hrel
    by_cases hk0 : k = 0
    · subst hk0
      have hr := hid (aboveB_same (top_same HL.out htop.out))
      rw [show ((0 : Nat) : Int) - 1 = -1 from rfl]
      go_wp2
      go_ret
      exact ⟨ret_bool hr.out.symm, n, rfl⟩
    · obtain ⟨i, rfl⟩ : ∃ i, k = i + 1 := ⟨k - 1, by omega⟩
      rw [show ((i + 1 : Nat) : Int) - 1 = (i : Int) by omega]
      have ex := HCA.out i (by omega)
      have ey := HCB.out i (by rw [← HL.out]; omega)
      by_cases hxy : a[i]'(by omega) = b[i]'(by rw [← HL.out]; omega)
      · have htop' := hid (show ∀ j, i ≤ j → (hj : j < a.length) → a[j] = b[j]'(HL.out ▸ hj) from fun j h1 h2 => by
          rcases Nat.eq_or_lt_of_le h1 with rfl | h3
          · exact hxy
          · exact htop.out j h3 h2)
        generalize a[i]'(by omega) = x at ex hxy
        generalize b[i]'(by rw [← HL.out]; omega) = y at ey hxy
        subst hxy
        go_wp2
        go_quiet (fail)
        go_wp2
        go_roundw
        case rel => exact ⟨i, by omega, rfl, htop', n + nq, rfl⟩
        case measure => simp [intOf]
      · have hr := hid (aboveB_top HL.out ha hb i (by omega) hxy (fun j h1 h2 => htop.out j h1 h2))
        obtain ⟨x, hx⟩ : ∃ x, x = a[i]'(by omega) := ⟨_, rfl⟩
        obtain ⟨y, hy⟩ : ∃ y, y = b[i]'(by rw [← HL.out]; omega) := ⟨_, rfl⟩
        rw [← hx] at ex hxy
        rw [← hy] at ey hxy
        have hr' : Hid (aboveB a b = decide (y < x)) := by rw [hx, hy]; exact hr
        clear hx hy hr
        have hne : ((x : Int) != y) = true := by simp; omega
        clear hxy
        go_wp2
        go_quiet (fail)
        go_wp2
        go_quiet (fail)
        go_wp2
        go_ret
        exact ⟨ret_bool hr'.out.symm, _, by rw [World.drewN_drewN, World.drewN_drewN]⟩

theorem above_any (a b : List Nat) (va vb : Value) (w : World) (ha : Pm.Norm a) (hb : Pm.Norm b) (h1 : a.length ≤ 1000000) (h2 : b.length ≤ 1000000) (ra : NumR w va a) (rb : NumR w vb b) :
    Calls Tryz.prog 185 #[va, vb] w fun e w' => e = .returned (.bool (aboveB a b)) ∧ ∃ n, w' = w.drewN n := by
  obtain ⟨ga, ca, rfl, hca⟩ := ra
  obtain ⟨gb, cb, rfl, hcb⟩ := rb
  by_cases hl : a.length = b.length
  · rw [← hl]; exact above_same a b ga gb ca cb w ha hb hl h1 hca hcb
  · exact above_len a b ga gb ca cb w ha hb hl h1 h2

def tenN (n : Nat) : Nat := 10 ^ n
theorem tenN_succ (n : Nat) : tenN (n + 1) = tenN n * 10 := Nat.pow_succ _ _
theorem tenN_le {n m : Nat} (h : n ≤ m) : tenN n ≤ tenN m := Nat.pow_le_pow_right (by decide) h
theorem tenN_pos (n : Nat) : 1 ≤ tenN n := Nat.pow_pos (by decide)

set_option maxHeartbeats 1000000 in
theorem tenTo_any (n : Nat) (w : World) (hn : n ≤ 18) :
    Calls Tryz.prog 163 #[.int .i64 n] w fun e w' => e = .returned (.int .i64 (tenN n : Nat)) ∧ w = w' := by
  go_enter Tryz.func163, Tryz.ntmps163
  go_wp2
  go_loop [3, 5] (fun t i => ∃ k m : Nat, k ≤ n ∧ i = .int .i64 k ∧ t = .int .i64 m ∧ Hid (m = tenN k)) (fun _ i => n - (intOf i).toNat)
  case atStart => exact ⟨0, 1, Nat.zero_le _, rfl, rfl, rfl⟩
  case round =>
    obtain ⟨k, m, hk, rfl, rfl, hm⟩ := hrel
    by_cases hlt : k < n
    · have hb : m ≤ 100000000000000000 := by
        have := tenN_le (show k ≤ 17 by omega)
        rw [hm.out]; exact this
      go_wp2
      go_round
      case rel => exact ⟨k + 1, m * 10, by omega, by go_num, by go_num, by rw [hm.out]; exact (tenN_succ _).symm⟩
      case measure => simp [intOf]; omega
    · obtain rfl : k = n := by omega
      go_wp2
      go_ret
      exact ⟨ret_int (by rw [hm.out]), rfl⟩

theorem keep_cell {W w2 : World} (hb : Below W.heap.size W w2) {a : Addr} {v : Value} (h : W.cell? a = some v) : w2.cell? a = some v := (hb.cell (World.block_lt_of_cell? W a h)).trans h
theorem NumR.keep {W w2 : World} {v : Value} {l : List Nat} (h : NumR W v l) (hb : Below W.heap.size W w2) : NumR w2 v l := by
  obtain ⟨g, cap, hv, hc⟩ := h
  exact ⟨g, cap, hv, fun k hk => keep_cell hb (hc k hk)⟩
theorem rt_keep {w W w2 : World} {a1 a2 a3 : Addr} {v1 v2 v3 : Value} {L : List Nat} (hb : Below W.heap.size W w2)
    (h : W.cell? a1 = some v1 ∧ W.cell? a2 = some v2 ∧ W.cell? a3 = some v3 ∧ NumR W v3 L ∧ Below w.heap.size w W) :
    w2.cell? a1 = some v1 ∧ w2.cell? a2 = some v2 ∧ w2.cell? a3 = some v3 ∧ NumR w2 v3 L ∧ Below w.heap.size w w2 :=
  ⟨keep_cell hb h.1, keep_cell hb h.2.1, keep_cell hb h.2.2.1, h.2.2.2.1.keep hb, h.2.2.2.2.trans (hb.mono h.2.2.2.2.size)⟩

theorem rt_keepN {w W : World} {a1 a2 a3 : Addr} {v1 v2 v3 : Value} {L : List Nat} {n : Nat}
    (h : W.cell? a1 = some v1 ∧ W.cell? a2 = some v2 ∧ W.cell? a3 = some v3 ∧ NumR W v3 L ∧ Below w.heap.size w W) :
    (W.drewN n).cell? a1 = some v1 ∧ (W.drewN n).cell? a2 = some v2 ∧ (W.drewN n).cell? a3 = some v3 ∧ NumR (W.drewN n) v3 L ∧ Below w.heap.size w (W.drewN n) :=
  ⟨h.1, h.2.1, h.2.2.1, h.2.2.2.1, bdrewN h.2.2.2.2⟩

set_option maxHeartbeats 1000000 in
theorem rtest_any (bl bz bm low more z : Nat) (vm : Value) (L : List Nat) (w : World) (hL : Pm.Norm L) (hlen : L.length ≤ 1000000) (hz : z ≤ 60) (hlow : low + more + 1 ≤ 1000000000000000000)
    (h1 : w.cell? ⟨bl, 0, none⟩ = some (.int .i64 low)) (h2 : w.cell? ⟨bz, 0, none⟩ = some (.int .i64 z)) (h3 : w.cell? ⟨bm, 0, none⟩ = some vm) (h4 : NumR w vm L) :
    Calls Tryz.prog 184 #[.int .i64 more, .pointer (some ⟨bl, 0, none⟩), .pointer (some ⟨bz, 0, none⟩), .pointer (some ⟨bm, 0, none⟩)] w fun e w' => e = .returned (.bool (aboveB (powL (low + more + 1) z) L)) ∧ Below w.heap.size w w' := by
  have hp := powL_len (low + more + 1) z
  have hn := powL_norm (low + more + 1) (by omega) (by omega) z
  have ew : Hid (IntKind.i64.wrap (IntKind.i64.wrap ((low : Int) + more) + 1) = ((low + more + 1 : Nat) : Int)) := by
    unfold Hid
    rw [wrap_i64 (n := (low : Int) + more) (by omega) (by omega), wrap_i64 (by omega) (by omega)]; omega
  go_enter Tryz.func184, Tryz.ntmps184
  go_wp2
  go_region_held3 (fun w' => w'.cell? ⟨bl, 0, none⟩ = some (.int .i64 low) ∧ w'.cell? ⟨bz, 0, none⟩ = some (.int .i64 z) ∧ w'.cell? ⟨bm, 0, none⟩ = some vm ∧ NumR w' vm L ∧ Below w.heap.size w w')
    (first | exact ⟨h1, h2, h3, h4, (Below.refl _ _).drew⟩ | exact rt_keep (by assumption) (by assumption) | exact rt_keepN (by assumption))
    (first
      | (go_at_call 182; rw [ew.out]; refine (power_any (low + more + 1) z _ (by omega) (by omega) (by omega)).mono ?_; rintro e w2 ⟨v2, rfl, hv2, hb2⟩)
      | (go_at_call 185; refine (above_any (powL (low + more + 1) z) L _ _ _ hn hL (by omega) hlen (hv2.reads (powL_ne _ _)) (‹_ ∧ _ ∧ _ ∧ _ ∧ _›).2.2.2.1).mono ?_; rintro e w3 ⟨rfl, n3, rfl⟩))
  go_wp2
  go_ret
  rename_i hq
  exact ⟨rfl, hq.2.2.2.2⟩
end Go.Proofs.YtihbjimnjhfpeaaGreat.Lt

/- Plain lemmas on numbers as lists of digits of some base, the lowest first. No Go in sight. -/
namespace Go.Proofs.YtihbjimnjhfpeaaGreat.Lt.Pw

/-- The number that a list of digits is (the digits may be too great). -/
def vl (b : Nat) : List Nat → Nat
  | [] => 0
  | x :: l => x + b * vl b l

theorem vl_append (b : Nat) (l m : List Nat) : vl b (l ++ m) = vl b l + b ^ l.length * vl b m := by
  induction l with
  | nil => simp [vl]
  | cons x a ih => simp only [List.cons_append, vl, ih, List.length_cons, Nat.pow_succ]; rw [Nat.mul_add, Nat.add_assoc, ← Nat.mul_assoc, Nat.mul_comm b (b ^ _)]

theorem vl_set (b : Nat) (l : List Nat) : ∀ (j d : Nat) (h : j < l.length), vl b (l.set j (l[j] + d)) = vl b l + d * b ^ j := by
  induction l with
  | nil => intro j d h; simp at h
  | cons x l ih =>
    intro j d h
    cases j with
    | zero => simp [vl]; omega
    | succ j =>
      simp only [List.set_cons_succ, List.getElem_cons_succ, vl, ih j d (by simpa using h)]
      rw [Nat.mul_add, Nat.pow_succ, ← Nat.add_assoc, Nat.mul_comm b (d * b ^ j), Nat.mul_assoc]
theorem vl_set_down (b : Nat) (l : List Nat) (j y : Nat) (h : j < l.length) (hy : y ≤ l[j]) : vl b (l.set j y) + (l[j] - y) * b ^ j = vl b l := by
  have h' : j < (l.set j y).length := by simpa using h
  have := vl_set b (l.set j y) j (l[j] - y) h'
  have e : (l.set j y)[j]'h' = y := by simp
  rw [e, Nat.add_sub_cancel' hy, List.set_set, List.set_getElem_self] at this
  exact this.symm

/-- All digits are below the base, and the last is not 0. -/
structure Norm (b : Nat) (l : List Nat) : Prop where
  dig : ∀ x ∈ l, x < b
  last : ∀ h : l ≠ [], 0 < l.getLast h

theorem vl_lt {b : Nat} {l : List Nat} (h : ∀ x ∈ l, x < b) : vl b l < b ^ l.length := by
  induction l with
  | nil => simp [vl]
  | cons x l ih =>
    have h1 := ih (fun y hy => h y (List.mem_cons_of_mem _ hy))
    have h2 := h x (List.mem_cons_self)
    simp only [vl, List.length_cons, Nat.pow_succ]
    calc x + b * vl b l < b + b * vl b l := by omega
      _ = b * (vl b l + 1) := by rw [Nat.mul_add]; omega
      _ ≤ b * b ^ l.length := Nat.mul_le_mul_left _ h1
      _ = b ^ l.length * b := Nat.mul_comm _ _

theorem take_vl (b : Nat) (l : List Nat) (k : Nat) (h : k < l.length) : vl b (l.take (k + 1)) = vl b (l.take k) + b ^ k * l[k] := by
  rw [List.take_succ_eq_append_getElem h, vl_append, List.length_take, Nat.min_eq_left (by omega)]; simp [vl]

/-- Carrying a digit's tens on to the next one changes no number. -/
theorem carry_step (b : Nat) (_hb : 0 < b) (l : List Nat) (i : Nat) (h : i + 1 < l.length) :
    vl b ((l.set (i + 1) (l[i + 1] + l[i] / b)).set i (l[i] % b)) = vl b l := by
  have h' : i < (l.set (i + 1) (l[i + 1] + l[i] / b)).length := by simp; omega
  have e : (l.set (i + 1) (l[i + 1] + l[i] / b))[i]'h' = l[i] := by simp [List.getElem_set_ne]
  have h1 := vl_set_down b (l.set (i + 1) (l[i + 1] + l[i] / b)) i (l[i] % b) h' (by rw [e]; exact Nat.mod_le _ _)
  rw [e, vl_set b l (i + 1) (l[i] / b) h] at h1
  have e2 : (l[i] - l[i] % b) * b ^ i = l[i] / b * b ^ (i + 1) := by
    have h3 : l[i] - l[i] % b = l[i] / b * b := by
      have := Nat.div_add_mod l[i] b
      rw [Nat.mul_comm]; omega
    rw [h3, Nat.pow_succ, Nat.mul_assoc, Nat.mul_comm b]
  omega

/-- The last digit of a small number is 0. -/
theorem last_zero {b : Nat} (_hb : 0 < b) {l : List Nat} {n : Nat} (hl : l.length = n + 1) (h : vl b l < b ^ n) : l[n]'(by omega) = 0 := by
  have e : l = l.take n ++ [l[n]'(by omega)] := by
    have := List.take_succ_eq_append_getElem (l := l) (i := n) (by omega)
    rw [← this, List.take_of_length_le (by omega)]
  have v : vl b l = vl b (l.take n) + b ^ n * l[n]'(by omega) := by
    conv => lhs; rw [e]
    rw [vl_append, List.length_take, Nat.min_eq_left (by omega)]; simp [vl]
  rcases Nat.eq_zero_or_pos (l[n]'(by omega)) with h0 | h0
  · exact h0
  · have : b ^ n * 1 ≤ b ^ n * l[n]'(by omega) := Nat.mul_le_mul_left _ h0
    omega

/-- The digits of a number. -/
def digs (b : Nat) : Nat → Nat → List Nat
  | 0, _ => []
  | k + 1, n => if 0 < n then n % b :: digs b k (n / b) else []
end Go.Proofs.YtihbjimnjhfpeaaGreat.Lt.Pw

/- Walks of the reference's whole numbers: Of, Compare: contracts. -/
namespace Go.Proofs.YtihbjimnjhfpeaaGreat.Lt
open Go.RowKit Go.Lib

def B6 : Nat := 1000000
def iv (l : List Nat) : List Value := l.map fun (x : Nat) => Value.int .i64 (x : Int)
theorem iv_get (l : List Nat) (k : Nat) (h : k < l.length) : (iv l)[k]? = some (.int .i64 (l[k] : Nat)) := by simp [iv, h]
theorem iv_append (a b : List Nat) : iv (a ++ b) = iv a ++ iv b := by simp [iv]
/-- A row of ints of the call's own. -/
def RowV (w : World) (base : Nat) (v : Value) (l : List Nat) : Prop := w.ownsRow base 3 1 v l.length (iv l)
/-- A row of ints that is read. -/
def RowR (w : World) (v : Value) (l : List Nat) : Prop := (v = .slice none 0 0 ∧ l = []) ∨ ∃ g cap, v = .slice (some ⟨g, 0, none⟩) l.length cap ∧ ∀ k (h : k < l.length), w.cell? ⟨g, k, none⟩ = some (.int .i64 (l[k] : Nat))
theorem RowV.reads {w : World} {base : Nat} {v : Value} {l : List Nat} (h : RowV w base v l) : RowR w v l := by
  rcases h.2 with ⟨rfl, h0⟩ | ⟨g, cap, cur, rfl, _⟩
  · exact .inl ⟨rfl, List.eq_nil_of_length_eq_zero h0⟩
  · exact .inr ⟨g, cap, rfl, fun k hk => by rw [World.ownsRow.cellAt h k (by omega), iv_get _ k hk]⟩
theorem RowR.keep {W w2 : World} {v : Value} {l : List Nat} (h : RowR W v l) (hb : Below W.heap.size W w2) : RowR w2 v l := by
  rcases h with h | ⟨g, cap, hv, hc⟩
  · exact .inl h
  · exact .inr ⟨g, cap, hv, fun k hk => keep_cell hb (hc k hk)⟩

/-- A whole number of the call's own; one that is read. -/
def Wh (w : World) (base : Nat) (v : Value) (x : Nat) : Prop := ∃ l, RowV w base v l ∧ Pw.Norm B6 l ∧ Pw.vl B6 l = x
def WhR (w : World) (v : Value) (x : Nat) : Prop := ∃ l, RowR w v l ∧ Pw.Norm B6 l ∧ Pw.vl B6 l = x
theorem Wh.reads {w : World} {base : Nat} {v : Value} {x : Nat} (h : Wh w base v x) : WhR w v x := by
  obtain ⟨l, h1, h2⟩ := h
  exact ⟨l, h1.reads, h2⟩
theorem WhR.keep {W w2 : World} {v : Value} {x : Nat} (h : WhR W v x) (hb : Below W.heap.size W w2) : WhR w2 v x := by
  obtain ⟨l, h1, h2⟩ := h
  exact ⟨l, h1.keep hb, h2⟩
theorem B6_pos : 2 ≤ B6 := by unfold B6; omega
attribute [irreducible] B6

/-- What Of, Times and Power hand back: a new whole number. -/
def WhP (x : Nat) (w : World) (e : Ending) (w' : World) : Prop := ∃ v, e = .returned v ∧ Wh w' w.heap.size v x ∧ Below w.heap.size w w'

theorem info_int : (Tryz.prog.info? 3).map (fun i => (i.zero, i.size, i.bytes)) = some (some (.int .i64 0), 1, 8) := by kernel_rfl

/-- Of, digit by digit. -/
structure OfR (n m : Nat) (l : List Nat) : Prop where
  dig : ∀ x ∈ l, x < B6
  sum : Pw.vl B6 l + m * B6 ^ l.length = n
  norm : m = 0 → Pw.Norm B6 l
theorem OfR.len {n m : Nat} {l : List Nat} (h : OfR n m l) (hm : 0 < m) (hn : n < 9000000000000000000) : l.length ≤ 3 := by
  rcases Nat.lt_or_ge 3 l.length with h4 | h4
  · have h1 := h.sum
    have h2 : B6 ^ 4 ≤ B6 ^ l.length := Nat.pow_le_pow_right (by have := B6_pos; omega) h4
    have h3 : 1 * B6 ^ l.length ≤ m * B6 ^ l.length := Nat.mul_le_mul_right _ hm
    have h5 : B6 ^ 4 = 1000000000000000000000000 := by unfold B6; rfl
    omega
  · exact h4
theorem OfR.step {n m : Nat} {l : List Nat} (h : OfR n m l) (hm : 0 < m) : OfR n (m / B6) (l ++ [m % B6]) := by
  have hb := B6_pos
  refine ⟨?_, ?_, fun h0 => ⟨?_, fun hne => ?_⟩⟩
  · intro x hx
    rcases List.mem_append.1 hx with hx | hx
    · exact h.dig x hx
    · simp at hx; subst hx; exact Nat.mod_lt _ (by omega)
  · have h1 := h.sum
    rw [Pw.vl_append]
    simp only [Pw.vl, List.length_append, List.length_cons, List.length_nil, Nat.mul_zero, Nat.add_zero, Nat.zero_add, Nat.pow_succ]
    have e : m * B6 ^ l.length = B6 ^ l.length * (m % B6) + m / B6 * (B6 ^ l.length * B6) := by
      conv => lhs; rw [← Nat.div_add_mod m B6]
      rw [Nat.add_mul, Nat.mul_comm (m % B6), Nat.mul_comm B6, Nat.mul_assoc, Nat.mul_comm B6 (B6 ^ _)]; omega
    omega
  · intro x hx
    rcases List.mem_append.1 hx with hx | hx
    · exact h.dig x hx
    · simp at hx; subst hx; exact Nat.mod_lt _ (by omega)
  · have hlast : (l ++ [m % B6]).getLast hne = m % B6 := by simp
    rw [hlast]
    have : m < B6 := by
      rcases Nat.lt_or_ge m B6 with h' | h'
      · exact h'
      · have := (Nat.one_le_div_iff (by omega : 0 < B6)).2 h'; omega
    rw [Nat.mod_eq_of_lt this]; exact hm
theorem B6_eq : B6 = 1000000 := by unfold B6; rfl
theorem row_append {w1 : World} {base : Nat} {v : Value} {l : List Nat} {x : Nat} {y : Int} (hy : y = (x : Int)) (h : w1.ownsRow base 3 1 v (l.length + 1) (iv l ++ [.int .i64 y])) : RowV w1 base v (l ++ [x]) := by
  subst hy
  unfold RowV
  rw [iv_append, List.length_append]
  exact h
def cmpI (x y : Nat) : Int := if x < y then -1 else if y < x then 1 else 0
end Go.Proofs.YtihbjimnjhfpeaaGreat.Lt
