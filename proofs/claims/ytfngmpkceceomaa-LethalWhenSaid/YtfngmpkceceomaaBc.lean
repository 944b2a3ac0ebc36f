/- Walks of above, tenTo, the root's test, sort.Search over it, and root of package lethal: contracts. -/
import Derived.Test.YtfngmpkceceomaaBb
import Derived.Deep.RegionWith
namespace Go.Proofs.Ytfngmpkceceomaa
open Go.RowKit Go.Lib

/-- A number that is read. -/
def NumR (w : World) (v : Value) (l : List Nat) : Prop := ∃ g cap, v = .slice (some ⟨g, 0, none⟩) l.length cap ∧ ∀ k (h : k < l.length), w.cell? ⟨g, k, none⟩ = some (.int .u64 (l[k] : Nat))
theorem NumV.reads {w : World} {base : Nat} {v : Value} {l : List Nat} (h : NumV w base v l) (hl : l ≠ []) : NumR w v l := by
  have hv : ∃ g cap, v = .slice (some ⟨g, 0, none⟩) l.length cap := by
    rcases h.2 with ⟨_, h0⟩ | ⟨g, cap, cur, rfl, _⟩
    · exact absurd (List.eq_nil_of_length_eq_zero h0) hl
    · exact ⟨g, cap, rfl⟩
  obtain ⟨g, cap, rfl⟩ := hv
  exact ⟨g, cap, rfl, fun k hk => by rw [World.ownsRow.cellAt h k (by omega), wv_get _ k hk]⟩

theorem top_same {a b : List Nat} (hl : a.length = b.length) (h : ∀ j, 0 ≤ j → (hj : j < a.length) → a[j] = b[j]'(hl ▸ hj)) : a = b :=
  List.ext_getElem hl fun j h1 _ => h j (Nat.zero_le _) h1

def aboveB (a b : List Nat) : Bool := decide (Pm.val b < Pm.val a)
theorem aboveB_len {a b : List Nat} (ha : Pm.Norm a) (hb : Pm.Norm b) (h : a.length ≠ b.length) : aboveB a b = decide (b.length < a.length) := by
  unfold aboveB
  rcases Nat.lt_or_ge b.length a.length with h1 | h1
  · have := Pm.val_lt_of_len hb ha h1
    simp [h1, this]
  · have := Pm.val_lt_of_len ha hb (by omega)
    simp [show ¬ b.length < a.length by omega]; omega
theorem aboveB_top {a b : List Nat} (hl : a.length = b.length) (ha : Pm.Norm a) (hb : Pm.Norm b) (i : Nat) (hi : i < a.length) (hne : a[i] ≠ b[i]'(hl ▸ hi))
    (htop : ∀ j, i < j → (hj : j < a.length) → a[j] = b[j]'(hl ▸ hj)) : aboveB a b = decide (b[i]'(hl ▸ hi) < a[i]) := by
  unfold aboveB
  rcases Nat.lt_or_ge (b[i]'(hl ▸ hi)) a[i] with h1 | h1
  · have := Pm.val_lt_of_top hl.symm hb.word i (hl ▸ hi) h1 (fun j hj h2 => (htop j hj (hl.symm ▸ h2)).symm)
    simp [h1, this]
  · have := Pm.val_lt_of_top hl ha.word i hi (by omega) htop
    simp [show ¬ b[i]'(hl ▸ hi) < a[i] by omega]; omega
theorem aboveB_same {a b : List Nat} (h : a = b) : aboveB a b = false := by subst h; simp [aboveB]

set_option maxHeartbeats 1000000 in
theorem above_len (a b : List Nat) (ga gb ca cb : Nat) (w : World) (ha : Pm.Norm a) (hb : Pm.Norm b) (hne : a.length ≠ b.length) (_h1 : a.length ≤ 1000000) (_h2 : b.length ≤ 1000000) :
    Calls Try.prog 84 #[.slice (some ⟨ga, 0, none⟩) a.length ca, .slice (some ⟨gb, 0, none⟩) b.length cb] w fun e w' => e = .returned (.bool (aboveB a b)) ∧ ∃ n, w' = w.drewN n := by
  have hr := hid (aboveB_len ha hb hne)
  have hd : ((a.length : Int) != b.length) = true := by simp; omega
  go_enter Try.func84, Try.ntmps84
  go_wp2
  go_ret
  exact ⟨ret_bool (by rw [hr.out]), 0, rfl⟩

set_option maxHeartbeats 1000000 in
theorem above_same (a b : List Nat) (ga gb ca cb : Nat) (w : World) (ha : Pm.Norm a) (hb : Pm.Norm b) (hl : a.length = b.length) (h1 : a.length ≤ 1000000)
    (hca : ∀ k (h : k < a.length), w.cell? ⟨ga, k, none⟩ = some (.int .u64 (a[k] : Nat))) (hcb : ∀ k (h : k < b.length), w.cell? ⟨gb, k, none⟩ = some (.int .u64 (b[k] : Nat))) :
    Calls Try.prog 84 #[.slice (some ⟨ga, 0, none⟩) a.length ca, .slice (some ⟨gb, 0, none⟩) a.length cb] w fun e w' => e = .returned (.bool (aboveB a b)) ∧ ∃ n, w' = w.drewN n := by
  have HL := hid hl
  have HCA := hid hca
  have HCB := hid hcb
  clear hca hcb hl
  go_enter Try.func84, Try.ntmps84
  go_wp2
  go_loopw [5] (fun i wr => ∃ k : Nat, k ≤ a.length ∧ i = .int .i64 ((k : Int) - 1) ∧ Hid (∀ j, k ≤ j → (hj : j < a.length) → a[j] = b[j]'(HL.out ▸ hj)) ∧ ∃ n, wr = w.drewN n) (fun i _ => (intOf i + 1).toNat)
  case atStart => exact ⟨a.length, Nat.le_refl _, by go_num, fun j h1 h2 => absurd h2 (by omega), 0, rfl⟩
  case round =>
    obtain ⟨k, hk, rfl, htop, n, rfl⟩ := hrel
    by_cases hk0 : k = 0
    · subst hk0
      have hr := hid (aboveB_same (top_same HL.out htop.out))
      rw [show ((0 : Nat) : Int) - 1 = -1 from rfl]
      go_wp2
      go_ret
      exact ⟨ret_bool hr.out.symm, n, rfl⟩
    · obtain ⟨i, rfl⟩ : ∃ i, k = i + 1 := ⟨k - 1, by omega⟩
      rw [show ((i + 1 : Nat) : Int) - 1 = (i : Int) by omega]
      have ex := HCA.out i (by omega)
      have ey := HCB.out i (by rw [← HL.out]; omega)
      by_cases hxy : a[i]'(by omega) = b[i]'(by rw [← HL.out]; omega)
      · have htop' := hid (show ∀ j, i ≤ j → (hj : j < a.length) → a[j] = b[j]'(HL.out ▸ hj) from fun j h1 h2 => by
          rcases Nat.eq_or_lt_of_le h1 with rfl | h3
          · exact hxy
          · exact htop.out j h3 h2)
        generalize a[i]'(by omega) = x at ex hxy
        generalize b[i]'(by rw [← HL.out]; omega) = y at ey hxy
        subst hxy
        go_wp2
        go_quiet (fail)
        go_wp2
        go_roundw
        case rel => exact ⟨i, by omega, rfl, htop', n + nq, rfl⟩
        case measure => simp [intOf]
      · have hr := hid (aboveB_top HL.out ha hb i (by omega) hxy (fun j h1 h2 => htop.out j h1 h2))
        obtain ⟨x, hx⟩ : ∃ x, x = a[i]'(by omega) := ⟨_, rfl⟩
        obtain ⟨y, hy⟩ : ∃ y, y = b[i]'(by rw [← HL.out]; omega) := ⟨_, rfl⟩
        rw [← hx] at ex hxy
        rw [← hy] at ey hxy
        have hr' : Hid (aboveB a b = decide (y < x)) := by rw [hx, hy]; exact hr
        clear hx hy hr
        have hne : ((x : Int) != y) = true := by simp; omega
        clear hxy
        go_wp2
        go_quiet (fail)
        go_wp2
        go_quiet (fail)
        go_wp2
        go_ret
        exact ⟨ret_bool hr'.out.symm, _, by rw [World.drewN_drewN, World.drewN_drewN]⟩

theorem above_any (a b : List Nat) (va vb : Value) (w : World) (ha : Pm.Norm a) (hb : Pm.Norm b) (h1 : a.length ≤ 1000000) (h2 : b.length ≤ 1000000) (ra : NumR w va a) (rb : NumR w vb b) :
    Calls Try.prog 84 #[va, vb] w fun e w' => e = .returned (.bool (aboveB a b)) ∧ ∃ n, w' = w.drewN n := by
  obtain ⟨ga, ca, rfl, hca⟩ := ra
  obtain ⟨gb, cb, rfl, hcb⟩ := rb
  by_cases hl : a.length = b.length
  · rw [← hl]; exact above_same a b ga gb ca cb w ha hb hl h1 hca hcb
  · exact above_len a b ga gb ca cb w ha hb hl h1 h2

def tenN (n : Nat) : Nat := 10 ^ n
theorem tenN_succ (n : Nat) : tenN (n + 1) = tenN n * 10 := Nat.pow_succ _ _
theorem tenN_le {n m : Nat} (h : n ≤ m) : tenN n ≤ tenN m := Nat.pow_le_pow_right (by decide) h
theorem tenN_pos (n : Nat) : 1 ≤ tenN n := Nat.pow_pos (by decide)

set_option maxHeartbeats 1000000 in
theorem tenTo_any (n : Nat) (w : World) (hn : n ≤ 18) :
    Calls Try.prog 80 #[.int .i64 n] w fun e w' => e = .returned (.int .i64 (tenN n : Nat)) ∧ w = w' := by
  go_enter Try.func80, Try.ntmps80
  go_wp2
  go_loop [3, 5] (fun t i => ∃ k m : Nat, k ≤ n ∧ i = .int .i64 k ∧ t = .int .i64 m ∧ Hid (m = tenN k)) (fun _ i => n - (intOf i).toNat)
  case atStart => exact ⟨0, 1, Nat.zero_le _, rfl, rfl, rfl⟩
  case round =>
    obtain ⟨k, m, hk, rfl, rfl, hm⟩ := hrel
    by_cases hlt : k < n
    · have hb : m ≤ 100000000000000000 := by
        have := tenN_le (show k ≤ 17 by omega)
        rw [hm.out]; exact this
      go_wp2
      go_round
      case rel => exact ⟨k + 1, m * 10, by omega, by go_num, by go_num, by rw [hm.out]; exact (tenN_succ _).symm⟩
      case measure => simp [intOf]; omega
    · obtain rfl : k = n := by omega
      go_wp2
      go_ret
      exact ⟨ret_int (by rw [hm.out]), rfl⟩

theorem keep_cell {W w2 : World} (hb : Below W.heap.size W w2) {a : Addr} {v : Value} (h : W.cell? a = some v) : w2.cell? a = some v := (hb.cell (World.block_lt_of_cell? W a h)).trans h
theorem NumR.keep {W w2 : World} {v : Value} {l : List Nat} (h : NumR W v l) (hb : Below W.heap.size W w2) : NumR w2 v l := by
  obtain ⟨g, cap, hv, hc⟩ := h
  exact ⟨g, cap, hv, fun k hk => keep_cell hb (hc k hk)⟩
theorem rt_keep {w W w2 : World} {a1 a2 a3 : Addr} {v1 v2 v3 : Value} {L : List Nat} (hb : Below W.heap.size W w2)
    (h : W.cell? a1 = some v1 ∧ W.cell? a2 = some v2 ∧ W.cell? a3 = some v3 ∧ NumR W v3 L ∧ Below w.heap.size w W) :
    w2.cell? a1 = some v1 ∧ w2.cell? a2 = some v2 ∧ w2.cell? a3 = some v3 ∧ NumR w2 v3 L ∧ Below w.heap.size w w2 :=
  ⟨keep_cell hb h.1, keep_cell hb h.2.1, keep_cell hb h.2.2.1, h.2.2.2.1.keep hb, h.2.2.2.2.trans (hb.mono h.2.2.2.2.size)⟩

theorem rt_keepN {w W : World} {a1 a2 a3 : Addr} {v1 v2 v3 : Value} {L : List Nat} {n : Nat}
    (h : W.cell? a1 = some v1 ∧ W.cell? a2 = some v2 ∧ W.cell? a3 = some v3 ∧ NumR W v3 L ∧ Below w.heap.size w W) :
    (W.drewN n).cell? a1 = some v1 ∧ (W.drewN n).cell? a2 = some v2 ∧ (W.drewN n).cell? a3 = some v3 ∧ NumR (W.drewN n) v3 L ∧ Below w.heap.size w (W.drewN n) :=
  ⟨h.1, h.2.1, h.2.2.1, h.2.2.2.1, bdrewN h.2.2.2.2⟩

set_option maxHeartbeats 1000000 in
theorem rtest_any (bl bz bm low more z : Nat) (vm : Value) (L : List Nat) (w : World) (hL : Pm.Norm L) (hlen : L.length ≤ 1000000) (hz : z ≤ 60) (hlow : low + more + 1 ≤ 1000000000000000000)
    (h1 : w.cell? ⟨bl, 0, none⟩ = some (.int .i64 low)) (h2 : w.cell? ⟨bz, 0, none⟩ = some (.int .i64 z)) (h3 : w.cell? ⟨bm, 0, none⟩ = some vm) (h4 : NumR w vm L) :
    Calls Try.prog 83 #[.int .i64 more, .pointer (some ⟨bl, 0, none⟩), .pointer (some ⟨bz, 0, none⟩), .pointer (some ⟨bm, 0, none⟩)] w fun e w' => e = .returned (.bool (aboveB (powL (low + more + 1) z) L)) ∧ Below w.heap.size w w' := by
  have hp := powL_len (low + more + 1) z
  have hn := powL_norm (low + more + 1) (by omega) (by omega) z
  have ew : Hid (IntKind.i64.wrap (IntKind.i64.wrap ((low : Int) + more) + 1) = ((low + more + 1 : Nat) : Int)) := by
    unfold Hid
    rw [wrap_i64 (n := (low : Int) + more) (by omega) (by omega), wrap_i64 (by omega) (by omega)]; omega
  go_enter Try.func83, Try.ntmps83
  go_wp2
  go_region_held3 (fun w' => w'.cell? ⟨bl, 0, none⟩ = some (.int .i64 low) ∧ w'.cell? ⟨bz, 0, none⟩ = some (.int .i64 z) ∧ w'.cell? ⟨bm, 0, none⟩ = some vm ∧ NumR w' vm L ∧ Below w.heap.size w w')
    (first | exact ⟨h1, h2, h3, h4, (Below.refl _ _).drew⟩ | exact rt_keep (by assumption) (by assumption) | exact rt_keepN (by assumption))
    (first
      | (go_at_call 81; rw [ew.out]; refine (power_any (low + more + 1) z _ (by omega) (by omega) (by omega)).mono ?_; rintro e w2 ⟨v2, rfl, hv2, hb2⟩)
      | (go_at_call 84; refine (above_any (powL (low + more + 1) z) L _ _ _ hn hL (by omega) hlen (hv2.reads (powL_ne _ _)) (‹_ ∧ _ ∧ _ ∧ _ ∧ _›).2.2.2.1).mono ?_; rintro e w3 ⟨rfl, n3, rfl⟩))
  go_wp2
  go_ret
  rename_i hq
  exact ⟨rfl, hq.2.2.2.2⟩
end Go.Proofs.Ytfngmpkceceomaa
