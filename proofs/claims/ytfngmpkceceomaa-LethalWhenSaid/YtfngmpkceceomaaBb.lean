/- Walks of the big numbers of package lethal: times, power: contracts. -/
import Derived.Test.YtfngmpkceceomaaBa
namespace Go.Proofs.Ytfngmpkceceomaa
open Go.RowKit Go.Lib

/-- What times hands back, whatever the slice. -/
def TimesP (base : Nat) (v : Value) (l : List Nat) (f : Nat) (w : World) (e : Ending) (w' : World) : Prop := ∃ v', e = .returned v' ∧ NumV w' base v' (Pm.timesL f l 0) ∧ w.grownBy w' v.ownBlock

theorem times_any (base : Nat) (v : Value) (l : List Nat) (f : Nat) (w : World) (hf : 0 < f) (hf2 : f < 9000000000000000000) (hl : l ≠ []) (hw : ∀ x ∈ l, x < Pm.W) (hlen : l.length ≤ 1000000) (hbase : base ≤ w.heap.size) (hown : NumV w base v l) :
    Calls Try.prog 82 #[v, .int .i64 f] w (TimesP base v l f w) := by
  have hv : ∃ g cap, v = .slice (some ⟨g, 0, none⟩) l.length cap := by
    rcases hown.2 with ⟨_, h0⟩ | ⟨g, cap, cur, rfl, _⟩
    · exact absurd (List.eq_nil_of_length_eq_zero h0) hl
    · exact ⟨g, cap, rfl⟩
  obtain ⟨g, cap, rfl⟩ := hv
  exact times_loop base g cap l f w hf hf2 hl hw hlen hbase hown

def powL (b : Nat) : Nat → List Nat
  | 0 => [1]
  | k + 1 => Pm.timesL b (powL b k) 0
theorem powL_norm (b : Nat) (hb : 0 < b) (hb2 : b < 9000000000000000000) (k : Nat) : Pm.Norm (powL b k) := by
  induction k with
  | zero => exact Pm.norm_cons (by unfold Pm.W; omega) Pm.norm_nil (fun _ => by decide)
  | succ k ih => exact Pm.norm_timesL b hb (by unfold Pm.W; omega) _ 0 hb ih
theorem powL_val (b k : Nat) : Pm.val (powL b k) = b ^ k := by
  induction k with
  | zero => rfl
  | succ k ih => unfold powL; rw [Pm.val_timesL, ih, Nat.pow_succ]; rfl
theorem powL_len (b k : Nat) : (powL b k).length ≤ k + 1 := by
  induction k with
  | zero => exact Nat.le_refl _
  | succ k ih => exact Nat.le_trans (Pm.length_timesL b _ 0) (by omega)
theorem powL_ne (b k : Nat) : powL b k ≠ [] := by
  cases k with
  | zero => simp [powL]
  | succ k =>
    unfold powL
    cases h : powL b k with
    | nil => exact absurd h (by cases k with | zero => simp [powL] | succ k => exact (powL_ne b (k + 1)))
    | cons x l => simp [Pm.timesL]

/-- What power hands back: a new number. -/
def PowerP (b n : Nat) (w : World) (e : Ending) (w' : World) : Prop := ∃ v, e = .returned v ∧ NumV w' w.heap.size v (powL b n) ∧ Below w.heap.size w w'

theorem power_start {w w0 w1 : World} {o : Obj} {v' : Value} (h0 : w.grownBy w0 none) (h1 : (w0.alloc o).grownBy w1 (some w.heap.size))
    (hown : w1.ownsRow w.heap.size 84 1 v' 1 ([] ++ [.int .u64 1])) (b : Nat) : NumV w1 w.heap.size v' (powL b 0) ∧ Below w.heap.size w w1 :=
  ⟨hown, (((Below.refl _ _).grown h0 (Nat.le_refl _) (fun k h => by cases h)).alloc h0.size _).grown h1 (by have := h0.size; simp; omega) (fun k h => by cases h; exact Nat.le_refl _)⟩
theorem power_step {w wr w1 : World} {v v' : Value} {b k : Nat} (hown : NumV wr w.heap.size v (powL b k)) (hB : Below w.heap.size w wr) (h1 : NumV w1 w.heap.size v' (Pm.timesL b (powL b k) 0)) (hg : wr.grownBy w1 v.ownBlock) :
    NumV w1 w.heap.size v' (powL b (k + 1)) ∧ Below w.heap.size w w1 :=
  ⟨h1, hB.grown hg hB.size (fun j hj => (World.ownsRow.lt hown j hj).1)⟩

set_option maxHeartbeats 1000000 in
theorem power_any (b n : Nat) (w : World) (hb : 0 < b) (hb2 : b < 9000000000000000000) (hn : n ≤ 100000) :
    Calls Try.prog 81 #[.int .i64 b, .int .i64 n] w (PowerP b n w) := by
  obtain ⟨i0, hi, hz0, hz1, hz2⟩ := info_parts info_u64
  go_enter Try.func81, Try.ntmps81
  go_wp2_with (first | (at_make; refine wpList_make_own _ rfl _ _ 76 rfl w.heap.size 84 i0 (.int .u64 0) 1 Try.underlying76 hi hz0 hz1 _ _ _ (n + 1) rfl rfl (by omega) (by rw [hz2]; omega) (by unfold maxLen; omega) (Nat.le_refl _) ?_; intro w0 hown0 hgrow0) | (at_builtin; refine wpList_append_own _ rfl (.tmp 8) (.tmp 9) 76 rfl w.heap.size 84 i0 (.int .u64 0) 1 8 Try.underlying76 hi hz0 hz1 hz2 rfl (by decide) _ _ _ rfl (hown0.alloc _) ⟨w0.heap.size, 0, none⟩ 1 1 [.int .u64 1] rfl rfl cell_one_at one_cell (by unfold maxLen; omega) (by omega) (by have := hgrow0.size; simp; omega) ?_; intro v1 w1 hown1 hgrow1 _))
  obtain ⟨hn1, hB1⟩ := power_start hgrow0 hgrow1 hown1 b
  clear hown1 hgrow1 hown0 hgrow0
  go_loopw [5, 12] (fun v i wr => ∃ k : Nat, k ≤ n ∧ i = .int .i64 k ∧ NumV wr w.heap.size v (powL b k) ∧ Below w.heap.size w wr) (fun _ i _ => n - (intOf i).toNat)
  case atStart => exact ⟨0, Nat.zero_le _, rfl, hn1, hB1⟩
  case round =>
    obtain ⟨k, hk, rfl, hv, hB⟩ := hrel
    clear hn1 hB1
    by_cases hlt : k < n
    · have hlen := powL_len b k
      have hnm := powL_norm b hb hb2 k
      go_wp2_with (go_at_call 82; refine (times_any w.heap.size _ (powL b k) b _ hb hb2 (powL_ne b k) hnm.word (by omega) hB.size hv).mono ?_; rintro e w2 ⟨v2, rfl, hv2, hg2⟩)
      obtain ⟨r1, r2⟩ := power_step hv hB hv2 hg2
      go_roundw
      case rel => exact ⟨k + 1, by omega, by go_num, r1, r2⟩
      case measure => simp [intOf]; omega
    · obtain rfl : k = n := by omega
      go_wp2
      go_ret
      exact ⟨_, rfl, hv, hB⟩
end Go.Proofs.Ytfngmpkceceomaa
