/- Walks of the reference's Marks, and of Baths of both: contracts. -/
import Derived.Test.YtedfajokiblfhaaVa
namespace Go.Proofs.Ytedfajokiblfhaa.Rt
open Go.RowKit


/-- A row of ints of the call's own comes back. -/
def OwnP (l : List Int) (w : World) (e : Ending) (w' : World) : Prop := ∃ v, e = .returned v ∧ OwnL w' w.heap.size v l ∧ Below w.heap.size w w'
theorem below_grow {W w1 : World} (hg : W.grownBy w1 none) : Below W.heap.size W w1 := (Below.refl _ _).grown hg (Nat.le_refl _) (fun k hk => by cases hk)
set_option maxHeartbeats 4000000 in
theorem baths_any (v : Value) (n : Nat) (r : Nat → Rd) (w : World) (hr : RowR w v n r) (hn : n ≤ 2100) :
    Calls Try.prog 27 #[v] w (OwnP (bathsL r n) w) := by
  have HK := hid (fun w1 (g : Below w.heap.size w w1) => hr.keep g)
  obtain ⟨a, b, o, cap, rfl, hc, hm, ha, _⟩ := hr
  have HA := hid ha
  obtain ⟨i0, hi, hz0, hz1, hz2⟩ := info_parts infoI
  clear ha
  go_enter Try.func27, Try.ntmps27
  go_wp2_with (at_make; refine wpList_make_own _ rfl _ _ 28 rfl w.heap.size 3 i0 (.int .i64 0) 1 Try.underlying28 hi hz0 hz1 _ _ _ n rfl rfl (by omega) (by rw [hz2]; omega) (by unfold maxLen; omega) (Nat.le_refl _) ?_; intro w0 hown0 hgrow0)
  have HR0 : Hid (OwnL w0 w.heap.size _ (bathsL r 0)) := hown0
  have HB0 := hid (below_grow hgrow0)
  clear hown0 hgrow0
  go_loopw [3, 11] (fun v t wr => ∃ k : Nat, k ≤ n ∧ t = .int .i64 (k : Int) ∧ Hid (OwnL wr w.heap.size v (bathsL r k)) ∧ Hid (Below w.heap.size w wr)) (fun _ t _ => n - (intOf t).toNat)
  case atStart => exact ⟨0, Nat.zero_le _, rfl, HR0, HB0⟩
  case round =>
    obtain ⟨k, hk, rfl, hrow, hB⟩ := hrel
    have hlen := bathsL_len r k
    by_cases hlt : k < n
    · have hlt' : (k : Int) < n := by omega
      obtain ⟨a', b', o', cap', hv, _, _, ha', hcell⟩ := HK.out _ hB.out
      injection hv with hv1 hv2 hv3
      subst hv1 hv3
      rcases ha' with h0 | rfl
      · omega
      obtain ⟨c0, c1, c2, c3⟩ := hcell k hlt
      have HL := hid (bathsL_succ r k)
      obtain ⟨x, hX⟩ : ∃ x, x = r k := ⟨_, rfl⟩
      rw [← hX] at c0 c1 c2 c3 HL
      clear hcell hX hv2 hlt
      have HO := hid (World.ownsRow.alloc hrow.out (.cells #[.int .i64 x.s, .int .i64 x.t, .int .i64 x.c, .int .i64 x.b] 96))
      go_wp2_with (at_builtin; refine wpList_append_own _ rfl _ _ 28 rfl w.heap.size 3 i0 (.int .i64 0) 1 8 Try.underlying28 hi hz0 hz1 hz2 rfl (by decide) _ _ _ rfl (World.ownsRow.alloc HO.out _) ⟨wr.heap.size + 1, 0, none⟩ 1 1 [.int .i64 x.b] rfl rfl (cell_one_new (by simp)) one_cell1 (by unfold maxLen; omega) (by omega) (by have := hB.out.size; simp; omega) ?_; intro v1 w3 hown3 hgrow3 _)
      have HB3 := hid (below_app hB.out hrow.out (Nat.le_refl _) hgrow3)
      have HR3 : Hid (OwnL w3 w.heap.size v1 (bathsL r (k + 1))) := by rw [HL.out]; exact ownL_app hown3
      clear hown3 hgrow3
      go_roundw
      case rel => exact ⟨k + 1, by omega, by go_num, HR3, HB3⟩
      case measure => simp [intOf]; omega
    · obtain rfl : k = n := by omega
      go_wp2
      go_ret
      exact ⟨_, rfl, hrow.out, hB.out⟩
end Go.Proofs.Ytedfajokiblfhaa.Rt
