/- Texts of this seat, one behind the other. -/
import Derived.Test.YtihbjimnjhfpeaaGreatG36
/- Walks of the reference's Marks, and of Baths of both: contracts. -/
namespace Go.Proofs.YtihbjimnjhfpeaaGreat.Rt
open Go.RowKit


/-- A row of ints of the call's own comes back. -/
def OwnP (l : List Int) (w : World) (e : Ending) (w' : World) : Prop := ∃ v, e = .returned v ∧ OwnL w' w.heap.size v l ∧ Below w.heap.size w w'
theorem below_grow {W w1 : World} (hg : W.grownBy w1 none) : Below W.heap.size W w1 := (Below.refl _ _).grown hg (Nat.le_refl _) (fun k hk => by cases hk)
set_option maxHeartbeats 4000000 in
theorem baths_any (v : Value) (n : Nat) (r : Nat → Rd) (w : World) (hr : RowR w v n r) (hn : n ≤ 2100) :
    Calls Tryz.prog 44 #[v] w (OwnP (bathsL r n) w) := by
  have HK := hid (fun w1 (g : Below w.heap.size w w1) => hr.keep g)
  obtain ⟨a, b, o, cap, rfl, hc, hm, ha, _⟩ := hr
  have HA := hid ha
  obtain ⟨i0, hi, hz0, hz1, hz2⟩ := info_parts infoI
  clear ha
  go_enter Tryz.func44, Tryz.ntmps44
  go_wp2_with (at_make; refine wpList_make_own _ rfl _ _ 28 rfl w.heap.size 3 i0 (.int .i64 0) 1 Tryz.underlying28 hi hz0 hz1 _ _ _ n rfl rfl (by omega) (by rw [hz2]; omega) (by unfold maxLen; omega) (Nat.le_refl _) ?_; intro w0 hown0 hgrow0)
  have HR0 : Hid (OwnL w0 w.heap.size _ (bathsL r 0)) := hown0
  have HB0 := hid (below_grow hgrow0)
  clear hown0 hgrow0
  go_loopw [3, 11] (fun v t wr => ∃ k : Nat, k ≤ n ∧ t = .int .i64 (k : Int) ∧ Hid (OwnL wr w.heap.size v (bathsL r k)) ∧ Hid (Below w.heap.size w wr)) (fun _ t _ => n - (intOf t).toNat)
  case atStart => exact ⟨0, Nat.zero_le _, rfl, HR0, HB0⟩
  case round =>
    obtain ⟨k, hk, rfl, hrow, hB⟩ := hrel
    have hlen := bathsL_len r k
    by_cases hlt : k < n
    · have hlt' : (k : Int) < n := by omega
      obtain ⟨a', b', o', cap', hv, _, _, ha', hcell⟩ := HK.out _ hB.out
      injection hv with hv1 hv2 hv3
      subst hv1 hv3
      rcases ha' with h0 | rfl
      · omega
      obtain ⟨c0, c1, c2, c3⟩ := hcell k hlt
      have HL := hid (bathsL_succ r k)
      obtain ⟨x, hX⟩ : ∃ x, x = r k := ⟨_, rfl⟩
      rw [← hX] at c0 c1 c2 c3 HL
      clear hcell hX hv2 hlt
      have HO := hid (World.ownsRow.alloc hrow.out (.cells #[.int .i64 x.s, .int .i64 x.t, .int .i64 x.c, .int .i64 x.b] 56))
      go_wp2_with (at_builtin; refine wpList_append_own _ rfl _ _ 28 rfl w.heap.size 3 i0 (.int .i64 0) 1 8 Tryz.underlying28 hi hz0 hz1 hz2 rfl (by decide) _ _ _ rfl (World.ownsRow.alloc HO.out _) ⟨wr.heap.size + 1, 0, none⟩ 1 1 [.int .i64 x.b] rfl rfl (cell_one_new (by simp)) one_cell1 (by unfold maxLen; omega) (by omega) (by have := hB.out.size; simp; omega) ?_; intro v1 w3 hown3 hgrow3 _)
      have HB3 := hid (below_app hB.out hrow.out (Nat.le_refl _) hgrow3)
      have HR3 : Hid (OwnL w3 w.heap.size v1 (bathsL r (k + 1))) := by rw [HL.out]; exact ownL_app hown3
      clear hown3 hgrow3
      go_roundw
      case rel => exact ⟨k + 1, by omega, by go_num, HR3, HB3⟩
      case measure => simp [intOf]; omega
    · obtain rfl : k = n := by omega
      go_wp2
      go_ret
      exact ⟨_, rfl, hrow.out, hB.out⟩
set_option maxHeartbeats 4000000 in
theorem xbaths_any (v : Value) (n : Nat) (r : Nat → Rd) (w : World) (hr : RowR w v n r) (hn : n ≤ 2100) :
    Calls Tryz.prog 20 #[v] w (OwnP (bathsL r n) w) := by
  have HK := hid (fun w1 (g : Below w.heap.size w w1) => hr.keep g)
  obtain ⟨a, b, o, cap, rfl, hc, hm, ha, _⟩ := hr
  have HA := hid ha
  obtain ⟨i0, hi, hz0, hz1, hz2⟩ := info_parts infoI
  clear ha
  go_enter Tryz.func20, Tryz.ntmps20
  go_wp2
  go_loopw [3, 4] (fun v t wr => ∃ k : Nat, k ≤ n ∧ t = .int .i64 (k : Int) ∧ Hid (OwnL wr w.heap.size v (bathsL r k)) ∧ Hid (Below w.heap.size w wr)) (fun _ t _ => n - (intOf t).toNat)
  case atStart => exact ⟨0, Nat.zero_le _, rfl, World.ownsRow_nil _ _ _ _, Below.refl _ _⟩
  case round =>
    obtain ⟨k, hk, rfl, hrow, hB⟩ := hrel
    have hlen := bathsL_len r k
    by_cases hlt : k < n
    · have hlt' : (k : Int) < n := by omega
      obtain ⟨a', b', o', cap', hv, _, _, ha', hcell⟩ := HK.out _ hB.out
      injection hv with hv1 hv2 hv3
      subst hv1 hv3
      rcases ha' with h0 | rfl
      · omega
      obtain ⟨c0, c1, c2, c3⟩ := hcell k hlt
      have HL := hid (bathsL_succ r k)
      obtain ⟨x, hX⟩ : ∃ x, x = r k := ⟨_, rfl⟩
      rw [← hX] at c0 c1 c2 c3 HL
      clear hcell hX hv2 hlt
      go_wp2_with (at_builtin; refine wpList_append_own _ rfl _ _ 28 rfl w.heap.size 3 i0 (.int .i64 0) 1 8 Tryz.underlying28 hi hz0 hz1 hz2 rfl (by decide) _ _ _ rfl (World.ownsRow.alloc hrow.out _) ⟨wr.heap.size, 0, none⟩ 1 1 [.int .i64 x.b] rfl rfl (cell_one_new rfl) one_cell1 (by unfold maxLen; omega) (by omega) (by have := hB.out.size; simp; omega) ?_; intro v1 w3 hown3 hgrow3 _)
      have HB3 := hid (below_app1 hB.out hrow.out (Nat.le_refl _) hgrow3)
      have HR3 : Hid (OwnL w3 w.heap.size v1 (bathsL r (k + 1))) := by rw [HL.out]; exact ownL_app hown3
      clear hown3 hgrow3
      go_roundw
      case rel => exact ⟨k + 1, by omega, by go_num, HR3, HB3⟩
      case measure => simp [intOf]; omega
    · obtain rfl : k = n := by omega
      go_wp2
      go_ret
      exact ⟨_, rfl, hrow.out, hB.out⟩
end Go.Proofs.YtihbjimnjhfpeaaGreat.Rt

/- Walks of Credit of both: contracts. -/
namespace Go.Proofs.YtihbjimnjhfpeaaGreat.Rt
open Go.RowKit

theorem ivs_set (l : List Int) (n : Nat) (x : Int) : (ivs l).set n (.int .i64 x) = ivs (l.set n x) := by simp [ivs, List.map_set]
theorem ivs_at {l : List Int} {n : Nat} {x : Int} (h : l[n]? = some x) : (ivs l)[n]? = some (.int .i64 x) := by simp [ivs, h]
theorem ownL_shape {w : World} {base : Nat} {v : Value} {l : List Int} (h : OwnL w base v l) : ∃ ua uc, v = .slice ua l.length uc := by
  rcases h.2 with ⟨rfl, h0⟩ | ⟨g, cap, cur, rfl, _⟩
  · exact ⟨_, _, by rw [h0]⟩
  · exact ⟨_, _, rfl⟩
theorem OwnL.drewN {w : World} {base : Nat} {v : Value} {l : List Int} (h : OwnL w base v l) (k : Nat) : OwnL (w.drewN k) base v l := h
theorem marks_around {n e k : Nat} (r : Nat → Rd) (he : 1 ≤ e) (hk : k < n) : ∃ m1 m2 : Nat, m1 ≤ k ∧ k ≤ m2 ∧ m2 < n ∧ (∀ j, m1 ≤ j → j ≤ k → mkB n e j = decide (j = m1)) ∧ (∀ j, k ≤ j → j ≤ m2 → mkB n e j = decide (j = m2)) ∧ min (r m1).b (r m2).b = credAt r n e k := by
  cases hm : mkB n e k
  · obtain ⟨h1, h2⟩ := mkB_false hm
    have hle := Nat.mod_le k e
    have hlt2 := Nat.mod_lt k he
    refine ⟨k - k % e, nextM n e k, by omega, by unfold nextM; omega, by unfold nextM; omega, fun j h3 h4 => back_no he h3 h4 (by omega) hk, fun j h3 h4 => fore_no he hm h3 h4, by unfold credAt; rw [hm]; rfl⟩
  · refine ⟨k, k, Nat.le_refl _, Nat.le_refl _, hk, fun j h1 h2 => ?_, fun j h1 h2 => ?_, by unfold credAt; rw [if_pos hm]; omega⟩ <;>
    · obtain rfl : j = k := by omega
      rw [hm]; simp
end Go.Proofs.YtihbjimnjhfpeaaGreat.Rt

/- Marks and Credit of both, whatever comes in: contracts. -/
namespace Go.Proofs.YtihbjimnjhfpeaaGreat.Rt
open Go.RowKit

theorem markE_zero {n : Nat} {e : Int} (h : markE n e = 0) : n ≤ 2000 ∧ 1 ≤ e ∧ e ≤ 2000 := by
  unfold markE at h
  by_cases h1 : 2000 < n
  · rw [if_pos h1] at h; cases h
  · rw [if_neg h1] at h
    cases h2 : inB e 1 2000
    · rw [h2] at h; cases h
    · exact ⟨by omega, inB_iff.1 h2⟩
def marksO (r : Nat → Rd) (n : Nat) (e : Int) : List Int := if markE n e = 0 then marksL r n e.toNat n else []
def credO (r : Nat → Rd) (n : Nat) (e : Int) : List Int := if markE n e = 0 then credL r n e.toNat n else []
end Go.Proofs.YtihbjimnjhfpeaaGreat.Rt
