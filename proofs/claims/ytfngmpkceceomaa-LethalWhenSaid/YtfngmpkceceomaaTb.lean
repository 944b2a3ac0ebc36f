/- Walks of SameInts and Table of both: contracts. -/
import Derived.Test.YtfngmpkceceomaaWe
import Derived.Test.YtfngmpkceceomaaLs
namespace Go.Proofs.Ytfngmpkceceomaa
open Go.RowKit Go.Lib Go.Maps

set_option maxHeartbeats 1000000 in
theorem same_any (l : List Nat) (ga gb ca cb : Nat) (w : World) (h1 : l.length ≤ 1000000)
    (hca : ∀ k (h : k < l.length), w.cell? ⟨ga, k, none⟩ = some (.int .i64 (l[k] : Nat))) (hcb : ∀ k (h : k < l.length), w.cell? ⟨gb, k, none⟩ = some (.int .i64 (l[k] : Nat))) :
    Calls Try.prog 33 #[.slice (some ⟨ga, 0, none⟩) l.length ca, .slice (some ⟨gb, 0, none⟩) l.length cb] w fun e w' => e = .returned (.bool true) ∧ ∃ n, w' = w.drewN n := by
  have HCA := hid hca
  have HCB := hid hcb
  clear hca hcb
  go_enter Try.func33, Try.ntmps33
  go_wp2
  go_loopw [5] (fun i wr => ∃ k : Nat, k ≤ l.length ∧ i = .int .i64 (k : Int) ∧ ∃ n, wr = w.drewN n) (fun i _ => l.length - (intOf i).toNat)
  case atStart => exact ⟨0, Nat.zero_le _, rfl, 0, rfl⟩
  case round =>
    obtain ⟨k, hk, rfl, n, rfl⟩ := hrel
    by_cases hlt : k < l.length
    · have ex := HCA.out k hlt
      have ey := HCB.out k hlt
      generalize l[k] = x at ex ey
      go_wp2
      go_quiet (fail)
      go_wp2
      go_roundw
      case rel => exact ⟨k + 1, by omega, by go_num, by first | exact ⟨_, rfl⟩ | exact drew1 | exact drew2⟩
      case measure => simp [intOf]; omega
    · obtain rfl : k = l.length := by omega
      go_wp2
      go_ret
      exact ⟨rfl, n, rfl⟩
set_option maxHeartbeats 1000000 in
theorem same_nil (w : World) : Calls Try.prog 33 #[.slice none 0 0, .slice none 0 0] w fun e w' => e = .returned (.bool true) ∧ w' = w := by
  go_enter Try.func33, Try.ntmps33
  go_wp2
  refine wp_loop_rounds 1 ?_
  rw [rounds_succ]
  go_wp2
  go_ret
  exact ⟨rfl, rfl⟩

/-- The rates at lo, lo + 1, .. -/
def ratesL (r : Int) (Z : Nat) (lo : Int) (n : Nat) : List Nat := (List.range n).map fun i => Pm.rateD r Z (lo + (i : Nat))
theorem ratesL_len (r : Int) (Z : Nat) (lo : Int) (n : Nat) : (ratesL r Z lo n).length = n := by simp [ratesL]
theorem ratesL_succ (r : Int) (Z : Nat) (lo : Int) (n : Nat) : ratesL r Z lo (n + 1) = ratesL r Z lo n ++ [Pm.rateD r Z (lo + (n : Nat))] := by simp [ratesL, List.range_succ]
theorem ratesL_get (r : Int) (Z : Nat) (lo : Int) (n k : Nat) (h : k < (ratesL r Z lo n).length) : (ratesL r Z lo n)[k] = Pm.rateD r Z (lo + (k : Nat)) := by simp [ratesL]

/-- A killer's cells at the foot of w, in a later world. -/
def KBox (s : ByteArray) (r z d g : Int) (w wr : World) : Prop :=
  wr.cell? ⟨w.heap.size, 0, none⟩ = some (.string s) ∧ wr.cell? ⟨w.heap.size, 1, none⟩ = some (.int .i64 r) ∧ wr.cell? ⟨w.heap.size, 2, none⟩ = some (.int .i64 z) ∧ wr.cell? ⟨w.heap.size, 3, none⟩ = some (.int .i64 d) ∧ wr.cell? ⟨w.heap.size, 4, none⟩ = some (.int .i64 g) ∧ w.heap.size < wr.heap.size ∧ Below w.heap.size w wr
theorem KBox.grown {s : ByteArray} {r z d g : Int} {w wr w1 : World} {row : Option Nat} (h : KBox s r z d g w wr) (hg : wr.grownBy w1 row) (hr : ∀ k, row = some k → w.heap.size < k) : KBox s r z d g w w1 := by
  obtain ⟨h0, h1, h2, h3, h4, h5, h6⟩ := h
  have hne : some w.heap.size ≠ row := fun e => absurd (hr _ e.symm) (Nat.lt_irrefl _)
  exact ⟨grown_cell hg h5 hne h0, grown_cell hg h5 hne h1, grown_cell hg h5 hne h2, grown_cell hg h5 hne h3, grown_cell hg h5 hne h4, Nat.lt_of_lt_of_le h5 hg.size, h6.grown hg h6.size (fun k hk => Nat.le_of_lt (hr k hk))⟩
theorem KBox.append {s : ByteArray} {r z d g : Int} {w wr w1 : World} {v : Value} {l : List Nat} {o : Obj} (h : KBox s r z d g w wr) (hv : RowV wr (w.heap.size + 1) v l) (hg : (wr.alloc o).grownBy w1 v.ownBlock) : KBox s r z d g w w1 :=
  (h.grown (World.grownBy_alloc wr o none) (fun k hk => by cases hk)).grown hg (fun k hk => (World.ownsRow.lt hv k hk).1)
theorem RowV.keep {w w2 : World} {base : Nat} {v : Value} {l : List Nat} (h : RowV w base v l) (hb : Below w.heap.size w w2) : RowV w2 base v l :=
  World.ownsRow.kept h ⟨hb.os, hb.tape, hb.output, hb.size, fun j hj _ => hb.block j hj⟩ (row := none) (by cases v.ownBlock <;> simp)

/-- What Table hands back. -/
def TableP (r : Int) (Z : Nat) (lo : Int) (n : Nat) (w : World) (e : Ending) (w' : World) : Prop := ∃ v, e = .returned (.tuple #[v, .int .i64 0]) ∧ RowR w' v (ratesL r Z lo n) ∧ Below w.heap.size w w'

set_option maxHeartbeats 4000000 in
theorem rTable_ok (s : ByteArray) (r d g lo : Int) (Z n : Nat) (w : World) (hs : s.size ≤ maxLen) (hv : validB s.data.toList r Z d g = true)
    (l1 : -1000 ≤ lo) (l2 : lo + n ≤ 2000) (hn : n ≤ 1000) :
    Calls Try.prog 32 #[.agg #[.string s, .int .i64 r, .int .i64 Z, .int .i64 d, .int .i64 g], .int .i64 lo, .int .i64 (lo + n)] w (TableP r Z lo (n + 1) w) := by
  obtain ⟨_, ⟨r1, r2⟩, ⟨z1, z2⟩, _, _⟩ := validB_iff.1 hv
  obtain ⟨i0, hi, hz0, hz1, hz2⟩ := info_parts info_int
  have h1 : (decide (-1000 ≤ lo) && decide (lo ≤ 2000)) = true := by simp; omega
  have h2 : (decide (-1000 ≤ lo + (n : Int)) && decide (lo + (n : Int) ≤ 2000)) = true := by simp; omega
  have h3 : lo ≤ lo + (n : Int) := by omega
  have h4 : lo + (n : Int) - lo = n := by omega
  go_enter Try.func32, Try.ntmps32
  go_wp2_with (first | (go_at_call 18; refine (rvalid_any _ _ _ _ _ _ hs).mono ?_; rintro e w1 ⟨rfl, hb⟩; obtain ⟨b0, b1, b2, b3, b4, hz, hB⟩ := box5_below hb; clear hb) | (go_at_call 65; refine (told_any _ _).mono ?_; rintro e w1 ⟨rfl, rfl⟩))
  have HK : Hid (KBox s r Z d g w w1) := ⟨b0, b1, b2, b3, b4, hz, hB⟩
  clear b0 b1 b2 b3 b4 hz hB
  go_loopw [8, 9] (fun v t wr => ∃ k : Nat, k ≤ n + 1 ∧ t = .int .i64 (lo + k) ∧ RowV wr (w.heap.size + 1) v (ratesL r Z lo k) ∧ Hid (KBox s r Z d g w wr)) (fun _ t _ => (n + 1) - (intOf t - lo).toNat)
  case atStart => exact ⟨0, Nat.zero_le _, by simp, World.ownsRow_nil _ _ _ _, HK⟩
  case round =>
    obtain ⟨k, hk, rfl, hrow, hK⟩ := hrel
    obtain ⟨b0, b1, b2, b3, b4, hz, hB⟩ := hK.out
    have hlen := ratesL_len r Z lo k
    by_cases hlt : k ≤ n
    · have hle : lo + (k : Int) ≤ lo + n := by omega
      have hx := Pm.rateD_le r Z (lo + k) z1
      obtain ⟨x, hX⟩ : ∃ x, x = Pm.rateD r Z (lo + k) := ⟨_, rfl⟩
      rw [← hX] at hx
      have HX := hid hX; clear hX
      go_wp2_with (first
        | (go_at_call 66; refine (rrates_any _ _ _ _ (lo + k) Z _ r1 r2 (by omega) (by omega) (by omega) (by omega)).mono ?_; rintro e w2 ⟨rfl, hb⟩; rw [← HX.out]; have hrow2 := RowV.keep hrow hb; have HK2 := hid (KBox.grown hK.out (row := none) (gbelow hb) (fun k hk => by cases hk)); have hs2 := Nat.lt_of_lt_of_le hz hb.size)
        | (at_builtin; refine wpList_append_own _ rfl _ _ 32 rfl (w.heap.size + 1) 3 i0 (.int .i64 0) 1 8 Try.underlying32 hi hz0 hz1 hz2 rfl (by decide) _ _ _ rfl (World.ownsRow.alloc hrow2 _) ⟨w2.heap.size, 0, none⟩ 1 1 [.int .i64 (x : Int)] rfl rfl cell_one_at one_cell (by unfold maxLen; omega) (by omega) (by simp; omega) ?_; intro v1 w3 hown3 hgrow3 _))
      go_roundw
      case rel => exact ⟨k + 1, by omega, by go_num, by rw [ratesL_succ, ← HX.out]; exact row_append rfl hown3, HK2.out.append hrow2 hgrow3⟩
      case measure => simp [intOf]; omega
    · obtain rfl : k = n + 1 := by omega
      have hgt : ¬ lo + ((n + 1 : Nat) : Int) ≤ lo + n := by omega
      go_wp2
      go_ret2
      exact ⟨_, rfl, hrow.reads, hB⟩
end Go.Proofs.Ytfngmpkceceomaa
