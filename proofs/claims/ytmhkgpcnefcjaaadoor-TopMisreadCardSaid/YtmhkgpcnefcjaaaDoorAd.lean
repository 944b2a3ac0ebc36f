/- Lists of indexes: own rows of ints; walks of upTo of both: contracts. -/
import Derived.Test.YtmhkgpcnefcjaaaDoorAc
import Derived.Laws.AppendOwn
import Derived.OwnWalk
namespace Go.Proofs.YtmhkgpcnefcjaaaDoor
open Go.RowKit

/-- Ints in a row of the call's own. -/
def OwnJ (w : World) (base : Nat) (v : Value) (l : List Int) : Prop := w.ownsRow base 3 1 v l.length (l.map (Value.int .i64))
theorem infoInt : (Tryd.prog.info? 3).map (fun i => (i.zero, i.size, i.bytes)) = some (some (.int .i64 0), 1, 8) := by kernel_rfl
theorem info_cut {o : Option TypeInfo} {z : Option Value} {s b : Nat} (h : o.map (fun i => (i.zero, i.size, i.bytes)) = some (z, s, b)) : ∃ i, o = some i ∧ i.zero = z ∧ i.size = s ∧ i.bytes = b := by
  cases o with
  | none => cases h
  | some i =>
    simp only [Option.map_some, Option.some.injEq, Prod.mk.injEq] at h
    exact ⟨i, rfl, h.1, h.2.1, h.2.2⟩
theorem infoJ : ∃ i, Tryd.prog.info? 3 = some i ∧ i.zero = some (.int .i64 0) ∧ i.size = 1 ∧ i.bytes = 8 := info_cut infoInt
theorem OwnJ.rowI {w : World} {base : Nat} {v : Value} {l : List Int} (h : OwnJ w base v l) : RowI w v l := by
  rcases h.2 with ⟨rfl, h0⟩ | ⟨g, cap, cur, rfl, _, hg, hcap, hmx, hcs, ht⟩
  · exact .inl ⟨none, 0, rfl, List.length_eq_zero_iff.1 h0⟩
  · refine .inr ⟨g, 0, cap, rfl, Nat.le_trans hcap hmx, fun k hk => ?_⟩
    rw [Nat.zero_add, cell_of_row w g k cur _ _ hg]
    have hx : (l.map (Value.int .i64))[k]? = some (.int .i64 l[k]) := by simp [hk]
    rw [← ht, List.getElem?_take_of_lt (by omega)] at hx
    simpa using hx
theorem ownJ_nil (w : World) (base : Nat) : OwnJ w base (.slice none 0 0) [] := World.ownsRow_nil w base _ 1
theorem OwnJ.app {w : World} {base : Nat} {v : Value} {l : List Int} {x : Int} (h : w.ownsRow base 3 1 v (l.length + 1) (l.map (Value.int .i64) ++ [.int .i64 x])) : OwnJ w base v (l ++ [x]) := by
  unfold OwnJ
  rw [List.length_append, List.map_append]
  exact h
theorem ownJ_shape {w : World} {base : Nat} {v : Value} {l : List Int} (h : OwnJ w base v l) : ∃ ua uc, v = .slice ua l.length uc := by
  rcases h.2 with ⟨rfl, h0⟩ | ⟨g, cap, cur, rfl, _⟩
  · exact ⟨_, _, by rw [h0]⟩
  · exact ⟨_, _, rfl⟩
theorem OwnJ.keep {w w2 : World} {base : Nat} {v : Value} {l : List Int} (h : OwnJ w base v l) (hb : Below w.heap.size w w2) : OwnJ w2 base v l := by
  refine ⟨h.1, ?_⟩
  rcases h.2 with h2 | ⟨g, cap, cur, h1, h2, h3, h4⟩
  · exact .inl h2
  · exact .inr ⟨g, cap, cur, h1, h2, (hb.block g (Array.getElem?_eq_some_iff.1 h3).1).trans h3, h4⟩
theorem cellJ {w : World} {u : Value} {T : TypeId} {m : Nat} (hm : w.heap.size = m) : ∀ j x, [u][j]? = some x → (w.alloc (.cells #[u] T)).cell? ((⟨m, 0, none⟩ : Addr).add j) = some x := by
  subst hm
  intro j x h
  cases j with
  | zero => simp at h; subst h; simp [Addr.add]
  | succ j => simp at h
theorem oneJ {x : Int} : ∀ u ∈ [Value.int .i64 x], u.oneCell' = true := by intro u hu; simp at hu; subst hu; rfl
theorem belowJ {W W2 w1 : World} {base : Nat} {v : Value} {l : List Int} {o : Obj} (hW : Below W.heap.size W W2) (h : OwnJ W2 base v l) (hb : W.heap.size ≤ base) (hg : (W2.alloc o).grownBy w1 v.ownBlock) : Below W.heap.size W w1 :=
  (hW.alloc hW.size _).grown hg (by have := hW.size; simp; omega) (fun k hk => by have := (World.ownsRow.lt h k hk).1; omega)
/-- What upTo answers. -/
def UpP (L : List Int) (w : World) (e : Ending) (w' : World) : Prop := ∃ u, e = .returned u ∧ OwnJ w' w.heap.size u L ∧ Below w.heap.size w w'
set_option maxRecDepth 20000 in
set_option maxHeartbeats 4000000 in
theorem cupto_any (most : Int) (v : Value) (ds : List Int) (w : World) (hr : RowI w v ds) (hlen : ds.length ≤ 2100) : Calls Tryd.prog 49 #[.int .i64 most, v] w (UpP (upQ most ds) w) := by
  obtain ⟨i0, hi, hz0, hz1, hz2⟩ := infoJ
  obtain ⟨a, b, o, cap, rfl, ha, hc, hbl⟩ := hr.form
  have HA := hid ha
  have HC := hid (fun w1 (g : Below w.heap.size w w1) j (h : j < ds.length) => keep_cell g (hc j h))
  have HLEN := hid hlen
  clear ha hc hbl hr
  obtain ⟨n, hn⟩ : ∃ n, n = ds.length := ⟨_, rfl⟩
  have HN := hid hn
  have hn2 : n ≤ 2100 := by omega
  have HE := hid (show upN most ds n = upQ most ds by rw [hn]; rfl)
  rw [← hn]
  clear hn hlen
  go_enter Tryd.func49, Tryd.ntmps49
  go_wp2
  go_loopw [5, 10] (fun u t wr => ∃ k : Nat, k ≤ n ∧ t = .int .i64 (k : Int) ∧ Hid (OwnJ wr w.heap.size u (upN most ds k)) ∧ Hid (Below w.heap.size w wr)) (fun _ t _ => n - (intOf t).toNat)
  case atStart => exact ⟨0, Nat.zero_le _, rfl, ownJ_nil _ _, Below.refl _ _⟩
  case round =>
    obtain ⟨k, hk, rfl, hO, hB⟩ := hrel
    have HLN := hid (upN_len most ds k)
    by_cases hlt : k < n
    · have hlt' : (k : Int) < n := by omega
      have hkl : k < ds.length := by rw [← HN.out]; exact hlt
      have hx := HC.out _ hB.out k hkl
      have HY := hid (fun h => upN_yes (most := most) hkl h)
      have HO2 := hid (fun h => upN_no (most := most) hkl h)
      rcases HA.out with h0 | rfl
      · exact absurd hkl (by rw [h0]; simp)
      have HLT := hid hlt
      generalize ds[k]'hkl = x at *
      clear hlt hkl
      by_cases hle : x ≤ most
      · have HEE := hid (HY.out hle)
        clear HY HO2
        generalize upN most ds k = L at *
        go_wp2_with (at_builtin; refine wpList_append_own _ rfl _ _ 31 rfl w.heap.size 3 i0 (.int .i64 0) 1 8 Tryd.underlying31 hi hz0 hz1 hz2 rfl (by decide) _ _ _ rfl (World.ownsRow.alloc hO.out _) ⟨wr.heap.size, 0, none⟩ 1 1 [.int .i64 (k : Int)] rfl rfl (cellJ rfl) oneJ (by have := HLN.out; unfold maxLen; omega) (by have := HLN.out; omega) (by have := hB.out.size; simp; omega) ?_; intro v1 w3 hown3 hgrow3 _; have HB3 := hid (belowJ hB.out hO.out (Nat.le_refl _) hgrow3); have HR3 := hid (OwnJ.app hown3); clear hown3 hgrow3)
        go_roundw
        case rel => exact ⟨k + 1, HLT.out, by go_num, by rw [HEE.out]; exact HR3, HB3⟩
        case measure => have := HLT.out; simp [intOf]; omega
      · have HEE := hid (HO2.out hle)
        clear HY HO2
        go_wp2
        go_roundw
        case rel => exact ⟨k + 1, HLT.out, by go_num, by rw [HEE.out]; exact hO, hB⟩
        case measure => have := HLT.out; simp [intOf]; omega
    · obtain rfl : k = n := by omega
      go_wp2
      go_ret
      exact ⟨_, rfl, by rw [← HE.out]; exact hO.out, hB.out⟩
set_option maxRecDepth 20000 in
set_option maxHeartbeats 4000000 in
theorem xupto_any (most : Int) (v : Value) (ds : List Int) (w : World) (hr : RowI w v ds) (hlen : ds.length ≤ 2100) : Calls Tryd.prog 51 #[v, .int .i64 most] w (UpP (upQ most ds) w) := by
  obtain ⟨i0, hi, hz0, hz1, hz2⟩ := infoJ
  obtain ⟨a, b, o, cap, rfl, ha, hc, hbl⟩ := hr.form
  have HA := hid ha
  have HC := hid (fun w1 (g : Below w.heap.size w w1) j (h : j < ds.length) => keep_cell g (hc j h))
  have HLEN := hid hlen
  clear ha hc hbl hr
  obtain ⟨n, hn⟩ : ∃ n, n = ds.length := ⟨_, rfl⟩
  have HN := hid hn
  have hn2 : n ≤ 2100 := by omega
  have HE := hid (show upN most ds n = upQ most ds by rw [hn]; rfl)
  rw [← hn]
  clear hn hlen
  go_enter Tryd.func51, Tryd.ntmps51
  go_wp2
  go_loopw [5, 6] (fun u t wr => ∃ k : Nat, k ≤ n ∧ t = .int .i64 (k : Int) ∧ Hid (OwnJ wr w.heap.size u (upN most ds k)) ∧ Hid (Below w.heap.size w wr)) (fun _ t _ => n - (intOf t).toNat)
  case atStart => exact ⟨0, Nat.zero_le _, rfl, ownJ_nil _ _, Below.refl _ _⟩
  case round =>
    obtain ⟨k, hk, rfl, hO, hB⟩ := hrel
    have HLN := hid (upN_len most ds k)
    by_cases hlt : k < n
    · have hlt' : (k : Int) < n := by omega
      have hkl : k < ds.length := by rw [← HN.out]; exact hlt
      have hx := HC.out _ hB.out k hkl
      have HY := hid (fun h => upN_yes (most := most) hkl h)
      have HO2 := hid (fun h => upN_no (most := most) hkl h)
      rcases HA.out with h0 | rfl
      · exact absurd hkl (by rw [h0]; simp)
      have HLT := hid hlt
      generalize ds[k]'hkl = x at *
      clear hlt hkl
      by_cases hle : x ≤ most
      · have HEE := hid (HY.out hle)
        clear HY HO2
        generalize upN most ds k = L at *
        go_wp2_with (at_builtin; refine wpList_append_own _ rfl _ _ 31 rfl w.heap.size 3 i0 (.int .i64 0) 1 8 Tryd.underlying31 hi hz0 hz1 hz2 rfl (by decide) _ _ _ rfl (World.ownsRow.alloc hO.out _) ⟨wr.heap.size, 0, none⟩ 1 1 [.int .i64 (k : Int)] rfl rfl (cellJ rfl) oneJ (by have := HLN.out; unfold maxLen; omega) (by have := HLN.out; omega) (by have := hB.out.size; simp; omega) ?_; intro v1 w3 hown3 hgrow3 _; have HB3 := hid (belowJ hB.out hO.out (Nat.le_refl _) hgrow3); have HR3 := hid (OwnJ.app hown3); clear hown3 hgrow3)
        go_roundw
        case rel => exact ⟨k + 1, HLT.out, by go_num, by rw [HEE.out]; exact HR3, HB3⟩
        case measure => have := HLT.out; simp [intOf]; omega
      · have HEE := hid (HO2.out hle)
        clear HY HO2
        go_wp2
        go_roundw
        case rel => exact ⟨k + 1, HLT.out, by go_num, by rw [HEE.out]; exact hO, hB⟩
        case measure => have := HLT.out; simp [intOf]; omega
    · obtain rfl : k = n := by omega
      go_wp2
      go_ret
      exact ⟨_, rfl, by rw [← HE.out]; exact hO.out, hB.out⟩
end Go.Proofs.YtmhkgpcnefcjaaaDoor
