/- Plain facts of signals; walks of validChart, charted, indexes: contracts. -/
import Derived.Test.YtlhjiikbehmamaaDoorNb
import Derived.Test.YtlhjiikbehmamaaDoorKd
import Derived.Test.YtlhjiikbehmamaaDoorQa
namespace Go.Proofs.YtlhjiikbehmamaaDoor
open Go.RowKit

/-- Behind i values: where the rules began, how many adjustments are passed. -/
def stA (adj : List Int) : Nat → Nat × Nat
  | 0 => (0, 0)
  | i + 1 => if adj[(stA adj i).2]? = some (i : Int) then (i, (stA adj i).2 + 1) else stA adj i
/-- The rules: of how many values, how many, how many sigmas. -/
def rlC : Nat → Nat
  | 0 => 1
  | 1 => 3
  | _ => 7
def rlD : Nat → Nat
  | 0 => 1
  | 1 => 2
  | _ => 7
def rlE : Nat → Int
  | 0 => 3
  | 1 => 2
  | _ => 0
def sgR (M S : Int) (l : List Int) (b i j : Nat) : Bool := sgB M (rlE j * S) ((l.take (i + 1)).drop b) (rlC j) (rlD j)
def sgI (M S : Int) (l : List Int) (b i : Nat) : Nat → List Pr
  | 0 => []
  | j + 1 => if sgR M S l b i j then sgI M S l b i j ++ [⟨i, (j : Int) + 1⟩] else sgI M S l b i j
/-- The signals among the first i values. -/
def sgL (M S : Int) (l : List Int) (adj : List Int) : Nat → List Pr
  | 0 => []
  | i + 1 => sgL M S l adj i ++ sgI M S l (stA adj (i + 1)).1 i 3
theorem stA_yes {adj : List Int} {i : Nat} (h : adj[(stA adj i).2]? = some (i : Int)) : stA adj (i + 1) = (i, (stA adj i).2 + 1) := by rw [stA, if_pos h]
theorem stA_no {adj : List Int} {i : Nat} (h : adj[(stA adj i).2]? ≠ some (i : Int)) : stA adj (i + 1) = stA adj i := by rw [stA, if_neg h]
theorem stA_le (adj : List Int) : ∀ i, (stA adj (i + 1)).1 ≤ i
  | 0 => by
    by_cases h : adj[(stA adj 0).2]? = some ((0 : Nat) : Int)
    · rw [stA_yes h]; exact Nat.le_refl _
    · rw [stA_no h]; exact Nat.le_refl _
  | i + 1 => by
    have ih := stA_le adj i
    by_cases h : adj[(stA adj (i + 1)).2]? = some ((i + 1 : Nat) : Int)
    · rw [stA_yes h]; exact Nat.le_refl _
    · rw [stA_no h]; omega
theorem sgI_yes {M S : Int} {l : List Int} {b i j : Nat} (h : sgR M S l b i j = true) : sgI M S l b i (j + 1) = sgI M S l b i j ++ [⟨i, (j : Int) + 1⟩] := by rw [sgI, h]; rfl
theorem sgI_no {M S : Int} {l : List Int} {b i j : Nat} (h : sgR M S l b i j = false) : sgI M S l b i (j + 1) = sgI M S l b i j := by rw [sgI, h]; rfl
theorem sgI_len (M S : Int) (l : List Int) (b i : Nat) : ∀ j, (sgI M S l b i j).length ≤ j
  | 0 => Nat.le_refl _
  | j + 1 => by
    have ih := sgI_len M S l b i j
    cases h : sgR M S l b i j
    · rw [sgI_no h]; omega
    · rw [sgI_yes h, List.length_append, List.length_singleton]; omega
theorem sgL_len (M S : Int) (l adj : List Int) : ∀ i, (sgL M S l adj i).length ≤ 3 * i
  | 0 => Nat.le_refl _
  | i + 1 => by
    have ih := sgL_len M S l adj i
    have := sgI_len M S l (stA adj (i + 1)).1 i 3
    rw [sgL, List.length_append]; omega
/-- A chart that is valid; values that may be charted. -/
def chB (M S : Int) : Bool := inB M (-1000000000) 1000000000 && inB S 1 1000000000
def vlB (l : List Int) : Bool := decide (l.length ≤ 10000) && allW (-1000000000) 1000000000 l
theorem vlB_iff {l : List Int} : vlB l = true ↔ l.length ≤ 10000 ∧ ∀ x ∈ l, -1000000000 ≤ x ∧ x ≤ 1000000000 := by
  simp only [vlB, allW, Bool.and_eq_true, decide_eq_true_iff, List.all_eq_true, inB_iff]
/-- Strictly ascending indexes of a list of n. -/
def loI (adj : List Int) : Nat → Int
  | 0 => 0
  | k + 1 => adj.getD k 0 + 1
def ixB (adj : List Int) (n : Int) : Bool := allB adj.length fun k => inB (adj.getD k 0) (loI adj k) (n - 1)
/-- What Signals says first. -/
def sgE (M S : Int) (l adj : List Int) : Int := if chB M S then (if vlB l then (if ixB adj l.length then 0 else 7) else 4) else 1
set_option maxHeartbeats 1000000 in
theorem chart_any (M S : Int) (w : World) : Calls Tryd.prog 11 #[.agg #[.int .i64 M, .int .i64 S]] w fun e w' => e = .returned (.bool (chB M S)) ∧ Below w.heap.size w w' := by
  have HB := hid (box1_start (w := w) (A := #[.int .i64 M, .int .i64 S]) (T := 23) (fz := (0, 0))).low
  have HC := hid (show chB M S = (inB M (-1000000000) 1000000000 && inB S 1 1000000000) from rfl)
  cases h1 : inB M (-1000000000) 1000000000
  · have HE := hid (show chB M S = false by rw [HC.out, h1]; rfl)
    go_enter Tryd.func11, Tryd.ntmps11
    go_wp2_with (go_at_call 23; refine (kwithin_any _ _ _ _).mono ?_; rintro e w' ⟨rfl, rfl⟩)
    go_ret
    exact ⟨ret_bool HE.out.symm, HB.out⟩
  · have HE := hid (show chB M S = inB S 1 1000000000 by rw [HC.out, h1]; rfl)
    go_enter Tryd.func11, Tryd.ntmps11
    go_wp2_with (go_at_call 23; refine (kwithin_any _ _ _ _).mono ?_; rintro e w' ⟨rfl, rfl⟩)
    go_ret
    exact ⟨ret_bool HE.out.symm, HB.out⟩
set_option maxHeartbeats 1000000 in
theorem charted_any (v : Value) (l : List Int) (w : World) (hr : RowI w v l) : Calls Tryd.prog 12 #[v] w fun e w' => e = .returned (.bool (vlB l)) ∧ w = w' := by
  have HR := hid hr
  have HC := hid (show vlB l = (decide (l.length ≤ 10000) && allW (-1000000000) 1000000000 l) from rfl)
  obtain ⟨a, c, rfl⟩ := hr.shape
  have hm : l.length ≤ maxLen := by
    rcases hr with ⟨_, _, _, rfl⟩ | ⟨_, _, _, _, h, _⟩
    · exact Nat.zero_le _
    · exact h
  unfold maxLen at hm
  obtain ⟨n, hn⟩ : ∃ n, n = l.length := ⟨_, rfl⟩
  rw [← hn] at hm HC HR ⊢
  clear hr hn
  by_cases h1 : n ≤ 10000
  · have h1' : (n : Int) ≤ 10000 := by omega
    have HE := hid (show vlB l = allW (-1000000000) 1000000000 l by rw [HC.out, decide_eq_true h1]; rfl)
    go_enter Tryd.func12, Tryd.ntmps12
    go_wp2_with (go_at_call 24; refine (allw_any _ _ _ l _ HR.out).mono ?_; rintro e w' ⟨rfl, rfl⟩)
    go_ret
    exact ⟨ret_bool HE.out.symm, rfl⟩
  · have h1' : ¬ (n : Int) ≤ 10000 := by omega
    have HE := hid (show vlB l = false by rw [HC.out, decide_eq_false h1]; rfl)
    go_enter Tryd.func12, Tryd.ntmps12
    go_wp2_with (go_at_call 24; refine (allw_any _ _ _ l _ HR.out).mono ?_; rintro e w' ⟨rfl, rfl⟩)
    go_ret
    exact ⟨ret_bool HE.out.symm, rfl⟩
theorem loI_bd {adj : List Int} {n : Int} (hn : n ≤ 10000) : ∀ k, (∀ j, j < k → inB (adj.getD j 0) (loI adj j) (n - 1) = true) → 0 ≤ loI adj k ∧ loI adj k ≤ 10000
  | 0, _ => ⟨Int.le_refl _, by simp [loI]⟩
  | k + 1, h => by
    have ih := loI_bd hn k (fun j hj => h j (by omega))
    have := inB_iff.1 (h k (by omega))
    simp only [loI]
    omega
set_option maxHeartbeats 2000000 in
theorem indexes_any (v : Value) (adj : List Int) (n : Nat) (w : World) (hr : RowI w v adj) (hn : n ≤ 10000) : Calls Tryd.prog 13 #[v, .int .i64 n] w fun e w' => e = .returned (.bool (ixB adj n)) ∧ w = w' := by
  have HR := hid hr
  obtain ⟨a, c, rfl⟩ := hr.shape
  have hm : adj.length ≤ maxLen := by
    rcases hr with ⟨_, _, _, rfl⟩ | ⟨_, _, _, _, h, _⟩
    · exact Nat.zero_le _
    · exact h
  unfold maxLen at hm
  obtain ⟨m, hm'⟩ : ∃ m, m = adj.length := ⟨_, rfl⟩
  have HM := hid hm'
  rw [← hm'] at hm HR ⊢
  have hw : IntKind.i64.wrap ((n : Int) - 1) = (n : Int) - 1 := IntWalk.i64_in _ ⟨by omega, by omega⟩
  clear hr hm'
  go_enter Tryd.func13, Tryd.ntmps13
  go_wp2
  go_loop [5, 10] (fun u t => ∃ k : Nat, k ≤ m ∧ t = .int .i64 (k : Int) ∧ u = .int .i64 (loI adj k) ∧ Hid (∀ j, j < k → inB (adj.getD j 0) (loI adj j) ((n : Int) - 1) = true)) (fun _ t => m - (intOf t).toNat)
  case atStart => exact ⟨0, Nat.zero_le _, rfl, rfl, fun j h => absurd h (Nat.not_lt_zero j)⟩
  case round =>
    obtain ⟨k, hk, rfl, rfl, hok⟩ := hrel
    obtain ⟨g1, g2⟩ := loI_bd (by omega) k hok.out
    by_cases hlt : k < m
    · have hlt' : (k : Int) < m := by omega
      have hkl : k < adj.length := by rw [← HM.out]; exact hlt
      obtain ⟨b, o, hv, hcell⟩ := rowI_get HR.out HM.out hkl
      subst hv
      have HG := hid (show adj.getD k 0 = adj[k] by simp [List.getD, hkl])
      have HS := hid (show loI adj (k + 1) = adj[k] + 1 by simp only [loI]; rw [HG.out])
      have HST := hid (fun (h : inB adj[k] (loI adj k) ((n : Int) - 1) = true) => all_step (p := fun j => inB (adj.getD j 0) (loI adj j) ((n : Int) - 1)) (k := k) hok.out (by show inB (adj.getD k 0) _ _ = _; rw [HG.out]; exact h))
      have HBAD := hid (fun (h : inB adj[k] (loI adj k) ((n : Int) - 1) = false) => allB_bad (n := adj.length) (p := fun j => inB (adj.getD j 0) (loI adj j) ((n : Int) - 1)) hkl (by show inB (adj.getD k 0) _ _ = _; rw [HG.out]; exact h))
      generalize adj[k] = x at *
      obtain ⟨L, hL⟩ : ∃ L, L = loI adj k := ⟨_, rfl⟩
      rw [← hL] at HST HBAD g1 g2 ⊢
      have HLT := hid hlt
      clear hlt hkl HG hL
      cases hx : inB x L ((n : Int) - 1)
      · have HE := hid (show ixB adj n = false from HBAD.out hx)
        go_wp2_with (go_at_call 23; refine (kwithin_any _ _ _ _).mono ?_; rintro e w' ⟨rfl, rfl⟩)
        go_ret
        exact ⟨ret_bool HE.out.symm, rfl⟩
      · have HE := hid (HST.out hx)
        obtain ⟨y1, y2⟩ := inB_iff.1 hx
        go_wp2_with (go_at_call 23; refine (kwithin_any _ _ _ _).mono ?_; rintro e w' ⟨rfl, rfl⟩)
        go_round
        case rel => exact ⟨k + 1, HLT.out, by go_num, by rw [HS.out], HE⟩
        case measure => have := HLT.out; simp [intOf]; omega
    · obtain rfl : k = m := by omega
      have HE := hid (show ixB adj n = true from allB_end fun j hj => hok.out j (by rw [HM.out]; exact hj))
      go_wp2
      go_ret
      exact ⟨ret_bool HE.out.symm, rfl⟩
end Go.Proofs.YtlhjiikbehmamaaDoor
