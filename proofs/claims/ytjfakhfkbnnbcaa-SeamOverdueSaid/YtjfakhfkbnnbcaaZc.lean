/- Lists of heads: own rows of ints, upTo; the reference's Heads: contracts. -/
import Derived.Test.YtjfakhfkbnnbcaaZb
import Derived.Laws.AppendOwn
import Derived.OwnWalk
namespace Go.Proofs.Ytjfakhfkbnnbcaa
open Go.RowKit

/-- Ints in a row of the call's own. -/
def OwnJ (w : World) (base : Nat) (v : Value) (l : List Int) : Prop := w.ownsRow base 3 1 v l.length (l.map (Value.int .i64))
theorem infoJ : ∃ i, Try.prog.info? 3 = some i ∧ i.zero = some (.int .i64 0) ∧ i.size = 1 ∧ i.bytes = 8 := info_parts (by kernel_rfl)
theorem OwnJ.rowI {w : World} {base : Nat} {v : Value} {l : List Int} (h : OwnJ w base v l) : RowI w v l := by
  rcases h.2 with ⟨rfl, h0⟩ | ⟨g, cap, cur, rfl, _, hg, hcap, hmx, hcs, ht⟩
  · exact .inl ⟨none, 0, rfl, List.length_eq_zero_iff.1 h0⟩
  · refine .inr ⟨g, 0, cap, rfl, Nat.le_trans hcap hmx, fun k hk => ?_⟩
    rw [Nat.zero_add, cell_of_row w g k cur _ _ hg]
    have hx : (l.map (Value.int .i64))[k]? = some (.int .i64 l[k]) := by simp [hk]
    rw [← ht, List.getElem?_take_of_lt (by omega)] at hx
    simpa using hx
theorem ownJ_nil (w : World) (base : Nat) : OwnJ w base (.slice none 0 0) [] := World.ownsRow_nil w base _ 1
theorem OwnJ.app {w : World} {base : Nat} {v : Value} {l : List Int} {x : Int} (h : w.ownsRow base 3 1 v (l.length + 1) (l.map (Value.int .i64) ++ [.int .i64 x])) : OwnJ w base v (l ++ [x]) := by
  unfold OwnJ
  rw [List.length_append, List.map_append]
  exact h
theorem ownJ_shape {w : World} {base : Nat} {v : Value} {l : List Int} (h : OwnJ w base v l) : ∃ ua uc, v = .slice ua l.length uc := by
  rcases h.2 with ⟨rfl, h0⟩ | ⟨g, cap, cur, rfl, _⟩
  · exact ⟨_, _, by rw [h0]⟩
  · exact ⟨_, _, rfl⟩
theorem OwnJ.low {w : World} {b1 b2 : Nat} {v : Value} {l : List Int} (h : OwnJ w b1 v l) (hb : b2 ≤ b1) : OwnJ w b2 v l := by
  refine ⟨h.1, ?_⟩
  rcases h.2 with hn | ⟨g, cap, cur, rfl, hb', rest⟩
  · exact .inl hn
  · exact .inr ⟨g, cap, cur, rfl, Nat.le_trans hb hb', rest⟩
theorem cellJ {w : World} {u : Value} {T : TypeId} {m : Nat} (hm : w.heap.size = m) : ∀ j x, [u][j]? = some x → (w.alloc (.cells #[u] T)).cell? ((⟨m, 0, none⟩ : Addr).add j) = some x := by
  subst hm
  intro j x h
  cases j with
  | zero => simp at h; subst h; simp [Addr.add]
  | succ j => simp at h
theorem oneJ {x : Int} : ∀ u ∈ [Value.int .i64 x], u.oneCell' = true := by intro u hu; simp at hu; subst hu; rfl
theorem belowJ {W W2 w1 : World} {base : Nat} {v : Value} {l : List Int} {o : Obj} (hW : Below W.heap.size W W2) (h : OwnJ W2 base v l) (hb : W.heap.size ≤ base) (hg : (W2.alloc o).grownBy w1 v.ownBlock) : Below W.heap.size W w1 :=
  (hW.alloc hW.size _).grown hg (by have := hW.size; simp; omega) (fun k hk => by have := (World.ownsRow.lt h k hk).1; omega)
/-- The heads 1 to n. -/
def upL (n : Nat) : List Int := (List.range n).map fun i : Nat => (i : Int) + 1
theorem upL_len (n : Nat) : (upL n).length = n := by simp [upL]
theorem upL_succ (n : Nat) : upL (n + 1) = upL n ++ [(n : Int) + 1] := by simp [upL, List.range_succ]
theorem upL_at {n k : Nat} (h : k < (upL n).length) : (upL n)[k] = (k : Int) + 1 := by simp [upL]
def rowU (n k : Nat) : List Int := (List.range n).map fun i : Nat => if i < k then (i : Int) + 1 else 0
theorem rowU_len (n k : Nat) : (rowU n k).length = n := by simp [rowU]
theorem rowU_zero (n : Nat) : rowU n 0 = List.replicate n 0 := by
  apply List.ext_getElem (by simp [rowU])
  intro i h1 h2
  simp [rowU]
theorem rowU_all (n : Nat) : rowU n n = upL n := by
  unfold rowU upL
  exact List.map_congr_left fun i hi => by rw [if_pos (List.mem_range.1 hi)]
theorem rowU_set {n k : Nat} (_h : k < n) : ((rowU n k).map (Value.int .i64)).set k (.int .i64 ((k : Int) + 1)) = (rowU n (k + 1)).map (Value.int .i64) := by
  apply List.ext_getElem (by simp [rowU])
  intro i h1 h2
  rw [List.getElem_set]
  by_cases e : k = i
  · subst e; simp [rowU]
  · rw [if_neg e]
    have : i < k ↔ i < k + 1 := by omega
    simp only [rowU, List.getElem_map, List.getElem_range, this]
theorem rowU_at {n k : Nat} (h : k < n) : ((rowU n k).map (Value.int .i64))[k]? = some (.int .i64 0) := by simp [rowU, h]
theorem made_zero (n : Nat) : (madeCells (Value.int .i64 0).cells (n * 1)).toList = List.replicate n (Value.int .i64 0) := by
  apply List.ext_getElem (by simp [madeCells])
  intro i h1 h2
  simp [madeCells, Value.cells, Nat.mod_one]
set_option maxRecDepth 20000 in
set_option maxHeartbeats 4000000 in
theorem upto_any (n : Nat) (w : World) (hn : n ≤ 12) : Calls Try.prog 39 #[.int .i64 (n : Int)] w fun e w' => ∃ u, e = .returned u ∧ OwnJ w' w.heap.size u (upL n) ∧ Below w.heap.size w w' := by
  obtain ⟨i0, hi, hz0, hz1, hz2⟩ := infoJ
  have hn' : (0 : Int) ≤ (n : Int) := by omega
  have HN := hid hn
  clear hn
  go_enter Try.func39, Try.ntmps39
  go_wp2_with (at_make; refine wpList_make_full _ rfl _ _ 45 rfl w.heap.size 3 i0 (.int .i64 0) 1 Try.underlying45 hi hz0 hz1 _ _ _ _ n rfl rfl rfl rfl (by have := HN.out; rw [hz2]; omega) (by have := HN.out; unfold maxLen; omega) (Nat.le_refl _) ?_; intro w1 hown1 hgrow1; have HO := hid hown1; have HB := hid ((Below.refl w.heap.size w).grown hgrow1 (Nat.le_refl _) (fun j e => by cases e)); clear hown1 hgrow1)
  go_wp2
  go_loopw [9] (fun t wr => ∃ k : Nat, k ≤ n ∧ t = .int .i64 (k : Int) ∧ Hid (wr.ownsRow w.heap.size 3 1 (.slice (some ⟨w.heap.size, 0, none⟩) n n) n ((rowU n k).map (Value.int .i64))) ∧ Hid (Below w.heap.size w wr)) (fun t _ => n - (intOf t).toNat)
  case atStart =>
    refine ⟨0, Nat.zero_le _, rfl, ?_, HB⟩
    have h := HO.out
    rw [made_zero] at h
    rw [rowU_zero, List.map_replicate]
    exact h
  case round =>
    obtain ⟨k, hk, rfl, hO, hB⟩ := hrel
    by_cases hlt : k < n
    · have hlt' : (k : Int) < n := by omega
      have c0 := (hO.out.cellAt k (by omega)).trans (rowU_at hlt)
      have c1 := hO.out.frozenAt k
      have hw : IntKind.i64.wrap ((k : Int) + 1) = (k : Int) + 1 := IntWalk.i64_in _ ⟨by omega, by have := HN.out; omega⟩
      have HS := hid (show World.ownsRow _ _ _ _ _ _ _ from by have h := (hO.out.stored k (.int .i64 ((k : Int) + 1))).1; rw [rowU_set hlt] at h; exact h)
      have HB2 := hid (hB.out.setCell (p := ⟨w.heap.size, k, none⟩) (Nat.le_refl _) (.int .i64 ((k : Int) + 1)))
      have HLT := hid hlt
      clear hlt
      go_wp2
      go_roundw
      case rel => exact ⟨k + 1, HLT.out, by go_num, HS, HB2⟩
      case measure => have := HLT.out; simp [intOf]; omega
    · obtain rfl : k = n := by omega
      have HE : Hid (OwnJ wr w.heap.size (.slice (some ⟨w.heap.size, 0, none⟩) k k) (upL k)) := by
        have h := hO.out
        rw [rowU_all] at h
        show World.ownsRow _ _ _ _ _ _ _
        rw [upL_len]
        exact h
      go_wp2
      go_ret
      exact ⟨_, rfl, HE.out, hB.out⟩
/-- A head has a sheet. -/
def hasH (l : List Sh) (h : Int) : Bool := l.any fun x => decide (x.hd = h)
theorem hasH_take {l : List Sh} {k : Nat} {h : Int} (hk : k < l.length) : hasH (l.take (k + 1)) h = (hasH (l.take k) h || decide (l[k].hd = h)) := by
  unfold hasH
  rw [List.take_succ_eq_append_getElem hk, List.any_append]
  simp
theorem hasH_at {l : List Sh} {k : Nat} {h : Int} (hk : k < l.length) (g : l[k].hd = h) : hasH l h = true := by
  unfold hasH
  rw [List.any_eq_true]
  exact ⟨l[k], List.getElem_mem hk, by simp [g]⟩
/-- Those of the heads 1 to n that have sheets. -/
def hdsN (l : List Sh) (n : Nat) : List Int := (upL n).filter (hasH l)
theorem hdsN_yes {l : List Sh} {n : Nat} (h : hasH l ((n : Int) + 1) = true) : hdsN l (n + 1) = hdsN l n ++ [(n : Int) + 1] := by
  unfold hdsN
  rw [upL_succ, List.filter_append]
  simp [h]
theorem hdsN_no {l : List Sh} {n : Nat} (h : hasH l ((n : Int) + 1) = false) : hdsN l (n + 1) = hdsN l n := by
  unfold hdsN
  rw [upL_succ, List.filter_append]
  simp [h]
theorem hdsN_len (l : List Sh) (n : Nat) : (hdsN l n).length ≤ n := by
  have := List.length_filter_le (hasH l) (upL n)
  rw [upL_len] at this
  exact this
/-- What Heads answers. -/
def hdsB (l : List Sh) : List Int := if shsB l then hdsN l 12 else []
def HdsP (l : List Sh) (w : World) (e : Ending) (w' : World) : Prop := ∃ u, e = .returned u ∧ OwnJ w' w.heap.size u (hdsB l) ∧ Below w.heap.size w w'
end Go.Proofs.Ytjfakhfkbnnbcaa
