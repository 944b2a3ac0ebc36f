/- Walks of within, of marks, and of Marks and Baths of both: contracts. -/
import Derived.Test.YtedfajokiblfhaaVt
import Derived.Test.YtedfajokiblfhaaA7
import Derived.Laws.OwnMore
namespace Go.Proofs.Ytedfajokiblfhaa.Rt
open Go.RowKit

set_option maxHeartbeats 400000 in
theorem vwithin_any (a b c : Int) (w : World) :
    Calls Try.prog 96 #[.int .i64 a, .int .i64 b, .int .i64 c] w fun e w' => e = .returned (.bool (inB a b c)) ∧ w = w' := by
  by_cases h : b ≤ a
  · have hd : decide (b ≤ a) = true := by simpa using h
    go_enter Try.func96, Try.ntmps96
    go_wp2
    go_ret
    exact ⟨ret_bool (by unfold inB; rw [hd]; rfl), rfl⟩
  · have hd : decide (b ≤ a) = false := by simpa using h
    go_enter Try.func96, Try.ntmps96
    go_wp2
    go_ret
    exact ⟨ret_bool (by unfold inB; rw [hd]; rfl), rfl⟩
set_option maxHeartbeats 1000000 in
theorem marked_any (a : Option Addr) (n e i cap : Nat) (w : World) (he : 1 ≤ e) (hn : n ≤ maxLen) (hi : i ≤ maxLen) :
    Calls Try.prog 81 #[.slice a n cap, .int .i64 e, .int .i64 i] w fun x w' => x = .returned (.bool (mkB n e i)) ∧ w = w' := by
  unfold maxLen at hn hi
  by_cases h : i % e = 0
  · have hd : ((i : Int) % (e : Int) == 0) = true := by
      have : (i : Int) % (e : Int) = ((i % e : Nat) : Int) := by omega
      rw [this, h]; rfl
    have hm := hid (mkB_mod (n := n) h)
    have he' : 1 ≤ (e : Int) := by omega
    clear h
    go_enter Try.func81, Try.ntmps81
    go_wp2
    go_ret
    exact ⟨ret_bool hm.out.symm, rfl⟩
  · have hd : ((i : Int) % (e : Int) == 0) = false := by
      have : (i : Int) % (e : Int) = ((i % e : Nat) : Int) := by omega
      rw [this]; simp only [beq_eq_false_iff_ne, ne_eq]; omega
    have hm : Hid (((i : Int) == (n : Int) - 1) = mkB n e i) := by
      unfold Hid mkB
      rw [decide_eq_false h, Bool.false_or, Bool.eq_iff_iff]
      simp only [beq_iff_eq, decide_eq_true_iff]
      omega
    have he' : 1 ≤ (e : Int) := by omega
    clear h
    go_enter Try.func81, Try.ntmps81
    go_wp2
    go_ret
    exact ⟨ret_bool hm.out, rfl⟩

/-- The error of marks. -/
def markE (n : Nat) (e : Int) : Int := if 2000 < n then 4 else if inB e 1 2000 then 0 else 7
set_option maxHeartbeats 1000000 in
theorem checkMarks_any (a : Option Addr) (n cap : Nat) (e : Int) (w : World) (hn : n ≤ maxLen) :
    Calls Try.prog 80 #[.slice a n cap, .int .i64 e] w fun x w' => x = .returned (.int .i64 (markE n e)) ∧ w = w' := by
  unfold maxLen at hn
  by_cases h : 2000 < n
  · have hd : decide (2000 < (n : Int)) = true := by simp; omega
    have hr : Hid (markE n e = 4) := by unfold Hid markE; rw [if_pos h]
    go_enter Try.func80, Try.ntmps80
    go_wp2
    go_ret
    exact ⟨ret_int hr.out.symm, rfl⟩
  · have hd : decide (2000 < (n : Int)) = false := by simp; omega
    cases hb : inB e 1 2000
    · have hr : Hid (markE n e = 7) := by unfold Hid markE; rw [if_neg h, hb]; rfl
      go_enter Try.func80, Try.ntmps80
      go_wp2_with (go_at_call 96; refine (vwithin_any _ _ _ _).mono ?_; rintro e w' ⟨rfl, rfl⟩)
      go_ret
      exact ⟨ret_int hr.out.symm, rfl⟩
    · have hr : Hid (markE n e = 0) := by unfold Hid markE; rw [if_neg h, hb]; rfl
      go_enter Try.func80, Try.ntmps80
      go_wp2_with (go_at_call 96; refine (vwithin_any _ _ _ _).mono ?_; rintro e w' ⟨rfl, rfl⟩)
      go_ret
      exact ⟨ret_int hr.out.symm, rfl⟩

/-- A row of ints of the call's own. -/
def OwnL (w : World) (base : Nat) (v : Value) (l : List Int) : Prop := w.ownsRow base 3 1 v l.length (ivs l)
theorem ownL_app {w : World} {base : Nat} {v : Value} {l : List Int} {x : Int} (h : w.ownsRow base 3 1 v (l.length + 1) (ivs l ++ [.int .i64 x])) : OwnL w base v (l ++ [x]) := by
  unfold OwnL
  rw [List.length_append, show ivs (l ++ [x]) = ivs l ++ [.int .i64 x] by simp [ivs]]
  exact h
theorem infoI : (Try.prog.info? 3).map (fun i => (i.zero, i.size, i.bytes)) = some (some (.int .i64 0), 1, 8) := by kernel_rfl
theorem below_app {W wr w1 : World} {base : Nat} {v : Value} {l : List Int} {o o' : Obj} (hW : Below W.heap.size W wr) (h : OwnL wr base v l) (hb : W.heap.size ≤ base) (hg : ((wr.alloc o).alloc o').grownBy w1 v.ownBlock) : Below W.heap.size W w1 :=
  ((hW.alloc hW.size _).alloc (by have := hW.size; simp; omega) _).grown hg (by have := hW.size; simp; omega) (fun k hk => by have := (World.ownsRow.lt h k hk).1; omega)
theorem below_app1 {W wr w1 : World} {base : Nat} {v : Value} {l : List Int} {o : Obj} (hW : Below W.heap.size W wr) (h : OwnL wr base v l) (hb : W.heap.size ≤ base) (hg : (wr.alloc o).grownBy w1 v.ownBlock) : Below W.heap.size W w1 :=
  (hW.alloc hW.size _).grown hg (by have := hW.size; simp; omega) (fun k hk => by have := (World.ownsRow.lt h k hk).1; omega)
theorem OwnL.rowI {w : World} {base : Nat} {v : Value} {l : List Int} (h : OwnL w base v l) (hl : l.length ≤ 1000000) : RowI w v l := own_rowI h hl
/-- A list of ints and an error come back. -/
def LstP (l : List Int) (n : Int) (w : World) (e : Ending) (w' : World) : Prop := ∃ v, e = .returned (.tuple #[v, .int .i64 n]) ∧ RowI w' v l ∧ Below w.heap.size w w'
theorem rowI_nil (w : World) : RowI w (.slice none 0 0) [] := .inl ⟨_, _, rfl, rfl⟩
theorem cell_one_new {w : World} {u : Value} {T : TypeId} {m : Nat} (hm : w.heap.size = m) : ∀ j x, [u][j]? = some x → (w.alloc (.cells #[u] T)).cell? ((⟨m, 0, none⟩ : Addr).add j) = some x := by
  subst hm
  intro j x h
  cases j with
  | zero => simp at h; subst h; simp [Addr.add]
  | succ j => simp at h
theorem one_cell1 {x : Int} : ∀ u ∈ [Value.int .i64 x], u.oneCell' = true := by intro u hu; simp at hu; subst hu; rfl

end Go.Proofs.Ytedfajokiblfhaa.Rt
