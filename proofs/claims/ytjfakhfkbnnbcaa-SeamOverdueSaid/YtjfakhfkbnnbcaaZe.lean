/- Walk of Heads of the code: contract. -/
import Derived.Test.YtjfakhfkbnnbcaaZd
import Derived.Test.YtjfakhfkbnnbcaaBm
import Derived.Maps.OwnSet
import Derived.Maps.Views
namespace Go.Proofs.Ytjfakhfkbnnbcaa
open Go.RowKit Go.Maps

theorem law_intB : Keyed Try.prog 3 := int_keyed Try.underlying3
theorem zero_boolB (w : World) : (zeroValue 4).run Try.prog w = .ok (.bool false) w := by kernel_rfl
theorem key_intB {t : Int} (h1 : -9000000000000000000 ≤ t) (h2 : t ≤ 9000000000000000000) : keyOf Try.prog 3 (.int .i64 t) = some (.int .i64 t) := keyOf_int_mk Try.underlying3 (WalkArith.wf_i64 (by omega))
/-- A map of bools of the call's own. -/
def MapB (w : World) (b n : Nat) (f : Int → Bool) : Prop := ∃ D : DataW Unit, w.ownsMap Try.prog 3 (plainElem Try.prog 4) b n D ∧ ∀ h : Int, D.atKey (.int .i64 h) (.lit (.bool false)) = .lit (.bool (f h))
theorem mapB_new (w : World) : MapB (w.alloc (.map #[] 0)) w.heap.size 0 (fun _ => false) := ⟨.map [], World.ownsMap_made _ _ _ _, fun _ => rfl⟩
theorem MapB.keep {w w' : World} {b n : Nat} {f : Int → Bool} (h : MapB w b n f) (hb : Below w.heap.size w w') : MapB w' b n f := by
  obtain ⟨D, h1, h2⟩ := h
  exact ⟨D, h1.kept (row := none) ⟨hb.os, hb.tape, hb.output, hb.size, fun k hk _ => hb.block k hk⟩ (by simp), h2⟩
theorem MapB.lt {w : World} {b n : Nat} {f : Int → Bool} (h : MapB w b n f) : b < w.heap.size := by
  obtain ⟨D, h1, _⟩ := h
  exact h1.lt
theorem mapB_put {w w' : World} {b n : Nat} {f g : Int → Bool} {D : DataW Unit} {k : Int} {c : Bool} (h0 : w.ownsMap Try.prog 3 (plainElem Try.prog 4) b n D) (h2 : ∀ h : Int, D.atKey (.int .i64 h) (.lit (.bool false)) = .lit (.bool (f h)))
    (h : w'.ownsMap Try.prog 3 (plainElem Try.prog 4) b (n + 1) (D.put (.int .i64 k) (.lit (.bool c)))) (hg : ∀ h, g h = if h = k then c else f h) : MapB w' b (n + 1) g := by
  refine ⟨_, h, fun q => ?_⟩
  rw [hg q]
  by_cases e : q = k
  · subst e
    rw [if_pos rfl]
    exact atKey_put_same h0.isMap (by constructor) _ _
  · rw [if_neg e, atKey_put_other (by intro he; injection he with _ he; exact e he)]
    exact h2 q
theorem mapB_del {w w' : World} {b n : Nat} {f g : Int → Bool} {D : DataW Unit} {k : Int} (h2 : ∀ h : Int, D.atKey (.int .i64 h) (.lit (.bool false)) = .lit (.bool (f h)))
    (h : w'.ownsMap Try.prog 3 (plainElem Try.prog 4) b n (D.del (.int .i64 k))) (hg : ∀ h, g h = if h = k then false else f h) (_ : w.heap.size ≤ w'.heap.size) : MapB w' b n g := by
  refine ⟨_, h, fun q => ?_⟩
  rw [hg q]
  by_cases e : q = k
  · subst e
    rw [if_pos rfl]
    exact atKey_del_same _
  · rw [if_neg e, atKey_del_other (by intro he; injection he with _ he; exact e he)]
    exact h2 q
theorem OwnJ.turn {w w' : World} {base b : Nat} {v : Value} {l : List Int} (h : OwnJ w base v l) (hg : w.grownBy w' (some b)) (hb : b < base) : OwnJ w' base v l := by
  refine ⟨h.1, ?_⟩
  rcases h.2 with h2 | ⟨g, cap, cur, h1, h2, h3, h4⟩
  · exact .inl h2
  · refine .inr ⟨g, cap, cur, h1, h2, (hg.block g (Array.getElem?_eq_some_iff.1 h3).1 (fun e => ?_)).trans h3, h4⟩
    injection e with e
    omega
theorem OwnJ.keep {w w' : World} {base : Nat} {v : Value} {l : List Int} (h : OwnJ w base v l) (hb : Below w.heap.size w w') : OwnJ w' base v l := by
  refine ⟨h.1, ?_⟩
  rcases h.2 with h2 | ⟨g, cap, cur, h1, h2, h3, h4⟩
  · exact .inl h2
  · exact .inr ⟨g, cap, cur, h1, h2, (hb.block g (Array.getElem?_eq_some_iff.1 h3).1).trans h3, h4⟩
/-- The map behind the first k heads, behind the first k sheets. -/
def fillF (k : Nat) (h : Int) : Bool := decide (1 ≤ h) && decide (h ≤ (k : Int))
def leftF (l : List Sh) (k : Nat) (h : Int) : Bool := fillF 12 h && !hasH (l.take k) h
theorem fill_zero (h : Int) : fillF 0 h = false := by
  unfold fillF
  rw [Bool.and_eq_false_iff, decide_eq_false_iff_not, decide_eq_false_iff_not]
  omega
theorem fill_next (k : Nat) (h : Int) : fillF (k + 1) h = if h = (k : Int) + 1 then true else fillF k h := by
  unfold fillF
  by_cases e : h = (k : Int) + 1
  · rw [if_pos e]; simp; omega
  · rw [if_neg e]
    rw [Bool.eq_iff_iff]
    simp
    omega
theorem left_zero (l : List Sh) (h : Int) : leftF l 0 h = fillF 12 h := by simp [leftF, hasH]
theorem left_next {l : List Sh} {k : Nat} (hk : k < l.length) (h : Int) : leftF l (k + 1) h = if h = l[k].hd then false else leftF l k h := by
  unfold leftF
  rw [hasH_take hk]
  by_cases e : h = l[k].hd
  · rw [if_pos e]; simp [e]
  · rw [if_neg e, decide_eq_false (fun g => e g.symm), Bool.or_false]
theorem left_end {l : List Sh} {k : Nat} (hk : k < 12) : leftF l l.length ((k : Int) + 1) = !hasH l ((k : Int) + 1) := by
  unfold leftF fillF
  rw [List.take_length, decide_eq_true (by omega), decide_eq_true (by omega)]; rfl
end Go.Proofs.Ytjfakhfkbnnbcaa
