/- Walk of outside: contract. -/
import Derived.Test.YtlhjiikbehmamaaOa
import Derived.Laws.EntriesVeiled
import Derived.Deep.DeepCutAuto
namespace Go.Proofs.Ytlhjiikbehmamaa
open Go.RowKit

def OutB (W : World) (b : Nat) (lo hi : Int) (fv : Value) : Prop := W.cell? ⟨b, 0, none⟩ = some (.int .i64 lo) ∧ W.cell? ⟨b + 1, 0, none⟩ = some (.int .i64 hi) ∧ W.cell? ⟨b + 2, 0, none⟩ = some fv
theorem OutB.keep {W w2 : World} {b : Nat} {lo hi : Int} {fv : Value} (h : OutB W b lo hi fv) (hb : Below W.heap.size W w2) : OutB w2 b lo hi fv := ⟨keep_cell hb h.1, keep_cell hb h.2.1, keep_cell hb h.2.2⟩
def OutP (lo hi : Int) (fv : Value) (w : World) (e : Ending) (w' : World) : Prop := ∃ b, e = .returned (.func (.func 65) #[] #[.pointer (some ⟨b + 2, 0, none⟩), .pointer (some ⟨b, 0, none⟩), .pointer (some ⟨b + 1, 0, none⟩)]) ∧ OutB w' b lo hi fv ∧ Below w.heap.size w w'
theorem out_start (w : World) (lo hi : Int) (fv : Value) (T T' : TypeId) : OutB (((w.alloc (.cells #[.int .i64 lo] T)).alloc (.cells #[.int .i64 hi] T)).alloc (.cells #[fv] T')) w.heap.size lo hi fv ∧ Below w.heap.size w (((w.alloc (.cells #[.int .i64 lo] T)).alloc (.cells #[.int .i64 hi] T)).alloc (.cells #[fv] T')) := by
  have h := box2_start (w := w) (A := #[.int .i64 lo]) (B := #[.int .i64 hi]) (T := T) (T' := T) (fz := (0, 0)) (fz' := (0, 0))
  have h2 := h.keep ((Below.refl _ _).alloc (Nat.le_refl _) (.cells #[fv] T'))
  refine ⟨⟨h2.fst 0, h2.snd 0, ?_⟩, h2.low⟩
  have h3 := cell_alloc_new ((w.alloc (.cells #[.int .i64 lo] T)).alloc (.cells #[.int .i64 hi] T)) #[fv] T' (0, 0) 0
  rw [show ((w.alloc (.cells #[.int .i64 lo] T)).alloc (.cells #[.int .i64 hi] T)).heap.size = w.heap.size + 2 by simp] at h3
  exact h3
set_option maxHeartbeats 1000000 in
theorem outside_any (lo hi : Int) (F : Nat) (w : World) : Calls Try.prog 55 #[.int .i64 lo, .int .i64 hi, .func (.func F) #[] #[]] w (OutP lo hi (.func (.func F) #[] #[]) w) := by
  have HS := hid (out_start w lo hi (.func (.func F) #[] #[]) 3 62)
  go_enter Try.func55, Try.ntmps55
  go_wp2
  go_ret
  exact ⟨_, rfl, HS.out.1, HS.out.2⟩
end Go.Proofs.Ytlhjiikbehmamaa
