/- A region that draws its order and only reads, in a fenced walk, in a round of a range over a function, too: the plain quiet walk serves. No seat's names. -/
import Derived.Test.YtikjgbfbbkmmcaaGt
import Derived.Deep.QuietTactic
import Derived.BigQuiet
import Derived.OrdersIn
import Derived.OwnWalkIn
namespace Go.Proofs.Ytikjgbfbbkmmcaa
open Go

section
variable {F : Fence} {n : Nat} {P : Program} {ops : Array Oper} {Q : Exit → Act → World → Prop} {md : Region.Mode}
/-- What is asked at the normal exit alone. -/
def onlyN (Q : Exit → Act → World → Prop) : Exit → Act → World → Prop
  | .normal, a, w => Q .normal a w
  | _, _, _ => False
theorem onlyN_out : ¬ LetsOut (onlyN Q) := fun ⟨_, _, h⟩ => h
/-- An operation that reads or reckons. -/
def readB (o : Oper) : Bool := match o.op with
  | .move _ | .assign _ | .load _ _ | .fieldAddr _ _ _ | .indexAddr _ _ _ | .binOp _ _ _ _ _ => true
  | _ => false
theorem read_form {o : Oper} (h : readB o = true) (ρ : Operand → Value) (w : World) : (∃ v w', (execOp ρ o).run P w = .ok (.value v) w') ∨ (∃ x w', (execOp ρ o).run P w = .halt x w') := by
  have key : ∀ s : Sem Value, (∃ v w', (do let x ← s; pure (Next.value x) : Sem Next).run P w = .ok (.value v) w') ∨ (∃ x w', (do let x ← s; pure (Next.value x) : Sem Next).run P w = .halt x w') := fun s => by
    rw [Sem.run_bind]
    cases s.run P w with
    | ok v w' => exact .inl ⟨v, w', by simp [Result.andThen_ok, Sem.run_pure]⟩
    | halt x w' => exact .inr ⟨x, w', rfl⟩
  obtain ⟨dst, op, ty, ps, af, gd⟩ := o
  cases op <;> first | exact absurd h Bool.false_ne_true | exact key _ | exact .inl ⟨_, _, rfl⟩
theorem read_about {o : Oper} (h : readB o = true) {w : World} {ρ : Operand → Value} (f : FuncId) : ¬ o.about P w ρ = some f := by
  obtain ⟨dst, op, ty, ps, af, gd⟩ := o
  cases op <;> first | exact absurd h Bool.false_ne_true | (intro hf; simp [Oper.about] at hf)
theorem read_in {o : Oper} (h : readB o = true) {a : Act} {w : World} {K : Act → World → Prop} (hw : Oper.wp P o a w K (onlyN Q)) : Oper.wpIn F n P o a w K Q := by
  have hd : ∀ c, o.op ≠ .defer c := fun c e => by unfold readB at h; rw [e] at h; cases h
  refine ⟨fun f hf => ?_, ?_⟩
  · exact absurd hf (read_about h f)
  · rw [Oper.semAt_plain F _ _ hd]
    unfold Oper.wp at hw
    rcases read_form (P := P) h a.eval w with ⟨v, w', e⟩ | ⟨x, w', e⟩
    · rw [e] at hw ⊢; exact hw
    · rw [e] at hw ⊢
      cases x <;> first | exact hw.elim | exact hw
theorem anyIn_of_plain (hrd : ∀ (i : Nat) (o : Oper), ops[i]? = some o → readB o = true) : ∀ (fuel : Nat) (listed : Array Bool) (a : Act) (w : World), wpAny P md ops (onlyN Q) fuel listed a w → wpAnyIn F n P md ops Q fuel listed a w
  | 0, _, _, _, h => h
  | fuel + 1, listed, a, w, h => by
    refine ⟨fun h0 => h.1 h0, fun i hi => ?_⟩
    have h2 := h.2 i hi
    unfold wpOp at h2
    unfold wpOpIn
    cases ho : ops[i]? with
    | none => rw [ho] at h2; exact anyIn_of_plain hrd fuel _ a w h2
    | some o =>
      rw [ho] at h2
      dsimp only at h2 ⊢
      have hr := hrd i o ho
      by_cases hw : Region.wanted o (yielded ops a.tmps) = true
      · rw [if_pos hw] at h2 ⊢
        rcases h2 with h2 | ⟨_, h2⟩
        · exact Oper.wpIn_mono (fun a' w' h3 => anyIn_of_plain hrd fuel _ a' w' h3) (read_in hr h2)
        · exact absurd h2 onlyN_out
      · rw [if_neg hw] at h2 ⊢
        refine ⟨fun f hf => ?_, anyIn_of_plain hrd fuel _ _ w h2⟩
        exact absurd hf (read_about hr f)
/-- The law. -/
theorem wpIn_region_reads {id : Nat} {a : Act} {w : World} {l : List Oper} (hm : P.follows .mixedOrders = true) (hB : Region.lexB .any l.toArray = true) (hrd : l.all readB = true)
    (h : wpQuiet P l.toArray (fun w' => ∃ n, w' = w.drewN n) (fun a' => ∀ w', (∃ n, w' = w.drewN n) → Q .normal a' w') l a) : (Code.region id l.toArray true).wpIn F n P Q a w := by
  simp only [Region.lexB, Bool.and_eq_true] at hB
  refine wpIn_region_any hm (anyIn_of_plain (fun i o ho => List.all_eq_true.1 hrd o (List.mem_of_getElem? (i := i) (by rw [← List.getElem?_toArray]; exact ho))) _ _ _ _ (wpAny_of_quiet (C := fun w' => ∃ n, w' = w.drewN n) (Q := fun a' => ∀ w', (∃ n, w' = w.drewN n) → Q .normal a' w') (fun a' w' hw' h => (show onlyN Q .normal a' w' from h w' hw')) _ _ _ _ ⟨1, rfl⟩ ?_))
  have := wpAnyQ_lex (P := P) (C := fun w' => ∃ n, w' = w.drewN n) (md := .any) hB.1 l 0 (Array.replicate l.toArray.size false) a (by simp) (by simpa using hB.2) h
  simpa using this
end
end Go.Proofs.Ytikjgbfbbkmmcaa
