/- Texts of this seat, one behind the other. -/
import Derived.Test.YtikjgbfbbkmmcaaGt
import Derived.Deep.QuietTactic
import Derived.Test.YtikjgbfbbkmmcaaQvr
import Derived.Test.YtikjgbfbbkmmcaaLc
/- A region that draws its order, whose operations only read, and whose callees read and may make memory of their own: one walk, in the order of the text. No seat's names. -/
namespace Go.Proofs.Ytikjgbfbbkmmcaa
open Go.RowKit

/-- A world in which all that lay in w lies as it was. -/
structure LowBy (w : World) where
  W : World
  low : Below w.heap.size w W
instance (w : World) : Inhabited (LowBy w) := ⟨⟨w, Below.refl _ _⟩⟩
section
variable {P : Program}
theorem wp_region_quiet_low {id : Nat} {Q : Exit → Act → World → Prop} {a : Act} {w : World} {l : List Oper} (hm : P.follows .mixedOrders = true) (hB : Region.lexB .any l.toArray = true)
    (h : wpQuiet P l.toArray (fun w' => ∃ p : LowBy w, w' = p.W) (fun a' => ∀ w', (∃ p : LowBy w, w' = p.W) → Q .normal a' w') l a) : (Code.region id l.toArray true).wp P Q a w :=
  wp_region_quiet (C := fun w' => ∃ p : LowBy w, w' = p.W) hm hB ⟨⟨w.drew, (Below.refl _ _).drew⟩, rfl⟩ (by simpa using h)
/-- The list of what is left behind a letter: else what is behind a guard that is not wanted is opened again and again. -/
theorem wp_region_low {id : Nat} {Q : Exit → Act → World → Prop} {a : Act} {w : World} {l : List Oper} (hm : P.follows .mixedOrders = true) (hB : Region.lexB .any l.toArray = true)
    (h : ∀ R, Hid (R = l) → wpQuiet P l.toArray (fun w' => ∃ p : LowBy w, w' = p.W) (fun a' => ∀ w', (∃ p : LowBy w, w' = p.W) → Q .normal a' w') R a) : (Code.region id l.toArray true).wp P Q a w :=
  wp_region_quiet_low hm hB (h l rfl)
theorem low_step {ops : Array Oper} {C : World → Prop} {Q : Act → Prop} {a : Act} {o : Oper} {R rest : List Oper} (hR : Hid (R = o :: rest))
    (h : ∀ R' : List Oper, Hid (R' = rest) → ∀ K : Act → Prop, (∀ a, wpQuiet P ops C Q R' a → K a) → if Region.wanted o (yielded ops a.tmps) then o.quiet P a C K else K (a.put o.dst undef)) : wpQuiet P ops C Q R a := by
  rw [hR.out]
  exact wpQuiet_step (h rest rfl)
theorem low_nil {ops : Array Oper} {C : World → Prop} {Q : Act → Prop} {a : Act} {R : List Oper} (hR : Hid (R = [])) (h : Q a) : wpQuiet P ops C Q R a := by
  rw [hR.out]
  exact wpQuiet_nil h
theorem low_of {f : FuncId} {args : Array Value} {w : World} {p : LowBy w} {v : Value}
    (h : Calls P f args p.W fun e w' => e = .returned v ∧ Below p.W.heap.size p.W w') : Calls P f args p.W fun e w'' => e = .returned v ∧ ∃ q : LowBy w, w'' = q.W :=
  h.mono fun _ w' ⟨he, hb⟩ => ⟨he, ⟨w', bstep p.low p.low.size hb⟩, rfl⟩
theorem low_of_same {f : FuncId} {args : Array Value} {w : World} {p : LowBy w} {v : Value}
    (h : Calls P f args p.W fun e w' => e = .returned v ∧ p.W = w') : Calls P f args p.W fun e w'' => e = .returned v ∧ ∃ q : LowBy w, w'' = q.W :=
  h.mono fun _ _ ⟨he, hb⟩ => ⟨he, p, hb.symm⟩
theorem low_cell {w : World} {b i : Nat} {v : Value} (h : w.cell? ⟨b, i, none⟩ = some v) (p : LowBy w) : p.W.cell? ⟨b, i, none⟩ = some v := keep_cell p.low h
end
end Go.Proofs.Ytikjgbfbbkmmcaa

/- Walks of the reference's within, before: contracts; its list of baskets in plain words. -/
namespace Go.Proofs.Ytikjgbfbbkmmcaa
open Go.RowKit

theorem xwithin_q (a b c : Int) (q : Bool) (h : inQ a b c = q) (w : World) : Calls Try.prog 44 #[.int .i64 a, .int .i64 b, .int .i64 c] w fun e w' => e = .returned (.bool q) ∧ w = w' := by
  rw [← h]
  unfold inQ
  by_cases h : b ≤ a
  · have hd : decide (b ≤ a) = true := by simpa using h
    go_enter Try.func44, Try.ntmps44
    go_wp2
    go_ret
    exact ⟨ret_bool (by simp [h]), rfl⟩
  · have hd : decide (b ≤ a) = false := by simpa using h
    go_enter Try.func44, Try.ntmps44
    go_wp2
    go_ret
    exact ⟨ret_bool (by simp), rfl⟩
theorem xname_q (s : ByteArray) (q : Bool) (h : Lt.nameB s.data.toList = q) (hs : s.size ≤ maxLen) (w : World) : Calls Try.prog 45 #[.string s] w fun e w' => e = .returned (.bool q) ∧ w = w' := by
  rw [← h]
  exact Lt.rname_any s w hs
set_option maxRecDepth 20000 in
set_option maxHeartbeats 4000000 in
theorem xbefore_any (x y : Bsk) (w : World) : Calls Try.prog 39 #[bskV x, bskV y] w fun e w' => e = .returned (.bool (befK x y)) ∧ Below w.heap.size w w' := by
  obtain ⟨pn, pc, pp, pk⟩ := x
  obtain ⟨qn, qc, qp, qk⟩ := y
  dsimp only [bskV]
  have HB := hid (((Below.refl w.heap.size w).alloc (Nat.le_refl _) (.cells #[.int .i64 pn, .int .i64 pc, .string pp, .int .i64 pk] 55)).alloc (by simp) (.cells #[.int .i64 qn, .int .i64 qc, .string qp, .int .i64 qk] 55))
  have HE := hid (show befK ⟨pn, pc, pp, pk⟩ ⟨qn, qc, qp, qk⟩ = (decide (pc < qc) || (decide (pc = qc) && decide (pn < qn))) from rfl)
  rcases Int.lt_trichotomy pc qc with h | h | h
  · have h1 : decide (pc < qc) = true := decide_eq_true h
    have HR := hid (show befK ⟨pn, pc, pp, pk⟩ ⟨qn, qc, qp, qk⟩ = true by rw [HE.out, h1]; rfl)
    clear HE
    go_enter Try.func39, Try.ntmps39
    go_wp2
    go_ret
    exact ⟨ret_bool HR.out.symm, HB.out⟩
  · subst h
    have HR := hid (show befK ⟨pn, pc, pp, pk⟩ ⟨qn, pc, qp, qk⟩ = decide (pn < qn) by rw [HE.out]; simp)
    have h1 : ¬ pc < pc := by omega
    clear HE
    go_enter Try.func39, Try.ntmps39
    go_wp2
    go_ret
    exact ⟨ret_bool HR.out.symm, HB.out⟩
  · have h1 : ¬ pc < qc := by omega
    have h2 : ¬ pc = qc := by omega
    have h3 : (pc == qc) = false := by simpa using h2
    have HR := hid (show befK ⟨pn, pc, pp, pk⟩ ⟨qn, qc, qp, qk⟩ = false by rw [HE.out, decide_eq_false h1, decide_eq_false h2]; rfl)
    clear HE
    go_enter Try.func39, Try.ntmps39
    go_wp2
    go_ret
    exact ⟨ret_bool HR.out.symm, HB.out⟩
/-- What the reference asks of the k-th basket: itself, and that it stands behind the one before it. -/
def stpQ (l : List Bsk) (k : Nat) : Bool := match k with
  | 0 => oneQ (l.getD 0 default)
  | j + 1 => oneQ (l.getD (j + 1) default) && befK (l.getD j default) (l.getD (j + 1) default)
/-- All of the first k are so, and have different numbers. -/
def PreQ (l : List Bsk) (k : Nat) : Prop := (∀ j, j < k → stpQ l j = true) ∧ (l.take k).Pairwise fun x y => x.nu ≠ y.nu
theorem getD_at {l : List Bsk} {k : Nat} (h : k < l.length) : l.getD k default = l[k] := by simp [List.getD, h]
theorem bskQ_pre {l : List Bsk} (h : bskQ l = true) : PreQ l l.length := by
  obtain ⟨_, h1, h2, h3⟩ := bskQ_iff.1 h
  refine ⟨fun j hj => ?_, by rw [List.take_length]; exact h2⟩
  unfold stpQ
  cases j with
  | zero => rw [getD_at hj]; exact h1 _ (List.getElem_mem hj)
  | succ j =>
    dsimp only
    rw [getD_at hj, getD_at (show j < l.length by omega), h1 _ (List.getElem_mem hj), List.pairwise_iff_getElem.1 h3 j (j + 1) (by omega) hj (by omega)]
    rfl
theorem pre_bskQ {l : List Bsk} (h : PreQ l l.length) : bskQ l = decide (l.length ≤ 500) := by
  obtain ⟨h1, h2⟩ := h
  rw [List.take_length] at h2
  have ho : ∀ x ∈ l, oneQ x = true := fun x hx => by
    obtain ⟨k, hk, rfl⟩ := List.getElem_of_mem hx
    have := h1 k hk
    unfold stpQ at this
    cases k with
    | zero => rw [getD_at hk] at this; exact this
    | succ k => dsimp only at this; rw [getD_at hk, Bool.and_eq_true] at this; exact this.1
  have ha : l.Pairwise fun x y => befK x y = true := asc_of_steps fun i hi => by
    have := h1 (i + 1) hi
    unfold stpQ at this
    dsimp only at this
    rw [getD_at hi, getD_at (show i < l.length by omega), Bool.and_eq_true] at this
    exact this.2
  unfold bskQ dstQ ascQ
  rw [decide_eq_true h2, decide_eq_true ha, List.all_eq_true.2 ho]
  simp
theorem bskQ_bad {l : List Bsk} {k : Nat} (hk : k < l.length) (h : stpQ l k = false) : bskQ l = false := by
  cases hb : bskQ l
  · rfl
  · rw [(bskQ_pre hb).1 k hk] at h; cases h
theorem bskQ_two {l : List Bsk} {i k : Nat} (hik : i < k) (hk : k < l.length) (h : l[i].nu = l[k].nu) : bskQ l = false := by
  cases hb : bskQ l
  · rfl
  · exact absurd h (List.pairwise_iff_getElem.1 (bskQ_iff.1 hb).2.2.1 i k (by omega) hk hik)
theorem pre_next {l : List Bsk} {k : Nat} (hk : k < l.length) (h : PreQ l k) (hs : stpQ l k = true) (hd : ∀ i (hi : i < l.length), i < k → l[i].nu ≠ l[k].nu) : PreQ l (k + 1) := by
  refine ⟨fun j hj => ?_, (dst_step hk).2 ⟨h.2, ?_⟩⟩
  · rcases Nat.lt_succ_iff_lt_or_eq.1 hj with g | rfl
    · exact h.1 j g
    · exact hs
  · rw [List.any_eq_false]
    intro x hx
    obtain ⟨i, hi, rfl⟩ := List.getElem_of_mem hx
    rw [List.length_take] at hi
    rw [List.getElem_take]
    simpa using hd i (by omega) (by omega)
end Go.Proofs.Ytikjgbfbbkmmcaa
