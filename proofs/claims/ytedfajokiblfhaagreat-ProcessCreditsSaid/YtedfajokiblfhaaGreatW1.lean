/- Texts of this seat, one behind the other. -/
import Derived.Test.YtedfajokiblfhaaGreatC5
import Derived.Test.YtedfajokiblfhaaGreatE3
import Derived.Test.YtedfajokiblfhaaGreatA1
import Derived.Deep.QuietTactic
/- Plain facts: where a can conducts one way all along, more ticks at a bath that is no colder than the cooling never lose. -/
namespace Go.Proofs.YtedfajokiblfhaaGreat
open Go.RowKit

/-- Two dishes that conduct the same way all along, one nowhere hotter and with no more than the other. -/
structure LeQ (c : Cn) (d e : Dish) : Prop where
  w1 : Warm c d.1
  w2 : Warm c e.1
  br : e.1.2 = d.1.2
  way : c.K = 0 ∨ d.1.2 = true
  l1 : d.2.length = c.P
  l2 : e.2.length = c.P
  t : leL d.1.1 e.1.1
  s : leN d.2 e.2
theorem tickS_way {c : Cn} {x : Bd} {b : Int} (h : c.K = 0 ∨ x.2 = true) : tickS c x b = (tickT c.R c.L (c.a x.2) (c.b x.2) x.1 b, x.2) := by
  unfold tickS brk
  rcases h with h | h <;> simp [h]
theorem LeQ.tick {c : Cn} {f : Int → Nat} {d e : Dish} {b b' : Int} (hc : c.Ok) (hf : ∀ t u : Int, t ≤ u → f t ≤ f u) (h : LeQ c d e) (hb : okT b = true) (hb' : okT b' = true) (hle : b ≤ b') : LeQ c (dishT c f d b) (dishT c f e b') := by
  obtain ⟨a1, a2, a3⟩ := hc.ra d.1.2
  have hb : -50000 ≤ b ∧ b ≤ 200000 := by simpa [okT] using hb
  have hb' : -50000 ≤ b' ∧ b' ≤ 200000 := by simpa [okT] using hb'
  have hw1 := h.w1.tick hc hb.1 hb.2
  have hw2 := h.w2.tick hc hb'.1 hb'.2
  have hts := tickT_le a1 a2 a3 h.w1.len h.w2.len h.t hle
  have q1 := tickS_way (b := b) h.way
  have q2 := tickS_way (c := c) (x := e.1) (b := b') (by rw [h.br]; exact h.way)
  rw [h.br] at q2
  unfold dishT
  have e1 := hw1.len
  have e2 := hw2.len
  rw [q1] at hw1 e1
  rw [q2] at hw2 e2
  rw [q1, q2]
  simp only at e1 e2
  have hP : c.P = c.R * c.L := rfl
  exact ⟨hw1, hw2, rfl, h.way, by show (addD f d.2 _).length = _; rw [addD_len (by rw [h.l1, e1, hP])]; exact h.l1, by show (addD f e.2 _).length = _; rw [addD_len (by rw [h.l2, e2, hP])]; exact h.l2, hts, addD_le hf (by rw [h.l1, e1, hP]) (by rw [h.l2, e2, hP]) h.s hts (by rw [e1, e2])⟩
theorem LeQ.run {c : Cn} {f : Int → Nat} (hc : c.Ok) (hf : ∀ t u : Int, t ≤ u → f t ≤ f u) : ∀ (l m : List Int) (d e : Dish), l.length = m.length → leL l m → okL l = true → okL m = true → LeQ c d e → LeQ c (dishR c f d l) (dishR c f e m)
  | [], [], _, _, _, _, _, _, h => h
  | [], _ :: _, _, _, hl, _, _, _, _ => by simp at hl
  | _ :: _, [], _, _, hl, _, _, _, _ => by simp at hl
  | b :: l, b' :: m, d, e, hl, hle, ho, ho', h => by
    unfold okL at ho ho'
    rw [List.all_cons, Bool.and_eq_true] at ho ho'
    exact LeQ.run hc hf l m (dishT c f d b) (dishT c f e b') (by simpa using hl) (fun i a c => hle (i + 1) (by simpa using a) (by simpa using c)) ho.2 ho'.2 (h.tick hc hf ho.1 ho'.1 (hle 0 (by simp) (by simp)))
theorem LeQ.low {c : Cn} {d e : Dish} (hc : c.Ok) (h : LeQ c d e) : minA (ivN d.2) ≤ minA (ivN e.2) :=
  lowD_le (by rw [h.l1]; exact hc.p.1) (by rw [h.l1, h.l2]) h.s
theorem Good.warm {c : Cn} {d : Dish} (h : Good c d) : Warm c d.1 := by
  obtain ⟨h1, _, h3⟩ := bodyV_iff.1 h.body
  exact ⟨h1, okL_bd h3⟩
theorem leq_refl {c : Cn} {d : Dish} (hG : Good c d) (hw : c.K = 0 ∨ d.1.2 = true) : LeQ c d d :=
  ⟨hG.warm, hG.warm, rfl, hw, hG.len, hG.len, fun _ _ _ => Int.le_refl _, fun _ _ _ => Nat.le_refl _⟩
theorem way_run {c : Cn} {f : Int → Nat} : ∀ (l : List Int) (d : Dish), (c.K = 0 ∨ d.1.2 = true) → (c.K = 0 ∨ (dishR c f d l).1.2 = true)
  | [], _, h => h
  | b :: l, d, h => way_run l (dishT c f d b) (by
    show c.K = 0 ∨ (tickS c d.1 b).2 = true
    rw [tickS_way h]
    exact h)
theorem dishR_cons (c : Cn) (f : Int → Nat) (d : Dish) (b : Int) (l : List Int) : dishR c f d (b :: l) = dishR c f (dishT c f d b) l := rfl
/-- One tick more at the bath never loses. -/
theorem tstC_succ {c : Cn} {f : Int → Nat} {D : Dish} {need bath cold : Int} {cooling n : Nat} (hc : c.Ok) (hf : ∀ t u : Int, t ≤ u → f t ≤ f u) (hG : Good c D) (hb : okT bath = true) (hk : okT cold = true) (hr : risB c D bath cold = true) (h : tstC c f D need bath cold cooling n = true) : tstC c f D need bath cold cooling (n + 1) = true := by
  unfold risB at hr
  rw [Bool.and_eq_true, Bool.or_eq_true, decide_eq_true_eq, decide_eq_true_eq] at hr
  unfold tstC at *
  rw [afN_succ]
  have hX : Good c (afN c f D bath n) := afN_good n hc hG hb
  have hw : c.K = 0 ∨ (afN c f D bath n).1.2 = true := way_run _ _ hr.1
  generalize afN c f D bath n = X at *
  match cooling with
  | 0 =>
    rw [afN_zero] at h ⊢
    exact enD_tick hc hX hb h
  | m + 1 =>
    have hle : leL (cold :: List.replicate m cold) (bath :: List.replicate m cold) := fun i a d => by
      cases i with
      | zero => exact hr.2
      | succ i => exact Int.le_refl _
    have hq := LeQ.run hc hf (cold :: List.replicate m cold) (bath :: List.replicate m cold) X X (by simp) hle (by simp [okL, hk]) (by simp [okL, hk, hb]) (leq_refl hX hw)
    have h2 : enD need (afN c f (dishT c f X bath) cold m) = true := by
      unfold enD at *
      rw [decide_eq_true_eq] at *
      exact Int.le_trans h (hq.low hc)
    exact enD_run hc (hX.tick hc hb) hk (Nat.le_succ m) h2
theorem tstC_mono {c : Cn} {f : Int → Nat} {D : Dish} {need bath cold : Int} {cooling : Nat} (hc : c.Ok) (hf : ∀ t u : Int, t ≤ u → f t ≤ f u) (hG : Good c D) (hb : okT bath = true) (hk : okT cold = true) (hr : risB c D bath cold = true) {j n : Nat} (hjn : j ≤ n) (h : tstC c f D need bath cold cooling j = true) : tstC c f D need bath cold cooling n = true := by
  induction n with
  | zero => obtain rfl : j = 0 := by omega
            exact h
  | succ n ih =>
    rcases Nat.lt_or_ge j (n + 1) with h1 | h1
    · exact tstC_succ hc hf hG hb hk hr (ih (by omega))
    · obtain rfl : j = n + 1 := by omega
      exact h
end Go.Proofs.YtedfajokiblfhaaGreat

/- A region that draws its order, whose operations only read, and whose callees read and may make memory of their own: one walk, in the order of the text. No seat's names. -/
namespace Go.Proofs.YtedfajokiblfhaaGreat
open Go.RowKit

/-- A world in which all that lay in w lies as it was. -/
structure LowBy (w : World) where
  W : World
  low : Below w.heap.size w W
instance (w : World) : Inhabited (LowBy w) := ⟨⟨w, Below.refl _ _⟩⟩
section
variable {P : Program}
theorem wp_region_quiet_low {id : Nat} {Q : Exit → Act → World → Prop} {a : Act} {w : World} {l : List Oper} (hm : P.follows .mixedOrders = true) (hB : Region.lexB .any l.toArray = true)
    (h : wpQuiet P l.toArray (fun w' => ∃ p : LowBy w, w' = p.W) (fun a' => ∀ w', (∃ p : LowBy w, w' = p.W) → Q .normal a' w') l a) : (Code.region id l.toArray true).wp P Q a w :=
  wp_region_quiet (C := fun w' => ∃ p : LowBy w, w' = p.W) hm hB ⟨⟨w.drew, (Below.refl _ _).drew⟩, rfl⟩ (by simpa using h)
/-- The list of what is left behind a letter: else what is behind a guard that is not wanted is opened again and again. -/
theorem wp_region_low {id : Nat} {Q : Exit → Act → World → Prop} {a : Act} {w : World} {l : List Oper} (hm : P.follows .mixedOrders = true) (hB : Region.lexB .any l.toArray = true)
    (h : ∀ R, Hid (R = l) → wpQuiet P l.toArray (fun w' => ∃ p : LowBy w, w' = p.W) (fun a' => ∀ w', (∃ p : LowBy w, w' = p.W) → Q .normal a' w') R a) : (Code.region id l.toArray true).wp P Q a w :=
  wp_region_quiet_low hm hB (h l rfl)
theorem low_step {ops : Array Oper} {C : World → Prop} {Q : Act → Prop} {a : Act} {o : Oper} {R rest : List Oper} (hR : Hid (R = o :: rest))
    (h : ∀ R' : List Oper, Hid (R' = rest) → ∀ K : Act → Prop, (∀ a, wpQuiet P ops C Q R' a → K a) → if Region.wanted o (yielded ops a.tmps) then o.quiet P a C K else K (a.put o.dst undef)) : wpQuiet P ops C Q R a := by
  rw [hR.out]
  exact wpQuiet_step (h rest rfl)
theorem low_nil {ops : Array Oper} {C : World → Prop} {Q : Act → Prop} {a : Act} {R : List Oper} (hR : Hid (R = [])) (h : Q a) : wpQuiet P ops C Q R a := by
  rw [hR.out]
  exact wpQuiet_nil h
theorem low_of {f : FuncId} {args : Array Value} {w : World} {p : LowBy w} {v : Value}
    (h : Calls P f args p.W fun e w' => e = .returned v ∧ Below p.W.heap.size p.W w') : Calls P f args p.W fun e w'' => e = .returned v ∧ ∃ q : LowBy w, w'' = q.W :=
  h.mono fun _ w' ⟨he, hb⟩ => ⟨he, ⟨w', bstep p.low p.low.size hb⟩, rfl⟩
theorem low_of_same {f : FuncId} {args : Array Value} {w : World} {p : LowBy w} {v : Value}
    (h : Calls P f args p.W fun e w' => e = .returned v ∧ p.W = w') : Calls P f args p.W fun e w'' => e = .returned v ∧ ∃ q : LowBy w, w'' = q.W :=
  h.mono fun _ _ ⟨he, hb⟩ => ⟨he, p, hb.symm⟩
theorem low_cell {w : World} {b i : Nat} {v : Value} (h : w.cell? ⟨b, i, none⟩ = some v) (p : LowBy w) : p.W.cell? ⟨b, i, none⟩ = some v := keep_cell p.low h
end
end Go.Proofs.YtedfajokiblfhaaGreat
