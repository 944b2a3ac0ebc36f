/- Texts of this seat, one behind the other. -/
import Derived.Test.YtihbjimnjhfpeaaG28
import Derived.Test.YtihbjimnjhfpeaaG27
import Derived.Test.YtihbjimnjhfpeaaG04
import Derived.Test.YtihbjimnjhfpeaaG25
import Derived.Test.YtihbjimnjhfpeaaRows
import Derived.Deep.RegionHeld
/- Walks of Table of both where there is none: contracts. -/
namespace Go.Proofs.Ytihbjimnjhfpeaa.Lt
open Go.RowKit Go.Lib

def tabB (lo hi : Int) : Bool := decide (-1000 ≤ lo) && decide (lo ≤ 2000) && (decide (lo ≤ hi) && decide (hi ≤ 2000)) && decide (hi - lo ≤ 1000)
def tabE (v : Bool) : Int := if v then 7 else 1

set_option maxHeartbeats 4000000 in
theorem lTable_no (s : ByteArray) (r z d g : Int) (w : World) (hs : s.size ≤ maxLen) (lo hi : Int) (h : (validB s.data.toList r z d g && tabB lo hi) = false) :
    Calls Try.prog 41 #[.agg #[.string s, .int .i64 r, .int .i64 z, .int .i64 d, .int .i64 g], .int .i64 lo, .int .i64 hi] w fun e w' => e = .returned (.tuple #[.slice none 0 0, .int .i64 (tabE (validB s.data.toList r z d g))]) ∧ Below w.heap.size w w' := by
  cases hv : validB s.data.toList r z d g
  · go_enter Try.func41, Try.ntmps41
    go_wp2_with (first | (go_at_call 37; refine (lvalid_any _ _ _ _ _ _ hs).mono ?_; rintro e w1 ⟨rfl, hb⟩; obtain ⟨b0, b1, b2, b3, b4, hz, hB⟩ := box5_below hb; clear hb) | (go_at_call 53; refine (within_any _ _ _ _).mono ?_; rintro e w1 ⟨rfl, rfl⟩))
    go_ret2
    exact ⟨rfl, hB⟩
  rw [hv, Bool.true_and] at h
  cases h1 : (decide (-1000 ≤ lo) && decide (lo ≤ 2000))
  · go_enter Try.func41, Try.ntmps41
    go_wp2_with (first | (go_at_call 37; refine (lvalid_any _ _ _ _ _ _ hs).mono ?_; rintro e w1 ⟨rfl, hb⟩; obtain ⟨b0, b1, b2, b3, b4, hz, hB⟩ := box5_below hb; clear hb) | (go_at_call 53; refine (within_any _ _ _ _).mono ?_; rintro e w1 ⟨rfl, rfl⟩))
    go_ret2
    exact ⟨rfl, hB⟩
  cases h2 : (decide (lo ≤ hi) && decide (hi ≤ 2000))
  · go_enter Try.func41, Try.ntmps41
    go_wp2_with (first | (go_at_call 37; refine (lvalid_any _ _ _ _ _ _ hs).mono ?_; rintro e w1 ⟨rfl, hb⟩; obtain ⟨b0, b1, b2, b3, b4, hz, hB⟩ := box5_below hb; clear hb) | (go_at_call 53; refine (within_any _ _ _ _).mono ?_; rintro e w1 ⟨rfl, rfl⟩))
    go_ret2
    exact ⟨rfl, hB⟩
  have h3 : ¬ hi - lo ≤ 1000 := by
    unfold tabB at h; rw [h1, h2] at h; simpa using h
  have l1 : -1000 ≤ lo ∧ lo ≤ 2000 := by simpa using h1
  have l2 : lo ≤ hi ∧ hi ≤ 2000 := by simpa using h2
  obtain ⟨l1, l3⟩ := l1
  obtain ⟨l2, l4⟩ := l2
  go_enter Try.func41, Try.ntmps41
  go_wp2_with (first | (go_at_call 37; refine (lvalid_any _ _ _ _ _ _ hs).mono ?_; rintro e w1 ⟨rfl, hb⟩; obtain ⟨b0, b1, b2, b3, b4, hz, hB⟩ := box5_below hb; clear hb) | (go_at_call 53; refine (within_any _ _ _ _).mono ?_; rintro e w1 ⟨rfl, rfl⟩))
  go_ret2
  exact ⟨rfl, hB⟩


theorem RowR.shape {w : World} {v : Value} {l : List Nat} (h : RowR w v l) (hl : l ≠ []) : ∃ g cap, v = .slice (some ⟨g, 0, none⟩) l.length cap ∧ ∀ k (h : k < l.length), w.cell? ⟨g, k, none⟩ = some (.int .i64 (l[k] : Nat)) := by
  rcases h with ⟨_, h⟩ | h
  · exact absurd h hl
  · exact h
end Go.Proofs.Ytihbjimnjhfpeaa.Lt

/- Walks of a meter's rate function and of meterDown: contracts. -/
namespace Go.Proofs.Ytihbjimnjhfpeaa
open Go.RowKit Go.Lib Go.Maps

/-- The map of a meter, as it reads: f of lo, lo + 1, .. -/
def MapT (f : Int → Nat) (lo : Int) (n : Nat) (w : World) (b : Nat) : Prop :=
  ∃ D : DataW Unit, w.ownsMap Try.prog 3 (plainElem Try.prog 3) b n D ∧ IsMap D ∧ ∀ j, j < n → D.atKey (.int .i64 (lo + (j : Nat))) (.lit (.int .i64 0)) = .lit (.int .i64 (f (lo + (j : Nat)) : Nat))
theorem MapT.kept {f : Int → Nat} {lo : Int} {n b : Nat} {w w' : World} {row : Option Nat} (h : MapT f lo n w b) (hg : w.grownBy w' row) (hne : some b ≠ row) : MapT f lo n w' b := by
  obtain ⟨D, h1, h2⟩ := h
  exact ⟨D, h1.kept hg hne, h2⟩
theorem MapT.lt {f : Int → Nat} {lo : Int} {n b : Nat} {w : World} (h : MapT f lo n w b) : b < w.heap.size := by
  obtain ⟨D, h1, _⟩ := h
  exact h1.lt
theorem MapT.isMap {f : Int → Nat} {lo : Int} {n b : Nat} {w : World} (h : MapT f lo n w b) : ∃ o : Obj, w.heap[b]? = some o ∧ o.isCells = false := by
  obtain ⟨D, ⟨es, clock, h1, _⟩, _⟩ := h
  exact ⟨_, h1, rfl⟩
theorem mapT_made (f : Int → Nat) (lo : Int) (w : World) : MapT f lo 0 (w.alloc (.map #[] 0)) w.heap.size :=
  ⟨.map [], World.ownsMap_made _ _ _ _, isMap_empty, fun _ h => absurd h (Nat.not_lt_zero _)⟩
theorem mapT_put {f : Int → Nat} {lo : Int} {n b : Nat} {w : World} {D : DataW Unit} (hD : IsMap D) (hj : ∀ j, j < n → D.atKey (.int .i64 (lo + (j : Nat))) (.lit (.int .i64 0)) = .lit (.int .i64 (f (lo + (j : Nat)) : Nat)))
    (h : w.ownsMap Try.prog 3 (plainElem Try.prog 3) b (n + 1) (D.put (.int .i64 (lo + (n : Nat))) (.lit (.int .i64 (f (lo + (n : Nat)) : Nat))))) : MapT f lo (n + 1) w b := by
  refine ⟨_, h, hD.put _ _, fun j hlt => ?_⟩
  by_cases e : j = n
  · subst e
    exact atKey_put_same hD (by constructor) _ _
  · have hne : (Lit.int .i64 (lo + (j : Nat))) ≠ .int .i64 (lo + (n : Nat)) := by
      intro he; injection he with _ he; omega
    rw [atKey_put_other hne]
    exact hj j (by omega)
/-- The look-up of a quarter that the map has. -/
theorem MapT.run {f : Int → Nat} {lo q : Int} {n b : Nat} {w : World} (h : MapT f lo n w b) (h1 : lo ≤ q) (h2 : q < lo + n) (b1 : -1000000 ≤ q) (b2 : q ≤ 1000000) :
    (Instr.lookup 74 (.map (some b)) (.int .i64 q) false).run Try.prog w = .ok (.int .i64 (f q : Nat)) w := by
  obtain ⟨D, h3, _, h4⟩ := h
  obtain ⟨c, hrun, hat, _⟩ := h3.lookup_int Lt.law_int Try.underlying74 Try.underlying3 (Lt.zero_int _) (Lt.key_int (t := q) (by omega) (by omega))
  have h5 := h4 (q - lo).toNat (by omega)
  have e : lo + ((q - lo).toNat : Nat) = q := by omega
  rw [e] at h5
  rw [h5] at hat
  have : c = (f q : Nat) := by simpa using hat.symm
  rw [hrun, this]

set_option maxRecDepth 20000 in
set_option maxHeartbeats 2000000 in
theorem rate1_any (f : Int → Nat) (lo t : Int) (n kb mb : Nat) (w : World) (hk : w.cell? ⟨kb, 0, none⟩ = some (.map (some mb))) (hm : MapT f lo n w mb) (h1 : lo ≤ t / 250) (h2 : t / 250 < lo + n) (b1 : -50000 ≤ t) (b2 : t ≤ 200000) :
    Calls Try.prog 43 #[.int .i64 t, .pointer (some ⟨kb, 0, none⟩)] w fun e w' => e = .returned (.int .i64 (f (t / 250) : Nat)) ∧ ∃ n, w' = w.drewN n := by
  have hr := hm.run h1 h2 (by omega) (by omega)
  have hr' : (Instr.lookup 74 (.map (some mb)) (.int .i64 (t / 250)) false).run Try.prog w.drew = .ok (.int .i64 (f (t / 250) : Nat)) w.drew := MapT.run (w := w.drew) hm h1 h2 (by omega) (by omega)
  clear hm hr h1 h2
  obtain ⟨qq, hqq⟩ : ∃ q : Int, q = t / 250 := ⟨_, rfl⟩
  rw [← hqq] at hr' ⊢
  have HQ := hid hqq
  clear hqq
  go_enter Try.func43, Try.ntmps43
  go_wp2
  go_region_held3 (fun w' => w'.cell? ⟨kb, 0, none⟩ = some (.map (some mb)) ∧ (Instr.lookup 74 (.map (some mb)) (.int .i64 qq) false).run Try.prog w' = .ok (.int .i64 (f qq : Nat)) w')
    (first | exact ⟨hk, hr'⟩ | assumption)
    (first
      | (go_at_call 39; refine (Lt.lQuarter_any t _ (by omega) (by omega)).mono ?_; rintro e w1 ⟨rfl, rfl⟩; rw [← HQ.out]))
  go_wp2
  go_ret
  exact ⟨rfl, 1, rfl⟩
end Go.Proofs.Ytihbjimnjhfpeaa

/- A drawn region whose last operation waits for all others (a store behind loads of the same cell, behind calls that make memory): the others are walked held by S, then that one comes: own law. -/
namespace Go.Proofs.Ytihbjimnjhfpeaa
open Go

section
variable {P : Program} {md : Region.Mode} {ops : Array Oper} {Q : Exit → Act → World → Prop} {S : World → Prop} {n : Nat}
/-- Behind the others: what the last operation asks for; at any other exit: what was asked for. -/
def sinkQ (P : Program) (ops : Array Oper) (Q : Exit → Act → World → Prop) (n : Nat) : Exit → Act → World → Prop
  | .normal, a, w => wpOp P ops Q n (fun a' w' => Q .normal a' w') a w
  | e, a, w => Q e a w
theorem sink_wp {o : Oper} {a : Act} {w : World} {K : Act → World → Prop} (h : Oper.wp P o a w K (sinkQ P ops Q n)) : Oper.wp P o a w K Q := by
  unfold Oper.wp at *
  generalize (execOp a.eval o).run P w = r at *
  cases r with
  | ok x w' =>
    cases x with
    | enter f args => exact Calls.mono h (fun e w'' he => by cases e <;> exact he)
    | _ => exact h
  | halt x w' => cases x <;> exact h
theorem sink_op {i : Nat} {a : Act} {w : World} {K : Act → World → Prop} (h : wpOp P ops (sinkQ P ops Q n) i K a w) : wpOp P ops Q i K a w := by
  unfold wpOp at *
  split
  · rename_i ho; simpa [ho] using h
  · rename_i o ho
    simp only [ho] at h
    split
    · rename_i hw
      simp only [hw, if_true] at h
      exact h.imp sink_wp (fun g => ⟨g.1, g.2⟩)
    · rename_i hw; simpa [hw] using h
theorem any_done {fuel : Nat} {listed : Array Bool} {a : Act} {w : World} (hr : Region.ready md ops listed = []) (h : Q .normal a w) : wpAny P md ops Q fuel listed a w := by
  cases fuel with
  | zero => exact ⟨hr, h⟩
  | succ fuel => exact ⟨fun _ => h, fun i hi => by rw [hr] at hi; cases hi⟩
theorem getD_more {listed : Array Bool} {n k : Nat} {d : Bool} (h : listed.getD k d = true) : (listed.setIfInBounds n true).getD k d = true := by
  by_cases e : n = k
  · subst e
    simp only [Array.getD_eq_getD_getElem?, Array.getElem?_setIfInBounds_self] at *
    split <;> simp_all
  · simpa [Array.getD_eq_getD_getElem?, Array.getElem?_setIfInBounds_ne e] using h
theorem getD_less {listed : Array Bool} {n k : Nat} {d : Bool} (hk : n ≠ k) : (listed.setIfInBounds n true).getD k d = listed.getD k d := by
  simp [Array.getD_eq_getD_getElem?, Array.getElem?_setIfInBounds_ne hk]
/-- The last one waits for every other. -/
def sinkB (md : Region.Mode) (ops : Array Oper) (n : Nat) : Bool :=
  (List.range ops.size).all fun j => decide (j = n) || match ops[n]? with | some o => o.after.any fun e => Region.binds md e && decide (e.on = j) | none => false
theorem sinkB_spec (h : sinkB md ops n = true) {o : Oper} (ho : ops[n]? = some o) {j : Nat} (hj : j < ops.size) (hne : j ≠ n) : ∃ e ∈ o.after, Region.binds md e = true ∧ e.on = j := by
  unfold sinkB at h
  rw [List.all_eq_true] at h
  have h1 := h j (List.mem_range.2 hj)
  rw [decide_eq_false hne, Bool.false_or, ho] at h1
  obtain ⟨e, he, hb⟩ := Array.any_eq_true'.1 h1
  simp only [Bool.and_eq_true, decide_eq_true_iff] at hb
  exact ⟨e, he, hb.1, hb.2⟩
theorem ready_less {listed : Array Bool} {i : Nat} (hi : i ∈ Region.ready md ops listed) (hne : i ≠ n) : i ∈ Region.ready md ops (listed.setIfInBounds n true) := by
  obtain ⟨h1, o, ho, h2⟩ := mem_ready.1 hi
  exact mem_ready.2 ⟨by rw [getD_less (Ne.symm hne)]; exact h1, o, ho, fun e he hb => getD_more (h2 e he hb)⟩
theorem ready_sink (hs : sinkB md ops n = true) {listed : Array Bool} (hsz : listed.size = ops.size) (hn : n ∈ Region.ready md ops listed) : Region.ready md ops (listed.setIfInBounds n true) = [] := by
  rw [List.eq_nil_iff_forall_not_mem]
  intro j hj
  obtain ⟨g1, oj, hoj, _⟩ := mem_ready.1 hj
  obtain ⟨h1, o, ho, h2⟩ := mem_ready.1 hn
  have hjs : j < ops.size := (Array.getElem?_eq_some_iff.1 hoj).1
  have hns : n < ops.size := (Array.getElem?_eq_some_iff.1 ho).1
  by_cases e : j = n
  · subst e
    simp [Array.getD_eq_getD_getElem?, hsz, hns] at g1
  · obtain ⟨ed, he, hb, rfl⟩ := sinkB_spec hs ho hjs e
    rw [getD_less (Ne.symm e)] at g1
    have h3 := h2 ed he hb
    simp [Array.getD_eq_getD_getElem?, hsz, hjs] at g1 h3
    rw [g1] at h3
    cases h3
/-- Nobody waits for a later one. -/
def foreB (md : Region.Mode) (ops : Array Oper) : Bool := (List.range ops.size).all fun j => match ops[j]? with | some o => o.after.all fun e => !Region.binds md e || decide (e.on < j) | none => true
theorem ready_nil (hf : foreB md ops = true) {listed : Array Bool} (hsz : listed.size = ops.size) (hr : Region.ready md ops listed = []) : ∀ j, j < ops.size → listed.getD j true = true := by
  intro j
  induction j using Nat.strongRecOn with
  | ind j ih =>
    intro hj
    cases hl : listed.getD j true with
    | true => rfl
    | false =>
      exfalso
      have ho : ops[j]? = some ops[j] := Array.getElem?_eq_getElem hj
      have hm : j ∈ Region.ready md ops listed := mem_ready.2 ⟨hl, _, ho, fun e he hb => by
        unfold foreB at hf
        rw [List.all_eq_true] at hf
        have h1 := hf j (List.mem_range.2 hj)
        rw [ho] at h1
        have h2 := Array.all_eq_true'.1 h1 e he
        rw [hb] at h2
        have h3 : e.on < j := by simpa using h2
        have h4 := ih e.on h3 (by omega)
        simp only [Array.getD_eq_getD_getElem?, Array.getElem?_eq_getElem (show e.on < listed.size by omega), Option.getD_some] at h4 ⊢
        exact h4⟩
      rw [hr] at hm
      cases hm
theorem any_sink (hf : foreB md ops = true) (hs : sinkB md ops n = true) : ∀ (fuel : Nat) (listed : Array Bool) (a : Act) (w : World), listed.size = ops.size → n < ops.size → listed.getD n true = false →
    wpAnyH P md ops (sinkQ P ops Q n) S fuel (listed.setIfInBounds n true) a w → wpAny P md ops Q (fuel + 1) listed a w := by
  intro fuel
  induction fuel with
  | zero =>
    intro listed a w hsz hns hnl H
    have last : n ∈ Region.ready md ops listed → wpOp P ops Q n (wpAny P md ops Q 0 (listed.setIfInBounds n true)) a w := fun hn =>
      wpOp_mono (fun a' w' h => any_done (ready_sink hs hsz hn) h) (show wpOp P ops Q n (fun a' w' => Q .normal a' w') a w from H.2)
    refine ⟨fun hr => ?_, fun i hi => ?_⟩
    · have := ready_nil hf hsz hr n hns
      rw [hnl] at this
      cases this
    · by_cases e : i = n
      · subst e; exact last hi
      · have := ready_less hi e
        rw [H.1] at this
        cases this
  | succ fuel ih =>
    intro listed a w hsz hns hnl H
    refine ⟨fun hr => ?_, fun i hi => ?_⟩
    · have := ready_nil hf hsz hr n hns
      rw [hnl] at this
      cases this
    · by_cases e : i = n
      · subst e
        have hr := ready_sink hs hsz hi
        exact wpOp_mono (fun a' w' h => any_done hr h) (show wpOp P ops Q i (fun a' w' => Q .normal a' w') a w from H.1 hr)
      · refine wpOp_mono (fun a' w' h => ih (listed.setIfInBounds i true) a' w' (by simpa using hsz) hns (by rw [getD_less e]; exact hnl) ?_) (sink_op (H.2 i (ready_less hi e)))
        rw [Array.setIfInBounds_comm _ _ e]
        exact h.2
theorem sink_last {o : Oper} {a : Act} {w : World} (ho : ops[n]? = some o)
    (h : ∀ K' : Act → World → Prop, Shut (∀ a w, Q .normal a w → K' a w) → if Region.wanted o (yielded ops a.tmps) = true then Oper.wp P o a w K' Q else K' (a.put o.dst undef) w) : sinkQ P ops Q n .normal a w :=
  wpOp_step ho (fun K' hK => h K' hK)
/-- At a region of one operation more: the others are walked from the beginning, the last one counted as if it had come. -/
theorem wp_region_sink (n : Nat) {id : Nat} {a : Act} {w : World} (hm : P.follows .mixedOrders = true) (hz : ops.size = n + 1) (hf : foreB .any ops = true) (hs : sinkB .any ops n = true) (hS : S w.drew)
    (h : S w.drew → wpAnyH P .any ops (sinkQ P ops Q n) S n ((Array.replicate ops.size false).setIfInBounds n true) a w.drew) : (Code.region id ops true).wp P Q a w := by
  refine wp_region_any hm ?_
  have hg : (Array.replicate ops.size false).getD n true = false := by simp [Array.getD_eq_getD_getElem?, hz]
  have := any_sink (P := P) (Q := Q) (S := S) hf hs n (Array.replicate ops.size false) a w.drew (by simp) (by omega) hg (h hS)
  rw [← hz] at this
  exact this
end
end Go.Proofs.Ytihbjimnjhfpeaa
