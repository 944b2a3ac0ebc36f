/- Texts of this seat, one behind the other. -/
import Derived.Test.YtihbjimnjhfpeaaG04
import Derived.Deep.RegionHeld3
/- Walks of Needs, Reached and Reductions of both, with what they call: contracts. -/
namespace Go.Proofs.Ytihbjimnjhfpeaa.Lt
open Go.RowKit

theorem bcell {W w1 : World} (hb : Below W.heap.size W w1) : (∀ b o, b < W.heap.size → w1.cell? ⟨b, o, none⟩ = W.cell? ⟨b, o, none⟩) ∧ (∀ b o, b < W.heap.size → w1.frozen? ⟨b, o, none⟩ = W.frozen? ⟨b, o, none⟩) :=
  ⟨fun b o h => hb.cell (p := ⟨b, o, none⟩) h, fun b o h => hb.frozen (p := ⟨b, o, none⟩) h⟩
theorem balloc {w w1 : World} {o : Obj} (hb : Below (w.alloc o).heap.size (w.alloc o) w1) : Below w.heap.size w w1 :=
  ((Below.refl _ _).alloc (Nat.le_refl _) _).trans (hb.mono (by simp))
theorem bdrewN {B : Nat} {w w1 : World} {n : Nat} (h : Below B w w1) : Below B w (w1.drewN n) := ⟨h.os, h.tape, h.output, h.size, h.block⟩
theorem cell_alloc_new (w : World) (cs : Array Value) (T : TypeId) (fz : Nat × Nat) (i : Nat) : (w.alloc (.cells cs T fz)).cell? ⟨w.heap.size, i, none⟩ = cs[i]? := by
  unfold World.cell?
  show (match (w.alloc (.cells cs T fz)).heap[w.heap.size]? with | some (.cells c _ _) => _ | _ => _) = _
  rw [heap_alloc_new]
  rfl
theorem box5_below {w w1 : World} {c0 c1 c2 c3 c4 : Value} {T : TypeId} {fz : Nat × Nat} (hb : Below (w.alloc (.cells #[c0, c1, c2, c3, c4] T fz)).heap.size (w.alloc (.cells #[c0, c1, c2, c3, c4] T fz)) w1) :
    w1.cell? ⟨w.heap.size, 0, none⟩ = some c0 ∧ w1.cell? ⟨w.heap.size, 1, none⟩ = some c1 ∧ w1.cell? ⟨w.heap.size, 2, none⟩ = some c2 ∧ w1.cell? ⟨w.heap.size, 3, none⟩ = some c3 ∧ w1.cell? ⟨w.heap.size, 4, none⟩ = some c4 ∧ w.heap.size < w1.heap.size ∧ Below w.heap.size w w1 := by
  obtain ⟨hc, _⟩ := bcell hb
  have hz : w.heap.size < (w.alloc (.cells #[c0, c1, c2, c3, c4] T fz)).heap.size := by simp
  refine ⟨?_, ?_, ?_, ?_, ?_, Nat.lt_of_lt_of_le hz hb.size, balloc hb⟩ <;> rw [hc _ _ hz, cell_alloc_new] <;> rfl
theorem kbox_keep {b : Nat} {w W w2 : World} {c0 c1 c2 c3 c4 : Value} (hb : Below W.heap.size W w2)
    (h : W.cell? ⟨b, 0, none⟩ = some c0 ∧ W.cell? ⟨b, 1, none⟩ = some c1 ∧ W.cell? ⟨b, 2, none⟩ = some c2 ∧ W.cell? ⟨b, 3, none⟩ = some c3 ∧ W.cell? ⟨b, 4, none⟩ = some c4 ∧ b < W.heap.size ∧ Below w.heap.size w W) :
    w2.cell? ⟨b, 0, none⟩ = some c0 ∧ w2.cell? ⟨b, 1, none⟩ = some c1 ∧ w2.cell? ⟨b, 2, none⟩ = some c2 ∧ w2.cell? ⟨b, 3, none⟩ = some c3 ∧ w2.cell? ⟨b, 4, none⟩ = some c4 ∧ b < w2.heap.size ∧ Below w.heap.size w w2 := by
  obtain ⟨h0, h1, h2, h3, h4, h5, h6⟩ := h
  obtain ⟨hc, _⟩ := bcell hb
  exact ⟨(hc _ _ h5).trans h0, (hc _ _ h5).trans h1, (hc _ _ h5).trans h2, (hc _ _ h5).trans h3, (hc _ _ h5).trans h4, Nat.lt_of_lt_of_le h5 hb.size, h6.trans (hb.mono h6.size)⟩
theorem validB_iff {l : List UInt8} {r z d g : Int} : validB l r z d g = true ↔ nameB l = true ∧ (-200 ≤ r ∧ r ≤ 800) ∧ (1 ≤ z ∧ z ≤ 60) ∧ (1 ≤ d ∧ d ≤ 1000000) ∧ (1 ≤ g ∧ g ≤ 20) := by
  unfold validB; simp [and_assoc]

theorem wrap_i64 {n : Int} (h1 : -9000000000000000000 ≤ n) (h2 : n ≤ 9000000000000000000) : IntKind.i64.wrap n = n := IntWalk.i64_in n ⟨by omega, by omega⟩
theorem ret_two {a b : Value} {a' b' : Value} (h : a = a') (h' : b = b') : Ending.returned (.tuple #[a, b]) = .returned (.tuple #[a', b']) := by rw [h, h']
theorem int_eq {k : IntKind} {a b : Int} (h : a = b) : Value.int k a = .int k b := by rw [h]

def chkF (v : Bool) (f : Int) : Int := if v then (if 0 ≤ f ∧ f ≤ 1000000000000000000 then 0 else 7) else 1

set_option maxHeartbeats 1000000 in
theorem reduction_any (s : ByteArray) (r z d g : Int) (w : World) (_hs : s.size ≤ maxLen) (h1 : 1 ≤ d) (h2 : d ≤ 1000000) :
    Calls Try.prog 59 #[.agg #[.string s, .int .i64 r, .int .i64 z, .int .i64 d, .int .i64 g]] w fun e w' => e = .returned (.int .i64 (d * 1000000)) ∧ Below w.heap.size w w' := by
  go_enter Try.func59, Try.ntmps59
  go_wp2
  go_ret
  exact ⟨rfl, (Below.refl _ _).alloc (Nat.le_refl _) _⟩

set_option maxHeartbeats 1000000 in
theorem needs_no (s : ByteArray) (r z d g : Int) (w : World) (hs : s.size ≤ maxLen) (hv : validB s.data.toList r z d g = false) :
    Calls Try.prog 42 #[.agg #[.string s, .int .i64 r, .int .i64 z, .int .i64 d, .int .i64 g]] w fun e w' => e = .returned (.int .i64 0) ∧ Below w.heap.size w w' := by
  go_enter Try.func42, Try.ntmps42
  go_wp2_with (go_at_call 37; refine (lvalid_any _ _ _ _ _ _ hs).mono ?_; rintro e w1 ⟨rfl, hb⟩)
  go_ret
  exact ⟨rfl, balloc hb⟩

theorem needs_bd {l : List UInt8} {r z d g : Int} (hv : validB l r z d g = true) : 1000000 ≤ g * (d * 1000000) ∧ g * (d * 1000000) ≤ 20000000000000 := by
  obtain ⟨_, _, _, ⟨d1, d2⟩, g1, g2⟩ := validB_iff.1 hv
  have a := Int.mul_le_mul g2 (show d * 1000000 ≤ 1000000000000 by omega) (by omega) (by omega)
  have b := Int.mul_le_mul g1 (show 1000000 ≤ d * 1000000 by omega) (by omega) (by omega)
  omega

set_option maxHeartbeats 1000000 in
theorem needs_yes (s : ByteArray) (r z d g : Int) (w : World) (hs : s.size ≤ maxLen) (hv : validB s.data.toList r z d g = true) :
    Calls Try.prog 42 #[.agg #[.string s, .int .i64 r, .int .i64 z, .int .i64 d, .int .i64 g]] w fun e w' => e = .returned (.int .i64 (g * (d * 1000000))) ∧ Below w.heap.size w w' := by
  obtain ⟨_, _, _, ⟨d1, d2⟩, g1, g2⟩ := validB_iff.1 hv
  obtain ⟨m1, m2⟩ := needs_bd hv
  go_enter Try.func42, Try.ntmps42
  go_wp2_with (go_at_call 37; refine (lvalid_any _ _ _ _ _ _ hs).mono ?_; rintro e w1 ⟨rfl, hb⟩; obtain ⟨b0, b1, b2, b3, b4, hz, hB⟩ := box5_below hb; clear hb)
  go_region_held3 (fun w' => w'.cell? ⟨w.heap.size, 0, none⟩ = some (.string s) ∧ w'.cell? ⟨w.heap.size, 1, none⟩ = some (.int .i64 r) ∧ w'.cell? ⟨w.heap.size, 2, none⟩ = some (.int .i64 z) ∧ w'.cell? ⟨w.heap.size, 3, none⟩ = some (.int .i64 d) ∧ w'.cell? ⟨w.heap.size, 4, none⟩ = some (.int .i64 g) ∧ w.heap.size < w'.heap.size ∧ Below w.heap.size w w') (first | exact ⟨b0, b1, b2, b3, b4, hz, hB.drew⟩ | exact kbox_keep (by assumption) (by assumption)) (first | (go_at_call 59; refine (reduction_any _ _ _ _ _ _ hs (by omega) (by omega)).mono ?_; rintro e w2 ⟨rfl, hb2⟩))
  go_wp2
  go_ret
  rename_i hq
  exact ⟨ret_int (wrap_i64 (by omega) (by omega)), hq.2.2.2.2.2.2⟩



theorem perMille_eq (f n : Int) (_h1 : 0 ≤ f) (h3 : 0 < n) : f / n * 1000 + f % n * 1000 / n = f * 1000 / n := by
  have e : f * 1000 = f / n * 1000 * n + f % n * 1000 := by
    have := Int.mul_ediv_add_emod f n
    have h : f / n * 1000 * n = n * (f / n) * 1000 := by rw [Int.mul_comm n, Int.mul_assoc, Int.mul_assoc, Int.mul_comm 1000 n]
    rw [h]; omega
  rw [e, Int.add_comm (f / n * 1000 * n), Int.add_mul_ediv_right _ _ (by omega), Int.add_comm]


end Go.Proofs.Ytihbjimnjhfpeaa.Lt

/- Plain lemmas on lists of words (big numbers, the least word first) and on whole roots of powers of ten. No Go in sight. -/
namespace Go.Proofs.Ytihbjimnjhfpeaa.Lt.Pm

def W : Nat := 18446744073709551616
theorem W_pos : 0 < W := by unfold W; omega

/-- The number that a list of words is. -/
def val : List Nat → Nat
  | [] => 0
  | x :: l => x + W * val l

theorem val_append (a b : List Nat) : val (a ++ b) = val a + W ^ a.length * val b := by
  induction a with
  | nil => simp [val]
  | cons x a ih => simp only [List.cons_append, val, ih, List.length_cons, Nat.pow_succ]; rw [Nat.mul_add, Nat.add_assoc, ← Nat.mul_assoc, Nat.mul_comm W (W ^ _)]

/-- All are words, and the last is not 0. -/
structure Norm (l : List Nat) : Prop where
  word : ∀ x ∈ l, x < W
  last : ∀ h : l ≠ [], 0 < l.getLast h

theorem val_lt {l : List Nat} (h : ∀ x ∈ l, x < W) : val l < W ^ l.length := by
  induction l with
  | nil => simp [val]
  | cons x l ih =>
    have h1 := ih (fun y hy => h y (List.mem_cons_of_mem _ hy))
    have h2 := h x (List.mem_cons_self)
    simp only [val, List.length_cons, Nat.pow_succ]
    calc x + W * val l < W + W * val l := by omega
      _ = W * (val l + 1) := by rw [Nat.mul_add]; omega
      _ ≤ W * W ^ l.length := Nat.mul_le_mul_left _ h1
      _ = W ^ l.length * W := Nat.mul_comm _ _

theorem val_ge {l : List Nat} (h : Norm l) (hn : l ≠ []) : W ^ (l.length - 1) ≤ val l := by
  have e : l = l.dropLast ++ [l.getLast hn] := (List.dropLast_concat_getLast hn).symm
  have hp := h.last hn
  have : val l = val l.dropLast + W ^ (l.length - 1) * l.getLast hn := by
    conv => lhs; rw [e]
    rw [val_append]; simp [val]
  rw [this]
  calc W ^ (l.length - 1) = W ^ (l.length - 1) * 1 := (Nat.mul_one _).symm
    _ ≤ W ^ (l.length - 1) * l.getLast hn := Nat.mul_le_mul_left _ hp
    _ ≤ _ := Nat.le_add_left _ _

theorem val_lt_of_len {a b : List Nat} (ha : Norm a) (hb : Norm b) (h : a.length < b.length) : val a < val b := by
  have hn : b ≠ [] := by intro e; rw [e] at h; simp at h
  calc val a < W ^ a.length := val_lt ha.word
    _ ≤ W ^ (b.length - 1) := Nat.pow_le_pow_right W_pos (by omega)
    _ ≤ val b := val_ge hb hn

/-- Two lists of one length, of words: the topmost words that differ decide. -/
theorem val_lt_of_top {a b : List Nat} (hl : a.length = b.length) (ha : ∀ x ∈ a, x < W) (i : Nat) (hi : i < a.length)
    (hlt : a[i] < b[i]'(hl ▸ hi)) (htop : ∀ j, i < j → (hj : j < a.length) → a[j] = b[j]'(hl ▸ hj)) : val a < val b := by
  have ea : a = a.take i ++ a[i] :: a.drop (i + 1) := by simp
  have eb : b = b.take i ++ (b[i]'(hl ▸ hi)) :: b.drop (i + 1) := by simp
  have ed : a.drop (i + 1) = b.drop (i + 1) := by
    apply List.ext_getElem (by simp [hl])
    intro n h1 h2
    simp only [List.getElem_drop]
    exact htop _ (by omega) (by simp at h1; omega)
  have va : val a = val (a.take i) + W ^ i * (a[i] + W * val (a.drop (i + 1))) := by
    conv => lhs; rw [ea]
    rw [val_append, List.length_take, Nat.min_eq_left (by omega)]; rfl
  have vb : val b = val (b.take i) + W ^ i * (b[i]'(hl ▸ hi) + W * val (b.drop (i + 1))) := by
    conv => lhs; rw [eb]
    rw [val_append, List.length_take, Nat.min_eq_left (by omega)]; rfl
  have ht : val (a.take i) < W ^ i := by
    have := val_lt (l := a.take i) (fun x hx => ha x (List.mem_of_mem_take hx))
    rwa [List.length_take, Nat.min_eq_left (by omega)] at this
  rw [va, vb, ← ed]
  calc val (a.take i) + W ^ i * (a[i] + W * val (a.drop (i + 1))) < W ^ i + W ^ i * (a[i] + W * val (a.drop (i + 1))) := by omega
    _ = W ^ i * (a[i] + 1 + W * val (a.drop (i + 1))) := by rw [Nat.add_right_comm, Nat.mul_add _ _ 1]; omega
    _ ≤ W ^ i * (b[i]'(hl ▸ hi) + W * val (a.drop (i + 1))) := Nat.mul_le_mul_left _ (by omega)
    _ ≤ _ := Nat.le_add_left _ _

/-- A list of words times f, plus c. -/
def timesL (f : Nat) : List Nat → Nat → List Nat
  | [], c => if 0 < c then [c] else []
  | x :: l, c => (x * f + c) % W :: timesL f l ((x * f + c) / W)

theorem val_timesL (f : Nat) (l : List Nat) : ∀ c, val (timesL f l c) = val l * f + c := by
  induction l with
  | nil => intro c; unfold timesL; split <;> simp [val]; omega
  | cons x l ih =>
    intro c
    simp only [timesL, val, ih]
    have := Nat.mod_add_div (x * f + c) W
    rw [Nat.mul_add, Nat.add_mul]
    have e : W * (val l * f) = W * val l * f := (Nat.mul_assoc _ _ _).symm
    omega

theorem carry_lt {f x c : Nat} (hx : x < W) (hc : c < f) : (x * f + c) / W < f := by
  apply Nat.div_lt_of_lt_mul
  have : (x + 1) * f ≤ W * f := Nat.mul_le_mul_right _ hx
  rw [Nat.add_mul] at this
  omega

theorem norm_nil : Norm [] := ⟨by simp, by simp⟩
theorem norm_cons {x : Nat} {l : List Nat} (hx : x < W) (h : Norm l) (h0 : l = [] → 0 < x) : Norm (x :: l) := by
  refine ⟨?_, ?_⟩
  · intro y hy
    rcases List.mem_cons.1 hy with rfl | hy
    · exact hx
    · exact h.word y hy
  · intro hn
    cases l with
    | nil => simpa using h0 rfl
    | cons y l => rw [List.getLast_cons (by simp)]; exact h.last (by simp)
theorem norm_tail {x : Nat} {l : List Nat} (h : Norm (x :: l)) : Norm l := by
  refine ⟨fun y hy => h.word y (List.mem_cons_of_mem _ hy), fun hn => ?_⟩
  have := h.last (by simp)
  rwa [List.getLast_cons hn] at this

theorem norm_timesL (f : Nat) (hf : 0 < f) (hfW : f ≤ W) (l : List Nat) : ∀ c, c < f → Norm l → Norm (timesL f l c) := by
  induction l with
  | nil =>
    intro c hc _
    unfold timesL
    split
    · exact norm_cons (by omega) norm_nil (fun _ => by assumption)
    · exact norm_nil
  | cons x l ih =>
    intro c hc hn
    have hx := hn.word x List.mem_cons_self
    refine norm_cons (Nat.mod_lt _ W_pos) (ih _ (carry_lt hx hc) (norm_tail hn)) ?_
    intro he
    cases l with
    | nil =>
      have hx0 := hn.last (by simp)
      simp at hx0
      unfold timesL at he
      split at he
      · cases he
      · rename_i h0
        have h1 : (x * f + c) / W = 0 := Nat.eq_zero_of_not_pos h0
        have h2 : x * f + c < W := by
          rcases Nat.lt_or_ge (x * f + c) W with h | h
          · exact h
          · have := (Nat.one_le_div_iff W_pos).2 h; omega
        rw [Nat.mod_eq_of_lt h2]
        have := Nat.mul_pos hx0 hf
        omega
    | cons y l => unfold timesL at he; cases he

theorem length_timesL (f : Nat) (l : List Nat) : ∀ c, (timesL f l c).length ≤ l.length + 1 := by
  induction l with
  | nil => intro c; unfold timesL; split <;> simp
  | cons x l ih => intro c; simp only [timesL, List.length_cons]; exact Nat.succ_le_succ (ih _)

/-- 'times' word by word: what lies in memory after k rounds, and the carry. -/
def headL (f : Nat) : List Nat → Nat → Nat → List Nat
  | _, _, 0 => []
  | [], _, _ => []
  | x :: l, c, k + 1 => (x * f + c) % W :: headL f l ((x * f + c) / W) k
def carryL (f : Nat) : List Nat → Nat → Nat → Nat
  | _, c, 0 => c
  | [], c, _ => c
  | x :: l, c, k + 1 => carryL f l ((x * f + c) / W) k

theorem timesL_split (f : Nat) (l : List Nat) : ∀ c k, k ≤ l.length → timesL f l c = headL f l c k ++ timesL f (l.drop k) (carryL f l c k) := by
  induction l with
  | nil => intro c k hk; simp at hk; subst hk; simp [headL, carryL]
  | cons x l ih =>
    intro c k hk
    cases k with
    | zero => simp [headL, carryL]
    | succ k => simp only [timesL, headL, carryL, List.drop_succ_cons, List.cons_append]; rw [ih _ k (by simpa using hk)]
theorem headL_length (f : Nat) (l : List Nat) : ∀ c k, k ≤ l.length → (headL f l c k).length = k := by
  induction l with
  | nil => intro c k hk; simp at hk; subst hk; simp [headL]
  | cons x l ih =>
    intro c k hk
    cases k with
    | zero => simp [headL]
    | succ k => simp only [headL, List.length_cons]; rw [ih _ k (by simpa using hk)]
theorem carryL_lt (f : Nat) (l : List Nat) : ∀ c k, c < f → (∀ x ∈ l, x < W) → carryL f l c k < f := by
  induction l with
  | nil => intro c k hc _; cases k <;> exact hc
  | cons x l ih =>
    intro c k hc h
    cases k with
    | zero => exact hc
    | succ k => exact ih _ k (carry_lt (h x List.mem_cons_self) hc) (fun y hy => h y (List.mem_cons_of_mem _ hy))
theorem carryL_succ (f : Nat) (l : List Nat) : ∀ c k, (h : k < l.length) → carryL f l c (k + 1) = (l[k] * f + carryL f l c k) / W := by
  induction l with
  | nil => intro c k h; simp at h
  | cons x l ih =>
    intro c k h
    cases k with
    | zero => cases l <;> simp [carryL]
    | succ k => simp only [carryL, List.getElem_cons_succ]; exact ih _ k (by simpa using h)
theorem headL_succ (f : Nat) (l : List Nat) : ∀ c k, (h : k < l.length) → headL f l c (k + 1) = headL f l c k ++ [(l[k] * f + carryL f l c k) % W] := by
  induction l with
  | nil => intro c k h; simp at h
  | cons x l ih =>
    intro c k h
    cases k with
    | zero => cases l <;> simp [headL, carryL]
    | succ k => simp only [headL, carryL, List.getElem_cons_succ, List.cons_append]; rw [ih _ k (by simpa using h)]

/-! ### Whole roots -/
def IsRoot (e z n : Nat) : Prop := n ^ z ≤ 10 ^ e ∧ 10 ^ e < (n + 1) ^ z

theorem isRoot_unique {e z n m : Nat} (h : IsRoot e z n) (h' : IsRoot e z m) : n = m := by
  rcases Nat.lt_trichotomy n m with hlt | rfl | hlt
  · have := Nat.pow_le_pow_left (n := n + 1) (m := m) hlt z
    exact absurd (Nat.lt_of_lt_of_le h.2 (Nat.le_trans this h'.1)) (Nat.lt_irrefl _)
  · rfl
  · have := Nat.pow_le_pow_left (n := m + 1) (m := n) hlt z
    exact absurd (Nat.lt_of_lt_of_le h'.2 (Nat.le_trans this h.1)) (Nat.lt_irrefl _)

/-- The root by counting up from n. -/
def rootUp (e z : Nat) : Nat → Nat → Nat
  | 0, n => n
  | k + 1, n => if (n + 1) ^ z ≤ 10 ^ e then rootUp e z k (n + 1) else n
def rootN (e z : Nat) : Nat := rootUp e z (10 ^ (e + 1)) 0

theorem rootUp_is (e z : Nat) : ∀ k n, n ^ z ≤ 10 ^ e → 10 ^ e < (n + k + 1) ^ z → IsRoot e z (rootUp e z k n) := by
  intro k
  induction k with
  | zero => intro n h1 h2; exact ⟨h1, h2⟩
  | succ k ih =>
    intro n h1 h2
    unfold rootUp
    split
    · exact ih (n + 1) (by assumption) (by rw [Nat.add_right_comm n 1 k]; exact h2)
    · exact ⟨h1, by omega⟩
theorem rootN_is (e z : Nat) (hz : 1 ≤ z) : IsRoot e z (rootN e z) := by
  refine rootUp_is e z _ 0 ?_ ?_
  · rw [Nat.zero_pow (by omega)]; exact Nat.zero_le _
  · calc 10 ^ e < 10 ^ (e + 1) + 1 := by
          have := Nat.pow_le_pow_right (show 0 < 10 by decide) (Nat.le_succ e)
          exact Nat.lt_succ_of_le this
      _ = (0 + 10 ^ (e + 1) + 1) ^ 1 := by rw [Nat.pow_one, Nat.zero_add]
      _ ≤ _ := Nat.pow_le_pow_right (Nat.succ_pos _) hz
theorem rootN_eq {e z n : Nat} (hz : 1 ≤ z) (h : IsRoot e z n) : rootN e z = n := isRoot_unique (rootN_is e z hz) h
attribute [irreducible] rootN

theorem low_root (e z : Nat) : (10 ^ (e / z)) ^ z ≤ 10 ^ e := by
  rw [← Nat.pow_mul]
  exact Nat.pow_le_pow_right (by decide) (Nat.div_mul_le_self e z)
theorem high_root (e z : Nat) (hz : 1 ≤ z) : 10 ^ e < (10 * 10 ^ (e / z)) ^ z := by
  rw [← Nat.pow_succ', ← Nat.pow_mul]
  refine Nat.pow_lt_pow_right (by decide) ?_
  have := Nat.div_add_mod e z
  have h2 := Nat.mod_lt e (show z > 0 by omega)
  rw [Nat.succ_mul, Nat.mul_comm]; omega
theorem root_le (e z n : Nat) (hz : 1 ≤ z) (h : n ^ z ≤ 10 ^ e) : n < 10 * 10 ^ (e / z) := by
  rcases Nat.lt_or_ge n (10 * 10 ^ (e / z)) with h' | h'
  · exact h'
  · have := Nat.pow_le_pow_left h' z
    have := high_root e z hz
    omega
theorem root_bd (e z : Nat) (hz : 1 ≤ z) : 10 ^ (e / z) ≤ rootN e z ∧ rootN e z < 10 * 10 ^ (e / z) := by
  have h := rootN_is e z hz
  refine ⟨?_, root_le e z _ hz h.1⟩
  rcases Nat.lt_or_ge (rootN e z) (10 ^ (e / z)) with h' | h'
  · have := Nat.pow_le_pow_left (show rootN e z + 1 ≤ _ from h') z
    have := low_root e z
    have := h.2
    omega
  · exact h'
end Go.Proofs.Ytihbjimnjhfpeaa.Lt.Pm
