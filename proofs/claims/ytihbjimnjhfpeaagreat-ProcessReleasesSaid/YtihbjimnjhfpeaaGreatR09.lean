/- Texts of this seat, one behind the other. -/
import Derived.Test.YtihbjimnjhfpeaaGreatR08
import Derived.Deep.RegionHeld3
import Derived.Shelf.Bits.Mul64
import Derived.Laws.Externs
/- Walks of Needs, Reached and Reductions of both, with what they call: contracts. -/
namespace Go.Proofs.YtihbjimnjhfpeaaGreat.Lt
open Go.RowKit

theorem bcell {W w1 : World} (hb : Below W.heap.size W w1) : (∀ b o, b < W.heap.size → w1.cell? ⟨b, o, none⟩ = W.cell? ⟨b, o, none⟩) ∧ (∀ b o, b < W.heap.size → w1.frozen? ⟨b, o, none⟩ = W.frozen? ⟨b, o, none⟩) :=
  ⟨fun b o h => hb.cell (p := ⟨b, o, none⟩) h, fun b o h => hb.frozen (p := ⟨b, o, none⟩) h⟩
theorem balloc {w w1 : World} {o : Obj} (hb : Below (w.alloc o).heap.size (w.alloc o) w1) : Below w.heap.size w w1 :=
  ((Below.refl _ _).alloc (Nat.le_refl _) _).trans (hb.mono (by simp))
theorem bdrewN {B : Nat} {w w1 : World} {n : Nat} (h : Below B w w1) : Below B w (w1.drewN n) := ⟨h.os, h.tape, h.output, h.size, h.block⟩
theorem cell_alloc_new (w : World) (cs : Array Value) (T : TypeId) (fz : Nat × Nat) (i : Nat) : (w.alloc (.cells cs T fz)).cell? ⟨w.heap.size, i, none⟩ = cs[i]? := by
  unfold World.cell?
  show (match (w.alloc (.cells cs T fz)).heap[w.heap.size]? with | some (.cells c _ _) => _ | _ => _) = _
  rw [heap_alloc_new]
  rfl
theorem box5_below {w w1 : World} {c0 c1 c2 c3 c4 : Value} {T : TypeId} {fz : Nat × Nat} (hb : Below (w.alloc (.cells #[c0, c1, c2, c3, c4] T fz)).heap.size (w.alloc (.cells #[c0, c1, c2, c3, c4] T fz)) w1) :
    w1.cell? ⟨w.heap.size, 0, none⟩ = some c0 ∧ w1.cell? ⟨w.heap.size, 1, none⟩ = some c1 ∧ w1.cell? ⟨w.heap.size, 2, none⟩ = some c2 ∧ w1.cell? ⟨w.heap.size, 3, none⟩ = some c3 ∧ w1.cell? ⟨w.heap.size, 4, none⟩ = some c4 ∧ w.heap.size < w1.heap.size ∧ Below w.heap.size w w1 := by
  obtain ⟨hc, _⟩ := bcell hb
  have hz : w.heap.size < (w.alloc (.cells #[c0, c1, c2, c3, c4] T fz)).heap.size := by simp
  refine ⟨?_, ?_, ?_, ?_, ?_, Nat.lt_of_lt_of_le hz hb.size, balloc hb⟩ <;> rw [hc _ _ hz, cell_alloc_new] <;> rfl
theorem kbox_keep {b : Nat} {w W w2 : World} {c0 c1 c2 c3 c4 : Value} (hb : Below W.heap.size W w2)
    (h : W.cell? ⟨b, 0, none⟩ = some c0 ∧ W.cell? ⟨b, 1, none⟩ = some c1 ∧ W.cell? ⟨b, 2, none⟩ = some c2 ∧ W.cell? ⟨b, 3, none⟩ = some c3 ∧ W.cell? ⟨b, 4, none⟩ = some c4 ∧ b < W.heap.size ∧ Below w.heap.size w W) :
    w2.cell? ⟨b, 0, none⟩ = some c0 ∧ w2.cell? ⟨b, 1, none⟩ = some c1 ∧ w2.cell? ⟨b, 2, none⟩ = some c2 ∧ w2.cell? ⟨b, 3, none⟩ = some c3 ∧ w2.cell? ⟨b, 4, none⟩ = some c4 ∧ b < w2.heap.size ∧ Below w.heap.size w w2 := by
  obtain ⟨h0, h1, h2, h3, h4, h5, h6⟩ := h
  obtain ⟨hc, _⟩ := bcell hb
  exact ⟨(hc _ _ h5).trans h0, (hc _ _ h5).trans h1, (hc _ _ h5).trans h2, (hc _ _ h5).trans h3, (hc _ _ h5).trans h4, Nat.lt_of_lt_of_le h5 hb.size, h6.trans (hb.mono h6.size)⟩
theorem validB_iff {l : List UInt8} {r z d g : Int} : validB l r z d g = true ↔ nameB l = true ∧ (-200 ≤ r ∧ r ≤ 800) ∧ (1 ≤ z ∧ z ≤ 60) ∧ (1 ≤ d ∧ d ≤ 1000000) ∧ (1 ≤ g ∧ g ≤ 20) := by
  unfold validB; simp [and_assoc]

theorem wrap_i64 {n : Int} (h1 : -9000000000000000000 ≤ n) (h2 : n ≤ 9000000000000000000) : IntKind.i64.wrap n = n := IntWalk.i64_in n ⟨by omega, by omega⟩
theorem int_eq {k : IntKind} {a b : Int} (h : a = b) : Value.int k a = .int k b := by rw [h]

def chkF (v : Bool) (f : Int) : Int := if v then (if 0 ≤ f ∧ f ≤ 1000000000000000000 then 0 else 7) else 1

set_option maxHeartbeats 1000000 in
theorem reduction_any (s : ByteArray) (r z d g : Int) (w : World) (_hs : s.size ≤ maxLen) (h1 : 1 ≤ d) (h2 : d ≤ 1000000) :
    Calls Tryz.prog 96 #[.agg #[.string s, .int .i64 r, .int .i64 z, .int .i64 d, .int .i64 g]] w fun e w' => e = .returned (.int .i64 (d * 1000000)) ∧ Below w.heap.size w w' := by
  go_enter Tryz.func96, Tryz.ntmps96
  go_wp2
  go_ret
  exact ⟨rfl, (Below.refl _ _).alloc (Nat.le_refl _) _⟩

theorem needs_bd {l : List UInt8} {r z d g : Int} (hv : validB l r z d g = true) : 1000000 ≤ g * (d * 1000000) ∧ g * (d * 1000000) ≤ 20000000000000 := by
  obtain ⟨_, _, _, ⟨d1, d2⟩, g1, g2⟩ := validB_iff.1 hv
  have a := Int.mul_le_mul g2 (show d * 1000000 ≤ 1000000000000 by omega) (by omega) (by omega)
  have b := Int.mul_le_mul g1 (show 1000000 ≤ d * 1000000 by omega) (by omega) (by omega)
  omega

set_option maxHeartbeats 1000000 in
theorem needs_yes (s : ByteArray) (r z d g : Int) (w : World) (hs : s.size ≤ maxLen) (hv : validB s.data.toList r z d g = true) :
    Calls Tryz.prog 57 #[.agg #[.string s, .int .i64 r, .int .i64 z, .int .i64 d, .int .i64 g]] w fun e w' => e = .returned (.int .i64 (g * (d * 1000000))) ∧ Below w.heap.size w w' := by
  obtain ⟨_, _, _, ⟨d1, d2⟩, g1, g2⟩ := validB_iff.1 hv
  obtain ⟨m1, m2⟩ := needs_bd hv
  go_enter Tryz.func57, Tryz.ntmps57
  go_wp2_with (go_at_call 65; refine (lvalid_any _ _ _ _ _ _ hs).mono ?_; rintro e w1 ⟨rfl, hb⟩; obtain ⟨b0, b1, b2, b3, b4, hz, hB⟩ := box5_below hb; clear hb)
  go_region_held3 (fun w' => w'.cell? ⟨w.heap.size, 0, none⟩ = some (.string s) ∧ w'.cell? ⟨w.heap.size, 1, none⟩ = some (.int .i64 r) ∧ w'.cell? ⟨w.heap.size, 2, none⟩ = some (.int .i64 z) ∧ w'.cell? ⟨w.heap.size, 3, none⟩ = some (.int .i64 d) ∧ w'.cell? ⟨w.heap.size, 4, none⟩ = some (.int .i64 g) ∧ w.heap.size < w'.heap.size ∧ Below w.heap.size w w') (first | exact ⟨b0, b1, b2, b3, b4, hz, hB.drew⟩ | exact kbox_keep (by assumption) (by assumption)) (first | (go_at_call 96; refine (reduction_any _ _ _ _ _ _ hs (by omega) (by omega)).mono ?_; rintro e w2 ⟨rfl, hb2⟩))
  go_wp2
  go_ret
  rename_i hq
  exact ⟨ret_int (wrap_i64 (by omega) (by omega)), hq.2.2.2.2.2.2⟩

end Go.Proofs.YtihbjimnjhfpeaaGreat.Lt

/- Plain lemmas on lists of words (big numbers, the least word first) and on whole roots of powers of ten. No Go in sight. -/
namespace Go.Proofs.YtihbjimnjhfpeaaGreat.Lt.Pm

def W : Nat := 18446744073709551616
theorem W_pos : 0 < W := by unfold W; omega

/-- The number that a list of words is. -/
def val : List Nat → Nat
  | [] => 0
  | x :: l => x + W * val l

theorem val_append (a b : List Nat) : val (a ++ b) = val a + W ^ a.length * val b := by
  induction a with
  | nil => simp [val]
  | cons x a ih => simp only [List.cons_append, val, ih, List.length_cons, Nat.pow_succ]; rw [Nat.mul_add, Nat.add_assoc, ← Nat.mul_assoc, Nat.mul_comm W (W ^ _)]

/-- All are words, and the last is not 0. -/
structure Norm (l : List Nat) : Prop where
  word : ∀ x ∈ l, x < W
  last : ∀ h : l ≠ [], 0 < l.getLast h

theorem val_lt {l : List Nat} (h : ∀ x ∈ l, x < W) : val l < W ^ l.length := by
  induction l with
  | nil => simp [val]
  | cons x l ih =>
    have h1 := ih (fun y hy => h y (List.mem_cons_of_mem _ hy))
    have h2 := h x (List.mem_cons_self)
    simp only [val, List.length_cons, Nat.pow_succ]
    calc x + W * val l < W + W * val l := by omega
      _ = W * (val l + 1) := by rw [Nat.mul_add]; omega
      _ ≤ W * W ^ l.length := Nat.mul_le_mul_left _ h1
      _ = W ^ l.length * W := Nat.mul_comm _ _

theorem val_ge {l : List Nat} (h : Norm l) (hn : l ≠ []) : W ^ (l.length - 1) ≤ val l := by
  have e : l = l.dropLast ++ [l.getLast hn] := (List.dropLast_concat_getLast hn).symm
  have hp := h.last hn
  have : val l = val l.dropLast + W ^ (l.length - 1) * l.getLast hn := by
    conv => lhs; rw [e]
    rw [val_append]; simp [val]
  rw [this]
  calc W ^ (l.length - 1) = W ^ (l.length - 1) * 1 := (Nat.mul_one _).symm
    _ ≤ W ^ (l.length - 1) * l.getLast hn := Nat.mul_le_mul_left _ hp
    _ ≤ _ := Nat.le_add_left _ _

theorem val_lt_of_len {a b : List Nat} (ha : Norm a) (hb : Norm b) (h : a.length < b.length) : val a < val b := by
  have hn : b ≠ [] := by intro e; rw [e] at h; simp at h
  calc val a < W ^ a.length := val_lt ha.word
    _ ≤ W ^ (b.length - 1) := Nat.pow_le_pow_right W_pos (by omega)
    _ ≤ val b := val_ge hb hn

/-- Two lists of one length, of words: the topmost words that differ decide. -/
theorem val_lt_of_top {a b : List Nat} (hl : a.length = b.length) (ha : ∀ x ∈ a, x < W) (i : Nat) (hi : i < a.length)
    (hlt : a[i] < b[i]'(hl ▸ hi)) (htop : ∀ j, i < j → (hj : j < a.length) → a[j] = b[j]'(hl ▸ hj)) : val a < val b := by
  have ea : a = a.take i ++ a[i] :: a.drop (i + 1) := by simp
  have eb : b = b.take i ++ (b[i]'(hl ▸ hi)) :: b.drop (i + 1) := by simp
  have ed : a.drop (i + 1) = b.drop (i + 1) := by
    apply List.ext_getElem (by simp [hl])
    intro n h1 h2
    simp only [List.getElem_drop]
    exact htop _ (by omega) (by simp at h1; omega)
  have va : val a = val (a.take i) + W ^ i * (a[i] + W * val (a.drop (i + 1))) := by
    conv => lhs; rw [ea]
    rw [val_append, List.length_take, Nat.min_eq_left (by omega)]; rfl
  have vb : val b = val (b.take i) + W ^ i * (b[i]'(hl ▸ hi) + W * val (b.drop (i + 1))) := by
    conv => lhs; rw [eb]
    rw [val_append, List.length_take, Nat.min_eq_left (by omega)]; rfl
  have ht : val (a.take i) < W ^ i := by
    have := val_lt (l := a.take i) (fun x hx => ha x (List.mem_of_mem_take hx))
    rwa [List.length_take, Nat.min_eq_left (by omega)] at this
  rw [va, vb, ← ed]
  calc val (a.take i) + W ^ i * (a[i] + W * val (a.drop (i + 1))) < W ^ i + W ^ i * (a[i] + W * val (a.drop (i + 1))) := by omega
    _ = W ^ i * (a[i] + 1 + W * val (a.drop (i + 1))) := by rw [Nat.add_right_comm, Nat.mul_add _ _ 1]; omega
    _ ≤ W ^ i * (b[i]'(hl ▸ hi) + W * val (a.drop (i + 1))) := Nat.mul_le_mul_left _ (by omega)
    _ ≤ _ := Nat.le_add_left _ _

/-- A list of words times f, plus c. -/
def timesL (f : Nat) : List Nat → Nat → List Nat
  | [], c => if 0 < c then [c] else []
  | x :: l, c => (x * f + c) % W :: timesL f l ((x * f + c) / W)

theorem val_timesL (f : Nat) (l : List Nat) : ∀ c, val (timesL f l c) = val l * f + c := by
  induction l with
  | nil => intro c; unfold timesL; split <;> simp [val]; omega
  | cons x l ih =>
    intro c
    simp only [timesL, val, ih]
    have := Nat.mod_add_div (x * f + c) W
    rw [Nat.mul_add, Nat.add_mul]
    have e : W * (val l * f) = W * val l * f := (Nat.mul_assoc _ _ _).symm
    omega

theorem carry_lt {f x c : Nat} (hx : x < W) (hc : c < f) : (x * f + c) / W < f := by
  apply Nat.div_lt_of_lt_mul
  have : (x + 1) * f ≤ W * f := Nat.mul_le_mul_right _ hx
  rw [Nat.add_mul] at this
  omega

theorem norm_nil : Norm [] := ⟨by simp, by simp⟩
theorem norm_cons {x : Nat} {l : List Nat} (hx : x < W) (h : Norm l) (h0 : l = [] → 0 < x) : Norm (x :: l) := by
  refine ⟨?_, ?_⟩
  · intro y hy
    rcases List.mem_cons.1 hy with rfl | hy
    · exact hx
    · exact h.word y hy
  · intro hn
    cases l with
    | nil => simpa using h0 rfl
    | cons y l => rw [List.getLast_cons (by simp)]; exact h.last (by simp)
theorem norm_tail {x : Nat} {l : List Nat} (h : Norm (x :: l)) : Norm l := by
  refine ⟨fun y hy => h.word y (List.mem_cons_of_mem _ hy), fun hn => ?_⟩
  have := h.last (by simp)
  rwa [List.getLast_cons hn] at this

theorem norm_timesL (f : Nat) (hf : 0 < f) (hfW : f ≤ W) (l : List Nat) : ∀ c, c < f → Norm l → Norm (timesL f l c) := by
  induction l with
  | nil =>
    intro c hc _
    unfold timesL
    split
    · exact norm_cons (by omega) norm_nil (fun _ => by assumption)
    · exact norm_nil
  | cons x l ih =>
    intro c hc hn
    have hx := hn.word x List.mem_cons_self
    refine norm_cons (Nat.mod_lt _ W_pos) (ih _ (carry_lt hx hc) (norm_tail hn)) ?_
    intro he
    cases l with
    | nil =>
      have hx0 := hn.last (by simp)
      simp at hx0
      unfold timesL at he
      split at he
      · cases he
      · rename_i h0
        have h1 : (x * f + c) / W = 0 := Nat.eq_zero_of_not_pos h0
        have h2 : x * f + c < W := by
          rcases Nat.lt_or_ge (x * f + c) W with h | h
          · exact h
          · have := (Nat.one_le_div_iff W_pos).2 h; omega
        rw [Nat.mod_eq_of_lt h2]
        have := Nat.mul_pos hx0 hf
        omega
    | cons y l => unfold timesL at he; cases he

theorem length_timesL (f : Nat) (l : List Nat) : ∀ c, (timesL f l c).length ≤ l.length + 1 := by
  induction l with
  | nil => intro c; unfold timesL; split <;> simp
  | cons x l ih => intro c; simp only [timesL, List.length_cons]; exact Nat.succ_le_succ (ih _)

/-- 'times' word by word: what lies in memory after k rounds, and the carry. -/
def headL (f : Nat) : List Nat → Nat → Nat → List Nat
  | _, _, 0 => []
  | [], _, _ => []
  | x :: l, c, k + 1 => (x * f + c) % W :: headL f l ((x * f + c) / W) k
def carryL (f : Nat) : List Nat → Nat → Nat → Nat
  | _, c, 0 => c
  | [], c, _ => c
  | x :: l, c, k + 1 => carryL f l ((x * f + c) / W) k

theorem timesL_split (f : Nat) (l : List Nat) : ∀ c k, k ≤ l.length → timesL f l c = headL f l c k ++ timesL f (l.drop k) (carryL f l c k) := by
  induction l with
  | nil => intro c k hk; simp at hk; subst hk; simp [headL, carryL]
  | cons x l ih =>
    intro c k hk
    cases k with
    | zero => simp [headL, carryL]
    | succ k => simp only [timesL, headL, carryL, List.drop_succ_cons, List.cons_append]; rw [ih _ k (by simpa using hk)]
theorem headL_length (f : Nat) (l : List Nat) : ∀ c k, k ≤ l.length → (headL f l c k).length = k := by
  induction l with
  | nil => intro c k hk; simp at hk; subst hk; simp [headL]
  | cons x l ih =>
    intro c k hk
    cases k with
    | zero => simp [headL]
    | succ k => simp only [headL, List.length_cons]; rw [ih _ k (by simpa using hk)]
theorem carryL_lt (f : Nat) (l : List Nat) : ∀ c k, c < f → (∀ x ∈ l, x < W) → carryL f l c k < f := by
  induction l with
  | nil => intro c k hc _; cases k <;> exact hc
  | cons x l ih =>
    intro c k hc h
    cases k with
    | zero => exact hc
    | succ k => exact ih _ k (carry_lt (h x List.mem_cons_self) hc) (fun y hy => h y (List.mem_cons_of_mem _ hy))
theorem carryL_succ (f : Nat) (l : List Nat) : ∀ c k, (h : k < l.length) → carryL f l c (k + 1) = (l[k] * f + carryL f l c k) / W := by
  induction l with
  | nil => intro c k h; simp at h
  | cons x l ih =>
    intro c k h
    cases k with
    | zero => cases l <;> simp [carryL]
    | succ k => simp only [carryL, List.getElem_cons_succ]; exact ih _ k (by simpa using h)
theorem headL_succ (f : Nat) (l : List Nat) : ∀ c k, (h : k < l.length) → headL f l c (k + 1) = headL f l c k ++ [(l[k] * f + carryL f l c k) % W] := by
  induction l with
  | nil => intro c k h; simp at h
  | cons x l ih =>
    intro c k h
    cases k with
    | zero => cases l <;> simp [headL, carryL]
    | succ k => simp only [headL, carryL, List.getElem_cons_succ, List.cons_append]; rw [ih _ k (by simpa using h)]

/-! ### Whole roots -/
def IsRoot (e z n : Nat) : Prop := n ^ z ≤ 10 ^ e ∧ 10 ^ e < (n + 1) ^ z

theorem isRoot_unique {e z n m : Nat} (h : IsRoot e z n) (h' : IsRoot e z m) : n = m := by
  rcases Nat.lt_trichotomy n m with hlt | rfl | hlt
  · have := Nat.pow_le_pow_left (n := n + 1) (m := m) hlt z
    exact absurd (Nat.lt_of_lt_of_le h.2 (Nat.le_trans this h'.1)) (Nat.lt_irrefl _)
  · rfl
  · have := Nat.pow_le_pow_left (n := m + 1) (m := n) hlt z
    exact absurd (Nat.lt_of_lt_of_le h'.2 (Nat.le_trans this h.1)) (Nat.lt_irrefl _)

/-- The root by counting up from n. -/
def rootUp (e z : Nat) : Nat → Nat → Nat
  | 0, n => n
  | k + 1, n => if (n + 1) ^ z ≤ 10 ^ e then rootUp e z k (n + 1) else n
def rootN (e z : Nat) : Nat := rootUp e z (10 ^ (e + 1)) 0

theorem rootUp_is (e z : Nat) : ∀ k n, n ^ z ≤ 10 ^ e → 10 ^ e < (n + k + 1) ^ z → IsRoot e z (rootUp e z k n) := by
  intro k
  induction k with
  | zero => intro n h1 h2; exact ⟨h1, h2⟩
  | succ k ih =>
    intro n h1 h2
    unfold rootUp
    split
    · exact ih (n + 1) (by assumption) (by rw [Nat.add_right_comm n 1 k]; exact h2)
    · exact ⟨h1, by omega⟩
theorem rootN_is (e z : Nat) (hz : 1 ≤ z) : IsRoot e z (rootN e z) := by
  refine rootUp_is e z _ 0 ?_ ?_
  · rw [Nat.zero_pow (by omega)]; exact Nat.zero_le _
  · calc 10 ^ e < 10 ^ (e + 1) + 1 := by
          have := Nat.pow_le_pow_right (show 0 < 10 by decide) (Nat.le_succ e)
          exact Nat.lt_succ_of_le this
      _ = (0 + 10 ^ (e + 1) + 1) ^ 1 := by rw [Nat.pow_one, Nat.zero_add]
      _ ≤ _ := Nat.pow_le_pow_right (Nat.succ_pos _) hz
theorem rootN_eq {e z n : Nat} (hz : 1 ≤ z) (h : IsRoot e z n) : rootN e z = n := isRoot_unique (rootN_is e z hz) h
attribute [irreducible] rootN

theorem low_root (e z : Nat) : (10 ^ (e / z)) ^ z ≤ 10 ^ e := by
  rw [← Nat.pow_mul]
  exact Nat.pow_le_pow_right (by decide) (Nat.div_mul_le_self e z)
theorem high_root (e z : Nat) (hz : 1 ≤ z) : 10 ^ e < (10 * 10 ^ (e / z)) ^ z := by
  rw [← Nat.pow_succ', ← Nat.pow_mul]
  refine Nat.pow_lt_pow_right (by decide) ?_
  have := Nat.div_add_mod e z
  have h2 := Nat.mod_lt e (show z > 0 by omega)
  rw [Nat.succ_mul, Nat.mul_comm]; omega
end Go.Proofs.YtihbjimnjhfpeaaGreat.Lt.Pm

/- Walks of the big numbers of package lethal: times, above, power: contracts. -/
namespace Go.Proofs.YtihbjimnjhfpeaaGreat.Lt
open Go.RowKit Go.Lib

theorem add64 (x y c : Int) (hx : 0 ≤ x) (hy : 0 ≤ y) (hc0 : 0 ≤ c) (hc : c ≤ 1) (w : World) : (callFunc 189 #[.int .u64 x, .int .u64 y, .int .u64 c]).run Tryz.prog w =
    .ok (.value (.tuple #[.int .u64 ((x + y + c) % 18446744073709551616), .int .u64 ((x + y + c) / 18446744073709551616)])) w := by
  rw [run_callFunc_extern Tryz.func189 (by kernel_rfl) (by kernel_rfl) (by kernel_rfl) (e := add64Entry) (by kernel_rfl), run_add64 x y c hx hy hc0 hc]
  rfl
theorem add64_0 (x y : Int) (hx : 0 ≤ x) (hy : 0 ≤ y) (w : World) : (callFunc 189 #[.int .u64 x, .int .u64 y, .int .u64 0]).run Tryz.prog w =
    .ok (.value (.tuple #[.int .u64 ((x + y) % 18446744073709551616), .int .u64 ((x + y) / 18446744073709551616)])) w := by
  simpa using add64 x y 0 hx hy (Int.le_refl 0) (by decide) w

def hiW (x y : Nat) : Nat := x * y / 18446744073709551616
def loW (x y : Nat) : Nat := x * y % 18446744073709551616

set_option maxHeartbeats 1000000 in
theorem mul64 (x y : Nat) (hx : x < 18446744073709551616) (hy : y < 18446744073709551616) (w : World) :
    Calls Tryz.prog 148 #[.int .u64 x, .int .u64 y] w fun e w' => e = .returned (.tuple #[.int .u64 ((hiW x y : Nat) : Int), .int .u64 ((loW x y : Nat) : Int)]) ∧ w = w' := by
  unfold hiW loW
  obtain ⟨bd, bt, bw, hhi⟩ := Lib.mul64_hi x y hx hy
  have ba := Lib.half_mul_le (a := x / 4294967296) (b := y / 4294967296) (by omega) (by omega)
  have bb := Lib.half_mul_le (a := x / 4294967296) (b := y % 4294967296) (by omega) (by omega)
  have bc := Lib.half_mul_le (a := x % 4294967296) (b := y / 4294967296) (by omega) (by omega)
  have ba' : x / 4294967296 * (y / 4294967296) < 18446744073709551616 := by omega
  have bb' : x / 4294967296 * (y % 4294967296) < 18446744073709551616 := by omega
  have bc' : x % 4294967296 * (y / 4294967296) < 18446744073709551616 := by omega
  have bh1 : x / 4294967296 * (y / 4294967296) + (x / 4294967296 * (y % 4294967296) + x % 4294967296 * (y % 4294967296) / 4294967296) / 4294967296 < 18446744073709551616 := by omega
  have bh : x / 4294967296 * (y / 4294967296) + (x / 4294967296 * (y % 4294967296) + x % 4294967296 * (y % 4294967296) / 4294967296) / 4294967296 + ((x / 4294967296 * (y % 4294967296) + x % 4294967296 * (y % 4294967296) / 4294967296) % 4294967296 + x % 4294967296 * (y / 4294967296)) / 4294967296 < 18446744073709551616 := by omega
  go_enter Tryz.func148, Tryz.ntmps148
  go_wp2
  simp only [Mul64.maskN x hx, Mul64.maskN y hy, Mul64.divN, Mul64.mulN, Mul64.addN, Mul64.wrapN _ bd, Mul64.wrapN _ bb', Mul64.wrapN _ bt, Mul64.maskN _ bt, Mul64.wrapN _ bc', Mul64.wrapN _ bw, Mul64.wrapN _ ba', Mul64.wrapN _ bh1, Mul64.wrapN _ bh, Mul64.wrapM (x * y)]
  rw [hhi]
  go_ret2
  exact ⟨rfl, rfl⟩

def wv (l : List Nat) : List Value := l.map fun (x : Nat) => Value.int .u64 (x : Int)
theorem wv_get (l : List Nat) (k : Nat) (h : k < l.length) : (wv l)[k]? = some (.int .u64 (l[k] : Nat)) := by simp [wv, h]
theorem wv_append (a b : List Nat) : wv (a ++ b) = wv a ++ wv b := by simp [wv]
theorem wv_set (l : List Nat) (k x : Nat) : (wv l).set k (.int .u64 (x : Int)) = wv (l.set k x) := by simp [wv, List.map_set]
/-- A number in memory of the call's own: the slice value, its words. -/
def NumV (w : World) (base : Nat) (v : Value) (l : List Nat) : Prop := w.ownsRow base 194 1 v l.length (wv l)

theorem times_step (f : Nat) (l : List Nat) (k : Nat) (hk : k < l.length) (x : Nat) (hx : x = (l[k] * f + Pm.carryL f l 0 k) % Pm.W) :
    (Pm.headL f l 0 k ++ l.drop k).set k x = Pm.headL f l 0 (k + 1) ++ l.drop (k + 1) := by
  have hl := Pm.headL_length f l 0 k (by omega)
  rw [List.set_append_right _ _ (by omega), hl, Nat.sub_self, Pm.headL_succ f l 0 k hk, hx]
  rw [List.drop_eq_getElem_cons hk, List.set_cons_zero, List.append_assoc]
  rfl

theorem mul_split (x f c : Nat) : (loW x f + c) % 18446744073709551616 = (x * f + c) % Pm.W ∧ hiW x f + (loW x f + c) / 18446744073709551616 = (x * f + c) / Pm.W := by
  unfold loW hiW Pm.W
  omega

theorem timesLen (f : Nat) (l : List Nat) (k : Nat) (hk : k ≤ l.length) : (Pm.headL f l 0 k ++ l.drop k).length = l.length := by
  have := Pm.headL_length f l 0 k hk
  simp [this]; omega
theorem times_cell {wr : World} {base g cap f k : Nat} {l : List Nat} (hk : k < l.length) (hown : NumV wr base (.slice (some ⟨g, 0, none⟩) l.length cap) (Pm.headL f l 0 k ++ l.drop k)) :
    wr.cell? ⟨g, k, none⟩ = some (.int .u64 (l[k] : Nat)) ∧ wr.frozen? ⟨g, k, none⟩ = false := by
  have hh := Pm.headL_length f l 0 k (by omega)
  unfold NumV at hown
  rw [timesLen f l k (by omega)] at hown
  refine ⟨?_, World.ownsRow.frozenAt hown k⟩
  rw [World.ownsRow.cellAt hown k (by omega), wv_get _ k (by rw [timesLen f l k (by omega)]; exact hk)]
  simp [List.getElem_append_right, hh]
theorem times_rel {wr : World} {base g cap f k : Nat} {l : List Nat} (hk : k < l.length) (hown : NumV wr base (.slice (some ⟨g, 0, none⟩) l.length cap) (Pm.headL f l 0 k ++ l.drop k)) (u : Int)
    (hu : u = ((l[k] * f + Pm.carryL f l 0 k) % Pm.W : Nat)) :
    NumV (wr.setCell ⟨g, k, none⟩ (.int .u64 u)) base (.slice (some ⟨g, 0, none⟩) l.length cap) (Pm.headL f l 0 (k + 1) ++ l.drop (k + 1)) ∧ wr.grownBy (wr.setCell ⟨g, k, none⟩ (.int .u64 u)) (some g) := by
  subst hu
  unfold NumV at hown ⊢
  rw [timesLen f l k (by omega)] at hown
  rw [timesLen f l (k + 1) (by omega)]
  have := World.ownsRow.stored hown k (.int .u64 ((l[k] * f + Pm.carryL f l 0 k) % Pm.W : Nat))
  rw [wv_set, times_step f l k hk _ rfl] at this
  exact this
theorem gtrans {a b c : World} {row : Option Nat} (h : a.grownBy b row) (h' : b.grownBy c row) : a.grownBy c row :=
  ⟨h'.os.trans h.os, h'.tape.trans h.tape, h'.output.trans h.output, Nat.le_trans h.size h'.size, fun k hk hr => (h'.block k (Nat.lt_of_lt_of_le hk h.size) hr).trans (h.block k hk hr)⟩

theorem info_u64 : (Tryz.prog.info? 194).map (fun i => (i.zero, i.size, i.bytes)) = some (some (.int .u64 0), 1, 8) := by kernel_rfl
theorem times_end0 (f : Nat) (l : List Nat) (h : Pm.carryL f l 0 l.length = 0) : Pm.timesL f l 0 = Pm.headL f l 0 l.length ++ l.drop l.length := by
  rw [Pm.timesL_split f l 0 l.length (Nat.le_refl _), List.drop_length, h]; rfl
theorem times_end1 (f : Nat) (l : List Nat) (h : 0 < Pm.carryL f l 0 l.length) : Pm.timesL f l 0 = (Pm.headL f l 0 l.length ++ l.drop l.length) ++ [Pm.carryL f l 0 l.length] := by
  rw [Pm.timesL_split f l 0 l.length (Nat.le_refl _), List.drop_length]
  unfold Pm.timesL; rw [if_pos h]; simp
theorem cell_one_at {w : World} {c : Value} {T : TypeId} : ∀ j u, [c][j]? = some u → (w.alloc (.cells #[c] T)).cell? ((⟨w.heap.size, 0, none⟩ : Addr).add j) = some u := by
  intro j u hj
  match j, hj with
  | 0, hj => simp at hj; subst hj; simp [Addr.add, cell_alloc_new]
theorem one_cell {k : IntKind} {n : Int} : ∀ u ∈ [Value.int k n], u.oneCell' = true := by intro u hu; simp at hu; subst hu; rfl
/-- What times hands back. -/
def TimesPost (base g : Nat) (l : List Nat) (f : Nat) (w : World) (e : Ending) (w' : World) : Prop := ∃ v', e = .returned v' ∧ NumV w' base v' (Pm.timesL f l 0) ∧ w.grownBy w' (some g)
theorem times_post0 {base g cap f : Nat} {l : List Nat} {w wr : World} (h : Pm.carryL f l 0 l.length = 0) (hown : NumV wr base (.slice (some ⟨g, 0, none⟩) l.length cap) (Pm.headL f l 0 l.length ++ l.drop l.length)) (hg : w.grownBy wr (some g)) :
    TimesPost base g l f w (.returned (.slice (some ⟨g, 0, none⟩) l.length cap)) wr :=
  ⟨_, rfl, by rw [times_end0 f l h]; exact hown, hg⟩
theorem times_post1 {base g f : Nat} {l : List Nat} {w wr w1 : World} {o : Obj} {v' : Value} (h : 0 < Pm.carryL f l 0 l.length)
    (hown' : w1.ownsRow base 194 1 v' (l.length + 1) (wv (Pm.headL f l 0 l.length ++ l.drop l.length) ++ [.int .u64 (Pm.carryL f l 0 l.length : Nat)])) (hg : w.grownBy wr (some g)) (hg' : (wr.alloc o).grownBy w1 (some g)) :
    TimesPost base g l f w (.returned v') w1 := by
  refine ⟨_, rfl, ?_, gtrans (gtrans hg (World.grownBy_alloc wr o _)) hg'⟩
  have hl := timesLen f l l.length (Nat.le_refl _)
  rw [times_end1 f l h]
  unfold NumV
  rw [wv_append, List.length_append, hl]
  exact hown'

set_option maxHeartbeats 1000000 in
theorem times_loop (base g cap : Nat) (l : List Nat) (f : Nat) (w : World) (hf : 0 < f) (hf2 : f < 9000000000000000000) (hl : l ≠ []) (hw : ∀ x ∈ l, x < Pm.W) (hlen : l.length ≤ 1000000) (hbase : base ≤ w.heap.size)
    (hown : NumV w base (.slice (some ⟨g, 0, none⟩) l.length cap) l) :
    Calls Tryz.prog 183 #[.slice (some ⟨g, 0, none⟩) l.length cap, .int .i64 f] w (TimesPost base g l f w) := by
  obtain ⟨i0, hi, hz0, hz1, hz2⟩ := info_parts info_u64
  go_enter Tryz.func183, Tryz.ntmps183
  go_wp2
  go_loopw [5, 14] (fun c i wr => ∃ k : Nat, k ≤ l.length ∧ i = .int .i64 k ∧ c = .int .u64 (Pm.carryL f l 0 k : Nat) ∧ NumV wr base (.slice (some ⟨g, 0, none⟩) l.length cap) (Pm.headL f l 0 k ++ l.drop k) ∧ w.grownBy wr (some g))
    (fun _ i _ => l.length - (intOf i).toNat)
  case atStart => exact ⟨0, Nat.zero_le _, rfl, by cases l <;> rfl, by simpa [Pm.headL] using hown, World.grownBy.refl _ _⟩
  case round =>
    obtain ⟨k, hk, rfl, rfl, hown, hg⟩ := hrel
    by_cases hlt : k < l.length
    · obtain ⟨hcell, hfz⟩ := times_cell hlt hown
      obtain ⟨x, hx⟩ : ∃ x, x = l[k] := ⟨_, rfl⟩
      obtain ⟨c, hc⟩ : ∃ c, c = Pm.carryL f l 0 k := ⟨_, rfl⟩
      have hnc := hid (Pm.carryL_succ f l 0 k hlt)
      rw [← hx] at hcell
      have hx1 : x < 18446744073709551616 := by have := hw l[k] (List.getElem_mem hlt); rw [← hx] at this; exact this
      have hc1 : c < f := by rw [hc]; exact Pm.carryL_lt f l 0 k hf hw
      have HX := hid hx; clear hx
      have HC := hid hc
      rw [← hc]
      clear hc
      have hlo : loW x f < 18446744073709551616 := Nat.mod_lt _ (by decide)
      obtain ⟨hs1, hs2⟩ := mul_split x f c
      have hcy : (x * f + c) / Pm.W < f := Pm.carry_lt hx1 hc1
      rw [← hs2] at hcy
      have HS1 := hid hs1; have HS2 := hid hs2; clear hs1 hs2
      go_wp2_with (first | (go_at_call 148; refine (mul64 x f hx1 (by omega) _).mono ?_; rintro e w' ⟨rfl, rfl⟩) | simp only [add64_0 (loW x f : Nat) c (by omega) (by omega)])
      go_roundw
      case rel =>
        have R := times_rel hlt hown (((loW x f : Nat) + c) % 18446744073709551616) (by rw [← HX.out, ← HC.out, ← HS1.out]; omega)
        refine ⟨k + 1, by omega, by go_num, ?_, R.1, gtrans hg R.2⟩
        rw [hnc.out, ← HX.out, ← HC.out, ← HS2.out]
        go_num
      case measure => simp [intOf]; omega
    · obtain rfl : k = l.length := by omega
      obtain ⟨c, hc⟩ : ∃ c, c = Pm.carryL f l 0 l.length := ⟨_, rfl⟩
      rw [← hc]
      have HC := hid hc; clear hc
      by_cases hc0 : 0 < c
      · have hown2 : wr.ownsRow base 194 1 (.slice (some ⟨g, 0, none⟩) l.length cap) l.length (wv (Pm.headL f l 0 l.length ++ l.drop l.length)) := by
          have := hown; unfold NumV at this; rwa [timesLen f l l.length (Nat.le_refl _)] at this
        have hz := hg.size
        go_wp2_with (at_builtin; refine wpList_append_own _ rfl (.tmp 42) (.tmp 44) 223 rfl base 194 i0 (.int .u64 0) 1 8 Tryz.underlying223 hi hz0 hz1 hz2 rfl (by decide) _ _ _ rfl (hown2.alloc _) ⟨wr.heap.size, 0, none⟩ 1 1 [.int .u64 (c : Nat)] rfl rfl cell_one_at one_cell (by unfold maxLen; omega) (by omega) (by simp; omega) ?_; intro v' w1 hown' hgrow _)
        go_ret
        exact times_post1 (by rw [← HC.out]; exact hc0) (by rw [← HC.out]; exact hown') hg hgrow
      · obtain rfl : c = 0 := by omega
        go_wp2
        go_ret
        exact times_post0 HC.out.symm hown hg
end Go.Proofs.YtihbjimnjhfpeaaGreat.Lt

/- Walks of the big numbers of package lethal: times, power: contracts. -/
namespace Go.Proofs.YtihbjimnjhfpeaaGreat.Lt
open Go.RowKit Go.Lib

/-- What times hands back, whatever the slice. -/
def TimesP (base : Nat) (v : Value) (l : List Nat) (f : Nat) (w : World) (e : Ending) (w' : World) : Prop := ∃ v', e = .returned v' ∧ NumV w' base v' (Pm.timesL f l 0) ∧ w.grownBy w' v.ownBlock

theorem times_any (base : Nat) (v : Value) (l : List Nat) (f : Nat) (w : World) (hf : 0 < f) (hf2 : f < 9000000000000000000) (hl : l ≠ []) (hw : ∀ x ∈ l, x < Pm.W) (hlen : l.length ≤ 1000000) (hbase : base ≤ w.heap.size) (hown : NumV w base v l) :
    Calls Tryz.prog 183 #[v, .int .i64 f] w (TimesP base v l f w) := by
  have hv : ∃ g cap, v = .slice (some ⟨g, 0, none⟩) l.length cap := by
    rcases hown.2 with ⟨_, h0⟩ | ⟨g, cap, cur, rfl, _⟩
    · exact absurd (List.eq_nil_of_length_eq_zero h0) hl
    · exact ⟨g, cap, rfl⟩
  obtain ⟨g, cap, rfl⟩ := hv
  exact times_loop base g cap l f w hf hf2 hl hw hlen hbase hown

def powL (b : Nat) : Nat → List Nat
  | 0 => [1]
  | k + 1 => Pm.timesL b (powL b k) 0
theorem powL_norm (b : Nat) (hb : 0 < b) (hb2 : b < 9000000000000000000) (k : Nat) : Pm.Norm (powL b k) := by
  induction k with
  | zero => exact Pm.norm_cons (by unfold Pm.W; omega) Pm.norm_nil (fun _ => by decide)
  | succ k ih => exact Pm.norm_timesL b hb (by unfold Pm.W; omega) _ 0 hb ih
theorem powL_val (b k : Nat) : Pm.val (powL b k) = b ^ k := by
  induction k with
  | zero => rfl
  | succ k ih => unfold powL; rw [Pm.val_timesL, ih, Nat.pow_succ]; rfl
theorem powL_len (b k : Nat) : (powL b k).length ≤ k + 1 := by
  induction k with
  | zero => exact Nat.le_refl _
  | succ k ih => exact Nat.le_trans (Pm.length_timesL b _ 0) (by omega)
theorem powL_ne (b k : Nat) : powL b k ≠ [] := by
  cases k with
  | zero => simp [powL]
  | succ k =>
    unfold powL
    cases h : powL b k with
    | nil => exact absurd h (by cases k with | zero => simp [powL] | succ k => exact (powL_ne b (k + 1)))
    | cons x l => simp [Pm.timesL]

/-- What power hands back: a new number. -/
def PowerP (b n : Nat) (w : World) (e : Ending) (w' : World) : Prop := ∃ v, e = .returned v ∧ NumV w' w.heap.size v (powL b n) ∧ Below w.heap.size w w'

theorem power_start {w w0 w1 : World} {o : Obj} {v' : Value} (h0 : w.grownBy w0 none) (h1 : (w0.alloc o).grownBy w1 (some w.heap.size))
    (hown : w1.ownsRow w.heap.size 194 1 v' 1 ([] ++ [.int .u64 1])) (b : Nat) : NumV w1 w.heap.size v' (powL b 0) ∧ Below w.heap.size w w1 :=
  ⟨hown, (((Below.refl _ _).grown h0 (Nat.le_refl _) (fun k h => by cases h)).alloc h0.size _).grown h1 (by have := h0.size; simp; omega) (fun k h => by cases h; exact Nat.le_refl _)⟩
theorem power_step {w wr w1 : World} {v v' : Value} {b k : Nat} (hown : NumV wr w.heap.size v (powL b k)) (hB : Below w.heap.size w wr) (h1 : NumV w1 w.heap.size v' (Pm.timesL b (powL b k) 0)) (hg : wr.grownBy w1 v.ownBlock) :
    NumV w1 w.heap.size v' (powL b (k + 1)) ∧ Below w.heap.size w w1 :=
  ⟨h1, hB.grown hg hB.size (fun j hj => (World.ownsRow.lt hown j hj).1)⟩

set_option maxHeartbeats 1000000 in
theorem power_any (b n : Nat) (w : World) (hb : 0 < b) (hb2 : b < 9000000000000000000) (hn : n ≤ 100000) :
    Calls Tryz.prog 182 #[.int .i64 b, .int .i64 n] w (PowerP b n w) := by
  obtain ⟨i0, hi, hz0, hz1, hz2⟩ := info_parts info_u64
  go_enter Tryz.func182, Tryz.ntmps182
  go_wp2_with (first | (at_make; refine wpList_make_own _ rfl _ _ 223 rfl w.heap.size 194 i0 (.int .u64 0) 1 Tryz.underlying223 hi hz0 hz1 _ _ _ (n + 1) rfl rfl (by omega) (by rw [hz2]; omega) (by unfold maxLen; omega) (Nat.le_refl _) ?_; intro w0 hown0 hgrow0) | (at_builtin; refine wpList_append_own _ rfl (.tmp 8) (.tmp 9) 223 rfl w.heap.size 194 i0 (.int .u64 0) 1 8 Tryz.underlying223 hi hz0 hz1 hz2 rfl (by decide) _ _ _ rfl (hown0.alloc _) ⟨w0.heap.size, 0, none⟩ 1 1 [.int .u64 1] rfl rfl cell_one_at one_cell (by unfold maxLen; omega) (by omega) (by have := hgrow0.size; simp; omega) ?_; intro v1 w1 hown1 hgrow1 _))
  obtain ⟨hn1, hB1⟩ := power_start hgrow0 hgrow1 hown1 b
  clear hown1 hgrow1 hown0 hgrow0
  go_loopw [5, 12] (fun v i wr => ∃ k : Nat, k ≤ n ∧ i = .int .i64 k ∧ NumV wr w.heap.size v (powL b k) ∧ Below w.heap.size w wr) (fun _ i _ => n - (intOf i).toNat)
  case atStart => exact ⟨0, Nat.zero_le _, rfl, hn1, hB1⟩
  case round =>
    obtain ⟨k, hk, rfl, hv, hB⟩ := hrel
    clear hn1 hB1
    by_cases hlt : k < n
    · have hlen := powL_len b k
      have hnm := powL_norm b hb hb2 k
      go_wp2_with (go_at_call 183; refine (times_any w.heap.size _ (powL b k) b _ hb hb2 (powL_ne b k) hnm.word (by omega) hB.size hv).mono ?_; rintro e w2 ⟨v2, rfl, hv2, hg2⟩)
      obtain ⟨r1, r2⟩ := power_step hv hB hv2 hg2
      go_roundw
      case rel => exact ⟨k + 1, by omega, by go_num, r1, r2⟩
      case measure => simp [intOf]; omega
    · obtain rfl : k = n := by omega
      go_wp2
      go_ret
      exact ⟨_, rfl, hv, hB⟩
end Go.Proofs.YtihbjimnjhfpeaaGreat.Lt
