/- Texts of this seat, one behind the other. -/
import Derived.Test.YtikjgbfbbkmmcaaQva
import Derived.Test.YtikjgbfbbkmmcaaG01
import Derived.Test.YtikjgbfbbkmmcaaLb
import Derived.Test.YtikjgbfbbkmmcaaGt
import Derived.StillTailTactics
/- Baskets in plain words: what a valid list is. -/
namespace Go.Proofs.Ytikjgbfbbkmmcaa
open Go.RowKit

instance : Inhabited Bsk := ⟨⟨0, 0, ⟨#[]⟩, 0⟩⟩
theorem bsk_ext {x y : Bsk} (h1 : x.nu = y.nu) (h2 : x.ca = y.ca) (h3 : x.pr = y.pr) (h4 : x.cn = y.cn) : x = y := by
  cases x; cases y; simp_all
def encB : Enc Bsk where
  cs b := [.int .i64 b.nu, .int .i64 b.ca, .string b.pr, .int .i64 b.cn]
  n := 4
  len _ := rfl
  one := by
    intro x u hu
    simp only [List.mem_cons, List.not_mem_nil, or_false] at hu
    rcases hu with rfl | rfl | rfl | rfl <;> rfl
def inQ (a b c : Int) : Bool := decide (b ≤ a) && decide (a ≤ c)
theorem inQ_iff {a b c : Int} : inQ a b c = true ↔ b ≤ a ∧ a ≤ c := by simp [inQ]
/-- One valid basket. -/
def oneQ (b : Bsk) : Bool := inQ b.nu 1 1000000 && inQ b.ca 0 100000000 && Lt.nameB b.pr.data.toList && inQ b.cn 1 1000000
/-- No two with the same number. -/
def dstQ (l : List Bsk) : Bool := decide (l.Pairwise fun x y => x.nu ≠ y.nu)
/-- In the order in which they came. -/
def ascQ (l : List Bsk) : Bool := decide (l.Pairwise fun x y => befK x y = true)
def bskQ (l : List Bsk) : Bool := decide (l.length ≤ 500) && l.all oneQ && dstQ l && ascQ l
theorem bskQ_iff {l : List Bsk} : bskQ l = true ↔ l.length ≤ 500 ∧ (∀ x ∈ l, oneQ x = true) ∧ (l.Pairwise fun x y => x.nu ≠ y.nu) ∧ (l.Pairwise fun x y => befK x y = true) := by
  simp [bskQ, dstQ, ascQ, and_assoc]
theorem oneQ_iff {b : Bsk} : oneQ b = true ↔ (1 ≤ b.nu ∧ b.nu ≤ 1000000) ∧ (0 ≤ b.ca ∧ b.ca ≤ 100000000) ∧ Lt.nameB b.pr.data.toList = true ∧ (1 ≤ b.cn ∧ b.cn ≤ 1000000) := by
  simp [oneQ, inQ, and_assoc]
/-- A sorted list of the same baskets is the list itself exactly if it is in order. -/
theorem ascQ_sorted {l ss : List Bsk} (hd : l.Pairwise fun x y => x.nu ≠ y.nu) (hp : ss.Perm l) (hs : ss.Pairwise fun x y => ¬ befK y x = true) : l = ss ↔ ascQ l = true := by
  have hd2 : ss.Pairwise fun x y => x.nu ≠ y.nu := (hp.pairwise_iff (fun h e => h e.symm)).2 hd
  have ha := asc_of_le hs hd2
  unfold ascQ
  rw [decide_eq_true_iff]
  constructor
  · intro e; rw [e]; exact ha
  · intro h
    exact asc_uniq (fun x y h1 h2 => befK_asym x y h1 h2) h ha (fun x => (hp.mem_iff).symm)
theorem dst_step {l : List Bsk} {k : Nat} (hk : k < l.length) : (l.take (k + 1)).Pairwise (fun x y => x.nu ≠ y.nu) ↔ (l.take k).Pairwise (fun x y => x.nu ≠ y.nu) ∧ (l.take k).any (fun b => decide (b.nu = l[k].nu)) = false := by
  rw [List.take_succ_eq_append_getElem hk, List.pairwise_append]
  simp only [List.pairwise_cons, List.not_mem_nil, List.mem_singleton, List.any_eq_false, decide_eq_true_eq]
  constructor
  · rintro ⟨h1, _, h2⟩
    exact ⟨h1, fun x hx => h2 x hx _ rfl⟩
  · rintro ⟨h1, h2⟩
    exact ⟨h1, ⟨fun _ h => absurd h (by simp), List.Pairwise.nil⟩, fun x hx y hy => by subst hy; exact h2 x hx⟩
theorem dst_beg {l : List Bsk} (k : Nat) (h : l.Pairwise fun x y => x.nu ≠ y.nu) : (l.take k).Pairwise fun x y => x.nu ≠ y.nu := h.sublist (List.take_sublist _ _)
/-- When the i-th basket came. -/
def caQ (l : List Bsk) (i : Nat) : Int := if h : i < l.length then l[i].ca else (l.getLast?.getD default).ca
theorem caQ_at {l : List Bsk} {i : Nat} (h : i < l.length) : caQ l i = l[i].ca := by unfold caQ; rw [dif_pos h]
theorem caQ_mono {l : List Bsk} (h : l.Pairwise fun x y => befK x y = true) : ∀ i, caQ l i ≤ caQ l (i + 1) := by
  intro i
  by_cases h1 : i + 1 < l.length
  · rw [caQ_at h1, caQ_at (show i < l.length by omega)]
    have := List.pairwise_iff_getElem.1 h i (i + 1) (by omega) h1 (by omega)
    simp only [befK, Bool.or_eq_true, Bool.and_eq_true, decide_eq_true_eq] at this
    omega
  · by_cases h2 : i < l.length
    · rw [caQ_at h2]
      unfold caQ
      rw [dif_neg h1, List.getLast?_eq_getElem?, List.getElem?_eq_getElem (by omega), Option.getD_some]
      have e : i = l.length - 1 := by omega
      subst e
      exact Int.le_refl _
    · unfold caQ
      rw [dif_neg h1, dif_neg h2]
      exact Int.le_refl _
theorem caQ_nonneg {l : List Bsk} (h : ∀ x ∈ l, oneQ x = true) (i : Nat) : 0 ≤ caQ l i := by
  by_cases h2 : i < l.length
  · rw [caQ_at h2]
    exact (oneQ_iff.1 (h _ (List.getElem_mem h2))).2.1.1
  · unfold caQ
    rw [dif_neg h2]
    cases hl : l.getLast? with
    | none => exact Int.le_refl _
    | some x => exact (oneQ_iff.1 (h x (List.mem_of_getLast? hl))).2.1.1
theorem caQ_most {l : List Bsk} (h : ∀ x ∈ l, oneQ x = true) (i : Nat) : caQ l i ≤ 100000000 := by
  by_cases h2 : i < l.length
  · rw [caQ_at h2]
    exact (oneQ_iff.1 (h _ (List.getElem_mem h2))).2.1.2
  · unfold caQ
    rw [dif_neg h2]
    cases hl : l.getLast? with
    | none => decide
    | some x => exact (oneQ_iff.1 (h x (List.mem_of_getLast? hl))).2.1.2
end Go.Proofs.Ytikjgbfbbkmmcaa

/- Walks of cmp.Compare, cmp.Or over two numbers: contracts, without seam's names. -/
namespace Go.Proofs.Ytikjgbfbbkmmcaa
open Go.RowKit

theorem rowI_get {w : World} {a : Option Addr} {n c k : Nat} {l : List Int} (h : RowI w (.slice a n c) l) (_ : n = l.length) (hk : k < l.length) : ∃ b o, a = some ⟨b, o, none⟩ ∧ w.cell? ⟨b, o + k, none⟩ = some (.int .i64 l[k]) := by
  rcases h with ⟨a', c', _, h0⟩ | ⟨b, o, c', hv, _, hc⟩
  · rw [h0] at hk; simp at hk
  · injection hv with h1 h2 h3
    exact ⟨b, o, h1, hc k hk⟩
theorem rowI_two {w : World} {x y : Int} {T : TypeId} {m : Nat} (hm : w.heap.size = m) : RowI (w.alloc (.cells #[.int .i64 x, .int .i64 y] T)) (.slice (some ⟨m, 0, none⟩) 2 2) [x, y] := by
  subst hm
  refine .inr ⟨w.heap.size, 0, 2, rfl, by simp [maxLen], fun k hk => ?_⟩
  match k with
  | 0 => exact cell_alloc_new w _ _ _ 0
  | 1 => exact cell_alloc_new w _ _ _ 1
  | k + 2 => simp at hk; omega
def cmpI (a b : Int) : Int := if a < b then -1 else if b < a then 1 else 0
theorem isNaN_any (a : Int) (w : World) : Calls Try.prog 87 #[.int .i64 a] w fun e w' => e = .returned (.bool false) ∧ w = w' := by
  go_enter Try.func87, Try.ntmps87
  go_wp2
  go_ret
  exact ⟨ret_bool (by simp), rfl⟩
theorem cmp_any (a b : Int) (w : World) : Calls Try.prog 71 #[.int .i64 a, .int .i64 b] w fun e w' => e = .returned (.int .i64 (cmpI a b)) ∧ w = w' := by
  rcases Int.lt_trichotomy a b with h | h | h
  · have hE : Hid (cmpI a b = -1) := by unfold Hid cmpI; rw [if_pos h]
    go_enter Try.func71, Try.ntmps71
    go_wp2_with (go_at_call 87; refine (isNaN_any _ _).mono ?_; rintro e w' ⟨rfl, rfl⟩)
    go_ret
    exact ⟨ret_int hE.out.symm, rfl⟩
  · subst h
    have hE : Hid (cmpI a a = 0) := by unfold Hid cmpI; simp
    go_enter Try.func71, Try.ntmps71
    go_wp2_with (go_at_call 87; refine (isNaN_any _ _).mono ?_; rintro e w' ⟨rfl, rfl⟩)
    go_ret
    exact ⟨ret_int hE.out.symm, rfl⟩
  · have hE : Hid (cmpI a b = 1) := by unfold Hid cmpI; rw [if_neg (by omega), if_pos h]
    have h' : ¬ a < b := by omega
    go_enter Try.func71, Try.ntmps71
    go_wp2_with (go_at_call 87; refine (isNaN_any _ _).mono ?_; rintro e w' ⟨rfl, rfl⟩)
    go_ret
    exact ⟨ret_int hE.out.symm, rfl⟩
theorem cmp_q (a b c : Int) (h : cmpI a b = c) (w : World) : Calls Try.prog 71 #[.int .i64 a, .int .i64 b] w fun e w' => e = .returned (.int .i64 c) ∧ w' = w := by
  rw [← h]
  exact (cmp_any a b w).mono fun _ _ ⟨h1, h2⟩ => ⟨h1, h2.symm⟩
def orI (a b : Int) : Int := if a = 0 then b else a
set_option maxHeartbeats 2000000 in
theorem or_any (a b : Int) (v : Value) (w : World) (hr : RowI w v [a, b]) : Calls Try.prog 70 #[v] w fun e w' => e = .returned (.int .i64 (orI a b)) ∧ w = w' := by
  obtain ⟨va, vc, rfl⟩ := hr.shape
  obtain ⟨g, o, hv, c0⟩ := rowI_get (k := 0) hr rfl (by simp)
  subst hv
  obtain ⟨g', o', hv, c1⟩ := rowI_get (k := 1) hr rfl (by simp)
  injection hv with hv
  injection hv with e1 e2
  subst e1 e2
  simp only [List.getElem_cons_zero, List.getElem_cons_succ, List.length_cons, List.length_nil] at c0 c1 ⊢
  rw [Nat.add_zero] at c0
  clear hr
  by_cases h : a = 0
  · have hE : Hid (orI a b = b) := by unfold Hid orI; rw [if_pos h]
    subst h
    by_cases h2 : b = 0
    · subst h2
      go_enter Try.func70, Try.ntmps70
      go_wp2
      refine wp_loop_rounds 3 ?_
      rw [rounds_succ]
      go_wp2
      rw [rounds_succ]
      go_wp2
      rw [rounds_succ]
      go_wp2
      go_ret
      exact ⟨ret_int hE.out.symm, rfl⟩
    · have h2' : (b != 0) = true := by simpa using h2
      clear h2
      go_enter Try.func70, Try.ntmps70
      go_wp2
      refine wp_loop_rounds 3 ?_
      rw [rounds_succ]
      go_wp2
      rw [rounds_succ]
      go_wp2
      go_ret
      exact ⟨ret_int hE.out.symm, rfl⟩
  · have hE : Hid (orI a b = a) := by unfold Hid orI; rw [if_neg h]
    have h' : (a != 0) = true := by simpa using h
    clear h
    go_enter Try.func70, Try.ntmps70
    go_wp2
    refine wp_loop_rounds 3 ?_
    rw [rounds_succ]
    go_wp2
    go_ret
    exact ⟨ret_int hE.out.symm, rfl⟩
end Go.Proofs.Ytikjgbfbbkmmcaa
