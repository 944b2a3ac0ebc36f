/- Texts of this seat, one behind the other. -/
import Derived.Test.YtihbjimnjhfpeaaGreatG06
/- Walk of HeatBetween. -/
namespace Go.Proofs.YtihbjimnjhfpeaaGreat
open Go.RowKit


/-- The least and the greatest of a bath and the first k temperatures, or beyond them. -/
structure InR (lo hi bath : Int) (T : List Int) (k : Nat) : Prop where
  b1 : lo ≤ bath
  b2 : bath ≤ hi
  all : ∀ j (h : j < T.length), j < k → lo ≤ T[j] ∧ T[j] ≤ hi
  r1 : -50000 ≤ lo
  r2 : hi ≤ 200000
theorem InR.next {lo hi bath : Int} {T : List Int} {k : Nat} (h : InR lo hi bath T k) (hk : k < T.length) {lo' hi' : Int} (h1 : lo' ≤ lo) (h2 : hi ≤ hi') (h3 : lo' ≤ T[k]) (h4 : T[k] ≤ hi') (h5 : -50000 ≤ lo') (h6 : hi' ≤ 200000) : InR lo' hi' bath T (k + 1) :=
  ⟨by have := h.b1; omega, by have := h.b2; omega, fun j hj hjk => by
    rcases Nat.lt_or_ge j k with g | g
    · have := h.all j hj g; omega
    · obtain rfl : j = k := by omega
      exact ⟨h3, h4⟩, h5, h6⟩

theorem laid2 {w2 W3 : World} {d0 d1 : Value} {T : TypeId} (h : w2.alloc (.cells #[d0, d1] T) = W3) : Below w2.heap.size w2 W3 ∧ W3.cell? ⟨w2.heap.size, 0, none⟩ = some d0 ∧ W3.cell? ⟨w2.heap.size, 1, none⟩ = some d1 := by
  subst h
  exact ⟨(Below.refl _ _).alloc (Nat.le_refl _) _, cell_alloc_new w2 _ T (0, 0) 0, cell_alloc_new w2 _ T (0, 0) 1⟩
theorem runS_one (c : Cn) (x : Bd) (b : Int) : runS c x [b] = tickS c x b := rfl
theorem tickS_in {c : Cn} {x : Bd} {b lo hi : Int} (hc : c.Ok) (hx : Warm c x) (h1 : lo ≤ b) (h2 : b ≤ hi) (h : ∀ j (g : j < x.1.length), lo ≤ x.1[j] ∧ x.1[j] ≤ hi) : ∀ j (g : j < (tickS c x b).1.length), lo ≤ (tickS c x b).1[j] ∧ (tickS c x b).1[j] ≤ hi := by
  obtain ⟨a1, a2, a3⟩ := hc.ra x.2
  intro j g
  exact tickT_bd a1 a2 a3 hx.len (fun t ht => by obtain ⟨i, hi, rfl⟩ := List.getElem_of_mem ht; exact h i hi) ⟨h1, h2⟩ _ (List.getElem_mem g)

end Go.Proofs.YtihbjimnjhfpeaaGreat

/- Walks of SameInts, Same and Below of both: contracts. -/
namespace Go.Proofs.YtihbjimnjhfpeaaGreat
open Go.RowKit

/-- Whether a is nowhere above b. -/
def belowB : List Int → List Int → Bool
  | [], [] => true
  | a :: l, b :: m => !decide (a > b) && belowB l m
  | _, _ => false
theorem belowB_len : ∀ {l m : List Int}, l.length ≠ m.length → belowB l m = false
  | [], [], h => absurd rfl h
  | [], _ :: _, _ => rfl
  | _ :: _, [], _ => rfl
  | a :: l, b :: m, h => by simp [belowB, belowB_len (l := l) (m := m) (by simpa using h)]
theorem belowB_iff : ∀ {l m : List Int}, l.length = m.length → (belowB l m = true ↔ ∀ j (h : j < l.length) (h' : j < m.length), l[j] ≤ m[j])
  | [], [], _ => by simp [belowB]
  | [], _ :: _, h => by simp at h
  | _ :: _, [], h => by simp at h
  | a :: l, b :: m, h => by
    have hl : l.length = m.length := by simpa using h
    simp only [belowB, Bool.and_eq_true, belowB_iff hl]
    constructor
    · rintro ⟨h0, h1⟩ j hj hj'
      cases j with
      | zero => simpa using h0
      | succ j => simpa using h1 j (by simpa using hj) (by simpa using hj')
    · intro h0
      have h1 : a ≤ b := h0 0 (by simp) (by simp)
      exact ⟨by simpa using h1, fun j hj hj' => h0 (j + 1) (by simpa using hj) (by simpa using hj')⟩
theorem belowB_bad {l m : List Int} {k : Nat} (hk : k < l.length) (hk' : k < m.length) (h : l[k] > m[k]) : belowB l m = false := by
  by_cases hl : l.length = m.length
  · rw [Bool.eq_false_iff]
    intro h0
    have := (belowB_iff hl).1 h0 k hk hk'
    omega
  · exact belowB_len hl
theorem rows_eq {l m : List Int} (hl : l.length = m.length) (h : ∀ j (h : j < l.length) (h' : j < m.length), j < l.length → l[j] = m[j]) : decide (l = m) = true := by
  rw [decide_eq_true_iff]
  exact List.ext_getElem hl fun j h1 h2 => h j h1 h2 h1
theorem rows_ne {l m : List Int} {k : Nat} (hk : k < l.length) (hk' : k < m.length) (h : l[k] ≠ m[k]) : decide (l = m) = false := by
  rw [decide_eq_false_iff_not]
  rintro rfl
  exact h rfl
theorem RowI.most {w : World} {v : Value} {l : List Int} (h : RowI w v l) : l.length ≤ maxLen := by
  rcases h with ⟨_, _, _, rfl⟩ | ⟨_, _, _, _, h, _⟩
  · simp [maxLen]
  · exact h
theorem four_start {w : World} {c0 c1 d0 d1 : Value} {T T' : TypeId} {fz fz' : Nat × Nat} :
    (((w.alloc (.cells #[c0, c1] T fz)).alloc (.cells #[d0, d1] T' fz')).cell? ⟨w.heap.size, 0, none⟩ = some c0 ∧ ((w.alloc (.cells #[c0, c1] T fz)).alloc (.cells #[d0, d1] T' fz')).cell? ⟨w.heap.size, 1, none⟩ = some c1) ∧ (((w.alloc (.cells #[c0, c1] T fz)).alloc (.cells #[d0, d1] T' fz')).cell? ⟨w.heap.size + 1, 0, none⟩ = some d0 ∧ ((w.alloc (.cells #[c0, c1] T fz)).alloc (.cells #[d0, d1] T' fz')).cell? ⟨w.heap.size + 1, 1, none⟩ = some d1) ∧ Below w.heap.size w ((w.alloc (.cells #[c0, c1] T fz)).alloc (.cells #[d0, d1] T' fz')) := by
  have h := box2_start (w := w) (A := #[c0, c1]) (B := #[d0, d1]) (T := T) (T' := T') (fz := fz) (fz' := fz')
  exact ⟨⟨h.fst 0, h.fst 1⟩, ⟨h.snd 0, h.snd 1⟩, h.low⟩




end Go.Proofs.YtihbjimnjhfpeaaGreat

/- What HeatHotter's walk stands on: a hotter body stays hotter; Run of anything; a box of a struct Two. -/
namespace Go.Proofs.YtihbjimnjhfpeaaGreat
open Go.RowKit

def leL (T U : List Int) : Prop := ∀ i (a : i < T.length) (c : i < U.length), T[i] ≤ U[i]
theorem brk_none (T : List Int) : brk 0 false T = false := by simp [brk]
theorem tickS_cold {c : Cn} {T : List Int} {b : Int} (hK : c.K = 0) : tickS c (T, false) b = (tickT c.R c.L (c.a false) (c.b false) T b, false) := by unfold tickS; rw [hK, brk_none]
theorem runS_le {c : Cn} (hc : c.Ok) (hK : c.K = 0) : ∀ (l m : List Int) (T U : List Int), l.length = m.length → leL l m → (∀ b ∈ l, -50000 ≤ b ∧ b ≤ 200000) → (∀ b ∈ m, -50000 ≤ b ∧ b ≤ 200000) → Warm c (T, false) → Warm c (U, false) → leL T U → leL (runS c (T, false) l).1 (runS c (U, false) m).1
  | [], [], T, U, _, _, _, _, _, _, h => h
  | [], _ :: _, _, _, hl, _, _, _, _, _, _ => by simp at hl
  | _ :: _, [], _, _, hl, _, _, _, _, _, _ => by simp at hl
  | b :: l, d :: m, T, U, hl, hle, hb, hd, hT, hU, h => by
    obtain ⟨a1, a2, a3⟩ := hc.ra false
    have hb0 := hb b (List.mem_cons_self)
    have hd0 := hd d (List.mem_cons_self)
    have hT' := hT.tick hc hb0.1 hb0.2
    have hU' := hU.tick hc hd0.1 hd0.2
    have hbd : b ≤ d := hle 0 (by simp) (by simp)
    have hle' : leL l m := fun i a c => hle (i + 1) (by simpa using a) (by simpa using c)
    have hs := tickT_le a1 a2 a3 hT.len hU.len h hbd
    rw [tickS_cold hK] at hT' hU'
    have := runS_le hc hK l m _ _ (by simpa using hl) hle' (fun x hx => hb x (List.mem_cons_of_mem _ hx)) (fun x hx => hd x (List.mem_cons_of_mem _ hx)) hT' hU' hs
    unfold runS at this ⊢
    rw [List.foldl_cons, List.foldl_cons, tickS_cold hK, tickS_cold hK]
    exact this
theorem RowN.rowI {w W : World} {v : Value} {T : List Int} (h : RowN w W v T) (hl : T.length ≤ 48) : RowI W v T := by
  obtain ⟨g, rfl, _, hg⟩ := h
  refine .inr ⟨g, 0, T.length, rfl, by unfold maxLen; omega, fun k hk => ?_⟩
  rw [Nat.zero_add, cell_of_row W g k _ _ _ hg]
  simp [hk]
/-- What Run hands back, whatever came in. -/
def RunAny (w : World) (e : Ending) (w' : World) : Prop := ∃ (v : Value) (br : Bool) (n : Int), e = .returned (.tuple #[.agg #[v, .bool br], .int .i64 n]) ∧ Below w.heap.size w w'
theorem run_any (r l a b k a2 b2 : Int) (w : World) (v : Value) (T : List Int) (br : Bool) (v2 : Value) (l2 : List Int) (hl : RowI w v T) (hl2 : RowI w v2 l2) :
    Calls Tryz.prog 151 #[.agg #[.int .i64 r, .int .i64 l, .int .i64 a, .int .i64 b, .int .i64 k, .int .i64 a2, .int .i64 b2], .agg #[v, .bool br], v2] w (RunAny w) := by
  rcases chkE_cases (bothB r l a b k a2 b2 T br) l2 with hne | ⟨_, hbb, ho, hlen⟩
  · exact (run_err r l a b k a2 b2 w v T br v2 l2 hl hl2 hne).mono fun e w' ⟨h, hb⟩ => ⟨_, _, _, h, hb⟩
  · unfold bothB at hbb
    rw [Bool.and_eq_true] at hbb
    obtain ⟨hcan, hbody⟩ := hbb
    obtain ⟨c, hcv, rfl, rfl, rfl, rfl, rfl, rfl, rfl⟩ := canB_cn hcan
    exact (run_ok c (T, br) v v2 l2 w hcv hbody ho hlen hl hl2).mono fun e w' ⟨u, h, _, hb⟩ => ⟨_, _, _, h, hb⟩
theorem Box1.thirteen {w w1 : World} {c0 c1 c2 c3 c4 c5 c6 c7 c8 c9 c10 c11 c12 : Value} (h : Box1 w w1 #[c0, c1, c2, c3, c4, c5, c6, c7, c8, c9, c10, c11, c12]) :
    w1.cell? ⟨w.heap.size, 0, none⟩ = some c0 ∧ w1.cell? ⟨w.heap.size, 1, none⟩ = some c1 ∧ w1.cell? ⟨w.heap.size, 2, none⟩ = some c2 ∧ w1.cell? ⟨w.heap.size, 3, none⟩ = some c3 ∧ w1.cell? ⟨w.heap.size, 4, none⟩ = some c4 ∧ w1.cell? ⟨w.heap.size, 5, none⟩ = some c5 ∧ w1.cell? ⟨w.heap.size, 6, none⟩ = some c6 ∧ w1.cell? ⟨w.heap.size, 7, none⟩ = some c7 ∧ w1.cell? ⟨w.heap.size, 8, none⟩ = some c8 ∧ w1.cell? ⟨w.heap.size, 9, none⟩ = some c9 ∧ w1.cell? ⟨w.heap.size, 10, none⟩ = some c10 ∧ w1.cell? ⟨w.heap.size, 11, none⟩ = some c11 ∧ w1.cell? ⟨w.heap.size, 12, none⟩ = some c12 :=
  ⟨h.fst 0, h.fst 1, h.fst 2, h.fst 3, h.fst 4, h.fst 5, h.fst 6, h.fst 7, h.fst 8, h.fst 9, h.fst 10, h.fst 11, h.fst 12⟩
end Go.Proofs.YtihbjimnjhfpeaaGreat

/- Walk of HeatHotter where it says nothing: its five early ways out. -/
namespace Go.Proofs.YtihbjimnjhfpeaaGreat
open Go.RowKit

/-- Run's error is chkE's, whatever comes back with it. -/
theorem run_code (r l a b k a2 b2 : Int) (w : World) (v : Value) (T : List Int) (br : Bool) (v2 : Value) (l2 : List Int) (hl : RowI w v T) (hl2 : RowI w v2 l2) :
    Calls Tryz.prog 151 #[.agg #[.int .i64 r, .int .i64 l, .int .i64 a, .int .i64 b, .int .i64 k, .int .i64 a2, .int .i64 b2], .agg #[v, .bool br], v2] w fun e w' => ∃ (u : Value) (bu : Bool), e = .returned (.tuple #[.agg #[u, .bool bu], .int .i64 (chkE (bothB r l a b k a2 b2 T br) l2)]) ∧ Below w.heap.size w w' := by
  rcases chkE_cases (bothB r l a b k a2 b2 T br) l2 with hne | ⟨h0, hbb, ho, hlen⟩
  · exact (run_err r l a b k a2 b2 w v T br v2 l2 hl hl2 hne).mono fun e w' ⟨h, hb⟩ => ⟨_, _, h, hb⟩
  · rw [h0]
    unfold bothB at hbb
    rw [Bool.and_eq_true] at hbb
    obtain ⟨hcan, hbody⟩ := hbb
    obtain ⟨c, hcv, rfl, rfl, rfl, rfl, rfl, rfl, rfl⟩ := canB_cn hcan
    exact (run_ok c (T, br) v v2 l2 w hcv hbody ho hlen hl hl2).mono fun e w' ⟨u, h, _, hb⟩ => ⟨_, _, h, hb⟩
end Go.Proofs.YtihbjimnjhfpeaaGreat
