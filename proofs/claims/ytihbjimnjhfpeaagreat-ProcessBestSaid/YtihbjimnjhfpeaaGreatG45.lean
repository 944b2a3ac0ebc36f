/- Texts of this seat, one behind the other. -/
import Derived.Test.YtihbjimnjhfpeaaGreatG35
import Derived.Test.YtihbjimnjhfpeaaGreatG44
/- ProcessBest: what it tells, in plain words. -/
namespace Go.Proofs.YtihbjimnjhfpeaaGreat
open Go.RowKit Go.Lib

/-- The first error of Best. -/
def bsE (vc vk vs : Bool) (t cold cooling : Int) (p : List Int) : Int :=
  if ((vk && vs) && vc) = false then 1 else if ((okL [t, cold] && okL p) && ticksB [cooling]) = false then 7 else if 64 < p.length then 4 else 0
theorem bsE_zero {vc vk vs : Bool} {t cold cooling : Int} {p : List Int} (h : bsE vc vk vs t cold cooling p = 0) :
    vc = true ∧ vk = true ∧ vs = true ∧ okT t = true ∧ okT cold = true ∧ okL p = true ∧ 0 ≤ cooling ∧ cooling ≤ 2000 ∧ p.length ≤ 64 := by
  unfold bsE at h
  split at h
  · cases h
  · split at h
    · cases h
    · split at h
      · cases h
      · rename_i h1 h2 h3
        rw [ticksB_one] at h2
        simp only [okL, List.all_cons, List.all_nil, Bool.and_true, Bool.not_eq_false, Bool.and_eq_true, tick1, decide_eq_true_eq] at h1 h2
        exact ⟨h1.2, h1.1.1, h1.1.2, h2.1.1.1, h2.1.1.2, h2.1.2, h2.2.1, h2.2.2, by omega⟩
/-- The least number that is enough. -/
def lstO (F : Nat → Int) (need : Int) (most : Nat) : Option Nat := (List.range (most + 1)).find? (fun n => decide (need ≤ F n))
theorem lstO_some {F : Nat → Int} {need : Int} {most n : Nat} (h1 : n ≤ most) (h2 : need ≤ F n) (h3 : ∀ j, j < n → F j < need) : lstO F need most = some n := by
  unfold lstO
  rw [List.find?_range_eq_some]
  exact ⟨by simpa using h2, by simp; omega, fun j hj => by have := h3 j hj; simp; omega⟩
theorem lstO_none {F : Nat → Int} {need : Int} {most : Nat} (h : ∀ j, j ≤ most → F j < need) : lstO F need most = none := by
  unfold lstO
  rw [List.find?_eq_none]
  intro x hx
  have := h x (by have := List.mem_range.1 hx; omega)
  simp; omega
theorem MedP.fn {need : Int} {F : Nat → Int} {most : Nat} {w w' : World} {e : Ending} (h : MedP need F most w e w') :
    Below w.heap.size w w' ∧ ((∃ n : Nat, lstO F need most = some n ∧ n ≤ most ∧ e = .returned (.tuple #[.int .i64 (n : Nat), .int .i64 0])) ∨ (lstO F need most = none ∧ e = .returned (.tuple #[.int .i64 0, .int .i64 8]))) := by
  obtain ⟨hb, ⟨n, h1, h2, h3, h4⟩ | ⟨h1, h2⟩⟩ := h
  · exact ⟨hb, .inl ⟨n, lstO_some h1 h2 h3, h1, h4⟩⟩
  · exact ⟨hb, .inr ⟨lstO_none h1, h2⟩⟩
/-- What Least tells as a value: the number, and two more. -/
theorem LeaP.fn {need : Int} {G F : Nat → Int} {most : Nat} {w w' : World} {e : Ending} (hg : ∀ n, n ≤ most → G n = F n) (h : LeaP need G most w e w') :
    Below w.heap.size w w' ∧ ((∃ (n : Nat), lstO F need most = some n ∧ n ≤ most ∧ e = .returned (.tuple #[.int .i64 (n : Nat), .int .i64 (F n), .int .i64 (if n = 0 then -1 else F (n - 1)), .int .i64 0])) ∨ (lstO F need most = none ∧ e = .returned (.tuple #[.int .i64 0, .int .i64 0, .int .i64 0, .int .i64 8]))) := by
  obtain ⟨hb, ⟨n, h1, h2, h3, h4⟩ | ⟨h1, h2⟩⟩ := h
  · refine ⟨hb, .inl ⟨n, lstO_some h1 (by rw [← hg n h1]; exact h2) (fun j hj => by rw [← hg j (by omega)]; exact h3 j hj), h1, ?_⟩⟩
    rw [h4, hg n h1]
    by_cases h0 : n = 0
    · rw [if_pos h0, if_pos h0]
    · rw [if_neg h0, if_neg h0, hg (n - 1) (by omega)]
  · exact ⟨hb, .inr ⟨lstO_none (fun j hj => by rw [← hg j hj]; exact h1 j hj), h2⟩⟩
/-- The choice among the first k temperatures: which, its ticks, what it spoils. -/
def bstO (L : Int → Option Nat) (S : Int → Nat → Int) (p : List Int) : Nat → Option (Nat × Nat × Int)
  | 0 => none
  | k + 1 => match L (p.getD k 0) with
    | none => bstO L S p k
    | some n => match bstO L S p k with
      | none => some (k, n, S (p.getD k 0) n)
      | some (i, m, x) => if S (p.getD k 0) n < x then some (k, n, S (p.getD k 0) n) else some (i, m, x)
section
variable {L : Int → Option Nat} {S : Int → Nat → Int} {p : List Int} {k n i m : Nat} {x b : Int}
theorem bstO_skip (hb : p.getD k 0 = b) (h : L b = none) : bstO L S p (k + 1) = bstO L S p k := by
  rw [bstO, hb, h]
theorem bstO_new (hb : p.getD k 0 = b) (h : L b = some n) (h0 : bstO L S p k = none) : bstO L S p (k + 1) = some (k, n, S b n) := by
  rw [bstO, hb, h, h0]
theorem bstO_less (hb : p.getD k 0 = b) (h : L b = some n) (h0 : bstO L S p k = some (i, m, x)) (hl : S b n < x) : bstO L S p (k + 1) = some (k, n, S b n) := by
  rw [bstO, hb, h, h0]
  simp only [if_pos hl]
theorem bstO_keep (hb : p.getD k 0 = b) (h : L b = some n) (h0 : bstO L S p k = some (i, m, x)) (hl : ¬ S b n < x) : bstO L S p (k + 1) = some (i, m, x) := by
  rw [bstO, hb, h, h0]
  simp only [if_neg hl]
end
def bstV : Option (Nat × Nat × Int) → Value
  | none => .tuple #[.int .i64 0, .int .i64 0, .int .i64 8]
  | some (i, n, _) => .tuple #[.int .i64 (i : Nat), .int .i64 (n : Nat), .int .i64 0]
/-- What a bath's least cook is. -/
def mL (c : Cn) (q : Kl) (Z : Nat) (t cold : Int) (cooling : Nat) (b : Int) : Option Nat := lstO (medF c q.r Z t [] b cold cooling) (q.g * (q.d * 1000000)) (2000 - cooling)
/-- What it spoils. -/
def spB (c : Cn) (x : Kl) (Y : Nat) (t cold : Int) (cooling : Nat) (b : Int) (n : Nat) : Int := maxA (ivN (dishR c (Lt.up x.r Y) (dish0 c t) (cookL b n cold cooling)).2)
/-- What Best answers. -/
def bestA (r l a b k a2 b2 : Int) (q x : Kl) (t cold cooling : Int) (p : List Int) : Value :=
  if bsE (canB r l a b k a2 b2) q.vB x.vB t cold cooling p = 0 then bstV (bstO (mL (cnOf r l a b k a2 b2) q q.z.toNat t cold cooling.toNat) (spB (cnOf r l a b k a2 b2) x x.z.toNat t cold cooling.toNat) p p.length) else .tuple #[.int .i64 0, .int .i64 0, .int .i64 (bsE (canB r l a b k a2 b2) q.vB x.vB t cold cooling p)]
theorem bestA_shape (r l a b k a2 b2 : Int) (q x : Kl) (t cold cooling : Int) (p : List Int) : ∃ i n e : Int, bestA r l a b k a2 b2 q x t cold cooling p = .tuple #[.int .i64 i, .int .i64 n, .int .i64 e] := by
  unfold bestA
  split
  · generalize bstO _ _ _ _ = O
    match O with
    | none => exact ⟨0, 0, 8, rfl⟩
    | some (i, n, _) => exact ⟨i, n, 0, rfl⟩
  · exact ⟨_, _, _, rfl⟩
end Go.Proofs.YtihbjimnjhfpeaaGreat

/- Walk of Best: its early ends: contract. -/
namespace Go.Proofs.YtihbjimnjhfpeaaGreat
open Go.RowKit Go.Lib

theorem B3.can {w W : World} {T1 T2 T3 : TypeId} {A B R : Array Value} (h : B3 w W T1 T2 T3 A B R) (i : Nat) : W.cell? ⟨w.heap.size, i, none⟩ = A[i]? := cell_of_row _ _ i _ _ _ h.one
theorem B3.kil {w W : World} {T1 T2 T3 : TypeId} {A B R : Array Value} (h : B3 w W T1 T2 T3 A B R) (i : Nat) : W.cell? ⟨w.heap.size + 1, i, none⟩ = B[i]? := cell_of_row _ _ i _ _ _ h.two
theorem B3.spo {w W : World} {T1 T2 T3 : TypeId} {A B R : Array Value} (h : B3 w W T1 T2 T3 A B R) (i : Nat) : W.cell? ⟨w.heap.size + 1 + 1, i, none⟩ = R[i]? := cell_of_row _ _ i _ _ _ h.three
theorem klAt_two {W : World} {n : Nat} (q x : Kl) (T : TypeId) (fz : Nat × Nat) (h : W.heap.size = n) : RowKl (W.alloc (.cells #[.string q.s, .int .i64 q.r, .int .i64 q.z, .int .i64 q.d, .int .i64 q.g, .string x.s, .int .i64 x.r, .int .i64 x.z, .int .i64 x.d, .int .i64 x.g] T fz)) n [q, x] := by
  subst h
  intro i hi
  have hi2 : i < 2 := by simpa using hi
  match i, hi2 with
  | 0, _ => exact ⟨cell_alloc_new _ _ _ _ 0, cell_alloc_new _ _ _ _ 1, cell_alloc_new _ _ _ _ 2, cell_alloc_new _ _ _ _ 3, cell_alloc_new _ _ _ _ 4⟩
  | 1, _ => exact ⟨cell_alloc_new _ _ _ _ 5, cell_alloc_new _ _ _ _ 6, cell_alloc_new _ _ _ _ 7, cell_alloc_new _ _ _ _ 8, cell_alloc_new _ _ _ _ 9⟩
/-- valid at a can and two killers laid side by side. -/
theorem pvalid_two (r l a b k a2 b2 : Int) (w : World) (q x : Kl) (n : Nat) (hn : w.heap.size = n) (hs : q.s.size ≤ maxLen) (hx : x.s.size ≤ maxLen) :
    Calls Tryz.prog 27 #[.agg #[.int .i64 r, .int .i64 l, .int .i64 a, .int .i64 b, .int .i64 k, .int .i64 a2, .int .i64 b2], .slice (some ⟨n, 0, none⟩) 2 2] (w.alloc (.cells #[.string q.s, .int .i64 q.r, .int .i64 q.z, .int .i64 q.d, .int .i64 q.g, .string x.s, .int .i64 x.r, .int .i64 x.z, .int .i64 x.d, .int .i64 x.g] 25)) fun e w' => e = .returned (.bool ((q.vB && x.vB) && canB r l a b k a2 b2)) ∧ Below (w.alloc (.cells #[.string q.s, .int .i64 q.r, .int .i64 q.z, .int .i64 q.d, .int .i64 q.g, .string x.s, .int .i64 x.r, .int .i64 x.z, .int .i64 x.d, .int .i64 x.g] 25)).heap.size (w.alloc (.cells #[.string q.s, .int .i64 q.r, .int .i64 q.z, .int .i64 q.d, .int .i64 q.g, .string x.s, .int .i64 x.r, .int .i64 x.z, .int .i64 x.d, .int .i64 x.g] 25)) w' := by
  have := pvalid_any r l a b k a2 b2 _ n 2 [q, x] (klAt_two (W := w) q x 25 (0, 0) hn) (by simpa using ⟨hs, hx⟩) (by simp)
  simpa using this

def BsP (V : Value) (w : World) (e : Ending) (w' : World) : Prop := e = .returned V ∧ Below w.heap.size w w'
set_option maxRecDepth 20000 in
set_option maxHeartbeats 8000000 in
theorem best_err (r l a b k a2 b2 : Int) (w : World) (q x : Kl) (t cold cooling : Int) (v : Value) (p : List Int) (hs : q.s.size ≤ maxLen) (hx : x.s.size ≤ maxLen) (hl : RowI w v p) (hpm : p.length ≤ maxLen) (hne : bsE (canB r l a b k a2 b2) q.vB x.vB t cold cooling p ≠ 0) :
    Calls Tryz.prog 9 #[.agg #[.int .i64 r, .int .i64 l, .int .i64 a, .int .i64 b, .int .i64 k, .int .i64 a2, .int .i64 b2], .agg #[.string q.s, .int .i64 q.r, .int .i64 q.z, .int .i64 q.d, .int .i64 q.g], .agg #[.string x.s, .int .i64 x.r, .int .i64 x.z, .int .i64 x.d, .int .i64 x.g], .int .i64 t, v, .int .i64 cold, .int .i64 cooling] w (BsP (.tuple #[.int .i64 0, .int .i64 0, .int .i64 (bsE (canB r l a b k a2 b2) q.vB x.vB t cold cooling p)]) w) := by
  have HX := hid (b3_start (w := w) (T1 := 23) (T2 := 25) (T3 := 25) (A := #[.int .i64 r, .int .i64 l, .int .i64 a, .int .i64 b, .int .i64 k, .int .i64 a2, .int .i64 b2]) (B := #[.string q.s, .int .i64 q.r, .int .i64 q.z, .int .i64 q.d, .int .i64 q.g]) (R := #[.string x.s, .int .i64 x.r, .int .i64 x.z, .int .i64 x.d, .int .i64 x.g]))
  have HL := hid (fun w1 (g : Below w.heap.size w w1) => hl.keep g)
  obtain ⟨a0, cap, rfl⟩ := hl.shape
  have HV := hid (fun (W : World) (n : Nat) (hn : W.heap.size = n) => pvalid_two r l a b k a2 b2 W q x n hn hs hx)
  have HT := hid (fun (W : World) (n : Nat) (h : W.heap.size = n) => ptemps_any (W.alloc (.cells #[.int .i64 t, .int .i64 cold] 3)) _ [t, cold] (two_row t cold 3 h))
  have HT2 := hid (fun (W : World) (h : RowI W (.slice a0 p.length cap) p) => ptemps_any W (.slice a0 p.length cap) p h)
  have HK := hid (fun (W : World) (n : Nat) (h : W.heap.size = n) => ticks_any (W.alloc (.cells #[.int .i64 cooling] 3)) _ [cooling] (one_row cooling 3 h) (by simp))
  unfold bsE at hne ⊢
  unfold maxLen at hpm
  clear hl hs hx
  cases h1 : ((q.vB && x.vB) && canB r l a b k a2 b2)
  · rw [h1] at HV
    rw [if_pos rfl]
    have x0 := HX.out.can 0; have x1 := HX.out.can 1; have x2 := HX.out.can 2; have x3 := HX.out.can 3; have x4 := HX.out.can 4; have x5 := HX.out.can 5; have x6 := HX.out.can 6; have y0 := HX.out.kil 0; have y1 := HX.out.kil 1; have y2 := HX.out.kil 2; have y3 := HX.out.kil 3; have y4 := HX.out.kil 4; have z0 := HX.out.spo 0; have z1 := HX.out.spo 1; have z2 := HX.out.spo 2; have z3 := HX.out.spo 3; have z4 := HX.out.spo 4; simp only [List.getElem?_toArray, List.getElem?_cons_zero, List.getElem?_cons_succ] at x0 x1 x2 x3 x4 x5 x6 y0 y1 y2 y3 y4 z0 z1 z2 z3 z4
    go_enter Tryz.func9, Tryz.ntmps9
    go_wp2_with fail
    refine (HV.out _ _ (by simp)).mono ?_
    rintro e w1 ⟨rfl, hb⟩
    have HX := hid (HX.out.keep (balloc hb))
    clear hb
    clear x0 x1 x2 x3 x4 x5 x6 y0 y1 y2 y3 y4 z0 z1 z2 z3 z4
    go_wp2_with fail
    refine bodyPost_ret (v := .tuple #[.int .i64 0, .int .i64 0, .int .i64 1]) (by simp [results, Tryz.results9, go_sem]) rfl ⟨rfl, HX.out.low⟩
  rw [h1] at HV hne
  rw [if_neg (by simp)] at hne ⊢
  cases h2 : okL [t, cold]
  · rw [h2] at HT
    rw [if_pos (by rfl)]
    have x0 := HX.out.can 0; have x1 := HX.out.can 1; have x2 := HX.out.can 2; have x3 := HX.out.can 3; have x4 := HX.out.can 4; have x5 := HX.out.can 5; have x6 := HX.out.can 6; have y0 := HX.out.kil 0; have y1 := HX.out.kil 1; have y2 := HX.out.kil 2; have y3 := HX.out.kil 3; have y4 := HX.out.kil 4; have z0 := HX.out.spo 0; have z1 := HX.out.spo 1; have z2 := HX.out.spo 2; have z3 := HX.out.spo 3; have z4 := HX.out.spo 4; simp only [List.getElem?_toArray, List.getElem?_cons_zero, List.getElem?_cons_succ] at x0 x1 x2 x3 x4 x5 x6 y0 y1 y2 y3 y4 z0 z1 z2 z3 z4
    go_enter Tryz.func9, Tryz.ntmps9
    go_wp2_with fail
    refine (HV.out _ _ (by simp)).mono ?_
    rintro e w1 ⟨rfl, hb⟩
    have HX := hid (HX.out.keep (balloc hb))
    clear hb
    clear x0 x1 x2 x3 x4 x5 x6 y0 y1 y2 y3 y4 z0 z1 z2 z3 z4
    go_wp2_with fail
    refine (HT.out _ _ (by simp)).mono ?_
    rintro e w2 ⟨rfl, rfl⟩
    have HX := hid (HX.out.keep ((Below.refl _ w1).alloc (Nat.le_refl _) (.cells #[.int .i64 t, .int .i64 cold] 3)))
    go_wp2_with fail
    refine bodyPost_ret (v := .tuple #[.int .i64 0, .int .i64 0, .int .i64 7]) (by simp [results, Tryz.results9, go_sem]) rfl ⟨rfl, HX.out.low⟩
  rw [h2] at HT hne
  cases h4 : okL p
  · rw [h4] at HT2
    rw [if_pos (by rfl)]
    have x0 := HX.out.can 0; have x1 := HX.out.can 1; have x2 := HX.out.can 2; have x3 := HX.out.can 3; have x4 := HX.out.can 4; have x5 := HX.out.can 5; have x6 := HX.out.can 6; have y0 := HX.out.kil 0; have y1 := HX.out.kil 1; have y2 := HX.out.kil 2; have y3 := HX.out.kil 3; have y4 := HX.out.kil 4; have z0 := HX.out.spo 0; have z1 := HX.out.spo 1; have z2 := HX.out.spo 2; have z3 := HX.out.spo 3; have z4 := HX.out.spo 4; simp only [List.getElem?_toArray, List.getElem?_cons_zero, List.getElem?_cons_succ] at x0 x1 x2 x3 x4 x5 x6 y0 y1 y2 y3 y4 z0 z1 z2 z3 z4
    go_enter Tryz.func9, Tryz.ntmps9
    go_wp2_with fail
    refine (HV.out _ _ (by simp)).mono ?_
    rintro e w1 ⟨rfl, hb⟩
    have HX := hid (HX.out.keep (balloc hb))
    clear hb
    clear x0 x1 x2 x3 x4 x5 x6 y0 y1 y2 y3 y4 z0 z1 z2 z3 z4
    go_wp2_with fail
    refine (HT.out _ _ (by simp)).mono ?_
    rintro e w2 ⟨rfl, rfl⟩
    have HX := hid (HX.out.keep ((Below.refl _ w1).alloc (Nat.le_refl _) (.cells #[.int .i64 t, .int .i64 cold] 3)))
    go_wp2_with fail
    refine (HT2.out _ (HL.out _ HX.out.low)).mono ?_
    rintro e w3 ⟨rfl, rfl⟩
    go_wp2_with fail
    refine bodyPost_ret (v := .tuple #[.int .i64 0, .int .i64 0, .int .i64 7]) (by simp [results, Tryz.results9, go_sem]) rfl ⟨rfl, HX.out.low⟩
  rw [h4] at HT2 hne
  cases h3 : ticksB [cooling]
  · rw [h3] at HK
    rw [if_pos (by rfl)]
    have x0 := HX.out.can 0; have x1 := HX.out.can 1; have x2 := HX.out.can 2; have x3 := HX.out.can 3; have x4 := HX.out.can 4; have x5 := HX.out.can 5; have x6 := HX.out.can 6; have y0 := HX.out.kil 0; have y1 := HX.out.kil 1; have y2 := HX.out.kil 2; have y3 := HX.out.kil 3; have y4 := HX.out.kil 4; have z0 := HX.out.spo 0; have z1 := HX.out.spo 1; have z2 := HX.out.spo 2; have z3 := HX.out.spo 3; have z4 := HX.out.spo 4; simp only [List.getElem?_toArray, List.getElem?_cons_zero, List.getElem?_cons_succ] at x0 x1 x2 x3 x4 x5 x6 y0 y1 y2 y3 y4 z0 z1 z2 z3 z4
    go_enter Tryz.func9, Tryz.ntmps9
    go_wp2_with fail
    refine (HV.out _ _ (by simp)).mono ?_
    rintro e w1 ⟨rfl, hb⟩
    have HX := hid (HX.out.keep (balloc hb))
    clear hb
    clear x0 x1 x2 x3 x4 x5 x6 y0 y1 y2 y3 y4 z0 z1 z2 z3 z4
    go_wp2_with fail
    refine (HT.out _ _ (by simp)).mono ?_
    rintro e w2 ⟨rfl, rfl⟩
    have HX := hid (HX.out.keep ((Below.refl _ w1).alloc (Nat.le_refl _) (.cells #[.int .i64 t, .int .i64 cold] 3)))
    go_wp2_with fail
    refine (HT2.out _ (HL.out _ HX.out.low)).mono ?_
    rintro e w3 ⟨rfl, rfl⟩
    go_wp2_with fail
    refine (HK.out _ _ (by simp)).mono ?_
    rintro e w4 ⟨rfl, rfl⟩
    have HX := hid (HX.out.keep ((Below.refl _ _).alloc (Nat.le_refl _) (.cells #[.int .i64 cooling] 3)))
    go_wp2_with fail
    refine bodyPost_ret (v := .tuple #[.int .i64 0, .int .i64 0, .int .i64 7]) (by simp [results, Tryz.results9, go_sem]) rfl ⟨rfl, HX.out.low⟩
  rw [h3] at HK hne
  rw [if_neg (by simp)] at hne ⊢
  have h5 : 64 < p.length := by
    refine Decidable.byContradiction fun h => ?_
    rw [if_neg h] at hne
    exact hne rfl
  rw [if_pos h5]
  have h5' : (64 : Int) < p.length := by omega
  clear hne h5
  have x0 := HX.out.can 0; have x1 := HX.out.can 1; have x2 := HX.out.can 2; have x3 := HX.out.can 3; have x4 := HX.out.can 4; have x5 := HX.out.can 5; have x6 := HX.out.can 6; have y0 := HX.out.kil 0; have y1 := HX.out.kil 1; have y2 := HX.out.kil 2; have y3 := HX.out.kil 3; have y4 := HX.out.kil 4; have z0 := HX.out.spo 0; have z1 := HX.out.spo 1; have z2 := HX.out.spo 2; have z3 := HX.out.spo 3; have z4 := HX.out.spo 4; simp only [List.getElem?_toArray, List.getElem?_cons_zero, List.getElem?_cons_succ] at x0 x1 x2 x3 x4 x5 x6 y0 y1 y2 y3 y4 z0 z1 z2 z3 z4
  go_enter Tryz.func9, Tryz.ntmps9
  go_wp2_with fail
  refine (HV.out _ _ (by simp)).mono ?_
  rintro e w1 ⟨rfl, hb⟩
  have HX := hid (HX.out.keep (balloc hb))
  clear hb
  clear x0 x1 x2 x3 x4 x5 x6 y0 y1 y2 y3 y4 z0 z1 z2 z3 z4
  go_wp2_with fail
  refine (HT.out _ _ (by simp)).mono ?_
  rintro e w2 ⟨rfl, rfl⟩
  have HX := hid (HX.out.keep ((Below.refl _ w1).alloc (Nat.le_refl _) (.cells #[.int .i64 t, .int .i64 cold] 3)))
  go_wp2_with fail
  refine (HT2.out _ (HL.out _ HX.out.low)).mono ?_
  rintro e w3 ⟨rfl, rfl⟩
  go_wp2_with fail
  refine (HK.out _ _ (by simp)).mono ?_
  rintro e w4 ⟨rfl, rfl⟩
  have HX := hid (HX.out.keep ((Below.refl _ _).alloc (Nat.le_refl _) (.cells #[.int .i64 cooling] 3)))
  go_wp2_with fail
  refine bodyPost_ret (v := .tuple #[.int .i64 0, .int .i64 0, .int .i64 4]) (by simp [results, Tryz.results9, go_sem]) rfl ⟨rfl, HX.out.low⟩
end Go.Proofs.YtihbjimnjhfpeaaGreat

/- Walk of Best where it looks: contract. -/
namespace Go.Proofs.YtihbjimnjhfpeaaGreat
open Go.RowKit Go.Lib

/-- What Best's loop works on: the meter at m. -/
structure BsL (c : Cn) (q x : Kl) (Y kb nb mb m B0 : Nat) (w W : World) : Prop where
  boxes : B3 w W 23 25 25 #[.int .i64 (c.R : Int), .int .i64 (c.L : Int), .int .i64 c.A, .int .i64 c.B, .int .i64 c.K, .int .i64 c.A2, .int .i64 c.B2] #[.string q.s, .int .i64 q.r, .int .i64 q.z, .int .i64 q.d, .int .i64 q.g] #[.string x.s, .int .i64 x.r, .int .i64 x.z, .int .i64 x.d, .int .i64 x.g]
  met : W.heap[m]? = some (.cells #[.int .i64 (c.R : Int), .int .i64 (c.L : Int), .int .i64 c.A, .int .i64 c.B, .int .i64 c.K, .int .i64 c.A2, .int .i64 c.B2, .int .i64 (x.g * (x.d * 1000000)), .func (.func 67) #[] #[.pointer (some ⟨kb, 0, none⟩), .pointer (some ⟨nb, 0, none⟩)]] 80 (0, 0))
  up : UpI x.s x.r Y x.d x.g kb nb mb W ∧ B0 ≤ W.heap.size
  lt : w.heap.size + 1 + 1 < mb
section
variable {c : Cn} {q x : Kl} {Y kb nb mb m B0 : Nat} {w W W' : World}
theorem BsL.below (h : BsL c q x Y kb nb mb m B0 w W) (hb : Below W.heap.size W W') : BsL c q x Y kb nb mb m B0 w W' :=
  ⟨h.boxes.keep hb, (hb.block _ (lt_of_block h.met)).trans h.met, ⟨h.up.1.kept (Lt.gbelow hb) (row := none) (by simp) (by simp) (by simp), Nat.le_trans h.up.2 hb.size⟩, h.lt⟩
theorem BsL.run (h : BsL c q x Y kb nb mb m B0 w W) (hg : W.grownBy W' (some mb)) (hI : UpI x.s x.r Y x.d x.g kb nb mb W' ∧ B0 ≤ W'.heap.size) : BsL c q x Y kb nb mb m B0 w W' :=
  ⟨h.boxes.grown hg (fun j e => by cases e; exact h.lt), (hg.block _ (lt_of_block h.met) (blk_noM h.up.1.map.isMap h.met)).trans h.met, hI, h.lt⟩
theorem BsL.cells (h : BsL c q x Y kb nb mb m B0 w W) (i : Nat) : W.cell? ⟨m, i, none⟩ = (#[.int .i64 (c.R : Int), .int .i64 (c.L : Int), .int .i64 c.A, .int .i64 c.B, .int .i64 c.K, .int .i64 c.A2, .int .i64 c.B2, .int .i64 (x.g * (x.d * 1000000)), .func (.func 67) #[] #[.pointer (some ⟨kb, 0, none⟩), .pointer (some ⟨nb, 0, none⟩)]] : Array Value)[i]? := cell_of_row _ _ i _ _ _ h.met
end
set_option maxRecDepth 100000 in
set_option maxHeartbeats 16000000 in
theorem best_ok (c : Cn) (q x : Kl) (t cold : Int) (cooling : Nat) (Z Y : Nat) (v : Value) (p : List Int) (w : World) (hz : q.z = Z) (hy : x.z = Y) (hs : q.s.size ≤ maxLen) (hx : x.s.size ≤ maxLen) (hcv : c.V) (hv : Lt.validB q.s.data.toList q.r Z q.d q.g = true) (hv2 : Lt.validB x.s.data.toList x.r Y x.d x.g = true) (ho : okT t = true) (hoc : okT cold = true) (hop : okL p = true) (hcool : cooling ≤ 2000) (hlen : p.length ≤ 64) (hl : RowI w v p) :
    Calls Tryz.prog 9 #[.agg #[.int .i64 (c.R : Int), .int .i64 (c.L : Int), .int .i64 c.A, .int .i64 c.B, .int .i64 c.K, .int .i64 c.A2, .int .i64 c.B2], .agg #[.string q.s, .int .i64 q.r, .int .i64 q.z, .int .i64 q.d, .int .i64 q.g], .agg #[.string x.s, .int .i64 x.r, .int .i64 x.z, .int .i64 x.d, .int .i64 x.g], .int .i64 t, v, .int .i64 cold, .int .i64 (cooling : Nat)] w (BsP (bstV (bstO (mL c q Z t cold cooling) (spB c x Y t cold cooling) p p.length)) w) := by
  have hcan : canB (c.R : Int) c.L c.A c.B c.K c.A2 c.B2 = true := hcv
  have hkv : q.vB = true := by show Lt.validB q.s.data.toList q.r q.z q.d q.g = true; rw [hz]; exact hv
  have hxv : x.vB = true := by show Lt.validB x.s.data.toList x.r x.z x.d x.g = true; rw [hy]; exact hv2
  have HX := hid (b3_start (w := w) (T1 := 23) (T2 := 25) (T3 := 25) (A := #[.int .i64 (c.R : Int), .int .i64 (c.L : Int), .int .i64 c.A, .int .i64 c.B, .int .i64 c.K, .int .i64 c.A2, .int .i64 c.B2]) (B := #[.string q.s, .int .i64 q.r, .int .i64 q.z, .int .i64 q.d, .int .i64 q.g]) (R := #[.string x.s, .int .i64 x.r, .int .i64 x.z, .int .i64 x.d, .int .i64 x.g]))
  have HL0 := hid (fun w1 (g : Below w.heap.size w w1) => hl.keep g)
  obtain ⟨a0, b', o', cap, rfl, ha, hc, _⟩ := hl.form
  have HCE := hid (fun w1 (g : Below w.heap.size w w1) k (hk : k < p.length) => keep_cell g (hc k hk))
  have HA := hid ha
  have HV : Hid (∀ (W : World) (n : Nat) (_ : W.heap.size = n), Calls Tryz.prog 27 #[.agg #[.int .i64 (c.R : Int), .int .i64 (c.L : Int), .int .i64 c.A, .int .i64 c.B, .int .i64 c.K, .int .i64 c.A2, .int .i64 c.B2], .slice (some ⟨n, 0, none⟩) 2 2] (W.alloc (.cells #[.string q.s, .int .i64 q.r, .int .i64 q.z, .int .i64 q.d, .int .i64 q.g, .string x.s, .int .i64 x.r, .int .i64 x.z, .int .i64 x.d, .int .i64 x.g] 25)) fun e w' => e = .returned (.bool true) ∧ Below (W.alloc (.cells #[.string q.s, .int .i64 q.r, .int .i64 q.z, .int .i64 q.d, .int .i64 q.g, .string x.s, .int .i64 x.r, .int .i64 x.z, .int .i64 x.d, .int .i64 x.g] 25)).heap.size (W.alloc (.cells #[.string q.s, .int .i64 q.r, .int .i64 q.z, .int .i64 q.d, .int .i64 q.g, .string x.s, .int .i64 x.r, .int .i64 x.z, .int .i64 x.d, .int .i64 x.g] 25)) w') := fun W n hn => by
    have := pvalid_two c.R c.L c.A c.B c.K c.A2 c.B2 W q x n hn hs hx
    rwa [hkv, hxv, hcan] at this
  have HT : Hid (∀ (W : World) (n : Nat) (_ : W.heap.size = n), Calls Tryz.prog 28 #[.slice (some ⟨n, 0, none⟩) 2 2] (W.alloc (.cells #[.int .i64 t, .int .i64 cold] 3)) fun e w' => e = .returned (.bool true) ∧ (W.alloc (.cells #[.int .i64 t, .int .i64 cold] 3)) = w') := fun W n h => by
    have := ptemps_any (W.alloc (.cells #[.int .i64 t, .int .i64 cold] 3)) _ [t, cold] (two_row t cold 3 h)
    rwa [show okL [t, cold] = true by simp [okL, ho, hoc]] at this
  have HT2 : Hid (∀ (W : World) (_ : RowI W (.slice a0 p.length cap) p), Calls Tryz.prog 28 #[.slice a0 p.length cap] W fun e w' => e = .returned (.bool true) ∧ W = w') := fun W h => by
    have := ptemps_any W (.slice a0 p.length cap) p h
    rwa [hop] at this
  have HK : Hid (∀ (W : World) (n : Nat) (_ : W.heap.size = n), Calls Tryz.prog 29 #[.slice (some ⟨n, 0, none⟩) 1 1] (W.alloc (.cells #[.int .i64 (cooling : Nat)] 3)) fun e w' => e = .returned (.bool true) ∧ (W.alloc (.cells #[.int .i64 (cooling : Nat)] 3)) = w') := fun W n h => by
    have := ticks_any (W.alloc (.cells #[.int .i64 (cooling : Nat)] 3)) _ [(cooling : Int)] (one_row (cooling : Int) 3 h) (by simp)
    rwa [show ticksB [(cooling : Int)] = true by rw [ticksB_one]; simp [tick1]; omega] at this
  have HM : Hid (∀ W, Calls Tryz.prog 30 #[.agg #[.int .i64 (c.R : Int), .int .i64 (c.L : Int), .int .i64 c.A, .int .i64 c.B, .int .i64 c.K, .int .i64 c.A2, .int .i64 c.B2], .agg #[.string x.s, .int .i64 x.r, .int .i64 x.z, .int .i64 x.d, .int .i64 x.g]] W (UpP c x.s x.r Y x.d x.g W)) := fun W => by
    rw [hy]
    exact meterUp_any c x.s x.r x.d x.g Y W hx hv2
  have HMD := hid (fun (k : Nat) (hk : k < p.length) (W : World) (h : RowI W (.slice none 0 0) ([] : List Int)) => (mend_all c q t p[k] cold cooling (2000 - cooling) Z (.slice none 0 0) ([] : List Int) W hz hs hcv hv ho (okL_all hop k hk) hoc rfl (by simp; omega) h).mono (fun e w' h => h.fn))
  have HCK := hid (fun (k : Nat) (hk : k < p.length) (n : Nat) (W : World) => cook_any p[k] n cold cooling W)
  have HRK := hid (fun (W : World) (kb nb mb : Nat) (h : UpI x.s x.r Y x.d x.g kb nb mb W) => rateOk_up hx hv2 h)
  have hbt : (-50000 : Int) ≤ t ∧ t ≤ 200000 := by unfold okT at ho; simpa using ho
  have HRN := hid (fun (L : List Int) (hL : okL L = true) (hn : L.length ≤ 2000) (F : Nat) (lb : Array Value) (mb B0 : Nat) (I : World → Prop) (u : Value) (W : World) (hR : RateOk F lb (Lt.up x.r Y) (-50000) 200000 mb B0 I) (hI : I W) (h : RowI W u L) => mrun_any c (x.g * (x.d * 1000000)) t F lb (Lt.up x.r Y) (-50000) 200000 mb B0 I u L W hR hcv ho hL hI h (by omega) hbt (fun b hb => by
    have := List.all_eq_true.1 hL b hb
    unfold okT at this; simpa using this))
  have HSL := hid (fun (L : List Int) (hL : okL L = true) => by
    have hG : Good c (dishR c (Lt.up x.r Y) (dish0 c t) L) := (dish0_good ho).run hcv.ok hL
    have h1 : 1 ≤ (dishR c (Lt.up x.r Y) (dish0 c t) L).2.length ∧ (dishR c (Lt.up x.r Y) (dish0 c t) L).2.length ≤ 1000 := by
      rw [hG.len]
      exact ⟨hcv.ok.p.1, by have := hcv.ok.p.2; omega⟩
    exact h1)
  have HLEN := hid hlen
  have HCOOL := hid hcool
  have hmk : ∀ k (hk : k < p.length), p.getD k 0 = p[k] := fun k hk => getD_at hk
  have HGD := hid hmk
  obtain ⟨ML, hML⟩ : ∃ F, F = mL c q Z t cold cooling := ⟨_, rfl⟩
  have HMD : Hid (∀ (k : Nat) (hk : k < p.length) (W : World), RowI W (.slice none 0 0) ([] : List Int) → Calls Tryz.prog 31 #[.agg #[.int .i64 (c.R : Int), .int .i64 (c.L : Int), .int .i64 c.A, .int .i64 c.B, .int .i64 c.K, .int .i64 c.A2, .int .i64 c.B2], .agg #[.string q.s, .int .i64 q.r, .int .i64 q.z, .int .i64 q.d, .int .i64 q.g], .int .i64 t, .int .i64 p[k], .int .i64 cold, .int .i64 (cooling : Nat), .slice none 0 0] W fun e w' => Below W.heap.size W w' ∧ ((∃ n : Nat, ML p[k] = some n ∧ n ≤ 2000 - cooling ∧ e = .returned (.tuple #[.int .i64 (n : Nat), .int .i64 0])) ∨ (ML p[k] = none ∧ e = .returned (.tuple #[.int .i64 0, .int .i64 8])))) := by rw [hML]; exact HMD
  rw [← hML]
  obtain ⟨SP, hSP⟩ : ∃ F, F = spB c x Y t cold cooling := ⟨_, rfl⟩
  have HSP := hid (fun b n => show SP b n = maxA (ivN (dishR c (Lt.up x.r Y) (dish0 c t) (cookL b n cold cooling)).2) by rw [hSP]; rfl)
  rw [← hSP]
  clear hSP hML hmk hcan hkv hxv hs hx hcv hv hv2 ho hoc hop hcool hlen hl hbt hz hy ha hc
  have hfl := field_dish
  have x0 := HX.out.can 0; have x1 := HX.out.can 1; have x2 := HX.out.can 2; have x3 := HX.out.can 3; have x4 := HX.out.can 4; have x5 := HX.out.can 5; have x6 := HX.out.can 6; have y0 := HX.out.kil 0; have y1 := HX.out.kil 1; have y2 := HX.out.kil 2; have y3 := HX.out.kil 3; have y4 := HX.out.kil 4; have z0 := HX.out.spo 0; have z1 := HX.out.spo 1; have z2 := HX.out.spo 2; have z3 := HX.out.spo 3; have z4 := HX.out.spo 4; simp only [List.getElem?_toArray, List.getElem?_cons_zero, List.getElem?_cons_succ] at x0 x1 x2 x3 x4 x5 x6 y0 y1 y2 y3 y4 z0 z1 z2 z3 z4
  go_enter Tryz.func9, Tryz.ntmps9
  go_wp2_with fail
  refine (HV.out _ _ (by simp)).mono ?_
  rintro e w1 ⟨rfl, hb⟩
  have HX := hid (HX.out.keep (balloc hb))
  clear hb
  clear x0 x1 x2 x3 x4 x5 x6 y0 y1 y2 y3 y4 z0 z1 z2 z3 z4
  go_wp2_with fail
  refine (HT.out _ _ (by simp)).mono ?_
  rintro e w2 ⟨rfl, rfl⟩
  have HX := hid (HX.out.keep ((Below.refl _ w1).alloc (Nat.le_refl _) (.cells #[.int .i64 t, .int .i64 cold] 3)))
  go_wp2_with fail
  refine (HT2.out _ (HL0.out _ HX.out.low)).mono ?_
  rintro e w3 ⟨rfl, rfl⟩
  go_wp2_with fail
  refine (HK.out _ _ (by simp)).mono ?_
  rintro e w4 ⟨rfl, rfl⟩
  have HX := hid (HX.out.keep ((Below.refl _ _).alloc (Nat.le_refl _) (.cells #[.int .i64 (cooling : Nat)] 3)))
  have hl64 : (p.length : Int) ≤ 64 := by have := HLEN.out; omega
  have x0 := HX.out.can 0; have x1 := HX.out.can 1; have x2 := HX.out.can 2; have x3 := HX.out.can 3; have x4 := HX.out.can 4; have x5 := HX.out.can 5; have x6 := HX.out.can 6; have y0 := HX.out.kil 0; have y1 := HX.out.kil 1; have y2 := HX.out.kil 2; have y3 := HX.out.kil 3; have y4 := HX.out.kil 4; have z0 := HX.out.spo 0; have z1 := HX.out.spo 1; have z2 := HX.out.spo 2; have z3 := HX.out.spo 3; have z4 := HX.out.spo 4; simp only [List.getElem?_toArray, List.getElem?_cons_zero, List.getElem?_cons_succ] at x0 x1 x2 x3 x4 x5 x6 y0 y1 y2 y3 y4 z0 z1 z2 z3 z4
  go_wp2_with fail
  refine (HM.out _).mono ?_
  rintro e w5 ⟨kb, nb, mb, rfl, hu, hmb, hb⟩
  have HBS : Hid (BsL c q x Y kb nb mb w5.heap.size w5.heap.size w (w5.alloc (.cells #[.int .i64 (c.R : Int), .int .i64 (c.L : Int), .int .i64 c.A, .int .i64 c.B, .int .i64 c.K, .int .i64 c.A2, .int .i64 c.B2, .int .i64 (x.g * (x.d * 1000000)), .func (.func 67) #[] #[.pointer (some ⟨kb, 0, none⟩), .pointer (some ⟨nb, 0, none⟩)]] 80))) := by
    have hba := (Below.refl _ w5).alloc (Nat.le_refl _) (.cells #[.int .i64 (c.R : Int), .int .i64 (c.L : Int), .int .i64 c.A, .int .i64 c.B, .int .i64 c.K, .int .i64 c.A2, .int .i64 c.B2, .int .i64 (x.g * (x.d * 1000000)), .func (.func 67) #[] #[.pointer (some ⟨kb, 0, none⟩), .pointer (some ⟨nb, 0, none⟩)]] 80)
    have h3 := lt_of_block HX.out.three
    exact ⟨(HX.out.keep hb).keep hba, heap_alloc_new w5 _, ⟨hu.kept (Lt.gbelow hba) (row := none) (by simp) (by simp) (by simp), hba.size⟩, Nat.lt_of_lt_of_le h3 hmb⟩
  have HRO := hid (HRK.out w5 kb nb mb hu)
  clear hu hmb hb HX HM HRK HV HT HT2 HK
  clear x0 x1 x2 x3 x4 x5 x6 y0 y1 y2 y3 y4 z0 z1 z2 z3 z4
  go_wp2_with fail
  generalize w5.heap.size = m at HBS HRO ⊢
  clear hl64
  go_loopw [14, 15, 16, 18, 56] (fun s14 s15 s16 s18 s56 wr => ∃ k : Nat, k ≤ p.length ∧ s56 = .int .i64 (k : Int) ∧ Hid (BsL c q x Y kb nb mb m m w wr) ∧ ((Hid (bstO ML SP p k = none) ∧ s14 = .int .i64 0 ∧ s15 = .int .i64 0 ∧ s16 = .int .i64 8 ∧ s18 = .int .i64 0) ∨ ∃ (i n : Nat) (y : Int), Hid (bstO ML SP p k = some (i, n, y)) ∧ s14 = .int .i64 (i : Int) ∧ s15 = .int .i64 (n : Int) ∧ s16 = .int .i64 0 ∧ s18 = .int .i64 y)) (fun _ _ _ _ s _ => p.length - (intOf s).toNat)
  case atStart => exact ⟨0, Nat.zero_le _, rfl, HBS, .inl ⟨hid rfl, rfl, rfl, rfl, rfl⟩⟩
  case round =>
    obtain ⟨k, hk, rfl, hB, hO⟩ := hrel
    by_cases hlt : k < p.length
    · have hlt' : (k : Int) < p.length := by omega
      have haa : a0 = some ⟨b', o', none⟩ := HA.out.resolve_left (fun e => by rw [e] at hlt; simp at hlt)
      subst haa
      have ex := HCE.out _ hB.out.boxes.low k hlt
      have HMD2 := hid (HMD.out k hlt)
      have HCK2 := hid (HCK.out k hlt)
      have HGD2 := hid (HGD.out k hlt)
      have HLT := hid hlt
      generalize p[k] = b at ex HMD2 HCK2 HGD2
      have HX := hid hB.out.boxes
      have x0 := HX.out.can 0; have x1 := HX.out.can 1; have x2 := HX.out.can 2; have x3 := HX.out.can 3; have x4 := HX.out.can 4; have x5 := HX.out.can 5; have x6 := HX.out.can 6; have y0 := HX.out.kil 0; have y1 := HX.out.kil 1; have y2 := HX.out.kil 2; have y3 := HX.out.kil 3; have y4 := HX.out.kil 4; have z0 := HX.out.spo 0; have z1 := HX.out.spo 1; have z2 := HX.out.spo 2; have z3 := HX.out.spo 3; have z4 := HX.out.spo 4; simp only [List.getElem?_toArray, List.getElem?_cons_zero, List.getElem?_cons_succ] at x0 x1 x2 x3 x4 x5 x6 y0 y1 y2 y3 y4 z0 z1 z2 z3 z4
      clear hlt z0 z1 z2 z3 z4
      rcases hO with ⟨h0, rfl, rfl, rfl, rfl⟩ | ⟨i, n0, y, h0, rfl, rfl, rfl, rfl⟩
      · skip
        go_wp2_with fail
        refine (HMD2.out _ (.inl ⟨none, 0, rfl, rfl⟩)).mono ?_
        rintro e w6 ⟨hb, ⟨n, hn, hn2, rfl⟩ | ⟨hn, rfl⟩⟩
        · skip
          have HB6 := hid (hB.out.below hb)
          clear hb
          clear x0 x1 x2 x3 x4 x5 x6 y0 y1 y2 y3 y4
          go_wp2_with fail
          refine (HCK2.out n _).mono ?_
          rintro e w7 ⟨u, rfl, hr, hb⟩
          have HB7 := hid (HB6.out.below hb)
          have HR := hid hr
          generalize (if cookB b n cold cooling = true then (0 : Int) else 7) = ck
          clear hr hb
          have m0 := HB7.out.cells 0; have m1 := HB7.out.cells 1; have m2 := HB7.out.cells 2; have m3 := HB7.out.cells 3; have m4 := HB7.out.cells 4; have m5 := HB7.out.cells 5; have m6 := HB7.out.cells 6; have m7 := HB7.out.cells 7; have m8 := HB7.out.cells 8
          simp only [List.getElem?_toArray, List.getElem?_cons_zero, List.getElem?_cons_succ] at m0 m1 m2 m3 m4 m5 m6 m7 m8
          go_wp2_with fail
          refine (HRN.out (cookL b n cold cooling) cookL_ok (cookL_len _ _ _ _) _ _ mb m _ u w7 HRO.out HB7.out.up HR.out).mono ?_
          rintro e w8 ⟨ua, ub, uc, ud, rfl, h1, h2, h3, h4⟩
          have HB8 := hid (HB7.out.run h4 h3)
          have HMX : Hid (Calls Tryz.prog 33 #[.slice ub (dishR c (Lt.up x.r Y) (dish0 c t) (cookL b n cold cooling)).2.length ud] w8 fun e w' => e = .returned (.int .i64 (SP b n)) ∧ w8 = w') := by
            have h9 := HSL.out (cookL b n cold cooling) cookL_ok
            have := maxA_any _ _ w8 h2 (by rw [ivN_len]; omega) (by rw [ivN_len]; omega)
            rwa [← HSP.out b n] at this
          clear h1 h2 h3 h4 m0 m1 m2 m3 m4 m5 m6 m7 m8
          generalize (dishR c (Lt.up x.r Y) (dish0 c t) (cookL b n cold cooling)).2.length = dl at HMX ⊢
          generalize (dishR c (Lt.up x.r Y) (dish0 c t) (cookL b n cold cooling)).1.1.length = tl
          generalize (dishR c (Lt.up x.r Y) (dish0 c t) (cookL b n cold cooling)).1.2 = tb
          obtain ⟨z, hz⟩ : ∃ z, z = SP b n := ⟨_, rfl⟩
          rw [← hz] at HMX
          have HZ := hid hz
          clear hz
          go_wp2_with fail
          refine HMX.out.mono ?_
          rintro e w9 ⟨rfl, rfl⟩
          go_wp2_with fail
          go_roundw
          case rel => exact ⟨k + 1, HLT.out, by go_num, HB8, .inr ⟨k, n, z, hid (by rw [HZ.out]; exact bstO_new HGD2.out hn h0.out), rfl, rfl, rfl, rfl⟩⟩
          case measure => have := HLT.out; simp [intOf]; omega
        · skip
          have HB6 := hid (hB.out.below hb)
          clear hb
          clear x0 x1 x2 x3 x4 x5 x6 y0 y1 y2 y3 y4
          go_wp2_with fail
          go_roundw
          case rel => exact ⟨k + 1, HLT.out, by go_num, HB6, .inl ⟨hid ((bstO_skip HGD2.out hn).trans h0.out), rfl, rfl, rfl, rfl⟩⟩
          case measure => have := HLT.out; simp [intOf]; omega
      · skip
        go_wp2_with fail
        refine (HMD2.out _ (.inl ⟨none, 0, rfl, rfl⟩)).mono ?_
        rintro e w6 ⟨hb, ⟨n, hn, hn2, rfl⟩ | ⟨hn, rfl⟩⟩
        · skip
          have HB6 := hid (hB.out.below hb)
          clear hb
          clear x0 x1 x2 x3 x4 x5 x6 y0 y1 y2 y3 y4
          go_wp2_with fail
          refine (HCK2.out n _).mono ?_
          rintro e w7 ⟨u, rfl, hr, hb⟩
          have HB7 := hid (HB6.out.below hb)
          have HR := hid hr
          generalize (if cookB b n cold cooling = true then (0 : Int) else 7) = ck
          clear hr hb
          have m0 := HB7.out.cells 0; have m1 := HB7.out.cells 1; have m2 := HB7.out.cells 2; have m3 := HB7.out.cells 3; have m4 := HB7.out.cells 4; have m5 := HB7.out.cells 5; have m6 := HB7.out.cells 6; have m7 := HB7.out.cells 7; have m8 := HB7.out.cells 8
          simp only [List.getElem?_toArray, List.getElem?_cons_zero, List.getElem?_cons_succ] at m0 m1 m2 m3 m4 m5 m6 m7 m8
          go_wp2_with fail
          refine (HRN.out (cookL b n cold cooling) cookL_ok (cookL_len _ _ _ _) _ _ mb m _ u w7 HRO.out HB7.out.up HR.out).mono ?_
          rintro e w8 ⟨ua, ub, uc, ud, rfl, h1, h2, h3, h4⟩
          have HB8 := hid (HB7.out.run h4 h3)
          have HMX : Hid (Calls Tryz.prog 33 #[.slice ub (dishR c (Lt.up x.r Y) (dish0 c t) (cookL b n cold cooling)).2.length ud] w8 fun e w' => e = .returned (.int .i64 (SP b n)) ∧ w8 = w') := by
            have h9 := HSL.out (cookL b n cold cooling) cookL_ok
            have := maxA_any _ _ w8 h2 (by rw [ivN_len]; omega) (by rw [ivN_len]; omega)
            rwa [← HSP.out b n] at this
          clear h1 h2 h3 h4 m0 m1 m2 m3 m4 m5 m6 m7 m8
          generalize (dishR c (Lt.up x.r Y) (dish0 c t) (cookL b n cold cooling)).2.length = dl at HMX ⊢
          generalize (dishR c (Lt.up x.r Y) (dish0 c t) (cookL b n cold cooling)).1.1.length = tl
          generalize (dishR c (Lt.up x.r Y) (dish0 c t) (cookL b n cold cooling)).1.2 = tb
          obtain ⟨z, hz⟩ : ∃ z, z = SP b n := ⟨_, rfl⟩
          rw [← hz] at HMX
          have HZ := hid hz
          clear hz
          have HN := hid hn
          clear hn
          cases hd : decide (z < y)
          · have HD := hid (show ¬ z < y by simpa using hd)
            go_wp2_with fail
            refine HMX.out.mono ?_
            rintro e w9 ⟨rfl, rfl⟩
            go_wp2_with fail
            go_roundw
            case rel => exact ⟨k + 1, HLT.out, by go_num, HB8, .inr ⟨i, n0, y, hid (bstO_keep HGD2.out HN.out h0.out (by rw [← HZ.out]; have := HD.out; omega)), rfl, rfl, rfl, rfl⟩⟩
            case measure => have := HLT.out; simp [intOf]; omega
          · have HD := hid (show z < y by simpa using hd)
            go_wp2_with fail
            refine HMX.out.mono ?_
            rintro e w9 ⟨rfl, rfl⟩
            go_wp2_with fail
            go_roundw
            case rel => exact ⟨k + 1, HLT.out, by go_num, HB8, .inr ⟨k, n, z, hid (by rw [HZ.out]; exact bstO_less HGD2.out HN.out h0.out (by rw [← HZ.out]; exact HD.out)), rfl, rfl, rfl, rfl⟩⟩
            case measure => have := HLT.out; simp [intOf]; omega
        · skip
          have HB6 := hid (hB.out.below hb)
          clear hb
          clear x0 x1 x2 x3 x4 x5 x6 y0 y1 y2 y3 y4
          go_wp2_with fail
          go_roundw
          case rel => exact ⟨k + 1, HLT.out, by go_num, HB6, .inr ⟨i, n0, y, hid ((bstO_skip HGD2.out hn).trans h0.out), rfl, rfl, rfl, rfl⟩⟩
          case measure => have := HLT.out; simp [intOf]; omega
    · obtain rfl : k = p.length := by omega
      have HBL := hid hB.out.boxes.low
      clear hk hlt
      rcases hO with ⟨h0, rfl, rfl, rfl, rfl⟩ | ⟨i, n0, y, h0, rfl, rfl, rfl, rfl⟩
      · go_wp2_with fail
        refine bodyPost_ret (v := .tuple #[.int .i64 0, .int .i64 0, .int .i64 8]) (by simp [results, Tryz.results9, go_sem]) rfl ⟨by rw [h0.out]; rfl, HBL.out⟩
      · go_wp2_with fail
        refine bodyPost_ret (v := .tuple #[.int .i64 (i : Int), .int .i64 (n0 : Int), .int .i64 0]) (by simp [results, Tryz.results9, go_sem]) rfl ⟨by rw [h0.out]; rfl, HBL.out⟩
theorem best_any (r l a b k a2 b2 : Int) (w : World) (q x : Kl) (t cold cooling : Int) (v : Value) (p : List Int) (hs : q.s.size ≤ maxLen) (hx : x.s.size ≤ maxLen) (hl : RowI w v p) (hpm : p.length ≤ maxLen) :
    Calls Tryz.prog 9 #[.agg #[.int .i64 r, .int .i64 l, .int .i64 a, .int .i64 b, .int .i64 k, .int .i64 a2, .int .i64 b2], .agg #[.string q.s, .int .i64 q.r, .int .i64 q.z, .int .i64 q.d, .int .i64 q.g], .agg #[.string x.s, .int .i64 x.r, .int .i64 x.z, .int .i64 x.d, .int .i64 x.g], .int .i64 t, v, .int .i64 cold, .int .i64 cooling] w (BsP (bestA r l a b k a2 b2 q x t cold cooling p) w) := by
  unfold bestA
  by_cases h : bsE (canB r l a b k a2 b2) q.vB x.vB t cold cooling p = 0
  · obtain ⟨hc, hk, hk2, ho, hoc, hop, h0, h2, hlen⟩ := bsE_zero h
    obtain ⟨c, hcv, rfl, rfl, rfl, rfl, rfl, rfl, rfl⟩ := canB_cn hc
    obtain ⟨Z, hz, hv⟩ := kl_of hk
    obtain ⟨Y, hy, hv2⟩ := kl_of hk2
    obtain ⟨cl, rfl⟩ := Int.eq_ofNat_of_zero_le h0
    rw [if_pos h, cnOf_cn, hz, hy, Int.toNat_natCast, Int.toNat_natCast, Int.toNat_natCast, ← hz, ← hy]
    exact best_ok c q x t cold cl Z Y v p w hz hy hs hx hcv hv hv2 ho hoc hop (by omega) hlen hl
  · rw [if_neg h]
    exact best_err r l a b k a2 b2 w q x t cold cooling v p hs hx hl hpm h
end Go.Proofs.YtihbjimnjhfpeaaGreat
