/- Walks of ValidSheet of both, percent, Overlap and Percent: contracts. -/
import Derived.Test.YtjfakhfkbnnbcaaP1
namespace Go.Proofs.Ytjfakhfkbnnbcaa
open Go.RowKit

theorem rowI_two {w : World} {x y : Int} {T : TypeId} {m : Nat} (hm : w.heap.size = m) : RowI (w.alloc (.cells #[.int .i64 x, .int .i64 y] T)) (.slice (some ⟨m, 0, none⟩) 2 2) [x, y] := by
  subst hm
  refine .inr ⟨w.heap.size, 0, 2, rfl, by simp [maxLen], fun k hk => ?_⟩
  match k with
  | 0 => exact cell_alloc_new w _ _ _ 0
  | 1 => exact cell_alloc_new w _ _ _ 1
  | k + 2 => simp at hk; omega
theorem rowI_five {w : World} {a b c d e : Int} {T : TypeId} {m : Nat} (hm : w.heap.size = m) : RowI (w.alloc (.cells #[.int .i64 a, .int .i64 b, .int .i64 c, .int .i64 d, .int .i64 e] T)) (.slice (some ⟨m, 0, none⟩) 5 5) [a, b, c, d, e] := by
  subst hm
  refine .inr ⟨w.heap.size, 0, 5, rfl, by simp [maxLen], fun k hk => ?_⟩
  match k with
  | 0 => exact cell_alloc_new w _ _ _ 0
  | 1 => exact cell_alloc_new w _ _ _ 1
  | 2 => exact cell_alloc_new w _ _ _ 2
  | 3 => exact cell_alloc_new w _ _ _ 3
  | 4 => exact cell_alloc_new w _ _ _ 4
  | k + 5 => simp at hk; omega
theorem fiveK (a b c d : Bool) : a = false ∨ (a = true ∧ b = false) ∨ (a = true ∧ b = true ∧ c = false) ∨ (a = true ∧ b = true ∧ c = true ∧ d = false) ∨ (a = true ∧ b = true ∧ c = true ∧ d = true) := by cases a <;> cases b <;> cases c <;> cases d <;> simp
theorem shB_eq (x : Sh) : shB x = (inB x.tk 0 100000000 && inB x.hd 1 12 && inB x.wr 0 100 && allW 1 1000 [x.ep, x.bp] && allW 0 20000 [x.bh, x.ch, x.ht, x.th, x.cs]) := rfl
set_option maxHeartbeats 4000000 in
theorem ksheet_any (x : Sh) (w : World) : Calls Try.prog 52 #[.agg #[.int .i64 x.tk, .int .i64 x.hd, .int .i64 x.bh, .int .i64 x.ch, .int .i64 x.ht, .int .i64 x.ep, .int .i64 x.bp, .int .i64 x.wr, .int .i64 x.th, .int .i64 x.cs]] w fun e w' => e = .returned (.bool (shB x)) ∧ Below w.heap.size w w' := by
  have hc := hid (shB_eq x)
  have HB := hid (boxS_below w x)
  obtain ⟨d, hd⟩ : ∃ d, d = allW 1 1000 [x.ep, x.bp] := ⟨_, rfl⟩
  obtain ⟨f, hf⟩ : ∃ d, d = allW 0 20000 [x.bh, x.ch, x.ht, x.th, x.cs] := ⟨_, rfl⟩
  have HD := hid hd
  have HF := hid hf
  rw [← hd, ← hf] at hc
  clear hd hf
  rcases fiveK (inB x.tk 0 100000000) (inB x.hd 1 12) (inB x.wr 0 100) d with h1 | ⟨h1, h2⟩ | ⟨h1, h2, h3⟩ | ⟨h1, h2, h3, h4⟩ | ⟨h1, h2, h3, h4⟩
  case inr.inr.inr.inl =>
    have HE := hid (show shB x = false by rw [hc.out, h1, h2, h3, h4]; rfl)
    subst h4
    go_enter Try.func52, Try.ntmps52
    go_wp2_with (first | (go_at_call 41; refine (kwithin_any _ _ _ _).mono ?_; rintro e w' ⟨rfl, rfl⟩) | (go_at_call 29; refine (khead_any _ _).mono ?_; rintro e w' ⟨rfl, rfl⟩))
    refine (allw_any _ _ _ [x.ep, x.bp] _ (rowI_two (by simp))).mono ?_
    rintro e w3 ⟨rfl, rfl⟩
    rw [← HD.out]
    go_wp2_with fail
    go_ret
    exact ⟨ret_bool HE.out.symm, HB.out.alloc (by simp) _⟩
  case inr.inr.inr.inr =>
    have HE := hid (show shB x = f by rw [hc.out, h1, h2, h3, h4]; cases f <;> rfl)
    subst h4
    go_enter Try.func52, Try.ntmps52
    go_wp2_with (first | (go_at_call 41; refine (kwithin_any _ _ _ _).mono ?_; rintro e w' ⟨rfl, rfl⟩) | (go_at_call 29; refine (khead_any _ _).mono ?_; rintro e w' ⟨rfl, rfl⟩))
    refine (allw_any _ _ _ [x.ep, x.bp] _ (rowI_two (by simp))).mono ?_
    rintro e w3 ⟨rfl, rfl⟩
    rw [← HD.out]
    go_wp2_with fail
    refine (allw_any _ _ _ [x.bh, x.ch, x.ht, x.th, x.cs] _ (rowI_five (by simp))).mono ?_
    rintro e w3 ⟨rfl, rfl⟩
    rw [← HF.out]
    go_wp2_with fail
    go_ret
    exact ⟨ret_bool HE.out.symm, (HB.out.alloc (by simp) _).alloc (by simp; omega) _⟩
  all_goals
    go_enter Try.func52, Try.ntmps52
    go_wp2_with (first | (go_at_call 41; refine (kwithin_any _ _ _ _).mono ?_; rintro e w' ⟨rfl, rfl⟩) | (go_at_call 29; refine (khead_any _ _).mono ?_; rintro e w' ⟨rfl, rfl⟩))
    go_ret
    exact ⟨ret_bool (by rw [hc.out]; simp only [Bool.false_and, Bool.true_and, Bool.and_false, *]), HB.out⟩
theorem kbx_new {w W : World} {b : Nat} {x : Sh} (h : BoxS W b x) (hB : Below w.heap.size w W) : W.drew.cell? ⟨b, 0, none⟩ = some (.int .i64 x.tk) ∧ W.drew.cell? ⟨b, 1, none⟩ = some (.int .i64 x.hd) ∧ W.drew.cell? ⟨b, 2, none⟩ = some (.int .i64 x.bh) ∧ W.drew.cell? ⟨b, 3, none⟩ = some (.int .i64 x.ch) ∧ W.drew.cell? ⟨b, 4, none⟩ = some (.int .i64 x.ht) ∧ W.drew.cell? ⟨b, 5, none⟩ = some (.int .i64 x.ep) ∧ W.drew.cell? ⟨b, 6, none⟩ = some (.int .i64 x.bp) ∧ W.drew.cell? ⟨b, 7, none⟩ = some (.int .i64 x.wr) ∧ W.drew.cell? ⟨b, 8, none⟩ = some (.int .i64 x.th) ∧ W.drew.cell? ⟨b, 9, none⟩ = some (.int .i64 x.cs) ∧ Below w.heap.size w W.drew := by
  obtain ⟨b0, b1, b2, b3, b4, b5, b6, b7, b8, b9⟩ := h
  exact ⟨b0, b1, b2, b3, b4, b5, b6, b7, b8, b9, hB.drew⟩
theorem kbx_keep {w W w2 : World} {b : Nat} {x : Sh} (hb : Below W.heap.size W w2) (h : W.cell? ⟨b, 0, none⟩ = some (.int .i64 x.tk) ∧ W.cell? ⟨b, 1, none⟩ = some (.int .i64 x.hd) ∧ W.cell? ⟨b, 2, none⟩ = some (.int .i64 x.bh) ∧ W.cell? ⟨b, 3, none⟩ = some (.int .i64 x.ch) ∧ W.cell? ⟨b, 4, none⟩ = some (.int .i64 x.ht) ∧ W.cell? ⟨b, 5, none⟩ = some (.int .i64 x.ep) ∧ W.cell? ⟨b, 6, none⟩ = some (.int .i64 x.bp) ∧ W.cell? ⟨b, 7, none⟩ = some (.int .i64 x.wr) ∧ W.cell? ⟨b, 8, none⟩ = some (.int .i64 x.th) ∧ W.cell? ⟨b, 9, none⟩ = some (.int .i64 x.cs) ∧ Below w.heap.size w W) : w2.cell? ⟨b, 0, none⟩ = some (.int .i64 x.tk) ∧ w2.cell? ⟨b, 1, none⟩ = some (.int .i64 x.hd) ∧ w2.cell? ⟨b, 2, none⟩ = some (.int .i64 x.bh) ∧ w2.cell? ⟨b, 3, none⟩ = some (.int .i64 x.ch) ∧ w2.cell? ⟨b, 4, none⟩ = some (.int .i64 x.ht) ∧ w2.cell? ⟨b, 5, none⟩ = some (.int .i64 x.ep) ∧ w2.cell? ⟨b, 6, none⟩ = some (.int .i64 x.bp) ∧ w2.cell? ⟨b, 7, none⟩ = some (.int .i64 x.wr) ∧ w2.cell? ⟨b, 8, none⟩ = some (.int .i64 x.th) ∧ w2.cell? ⟨b, 9, none⟩ = some (.int .i64 x.cs) ∧ Below w.heap.size w w2 :=
  ⟨keep_cell hb h.1, keep_cell hb h.2.1, keep_cell hb h.2.2.1, keep_cell hb h.2.2.2.1, keep_cell hb h.2.2.2.2.1, keep_cell hb h.2.2.2.2.2.1, keep_cell hb h.2.2.2.2.2.2.1, keep_cell hb h.2.2.2.2.2.2.2.1, keep_cell hb h.2.2.2.2.2.2.2.2.1, keep_cell hb h.2.2.2.2.2.2.2.2.2.1, bstep h.2.2.2.2.2.2.2.2.2.2 h.2.2.2.2.2.2.2.2.2.2.size hb⟩
theorem kbx_low {w W : World} {b : Nat} {x : Sh} (h : W.cell? ⟨b, 0, none⟩ = some (.int .i64 x.tk) ∧ W.cell? ⟨b, 1, none⟩ = some (.int .i64 x.hd) ∧ W.cell? ⟨b, 2, none⟩ = some (.int .i64 x.bh) ∧ W.cell? ⟨b, 3, none⟩ = some (.int .i64 x.ch) ∧ W.cell? ⟨b, 4, none⟩ = some (.int .i64 x.ht) ∧ W.cell? ⟨b, 5, none⟩ = some (.int .i64 x.ep) ∧ W.cell? ⟨b, 6, none⟩ = some (.int .i64 x.bp) ∧ W.cell? ⟨b, 7, none⟩ = some (.int .i64 x.wr) ∧ W.cell? ⟨b, 8, none⟩ = some (.int .i64 x.th) ∧ W.cell? ⟨b, 9, none⟩ = some (.int .i64 x.cs) ∧ Below w.heap.size w W) : Below w.heap.size w W := h.2.2.2.2.2.2.2.2.2.2
set_option maxHeartbeats 4000000 in
theorem kpct_any (x : Sh) (w : World) (h : ShOk x) : Calls Try.prog 53 #[.agg #[.int .i64 x.tk, .int .i64 x.hd, .int .i64 x.bh, .int .i64 x.ch, .int .i64 x.ht, .int .i64 x.ep, .int .i64 x.bp, .int .i64 x.wr, .int .i64 x.th, .int .i64 x.cs]] w fun e w' => e = .returned (.int .i64 (pctT x)) ∧ Below w.heap.size w w' := by
  have HOK := hid h
  obtain ⟨_, _, _, ⟨e1, e2⟩, ⟨p1, p2⟩, ⟨h1, h2⟩, ⟨h3, h4⟩, ⟨h5, h6⟩, _, _⟩ := h
  have HO1 := hid (show -1000000 ≤ ovT x ∧ ovT x ≤ 1000000 by unfold ovT; omega)
  have HB := hid (boxS_below w x)
  have HX := hid (boxS_new w x)
  have HBX := hid (fun W (g : Below (w.alloc (.cells #[.int .i64 x.tk, .int .i64 x.hd, .int .i64 x.bh, .int .i64 x.ch, .int .i64 x.ht, .int .i64 x.ep, .int .i64 x.bp, .int .i64 x.wr, .int .i64 x.th, .int .i64 x.cs] 39)).heap.size (w.alloc (.cells #[.int .i64 x.tk, .int .i64 x.hd, .int .i64 x.bh, .int .i64 x.ch, .int .i64 x.ht, .int .i64 x.ep, .int .i64 x.bp, .int .i64 x.wr, .int .i64 x.th, .int .i64 x.cs] 39)) W) => (boxS_new w x).keep g)
  have HBB := hid (fun W (g : Below (w.alloc (.cells #[.int .i64 x.tk, .int .i64 x.hd, .int .i64 x.bh, .int .i64 x.ch, .int .i64 x.ht, .int .i64 x.ep, .int .i64 x.bp, .int .i64 x.wr, .int .i64 x.th, .int .i64 x.cs] 39)).heap.size (w.alloc (.cells #[.int .i64 x.tk, .int .i64 x.hd, .int .i64 x.bh, .int .i64 x.ch, .int .i64 x.ht, .int .i64 x.ep, .int .i64 x.bp, .int .i64 x.wr, .int .i64 x.th, .int .i64 x.cs] 39)) W) => bstep (boxS_below w x) (boxS_below w x).size g)
  obtain ⟨R, hR⟩ : ∃ R, R = roomT x := ⟨_, rfl⟩
  have HR := hid hR
  have HP := hid (show pctT x = if R ≤ 0 then 0 else 100 * ovT x / R by rw [hR]; rfl)
  obtain ⟨O, hO⟩ : ∃ O, O = ovT x := ⟨_, rfl⟩
  have HO := hid hO
  rw [← hO] at HP HO1
  clear hR hO e1 e2 p1 p2 h1 h2 h3 h4 h5 h6
  by_cases h0 : R ≤ 0
  · have HE := hid (show pctT x = 0 by rw [HP.out, if_pos h0])
    go_enter Try.func53, Try.ntmps53
    go_wp2_with fail
    refine (kroom_any x _ HOK.out).mono ?_
    rintro e w1 ⟨rfl, hb⟩
    rw [← HR.out]
    have HB1 := hid (HBB.out _ hb)
    clear hb
    go_wp2_with fail
    go_ret
    exact ⟨ret_int HE.out.symm, HB1.out⟩
  · have HE := hid (show pctT x = 100 * O / R by rw [HP.out, if_neg h0])
    have hR1 : 1 ≤ R := by omega
    obtain ⟨o1, o2⟩ := HO1.out
    have hn1 : -1000000000000000 ≤ 100 * O := by omega
    have hn2 : 100 * O ≤ 1000000000000000 := by omega
    have HW := hid (show IntKind.i64.wrap (100 * O) = 100 * O from IntWalk.i64_in _ ⟨by omega, by omega⟩)
    go_enter Try.func53, Try.ntmps53
    go_wp2_with fail
    refine (kroom_any x _ HOK.out).mono ?_
    rintro e w1 ⟨rfl, hb⟩
    rw [← HR.out]
    obtain ⟨b0, b1, b2, b3, b4, b5, b6, b7, b8, b9⟩ := HBX.out _ hb
    have HB1 := hid (HBB.out _ hb)
    clear hb
    have HS1 := hid (show BoxS w1 w.heap.size x from ⟨b0, b1, b2, b3, b4, b5, b6, b7, b8, b9⟩)
    go_wp2_with fail
    have hw := HW.out
    go_region_held3 (fun w' => w'.cell? ⟨w.heap.size, 0, none⟩ = some (.int .i64 x.tk) ∧ w'.cell? ⟨w.heap.size, 1, none⟩ = some (.int .i64 x.hd) ∧ w'.cell? ⟨w.heap.size, 2, none⟩ = some (.int .i64 x.bh) ∧ w'.cell? ⟨w.heap.size, 3, none⟩ = some (.int .i64 x.ch) ∧ w'.cell? ⟨w.heap.size, 4, none⟩ = some (.int .i64 x.ht) ∧ w'.cell? ⟨w.heap.size, 5, none⟩ = some (.int .i64 x.ep) ∧ w'.cell? ⟨w.heap.size, 6, none⟩ = some (.int .i64 x.bp) ∧ w'.cell? ⟨w.heap.size, 7, none⟩ = some (.int .i64 x.wr) ∧ w'.cell? ⟨w.heap.size, 8, none⟩ = some (.int .i64 x.th) ∧ w'.cell? ⟨w.heap.size, 9, none⟩ = some (.int .i64 x.cs) ∧ Below w.heap.size w w') (first | exact kbx_new HS1.out HB1.out | assumption | exact kbx_keep (by assumption) (by assumption)) (first | (go_at_call 55; refine (kover_any x _ HOK.out).mono ?_; rintro e w2 ⟨rfl, hb⟩; rw [← HO.out]) | (go_at_call 74; refine (kroom_any x _ HOK.out).mono ?_; rintro e w2 ⟨rfl, hb⟩; rw [← HR.out]) | (go_at_call 54; (try rw [HW.out]); refine (kfloor_any (100 * O) R _ hR1 hn1 hn2).mono ?_; rintro e w2 ⟨rfl, rfl⟩))
    rename_i hS
    have hB9 := kbx_low hS
    go_wp2
    go_ret
    exact ⟨ret_int HE.out.symm, hB9⟩
end Go.Proofs.Ytjfakhfkbnnbcaa
