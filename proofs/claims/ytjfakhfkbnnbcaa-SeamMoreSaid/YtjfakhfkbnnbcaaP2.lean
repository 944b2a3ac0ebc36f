/- Texts of this seat, one behind the other. -/
import Derived.Test.YtjfakhfkbnnbcaaKd
import Derived.StillTailTactics
/- Walks of cmp.Compare, cmp.Or over two numbers, before: contracts. -/
namespace Go.Proofs.Ytjfakhfkbnnbcaa
open Go.RowKit

def cmpI (a b : Int) : Int := if a < b then -1 else if b < a then 1 else 0
theorem isNaN_any (a : Int) (w : World) : Calls Try.prog 87 #[.int .i64 a] w fun e w' => e = .returned (.bool false) ∧ w = w' := by
  go_enter Try.func87, Try.ntmps87
  go_wp2
  go_ret
  exact ⟨ret_bool (by simp), rfl⟩
theorem cmp_any (a b : Int) (w : World) : Calls Try.prog 66 #[.int .i64 a, .int .i64 b] w fun e w' => e = .returned (.int .i64 (cmpI a b)) ∧ w = w' := by
  rcases Int.lt_trichotomy a b with h | h | h
  · have hE : Hid (cmpI a b = -1) := by unfold Hid cmpI; rw [if_pos h]
    go_enter Try.func66, Try.ntmps66
    go_wp2_with (go_at_call 87; refine (isNaN_any _ _).mono ?_; rintro e w' ⟨rfl, rfl⟩)
    go_ret
    exact ⟨ret_int hE.out.symm, rfl⟩
  · subst h
    have hE : Hid (cmpI a a = 0) := by unfold Hid cmpI; simp
    go_enter Try.func66, Try.ntmps66
    go_wp2_with (go_at_call 87; refine (isNaN_any _ _).mono ?_; rintro e w' ⟨rfl, rfl⟩)
    go_ret
    exact ⟨ret_int hE.out.symm, rfl⟩
  · have hE : Hid (cmpI a b = 1) := by unfold Hid cmpI; rw [if_neg (by omega), if_pos h]
    have h' : ¬ a < b := by omega
    go_enter Try.func66, Try.ntmps66
    go_wp2_with (go_at_call 87; refine (isNaN_any _ _).mono ?_; rintro e w' ⟨rfl, rfl⟩)
    go_ret
    exact ⟨ret_int hE.out.symm, rfl⟩
theorem cmp_q (a b c : Int) (h : cmpI a b = c) (w : World) : Calls Try.prog 66 #[.int .i64 a, .int .i64 b] w fun e w' => e = .returned (.int .i64 c) ∧ w' = w := by
  rw [← h]
  exact (cmp_any a b w).mono fun _ _ ⟨h1, h2⟩ => ⟨h1, h2.symm⟩
def orI (a b : Int) : Int := if a = 0 then b else a
set_option maxHeartbeats 2000000 in
theorem or_any (a b : Int) (v : Value) (w : World) (hr : RowI w v [a, b]) : Calls Try.prog 75 #[v] w fun e w' => e = .returned (.int .i64 (orI a b)) ∧ w = w' := by
  obtain ⟨va, vc, rfl⟩ := hr.shape
  obtain ⟨g, o, hv, c0⟩ := rowI_get (k := 0) hr rfl (by simp)
  subst hv
  obtain ⟨g', o', hv, c1⟩ := rowI_get (k := 1) hr rfl (by simp)
  injection hv with hv
  injection hv with e1 e2
  subst e1 e2
  simp only [List.getElem_cons_zero, List.getElem_cons_succ, List.length_cons, List.length_nil] at c0 c1 ⊢
  rw [Nat.add_zero] at c0
  clear hr
  by_cases h : a = 0
  · have hE : Hid (orI a b = b) := by unfold Hid orI; rw [if_pos h]
    subst h
    by_cases h2 : b = 0
    · subst h2
      go_enter Try.func75, Try.ntmps75
      go_wp2
      refine wp_loop_rounds 3 ?_
      rw [rounds_succ]
      go_wp2
      rw [rounds_succ]
      go_wp2
      rw [rounds_succ]
      go_wp2
      go_ret
      exact ⟨ret_int hE.out.symm, rfl⟩
    · have h2' : (b != 0) = true := by simpa using h2
      clear h2
      go_enter Try.func75, Try.ntmps75
      go_wp2
      refine wp_loop_rounds 3 ?_
      rw [rounds_succ]
      go_wp2
      rw [rounds_succ]
      go_wp2
      go_ret
      exact ⟨ret_int hE.out.symm, rfl⟩
  · have hE : Hid (orI a b = a) := by unfold Hid orI; rw [if_neg h]
    have h' : (a != 0) = true := by simpa using h
    clear h
    go_enter Try.func75, Try.ntmps75
    go_wp2
    refine wp_loop_rounds 3 ?_
    rw [rounds_succ]
    go_wp2
    go_ret
    exact ⟨ret_int hE.out.symm, rfl⟩
end Go.Proofs.Ytjfakhfkbnnbcaa

/- Walk of before: contract. -/
namespace Go.Proofs.Ytjfakhfkbnnbcaa
open Go.RowKit

def befB (x y : Sh) : Bool := decide (x.tk < y.tk) || (decide (x.tk = y.tk) && decide (x.hd < y.hd))
theorem befB_or (x y : Sh) : decide (orI (cmpI x.tk y.tk) (cmpI x.hd y.hd) < 0) = befB x y := by
  unfold orI cmpI befB
  rw [Bool.eq_iff_iff]
  simp only [decide_eq_true_iff, Bool.or_eq_true, Bool.and_eq_true]
  (repeat' split) <;> omega
set_option maxRecDepth 20000 in
set_option maxHeartbeats 4000000 in
theorem before_any (x y : Sh) (w : World) : Calls Try.prog 57 #[.agg #[.int .i64 x.tk, .int .i64 x.hd, .int .i64 x.bh, .int .i64 x.ch, .int .i64 x.ht, .int .i64 x.ep, .int .i64 x.bp, .int .i64 x.wr, .int .i64 x.th, .int .i64 x.cs], .agg #[.int .i64 y.tk, .int .i64 y.hd, .int .i64 y.bh, .int .i64 y.ch, .int .i64 y.ht, .int .i64 y.ep, .int .i64 y.bp, .int .i64 y.wr, .int .i64 y.th, .int .i64 y.cs]] w fun e w' => e = .returned (.bool (befB x y)) ∧ Below w.heap.size w w' := by
  have HX := hid (box2_start (w := w) (A := #[.int .i64 x.tk, .int .i64 x.hd, .int .i64 x.bh, .int .i64 x.ch, .int .i64 x.ht, .int .i64 x.ep, .int .i64 x.bp, .int .i64 x.wr, .int .i64 x.th, .int .i64 x.cs]) (B := #[.int .i64 y.tk, .int .i64 y.hd, .int .i64 y.bh, .int .i64 y.ch, .int .i64 y.ht, .int .i64 y.ep, .int .i64 y.bp, .int .i64 y.wr, .int .i64 y.th, .int .i64 y.cs]) (T := 39) (T' := 39) (fz := (0, 0)) (fz' := (0, 0)))
  obtain ⟨c, hc⟩ : ∃ c, cmpI x.tk y.tk = c := ⟨_, rfl⟩
  obtain ⟨d, hd⟩ : ∃ d, cmpI x.hd y.hd = d := ⟨_, rfl⟩
  have HQ1 := hid (fun W => cmp_q _ _ _ hc W)
  have HQ2 := hid (fun W => cmp_q _ _ _ hd W)
  have HE := hid (befB_or x y)
  rw [hc, hd] at HE
  clear hc hd
  go_enter Try.func57, Try.ntmps57
  go_wp2
  obtain ⟨p0, p1⟩ := show World.cell? ((w.alloc (.cells #[.int .i64 x.tk, .int .i64 x.hd, .int .i64 x.bh, .int .i64 x.ch, .int .i64 x.ht, .int .i64 x.ep, .int .i64 x.bp, .int .i64 x.wr, .int .i64 x.th, .int .i64 x.cs] 39)).alloc (.cells #[.int .i64 y.tk, .int .i64 y.hd, .int .i64 y.bh, .int .i64 y.ch, .int .i64 y.ht, .int .i64 y.ep, .int .i64 y.bp, .int .i64 y.wr, .int .i64 y.th, .int .i64 y.cs] 39)) ⟨w.heap.size, 0, none⟩ = some (.int .i64 x.tk) ∧ World.cell? ((w.alloc (.cells #[.int .i64 x.tk, .int .i64 x.hd, .int .i64 x.bh, .int .i64 x.ch, .int .i64 x.ht, .int .i64 x.ep, .int .i64 x.bp, .int .i64 x.wr, .int .i64 x.th, .int .i64 x.cs] 39)).alloc (.cells #[.int .i64 y.tk, .int .i64 y.hd, .int .i64 y.bh, .int .i64 y.ch, .int .i64 y.ht, .int .i64 y.ep, .int .i64 y.bp, .int .i64 y.wr, .int .i64 y.th, .int .i64 y.cs] 39)) ⟨w.heap.size, 1, none⟩ = some (.int .i64 x.hd) from ⟨HX.out.fst 0, HX.out.fst 1⟩
  obtain ⟨q0, q1⟩ := show World.cell? ((w.alloc (.cells #[.int .i64 x.tk, .int .i64 x.hd, .int .i64 x.bh, .int .i64 x.ch, .int .i64 x.ht, .int .i64 x.ep, .int .i64 x.bp, .int .i64 x.wr, .int .i64 x.th, .int .i64 x.cs] 39)).alloc (.cells #[.int .i64 y.tk, .int .i64 y.hd, .int .i64 y.bh, .int .i64 y.ch, .int .i64 y.ht, .int .i64 y.ep, .int .i64 y.bp, .int .i64 y.wr, .int .i64 y.th, .int .i64 y.cs] 39)) ⟨w.heap.size + 1, 0, none⟩ = some (.int .i64 y.tk) ∧ World.cell? ((w.alloc (.cells #[.int .i64 x.tk, .int .i64 x.hd, .int .i64 x.bh, .int .i64 x.ch, .int .i64 x.ht, .int .i64 x.ep, .int .i64 x.bp, .int .i64 x.wr, .int .i64 x.th, .int .i64 x.cs] 39)).alloc (.cells #[.int .i64 y.tk, .int .i64 y.hd, .int .i64 y.bh, .int .i64 y.ch, .int .i64 y.ht, .int .i64 y.ep, .int .i64 y.bp, .int .i64 y.wr, .int .i64 y.th, .int .i64 y.cs] 39)) ⟨w.heap.size + 1, 1, none⟩ = some (.int .i64 y.hd) from ⟨HX.out.snd 0, HX.out.snd 1⟩
  generalize World.alloc (World.alloc w _) _ = W at *
  refine wp_region_still_tail 10 (by kernel_rfl) (by kernel_rfl) ?_
  simp only [List.take_succ_cons, List.take_zero, List.drop_succ_cons, List.drop_zero]
  iterate 4 still_step
  still_call (HQ1.out _)
  iterate 4 still_step
  still_call (HQ2.out _)
  refine wpStill_nil ?_
  have HB2 := hid (HX.out.low.drew.alloc (by have := HX.out.sz; simp; omega) (.cells #[.int .i64 c, .int .i64 d] 3))
  have HRW := hid (rowI_two (w := W.drew) (x := c) (y := d) (T := 3) rfl)
  go_wp2_with fail
  refine (or_any c d _ _ HRW.out).mono ?_
  rintro e w3 ⟨rfl, rfl⟩
  go_wp2_with fail
  go_ret
  exact ⟨ret_bool HE.out, HB2.out⟩
end Go.Proofs.Ytjfakhfkbnnbcaa

/- Lists of sheets: plain facts, rows, what a region over two of them holds. -/
namespace Go.Proofs.Ytjfakhfkbnnbcaa
open Go.RowKit

/-- Ten cells of a row hold a sheet. -/
def ShAt (W : World) (b o : Nat) (x : Sh) : Prop := World.cell? (W) ⟨b, o, none⟩ = some (.int .i64 x.tk) ∧ World.cell? (W) ⟨b, o + 1, none⟩ = some (.int .i64 x.hd) ∧ World.cell? (W) ⟨b, o + 2, none⟩ = some (.int .i64 x.bh) ∧ World.cell? (W) ⟨b, o + 3, none⟩ = some (.int .i64 x.ch) ∧ World.cell? (W) ⟨b, o + 4, none⟩ = some (.int .i64 x.ht) ∧ World.cell? (W) ⟨b, o + 5, none⟩ = some (.int .i64 x.ep) ∧ World.cell? (W) ⟨b, o + 6, none⟩ = some (.int .i64 x.bp) ∧ World.cell? (W) ⟨b, o + 7, none⟩ = some (.int .i64 x.wr) ∧ World.cell? (W) ⟨b, o + 8, none⟩ = some (.int .i64 x.th) ∧ World.cell? (W) ⟨b, o + 9, none⟩ = some (.int .i64 x.cs)
theorem ShAt.keep {W w2 : World} {b o : Nat} {x : Sh} (h : ShAt W b o x) (hb : Below W.heap.size W w2) : ShAt w2 b o x := ⟨keep_cell hb h.1, keep_cell hb h.2.1, keep_cell hb h.2.2.1, keep_cell hb h.2.2.2.1, keep_cell hb h.2.2.2.2.1, keep_cell hb h.2.2.2.2.2.1, keep_cell hb h.2.2.2.2.2.2.1, keep_cell hb h.2.2.2.2.2.2.2.1, keep_cell hb h.2.2.2.2.2.2.2.2.1, keep_cell hb h.2.2.2.2.2.2.2.2.2⟩
/-- A list of sheets that is read, from any place of a row. -/
def RowH (w : World) (v : Value) (l : List Sh) : Prop := ∃ a b o cap, v = .slice a l.length cap ∧ l.length ≤ cap ∧ cap ≤ maxLen ∧ (l = [] ∨ a = some ⟨b, o, none⟩) ∧ ∀ k (h : k < l.length), ShAt w b (o + k * 10) l[k]
theorem RowH.keep {W w2 : World} {v : Value} {l : List Sh} (h : RowH W v l) (hb : Below W.heap.size W w2) : RowH w2 v l := by
  obtain ⟨a, b, o, cap, h1, h2, h3, h4, h5⟩ := h
  exact ⟨a, b, o, cap, h1, h2, h3, h4, fun k hk => (h5 k hk).keep hb⟩
theorem RowH.most {w : World} {v : Value} {l : List Sh} (h : RowH w v l) : l.length ≤ maxLen := by
  obtain ⟨a, b, o, cap, rfl, h2, h3, h4, h5⟩ := h; omega
theorem RowH.shape {w : World} {v : Value} {l : List Sh} (h : RowH w v l) : ∃ a cap, v = .slice a l.length cap := by
  obtain ⟨a, b, o, cap, rfl, h2, h3, h4, h5⟩ := h; exact ⟨_, _, rfl⟩
theorem RowH.get {w : World} {a : Option Addr} {n c : Nat} {l : List Sh} (h : RowH w (.slice a n c) l) (hk : 0 < l.length) : ∃ b o, a = some ⟨b, o, none⟩ ∧ ∀ k (h : k < l.length), ShAt w b (o + k * 10) l[k] := by
  obtain ⟨a', b, o, cap, hv, h2, h3, h4, h5⟩ := h
  injection hv with e1 e2 e3
  subst e1
  rcases h4 with rfl | rfl
  · simp at hk
  · exact ⟨b, o, rfl, h5⟩
def shD : Sh := ⟨0, 0, 0, 0, 0, 0, 0, 0, 0, 0⟩
def oneS (l : List Sh) (k : Nat) : Bool := shB (l.getD k shD) && (decide (k = 0) || befB (l.getD (k - 1) shD) (l.getD k shD))
/-- Sheets that are valid. -/
def shsB (l : List Sh) : Bool := decide (l.length ≤ 500) && allB l.length (oneS l)
theorem shsB_many {l : List Sh} (h : 500 < l.length) : shsB l = false := by unfold shsB; rw [decide_eq_false (by omega)]; rfl
theorem shsB_bad {l : List Sh} {k : Nat} (hk : k < l.length) (h : oneS l k = false) : shsB l = false := by unfold shsB; rw [allB_bad hk h, Bool.and_false]
theorem shsB_end {l : List Sh} (h0 : l.length ≤ 500) (h : ∀ j, j < l.length → oneS l j = true) : shsB l = true := by unfold shsB; rw [decide_eq_true h0, allB_end h]; rfl
theorem vs_keep {w0 W w2 : World} {bx b q : Nat} {x y : Sh} (hb : Below W.heap.size W w2) (h : World.cell? (W) ⟨bx, 0, none⟩ = some (.int .i64 x.tk) ∧ World.cell? (W) ⟨bx, 1, none⟩ = some (.int .i64 x.hd) ∧ World.cell? (W) ⟨bx, 2, none⟩ = some (.int .i64 x.bh) ∧ World.cell? (W) ⟨bx, 3, none⟩ = some (.int .i64 x.ch) ∧ World.cell? (W) ⟨bx, 4, none⟩ = some (.int .i64 x.ht) ∧ World.cell? (W) ⟨bx, 5, none⟩ = some (.int .i64 x.ep) ∧ World.cell? (W) ⟨bx, 6, none⟩ = some (.int .i64 x.bp) ∧ World.cell? (W) ⟨bx, 7, none⟩ = some (.int .i64 x.wr) ∧ World.cell? (W) ⟨bx, 8, none⟩ = some (.int .i64 x.th) ∧ World.cell? (W) ⟨bx, 9, none⟩ = some (.int .i64 x.cs) ∧ World.cell? (W) ⟨b, q, none⟩ = some (.int .i64 y.tk) ∧ World.cell? (W) ⟨b, q + 1, none⟩ = some (.int .i64 y.hd) ∧ World.cell? (W) ⟨b, q + 2, none⟩ = some (.int .i64 y.bh) ∧ World.cell? (W) ⟨b, q + 3, none⟩ = some (.int .i64 y.ch) ∧ World.cell? (W) ⟨b, q + 4, none⟩ = some (.int .i64 y.ht) ∧ World.cell? (W) ⟨b, q + 5, none⟩ = some (.int .i64 y.ep) ∧ World.cell? (W) ⟨b, q + 6, none⟩ = some (.int .i64 y.bp) ∧ World.cell? (W) ⟨b, q + 7, none⟩ = some (.int .i64 y.wr) ∧ World.cell? (W) ⟨b, q + 8, none⟩ = some (.int .i64 y.th) ∧ World.cell? (W) ⟨b, q + 9, none⟩ = some (.int .i64 y.cs) ∧ Below w0.heap.size w0 (W)) : World.cell? (w2) ⟨bx, 0, none⟩ = some (.int .i64 x.tk) ∧ World.cell? (w2) ⟨bx, 1, none⟩ = some (.int .i64 x.hd) ∧ World.cell? (w2) ⟨bx, 2, none⟩ = some (.int .i64 x.bh) ∧ World.cell? (w2) ⟨bx, 3, none⟩ = some (.int .i64 x.ch) ∧ World.cell? (w2) ⟨bx, 4, none⟩ = some (.int .i64 x.ht) ∧ World.cell? (w2) ⟨bx, 5, none⟩ = some (.int .i64 x.ep) ∧ World.cell? (w2) ⟨bx, 6, none⟩ = some (.int .i64 x.bp) ∧ World.cell? (w2) ⟨bx, 7, none⟩ = some (.int .i64 x.wr) ∧ World.cell? (w2) ⟨bx, 8, none⟩ = some (.int .i64 x.th) ∧ World.cell? (w2) ⟨bx, 9, none⟩ = some (.int .i64 x.cs) ∧ World.cell? (w2) ⟨b, q, none⟩ = some (.int .i64 y.tk) ∧ World.cell? (w2) ⟨b, q + 1, none⟩ = some (.int .i64 y.hd) ∧ World.cell? (w2) ⟨b, q + 2, none⟩ = some (.int .i64 y.bh) ∧ World.cell? (w2) ⟨b, q + 3, none⟩ = some (.int .i64 y.ch) ∧ World.cell? (w2) ⟨b, q + 4, none⟩ = some (.int .i64 y.ht) ∧ World.cell? (w2) ⟨b, q + 5, none⟩ = some (.int .i64 y.ep) ∧ World.cell? (w2) ⟨b, q + 6, none⟩ = some (.int .i64 y.bp) ∧ World.cell? (w2) ⟨b, q + 7, none⟩ = some (.int .i64 y.wr) ∧ World.cell? (w2) ⟨b, q + 8, none⟩ = some (.int .i64 y.th) ∧ World.cell? (w2) ⟨b, q + 9, none⟩ = some (.int .i64 y.cs) ∧ Below w0.heap.size w0 (w2) :=
  ⟨keep_cell hb h.1, keep_cell hb h.2.1, keep_cell hb h.2.2.1, keep_cell hb h.2.2.2.1, keep_cell hb h.2.2.2.2.1, keep_cell hb h.2.2.2.2.2.1, keep_cell hb h.2.2.2.2.2.2.1, keep_cell hb h.2.2.2.2.2.2.2.1, keep_cell hb h.2.2.2.2.2.2.2.2.1, keep_cell hb h.2.2.2.2.2.2.2.2.2.1, keep_cell hb h.2.2.2.2.2.2.2.2.2.2.1, keep_cell hb h.2.2.2.2.2.2.2.2.2.2.2.1, keep_cell hb h.2.2.2.2.2.2.2.2.2.2.2.2.1, keep_cell hb h.2.2.2.2.2.2.2.2.2.2.2.2.2.1, keep_cell hb h.2.2.2.2.2.2.2.2.2.2.2.2.2.2.1, keep_cell hb h.2.2.2.2.2.2.2.2.2.2.2.2.2.2.2.1, keep_cell hb h.2.2.2.2.2.2.2.2.2.2.2.2.2.2.2.2.1, keep_cell hb h.2.2.2.2.2.2.2.2.2.2.2.2.2.2.2.2.2.1, keep_cell hb h.2.2.2.2.2.2.2.2.2.2.2.2.2.2.2.2.2.2.1, keep_cell hb h.2.2.2.2.2.2.2.2.2.2.2.2.2.2.2.2.2.2.2.1, bstep h.2.2.2.2.2.2.2.2.2.2.2.2.2.2.2.2.2.2.2.2 h.2.2.2.2.2.2.2.2.2.2.2.2.2.2.2.2.2.2.2.2.size hb⟩
theorem vs_new {W : World} {bx b q : Nat} {x y : Sh} (hx : BoxS W bx x) (hy : ShAt W b q y) : World.cell? (W.drew) ⟨bx, 0, none⟩ = some (.int .i64 x.tk) ∧ World.cell? (W.drew) ⟨bx, 1, none⟩ = some (.int .i64 x.hd) ∧ World.cell? (W.drew) ⟨bx, 2, none⟩ = some (.int .i64 x.bh) ∧ World.cell? (W.drew) ⟨bx, 3, none⟩ = some (.int .i64 x.ch) ∧ World.cell? (W.drew) ⟨bx, 4, none⟩ = some (.int .i64 x.ht) ∧ World.cell? (W.drew) ⟨bx, 5, none⟩ = some (.int .i64 x.ep) ∧ World.cell? (W.drew) ⟨bx, 6, none⟩ = some (.int .i64 x.bp) ∧ World.cell? (W.drew) ⟨bx, 7, none⟩ = some (.int .i64 x.wr) ∧ World.cell? (W.drew) ⟨bx, 8, none⟩ = some (.int .i64 x.th) ∧ World.cell? (W.drew) ⟨bx, 9, none⟩ = some (.int .i64 x.cs) ∧ World.cell? (W.drew) ⟨b, q, none⟩ = some (.int .i64 y.tk) ∧ World.cell? (W.drew) ⟨b, q + 1, none⟩ = some (.int .i64 y.hd) ∧ World.cell? (W.drew) ⟨b, q + 2, none⟩ = some (.int .i64 y.bh) ∧ World.cell? (W.drew) ⟨b, q + 3, none⟩ = some (.int .i64 y.ch) ∧ World.cell? (W.drew) ⟨b, q + 4, none⟩ = some (.int .i64 y.ht) ∧ World.cell? (W.drew) ⟨b, q + 5, none⟩ = some (.int .i64 y.ep) ∧ World.cell? (W.drew) ⟨b, q + 6, none⟩ = some (.int .i64 y.bp) ∧ World.cell? (W.drew) ⟨b, q + 7, none⟩ = some (.int .i64 y.wr) ∧ World.cell? (W.drew) ⟨b, q + 8, none⟩ = some (.int .i64 y.th) ∧ World.cell? (W.drew) ⟨b, q + 9, none⟩ = some (.int .i64 y.cs) ∧ Below W.heap.size W (W.drew) := by
  obtain ⟨x0, x1, x2, x3, x4, x5, x6, x7, x8, x9⟩ := hx
  obtain ⟨y0, y1, y2, y3, y4, y5, y6, y7, y8, y9⟩ := hy
  exact ⟨x0, x1, x2, x3, x4, x5, x6, x7, x8, x9, y0, y1, y2, y3, y4, y5, y6, y7, y8, y9, (Below.refl _ _).drew⟩
theorem vs_low {w0 W : World} {bx b q : Nat} {x y : Sh} (h : World.cell? (W) ⟨bx, 0, none⟩ = some (.int .i64 x.tk) ∧ World.cell? (W) ⟨bx, 1, none⟩ = some (.int .i64 x.hd) ∧ World.cell? (W) ⟨bx, 2, none⟩ = some (.int .i64 x.bh) ∧ World.cell? (W) ⟨bx, 3, none⟩ = some (.int .i64 x.ch) ∧ World.cell? (W) ⟨bx, 4, none⟩ = some (.int .i64 x.ht) ∧ World.cell? (W) ⟨bx, 5, none⟩ = some (.int .i64 x.ep) ∧ World.cell? (W) ⟨bx, 6, none⟩ = some (.int .i64 x.bp) ∧ World.cell? (W) ⟨bx, 7, none⟩ = some (.int .i64 x.wr) ∧ World.cell? (W) ⟨bx, 8, none⟩ = some (.int .i64 x.th) ∧ World.cell? (W) ⟨bx, 9, none⟩ = some (.int .i64 x.cs) ∧ World.cell? (W) ⟨b, q, none⟩ = some (.int .i64 y.tk) ∧ World.cell? (W) ⟨b, q + 1, none⟩ = some (.int .i64 y.hd) ∧ World.cell? (W) ⟨b, q + 2, none⟩ = some (.int .i64 y.bh) ∧ World.cell? (W) ⟨b, q + 3, none⟩ = some (.int .i64 y.ch) ∧ World.cell? (W) ⟨b, q + 4, none⟩ = some (.int .i64 y.ht) ∧ World.cell? (W) ⟨b, q + 5, none⟩ = some (.int .i64 y.ep) ∧ World.cell? (W) ⟨b, q + 6, none⟩ = some (.int .i64 y.bp) ∧ World.cell? (W) ⟨b, q + 7, none⟩ = some (.int .i64 y.wr) ∧ World.cell? (W) ⟨b, q + 8, none⟩ = some (.int .i64 y.th) ∧ World.cell? (W) ⟨b, q + 9, none⟩ = some (.int .i64 y.cs) ∧ Below w0.heap.size w0 (W)) : Below w0.heap.size w0 W := h.2.2.2.2.2.2.2.2.2.2.2.2.2.2.2.2.2.2.2.2
end Go.Proofs.Ytjfakhfkbnnbcaa
