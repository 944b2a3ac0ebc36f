/- Walks of Cold and At: contracts. -/
import Derived.Test.YtedfajokiblfhaaRx
import Derived.Test.YtedfajokiblfhaaRy
import Derived.Test.YtedfajokiblfhaaRt
namespace Go.Proofs.Ytedfajokiblfhaa
open Go.RowKit

/-- A list of numbers comes back, and an error. -/
def ColP (L : List Int) (n : Int) (w : World) (e : Ending) (w' : World) : Prop := ∃ (ua : Option Addr) (uc : Nat), e = .returned (.tuple #[.slice ua L.length uc, .int .i64 n]) ∧ RowI w' (.slice ua L.length uc) L ∧ Below w.heap.size w w'
theorem rowI_nil (w : World) : RowI w (.slice none 0 0) [] := .inl ⟨_, _, rfl, rfl⟩
/-- What Cold hands back. -/
def colO (r l a b k a2 b2 : Int) (x : Bd) (p : List Int) : List Int × Int :=
  if chkE (bothB r l a b k a2 b2 x.1 x.2) p = 0 then (tellN (fun y => minT y.1) (cnOf r l a b k a2 b2) x p p.length, 0) else ([], chkE (bothB r l a b k a2 b2 x.1 x.2) p)
theorem colO_ok {r l a b k a2 b2 : Int} {x : Bd} {p : List Int} (h : chkE (bothB r l a b k a2 b2 x.1 x.2) p = 0) : colO r l a b k a2 b2 x p = (tellN (fun y => minT y.1) (cnOf r l a b k a2 b2) x p p.length, 0) := by unfold colO; rw [if_pos h]
theorem colO_err {r l a b k a2 b2 : Int} {x : Bd} {p : List Int} (h : chkE (bothB r l a b k a2 b2 x.1 x.2) p ≠ 0) : colO r l a b k a2 b2 x p = ([], chkE (bothB r l a b k a2 b2 x.1 x.2) p) := by unfold colO; rw [if_neg h]
/-- What At hands back. -/
def atO (r l a b k a2 b2 : Int) (x : Bd) (p : List Int) (pl : Int) : List Int × Int :=
  if chkE (bothB r l a b k a2 b2 x.1 x.2) p = 0 then (if 0 ≤ pl ∧ pl ≤ r * l - 1 then (tellN (fun y => y.1.getD pl.toNat 0) (cnOf r l a b k a2 b2) x p p.length, 0) else ([], 5)) else ([], chkE (bothB r l a b k a2 b2 x.1 x.2) p)
theorem atO_ok {c : Cn} {x : Bd} {p : List Int} {q : Nat} (h : chkE (bothB c.R c.L c.A c.B c.K c.A2 c.B2 x.1 x.2) p = 0) (hq : q < c.P) : atO c.R c.L c.A c.B c.K c.A2 c.B2 x p q = (tellN (fun y => y.1.getD q 0) c x p p.length, 0) := by
  have hP := c.P_int
  unfold atO
  rw [if_pos h, if_pos (by rw [← hP]; omega), cnOf_cn, Int.toNat_natCast]
theorem atO_name {c : Cn} {x : Bd} {p : List Int} {pl : Int} (h : chkE (bothB c.R c.L c.A c.B c.K c.A2 c.B2 x.1 x.2) p = 0) (hq : ¬ (0 ≤ pl ∧ pl ≤ (c.P : Int) - 1)) : atO c.R c.L c.A c.B c.K c.A2 c.B2 x p pl = ([], 5) := by
  have hP := c.P_int
  unfold atO
  rw [if_pos h, if_neg (by rw [← hP]; exact hq)]
theorem atO_err {r l a b k a2 b2 : Int} {x : Bd} {p : List Int} {pl : Int} (h : chkE (bothB r l a b k a2 b2 x.1 x.2) p ≠ 0) : atO r l a b k a2 b2 x p pl = ([], chkE (bothB r l a b k a2 b2 x.1 x.2) p) := by unfold atO; rw [if_neg h]
set_option maxRecDepth 20000 in
set_option maxHeartbeats 2000000 in
theorem hcold_all (r l a b k a2 b2 : Int) (w : World) (v : Value) (T : List Int) (br : Bool) (v2 : Value) (p : List Int) (hl : RowI w v T) (hl2 : RowI w v2 p) :
    Calls Try.prog 20 #[.agg #[.int .i64 r, .int .i64 l, .int .i64 a, .int .i64 b, .int .i64 k, .int .i64 a2, .int .i64 b2], .agg #[v, .bool br], v2] w (ColP (colO r l a b k a2 b2 (T, br) p).1 (colO r l a b k a2 b2 (T, br) p).2 w) := by
  have HL := hid (fun w1 (g : Below w.heap.size w w1) => hl.keep g)
  have HL2 := hid (fun w1 (g : Below w.heap.size w w1) => hl2.keep g)
  have HC := hid (fun w1 v h1 h2 => check_any r l a b k a2 b2 w1 v T br v2 p h1 h2)
  obtain ⟨a0, cap, rfl⟩ := hl.shape
  clear hl hl2
  have HS := hid (r2_start (w := w) (A := #[.int .i64 r, .int .i64 l, .int .i64 a, .int .i64 b, .int .i64 k, .int .i64 a2, .int .i64 b2]) (R := #[.slice a0 T.length cap, .bool br]))
  rcases chkE_cases (bothB r l a b k a2 b2 T br) p with hne | ⟨h0, hbb, ho, hlen⟩
  · rw [colO_err (x := (T, br)) hne]
    obtain ⟨ce, hce⟩ : ∃ ce, ce = chkE (bothB r l a b k a2 b2 T br) p := ⟨_, rfl⟩
    rw [← hce] at hne HC ⊢
    have hb0 : (ce == 0) = false := by simpa using hne
    have hb1 : (ce != 0) = true := by simpa using hne
    clear hce
    go_enter Try.func20, Try.ntmps20
    go_wp2_with (go_at_call 40; refine (HC.out _ _ (HL.out _ HS.out.low) (HL2.out _ HS.out.low)).mono ?_; rintro e w1 ⟨rfl, hb⟩; have H1 := hid (HS.out.keep hb); clear hb)
    go_ret2
    exact ⟨none, 0, rfl, rowI_nil _, H1.out.low⟩
  · rw [colO_ok (x := (T, br)) h0]
    rw [h0] at HC
    obtain ⟨c, hcv, ⟨rfl, rfl, rfl, rfl, rfl, rfl, rfl⟩, hbv, hwm⟩ := both_open hbb
    rw [cnOf_cn]
    have HT := hid (fun w1 h1 h2 => told_cold c (T, br) (.slice a0 T.length cap) v2 p w1 hcv hbv ho hlen h1 h2)
    obtain ⟨L, hL⟩ : ∃ L, L = tellN (fun y => minT y.1) c (T, br) p p.length := ⟨_, rfl⟩
    rw [← hL] at HT ⊢
    unfold ToldP at HT
    clear hcv hbv hwm ho hL hbb h0
    go_enter Try.func20, Try.ntmps20
    go_wp2_with (first
      | (go_at_call 40; refine (HC.out _ _ (HL.out _ HS.out.low) (HL2.out _ HS.out.low)).mono ?_; rintro e w1 ⟨rfl, hb⟩; have H1 := hid (HS.out.keep hb); clear hb; obtain ⟨k0, k1, k2, k3, k4, k5, k6, k7, k8, k9, k10⟩ := H1.out.nine)
      | (go_at_call 42; refine (HT.out _ (HL.out _ H1.out.low) (HL2.out _ H1.out.low)).mono ?_; rintro e w2 ⟨ua, uc, rfl, hri, hb⟩; have H2 := hid (H1.out.keep hb); have HRI := hid hri; clear hri hb))
    go_ret2
    exact ⟨ua, uc, rfl, HRI.out, H2.out.low⟩
/-- At's boxes. -/
structure P3 (w w1 : World) (A B : Array Value) (pl : Int) : Prop where
  two : R2 w w1 A B
  plc : w1.heap[w.heap.size + 1 + 1]? = some (.cells #[.int .i64 pl] 3 (0, 0))
theorem p3_start {w : World} {A B : Array Value} {pl : Int} : P3 w (((w.alloc (.cells A 23)).alloc (.cells B 42)).alloc (.cells #[.int .i64 pl] 3)) A B pl :=
  ⟨(r2_start (A := A) (R := B)).keep ((Below.refl _ _).alloc (Nat.le_refl _) _), new_at (by simp)⟩
theorem P3.keep {w w1 w2 : World} {A B : Array Value} {pl : Int} (h : P3 w w1 A B pl) (hb : Below w1.heap.size w1 w2) : P3 w w2 A B pl := ⟨h.two.keep hb, (hb.block _ (lt_of_block h.plc)).trans h.plc⟩
theorem P3.ten {w w1 : World} {c0 c1 c2 c3 c4 c5 c6 d0 d1 : Value} {pl : Int} (h : P3 w w1 #[c0, c1, c2, c3, c4, c5, c6] #[d0, d1] pl) :
    (w1.cell? ⟨w.heap.size, 0, none⟩ = some c0 ∧ w1.cell? ⟨w.heap.size, 1, none⟩ = some c1 ∧ w1.cell? ⟨w.heap.size, 2, none⟩ = some c2 ∧ w1.cell? ⟨w.heap.size, 3, none⟩ = some c3 ∧ w1.cell? ⟨w.heap.size, 4, none⟩ = some c4 ∧ w1.cell? ⟨w.heap.size, 5, none⟩ = some c5 ∧ w1.cell? ⟨w.heap.size, 6, none⟩ = some c6) ∧
    (w1.cell? ⟨w.heap.size + 1, 0, none⟩ = some d0 ∧ w1.cell? ⟨w.heap.size + 1, 1, none⟩ = some d1) ∧ w1.cell? ⟨w.heap.size + 1 + 1, 0, none⟩ = some (.int .i64 pl) := by
  obtain ⟨k0, k1, k2, k3, k4, k5, k6, k7, k8, _⟩ := h.two.nine
  exact ⟨⟨k0, k1, k2, k3, k4, k5, k6⟩, ⟨k7, k8⟩, cell_of_row _ _ 0 _ _ _ h.plc⟩
set_option maxRecDepth 20000 in
set_option maxHeartbeats 4000000 in
theorem hat_all (r l a b k a2 b2 : Int) (w : World) (v : Value) (T : List Int) (br : Bool) (v2 : Value) (p : List Int) (pl : Int) (hl : RowI w v T) (hl2 : RowI w v2 p) (hpl : -1 ≤ pl ∧ pl ≤ 1000) :
    Calls Try.prog 18 #[.agg #[.int .i64 r, .int .i64 l, .int .i64 a, .int .i64 b, .int .i64 k, .int .i64 a2, .int .i64 b2], .agg #[v, .bool br], v2, .int .i64 pl] w (ColP (atO r l a b k a2 b2 (T, br) p pl).1 (atO r l a b k a2 b2 (T, br) p pl).2 w) := by
  have HL := hid (fun w1 (g : Below w.heap.size w w1) => hl.keep g)
  have HL2 := hid (fun w1 (g : Below w.heap.size w w1) => hl2.keep g)
  have HC := hid (fun w1 v h1 h2 => check_any r l a b k a2 b2 w1 v T br v2 p h1 h2)
  obtain ⟨a0, cap, rfl⟩ := hl.shape
  clear hl hl2
  have HS := hid (p3_start (w := w) (A := #[.int .i64 r, .int .i64 l, .int .i64 a, .int .i64 b, .int .i64 k, .int .i64 a2, .int .i64 b2]) (B := #[.slice a0 T.length cap, .bool br]) (pl := pl))
  rcases chkE_cases (bothB r l a b k a2 b2 T br) p with hne | ⟨h0, hbb, ho, hlen⟩
  · rw [atO_err (x := (T, br)) hne]
    obtain ⟨ce, hce⟩ : ∃ ce, ce = chkE (bothB r l a b k a2 b2 T br) p := ⟨_, rfl⟩
    rw [← hce] at hne HC ⊢
    have hb0 : (ce == 0) = false := by simpa using hne
    have hb1 : (ce != 0) = true := by simpa using hne
    clear hce
    go_enter Try.func18, Try.ntmps18
    go_wp2_with (go_at_call 40; refine (HC.out _ _ (HL.out _ HS.out.two.low) (HL2.out _ HS.out.two.low)).mono ?_; rintro e w1 ⟨rfl, hb⟩; have H1 := hid (HS.out.keep hb); clear hb)
    go_ret2
    exact ⟨none, 0, rfl, rowI_nil _, H1.out.two.low⟩
  · rw [h0] at HC
    obtain ⟨c, hcv, ⟨rfl, rfl, rfl, rfl, rfl, rfl, rfl⟩, hbv, hwm⟩ := both_open hbb
    obtain ⟨hP1, hP2⟩ := hcv.ok.p
    have HPL := hid (fun w1 => places_yes c w1 hcv)
    obtain ⟨P, hP⟩ : ∃ P, P = c.P := ⟨_, rfl⟩
    have HPP := hid hP
    rw [← hP] at HPL hP1 hP2
    go_enter Try.func18, Try.ntmps18
    go_wp2_with fail
    refine (HC.out _ _ (HL.out _ HS.out.two.low) (HL2.out _ HS.out.two.low)).mono ?_
    rintro e w1 ⟨rfl, hb⟩
    have H1 := hid (HS.out.keep hb)
    clear hb
    obtain ⟨⟨k0, k1, k2, k3, k4, k5, k6⟩, ⟨k7, k8⟩, k9⟩ := H1.out.ten
    go_wp2_with fail
    have g0 := fun q : LowBy w1 => low_cell k0 q
    have g1 := fun q : LowBy w1 => low_cell k1 q
    have g2 := fun q : LowBy w1 => low_cell k2 q
    have g3 := fun q : LowBy w1 => low_cell k3 q
    have g4 := fun q : LowBy w1 => low_cell k4 q
    have g5 := fun q : LowBy w1 => low_cell k5 q
    have g6 := fun q : LowBy w1 => low_cell k6 q
    have g9 := fun q : LowBy w1 => low_cell k9 q
    have hcp := fun q : LowBy w1 => low_of (HPL.out q.W)
    have hw1 : IntKind.i64.wrap ((P : Int) - 1) = (P : Int) - 1 := wrap_i64 (by omega) (by omega)
    obtain ⟨B, hB⟩ : ∃ B, (decide (0 ≤ pl) && decide (pl ≤ (P : Int) - 1)) = B := ⟨_, rfl⟩
    have HCW := hid (show ∀ q : LowBy w1, Calls Try.prog 41 #[.int .i64 pl, .int .i64 0, .int .i64 ((P : Int) - 1)] q.W (fun e w'' => e = .returned (.bool B) ∧ ∃ q' : LowBy w1, w'' = q'.W) from fun q => by
      have h := low_of_same (within_any pl 0 ((P : Int) - 1) q.W)
      rw [hB] at h
      exact h)
    have hcw := HCW.out
    cases B
    · have HE := hid (atO_name (x := (T, br)) (p := p) (pl := pl) h0 (by rw [← hP]; simpa using hB))
      clear hB hP
      refine wp_region_low (by kernel_rfl) (by kernel_rfl) (fun R hR => ?_)
      (refine low_step (by assumption) ?_; intro R hR K hK; go_simp; first | (refine hK _ ?_; clear hK K) | (apply Exists.intro; refine ⟨fun _ => ?_, hK _ ?_⟩; (first | (go_at_call 17; exact hcp _) | (go_at_call 41; exact hcw _)); clear hK K))
      (refine low_step (by assumption) ?_; intro R hR K hK; go_simp; first | (refine hK _ ?_; clear hK K) | (apply Exists.intro; refine ⟨fun _ => ?_, hK _ ?_⟩; (first | (go_at_call 17; exact hcp _) | (go_at_call 41; exact hcw _)); clear hK K))
      (refine low_step (by assumption) ?_; intro R hR K hK; go_simp; first | (refine hK _ ?_; clear hK K) | (apply Exists.intro; refine ⟨fun _ => ?_, hK _ ?_⟩; (first | (go_at_call 17; exact hcp _) | (go_at_call 41; exact hcw _)); clear hK K))
      (refine low_step (by assumption) ?_; intro R hR K hK; go_simp; first | (refine hK _ ?_; clear hK K) | (apply Exists.intro; refine ⟨fun _ => ?_, hK _ ?_⟩; (first | (go_at_call 17; exact hcp _) | (go_at_call 41; exact hcw _)); clear hK K))
      (refine low_step (by assumption) ?_; intro R hR K hK; go_simp; first | (refine hK _ ?_; clear hK K) | (apply Exists.intro; refine ⟨fun _ => ?_, hK _ ?_⟩; (first | (go_at_call 17; exact hcp _) | (go_at_call 41; exact hcw _)); clear hK K))
      (refine low_step (by assumption) ?_; intro R hR K hK; go_simp; first | (refine hK _ ?_; clear hK K) | (apply Exists.intro; refine ⟨fun _ => ?_, hK _ ?_⟩; (first | (go_at_call 17; exact hcp _) | (go_at_call 41; exact hcw _)); clear hK K))
      refine low_nil (by assumption) ?_; intro _ hw'; obtain ⟨⟨wq, hlow⟩, hw''⟩ := hw'; subst hw''; have HLOW := hid hlow; clear hlow; (try simp only)
      have H2 := hid (H1.out.keep HLOW.out)
      go_wp2_with fail
      go_ret2
      rw [HE.out]
      exact ⟨none, 0, rfl, rowI_nil _, H2.out.two.low⟩
    · obtain ⟨q, rfl⟩ : ∃ q : Nat, pl = (q : Int) := ⟨pl.toNat, by have : 0 ≤ pl ∧ pl ≤ (P : Int) - 1 := by simpa using hB
                                                                   omega⟩
      have hqP : q < c.P := by have : (0 : Int) ≤ (q : Int) ∧ (q : Int) ≤ (P : Int) - 1 := by simpa using hB
                               omega
      have HE := hid (atO_ok (x := (T, br)) (p := p) h0 hqP)
      have HT := hid (fun w2 pb h1 h2 h3 => told_at c (T, br) (.slice a0 T.length cap) v2 p pb q w2 hcv hbv ho hlen h1 h2 hqP h3)
      obtain ⟨L, hL⟩ : ∃ L, L = tellN (fun y => y.1.getD q 0) c (T, br) p p.length := ⟨_, rfl⟩
      rw [← hL] at HT HE
      unfold ToldP at HT
      clear hB hP hcv hbv hwm ho hL hbb h0 hqP
      refine wp_region_low (by kernel_rfl) (by kernel_rfl) (fun R hR => ?_)
      (refine low_step (by assumption) ?_; intro R hR K hK; go_simp; first | (refine hK _ ?_; clear hK K) | (apply Exists.intro; refine ⟨fun _ => ?_, hK _ ?_⟩; (first | (go_at_call 17; exact hcp _) | (go_at_call 41; exact hcw _)); clear hK K))
      (refine low_step (by assumption) ?_; intro R hR K hK; go_simp; first | (refine hK _ ?_; clear hK K) | (apply Exists.intro; refine ⟨fun _ => ?_, hK _ ?_⟩; (first | (go_at_call 17; exact hcp _) | (go_at_call 41; exact hcw _)); clear hK K))
      (refine low_step (by assumption) ?_; intro R hR K hK; go_simp; first | (refine hK _ ?_; clear hK K) | (apply Exists.intro; refine ⟨fun _ => ?_, hK _ ?_⟩; (first | (go_at_call 17; exact hcp _) | (go_at_call 41; exact hcw _)); clear hK K))
      (refine low_step (by assumption) ?_; intro R hR K hK; go_simp; first | (refine hK _ ?_; clear hK K) | (apply Exists.intro; refine ⟨fun _ => ?_, hK _ ?_⟩; (first | (go_at_call 17; exact hcp _) | (go_at_call 41; exact hcw _)); clear hK K))
      (refine low_step (by assumption) ?_; intro R hR K hK; go_simp; first | (refine hK _ ?_; clear hK K) | (apply Exists.intro; refine ⟨fun _ => ?_, hK _ ?_⟩; (first | (go_at_call 17; exact hcp _) | (go_at_call 41; exact hcw _)); clear hK K))
      (refine low_step (by assumption) ?_; intro R hR K hK; go_simp; first | (refine hK _ ?_; clear hK K) | (apply Exists.intro; refine ⟨fun _ => ?_, hK _ ?_⟩; (first | (go_at_call 17; exact hcp _) | (go_at_call 41; exact hcw _)); clear hK K))
      refine low_nil (by assumption) ?_; intro _ hw'; obtain ⟨⟨wq, hlow⟩, hw''⟩ := hw'; subst hw''; have HLOW := hid hlow; clear hlow; (try simp only)
      have H2 := hid (H1.out.keep HLOW.out)
      clear g0 g1 g2 g3 g4 g5 g6 g9 hcp hcw k0 k1 k2 k3 k4 k5 k6 k7 k8 k9
      obtain ⟨⟨k0, k1, k2, k3, k4, k5, k6⟩, ⟨k7, k8⟩, k9⟩ := H2.out.ten
      go_wp2_with fail
      refine (HT.out _ _ (HL.out _ H2.out.two.low) (HL2.out _ H2.out.two.low) k9).mono ?_
      rintro e w3 ⟨ua, uc, rfl, hri, hb⟩
      have H3 := hid (H2.out.keep hb)
      have HRI := hid hri
      clear hri hb
      go_wp2_with fail
      go_ret2
      rw [HE.out]
      exact ⟨ua, uc, rfl, HRI.out, H3.out.two.low⟩
end Go.Proofs.Ytedfajokiblfhaa
