/- Texts of this seat, one behind the other. -/
import Derived.Test.YtihbjimnjhfpeaaG14
import Derived.Laws.CopyOwn
import Derived.Deep.RegionLaw
import Derived.Deep.OwnRows
import Derived.Deep.DeepCutAuto
/- Walk of slices.Repeat over one number: contract. -/
namespace Go.Proofs.Ytihbjimnjhfpeaa
open Go.RowKit

/-- What has been filled: m times t, then zeros. -/
def filL (t : Int) (n m : Nat) : List Int := List.replicate m t ++ List.replicate (n - m) 0
theorem filL_all (t : Int) (n : Nat) : filL t n n = List.replicate n t := by simp [filL]
theorem filL_len {t : Int} {n m : Nat} (h : m ≤ n) : (filL t n m).length = n := by simp [filL]; omega
theorem ivs_append (l m : List Int) : ivs (l ++ m) = ivs l ++ ivs m := by simp [ivs]
theorem ivs_rep (t : Int) (n : Nat) : ivs (List.replicate n t) = List.replicate n (.int .i64 t) := by simp [ivs]
theorem filL_one {t : Int} {n : Nat} (h : 1 ≤ n) : splice (List.replicate n (Value.int .i64 0)) 0 [.int .i64 t] = ivs (filL t n 1) := by
  have e := splice_mid ([] : List Value) (List.replicate n (Value.int .i64 0)) [] [.int .i64 t] (by rw [List.length_replicate]; exact h)
  rw [List.nil_append, List.append_nil] at e
  rw [List.length_nil] at e
  rw [e]
  simp [filL, ivs]
theorem filL_step {t : Int} {n m k : Nat} (h : m + k ≤ n) : splice (ivs (filL t n m)) m (ivs (List.replicate k t)) = ivs (filL t n (m + k)) := by
  have e := splice_mid (List.replicate m (Value.int .i64 t)) (List.replicate (n - m) (Value.int .i64 0)) [] (List.replicate k (.int .i64 t)) (by simp; omega)
  rw [List.length_replicate, List.append_nil] at e
  unfold filL
  rw [ivs_append, ivs_append, ivs_rep, ivs_rep, ivs_rep, ivs_rep, e]
  rw [List.length_replicate, List.drop_replicate, List.append_nil, ← List.append_assoc, List.replicate_append_replicate, show n - m - k = n - (m + k) by omega, ivs_rep]
theorem filL_at {t : Int} {n m j : Nat} (h : j < m) : (filL t n m)[j]? = some t := by
  unfold filL
  rw [List.getElem?_append_left (by simpa using h)]
  simp [h]
/-- A row of ints in memory that is new since w. -/
def RepP (w : World) (l : List Int) (e : Ending) (w' : World) : Prop := ∃ g, e = .returned (.slice (some ⟨g, 0, none⟩) l.length l.length) ∧ w.heap.size ≤ g ∧ w'.heap[g]? = some (.cells (ivs l).toArray 3 (0, 0)) ∧ Below w.heap.size w w'

set_option maxRecDepth 100000 in
set_option maxHeartbeats 2000000 in
theorem repeat_any (w : World) (b o cap n : Nat) (t : Int) (hc : w.cell? ⟨b, o, none⟩ = some (.int .i64 t)) (hn1 : 1 ≤ n) (hn2 : n ≤ 4096) :
    Calls Try.prog 31 #[.slice (some ⟨b, o, none⟩) 1 cap, .int .i64 (n : Int)] w (RepP w (List.replicate n t)) := by
  have hmk := run_make_row' (P := Try.prog) 44 3 (.int .i64 0) 8 Try.underlying44 infoIf rfl .i64 .i64 n (by omega) (by omega)
  have HSRC := hid (src_cells (w := w.alloc (.cells (madeCells #[.int .i64 0] n) 3)) (b := b) (o := o) (l := [t]) (fun k hk => by obtain rfl : k = 0 := (by simpa using hk); exact keep_cell ((Below.refl _ w).alloc (Nat.le_refl _) (.cells (madeCells #[.int .i64 0] n) 3)) hc))
  have hmin : ([t].map (Value.int .i64)).length = Nat.min 1 n := by simp; exact (Nat.min_eq_left hn1).symm
  have HMIN := hid hmin
  have hfit : 0 + ([t].map (Value.int .i64)).length ≤ (List.replicate n (Value.int .i64 0)).length := by simp; omega
  have HFIT := hid hfit
  have HONE := hid (filL_one (t := t) hn1)
  clear hmin hfit
  have HC := hid (keep_cell ((Below.refl _ w).alloc (Nat.le_refl _) (.cells (madeCells #[.int .i64 0] n) 3)) hc)
  have h0 : ¬ (n : Int) < 0 := by omega
  have hbig : decide ((9223372036854775807 : Int) < n) = false := by simp; omega
  clear hc
  go_enter Try.func31, Try.ntmps31
  go_wp2_with (first
    | (go_at_call 52; refine (mul_one n _ hn1 hn2).mono ?_; rintro e w' ⟨rfl, rfl⟩)
    | (refine wpList_copy_splice rfl (.tmp 31) (.tmp 32) 44 44 rfl 3 Try.underlying44 infoI (some ⟨w.heap.size, 0, none⟩) (some ⟨b, o, none⟩) n n 1 cap rfl rfl w.heap.size 0 (List.replicate n (Value.int .i64 0)) 3 (made_at w n 3) ([t].map (.int .i64)) HMIN.out (fun _ => ⟨rfl, _, rfl, HSRC.out⟩) HFIT.out (ints_one [t]) w.heap.size w ((Below.refl _ w).alloc (Nat.le_refl _) _) (Nat.le_refl _) ?_; intro w6 HG6 hB6))
  have hg6 := HG6.out
  rw [List.map_cons, List.map_nil, HONE.out] at hg6
  have HG := hid hg6
  have HB6 := hid hB6
  clear HG6 hg6 hB6
  clear HSRC HMIN HFIT HONE hmk HC
  go_loopw [8] (fun i wr => ∃ m : Nat, 1 ≤ m ∧ m ≤ n ∧ i = .int .i64 (m : Int) ∧ Hid (wr.heap[w.heap.size]? = some (.cells (ivs (filL t n m)).toArray 3 (0, 0))) ∧ Hid (Below w.heap.size w wr)) (fun i _ => n - (intOf i).toNat)
  case atStart => exact ⟨1, Nat.le_refl _, hn1, rfl, HG, HB6⟩
  case round =>
    obtain ⟨m, hm1, hm2, rfl, HW, HB⟩ := hrel
    by_cases hlt : m < n
    · have hlt' : (m : Int) < n := by omega
      have hne : ¬ n = m := by omega
      obtain ⟨k, hk⟩ : ∃ k, k = Nat.min m (n - m) := ⟨_, rfl⟩
      have hk1 : 1 ≤ k := by rw [hk]; exact Nat.le_min.2 ⟨hm1, by omega⟩
      have hk2 : m + k ≤ n := by have := Nat.min_le_right m (n - m); rw [hk]; show m + Nat.min m (n - m) ≤ n; have h2 : Nat.min m (n - m) ≤ n - m := this; omega
      have hk3 : k ≤ m := by rw [hk]; exact Nat.min_le_left m (n - m)
      have HCS := hid (show (ivs (List.replicate k t)).length = Nat.min m (n - m) by rw [ivs_len, List.length_replicate, hk])
      have HFT := hid (show m + (ivs (List.replicate k t)).length ≤ (ivs (filL t n m)).length by rw [ivs_len, ivs_len, List.length_replicate, filL_len hm2]; exact hk2)
      have HSR := hid (src_cells (w := wr.drew) (b := w.heap.size) (o := 0) (l := List.replicate k t) (fun j hj => by
        rw [List.length_replicate] at hj
        rw [Nat.zero_add]
        refine (cell_of_row wr w.heap.size j _ _ _ HW.out).trans ?_
        have := ivs_at (filL_at (t := t) (n := n) (show j < m by omega))
        simpa using this))
      have HSTEP := hid (filL_step (t := t) hk2)
      have HONE := hid (ivs_one (List.replicate k t))
      clear hk
      go_wp2
      go_region_held3 (fun w' => Below w.heap.size w w') (first | exact HB.out.drew | exact hB7) ((refine step_copy_splice rfl (.tmp 41) (.tmp 44) 44 44 rfl 3 Try.underlying44 infoI (some ⟨w.heap.size, m, none⟩) (some ⟨w.heap.size, 0, none⟩) (n - m) (n - m) m n rfl rfl w.heap.size m (ivs (filL t n m)) 3 HW.out (ivs (List.replicate k t)) HCS.out (fun _ => ⟨rfl, _, rfl, HSR.out⟩) HFT.out HONE.out w.heap.size w HB.out.drew (Nat.le_refl _) ?_; intro w7 HG7 hB7))
      have HG8 := hid HG7.out
      rw [HSTEP.out] at HG8
      have HB8 := hid hB7
      clear HG7 hB7
      go_wp2
      go_roundw
      case rel => exact ⟨m + k, by omega, hk2, by rw [ivs_len, List.length_replicate, wrap_i64 (n := (m : Int) + k) (by omega) (by omega)]; go_num, HG8, HB8⟩
      case measure =>
        rw [ivs_len, List.length_replicate, wrap_i64 (n := (m : Int) + k) (by omega) (by omega)]
        simp [intOf]; omega
    · obtain rfl : m = n := by omega
      rw [filL_all] at HW
      go_wp2
      go_ret
      refine ⟨w.heap.size, ?_, Nat.le_refl _, HW.out, HB.out⟩
      rw [List.length_replicate]
      rfl
end Go.Proofs.Ytihbjimnjhfpeaa

/- Walk of Even of both: contracts. -/
namespace Go.Proofs.Ytihbjimnjhfpeaa
open Go.RowKit

/-- What Even hands back. -/
def evenO (r l a b k a2 b2 t : Int) : Bd × Int :=
  if canB r l a b k a2 b2 = false then (([], false), 1) else if okT t = false then (([], false), 7) else ((List.replicate (cnOf r l a b k a2 b2).P t, decide (0 < k) && decide (k ≤ t)), 0)
theorem evenO_can {r l a b k a2 b2 t : Int} (h : canB r l a b k a2 b2 = false) : evenO r l a b k a2 b2 t = (([], false), 1) := by unfold evenO; rw [if_pos h]
theorem evenO_far {r l a b k a2 b2 t : Int} (h : canB r l a b k a2 b2 = true) (g : okT t = false) : evenO r l a b k a2 b2 t = (([], false), 7) := by unfold evenO; rw [if_neg (by rw [h]; simp), if_pos g]
theorem evenO_ok {c : Cn} {t : Int} (h : c.V) (g : okT t = true) : evenO c.R c.L c.A c.B c.K c.A2 c.B2 t = ((List.replicate c.P t, decide (0 < c.K) && decide (c.K ≤ t)), 0) := by
  unfold evenO; rw [if_neg (by rw [show canB (c.R : Int) c.L c.A c.B c.K c.A2 c.B2 = true from h]; simp), if_neg (by rw [g]; simp), cnOf_cn]
/-- The boxes of a can and of the body that comes back, whole. -/
structure R2 (w w1 : World) (A R : Array Value) : Prop where
  can : w1.heap[w.heap.size]? = some (.cells A 31 (0, 0))
  res : w1.heap[w.heap.size + 1]? = some (.cells R 61 (0, 0))
  low : Below w.heap.size w w1
theorem R2.keep {w w1 w2 : World} {A R : Array Value} (h : R2 w w1 A R) (hb : Below w1.heap.size w1 w2) : R2 w w2 A R :=
  ⟨(hb.block _ (lt_of_block h.can)).trans h.can, (hb.block _ (lt_of_block h.res)).trans h.res, bstep h.low h.low.size hb⟩
theorem r2_start {w : World} {A R : Array Value} : R2 w ((w.alloc (.cells A 31)).alloc (.cells R 61)) A R :=
  ⟨heap_alloc2_old w _ _, heap_alloc2_new w _ _, ((Below.refl _ _).alloc (Nat.le_refl _) _).alloc (by simp) _⟩
theorem R2.cell {w w1 : World} {A R : Array Value} (h : R2 w w1 A R) : (∀ i, w1.cell? ⟨w.heap.size, i, none⟩ = A[i]?) ∧ (∀ i, w1.cell? ⟨w.heap.size + 1, i, none⟩ = R[i]?) ∧ (∀ i, w1.frozen? ⟨w.heap.size + 1, i, none⟩ = false) :=
  ⟨fun i => cell_of_row _ _ i _ _ _ h.can, fun i => cell_of_row _ _ i _ _ _ h.res, fun i => frozen_of_row _ _ i _ _ h.res⟩
theorem R2.set {w W : World} {A : Array Value} {u v d0 d1 : Value} (h : R2 w W A #[d0, d1]) : ((W.setCell ⟨w.heap.size + 1, 0, none⟩ u).setCell ⟨w.heap.size + 1, 1, none⟩ v).cell? ⟨w.heap.size + 1, 0, none⟩ = some u ∧ ((W.setCell ⟨w.heap.size + 1, 0, none⟩ u).setCell ⟨w.heap.size + 1, 1, none⟩ v).cell? ⟨w.heap.size + 1, 1, none⟩ = some v ∧ Below w.heap.size w ((W.setCell ⟨w.heap.size + 1, 0, none⟩ u).setCell ⟨w.heap.size + 1, 1, none⟩ v) := by
  have h1 := heap_setCell_same W (w.heap.size + 1) 0 _ _ u h.res
  have h2 := heap_setCell_same _ (w.heap.size + 1) 1 _ _ v h1
  exact ⟨cell_of_row _ _ 0 _ _ _ h2, cell_of_row _ _ 1 _ _ _ h2, (h.low.setCell (p := ⟨w.heap.size + 1, 0, none⟩) (Nat.le_succ _) u).setCell (p := ⟨w.heap.size + 1, 1, none⟩) (Nat.le_succ _) v⟩
theorem R2.facts {w W : World} {c0 c1 c2 c3 c4 c5 c6 d0 d1 : Value} (h : R2 w W #[c0, c1, c2, c3, c4, c5, c6] #[d0, d1]) :
    W.cell? ⟨w.heap.size, 0, none⟩ = some c0 ∧ W.cell? ⟨w.heap.size, 1, none⟩ = some c1 ∧ W.cell? ⟨w.heap.size, 2, none⟩ = some c2 ∧ W.cell? ⟨w.heap.size, 3, none⟩ = some c3 ∧ W.cell? ⟨w.heap.size, 4, none⟩ = some c4 ∧ W.cell? ⟨w.heap.size, 5, none⟩ = some c5 ∧ W.cell? ⟨w.heap.size, 6, none⟩ = some c6 ∧
    W.cell? ⟨w.heap.size + 1, 0, none⟩ = some d0 ∧ W.cell? ⟨w.heap.size + 1, 1, none⟩ = some d1 ∧ W.frozen? ⟨w.heap.size + 1, 0, none⟩ = false ∧ W.frozen? ⟨w.heap.size + 1, 1, none⟩ = false ∧ w.heap.size + 1 < W.heap.size :=
  ⟨h.cell.1 0, h.cell.1 1, h.cell.1 2, h.cell.1 3, h.cell.1 4, h.cell.1 5, h.cell.1 6, h.cell.2.1 0, h.cell.2.1 1, h.cell.2.2 0, h.cell.2.2 1, lt_of_block h.res⟩

set_option maxRecDepth 100000 in
set_option maxHeartbeats 2000000 in
theorem even_no (r l a b k a2 b2 : Int) (w : World) (t : Int) (hn : canB r l a b k a2 b2 = false ∨ okT t = false) :
    Calls Try.prog 62 #[.agg #[.int .i64 r, .int .i64 l, .int .i64 a, .int .i64 b, .int .i64 k, .int .i64 a2, .int .i64 b2], .int .i64 t] w (OutB (evenO r l a b k a2 b2 t) w) := by
  have HS := hid (r2_start (w := w) (A := #[.int .i64 r, .int .i64 l, .int .i64 a, .int .i64 b, .int .i64 k, .int .i64 a2, .int .i64 b2]) (R := #[.slice none 0 0, .bool false]))
  cases hc : canB r l a b k a2 b2
  · rw [evenO_can hc]
    clear hn
    go_enter Try.func62, Try.ntmps62
    go_wp2_with fail
    refine (vcan_any _ _ _ _ _ _ _ _).mono ?_
    rintro e w1 ⟨rfl, hb⟩
    rw [hc]
    have H1 := hid (HS.out.keep hb)
    obtain ⟨k0, k1, k2, k3, k4, k5, k6, d0, d1, f0, f1, hz⟩ := H1.out.facts
    go_wp2_with fail
    obtain ⟨c6, c7, c9⟩ := H1.out.set (u := .slice none 0 0) (v := .bool false)
    exact bodyPost_ret (v := .tuple #[.agg #[.slice none 0 0, .bool false], .int .i64 1]) (by simp [results, Try.results62, go_sem, c6, c7]) rfl (outB_nil rfl c9)
  · have ho := hn.resolve_left (by rw [hc]; simp)
    rw [evenO_far hc ho]
    have HO := hid (show okL [t] = false by simp [okL, ho])
    clear hn ho
    go_enter Try.func62, Try.ntmps62
    go_wp2_with fail
    refine (vcan_any _ _ _ _ _ _ _ _).mono ?_
    rintro e w1 ⟨rfl, hb⟩
    rw [hc]
    have H1 := hid (HS.out.keep hb)
    obtain ⟨k0, k1, k2, k3, k4, k5, k6, d0, d1, f0, f1, hz⟩ := H1.out.facts
    go_wp2_with (go_at_call 70; refine (temps_any _ _ [t] (one_at _ _ rfl)).mono ?_; rintro e w' ⟨rfl, rfl⟩; rw [HO.out])
    obtain ⟨c6, c7, c9⟩ := H1.out.set (u := .slice none 0 0) (v := .bool false)
    generalize World.setCell _ _ (.bool false) = W8 at c6 c7 c9 ⊢
    have hb8 := (Below.refl _ W8).alloc (Nat.le_refl _) (.cells #[.int .i64 t] 3)
    have c6 := keep_cell hb8 c6
    have c7 := keep_cell hb8 c7
    have c9 := bstep c9 c9.size hb8
    exact bodyPost_ret (v := .tuple #[.agg #[.slice none 0 0, .bool false], .int .i64 7]) (by simp [results, Try.results62, go_sem, c6, c7]) rfl (outB_nil rfl c9)

/-- R2, whatever the body's cells hold. -/
def R2e (c : Cn) (w w1 : World) : Prop := ∃ d0 d1, R2 w w1 #[.int .i64 (c.R : Int), .int .i64 (c.L : Int), .int .i64 c.A, .int .i64 c.B, .int .i64 c.K, .int .i64 c.A2, .int .i64 c.B2] #[d0, d1]
theorem r2e_set {c : Cn} {w W : World} {u v : Value} (h : R2e c w W) : R2e c w ((W.setCell ⟨w.heap.size + 1, 0, none⟩ u).setCell ⟨w.heap.size + 1, 1, none⟩ v) := by
  obtain ⟨d0, d1, h⟩ := h
  have h1 := heap_setCell_same W (w.heap.size + 1) 0 _ _ u h.res
  have h2 := heap_setCell_same _ (w.heap.size + 1) 1 _ _ v h1
  exact ⟨u, v, (heap_setCell_other _ _ _ _ (show w.heap.size ≠ w.heap.size + 1 by omega)).trans ((heap_setCell_other _ _ _ _ (show w.heap.size ≠ w.heap.size + 1 by omega)).trans h.can), h2, h.set.2.2⟩
/-- R2 with the can's cells laid out. -/
def RawR (c : Cn) (w w1 : World) : Prop := w1.cell? ⟨w.heap.size, 0, none⟩ = some (.int .i64 (c.R : Int)) ∧ w1.cell? ⟨w.heap.size, 1, none⟩ = some (.int .i64 (c.L : Int)) ∧ w1.cell? ⟨w.heap.size, 2, none⟩ = some (.int .i64 c.A) ∧ w1.cell? ⟨w.heap.size, 3, none⟩ = some (.int .i64 c.B) ∧ w1.cell? ⟨w.heap.size, 4, none⟩ = some (.int .i64 c.K) ∧ w1.cell? ⟨w.heap.size, 5, none⟩ = some (.int .i64 c.A2) ∧ w1.cell? ⟨w.heap.size, 6, none⟩ = some (.int .i64 c.B2) ∧ R2e c w w1
theorem rawR {c : Cn} {w w1 : World} (h : R2e c w w1) : RawR c w w1 := by
  have h0 := h
  obtain ⟨d0, d1, h⟩ := h
  obtain ⟨k0, k1, k2, k3, k4, k5, k6, _⟩ := h.facts
  exact ⟨k0, k1, k2, k3, k4, k5, k6, h0⟩
theorem RawR.r2 {c : Cn} {w w1 : World} (h : RawR c w w1) : R2e c w w1 := h.2.2.2.2.2.2.2
theorem R2e.keep {c : Cn} {w w1 w2 : World} (h : R2e c w w1) (hb : Below w1.heap.size w1 w2) : R2e c w w2 := by
  obtain ⟨d0, d1, h⟩ := h
  exact ⟨d0, d1, h.keep hb⟩
theorem rawR_keep {c : Cn} {w w1 w2 : World} (h : RawR c w w1) (hb : Below w1.heap.size w1 w2) : RawR c w w2 := rawR (h.r2.keep hb)

set_option maxRecDepth 100000 in
set_option maxHeartbeats 4000000 in
theorem even_yes (c : Cn) (t : Int) (w : World) (hv : c.V) (ho : okT t = true) (hk : 0 < c.K) :
    Calls Try.prog 62 #[.agg #[.int .i64 (c.R : Int), .int .i64 (c.L : Int), .int .i64 c.A, .int .i64 c.B, .int .i64 c.K, .int .i64 c.A2, .int .i64 c.B2], .int .i64 t] w (OutB (evenO c.R c.L c.A c.B c.K c.A2 c.B2 t) w) := by
  rw [evenO_ok hv ho]
  have HS := hid (r2_start (w := w) (A := #[.int .i64 (c.R : Int), .int .i64 (c.L : Int), .int .i64 c.A, .int .i64 c.B, .int .i64 c.K, .int .i64 c.A2, .int .i64 c.B2]) (R := #[.slice none 0 0, .bool false]))
  have hp := hv.ok.p
  have HP := hid hp
  have HV := hid hv
  have HO := hid (show okL [t] = true by simp [okL, ho])
  have hc : canB (c.R : Int) c.L c.A c.B c.K c.A2 c.B2 = true := hv
  have HC := hid hc
  clear ho hv hc hp
  go_enter Try.func62, Try.ntmps62
  go_wp2_with fail
  refine (vcan_any _ _ _ _ _ _ _ _).mono ?_
  rintro e w1 ⟨rfl, hb⟩
  rw [HC.out]
  have H1 := hid (HS.out.keep hb)
  obtain ⟨k0, k1, k2, k3, k4, k5, k6, d0, d1, f0, f1, hz⟩ := H1.out.facts
  clear hb
  go_wp2_with (go_at_call 70; refine (temps_any _ _ [t] (one_at _ _ rfl)).mono ?_; rintro e w' ⟨rfl, rfl⟩; rw [HO.out])
  have hb2 := (Below.refl _ w1).alloc (Nat.le_refl _) (.cells #[.int .i64 t] 3)
  have H2 := hid (H1.out.keep hb2)
  clear k0 k1 k2 k3 k4 k5 k6 d0 d1 f0 f1 hz
  generalize World.alloc w1 _ = W2 at *
  obtain ⟨k0, k1, k2, k3, k4, k5, k6, d0, d1, f0, f1, hz⟩ := H2.out.facts
  first
  | go_region_held3 (fun w' => w'.cell? ⟨w.heap.size, 0, none⟩ = some (.int .i64 c.R) ∧ w'.cell? ⟨w.heap.size, 1, none⟩ = some (.int .i64 c.L) ∧ w'.cell? ⟨w.heap.size, 2, none⟩ = some (.int .i64 c.A) ∧ w'.cell? ⟨w.heap.size, 3, none⟩ = some (.int .i64 c.B) ∧ w'.cell? ⟨w.heap.size, 4, none⟩ = some (.int .i64 c.K) ∧ w'.cell? ⟨w.heap.size, 5, none⟩ = some (.int .i64 c.A2) ∧ w'.cell? ⟨w.heap.size, 6, none⟩ = some (.int .i64 c.B2) ∧ R2e c w w') (first | exact rawR (R2e.keep ⟨_, _, H2.out⟩ (Below.refl _ _).drew) | exact rawR_keep (by assumption) hb | exact rawR_keep (by assumption) ((Below.refl _ _).alloc (Nat.le_refl _) _) | exact rawR (r2e_set (RawR.r2 (by assumption))))
    (first
      | (go_at_call 71; refine (places_yes c _ HV.out).mono ?_; rintro e w3 ⟨rfl, hb⟩; (first | (have q0 : w3.cell? ⟨W2.heap.size, 0, none⟩ = some (.int .i64 t) := keep_cell hb (cell_alloc_new W2.drew _ _ _ 0); have HRW := hid q0) | skip))
      | (go_at_call 31; have HE := RawR.r2 (c := c) (w := w) (by assumption); refine (repeat_any _ _ 0 1 c.P t (by first | exact HRW.out | exact cell_alloc_new _ _ _ _ 0) HP.out.1 (by have := HP.out; omega)).mono ?_; rintro e w5 ⟨g, rfl, hg1, hg2, hb⟩; have HE2 := HE.keep hb; have HGE := hid (Nat.lt_of_lt_of_le (by obtain ⟨_, _, h⟩ := HE; exact lt_of_block h.res) hg1); obtain ⟨d0, d1, H5⟩ := HE2; obtain ⟨_, _, _, _, _, _, _, d0, d1, f0, f1, hz⟩ := H5.facts; have HG := hid hg2; have HH5 := hid H5; clear H5))
  | fail
  all_goals
    go_wp2_with fail
    obtain ⟨c6, c7, c9⟩ := HH5.out.set (u := .slice (some ⟨g, 0, none⟩) c.P c.P) (v := .bool (decide (0 < c.K) && decide (c.K ≤ t)))
    have hge : g ≠ w.heap.size + 1 := by have := HGE.out; omega
    have hri := rowI_far (m := w.heap.size + 1) (i := 0) (j := 1) (u := .slice (some ⟨g, 0, none⟩) c.P c.P) (v := .bool (decide (0 < c.K) && decide (c.K ≤ t))) (rowI_of_block (cap := c.P) HG.out (by rw [List.length_replicate]; have := HP.out; omega)) hge
    rw [List.length_replicate] at hri
    (try simp only [hk, decide_true, Bool.true_and] at c6 c7 c9 hri ⊢)
    refine bodyPost_ret (v := .tuple #[.agg #[.slice (some ⟨g, 0, none⟩) c.P c.P, .bool _], .int .i64 0]) (by simp [results, Try.results62, go_sem, c6, c7]; rfl) rfl ⟨some ⟨g, 0, none⟩, c.P, by dsimp only; rw [List.length_replicate], by dsimp only; rw [List.length_replicate]; exact hri, c9⟩
end Go.Proofs.Ytihbjimnjhfpeaa
