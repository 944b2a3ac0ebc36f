/- Texts of this seat, one behind the other. -/
import Derived.Test.YtihbjimnjhfpeaaGreatR11
import Derived.Maps.OwnSet
import Derived.Maps.OwnOps
import Derived.Maps.Views
/- Walk of root, Root of package lethal: contracts. -/
namespace Go.Proofs.YtihbjimnjhfpeaaGreat.Lt
open Go.RowKit Go.Lib

theorem NumV.shape {w : World} {base : Nat} {v : Value} {l : List Nat} (h : NumV w base v l) (hl : l ≠ []) : ∃ g cap, v = .slice (some ⟨g, 0, none⟩) l.length cap := by
  rcases h.2 with ⟨_, h0⟩ | ⟨g, cap, cur, rfl, _⟩
  · exact absurd (List.eq_nil_of_length_eq_zero h0) hl
  · exact ⟨g, cap, rfl⟩
theorem NumV.ne {w : World} {base : Nat} {v : Value} {l : List Nat} (h : NumV w base v l) {b : Nat} {cs : Array Value} {T : TypeId} {fz : Nat × Nat} (hb : w.heap[b]? = some (.cells cs T fz)) (hT : T ≠ 194) : v.ownBlock ≠ some b := by
  intro hv
  rcases h.2 with ⟨rfl, _⟩ | ⟨g, cap, cur, rfl, _, hg, _⟩
  · cases hv
  · cases hv
    rw [hg] at hb
    cases hb
    exact hT rfl

/-- The limit after k multiplications by 10. -/
def limL (b z : Nat) : Nat → List Nat
  | 0 => powL b z
  | k + 1 => Pm.timesL 10 (limL b z k) 0
theorem limL_norm (b z : Nat) (hb : 0 < b) (hb2 : b < 9000000000000000000) (k : Nat) : Pm.Norm (limL b z k) := by
  induction k with
  | zero => exact powL_norm b hb hb2 z
  | succ k ih => exact Pm.norm_timesL 10 (by decide) (by unfold Pm.W; omega) _ 0 (by decide) ih
theorem limL_val (b z k : Nat) : Pm.val (limL b z k) = b ^ z * 10 ^ k := by
  induction k with
  | zero => show Pm.val (powL b z) = _; rw [powL_val]; simp
  | succ k ih => unfold limL; rw [Pm.val_timesL, ih, Nat.pow_succ, Nat.mul_assoc]; rfl
theorem limL_len (b z k : Nat) : (limL b z k).length ≤ z + 1 + k := by
  induction k with
  | zero => exact powL_len b z
  | succ k ih => exact Nat.le_trans (Pm.length_timesL 10 _ 0) (by omega)
theorem limL_ne (b z k : Nat) : limL b z k ≠ [] := by
  induction k with
  | zero => exact powL_ne b z
  | succ k ih =>
    unfold limL
    cases h : limL b z k with
    | nil => exact absurd h ih
    | cons x l => simp [Pm.timesL]

/-- What the search finds is the root. -/
theorem root_found (e z r : Nat) (hz : 1 ≤ z) (h : Found (9 * tenN (e / z) - 1) (fun m => aboveB (powL (tenN (e / z) + m + 1) z) (limL (tenN (e / z)) z (e % z))) r) : Pm.rootN e z = tenN (e / z) + r := by
  have hp := tenN_pos (e / z)
  have hv : Pm.val (limL (tenN (e / z)) z (e % z)) = 10 ^ e := by
    rw [limL_val]; unfold tenN
    rw [← Nat.pow_mul, ← Nat.pow_add, Nat.mul_comm, Nat.div_add_mod]
  obtain ⟨h0, h1, h2⟩ := h
  simp only [aboveB, powL_val, hv, decide_eq_true_eq, decide_eq_false_iff_not] at h1 h2
  refine Pm.rootN_eq hz ⟨?_, ?_⟩
  · rcases h1 with rfl | h1
    · exact Pm.low_root e z
    · rcases Nat.eq_zero_or_pos r with rfl | hr
      · exact Pm.low_root e z
      · rw [show tenN (e / z) + (r - 1) + 1 = tenN (e / z) + r by omega] at h1
        omega
  · rcases h2 with rfl | h2
    · have := Pm.high_root e z hz
      rw [show tenN (e / z) + (9 * tenN (e / z) - 1) + 1 = 10 * tenN (e / z) by omega]
      exact this
    · exact h2

theorem two_boxes {w : World} {a b : Value} {T U : TypeId} : ((w.alloc (.cells #[a] T)).alloc (.cells #[b] U)).cell? ⟨w.heap.size, 0, none⟩ = some a ∧ ((w.alloc (.cells #[a] T)).alloc (.cells #[b] U)).cell? ⟨w.heap.size + 1, 0, none⟩ = some b := by
  have h1 := cell_alloc_new (w.alloc (.cells #[a] T)) #[b] U (0, 0) 0
  have h0 := cell_alloc_new w #[a] T (0, 0) 0
  have hs : (w.alloc (.cells #[a] T)).heap.size = w.heap.size + 1 := by simp
  rw [hs] at h1
  refine ⟨?_, h1⟩
  have := Below.heap_alloc (w.alloc (.cells #[a] T)) (.cells #[b] U) w.heap.size (by omega)
  exact (World.cell?_of_block (a := ⟨w.heap.size, 0, none⟩) this).trans h0

theorem two_size {w : World} {o o' : Obj} : ((w.alloc o).alloc o').heap.size = w.heap.size + 2 := by simp
theorem two_num {w w2 : World} {o o' : Obj} {v : Value} {l : List Nat} (h : NumV w2 ((w.alloc o).alloc o').heap.size v l) : NumV w2 (w.heap.size + 2) v l := by rw [two_size] at h; exact h
theorem two_below {w w2 : World} {a b : Value} {T U : TypeId} (hb : Below ((w.alloc (.cells #[a] T)).alloc (.cells #[b] U)).heap.size ((w.alloc (.cells #[a] T)).alloc (.cells #[b] U)) w2) :
    w2.cell? ⟨w.heap.size, 0, none⟩ = some a ∧ w2.cell? ⟨w.heap.size + 1, 0, none⟩ = some b ∧ w.heap.size + 2 ≤ w2.heap.size ∧ Below w.heap.size w w2 := by
  obtain ⟨h0, h1⟩ := two_boxes (w := w) (a := a) (b := b) (T := T) (U := U)
  refine ⟨keep_cell hb h0, keep_cell hb h1, by rw [← two_size]; exact hb.size, ?_⟩
  exact (((Below.refl _ _).alloc (Nat.le_refl _) _).alloc (by simp) _).trans (hb.mono (by rw [two_size]; omega))

/-- What stands in root's variables after k multiplications. -/
def RtS (w : World) (L z low k : Nat) (wr : World) : Prop := ∃ v, wr.heap[L]? = some (.cells #[v] 223 (0, 0)) ∧ NumV wr (w.heap.size + 2) v (limL low z k) ∧
  wr.cell? ⟨w.heap.size, 0, none⟩ = some (.int .i64 z) ∧ wr.cell? ⟨w.heap.size + 1, 0, none⟩ = some (.int .i64 low) ∧ Below w.heap.size w wr ∧ w.heap.size + 2 ≤ L ∧ L < wr.heap.size
theorem rt_start {w w2 : World} {v : Value} {z low : Nat} (hn : NumV w2 (w.heap.size + 2) v (powL low z)) (cz : w2.cell? ⟨w.heap.size, 0, none⟩ = some (.int .i64 z)) (cl : w2.cell? ⟨w.heap.size + 1, 0, none⟩ = some (.int .i64 low))
    (hB : Below w.heap.size w w2) (hs : w.heap.size + 2 ≤ w2.heap.size) : RtS w w2.heap.size z low 0 (w2.alloc (.cells #[v] 223)) :=
  ⟨v, heap_alloc_new _ _, World.ownsRow.alloc hn _, keep_cell (Below.alloc (Below.refl _ _) (Nat.le_refl _) _) cz, keep_cell (Below.alloc (Below.refl _ _) (Nat.le_refl _) _) cl, hB.alloc hB.size _, hs, by simp⟩
theorem rt_mid {w wr w4 : World} {L z low k : Nat} {v v' : Value} (hb : wr.heap[L]? = some (.cells #[v] 223 (0, 0))) (hv : NumV wr (w.heap.size + 2) v (limL low z k)) (hB : Below w.heap.size w wr) (hL : w.heap.size + 2 ≤ L)
    (cz : wr.cell? ⟨w.heap.size, 0, none⟩ = some (.int .i64 z)) (cl : wr.cell? ⟨w.heap.size + 1, 0, none⟩ = some (.int .i64 low))
    (hn : NumV w4 (w.heap.size + 2) v' (Pm.timesL 10 (limL low z k) 0)) (hg : wr.grownBy w4 v.ownBlock) :
    w4.cell? ⟨L, 0, none⟩ = some v ∧ w4.frozen? ⟨L, 0, none⟩ = false ∧ L < w4.heap.size ∧ RtS w L z low (k + 1) (w4.setCell ⟨L, 0, none⟩ v') := by
  have hne : v.ownBlock ≠ some L := hv.ne hb (by decide)
  have hlt := lt_of_block hb
  have hb4 : w4.heap[L]? = some (.cells #[v] 223 (0, 0)) := by rw [hg.block L hlt (fun e => hne e.symm)]; exact hb
  have hlt4 := lt_of_block hb4
  have hne' : v'.ownBlock ≠ some L := hn.ne hb4 (by decide)
  have old : ∀ b, b < w.heap.size + 2 → w4.heap[b]? = wr.heap[b]? := fun b h => hg.block b (by omega) (fun e => by have := (World.ownsRow.lt hv b e.symm).1; omega)
  have oldc : ∀ b u, b < w.heap.size + 2 → wr.cell? ⟨b, 0, none⟩ = some u → (w4.setCell ⟨L, 0, none⟩ v').cell? ⟨b, 0, none⟩ = some u := fun b u h hc => by
    rw [World.cell?_of_block (a := ⟨b, 0, none⟩) (Below.heap_setCell w4 ⟨L, 0, none⟩ v' b (by show b ≠ L; omega)), World.cell?_of_block (a := ⟨b, 0, none⟩) (old b h)]
    exact hc
  refine ⟨cell_of_one hb4, free_of_one hb4, hlt4, v', one_setCell hb4, ?_, oldc _ _ (by omega) cz, oldc _ _ (by omega) cl, ?_, hL, by simpa [World.setCell] using hlt4⟩
  · exact ownsRow_setCell_other hn hne' v'
  · exact (hB.grown hg hB.size (fun j hj => by have := (World.ownsRow.lt hv j hj).1; omega)).setCell (show w.heap.size ≤ L by omega) v'

theorem RtS.keep {w wr w2 : World} {L z low k : Nat} (h : RtS w L z low k wr) (hb : Below wr.heap.size wr w2) : RtS w L z low k w2 := by
  obtain ⟨v, h1, h2, h3, h4, h5, h6, h7⟩ := h
  refine ⟨v, (hb.block L h7).trans h1, ?_, keep_cell hb h3, keep_cell hb h4, h5.trans (hb.mono h5.size), h6, Nat.lt_of_lt_of_le h7 hb.size⟩
  exact World.ownsRow.kept h2 ⟨hb.os, hb.tape, hb.output, hb.size, fun j hj _ => hb.block j hj⟩ (row := none) (by cases v.ownBlock <;> simp)
/-- The root's test where root calls it. -/
theorem rt_call {w : World} {L z low k m : Nat} (hz2 : z ≤ 60) (hlow : low + m + 1 ≤ 1000000000000000000) (hlow0 : 0 < low) (hlow2 : low < 9000000000000000000) (hk : k ≤ 60) (wr : World) (h : RtS w L z low k wr) :
    Calls Tryz.prog 184 #[.int .i64 m, .pointer (some ⟨w.heap.size + 1, 0, none⟩), .pointer (some ⟨w.heap.size, 0, none⟩), .pointer (some ⟨L, 0, none⟩)] wr fun e w' => e = .returned (.bool (aboveB (powL (low + m + 1) z) (limL low z k))) ∧ RtS w L z low k w' := by
  have h' := h
  obtain ⟨v, h1, h2, h3, h4, h5, h6, h7⟩ := h
  have := limL_len low z k
  exact (rtest_any _ _ _ low m z v (limL low z k) wr (limL_norm low z hlow0 hlow2 k) (by omega) hz2 hlow h4 h3 (cell_of_one h1) (h2.reads (limL_ne _ _ _))).mono fun e w' ⟨he, hb⟩ => ⟨he, h'.keep hb⟩

set_option maxHeartbeats 2000000 in
theorem lroot_any (e z : Nat) (w : World) (hz : 1 ≤ z) (hz2 : z ≤ 60) (he : e ≤ 16 * z) :
    Calls Tryz.prog 176 #[.int .i64 e, .int .i64 z] w fun r w' => r = .returned (.int .i64 (Pm.rootN e z : Nat)) ∧ Below w.heap.size w w' := by
  have hq : e / z ≤ 16 := Nat.div_le_of_le_mul (by rw [Nat.mul_comm]; exact he)
  have hm : e % z < z := Nat.mod_lt _ hz
  have hq1 : (0 : Int) ≤ (e : Int) / z := Int.ediv_nonneg (by omega) (by omega)
  have HQ : Hid ((e : Int) / z = ((e / z : Nat) : Int)) := by unfold Hid; omega
  have hlow1 := tenN_pos (e / z)
  have hlow2 : tenN (e / z) ≤ 10000000000000000 := tenN_le hq
  go_enter Tryz.func176, Tryz.ntmps176
  go_wp2_with (first
    | (go_at_call 163; rw [HQ.out]; refine (tenTo_any (e / z) _ (by omega)).mono ?_; rintro r w1 ⟨rfl, rfl⟩)
    | (go_at_call 182; refine (power_any (tenN (e / z)) z _ (by omega) (by omega) (by omega)).mono ?_; rintro r w2 ⟨v2, rfl, hv2, hb2⟩; obtain ⟨g2, cap2, rfl⟩ := hv2.shape (powL_ne _ _); obtain ⟨cz, cl, hsz, hB2⟩ := two_below hb2; have hsz0 : w.heap.size < w2.heap.size := (by omega); have hsz1 : w.heap.size + 1 < w2.heap.size := (by omega); have hn2 := two_num hv2; clear hb2 hv2))
  have hS := hid (rt_start hn2 cz cl hB2 hsz)
  clear hn2 cz cl hB2
  generalize w2.alloc (.cells #[.slice (some ⟨g2, 0, none⟩) (powL (tenN (e / z)) z).length cap2] 223) = w3 at hS ⊢
  generalize hL : w2.heap.size = L at hS hsz hsz0 hsz1 ⊢
  clear hL
  go_loopw [17, 18, 19, 20, 21] (fun i _ _ _ _ wr => ∃ k : Nat, k ≤ e % z ∧ i = .int .i64 k ∧ Hid (RtS w L z (tenN (e / z)) k wr)) (fun i _ _ _ _ _ => e % z - (intOf i).toNat)
  case atStart => exact ⟨0, Nat.zero_le _, rfl, hS⟩
  case round =>
    obtain ⟨k, hk, rfl, hS'⟩ := hrel
    clear hS
    by_cases hlt : k < e % z
    · obtain ⟨v, hb, hv, cz, cl, hB, hL, hL2⟩ := hS'.out
      obtain ⟨g, cap, rfl⟩ := hv.shape (limL_ne _ _ _)
      have hc := cell_of_one hb
      have hnm := limL_norm (tenN (e / z)) z (by omega) (by omega) k
      have hln := limL_len (tenN (e / z)) z k
      have hlt' : (k : Int) < (e : Int) % z := by omega
      have hsize := hB.size
      have HB := hid hb
      have HBB := hid hB
      clear hb hB
      go_wp2_with (go_at_call 183; refine (times_any (w.heap.size + 2) _ (limL (tenN (e / z)) z k) 10 _ (by decide) (by decide) (limL_ne _ _ _) hnm.word (by omega) (by omega) hv).mono ?_; rintro r w4 ⟨v', rfl, hn4, hg4⟩; obtain ⟨q1, q2, q3, q4⟩ := rt_mid HB.out hv HBB.out hL cz cl hn4 hg4; obtain ⟨g4, cap4, rfl⟩ := hn4.shape (limL_ne (tenN (e / z)) z (k + 1)); have Q4 := hid q4; clear q4 hn4 hg4 hc hv cz cl)
      go_roundw
      case rel => exact ⟨k + 1, by omega, by go_num, Q4⟩
      case measure => simp [intOf]; omega
    · obtain rfl : k = e % z := by omega
      obtain ⟨v, hb, hv, cz, cl, hB, hL, hL2⟩ := hS'.out
      have EW : Hid (IntKind.i64.wrap (IntKind.i64.wrap (9 * (tenN (e / z) : Int)) - 1) = ((9 * tenN (e / z) - 1 : Nat) : Int)) := by
        unfold Hid
        rw [wrap_i64 (n := 9 * (tenN (e / z) : Int)) (by omega) (by omega), wrap_i64 (by omega) (by omega)]; omega
      clear hb hv cz hB
      go_wp2
      go_region_held3 (fun w' => w'.cell? ⟨w.heap.size + 1, 0, none⟩ = some (.int .i64 (tenN (e / z))) ∧ RtS w L z (tenN (e / z)) (e % z) w')
        (first | exact ⟨cl, hS'.out.keep ((Below.refl _ _).drew)⟩ | exact ⟨(‹RtS _ _ _ _ _ _›.elim fun _ h => h.2.2.2.1), ‹RtS _ _ _ _ _ _›⟩)
        (first | (go_at_call 173; rw [EW.out]; refine (search_root (9 * tenN (e / z) - 1) (fun m => aboveB (powL (tenN (e / z) + m + 1) z) (limL (tenN (e / z)) z (e % z))) (RtS w L z (tenN (e / z)) (e % z)) _ _ _ _ (by omega) (‹_ ∧ RtS _ _ _ _ _ _›).2 (fun m wr hm h => rt_call hz2 (by omega) (by omega) (by omega) (by omega) wr h)).mono ?_; rintro r w5 ⟨r, rfl, hfnd, hS5⟩))
      go_wp2
      go_ret
      have hr1 := hfnd.1
      have hr2 := root_found e z _ hz hfnd
      exact ⟨ret_int (by rw [wrap_i64 (by omega) (by omega), hr2]; omega), hS5.elim fun _ h => h.2.2.2.2.1⟩

def rootOk (e z : Int) : Bool := (decide (1 ≤ z) && decide (z ≤ 60)) && (decide (0 ≤ e) && decide (e ≤ 16 * z))
end Go.Proofs.YtihbjimnjhfpeaaGreat.Lt

/- Walk of the reference's root: contract. -/
namespace Go.Proofs.YtihbjimnjhfpeaaGreat.Lt
open Go.RowKit Go.Lib

/-- Where the reference's root looks. -/
structure Rr (e z lo hi : Nat) : Prop where
  pos : 1 ≤ lo
  top : hi ≤ 100000000000000001
  lt : lo < hi
  low : lo ^ z ≤ 10 ^ e
  high : 10 ^ e < hi ^ z
theorem Rr.done {e z lo hi : Nat} (h : Rr e z lo hi) (hz : 1 ≤ z) (h1 : hi = lo + 1) : Pm.rootN e z = lo := Pm.rootN_eq hz ⟨h.low, by rw [← h1]; exact h.high⟩

end Go.Proofs.YtihbjimnjhfpeaaGreat.Lt

/- Walks of the rates of package lethal: exponent, digits, down: contracts. -/
namespace Go.Proofs.YtihbjimnjhfpeaaGreat.Lt
open Go.RowKit Go.Lib Go.Maps

theorem box6_below {w w1 : World} {c0 c1 c2 c3 c4 c5 : Value} {T : TypeId} {fz : Nat × Nat} (hb : Below (w.alloc (.cells #[c0, c1, c2, c3, c4, c5] T fz)).heap.size (w.alloc (.cells #[c0, c1, c2, c3, c4, c5] T fz)) w1) :
    w1.cell? ⟨w.heap.size, 0, none⟩ = some c0 ∧ w1.cell? ⟨w.heap.size, 1, none⟩ = some c1 ∧ w1.cell? ⟨w.heap.size, 2, none⟩ = some c2 ∧ w1.cell? ⟨w.heap.size, 3, none⟩ = some c3 ∧ w1.cell? ⟨w.heap.size, 4, none⟩ = some c4 ∧ w1.cell? ⟨w.heap.size, 5, none⟩ = some c5 ∧ w.heap.size < w1.heap.size ∧ Below w.heap.size w w1 := by
  obtain ⟨hc, _⟩ := bcell hb
  have hz : w.heap.size < (w.alloc (.cells #[c0, c1, c2, c3, c4, c5] T fz)).heap.size := by simp
  refine ⟨?_, ?_, ?_, ?_, ?_, ?_, Nat.lt_of_lt_of_le hz hb.size, balloc hb⟩ <;> rw [hc _ _ hz, cell_alloc_new] <;> rfl

set_option maxHeartbeats 1000000 in
theorem exponent_any (s : ByteArray) (r z d g : Int) (mb : Nat) (w : World) (t : Int) (hr1 : -200 ≤ r) (hr2 : r ≤ 800) (hz1 : 1 ≤ z) (hz2 : z ≤ 60) (ht1 : -100000 ≤ t) (ht2 : t ≤ 100000) :
    Calls Tryz.prog 143 #[.agg #[.string s, .int .i64 r, .int .i64 z, .int .i64 d, .int .i64 g, .map (some mb)], .int .i64 t] w fun e w' => e = .returned (.int .i64 (Pm.expo r z t)) ∧ Below w.heap.size w w' := by
  by_cases h : t - r ≤ 10 * z
  · have he : Hid (Pm.expo r z t = 6 * z + (t - r)) := by unfold Pm.expo Hid; omega
    go_enter Tryz.func143, Tryz.ntmps143
    go_wp2
    go_ret
    exact ⟨ret_int he.out.symm, (Below.refl _ _).alloc (Nat.le_refl _) _⟩
  · have he : Hid (Pm.expo r z t = 6 * z + 10 * z) := by unfold Pm.expo Hid; omega
    go_enter Tryz.func143, Tryz.ntmps143
    go_wp2
    go_ret
    exact ⟨ret_int he.out.symm, (Below.refl _ _).alloc (Nat.le_refl _) _⟩

theorem law_int : Keyed Tryz.prog 3 := int_keyed Tryz.underlying3
theorem zero_int (w : World) : (zeroValue 3).run Tryz.prog w = .ok (.int .i64 0) w := by kernel_rfl
theorem key_int {t : Int} (h1 : -9000000000000000000 ≤ t) (h2 : t ≤ 9000000000000000000) : keyOf Tryz.prog 3 (.int .i64 t) = some (.int .i64 t) := keyOf_int_mk Tryz.underlying3 (WalkArith.wf_i64 (by omega))

/-- The map of known roots, as it reads. -/
def GoodM (r : Int) (Z : Nat) (D : DataW Unit) : Prop := IsMap D ∧ ∀ p : Nat, p < Z → Maps.has D (.int .i64 (r + 9 * (Z : Int) + p)) = true → D.atKey (.int .i64 (r + 9 * (Z : Int) + p)) (.lit (.int .i64 0)) = .lit (.int .i64 (Pm.rootN (15 * Z + p) Z : Nat))
theorem goodM_empty (r : Int) (Z : Nat) : GoodM r Z (.map []) := ⟨isMap_empty, fun p _ h => by simp [Maps.has] at h⟩
theorem GoodM.put {r : Int} {Z : Nat} {D : DataW Unit} (h : GoodM r Z D) (p : Nat) : GoodM r Z (D.put (.int .i64 (r + 9 * (Z : Int) + p)) (.lit (.int .i64 (Pm.rootN (15 * Z + p) Z : Nat)))) := by
  refine ⟨h.1.put _ _, fun q hq hh => ?_⟩
  by_cases e : q = p
  · subst e
    exact atKey_put_same h.1 (by constructor) _ _
  · have hne : (Lit.int .i64 (r + 9 * (Z : Int) + q)) ≠ .int .i64 (r + 9 * (Z : Int) + p) := by
      intro he; injection he with _ he; omega
    rw [atKey_put_other hne]
    rw [has_put_other hne] at hh
    exact h.2 q hq hh
/-- The map of known roots in block b, with at most n entries. -/
def MapI (r : Int) (Z : Nat) (w : World) (b n : Nat) : Prop := ∃ D : DataW Unit, w.ownsMap Tryz.prog 3 (plainElem Tryz.prog 3) b n D ∧ GoodM r Z D
theorem MapI.kept {r : Int} {Z : Nat} {w w' : World} {b n : Nat} {row : Option Nat} (h : MapI r Z w b n) (hg : w.grownBy w' row) (hne : some b ≠ row) : MapI r Z w' b n := by
  obtain ⟨D, h1, h2⟩ := h
  exact ⟨D, h1.kept hg hne, h2⟩
theorem MapI.below {r : Int} {Z : Nat} {w w' : World} {b n : Nat} (h : MapI r Z w b n) (hb : Below w.heap.size w w') : MapI r Z w' b n :=
  h.kept (row := none) ⟨hb.os, hb.tape, hb.output, hb.size, fun j hj _ => hb.block j hj⟩ (by simp)
theorem MapI.lt {r : Int} {Z : Nat} {w : World} {b n : Nat} (h : MapI r Z w b n) : b < w.heap.size := by
  obtain ⟨D, h1, _⟩ := h
  exact h1.lt
/-- What digits and down hand back. -/
def RateP (v : Nat) (r : Int) (Z mb n : Nat) (w : World) (e : Ending) (w' : World) : Prop := e = .returned (.int .i64 v) ∧ w.grownBy w' (some mb) ∧ MapI r Z w' mb (n + 1)

theorem gbelow {a b : World} {row : Option Nat} (h : Below a.heap.size a b) : a.grownBy b row := ⟨h.os, h.tape, h.output, h.size, fun k hk _ => h.block k hk⟩

theorem omap_below {H : Type} {P : Program} {k : TypeId} {R : Value → Option (DataW H × List MemPlace)} {w w1 : World} {b n : Nat} {D : DataW H} (h : w.ownsMap P k R b n D) (hb : Below w.heap.size w w1) : w1.ownsMap P k R b n D :=
  h.kept (row := none) (gbelow hb) (by simp)
theorem omap_alloc {H : Type} {P : Program} {k : TypeId} {R : Value → Option (DataW H × List MemPlace)} {w w1 : World} {o : Obj} {b n : Nat} {D : DataW H} (h : w.ownsMap P k R b n D) (hb : Below (w.alloc o).heap.size (w.alloc o) w1) : w1.ownsMap P k R b n D :=
  omap_below (h.alloc o) hb

set_option maxHeartbeats 2000000 in
theorem digits_any (s : ByteArray) (r d g : Int) (Z p mb n : Nat) (w : World) (hr1 : -200 ≤ r) (hr2 : r ≤ 800) (hz1 : 1 ≤ Z) (hz2 : Z ≤ 60) (hp : p < Z) (hn : n ≤ 1000000000) (hM : MapI r Z w mb n) :
    Calls Tryz.prog 164 #[.agg #[.string s, .int .i64 r, .int .i64 Z, .int .i64 d, .int .i64 g, .map (some mb)], .int .i64 p] w (RateP (Pm.rootN (15 * Z + p) Z) r Z mb n w) := by
  obtain ⟨D, hown, hgood⟩ := hM
  have hlt := hown.lt
  have hk := key_int (t := r + 9 * (Z : Int) + p) (by omega) (by omega)
  have HK := hid hk; clear hk
  have HG := hid hgood; clear hgood
  have EE : Hid (Pm.expo r Z (r + 9 * (Z : Int) + p) = ((15 * Z + p : Nat) : Int)) := by unfold Pm.expo Hid; omega
  have hle := Pm.root_le16 (15 * Z + p) Z hz1 (by omega)
  cases hh : Maps.has D (.int .i64 (r + 9 * (Z : Int) + p))
  · go_enter Tryz.func164, Tryz.ntmps164
    go_wp2_with (first
      | (at_lookup; refine wpList_lookup_own_ok_int _ rfl _ _ 121 rfl 3 3 .i64 law_int Tryz.underlying121 Tryz.underlying3 (zero_int _) mb n D rfl (hown.alloc _) _ _ rfl HK.out ?_; intro c hat hwc; clear hat hwc)
      | (go_at_call 143; refine (exponent_any _ _ _ _ _ _ _ _ hr1 hr2 (by omega) (by omega) (by omega) (by omega)).mono ?_; rintro e w1 ⟨rfl, hb⟩; have hown1 := omap_alloc hown hb; obtain ⟨b0, b1, b2, b3, b4, b5, hz, hB⟩ := box6_below hb; clear hb)
      | (go_at_call 176; rw [EE.out]; refine (lroot_any (15 * Z + p) Z _ hz1 hz2 (by omega)).mono ?_; rintro e w2 ⟨rfl, hb2⟩; have hown2 := omap_below hown1 hb2; have c5 := keep_cell hb2 b5; clear hown1)
      | (at_mapUpdate; refine wpList_mapUpdate_own _ rfl _ _ _ 121 rfl 3 3 law_int Tryz.underlying121 _ mb n D rfl hown2 (by unfold maxLen; omega) _ _ _ rfl rfl HK.out _ [] (plainElem_int Tryz.underlying3 (WalkArith.wf_i64 (by omega))) ?_; intro w3 hown3 hgrow3; clear hown2))
    go_ret
    refine ⟨rfl, ?_, _, hown3, HG.out.put p⟩
    exact gtrans (gtrans (gbelow hB) (gbelow hb2)) hgrow3
  · have hat0 := hid (HG.out.2 p hp hh)
    go_enter Tryz.func164, Tryz.ntmps164
    go_wp2_with (first
      | (at_lookup; refine wpList_lookup_own_ok_int _ rfl _ _ 121 rfl 3 3 .i64 law_int Tryz.underlying121 Tryz.underlying3 (zero_int _) mb n D rfl (hown.alloc _) _ _ rfl HK.out ?_; intro c hat hwc; have hat1 := hid hat; clear hat hwc))
    go_ret
    refine ⟨ret_int ?_, World.grownBy_alloc _ _ _, D, (hown.alloc _).mono (Nat.le_succ _), HG.out⟩
    have := hat0.out.symm.trans hat1.out
    simpa using this.symm
end Go.Proofs.YtihbjimnjhfpeaaGreat.Lt

/- Walks of the rates of package lethal: down, up: contracts. -/
namespace Go.Proofs.YtihbjimnjhfpeaaGreat.Lt
open Go.RowKit Go.Lib Go.Maps

theorem kbox6_keep {b : Nat} {w W w2 : World} {c0 c1 c2 c3 c4 c5 : Value} (hb : Below W.heap.size W w2)
    (h : W.cell? ⟨b, 0, none⟩ = some c0 ∧ W.cell? ⟨b, 1, none⟩ = some c1 ∧ W.cell? ⟨b, 2, none⟩ = some c2 ∧ W.cell? ⟨b, 3, none⟩ = some c3 ∧ W.cell? ⟨b, 4, none⟩ = some c4 ∧ W.cell? ⟨b, 5, none⟩ = some c5 ∧ b < W.heap.size ∧ Below w.heap.size w W) :
    w2.cell? ⟨b, 0, none⟩ = some c0 ∧ w2.cell? ⟨b, 1, none⟩ = some c1 ∧ w2.cell? ⟨b, 2, none⟩ = some c2 ∧ w2.cell? ⟨b, 3, none⟩ = some c3 ∧ w2.cell? ⟨b, 4, none⟩ = some c4 ∧ w2.cell? ⟨b, 5, none⟩ = some c5 ∧ b < w2.heap.size ∧ Below w.heap.size w w2 := by
  obtain ⟨h0, h1, h2, h3, h4, h5, h6, h7⟩ := h
  exact ⟨keep_cell hb h0, keep_cell hb h1, keep_cell hb h2, keep_cell hb h3, keep_cell hb h4, keep_cell hb h5, Nat.lt_of_lt_of_le h6 hb.size, h7.trans (hb.mono h7.size)⟩
theorem box6_new {w : World} {c0 c1 c2 c3 c4 c5 : Value} {T : TypeId} :
    (w.alloc (.cells #[c0, c1, c2, c3, c4, c5] T)).drew.cell? ⟨w.heap.size, 0, none⟩ = some c0 ∧ (w.alloc (.cells #[c0, c1, c2, c3, c4, c5] T)).drew.cell? ⟨w.heap.size, 1, none⟩ = some c1 ∧ (w.alloc (.cells #[c0, c1, c2, c3, c4, c5] T)).drew.cell? ⟨w.heap.size, 2, none⟩ = some c2 ∧ (w.alloc (.cells #[c0, c1, c2, c3, c4, c5] T)).drew.cell? ⟨w.heap.size, 3, none⟩ = some c3 ∧ (w.alloc (.cells #[c0, c1, c2, c3, c4, c5] T)).drew.cell? ⟨w.heap.size, 4, none⟩ = some c4 ∧ (w.alloc (.cells #[c0, c1, c2, c3, c4, c5] T)).drew.cell? ⟨w.heap.size, 5, none⟩ = some c5 ∧ w.heap.size < (w.alloc (.cells #[c0, c1, c2, c3, c4, c5] T)).drew.heap.size ∧ Below w.heap.size w (w.alloc (.cells #[c0, c1, c2, c3, c4, c5] T)).drew := by
  obtain ⟨h0, h1, h2, h3, h4, h5, h6, h7⟩ := box6_below (Below.refl _ (w.alloc (.cells #[c0, c1, c2, c3, c4, c5] T)))
  exact ⟨h0, h1, h2, h3, h4, h5, h6, h7.drew⟩
theorem MapI.mono {r : Int} {Z : Nat} {w : World} {b n : Nat} (h : MapI r Z w b n) : MapI r Z w b (n + 1) := by
  obtain ⟨D, h1, h2⟩ := h
  exact ⟨D, h1.mono (Nat.le_succ _), h2⟩

set_option maxHeartbeats 2000000 in
theorem down_any (s : ByteArray) (r d g t : Int) (Z mb n : Nat) (w : World) (hr1 : -200 ≤ r) (hr2 : r ≤ 800) (hz1 : 1 ≤ Z) (hz2 : Z ≤ 60) (ht1 : -100000 ≤ t) (ht2 : t ≤ 100000) (hn : n ≤ 1000000000) (hM : MapI r Z w mb n) :
    Calls Tryz.prog 144 #[.agg #[.string s, .int .i64 r, .int .i64 Z, .int .i64 d, .int .i64 g, .map (some mb)], .int .i64 t] w (RateP (Pm.rateD r Z t) r Z mb n w) := by
  have hx1 := Pm.expo_le r Z t
  have hx2 : -200000 ≤ Pm.expo r Z t := by unfold Pm.expo; omega
  obtain ⟨E, hE⟩ : ∃ E, E = Pm.expo r Z t := ⟨_, rfl⟩
  have HE := hid hE
  rw [← hE] at hx1 hx2
  clear hE
  have HM := hid hM; clear hM
  by_cases h0 : E < 0
  · have hr := hid (Pm.rateD_neg (r := r) (z := Z) (t := t) (by rw [← HE.out]; exact h0))
    go_enter Tryz.func144, Tryz.ntmps144
    go_wp2
    go_region_held3 (fun w' => w'.cell? ⟨w.heap.size, 0, none⟩ = some (.string s) ∧ w'.cell? ⟨w.heap.size, 1, none⟩ = some (.int .i64 r) ∧ w'.cell? ⟨w.heap.size, 2, none⟩ = some (.int .i64 Z) ∧ w'.cell? ⟨w.heap.size, 3, none⟩ = some (.int .i64 d) ∧ w'.cell? ⟨w.heap.size, 4, none⟩ = some (.int .i64 g) ∧ w'.cell? ⟨w.heap.size, 5, none⟩ = some (.map (some mb)) ∧ w.heap.size < w'.heap.size ∧ Below w.heap.size w w') (first | exact box6_new | exact kbox6_keep (by assumption) (by assumption)) (first | (go_at_call 143; refine (exponent_any _ _ _ _ _ _ _ _ hr1 hr2 (by omega) (by omega) ht1 ht2).mono ?_; rintro e w1 ⟨rfl, hb⟩; rw [← HE.out]))
    rename_i hq
    obtain ⟨q0, q1, q2, q3, q4, q5, q6, q7⟩ := hq
    go_wp2
    go_ret
    exact ⟨ret_int (by rw [hr.out]; rfl), gbelow q7, (HM.out.below q7).mono⟩
  · obtain ⟨N, rfl⟩ := Int.eq_ofNat_of_zero_le (show 0 ≤ E by omega)
    have hN : (Pm.expo r Z t).toNat = N := by rw [← HE.out]; rfl
    have hneg : ¬ Pm.expo r Z t < 0 := by rw [← HE.out]; exact h0
    have HQ : Hid ((N : Int) / Z = ((N / Z : Nat) : Int)) := by unfold Hid; omega
    have HR : Hid ((N : Int) % Z = ((N % Z : Nat) : Int)) := by unfold Hid; omega
    have hq0 : 0 ≤ (N : Int) / Z := Int.ediv_nonneg (by omega) (by omega)
    have hm0 : 0 ≤ (N : Int) % Z := Int.emod_nonneg _ (by omega)
    have hd0 : decide ((N : Int) < 0) = false := by simp
    by_cases hp : N % Z = 0
    · have hv := hid (Pm.rateD_whole (r := r) (z := Z) (t := t) (by omega) hneg (by rw [hN]; exact hp))
      have hN16 : N / Z ≤ 16 := Nat.div_le_of_le_mul (by rw [Nat.mul_comm]; omega)
      have hpb : ((N : Int) % Z == 0) = true := by rw [HR.out, hp]; rfl
      have HNN := hid hN
      clear hN hneg hp
      go_enter Tryz.func144, Tryz.ntmps144
      go_wp2
      go_region_held3 (fun w' => w'.cell? ⟨w.heap.size, 0, none⟩ = some (.string s) ∧ w'.cell? ⟨w.heap.size, 1, none⟩ = some (.int .i64 r) ∧ w'.cell? ⟨w.heap.size, 2, none⟩ = some (.int .i64 Z) ∧ w'.cell? ⟨w.heap.size, 3, none⟩ = some (.int .i64 d) ∧ w'.cell? ⟨w.heap.size, 4, none⟩ = some (.int .i64 g) ∧ w'.cell? ⟨w.heap.size, 5, none⟩ = some (.map (some mb)) ∧ w.heap.size < w'.heap.size ∧ Below w.heap.size w w') (first | exact box6_new | exact kbox6_keep (by assumption) (by assumption)) (first | (go_at_call 143; refine (exponent_any _ _ _ _ _ _ _ _ hr1 hr2 (by omega) (by omega) ht1 ht2).mono ?_; rintro e w1 ⟨rfl, hb⟩; rw [← HE.out]))
      rename_i hq
      obtain ⟨q0, q1, q2, q3, q4, q5, q6, q7⟩ := hq
      have Q7 := hid q7; clear q7
      go_wp2
      go_quiet (fail)
      go_wp2_with (go_at_call 163; rw [HQ.out]; refine (tenTo_any (N / Z) _ (by omega)).mono ?_; rintro e w2 ⟨rfl, rfl⟩)
      go_ret
      refine ⟨ret_int ?_, gbelow (bdrewN Q7.out), (HM.out.below (bdrewN Q7.out)).mono⟩
      have := hv.out; rw [HNN.out, Int.toNat_natCast] at this
      rw [this]; rfl
    · have hv := hid (Pm.rateD_digits (r := r) (z := Z) (t := t) (by omega) hneg (by rw [hN]; exact hp))
      have hN15 : N / Z ≤ 15 := by have := hv.out.1; rwa [hN, Int.toNat_natCast] at this
      have hpb : ((N : Int) % Z == 0) = false := by rw [HR.out]; simp; omega
      have HNN := hid hN
      have hpz : N % Z < Z := Nat.mod_lt _ hz1
      have h15 : (15 : Int) - N / Z = ((15 - N / Z : Nat) : Int) := by rw [HQ.out]; omega
      have H15 := hid h15
      have hp10 := tenN_pos (15 - N / Z)
      clear hN hneg hp h15
      go_enter Tryz.func144, Tryz.ntmps144
      go_wp2
      go_region_held3 (fun w' => w'.cell? ⟨w.heap.size, 0, none⟩ = some (.string s) ∧ w'.cell? ⟨w.heap.size, 1, none⟩ = some (.int .i64 r) ∧ w'.cell? ⟨w.heap.size, 2, none⟩ = some (.int .i64 Z) ∧ w'.cell? ⟨w.heap.size, 3, none⟩ = some (.int .i64 d) ∧ w'.cell? ⟨w.heap.size, 4, none⟩ = some (.int .i64 g) ∧ w'.cell? ⟨w.heap.size, 5, none⟩ = some (.map (some mb)) ∧ w.heap.size < w'.heap.size ∧ Below w.heap.size w w') (first | exact box6_new | exact kbox6_keep (by assumption) (by assumption)) (first | (go_at_call 143; refine (exponent_any _ _ _ _ _ _ _ _ hr1 hr2 (by omega) (by omega) ht1 ht2).mono ?_; rintro e w1 ⟨rfl, hb⟩; rw [← HE.out]))
      rename_i hq
      obtain ⟨q0, q1, q2, q3, q4, q5, q6, q7⟩ := hq
      have Q7 := hid q7; clear q7
      go_wp2
      go_quiet (fail)
      have HM3 := hid (HM.out.below (bdrewN (n := nq) Q7.out))
      go_wp2_with (first
        | (go_at_call 164; rw [HR.out]; refine (digits_any _ _ _ _ Z (N % Z) mb n _ hr1 hr2 hz1 hz2 hpz hn HM3.out).mono ?_; rintro e w2 ⟨rfl, hg2, hM2⟩; have HG2 := hid hg2; have HM2 := hid hM2; clear hg2 hM2)
        | (go_at_call 163; rw [H15.out]; refine (tenTo_any (15 - N / Z) _ (by omega)).mono ?_; rintro e w3 ⟨rfl, rfl⟩))
      go_ret
      refine ⟨ret_int ?_, gtrans (gbelow (bdrewN Q7.out)) HG2.out, HM2.out⟩
      have := hv.out.2
      rw [HNN.out, Int.toNat_natCast] at this
      have hle := Pm.root_le16 (15 * Z + N % Z) Z hz1 (by omega)
      have hdv := Nat.div_le_self (Pm.rootN (15 * Z + N % Z) Z) (tenN (15 - N / Z))
      change _ = Pm.rootN (15 * Z + N % Z) Z / tenN (15 - N / Z) at this
      rw [this, ← Int.natCast_ediv]
      generalize Pm.rootN (15 * Z + N % Z) Z / tenN (15 - N / Z) = q at hdv ⊢
      exact IntWalk.wrap64_in _ ⟨by omega, by omega⟩

set_option maxHeartbeats 2000000 in
theorem up_any (s : ByteArray) (r d g t : Int) (Z mb n : Nat) (w : World) (hr1 : -200 ≤ r) (hr2 : r ≤ 800) (hz1 : 1 ≤ Z) (hz2 : Z ≤ 60) (ht1 : -100000 ≤ t) (ht2 : t ≤ 100000) (hn : n ≤ 1000000000) (hM : MapI r Z w mb n) :
    Calls Tryz.prog 111 #[.agg #[.string s, .int .i64 r, .int .i64 Z, .int .i64 d, .int .i64 g, .map (some mb)], .int .i64 t] w (RateP (Pm.rateU r Z t) r Z mb n w) := by
  have hx1 := Pm.expo_le r Z t
  have hx2 : -200000 ≤ Pm.expo r Z t := by unfold Pm.expo; omega
  have hu := Pm.rateU_eq r Z t
  have hdl := Pm.rateD_le r Z t (by omega)
  obtain ⟨E, hE⟩ : ∃ E, E = Pm.expo r Z t := ⟨_, rfl⟩
  have HE := hid hE
  rw [← hE] at hx1 hx2 hu
  have HU := hid hu
  clear hE hu
  have HM := hid hM; clear hM
  by_cases h0 : 0 ≤ E
  · obtain ⟨N, rfl⟩ := Int.eq_ofNat_of_zero_le h0
    have hd0 : decide (0 ≤ (N : Int)) = true := by simp
    have HR : Hid ((N : Int) % Z = ((N % Z : Nat) : Int)) := by unfold Hid; omega
    by_cases hp : N % Z = 0
    · have hpb : ((N : Int) % Z == 0) = true := by rw [HR.out, hp]; rfl
      have hv := HU.out
      rw [Int.toNat_natCast, Int.toNat_natCast, if_pos ⟨h0, hp⟩] at hv
      have HV := hid hv
      clear hv hp
      go_enter Tryz.func111, Tryz.ntmps111
      go_wp2_with (first
        | (go_at_call 143; refine (exponent_any _ _ _ _ _ _ _ _ hr1 hr2 (by omega) (by omega) ht1 ht2).mono ?_; rintro e w1 ⟨rfl, hb⟩; rw [← HE.out]; obtain ⟨b0, b1, b2, b3, b4, b5, hz, hB⟩ := box6_below hb; clear hb; have HM1 := hid (HM.out.below hB))
        | (go_at_call 144; refine (down_any _ _ _ _ _ Z mb n _ hr1 hr2 hz1 hz2 ht1 ht2 hn HM1.out).mono ?_; rintro e w2 ⟨rfl, hg2, hM2⟩; have HG2 := hid hg2; have HM2 := hid hM2; clear hg2 hM2))
      go_ret
      exact ⟨ret_int (by rw [HV.out]), gtrans (gbelow hB) HG2.out, HM2.out⟩
    · have hpb : ((N : Int) % Z == 0) = false := by rw [HR.out]; simp; omega
      have hv := HU.out
      rw [Int.toNat_natCast, Int.toNat_natCast, if_neg (fun h => hp h.2)] at hv
      have HV := hid hv
      clear hv hp
      go_enter Tryz.func111, Tryz.ntmps111
      go_wp2_with (first
        | (go_at_call 143; refine (exponent_any _ _ _ _ _ _ _ _ hr1 hr2 (by omega) (by omega) ht1 ht2).mono ?_; rintro e w1 ⟨rfl, hb⟩; rw [← HE.out]; obtain ⟨b0, b1, b2, b3, b4, b5, hz, hB⟩ := box6_below hb; clear hb; have HM1 := hid (HM.out.below hB))
        | (go_at_call 144; refine (down_any _ _ _ _ _ Z mb n _ hr1 hr2 hz1 hz2 ht1 ht2 hn HM1.out).mono ?_; rintro e w2 ⟨rfl, hg2, hM2⟩; have HG2 := hid hg2; have HM2 := hid hM2; clear hg2 hM2))
      go_ret
      exact ⟨ret_int (by rw [HV.out]; rfl), gtrans (gbelow hB) HG2.out, HM2.out⟩
  · have hd0 : decide (0 ≤ E) = false := by simp; omega
    have hv := HU.out
    rw [if_neg (fun h => h0 h.1)] at hv
    have HV := hid hv
    clear hv
    go_enter Tryz.func111, Tryz.ntmps111
    go_wp2_with (first
      | (go_at_call 143; refine (exponent_any _ _ _ _ _ _ _ _ hr1 hr2 (by omega) (by omega) ht1 ht2).mono ?_; rintro e w1 ⟨rfl, hb⟩; rw [← HE.out]; obtain ⟨b0, b1, b2, b3, b4, b5, hz, hB⟩ := box6_below hb; clear hb; have HM1 := hid (HM.out.below hB))
      | (go_at_call 144; refine (down_any _ _ _ _ _ Z mb n _ hr1 hr2 hz1 hz2 ht1 ht2 hn HM1.out).mono ?_; rintro e w2 ⟨rfl, hg2, hM2⟩; have HG2 := hid hg2; have HM2 := hid hM2; clear hg2 hM2))
    go_ret
    exact ⟨ret_int (by rw [HV.out]; rfl), gtrans (gbelow hB) HG2.out, HM2.out⟩

/-- A new killer's rates: the struct's box, and its empty map. -/
def RatesP (s : ByteArray) (r z d g : Int) (w : World) (e : Ending) (w' : World) : Prop := ∃ mb, e = .returned (.agg #[.string s, .int .i64 r, .int .i64 z, .int .i64 d, .int .i64 g, .map (some mb)]) ∧ w.heap.size ≤ mb ∧ Below w.heap.size w w' ∧ ∀ Z : Nat, MapI r Z w' mb 0

set_option maxHeartbeats 2000000 in
theorem ratesOf_any (s : ByteArray) (r z d g : Int) (w : World) (_hs : s.size ≤ maxLen) : Calls Tryz.prog 110 #[.agg #[.string s, .int .i64 r, .int .i64 z, .int .i64 d, .int .i64 g]] w (RatesP s r z d g w) := by
  have hmm := @run_makeMap Tryz.prog
  go_enter Tryz.func110, Tryz.ntmps110
  go_wp2
  refine bodyPost_ret (v := .agg #[.string s, .int .i64 r, .int .i64 z, .int .i64 d, .int .i64 g, .map (some (w.heap.size + 2))]) (by simp [results, Tryz.results110, go_sem]) rfl ?_
  refine ⟨_, rfl, by omega, (((Below.refl _ _).alloc (Nat.le_refl _) _).alloc (by simp) _).alloc (by simp; omega) _, fun Z => ⟨.map [], ?_, goodM_empty r Z⟩⟩
  have := World.ownsMap_made (H := Unit) ((w.alloc (.cells #[.string s, .int .i64 r, .int .i64 z, .int .i64 d, .int .i64 g] 25)).alloc (.cells #[.string s, .int .i64 r, .int .i64 z, .int .i64 d, .int .i64 g, .map (some (w.heap.size + 1 + 1))] 155)) Tryz.prog 3 (plainElem Tryz.prog 3)
  rw [two_size] at this
  exact this
end Go.Proofs.YtihbjimnjhfpeaaGreat.Lt
