/- Texts of this seat, one behind the other. -/
import Derived.Test.YtedfajokiblfhaaGreatEb
/- Walk of the reference's Start and Even: contracts. -/
namespace Go.Proofs.YtedfajokiblfhaaGreat
open Go.RowKit

/-- Three boxes behind one another: a can, a body that comes back, a body that is filled. -/
structure R3b (w w1 : World) (A R S : Array Value) : Prop where
  can : w1.heap[w.heap.size]? = some (.cells A 23 (0, 0))
  res : w1.heap[w.heap.size + 1]? = some (.cells R 67 (0, 0))
  out : w1.heap[w.heap.size + 1 + 1]? = some (.cells S 67 (0, 0))
  low : Below w.heap.size w w1
theorem r3b_start {w : World} {A R S : Array Value} : R3b w (((w.alloc (.cells A 23)).alloc (.cells R 67)).alloc (.cells S 67)) A R S := by
  have hs : ((w.alloc (.cells A 23)).alloc (.cells R 67)).heap.size = w.heap.size + 1 + 1 := by simp
  refine ⟨?_, ?_, new_at hs, (((Below.refl _ _).alloc (Nat.le_refl _) _).alloc (by simp) _).alloc (by simp; omega) _⟩
  · rw [Below.heap_alloc _ _ _ (by rw [hs]; omega)]; exact heap_alloc2_old w _ _
  · rw [Below.heap_alloc _ _ _ (by rw [hs]; omega)]; exact heap_alloc2_new w _ _
/-- What an append onto a row of one's own, laid behind the boxes, leaves of them; and the store of what it made. -/
theorem R3b.app {w W W' : World} {A R : Array Value} {v v' u0 : Value} {br : Value} {xs : List Value} {l : List Int} (h : R3b w W A R #[u0, br]) (hown : W.ownsRow (w.heap.size + 3) 3 1 v xs.length xs) (hA : AppP W (w.heap.size + 3) 3 v xs l v' W') : R3b w W' A R #[u0, br] := by
  have hne : ∀ b, b < w.heap.size + 3 → some b ≠ v.ownBlock := fun b hb e => by have := (World.ownsRow.lt hown b e.symm).1; omega
  exact ⟨(hA.2.1.block _ (lt_of_block h.can) (hne _ (by omega))).trans h.can, (hA.2.1.block _ (lt_of_block h.res) (hne _ (by omega))).trans h.res, (hA.2.1.block _ (lt_of_block h.out) (hne _ (by omega))).trans h.out, h.low.grown hA.2.1 h.low.size (fun k hk => by have := (World.ownsRow.lt hown k hk).1; omega)⟩
theorem R3b.set0 {w W : World} {A R : Array Value} {u0 br u : Value} (h : R3b w W A R #[u0, br]) : R3b w (W.setCell ⟨w.heap.size + 1 + 1, 0, none⟩ u) A R #[u, br] :=
  ⟨(heap_setCell_other _ _ _ _ (show w.heap.size ≠ w.heap.size + 1 + 1 by omega)).trans h.can, (heap_setCell_other _ _ _ _ (show w.heap.size + 1 ≠ w.heap.size + 1 + 1 by omega)).trans h.res, heap_setCell_same W (w.heap.size + 1 + 1) 0 _ _ u h.out, h.low.setCell (p := ⟨w.heap.size + 1 + 1, 0, none⟩) (by show w.heap.size ≤ w.heap.size + 1 + 1; omega) u⟩
theorem R3b.alloc {w W : World} {A R S : Array Value} (h : R3b w W A R S) (o : Obj) : R3b w (W.alloc o) A R S :=
  ⟨(Below.heap_alloc _ _ _ (lt_of_block h.can)).trans h.can, (Below.heap_alloc _ _ _ (lt_of_block h.res)).trans h.res, (Below.heap_alloc _ _ _ (lt_of_block h.out)).trans h.out, h.low.alloc h.low.size _⟩
theorem R3b.facts {w W : World} {c0 c1 c2 c3 c4 c5 c6 d0 d1 e0 e1 : Value} (h : R3b w W #[c0, c1, c2, c3, c4, c5, c6] #[d0, d1] #[e0, e1]) :
    W.cell? ⟨w.heap.size, 0, none⟩ = some c0 ∧ W.cell? ⟨w.heap.size, 1, none⟩ = some c1 ∧ W.cell? ⟨w.heap.size, 4, none⟩ = some c4 ∧
    W.cell? ⟨w.heap.size + 1, 0, none⟩ = some d0 ∧ W.cell? ⟨w.heap.size + 1, 1, none⟩ = some d1 ∧ W.frozen? ⟨w.heap.size + 1, 0, none⟩ = false ∧ W.frozen? ⟨w.heap.size + 1, 1, none⟩ = false ∧
    W.cell? ⟨w.heap.size + 1 + 1, 0, none⟩ = some e0 ∧ W.cell? ⟨w.heap.size + 1 + 1, 1, none⟩ = some e1 ∧ W.frozen? ⟨w.heap.size + 1 + 1, 0, none⟩ = false ∧ W.frozen? ⟨w.heap.size + 1 + 1, 1, none⟩ = false ∧ w.heap.size + 1 + 1 < W.heap.size :=
  ⟨cell_of_row _ _ 0 _ _ _ h.can, cell_of_row _ _ 1 _ _ _ h.can, cell_of_row _ _ 4 _ _ _ h.can, cell_of_row _ _ 0 _ _ _ h.res, cell_of_row _ _ 1 _ _ _ h.res, frozen_of_row _ _ 0 _ _ h.res, frozen_of_row _ _ 1 _ _ h.res, cell_of_row _ _ 0 _ _ _ h.out, cell_of_row _ _ 1 _ _ _ h.out, frozen_of_row _ _ 0 _ _ h.out, frozen_of_row _ _ 1 _ _ h.out, lt_of_block h.out⟩

theorem R3b.fin {w W : World} {A : Array Value} {d0 d1 e0 e1 u v z : Value} (h : R3b w W A #[d0, d1] #[e0, e1]) :
    (((W.setCell ⟨w.heap.size + 1 + 1, 1, none⟩ z).setCell ⟨w.heap.size + 1, 0, none⟩ u).setCell ⟨w.heap.size + 1, 1, none⟩ v).cell? ⟨w.heap.size + 1, 0, none⟩ = some u ∧
    (((W.setCell ⟨w.heap.size + 1 + 1, 1, none⟩ z).setCell ⟨w.heap.size + 1, 0, none⟩ u).setCell ⟨w.heap.size + 1, 1, none⟩ v).cell? ⟨w.heap.size + 1, 1, none⟩ = some v ∧
    Below w.heap.size w (((W.setCell ⟨w.heap.size + 1 + 1, 1, none⟩ z).setCell ⟨w.heap.size + 1, 0, none⟩ u).setCell ⟨w.heap.size + 1, 1, none⟩ v) := by
  have h0 : (W.setCell ⟨w.heap.size + 1 + 1, 1, none⟩ z).heap[w.heap.size + 1]? = some (.cells #[d0, d1] 67 (0, 0)) := (heap_setCell_other _ _ _ _ (show w.heap.size + 1 ≠ w.heap.size + 1 + 1 by omega)).trans h.res
  have h1 := heap_setCell_same _ (w.heap.size + 1) 0 _ _ u h0
  have h2 := heap_setCell_same _ (w.heap.size + 1) 1 _ _ v h1
  exact ⟨cell_of_row _ _ 0 _ _ _ h2, cell_of_row _ _ 1 _ _ _ h2, ((h.low.setCell (p := ⟨w.heap.size + 1 + 1, 1, none⟩) (by show w.heap.size ≤ w.heap.size + 1 + 1; omega) z).setCell (p := ⟨w.heap.size + 1, 0, none⟩) (Nat.le_succ _) u).setCell (p := ⟨w.heap.size + 1, 1, none⟩) (Nat.le_succ _) v⟩
theorem own_shape {w : World} {base e n : Nat} {v : Value} {xs : List Value} (h : w.ownsRow base e 1 v n xs) : ∃ a c, v = .slice a n c := by
  rcases h.2 with ⟨rfl, rfl⟩ | ⟨g, cap, cur, rfl, _⟩
  · exact ⟨_, _, rfl⟩
  · exact ⟨_, _, rfl⟩
theorem own_set {w : World} {base e n m j : Nat} {v u : Value} {xs : List Value} (h : w.ownsRow base e 1 v n xs) (hm : m < base) : (w.setCell ⟨m, j, none⟩ u).ownsRow base e 1 v n xs := by
  refine ⟨h.1, ?_⟩
  rcases h.2 with hn | ⟨g, cap, cur, rfl, hb, hg, rest⟩
  · exact .inl hn
  · exact .inr ⟨g, cap, cur, rfl, hb, (heap_setCell_other _ _ _ _ (show g ≠ m by omega)).trans hg, rest⟩
theorem rowI_res {w W : World} {A : Array Value} {l : List Int} {z u v : Value} (h : R2 w W A #[.slice none 0 0, .bool false]) (hr : RowI W z l) : RowI ((W.setCell ⟨w.heap.size + 1, 0, none⟩ u).setCell ⟨w.heap.size + 1, 1, none⟩ v) z l := by
  rcases hr with hr | ⟨b, o, cap, hz, hm, hc⟩
  · exact .inl hr
  · refine .inr ⟨b, o, cap, hz, hm, fun k hk => ?_⟩
    have hne : b ≠ w.heap.size + 1 := by
      rintro rfl
      have h1 := hc k hk
      rw [cell_of_row W _ (o + k) _ _ _ h.res] at h1
      match o + k, h1 with
      | 0, h1 => simp at h1
      | 1, h1 => simp at h1
      | j + 2, h1 => simp at h1
    rw [← hc k hk]
    exact World.cell?_of_block (a := ⟨b, o + k, none⟩) (by rw [heap_setCell_other _ _ _ _ hne, heap_setCell_other _ _ _ _ hne])
/-- What Start hands back. -/
def StartP (c : Cn) (t : Int) (w : World) (e : Ending) (w' : World) : Prop := ∃ (ua : Option Addr) (cap : Nat), e = .returned (.agg #[.slice ua c.P cap, .bool (decide (0 < c.K) && decide (c.K ≤ t))]) ∧ RowI w' (.slice ua c.P cap) (List.replicate c.P t) ∧ Below w.heap.size w w'
set_option maxRecDepth 100000 in
set_option maxHeartbeats 4000000 in
theorem start_any (c : Cn) (t : Int) (w : World) (hv : c.V) :
    Calls Tryz.prog 77 #[.agg #[.int .i64 (c.R : Int), .int .i64 (c.L : Int), .int .i64 c.A, .int .i64 c.B, .int .i64 c.K, .int .i64 c.A2, .int .i64 c.B2], .int .i64 t] w (StartP c t w) := by
  have HS := hid (r3b_start (w := w) (A := #[.int .i64 (c.R : Int), .int .i64 (c.L : Int), .int .i64 c.A, .int .i64 c.B, .int .i64 c.K, .int .i64 c.A2, .int .i64 c.B2]) (R := #[.slice none 0 0, .bool false]) (S := #[.slice none 0 0, .bool false]))
  obtain ⟨p1, p2⟩ := hv.ok.mul
  have hp := hv.ok.p
  have hr := hv.ok.r1; have hr2 := hv.ok.r2; have hl := hv.ok.l1; have hl2 := hv.ok.l2
  have HP := hid c.P_int
  obtain ⟨i0, hi, hz0, hz1', hz2'⟩ := info_parts infoIf
  clear hv
  go_enter Tryz.func77, Tryz.ntmps77
  go_wp2_with fail
  go_loopw [6] (fun i wr => ∃ n : Nat, n ≤ c.P ∧ i = .int .i64 (n : Int) ∧ ∃ (a : Option Addr) (cap : Nat), Hid (R3b w wr #[.int .i64 (c.R : Int), .int .i64 (c.L : Int), .int .i64 c.A, .int .i64 c.B, .int .i64 c.K, .int .i64 c.A2, .int .i64 c.B2] #[.slice none 0 0, .bool false] #[.slice a n cap, .bool false]) ∧ Hid (wr.ownsRow (w.heap.size + 3) 3 1 (.slice a n cap) (ivs (List.replicate n t)).length (ivs (List.replicate n t)))) (fun i _ => c.P - (intOf i).toNat)
  case atStart => exact ⟨0, Nat.zero_le _, rfl, none, 0, HS, World.ownsRow_nil _ _ _ _⟩
  case round =>
    obtain ⟨n, hn, rfl, a, cap, HR, HO⟩ := hrel
    obtain ⟨k0, k1, k4, d0, d1, f0, f1, e0, e1, g0, g1, hz⟩ := HR.out.facts
    by_cases hlt : n < c.P
    · have hlt' : (n : Int) < (c.R : Int) * c.L := by rw [← HP.out]; omega
      have HR1 := hid (HR.out.alloc (.cells #[.int .i64 t] 3))
      have HL1 := hid (show n + 1 ≤ 1000000 by omega)
      have HZ1 := hid (show w.heap.size + 3 ≤ wr.heap.size + 1 by omega)
      go_wp2_with (at_builtin; (refine wpList_app rfl (.tmp 17) (.tmp 19) 28 rfl (w.heap.size + 3) 3 i0 Tryz.underlying28 hi hz0 hz1' hz2' _ (ivs (List.replicate n t)) rfl (HO.out.alloc _) (.slice (some ⟨wr.heap.size, 0, none⟩) 1 1) [t] rfl (RowI.src (one_at _ _ rfl)) (by rw [ivs_len, List.length_replicate]; exact HL1.out) (by rw [World.size_alloc]; exact HZ1.out) ?_); intro v3 w6 hA1; have HR6 := hid (HR1.out.app (HO.out.alloc _) hA1); have HO6 := hid (app_next hA1); obtain ⟨a3, c3, rfl⟩ := own_shape HO6.out; obtain ⟨k0, k1, k4, d0, d1, f0, f1, e0, e1, g0, g1, hz⟩ := HR6.out.facts; clear hA1)
      have ho6 := HO6.out
      rw [show List.replicate n t ++ [t] = List.replicate (n + 1) t from (List.replicate_succ' ..).symm] at ho6
      rw [List.length_replicate] at ho6
      have HS6 := hid (HR6.out.set0 (u := .slice a3 (n + 1) c3))
      have HO7 := hid (own_set (m := w.heap.size + 1 + 1) (j := 0) (u := .slice a3 (n + 1) c3) ho6 (by omega))
      go_roundw
      case rel => exact ⟨n + 1, by omega, by go_num, a3, c3, HS6, by rw [ivs_len, List.length_replicate]; exact HO7⟩
      case measure => simp [intOf]; omega
    · obtain rfl : n = c.P := by omega
      have hge : (c.R : Int) * c.L ≤ c.P := by rw [← HP.out]; omega
      have hkk : 0 < c.K ∨ decide (0 < c.K) = false := by by_cases h : 0 < c.K <;> simp [h]
      rcases hkk with hk | hk
      all_goals
        go_wp2_with fail
        have hfin := HR.out.fin (u := .slice a c.P cap) (v := .bool (decide (0 < c.K) && decide (c.K ≤ t))) (z := .bool (decide (0 < c.K) && decide (c.K ≤ t)))
        have hown := own_set (m := w.heap.size + 1) (j := 1) (u := .bool (decide (0 < c.K) && decide (c.K ≤ t))) (own_set (m := w.heap.size + 1) (j := 0) (u := .slice a c.P cap) (own_set (m := w.heap.size + 1 + 1) (j := 1) (u := .bool (decide (0 < c.K) && decide (c.K ≤ t))) HO.out (by omega)) (by omega)) (by omega)
        obtain ⟨q0, q1, q2⟩ := hfin
        have hri := own_rowI (l := List.replicate c.P t) (by rw [ivs_len] at hown; exact hown) (by rw [List.length_replicate]; omega)
        clear hown
        unfold StartP
        (try simp only [hk, decide_true, Bool.true_and, Bool.false_and] at q0 q1 q2 hri ⊢)
        exact bodyPost_ret (v := .agg #[.slice a c.P cap, .bool _]) (by first | (simp [results, Tryz.results77, go_sem, q0, q1]; done) | (simp [results, Tryz.results77, go_sem, q0, q1]; rfl)) rfl ⟨a, cap, rfl, hri, q2⟩

end Go.Proofs.YtedfajokiblfhaaGreat

/- Plain math of even bodies; Stirred of both. -/
namespace Go.Proofs.YtedfajokiblfhaaGreat
open Go.RowKit

theorem nearT_even {R L : Nat} {t : Int} (r l : Int) : nearT R L (List.replicate (R * L) t) t r l = t := by
  by_cases h : 0 ≤ r ∧ r < R ∧ 0 ≤ l ∧ l < L
  · obtain ⟨p, q, rfl, rfl, hp, hq, _⟩ := idx_nat h
    have hidx := idx_lt hp hq
    unfold Cn.P at *
    rw [nearT_in ⟨by omega, by omega, by omega, by omega⟩, ← Int.natCast_mul, ← Int.natCast_add, Int.toNat_natCast]
    simp [List.getD, hidx]
  · exact nearT_out h
theorem mixT_even {R L : Nat} {A B t : Int} (r l : Nat) : mixT R L A B (List.replicate (R * L) t) t r l = t := by
  unfold mixT
  rw [nearT_even, nearT_even, nearT_even, nearT_even, nearT_even, num_const]
  exact Int.mul_ediv_cancel _ (by have := wide_pos r; omega)
theorem tickT_even {R L : Nat} {A B t : Int} : tickT R L A B (List.replicate (R * L) t) t = List.replicate (R * L) t := by
  apply List.ext_getElem (by rw [tickT_len, List.length_replicate])
  intro i h1 h2
  rw [tickT_get, mixT_even, List.getElem_replicate]
theorem minT_even {n : Nat} {t : Int} (h : 0 < n) : minT (List.replicate n t) = t := by
  have := minT_mem (List.replicate n t) (by rw [List.length_replicate]; exact h)
  exact List.eq_of_mem_replicate this
/-- An even body. -/
def evB (c : Cn) (t : Int) : Bd := (List.replicate c.P t, decide (0 < c.K) && decide (c.K ≤ t))
theorem tickS_even {c : Cn} (hc : c.Ok) (t : Int) : tickS c (evB c t) t = evB c t := by
  have hp := hc.p
  unfold tickS evB
  dsimp only
  have e : tickT c.R c.L (c.a (decide (0 < c.K) && decide (c.K ≤ t))) (c.b (decide (0 < c.K) && decide (c.K ≤ t))) (List.replicate c.P t) t = List.replicate c.P t := tickT_even
  rw [e]
  unfold brk
  rw [minT_even (by omega), Bool.or_self]
theorem evB_valid {c : Cn} {t : Int} (ho : okT t = true) : bodyV c (evB c t).1 (evB c t).2 = true := by
  refine bodyV_iff.2 ⟨by simp [evB], ?_, okL_of fun x hx => ?_⟩
  · by_cases h : c.K = 0
    · left; simp [evB, h]
    · exact .inr h
  · have := List.eq_of_mem_replicate hx
    subst this
    simpa [okT] using ho
/-- The body behind n ticks in a constant bath, which is no colder. -/
def evR (c : Cn) (t bath : Int) (n : Nat) : Bd := runS c (evB c t) (List.replicate n bath)
theorem evR_succ (c : Cn) (t bath : Int) (n : Nat) : evR c t bath (n + 1) = tickS c (evR c t bath n) bath := by
  unfold evR
  rw [List.replicate_succ', runS_append]
  rfl
theorem evR_valid {c : Cn} (hc : c.Ok) {t bath : Int} (ho : okT t = true) (hb : okT bath = true) (n : Nat) : bodyV c (evR c t bath n).1 (evR c t bath n).2 = true :=
  body_run hc (evB_valid ho) (okL_of fun x hx => by have := List.eq_of_mem_replicate hx; subst this; simpa [okT] using hb)
theorem evR_cold {c : Cn} (hK : c.K = 0) {t bath : Int} (n : Nat) : (evR c t bath n).2 = false := runS_brk hK _ _ (by simp [evB, hK])
theorem evR_le {c : Cn} (hc : c.Ok) (hK : c.K = 0) {t bath : Int} (ho : okT t = true) (hb : okT bath = true) (hle : t ≤ bath) : ∀ n, leL (evR c t bath n).1 (evR c t bath (n + 1)).1
  | 0 => by
    rw [evR_succ]
    intro i a d
    obtain ⟨a1, a2, a3⟩ := hc.ra (evR c t bath 0).2
    have h0 : (evR c t bath 0).1 = List.replicate c.P t := rfl
    have e : (evR c t bath 0).1[i] = t := by simp [h0]
    rw [e]
    have hlen : (evR c t bath 0).1.length = c.R * c.L := by rw [h0]; simp [Cn.P]
    exact (tickT_bd (lo := t) (hi := bath) a1 a2 a3 hlen (fun x hx => by rw [h0] at hx; have := List.eq_of_mem_replicate hx; omega) ⟨hle, Int.le_refl _⟩ _ (List.getElem_mem d)).1
  | n + 1 => by
    have ih := evR_le hc hK ho hb hle n
    have h1 := bodyV_iff.1 (evR_valid hc ho hb n)
    have h2 := bodyV_iff.1 (evR_valid hc ho hb (n + 1))
    have c1 := evR_cold hK (t := t) (bath := bath) n
    have c2 := evR_cold hK (t := t) (bath := bath) (n + 1)
    have e2 := evR_succ c t bath (n + 1)
    have e1 := evR_succ c t bath n
    generalize evR c t bath n = X at *
    generalize evR c t bath (n + 1) = Y at *
    obtain ⟨T, bt⟩ := X
    obtain ⟨U, bu⟩ := Y
    dsimp only at c1 c2 ih h1 h2
    subst c1 c2
    rw [e2, tickS_cold hK]
    rw [tickS_cold hK] at e1
    obtain ⟨a1, a2, a3⟩ := hc.ra false
    have e3 : U = tickT c.R c.L (c.a false) (c.b false) T bath := by have := congrArg Prod.fst e1; exact this
    have h : leL (tickT c.R c.L (c.a false) (c.b false) T bath) (tickT c.R c.L (c.a false) (c.b false) U bath) := tickT_le a1 a2 a3 h1.1 h2.1 ih (Int.le_refl _)
    rw [← e3] at h
    exact h

/-- How many places seven numbers tell of. -/
def plcs (r l a b k a2 b2 : Int) : Nat := if canB r l a b k a2 b2 then (cnOf r l a b k a2 b2).P else 0
theorem places_any (r l a b k a2 b2 : Int) (w : World) : Calls Tryz.prog 85 #[.agg #[.int .i64 r, .int .i64 l, .int .i64 a, .int .i64 b, .int .i64 k, .int .i64 a2, .int .i64 b2]] w fun e w' => e = .returned (.int .i64 (plcs r l a b k a2 b2 : Nat)) ∧ Below w.heap.size w w' := by
  cases hc : canB r l a b k a2 b2
  · rw [show plcs r l a b k a2 b2 = 0 by unfold plcs; rw [if_neg (by rw [hc]; simp)]]
    exact places_no _ _ _ _ _ _ _ _ hc
  · rw [show plcs r l a b k a2 b2 = (cnOf r l a b k a2 b2).P by unfold plcs; rw [if_pos hc]]
    obtain ⟨c, hcv, rfl, rfl, rfl, rfl, rfl, rfl, rfl⟩ := canB_cn hc
    rw [cnOf_cn]
    exact places_yes c w hcv
theorem rplaces_any (r l a b k a2 b2 : Int) (w : World) : Calls Tryz.prog 51 #[.agg #[.int .i64 r, .int .i64 l, .int .i64 a, .int .i64 b, .int .i64 k, .int .i64 a2, .int .i64 b2]] w fun e w' => e = .returned (.int .i64 (plcs r l a b k a2 b2 : Nat)) ∧ Below w.heap.size w w' := by
  cases hc : canB r l a b k a2 b2
  · rw [show plcs r l a b k a2 b2 = 0 by unfold plcs; rw [if_neg (by rw [hc]; simp)]]
    exact rplaces_no _ _ _ _ _ _ _ _ hc
  · rw [show plcs r l a b k a2 b2 = (cnOf r l a b k a2 b2).P by unfold plcs; rw [if_pos hc]]
    obtain ⟨c, hcv, rfl, rfl, rfl, rfl, rfl, rfl, rfl⟩ := canB_cn hc
    rw [cnOf_cn]
    exact rplaces_yes c w hcv
set_option maxHeartbeats 1000000 in
theorem rstir_any (r l a b k a2 b2 : Int) (w : World) : Calls Tryz.prog 22 #[.agg #[.int .i64 r, .int .i64 l, .int .i64 a, .int .i64 b, .int .i64 k, .int .i64 a2, .int .i64 b2]] w fun e w' => e = .returned (.bool ((plcs r l a b k a2 b2 : Int) == 1)) ∧ Below w.heap.size w w' := by
  obtain ⟨q, hq⟩ : ∃ q, q = (((plcs r l a b k a2 b2 : Nat) : Int) == 1) := ⟨_, rfl⟩
  rw [← hq]
  have HQ := hid hq
  clear hq
  go_enter Tryz.func22, Tryz.ntmps22
  go_wp2_with fail
  refine (rplaces_any _ _ _ _ _ _ _ _).mono ?_
  rintro e w1 ⟨rfl, hb⟩
  go_wp2_with fail
  go_ret
  exact ⟨ret_bool HQ.out.symm, balloc hb⟩
end Go.Proofs.YtedfajokiblfhaaGreat
