/- Walks of DateOf, Weekday, OfYear, ValidDate, DayOf: contracts. -/
import Derived.Test.YtmhkgpcnefcjaaaDoorDo
namespace Go.Proofs.YtmhkgpcnefcjaaaDoor
open Go.RowKit

/-- A box of cells, in a world that is w but for what is new. -/
structure Bx (w W : World) (b : Nat) (T : TypeId) (cs : Array Value) : Prop where
  row : W.heap[b]? = some (.cells cs T (0, 0))
  new : w.heap.size ≤ b
  low : Below w.heap.size w W
theorem bx_lt {w W : World} {b : Nat} {T : TypeId} {cs : Array Value} (h : Bx w W b T cs) : b < W.heap.size := (Array.getElem?_eq_some_iff.1 h.row).1
theorem Bx.keep {w W w2 : World} {b : Nat} {T : TypeId} {cs : Array Value} (h : Bx w W b T cs) (hb : Below W.heap.size W w2) : Bx w w2 b T cs :=
  ⟨(hb.block _ (bx_lt h)).trans h.row, h.new, bstep h.low h.low.size hb⟩
theorem bx_new (w : World) (T : TypeId) (cs : Array Value) : Bx w (w.alloc (.cells cs T)) w.heap.size T cs := ⟨heap_alloc_new _ _, Nat.le_refl _, (Below.refl _ _).alloc (Nat.le_refl _) _⟩
theorem Bx.cell {w W : World} {b : Nat} {T : TypeId} {cs : Array Value} (h : Bx w W b T cs) (k : Nat) : W.cell? ⟨b, k, none⟩ = cs[k]? := cell_of_row _ _ k _ _ _ h.row
theorem Bx.frz {w W : World} {b : Nat} {T : TypeId} {cs : Array Value} (h : Bx w W b T cs) (k : Nat) : W.frozen? ⟨b, k, none⟩ = false := by
  have := frozen_of_row W b k _ _ h.row
  simpa using this
theorem Bx.set {w W : World} {b : Nat} {T : TypeId} {cs : Array Value} (h : Bx w W b T cs) (k : Nat) (u : Value) {ms : Array Value} (e : cs.setIfInBounds k u = ms) : Bx w (W.setCell ⟨b, k, none⟩ u) b T ms :=
  ⟨by rw [← e]; exact heap_setCell_same _ _ _ _ _ _ h.row, h.new, h.low.setCell (p := ⟨b, k, none⟩) h.new _⟩
theorem Bx.other {w W : World} {b b2 : Nat} {T : TypeId} {cs : Array Value} (h : Bx w W b T cs) (hne : b ≠ b2) (h2 : w.heap.size ≤ b2) (k : Nat) (u : Value) : Bx w (W.setCell ⟨b2, k, none⟩ u) b T cs :=
  ⟨(heap_setCell_other _ _ _ _ hne).trans h.row, h.new, h.low.setCell (p := ⟨b2, k, none⟩) h2 _⟩
theorem Bx.three {w W : World} {b : Nat} {T : TypeId} {x y z : Value} (h : Bx w W b T #[x, y, z]) : W.cell? ⟨b, 0, none⟩ = some x ∧ W.cell? ⟨b, 1, none⟩ = some y ∧ W.cell? ⟨b, 2, none⟩ = some z := ⟨h.cell 0, h.cell 1, h.cell 2⟩
theorem Bx.put3 {w W : World} {b : Nat} {T : TypeId} {x y z : Value} (u v t : Value) (h : Bx w W b T #[x, y, z]) : Bx w (((W.setCell ⟨b, 0, none⟩ u).setCell ⟨b, 1, none⟩ v).setCell ⟨b, 2, none⟩ t) b T #[u, v, t] :=
  ((h.set 0 u (ms := #[u, y, z]) rfl).set 1 v (ms := #[u, v, z]) rfl).set 2 t (ms := #[u, v, t]) rfl
theorem isDate_le {n y m d : Int} (h : IsDate n y m d) : dB y m ≤ n - soY y ∧ n - soY y < dB y (m + 1) := by
  obtain ⟨_, a1, a2, a3, a4, a5⟩ := h
  have := dB_succ (y := y) a1 a2
  omega
theorem dB_le {y m k : Int} (h : 1 ≤ m) (hk : m ≤ k) (h13 : k ≤ 13) : dB y m ≤ dB y k := by
  rcases Int.lt_or_eq_of_le hk with h1 | h1
  · have := dB_mono (y := y) h h1 h13; omega
  · subst h1; omega
theorem dB_bd {y m : Int} (h : 1 ≤ m) (h13 : m ≤ 13) : 0 ≤ dB y m ∧ dB y m ≤ 366 := by
  have a := dB_le (y := y) (m := 1) (k := m) (by omega) h h13
  have b := dB_le (y := y) (m := m) (k := 13) h h13 (by omega)
  rw [dB_1] at a
  rw [dB_13, ylen_lp] at b
  rcases lp_01 y with ⟨_, h2⟩ | ⟨_, h2⟩ <;> omega
set_option maxRecDepth 100000 in
set_option maxHeartbeats 2000000 in
theorem cdate_ok (n y m d : Int) (w : World) (h : IsDate n y m d) :
    Calls Tryd.prog 33 #[.int .i64 n] w fun e w' => e = .returned (.tuple #[.agg #[.int .i64 y, .int .i64 m, .int .i64 d], .int .i64 0]) ∧ Below w.heap.size w w' := by
  have H := hid h
  obtain ⟨n1, n2⟩ := isYear_nn h.1
  have HIN := hid (show inB n 0 73048 = true from inB_iff.2 ⟨n1, n2⟩)
  have HY := hid h.1
  obtain ⟨L, hL⟩ : ∃ L, L = n - soY y := ⟨_, rfl⟩
  have HLQ := hid hL
  have HLE := hid (isDate_le h)
  rw [← hL] at HLE
  have hLb : 0 ≤ L ∧ L ≤ 400 := by
    have h1 := (dB_bd (y := y) h.2.1 (by have := h.2.2.1; omega)).1
    have h2 := (dB_bd (y := y) (m := m + 1) (by have := h.2.1; omega) (by have := h.2.2.1; omega)).2
    have := HLE.out
    omega
  have HD := hid (show d = L - dB y m + 1 by rw [hL]; have := h.2.2.2.2.2; omega)
  have HB := hid (bx_new w 61 #[.int .i64 0, .int .i64 0, .int .i64 0])
  have m1 := h.2.1
  have m2 := h.2.2.1
  have y1 := h.1.1
  have y2 := h.1.2.1
  clear h hL
  go_enter Tryd.func33, Tryd.ntmps33
  go_wp2_with (first
    | (go_at_call 58; refine (isday_any _ _).mono ?_; rintro e w' ⟨rfl, rfl⟩; rw [HIN.out])
    | (go_at_call 60; refine (yearof_any _ y _ HY.out).mono ?_; rintro e w' ⟨rfl, rfl⟩; rw [← HLQ.out]))
  go_loop [6] (fun t => ∃ k : Int, 1 ≤ k ∧ k ≤ m ∧ t = .int .i64 k) (fun t => (m - intOf t).toNat)
  case atStart => exact ⟨1, by omega, m1, rfl⟩
  case round =>
    obtain ⟨k, g1, g2, rfl⟩ := hrel
    by_cases hlt : k < m
    · have hle : dB y (k + 1) ≤ L := by
        have := dB_le (y := y) (m := k + 1) (k := m) (by omega) (by omega) (by omega)
        have := HLE.out.1
        omega
      have HLT := hid hlt
      clear hlt
      go_wp2_with (go_at_call 61; refine (before_any _ _ _ (by omega) (by omega)).mono ?_; rintro e w' ⟨rfl, rfl⟩)
      go_round
      case rel => exact ⟨k + 1, by omega, by have := HLT.out; omega, by go_num⟩
      case measure => have := HLT.out; simp [intOf]; omega
    · obtain rfl : k = m := by omega
      have hle : ¬ dB y (k + 1) ≤ L := by have := HLE.out.2; omega
      have hb := dB_bd (y := y) (m := k) (by omega) (by omega)
      have hd : L - dB y k + 1 = d := HD.out.symm
      clear hlt
      go_wp2_with (go_at_call 61; refine (before_any _ _ _ (by omega) (by omega)).mono ?_; rintro e w' ⟨rfl, rfl⟩)
      refine bodyPost_ret (v := .tuple #[.agg #[.int .i64 y, .int .i64 k, .int .i64 d], .int .i64 0]) (by simp [results, Tryd.results33, go_sem]) rfl ⟨rfl, ?_⟩
      exact (Below.refl _ _).alloc (Nat.le_refl _) _
set_option maxRecDepth 100000 in
set_option maxHeartbeats 2000000 in
theorem cdate_bad (n : Int) (w : World) (h : inB n 0 73048 = false) :
    Calls Tryd.prog 33 #[.int .i64 n] w fun e w' => e = .returned (.tuple #[.agg #[.int .i64 0, .int .i64 0, .int .i64 0], .int .i64 7]) ∧ Below w.heap.size w w' := by
  have H := hid h
  clear h
  go_enter Tryd.func33, Tryd.ntmps33
  go_wp2_with (go_at_call 58; refine (isday_any _ _).mono ?_; rintro e w' ⟨rfl, rfl⟩; rw [H.out])
  refine bodyPost_ret (v := .tuple #[.agg #[.int .i64 0, .int .i64 0, .int .i64 0], .int .i64 7]) (by simp [results, Tryd.results33, go_sem]) rfl ⟨rfl, ?_⟩
  exact (Below.refl _ _).alloc (Nat.le_refl _) _
set_option maxRecDepth 100000 in
set_option maxHeartbeats 2000000 in
theorem cweekday_any (n : Int) (w : World) :
    Calls Tryd.prog 34 #[.int .i64 n] w fun e w' => e = .returned (if inB n 0 73048 = true then .tuple #[.int .i64 ((5 + n) % 7), .int .i64 0] else .tuple #[.int .i64 0, .int .i64 7]) ∧ w' = w := by
  cases h : inB n 0 73048
  · have H := hid h
    clear h
    go_enter Tryd.func34, Tryd.ntmps34
    go_wp2_with (go_at_call 58; refine (isday_any _ _).mono ?_; rintro e w' ⟨rfl, rfl⟩; rw [H.out])
    go_ret2
    exact ⟨rfl, rfl⟩
  · have H := hid h
    obtain ⟨n1, n2⟩ := inB_iff.1 h
    clear h
    go_enter Tryd.func34, Tryd.ntmps34
    go_wp2_with (go_at_call 58; refine (isday_any _ _).mono ?_; rintro e w' ⟨rfl, rfl⟩; rw [H.out])
    go_ret2
    exact ⟨rfl, rfl⟩
end Go.Proofs.YtmhkgpcnefcjaaaDoor
