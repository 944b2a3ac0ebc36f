/- Walks of asked and Copy of the reference: contracts. -/
import Derived.Test.YtpkcnojcklmhmaaRn
namespace Go.Proofs.Ytpkcnojcklmhmaa
open Go.RowKit

set_option maxRecDepth 20000 in
set_option maxHeartbeats 4000000 in
theorem asked_any (r l a b k a2 b2 : Int) (w : World) (v : Value) (T : List Int) (br : Bool) (v2 : Value) (l2 : List Int) (hl : RowI w v T) (hl2 : RowI w v2 l2) :
    Calls Try.prog 45 #[.agg #[.int .i64 r, .int .i64 l, .int .i64 a, .int .i64 b, .int .i64 k, .int .i64 a2, .int .i64 b2], .agg #[v, .bool br], v2] w fun e w' => e = .returned (.int .i64 (chkE (bothB r l a b k a2 b2 T br) l2)) ∧ Below w.heap.size w w' := by
  have HL := hid (fun w1 (g : Below w.heap.size w w1) => hl.keep g)
  have hm := hl2.most
  unfold maxLen at hm
  obtain ⟨a0, cap0, rfl⟩ := hl.shape
  obtain ⟨ad, ba, o, cap, rfl, ha, hcl, _⟩ := hl2.form
  have HCL := hid (fun w1 (g : Below w.heap.size w w1) j h => keep_cell g (hcl j h))
  have HA := hid ha
  have HS := hid (r2_start (w := w) (A := #[.int .i64 r, .int .i64 l, .int .i64 a, .int .i64 b, .int .i64 k, .int .i64 a2, .int .i64 b2]) (R := #[.slice a0 T.length cap0, .bool br]))
  clear hl hl2 hcl ha
  cases hb0 : bothB r l a b k a2 b2 T br
  · have hE := hid (chkE_no l2)
    go_enter Try.func45, Try.ntmps45
    go_wp2_with fail
    refine (rvboth_any _ _ _ _ _ _ _ _ _ T _ (HL.out _ HS.out.low)).mono ?_
    rintro e w1 ⟨rfl, hb⟩
    rw [hb0]
    have H1 := hid (HS.out.keep hb)
    clear hb
    go_wp2_with fail
    go_ret
    exact ⟨ret_int hE.out.symm, H1.out.low⟩
  go_enter Try.func45, Try.ntmps45
  go_wp2_with fail
  refine (rvboth_any _ _ _ _ _ _ _ _ _ T _ (HL.out _ HS.out.low)).mono ?_
  rintro e w1 ⟨rfl, hb⟩
  rw [hb0]
  have H1 := hid (HS.out.keep hb).low
  clear hb HS
  go_wp2_with fail
  go_loopw [7] (fun i wr => ∃ n : Nat, n ≤ l2.length ∧ i = .int .i64 (n : Int) ∧ Hid (∀ j (hj : j < l2.length), j < n → okT l2[j] = true) ∧ Hid (Below w.heap.size w wr)) (fun i _ => l2.length - (intOf i).toNat)
  case atStart => exact ⟨0, Nat.zero_le _, rfl, hid (fun j _ h => absurd h (Nat.not_lt_zero _)), H1⟩
  case round =>
    obtain ⟨n, hn, rfl, HK, HB⟩ := hrel
    by_cases hlt : n < l2.length
    · have hlt' : (n : Int) < l2.length := by omega
      obtain rfl : ad = some ⟨ba, o, none⟩ := HA.out.resolve_left (by rintro rfl; exact absurd hlt (Nat.not_lt_zero _))
      have ex := HCL.out _ HB.out n hlt
      cases hok : okT l2[n]
      · have HE := hid (chkE_bad (okL_bad hlt hok))
        generalize l2[n] = t at ex hok
        have HW := hid (show (decide (-50000 ≤ t) && decide (t ≤ 200000)) = false from hok)
        clear hok
        go_wp2_with (go_at_call 63; refine (warm_any _ _).mono ?_; rintro e w' ⟨rfl, rfl⟩; rw [HW.out])
        go_ret
        exact ⟨ret_int HE.out.symm, HB.out⟩
      · have HK2 := hid (show ∀ j (hj : j < l2.length), j < n + 1 → okT l2[j] = true from fun j hj h => by
          by_cases e : j = n
          · subst e; exact hok
          · exact HK.out j hj (by omega))
        generalize l2[n] = t at ex hok
        have HW := hid (show (decide (-50000 ≤ t) && decide (t ≤ 200000)) = true from hok)
        clear hok
        go_wp2_with (go_at_call 63; refine (warm_any _ _).mono ?_; rintro e w' ⟨rfl, rfl⟩; rw [HW.out])
        go_roundw
        case rel => exact ⟨n + 1, by omega, by go_num, HK2, HB⟩
        case measure => simp [intOf]; omega
    · obtain rfl : n = l2.length := by omega
      have ho := okL_end HK.out rfl
      by_cases g : 2000 < l2.length
      · have HE := hid (chkE_long ho g)
        have g' : (2000 : Int) < l2.length := by omega
        go_wp2_with fail
        go_ret
        exact ⟨ret_int HE.out.symm, HB.out⟩
      · have HE := hid (chkE_ok ho g)
        have g' : ¬ (2000 : Int) < l2.length := by omega
        go_wp2_with fail
        go_ret
        exact ⟨ret_int HE.out.symm, HB.out⟩
/-- The boxes of Copy. -/
structure RC (w w1 : World) (A B : Array Value) : Prop where
  bod : w1.heap[w.heap.size]? = some (.cells A 26 (0, 0))
  res : w1.heap[w.heap.size + 1]? = some (.cells B 26 (0, 0))
  low : Below w.heap.size w w1
theorem rc_start {w : World} {A B : Array Value} : RC w ((w.alloc (.cells A 26)).alloc (.cells B 26)) A B :=
  ⟨heap_alloc2_old w _ _, heap_alloc2_new w _ _, ((Below.refl _ _).alloc (Nat.le_refl _) _).alloc (by simp) _⟩
theorem RC.keep {w w1 w2 : World} {A B : Array Value} (h : RC w w1 A B) (hb : Below w1.heap.size w1 w2) : RC w w2 A B :=
  ⟨(hb.block _ (lt_of_block h.bod)).trans h.bod, (hb.block _ (lt_of_block h.res)).trans h.res, bstep h.low h.low.size hb⟩
theorem RC.app {w W W' : World} {A B : Array Value} {v v' : Value} {xs : List Value} {l : List Int} (h : RC w W A B) (hown : W.ownsRow (w.heap.size + 2) 3 1 v xs.length xs) (hA : AppP W (w.heap.size + 2) 3 v xs l v' W') : RC w W' A B := by
  have hne : ∀ b, b < w.heap.size + 2 → some b ≠ v.ownBlock := fun b hb e => by have := (World.ownsRow.lt hown b e.symm).1; omega
  exact ⟨(hA.2.1.block _ (lt_of_block h.bod) (hne _ (by omega))).trans h.bod, (hA.2.1.block _ (lt_of_block h.res) (hne _ (by omega))).trans h.res, h.low.grown hA.2.1 h.low.size (fun k hk => by have := (World.ownsRow.lt hown k hk).1; omega)⟩
theorem RC.set0 {w W : World} {B : Array Value} {u0 br u : Value} (h : RC w W #[u0, br] B) : RC w (W.setCell ⟨w.heap.size, 0, none⟩ u) #[u, br] B :=
  ⟨heap_setCell_same W _ 0 _ _ u h.bod, (heap_setCell_other _ _ _ _ (show w.heap.size + 1 ≠ w.heap.size by omega)).trans h.res, h.low.setCell (p := ⟨w.heap.size, 0, none⟩) (Nat.le_refl _) u⟩
theorem RC.fin {w W : World} {A : Array Value} {d0 d1 u v : Value} (h : RC w W A #[d0, d1]) : RC w ((W.setCell ⟨w.heap.size + 1, 0, none⟩ u).setCell ⟨w.heap.size + 1, 1, none⟩ v) A #[u, v] := by
  have h1 := heap_setCell_same W (w.heap.size + 1) 0 _ _ u h.res
  have h2 := heap_setCell_same _ (w.heap.size + 1) 1 _ _ v h1
  refine ⟨?_, h2, (h.low.setCell (p := ⟨w.heap.size + 1, 0, none⟩) (Nat.le_succ _) u).setCell (p := ⟨w.heap.size + 1, 1, none⟩) (Nat.le_succ _) v⟩
  rw [heap_setCell_other _ _ _ _ (show w.heap.size ≠ w.heap.size + 1 by omega), heap_setCell_other _ _ _ _ (show w.heap.size ≠ w.heap.size + 1 by omega)]
  exact h.bod
theorem RC.four {w W : World} {a0 a1 b0 b1 : Value} (h : RC w W #[a0, a1] #[b0, b1]) : W.cell? ⟨w.heap.size, 0, none⟩ = some a0 ∧ W.cell? ⟨w.heap.size, 1, none⟩ = some a1 ∧ W.cell? ⟨w.heap.size + 1, 0, none⟩ = some b0 ∧ W.cell? ⟨w.heap.size + 1, 1, none⟩ = some b1 ∧
    W.frozen? ⟨w.heap.size, 0, none⟩ = false ∧ W.frozen? ⟨w.heap.size + 1, 0, none⟩ = false ∧ W.frozen? ⟨w.heap.size + 1, 1, none⟩ = false :=
  ⟨cell_of_row _ _ 0 _ _ _ h.bod, cell_of_row _ _ 1 _ _ _ h.bod, cell_of_row _ _ 0 _ _ _ h.res, cell_of_row _ _ 1 _ _ _ h.res, frozen_of_row _ _ 0 _ _ h.bod, frozen_of_row _ _ 0 _ _ h.res, frozen_of_row _ _ 1 _ _ h.res⟩
set_option maxRecDepth 20000 in
set_option maxHeartbeats 4000000 in
theorem copy_any (v : Value) (T : List Int) (br : Bool) (w : World) (hl : RowI w v T) (h48 : T.length ≤ 1000) :
    Calls Try.prog 51 #[.agg #[v, .bool br]] w fun e w' => ∃ (ua : Option Addr) (uc : Nat), e = .returned (.agg #[.slice ua T.length uc, .bool br]) ∧ RowI w' (.slice ua T.length uc) T ∧ (∀ ad, ua = some ad → w.heap.size ≤ ad.block) ∧ Below w.heap.size w w' := by
  have HL := hid (fun w1 (g : Below w.heap.size w w1) => hl.keep g)
  obtain ⟨a0, cap, rfl⟩ := hl.shape
  obtain ⟨i0, hi, hz0, hz1, hz2⟩ := info_parts infoIf
  have HS := hid (rc_start (w := w) (A := #[.slice a0 T.length cap, .bool br]) (B := #[.slice none 0 0, .bool false]))
  obtain ⟨k0, k1, k2, k3, k4, k5, k6⟩ := HS.out.four
  clear hl
  go_enter Try.func51, Try.ntmps51
  go_wp2_with (at_builtin; refine wpList_app rfl _ _ 24 rfl (w.heap.size + 2) 3 i0 Try.underlying24 hi hz0 hz1 hz2 _ [] rfl (own_at rfl (by simp) (Nat.le_refl _)) (.slice a0 T.length cap) T rfl (RowI.src (HL.out _ (HS.out.low.alloc HS.out.low.size _))) (by simp; omega) (by simp) ?_; intro v1 w3 hA; have HS3 := hid ((HS.out.keep ((Below.refl _ _).alloc (Nat.le_refl _) _)).app (own_at rfl (by simp) (Nat.le_refl _)) hA); have ho3 := app_first hA; obtain ⟨a3, c3, rfl⟩ := own_shape ho3; rw [ivs_len] at ho3 ⊢; have HO3 := hid ho3; clear ho3 hA k0 k1 k2 k3 k4 k5 k6; obtain ⟨k0, k1, k2, k3, k4, k5, k6⟩ := HS3.out.four)
  have H4 := (HS3.out.set0 (u := .slice a3 T.length c3)).fin (u := .slice a3 T.length c3) (v := .bool br)
  obtain ⟨_, _, c6, c7, _⟩ := H4.four
  have hown := own_set (m := w.heap.size + 1) (j := 1) (u := .bool br) (own_set (m := w.heap.size + 1) (j := 0) (u := .slice a3 T.length c3) (own_set (m := w.heap.size) (j := 0) (u := .slice a3 T.length c3) HO3.out (by omega)) (by omega)) (by omega)
  exact bodyPost_ret (v := .agg #[.slice a3 T.length c3, .bool br]) (by simp [results, Try.results51, go_sem, c6, c7]) rfl ⟨a3, c3, rfl, own_rowI hown (by omega), fun ad e => by have := own_from hown ad e; omega, H4.low⟩
end Go.Proofs.Ytpkcnojcklmhmaa
