/- Walk of Shifted of the reference: contract. -/
import Derived.Test.YtpkcnojcklmhmaaEf
import Derived.Deep.DeepCutAuto
namespace Go.Proofs.Ytpkcnojcklmhmaa
open Go.RowKit

/-- Four boxes behind one another: a can, a body, the body that comes back, the body that is filled. -/
structure R4 (w : World) (n8 : Nat) (w1 : World) (A B R S : Array Value) : Prop where
  can : w1.heap[w.heap.size]? = some (.cells A 23 (0, 0))
  bod : w1.heap[w.heap.size + 1]? = some (.cells B 26 (0, 0))
  res : w1.heap[w.heap.size + 1 + 1]? = some (.cells R 26 (0, 0))
  out : w1.heap[n8]? = some (.cells S 26 (0, 0))
  h8 : w.heap.size + 1 + 1 < n8
  low : Below w.heap.size w w1
/-- The same, whatever the filled body's slice is. -/
def R4e (w : World) (n8 : Nat) (w1 : World) (A B : Array Value) (br : Value) : Prop := ∃ u0, R4 w n8 w1 A B #[.slice none 0 0, .bool false] #[u0, br]
section
variable {w W W' : World} {n8 : Nat} {A B R S : Array Value} {br u0 u : Value}
theorem R4.app {v v' : Value} {xs : List Value} {l : List Int} (h : R4 w n8 W A B R S) (hown : W.ownsRow (n8 + 1) 3 1 v xs.length xs) (hA : AppP W (n8 + 1) 3 v xs l v' W') : R4 w n8 W' A B R S := by
  have hne : ∀ b, b < n8 + 1 → some b ≠ v.ownBlock := fun b hb e => by have := (World.ownsRow.lt hown b e.symm).1; omega
  have h8 := h.h8
  exact ⟨(hA.2.1.block _ (lt_of_block h.can) (hne _ (by omega))).trans h.can, (hA.2.1.block _ (lt_of_block h.bod) (hne _ (by omega))).trans h.bod, (hA.2.1.block _ (lt_of_block h.res) (hne _ (by omega))).trans h.res, (hA.2.1.block _ (lt_of_block h.out) (hne _ (by omega))).trans h.out, h8, h.low.grown hA.2.1 h.low.size (fun k hk => by have := (World.ownsRow.lt hown k hk).1; omega)⟩
theorem R4.keep (h : R4 w n8 W A B R S) (hb : Below W.heap.size W W') : R4 w n8 W' A B R S :=
  ⟨(hb.block _ (lt_of_block h.can)).trans h.can, (hb.block _ (lt_of_block h.bod)).trans h.bod, (hb.block _ (lt_of_block h.res)).trans h.res, (hb.block _ (lt_of_block h.out)).trans h.out, h.h8, bstep h.low h.low.size hb⟩
theorem R4.set0 (h : R4 w n8 W A B R #[u0, br]) : R4 w n8 (W.setCell ⟨n8, 0, none⟩ u) A B R #[u, br] := by
  have h8 := h.h8
  exact ⟨(heap_setCell_other _ _ _ _ (show w.heap.size ≠ n8 by omega)).trans h.can, (heap_setCell_other _ _ _ _ (show w.heap.size + 1 ≠ n8 by omega)).trans h.bod, (heap_setCell_other _ _ _ _ (show w.heap.size + 1 + 1 ≠ n8 by omega)).trans h.res, heap_setCell_same W n8 0 _ _ u h.out, h8, h.low.setCell (p := ⟨n8, 0, none⟩) (by show w.heap.size ≤ n8; omega) u⟩
theorem R4.r3 (h : R4 w n8 W A B R S) : R3 w W A B R := ⟨h.can, h.bod, h.res, h.low⟩
theorem R4e.keep (h : R4e w n8 W A B br) (hb : Below W.heap.size W W') : R4e w n8 W' A B br := by obtain ⟨u, h⟩ := h; exact ⟨u, h.keep hb⟩
theorem R4e.set0 (h : R4e w n8 W A B br) : R4e w n8 (W.setCell ⟨n8, 0, none⟩ u) A B br := by obtain ⟨u', h⟩ := h; exact ⟨u, h.set0⟩
theorem R4e.app {v v' : Value} {xs : List Value} {l : List Int} (h : R4e w n8 W A B br) (hown : W.ownsRow (n8 + 1) 3 1 v xs.length xs) (hA : AppP W (n8 + 1) 3 v xs l v' W') : R4e w n8 W' A B br := by obtain ⟨u, h⟩ := h; exact ⟨u, h.app hown hA⟩
theorem R4e.low (h : R4e w n8 W A B br) : Below w.heap.size w W := by obtain ⟨u, h⟩ := h; exact h.low
end
theorem R4.facts {w W : World} {n8 : Nat} {A : Array Value} {b0 b1 d0 d1 e0 e1 : Value} (h : R4 w n8 W A #[b0, b1] #[d0, d1] #[e0, e1]) :
    W.cell? ⟨w.heap.size + 1, 0, none⟩ = some b0 ∧ W.cell? ⟨w.heap.size + 1, 1, none⟩ = some b1 ∧ W.cell? ⟨w.heap.size + 1 + 1, 0, none⟩ = some d0 ∧ W.cell? ⟨w.heap.size + 1 + 1, 1, none⟩ = some d1 ∧ W.frozen? ⟨w.heap.size + 1 + 1, 0, none⟩ = false ∧ W.frozen? ⟨w.heap.size + 1 + 1, 1, none⟩ = false ∧
    W.cell? ⟨n8, 0, none⟩ = some e0 ∧ W.cell? ⟨n8, 1, none⟩ = some e1 ∧ W.frozen? ⟨n8, 0, none⟩ = false ∧ W.frozen? ⟨n8, 1, none⟩ = false ∧ n8 < W.heap.size :=
  ⟨cell_of_row _ _ 0 _ _ _ h.bod, cell_of_row _ _ 1 _ _ _ h.bod, cell_of_row _ _ 0 _ _ _ h.res, cell_of_row _ _ 1 _ _ _ h.res, frozen_of_row _ _ 0 _ _ h.res, frozen_of_row _ _ 1 _ _ h.res, cell_of_row _ _ 0 _ _ _ h.out, cell_of_row _ _ 1 _ _ _ h.out, frozen_of_row _ _ 0 _ _ h.out, frozen_of_row _ _ 1 _ _ h.out, lt_of_block h.out⟩

theorem okL_map_bad {T : List Int} {s : Int} {n : Nat} (h : n < T.length) (g : okT (T[n] + s) = false) : okL (T.map (· + s)) = false := okL_bad (k := n) (by rw [List.length_map]; exact h) (by rw [List.getElem_map]; exact g)
theorem okL_map_step {T : List Int} {s : Int} {n : Nat} (h : n < T.length) (g : okL ((T.take n).map (· + s)) = true) (g2 : okT (T[n] + s) = true) : okL ((T.take (n + 1)).map (· + s)) = true := by
  rw [show T.take (n + 1) = T.take n ++ [T[n]] by rw [List.take_add_one, List.getElem?_eq_getElem h]; rfl, List.map_append, okL_append, g]
  simp [okL, g2]
theorem map_step {T : List Int} {s : Int} {n : Nat} (h : n < T.length) : (T.take n).map (· + s) ++ [T[n] + s] = (T.take (n + 1)).map (· + s) := by
  rw [show T.take (n + 1) = T.take n ++ [T[n]] by rw [List.take_add_one, List.getElem?_eq_getElem h]; rfl, List.map_append]
  rfl
/-- What the region of the append stands on. -/
def RawSh (w : World) (n8 b' o' n cap len : Nat) (t : Int) (A : Array Value) (br : Bool) (w1 : World) : Prop := w1.cell? ⟨w.heap.size + 1, 0, none⟩ = some (.slice (some ⟨b', o', none⟩) len cap) ∧ w1.cell? ⟨b', o' + n, none⟩ = some (.int .i64 t) ∧ R4e w n8 w1 A #[.slice (some ⟨b', o', none⟩) len cap, .bool br] (.bool br)
theorem rawSh {w W : World} {n8 b' o' n cap len : Nat} {t : Int} {A : Array Value} {br : Bool} (hx : ∀ w1, Below w.heap.size w w1 → w1.cell? ⟨b', o' + n, none⟩ = some (.int .i64 t)) (h : R4e w n8 W A #[.slice (some ⟨b', o', none⟩) len cap, .bool br] (.bool br)) : RawSh w n8 b' o' n cap len t A br W :=
  ⟨by obtain ⟨u, h⟩ := h; exact cell_of_row _ _ 0 _ _ _ h.bod, hx _ h.low, h⟩
set_option maxRecDepth 100000 in
set_option maxHeartbeats 4000000 in
theorem rshifted_all (r l a b k a2 b2 : Int) (w : World) (v : Value) (T : List Int) (br : Bool) (s : Int) (hl : RowI w v T) :
    Calls Try.prog 34 #[.agg #[.int .i64 r, .int .i64 l, .int .i64 a, .int .i64 b, .int .i64 k, .int .i64 a2, .int .i64 b2], .agg #[v, .bool br], .int .i64 s] w (OutB (shiftO r l a b k a2 b2 (T, br) s) w) := by
  have HL := hid (fun w1 (g : Below w.heap.size w w1) => hl.keep g)
  cases hbb : bothB r l a b k a2 b2 T br
  · obtain ⟨a0, cap, rfl⟩ := hl.shape
    have HS := hid (r3_start (w := w) (A := #[.int .i64 r, .int .i64 l, .int .i64 a, .int .i64 b, .int .i64 k, .int .i64 a2, .int .i64 b2]) (B := #[.slice a0 T.length cap, .bool br]) (R := #[.slice none 0 0, .bool false]))
    clear hl
    rw [shiftO_can hbb]
    go_enter Try.func34, Try.ntmps34
    go_wp2_with fail
    refine (rvboth_any _ _ _ _ _ _ _ _ _ T _ (HL.out _ HS.out.low)).mono ?_
    rintro e w1 ⟨rfl, hb⟩
    rw [hbb]
    have H1 := hid (HS.out.keep hb)
    have k0 := H1.out.cell.2.2.1 0; have k1 := H1.out.cell.2.2.1 1; have k2 := H1.out.cell.2.2.2 0; have k3 := H1.out.cell.2.2.2 1
    simp only [List.getElem?_toArray, List.getElem?_cons_zero, List.getElem?_cons_succ] at k0 k1
    go_wp2_with fail
    obtain ⟨c6, c7, c9⟩ := H1.out.nil (u := .slice none 0 0) (v := .bool false)
    exact bodyPost_ret (v := .tuple #[.agg #[.slice none 0 0, .bool false], .int .i64 1]) (by simp [results, Try.results34, go_sem, c6, c7]) rfl (outB_nil rfl c9)
  cases hfar : (decide (-250000 ≤ s) && decide (s ≤ 250000))
  · obtain ⟨a0, cap, rfl⟩ := hl.shape
    have HS := hid (r3_start (w := w) (A := #[.int .i64 r, .int .i64 l, .int .i64 a, .int .i64 b, .int .i64 k, .int .i64 a2, .int .i64 b2]) (B := #[.slice a0 T.length cap, .bool br]) (R := #[.slice none 0 0, .bool false]))
    clear hl
    rw [shiftO_far hbb hfar]
    go_enter Try.func34, Try.ntmps34
    go_wp2_with fail
    refine (rvboth_any _ _ _ _ _ _ _ _ _ T _ (HL.out _ HS.out.low)).mono ?_
    rintro e w1 ⟨rfl, hb⟩
    rw [hbb]
    have H1 := hid (HS.out.keep hb)
    have k0 := H1.out.cell.2.2.1 0; have k1 := H1.out.cell.2.2.1 1; have k2 := H1.out.cell.2.2.2 0; have k3 := H1.out.cell.2.2.2 1
    simp only [List.getElem?_toArray, List.getElem?_cons_zero, List.getElem?_cons_succ] at k0 k1
    go_wp2_with (go_at_call 59; refine (rwithin_any _ _ _ _).mono ?_; rintro e w' ⟨rfl, rfl⟩)
    obtain ⟨c6, c7, c9⟩ := H1.out.nil (u := .slice none 0 0) (v := .bool false)
    exact bodyPost_ret (v := .tuple #[.agg #[.slice none 0 0, .bool false], .int .i64 7]) (by simp [results, Try.results34, go_sem, c6, c7]) rfl (outB_nil rfl c9)
  have hT : 0 < T.length ∧ T.length ≤ 48 ∧ okL T = true := by
    obtain ⟨c, hcv, _, hbv, hwm⟩ := both_open hbb
    obtain ⟨h1, _, h3⟩ := bodyV_iff.1 hbv
    have := hcv.ok.p
    exact ⟨by omega, by omega, h3⟩
  obtain ⟨hT0, hT48, hTo⟩ := hT
  have HTB := hid (okL_bd hTo)
  have hs : -250000 ≤ s ∧ s ≤ 250000 := by simpa using hfar
  obtain ⟨hs1, hs2⟩ := hs
  have HO0 := hid (And.intro hbb hfar)
  obtain ⟨b', o', cap, rfl, hc⟩ := hl.some hT0
  have HC := hid (fun w1 (g : Below w.heap.size w w1) j h => keep_cell g (hc j h))
  have HS := hid (r3_start (w := w) (A := #[.int .i64 r, .int .i64 l, .int .i64 a, .int .i64 b, .int .i64 k, .int .i64 a2, .int .i64 b2]) (B := #[.slice (some ⟨b', o', none⟩) T.length cap, .bool br]) (R := #[.slice none 0 0, .bool false]))
  obtain ⟨i0, hi, hz0, hz1', hz2'⟩ := info_parts infoIf
  clear hTo hc hl
  go_enter Try.func34, Try.ntmps34
  go_wp2_with fail
  refine (rvboth_any _ _ _ _ _ _ _ _ _ T _ (HL.out _ HS.out.low)).mono ?_
  rintro e w1 ⟨rfl, hb⟩
  rw [hbb]
  have H1 := hid (HS.out.keep hb)
  have k2 := H1.out.cell.2.1 0; have k3 := H1.out.cell.2.1 1
  simp only [List.getElem?_toArray, List.getElem?_cons_zero, List.getElem?_cons_succ] at k2 k3
  clear hb
  go_wp2_with (go_at_call 59; refine (rwithin_any _ _ _ _).mono ?_; rintro e w' ⟨rfl, rfl⟩)
  obtain ⟨n8, hn8⟩ : ∃ n, n = w1.heap.size := ⟨_, rfl⟩
  have h8 : w.heap.size + 1 + 1 < n8 := by rw [hn8]; exact lt_of_block H1.out.res
  have HB8 := hid (Below.alloc (Below.refl _ w1) (Nat.le_refl _) (.cells #[.slice none 0 0, .bool br] 26))
  have HR0 := hid (show R4 w n8 (w1.alloc (.cells #[.slice none 0 0, .bool br] 26)) #[.int .i64 r, .int .i64 l, .int .i64 a, .int .i64 b, .int .i64 k, .int .i64 a2, .int .i64 b2] #[.slice (some ⟨b', o', none⟩) T.length cap, .bool br] #[.slice none 0 0, .bool false] #[.slice none 0 0, .bool br] from ⟨(H1.out.keep HB8.out).can, (H1.out.keep HB8.out).bod, (H1.out.keep HB8.out).res, by rw [hn8]; exact heap_alloc_new w1 _, h8, (H1.out.keep HB8.out).low⟩)
  rw [← hn8]
  clear hn8 k2 k3
  go_loopw [9] (fun i wr => ∃ n : Nat, n ≤ T.length ∧ i = .int .i64 (n : Int) ∧ Hid (okL ((T.take n).map (· + s)) = true) ∧ ∃ (a' : Option Addr) (c' : Nat), Hid (R4 w n8 wr #[.int .i64 r, .int .i64 l, .int .i64 a, .int .i64 b, .int .i64 k, .int .i64 a2, .int .i64 b2] #[.slice (some ⟨b', o', none⟩) T.length cap, .bool br] #[.slice none 0 0, .bool false] #[.slice a' n c', .bool br]) ∧ Hid (wr.ownsRow (n8 + 1) 3 1 (.slice a' n c') (ivs ((T.take n).map (· + s))).length (ivs ((T.take n).map (· + s))))) (fun i _ => T.length - (intOf i).toNat)
  case atStart => exact ⟨0, Nat.zero_le _, rfl, rfl, none, 0, HR0, World.ownsRow_nil _ _ _ _⟩
  case round =>
    obtain ⟨n, hn, rfl, HOK, a', c', HR, HO⟩ := hrel
    obtain ⟨k0, k1, d0, d1, f0, f1, e0, e1, g0, g1, hz⟩ := HR.out.facts
    by_cases hlt : n < T.length
    · have hlt' : (n : Int) < T.length := by omega
      have ex := HC.out _ HR.out.low n hlt
      have HX := hid (fun w1 g => HC.out w1 g n hlt)
      have hbd := HTB.out T[n] (List.getElem_mem hlt)
      cases hok : okT (T[n] + s)
      · have HE := hid (shiftO_bad (x := (T, br)) HO0.out.1 HO0.out.2 (okL_map_bad hlt hok))
        clear HX
        generalize T[n] = t at ex hbd hok
        obtain ⟨hb1, hb2⟩ := hbd
        have HOK2 := hid (show (decide (-50000 ≤ t + s) && decide (t + s ≤ 200000)) = false from hok)
        clear hok
        go_wp2_with (go_at_call 63; refine (warm_any _ _).mono ?_; rintro e w' ⟨rfl, rfl⟩; rw [HOK2.out])
        obtain ⟨c6, c7, c9⟩ := HR.out.r3.nil (u := .slice none 0 0) (v := .bool false)
        rw [HE.out]
        exact bodyPost_ret (v := .tuple #[.agg #[.slice none 0 0, .bool false], .int .i64 7]) (by simp [results, Try.results34, go_sem, c6, c7]) rfl (outB_nil rfl c9)
      · have HST := hid (okL_map_step hlt HOK.out hok)
        have HMS := hid (map_step (s := s) hlt)
        generalize T[n] = t at ex hbd hok HX HMS
        obtain ⟨hb1, hb2⟩ := hbd
        have HOK2 := hid (show (decide (-50000 ≤ t + s) && decide (t + s ≤ 200000)) = true from hok)
        clear hok
        have HLN := hid (show n + 1 ≤ 1000000 by omega)
        have HZ1 := hid (show n8 + 1 ≤ wr.heap.size by omega)
        go_wp2_with (go_at_call 63; refine (warm_any _ _).mono ?_; rintro e w' ⟨rfl, rfl⟩; rw [HOK2.out])
        have hwr : IntKind.i64.wrap (t + s) = t + s := wrap_i64 (by omega) (by omega)
        refine wp_region_held_drew (S := RawSh w n8 b' o' n cap T.length t #[.int .i64 r, .int .i64 l, .int .i64 a, .int .i64 b, .int .i64 k, .int .i64 a2, .int .i64 b2] br) (by kernel_rfl) (rawSh HX.out (R4e.keep ⟨_, HR.out⟩ (Below.refl _ _).drew)) (fun hS0 => ?_)
        refine wpAnyH_take (i := 0) (v := ?_) rfl (by kernel_rfl) (by kernel_rfl) (by kernel_rfl) (fun _ _ _ h => h) (Or.inl ⟨by rfl, ?_⟩) hS0 ?_
        rotate_left
        · intro w' hSw
          obtain ⟨q0, q1, _⟩ := hSw
          go_simp
          try with_reducible rfl
        simp only [Act.put, List.setIfInBounds_toArray, List.set_cons_zero, List.set_cons_succ]
        refine wpAnyH_take (i := 2) (v := ?_) rfl (by kernel_rfl) (by kernel_rfl) (by kernel_rfl) (fun _ _ _ h => h) (Or.inl ⟨by rfl, ?_⟩) hS0 ?_
        rotate_left
        · intro w' hSw
          obtain ⟨q0, q1, _⟩ := hSw
          go_simp
          try with_reducible rfl
        simp only [Act.put, List.setIfInBounds_toArray, List.set_cons_zero, List.set_cons_succ]
        refine wpAnyH_take (i := 3) (v := ?_) rfl (by kernel_rfl) (by kernel_rfl) (by kernel_rfl) (fun _ _ _ h => h) (Or.inl ⟨by rfl, ?_⟩) hS0 ?_
        rotate_left
        · intro w' hSw
          obtain ⟨q0, q1, _⟩ := hSw
          go_simp
          try with_reducible rfl
        simp only [Act.put, List.setIfInBounds_toArray, List.set_cons_zero, List.set_cons_succ]
        refine wpAnyH_take (i := 4) (v := ?_) rfl (by kernel_rfl) (by kernel_rfl) (by kernel_rfl) (fun _ _ _ h => h) (Or.inl ⟨by rfl, ?_⟩) hS0 ?_
        rotate_left
        · intro w' hSw
          obtain ⟨q0, q1, _⟩ := hSw
          go_simp
          try with_reducible rfl
        simp only [Act.put, List.setIfInBounds_toArray, List.set_cons_zero, List.set_cons_succ]
        refine wpAnyH_take (i := 5) (v := ?_) rfl (by kernel_rfl) (by kernel_rfl) (by kernel_rfl) (fun _ _ _ h => h) (Or.inl ⟨by rfl, ?_⟩) hS0 ?_
        rotate_left
        · intro w' hSw
          obtain ⟨q0, q1, _⟩ := hSw
          go_simp
          try with_reducible rfl
        simp only [Act.put, List.setIfInBounds_toArray, List.set_cons_zero, List.set_cons_succ]
        refine wpAnyH_take (i := 6) (v := ?_) rfl (by kernel_rfl) (by kernel_rfl) (by kernel_rfl) (fun _ _ _ h => h) (Or.inl ⟨by rfl, ?_⟩) hS0 ?_
        rotate_left
        · intro w' hSw
          obtain ⟨q0, q1, _⟩ := hSw
          go_simp
          try with_reducible rfl
        simp only [Act.put, List.setIfInBounds_toArray, List.set_cons_zero, List.set_cons_succ]
        refine wpAnyH_take (i := 7) (v := ?_) rfl (by kernel_rfl) (by kernel_rfl) (by kernel_rfl) (fun _ _ _ h => h) (Or.inl ⟨by rfl, ?_⟩) hS0 ?_
        rotate_left
        · intro w' hSw
          obtain ⟨q0, q1, _⟩ := hSw
          go_simp
          try with_reducible rfl
        simp only [Act.put, List.setIfInBounds_toArray, List.set_cons_zero, List.set_cons_succ]
        refine wpAnyH_take (i := 8) (v := ?_) rfl (by kernel_rfl) (by kernel_rfl) (by kernel_rfl) (fun _ _ _ h => h) (Or.inl ⟨by rfl, ?_⟩) hS0 ?_
        rotate_left
        · intro w' hSw
          obtain ⟨q0, q1, _⟩ := hSw
          go_simp
          try with_reducible rfl
        simp only [Act.put, List.setIfInBounds_toArray, List.set_cons_zero, List.set_cons_succ]
        refine wpAnyH_ready (rs := [1, 9]) (by kernel_rfl) (by simp) ?_
        refine AllReadyH.cons rfl (fun K hK => ?_) (AllReadyH.cons rfl (fun K hK => ?_) AllReadyH.nil)
        · go_simp
          refine hK.out _ _ hS0 (fun hS1 => ?_)
          clear hK K
          refine wpAnyH_ready (rs := [9]) (by kernel_rfl) (by simp) ?_
          refine AllReadyH.cons rfl (fun K hK => ?_) AllReadyH.nil
          go_simp
          refine hK.out _ _ (rawSh HX.out (R4e.keep ⟨_, HR.out⟩ ((Below.refl _ _).alloc (Nat.le_refl _) _).drew)) (fun hS2 => ?_)
          clear hK K
          refine wpAnyH_ready (rs := [10]) (by kernel_rfl) (by simp) ?_
          refine AllReadyH.cons rfl (fun K hK => ?_) AllReadyH.nil
          refine step_app2 rfl (.tmp 42) (.tmp 50) 24 rfl (n8 + 1) 3 i0 Try.underlying24 hi hz0 hz1' hz2' (.slice a' n c') (ivs ((T.take n).map (· + s))) rfl (HO.out.alloc _) (.slice (some ⟨wr.heap.size, 0, none⟩) 1 1) [t + s] rfl (RowI.src (one_at _ _ rfl)) (by rw [ivs_len, List.length_map, List.length_take]; have := HLN.out; show min n T.length + 1 ≤ 1000000; omega) (by have := HZ1.out; show n8 + 1 ≤ (wr.alloc _).heap.size; rw [World.size_alloc]; omega) ?_
          intro v3 w6 hO1 hA1
          have hR6 := (R4.app (HR.out.keep ((Below.refl _ _).alloc (Nat.le_refl _) _).drew) hO1 hA1)
          have HR6 := hid hR6
          have ho6 := app_next hA1
          rw [HMS.out] at ho6
          obtain ⟨a3, c3, rfl⟩ := own_shape ho6
          have hl6 : ((T.take (n + 1)).map (· + s)).length = n + 1 := by simp; omega
          rw [hl6] at ho6 ⊢
          have HO6 := hid ho6
          clear hO1 hA1 ho6 hl6
          refine hK.out _ _ (rawSh HX.out ⟨_, HR6.out⟩) (fun hS3 => ?_)
          clear hK K k0 k1 d0 d1 f0 f1 e0 e1 g0 g1 hz
          have hF := HR6.out.facts
          obtain ⟨k0, k1, d0, d1, f0, f1, e0, e1, g0, g1, hz⟩ := hF
          refine wpAnyH_take (i := 11) (v := ?_) rfl (by kernel_rfl) (by kernel_rfl) (by kernel_rfl) (fun _ _ _ h => h) (Or.inl ⟨by rfl, ?_⟩) hS3 ?_
          rotate_left
          · intro w' hSw
            obtain ⟨q0, q1, _⟩ := hSw
            go_simp
            try with_reducible rfl
          simp only [Act.put, List.setIfInBounds_toArray, List.set_cons_zero, List.set_cons_succ]
          refine wpAnyH_ready (rs := [12]) (by kernel_rfl) (by simp) ?_
          refine AllReadyH.cons rfl (fun K hK => ?_) AllReadyH.nil
          go_simp
          refine hK.out _ _ (rawSh HX.out ⟨_, HR6.out.set0⟩) (fun hS4 => ?_)
          clear hK K
          refine wpAnyH_done (by kernel_rfl) ?_ _
          clear hwr
          have HS6 := hid (HR6.out.set0 (u := .slice a3 (n + 1) c3))
          have HO7 := hid (own_set (m := n8) (j := 0) (u := .slice a3 (n + 1) c3) HO6.out (by omega))
          go_wp2
          go_roundw
          case rel => exact ⟨n + 1, by omega, by go_num, HST, a3, c3, HS6, by rw [ivs_len, List.length_map, List.length_take, show min (n + 1) T.length = n + 1 by omega]; exact HO7⟩
          case measure => simp [intOf]; omega
        · go_simp
          refine hK.out _ _ (rawSh HX.out (R4e.keep ⟨_, HR.out⟩ ((Below.refl _ _).alloc (Nat.le_refl _) _).drew)) (fun hS1 => ?_)
          clear hK K
          refine wpAnyH_ready (rs := [1]) (by kernel_rfl) (by simp) ?_
          refine AllReadyH.cons rfl (fun K hK => ?_) AllReadyH.nil
          go_simp
          refine hK.out _ _ hS1 (fun hS2 => ?_)
          clear hK K
          refine wpAnyH_ready (rs := [10]) (by kernel_rfl) (by simp) ?_
          refine AllReadyH.cons rfl (fun K hK => ?_) AllReadyH.nil
          refine step_app2 rfl (.tmp 42) (.tmp 50) 24 rfl (n8 + 1) 3 i0 Try.underlying24 hi hz0 hz1' hz2' (.slice a' n c') (ivs ((T.take n).map (· + s))) rfl (HO.out.alloc _) (.slice (some ⟨wr.heap.size, 0, none⟩) 1 1) [t + s] rfl (RowI.src (one_at _ _ rfl)) (by rw [ivs_len, List.length_map, List.length_take]; have := HLN.out; show min n T.length + 1 ≤ 1000000; omega) (by have := HZ1.out; show n8 + 1 ≤ (wr.alloc _).heap.size; rw [World.size_alloc]; omega) ?_
          intro v3 w6 hO1 hA1
          have hR6 := (R4.app (HR.out.keep ((Below.refl _ _).alloc (Nat.le_refl _) _).drew) hO1 hA1)
          have HR6 := hid hR6
          have ho6 := app_next hA1
          rw [HMS.out] at ho6
          obtain ⟨a3, c3, rfl⟩ := own_shape ho6
          have hl6 : ((T.take (n + 1)).map (· + s)).length = n + 1 := by simp; omega
          rw [hl6] at ho6 ⊢
          have HO6 := hid ho6
          clear hO1 hA1 ho6 hl6
          refine hK.out _ _ (rawSh HX.out ⟨_, HR6.out⟩) (fun hS3 => ?_)
          clear hK K k0 k1 d0 d1 f0 f1 e0 e1 g0 g1 hz
          have hF := HR6.out.facts
          obtain ⟨k0, k1, d0, d1, f0, f1, e0, e1, g0, g1, hz⟩ := hF
          refine wpAnyH_take (i := 11) (v := ?_) rfl (by kernel_rfl) (by kernel_rfl) (by kernel_rfl) (fun _ _ _ h => h) (Or.inl ⟨by rfl, ?_⟩) hS3 ?_
          rotate_left
          · intro w' hSw
            obtain ⟨q0, q1, _⟩ := hSw
            go_simp
            try with_reducible rfl
          simp only [Act.put, List.setIfInBounds_toArray, List.set_cons_zero, List.set_cons_succ]
          refine wpAnyH_ready (rs := [12]) (by kernel_rfl) (by simp) ?_
          refine AllReadyH.cons rfl (fun K hK => ?_) AllReadyH.nil
          go_simp
          refine hK.out _ _ (rawSh HX.out ⟨_, HR6.out.set0⟩) (fun hS4 => ?_)
          clear hK K
          refine wpAnyH_done (by kernel_rfl) ?_ _
          clear hwr
          have HS6 := hid (HR6.out.set0 (u := .slice a3 (n + 1) c3))
          have HO7 := hid (own_set (m := n8) (j := 0) (u := .slice a3 (n + 1) c3) HO6.out (by omega))
          go_wp2
          go_roundw
          case rel => exact ⟨n + 1, by omega, by go_num, HST, a3, c3, HS6, by rw [ivs_len, List.length_map, List.length_take, show min (n + 1) T.length = n + 1 by omega]; exact HO7⟩
          case measure => simp [intOf]; omega
    · obtain rfl : n = T.length := by omega
      rw [List.take_length] at HOK HO
      have HE := hid (shiftO_ok (x := (T, br)) HO0.out.1 HO0.out.2 HOK.out)
      have h8' := HR.out.h8
      go_wp2
      obtain ⟨c6, c7, c9⟩ := HR.out.r3.nil (u := .slice a' T.length c') (v := .bool br)
      have hown := own_set (m := w.heap.size + 1 + 1) (j := 1) (u := .bool br) (own_set (m := w.heap.size + 1 + 1) (j := 0) (u := .slice a' T.length c') HO.out (by omega)) (by omega)
      have hri := own_rowI (l := T.map (· + s)) (by rw [ivs_len] at hown; exact hown) (by rw [List.length_map]; omega)
      rw [HE.out]
      exact bodyPost_ret (v := .tuple #[.agg #[.slice a' T.length c', .bool br], .int .i64 0]) (by simp [results, Try.results34, go_sem, c6, c7]) rfl ⟨a', c', by dsimp only; rw [List.length_map], by dsimp only; rw [List.length_map]; exact hri, c9⟩
end Go.Proofs.Ytpkcnojcklmhmaa
