/- HeatSteps: its walk. -/
import Derived.Test.YtpkcnojcklmhmaaRt
import Derived.Test.YtpkcnojcklmhmaaHo
namespace Go.Proofs.Ytpkcnojcklmhmaa
open Go.RowKit

theorem r2_set {w W : World} {A B : Array Value} {g : Nat} (h : R2 w W A B) (hg : w.heap.size + 1 < g) (u v : Value) : R2 w ((W.setCell ⟨g, 0, none⟩ u).setCell ⟨g, 1, none⟩ v) A B := by
  refine ⟨?_, ?_, (h.low.setCell (p := ⟨g, 0, none⟩) (by show w.heap.size ≤ g; omega) u).setCell (p := ⟨g, 1, none⟩) (by show w.heap.size ≤ g; omega) v⟩
  · rw [heap_setCell_other _ _ _ _ (show w.heap.size ≠ g by omega), heap_setCell_other _ _ _ _ (show w.heap.size ≠ g by omega)]; exact h.can
  · rw [heap_setCell_other _ _ _ _ (show w.heap.size + 1 ≠ g by omega), heap_setCell_other _ _ _ _ (show w.heap.size + 1 ≠ g by omega)]; exact h.res
theorem box_set {W : World} {g : Nat} {a b : Value} {t : TypeId} (u v : Value) (h : W.heap[g]? = some (.cells #[a, b] t (0, 0))) : ((W.setCell ⟨g, 0, none⟩ u).setCell ⟨g, 1, none⟩ v).heap[g]? = some (.cells #[u, v] t (0, 0)) :=
  heap_setCell_same _ g 1 _ _ v (heap_setCell_same W g 0 _ _ u h)
theorem rsame_self (w : World) (v u : Value) (y : Bd) (hl : RowI w v y.1) (hm : RowI w u y.1) :
    Calls Try.prog 14 #[.agg #[v, .bool y.2], .agg #[u, .bool y.2]] w fun e w' => e = .returned (.bool true) ∧ Below w.heap.size w w' :=
  (rsame_any w v u y.1 y.1 y.2 y.2 hl hm).mono fun _ _ ⟨h, hb⟩ => ⟨by rw [h]; simp, hb⟩
/-- A body's box, and its temperatures, read. -/
def BxR (W : World) (g : Nat) (ua : Option Addr) (uc : Nat) (y : Bd) : Prop := W.heap[g]? = some (.cells #[.slice ua y.1.length uc, .bool y.2] 26 (0, 0)) ∧ RowI W (.slice ua y.1.length uc) y.1
theorem BxR.keep {W W' : World} {g uc : Nat} {ua : Option Addr} {y : Bd} (h : BxR W g ua uc y) (hb : Below W.heap.size W W') : BxR W' g ua uc y := ⟨(hb.block _ (lt_of_block h.1)).trans h.1, h.2.keep hb⟩
theorem BxR.set {W : World} {g uc m n c : Nat} {ua a : Option Addr} {b : Bool} {t : TypeId} {y : Bd} (h : BxR W g ua uc y) (u v : Value) (hm : W.heap[m]? = some (.cells #[.slice a n c, .bool b] t (0, 0))) (hne : g ≠ m) : BxR ((W.setCell ⟨m, 0, none⟩ u).setCell ⟨m, 1, none⟩ v) g ua uc y :=
  ⟨by rw [heap_setCell_other _ _ _ _ hne, heap_setCell_other _ _ _ _ hne]; exact h.1, rowI_by h.2 hm⟩
theorem BxR.two {W : World} {g uc : Nat} {ua : Option Addr} {y : Bd} (h : BxR W g ua uc y) : W.cell? ⟨g, 0, none⟩ = some (.slice ua y.1.length uc) ∧ W.cell? ⟨g, 1, none⟩ = some (.bool y.2) := ⟨cell_of_row _ _ 0 _ _ _ h.1, cell_of_row _ _ 1 _ _ _ h.1⟩
set_option maxRecDepth 100000 in
set_option maxHeartbeats 8000000 in
theorem steps_walk (r l a b k a2 b2 : Int) (u : Value) (x : List Int) (br : Bool) (v2 : Value) (p : List Int) (w : World) (hx : RowI w u x) (hp : RowI w v2 p) :
    Calls Try.prog 3 #[.agg #[.int .i64 r, .int .i64 l, .int .i64 a, .int .i64 b, .int .i64 k, .int .i64 a2, .int .i64 b2], .agg #[u, .bool br], v2] w fun e w' => e = .returned (.bool true) ∧ Below w.heap.size w w' := by
  have HX := hid (fun w1 (g : Below w.heap.size w w1) => hx.keep g)
  have HP := hid (fun w1 (g : Below w.heap.size w w1) => hp.keep g)
  obtain ⟨xa, xc, rfl⟩ := hx.shape
  obtain ⟨ad, ba, o, cap, rfl, ha, hcl, _⟩ := hp.form
  have HCL := hid (fun w1 (g : Below w.heap.size w w1) j h => keep_cell g (hcl j h))
  have HA := hid ha
  have HS := hid (r2_start (w := w) (A := #[.int .i64 r, .int .i64 l, .int .i64 a, .int .i64 b, .int .i64 k, .int .i64 a2, .int .i64 b2]) (R := #[.slice xa x.length xc, .bool br]))
  clear hx hp hcl ha
  by_cases h1 : x.length ≤ 100 ∧ p.length ≤ 80
  case neg =>
    have d1 := hid (decide_eq_false h1)
    go_enter Try.func3, Try.ntmps3
    go_wp2_with (first
      | (go_at_call 10; refine (brief_any _ _ _ _ _ _ _ _).mono ?_; rintro e w1 ⟨rfl, hb⟩; rw [d1.out]; have H1 := hid (HS.out.keep hb); clear hb)
      | (go_at_call 11; refine (awake_any _).mono ?_; rintro e w9 ⟨rfl, hb⟩; have H9 := hid (H1.out.keep hb); clear hb))
    go_ret
    exact ⟨rfl, H9.out.low⟩
  have d1 := hid (decide_eq_true h1)
  have hp80 := h1.2
  clear h1
  go_enter Try.func3, Try.ntmps3
  go_wp2_with fail
  refine (brief_any _ _ _ _ _ _ _ _).mono ?_
  rintro e w1 ⟨rfl, hb⟩
  rw [d1.out]
  have H1 := hid (HS.out.keep hb)
  clear hb HS
  go_upto_if 26 with fail
  go_cut [] (fun wx => Hid (R2 w wx #[.int .i64 r, .int .i64 l, .int .i64 a, .int .i64 b, .int .i64 k, .int .i64 a2, .int .i64 b2] #[.slice xa x.length xc, .bool br]))
  case first =>
    by_cases h0 : 0 < p.length
    · have h0' : (0 : Int) < p.length := by omega
      obtain rfl : ad = some ⟨ba, o, none⟩ := HA.out.resolve_left (by rintro rfl; simp at h0)
      have HT := hid (fun w1 (h : Below w.heap.size w w1) => HCL.out w1 h 0 h0)
      obtain ⟨t, ht⟩ : ∃ t, t = p[0] := ⟨_, rfl⟩
      rw [← ht] at HT
      simp only [Nat.add_zero] at HT
      have HC := hid (fun w1 (h : RowI w1 (.slice xa x.length xc) x) => step_all r l a b k a2 b2 w1 (.slice xa x.length xc) x br t h)
      have HD := hid (fun w1 (h : RowI w1 (.slice xa x.length xc) x) => rstep_all r l a b k a2 b2 w1 (.slice xa x.length xc) x br t h)
      obtain ⟨O, hO⟩ : ∃ O, O = runO r l a b k a2 b2 (x, br) [t] := ⟨_, rfl⟩
      rw [← hO] at HC HD
      clear hO ht
      go_upto_region 4 with fail
      go_cut [7, 8] (fun s7 s8 wx => ∃ (b7 : Nat) (ua : Option Addr) (uc : Nat), s7 = .pointer (some ⟨b7, 0, none⟩) ∧ s8 = .int .i64 O.2 ∧ Hid (R2 w wx #[.int .i64 r, .int .i64 l, .int .i64 a, .int .i64 b, .int .i64 k, .int .i64 a2, .int .i64 b2] #[.slice xa x.length xc, .bool br]) ∧ Hid (wx.heap[b7]? = some (.cells #[.slice ua O.1.1.length uc, .bool O.1.2] 26 (0, 0))) ∧ Hid (RowI wx (.slice ua O.1.1.length uc) O.1.1))
      case first =>
        have H0 := H1
        go_wp2_with fail
        refine wp_region_held_drew (S := fun w1 => w1.cell? ⟨ba, o, none⟩ = some (.int .i64 t) ∧ R2 w w1 #[.int .i64 r, .int .i64 l, .int .i64 a, .int .i64 b, .int .i64 k, .int .i64 a2, .int .i64 b2] #[.slice xa x.length xc, .bool br]) (by kernel_rfl) ⟨HT.out _ H0.out.low.drew, H0.out.keep (Below.refl _ _).drew⟩ (fun hS0 => ?_)
        refine wpAnyH_take (i := 0) (v := ?_) rfl (by kernel_rfl) (by kernel_rfl) (by kernel_rfl) (fun _ _ _ h => h) (Or.inl ⟨by rfl, ?_⟩) hS0 ?_
        rotate_left
        · intro w' hSw
          obtain ⟨q0, hq⟩ := hSw
          obtain ⟨s0, s1, s2, s3, s4, s5, s6, s7, s8, s9, s10⟩ := hq.nine
          clear hq
          go_simp
          try with_reducible rfl
        simp only [Act.put, List.getElem_toArray, List.getElem_cons_succ, List.getElem_cons_zero, List.setIfInBounds_toArray, List.set_cons_zero, List.set_cons_succ]
        refine wpAnyH_take (i := 1) (v := ?_) rfl (by kernel_rfl) (by kernel_rfl) (by kernel_rfl) (fun _ _ _ h => h) (Or.inl ⟨by rfl, ?_⟩) hS0 ?_
        rotate_left
        · intro w' hSw
          obtain ⟨q0, hq⟩ := hSw
          obtain ⟨s0, s1, s2, s3, s4, s5, s6, s7, s8, s9, s10⟩ := hq.nine
          clear hq
          go_simp
          try with_reducible rfl
        simp only [Act.put, List.getElem_toArray, List.getElem_cons_succ, List.getElem_cons_zero, List.setIfInBounds_toArray, List.set_cons_zero, List.set_cons_succ]
        refine wpAnyH_take (i := 2) (v := ?_) rfl (by kernel_rfl) (by kernel_rfl) (by kernel_rfl) (fun _ _ _ h => h) (Or.inl ⟨by rfl, ?_⟩) hS0 ?_
        rotate_left
        · intro w' hSw
          obtain ⟨q0, hq⟩ := hSw
          obtain ⟨s0, s1, s2, s3, s4, s5, s6, s7, s8, s9, s10⟩ := hq.nine
          clear hq
          go_simp
          try with_reducible rfl
        simp only [Act.put, List.getElem_toArray, List.getElem_cons_succ, List.getElem_cons_zero, List.setIfInBounds_toArray, List.set_cons_zero, List.set_cons_succ]
        refine wpAnyH_take (i := 3) (v := ?_) rfl (by kernel_rfl) (by kernel_rfl) (by kernel_rfl) (fun _ _ _ h => h) (Or.inl ⟨by rfl, ?_⟩) hS0 ?_
        rotate_left
        · intro w' hSw
          obtain ⟨q0, hq⟩ := hSw
          obtain ⟨s0, s1, s2, s3, s4, s5, s6, s7, s8, s9, s10⟩ := hq.nine
          clear hq
          go_simp
          try with_reducible rfl
        simp only [Act.put, List.getElem_toArray, List.getElem_cons_succ, List.getElem_cons_zero, List.setIfInBounds_toArray, List.set_cons_zero, List.set_cons_succ]
        refine wpAnyH_take (i := 4) (v := ?_) rfl (by kernel_rfl) (by kernel_rfl) (by kernel_rfl) (fun _ _ _ h => h) (Or.inl ⟨by rfl, ?_⟩) hS0 ?_
        rotate_left
        · intro w' hSw
          obtain ⟨q0, hq⟩ := hSw
          obtain ⟨s0, s1, s2, s3, s4, s5, s6, s7, s8, s9, s10⟩ := hq.nine
          clear hq
          go_simp
          try with_reducible rfl
        simp only [Act.put, List.getElem_toArray, List.getElem_cons_succ, List.getElem_cons_zero, List.setIfInBounds_toArray, List.set_cons_zero, List.set_cons_succ]
        (refine wpAnyH_ready (rs := [5, 9]) (by kernel_rfl) (by simp) ?_)
        refine AllReadyH.cons rfl (fun K hK => ?_) ?_
        · go_simp
          refine (HC.out _ (HX.out _ (hS0.2).low)).mono ?_
          rintro e w3 ⟨va, vc, rfl, hri, hb⟩
          have H3 := hid (hS0.2.keep hb)
          have HRI := hid hri
          (refine hK.out _ _ (⟨HT.out _ H3.out.low, H3.out⟩) (fun hS1 => ?_); clear hK K)
          clear hri hb
          refine wpAnyH_take (i := 6) (v := ?_) rfl (by kernel_rfl) (by kernel_rfl) (by kernel_rfl) (fun _ _ _ h => h) (Or.inl ⟨by rfl, ?_⟩) hS1 ?_
          rotate_left
          · intro w' hSw
            obtain ⟨q0, hq⟩ := hSw
            obtain ⟨s0, s1, s2, s3, s4, s5, s6, s7, s8, s9, s10⟩ := hq.nine
            clear hq
            go_simp
            try with_reducible rfl
          simp only [Act.put, List.getElem_toArray, List.getElem_cons_succ, List.getElem_cons_zero, List.setIfInBounds_toArray, List.set_cons_zero, List.set_cons_succ]
          refine wpAnyH_take (i := 7) (v := ?_) rfl (by kernel_rfl) (by kernel_rfl) (by kernel_rfl) (fun _ _ _ h => h) (Or.inl ⟨by rfl, ?_⟩) hS1 ?_
          rotate_left
          · intro w' hSw
            obtain ⟨q0, hq⟩ := hSw
            obtain ⟨s0, s1, s2, s3, s4, s5, s6, s7, s8, s9, s10⟩ := hq.nine
            clear hq
            go_simp
            try with_reducible rfl
          simp only [Act.put, List.getElem_toArray, List.getElem_cons_succ, List.getElem_cons_zero, List.setIfInBounds_toArray, List.set_cons_zero, List.set_cons_succ]
          refine wpAnyH_take (i := 8) (v := ?_) rfl (by kernel_rfl) (by kernel_rfl) (by kernel_rfl) (fun _ _ _ h => h) (Or.inl ⟨by rfl, ?_⟩) hS1 ?_
          rotate_left
          · intro w' hSw
            obtain ⟨q0, hq⟩ := hSw
            obtain ⟨s0, s1, s2, s3, s4, s5, s6, s7, s8, s9, s10⟩ := hq.nine
            clear hq
            go_simp
            try with_reducible rfl
          simp only [Act.put, List.getElem_toArray, List.getElem_cons_succ, List.getElem_cons_zero, List.setIfInBounds_toArray, List.set_cons_zero, List.set_cons_succ]
          (refine wpAnyH_ready (rs := [9]) (by kernel_rfl) (by simp) ?_)
          refine AllReadyH.cons rfl (fun K hK => ?_) AllReadyH.nil
          go_simp
          have hal := (Below.refl w3.heap.size w3).alloc (Nat.le_refl _) (.cells #[.slice none 0 0, .bool false] 26)
          have H4 := hid (H3.out.keep hal)
          have hbx := heap_alloc_new w3 (.cells #[.slice none 0 0, .bool false] 26)
          have HBX := hid hbx
          have HRI4 := hid (HRI.out.keep hal)
          have hb7 : w.heap.size + 1 < w3.heap.size := lt_of_block H3.out.res
          (refine hK.out _ _ (⟨HT.out _ H4.out.low, H4.out⟩) (fun hS2 => ?_); clear hK K)
          clear hal hbx
          (refine wpAnyH_ready (rs := [10]) (by kernel_rfl) (by simp) ?_)
          refine AllReadyH.cons rfl (fun K hK => ?_) AllReadyH.nil
          go_simp
          have hal2 := (Below.refl w3.heap.size w3).alloc (Nat.le_refl _) (.cells #[.slice va O.1.1.length vc, .bool O.1.2] 26)
          have H5 := hid (H3.out.keep hal2)
          have HRI5 := hid (HRI.out.keep hal2)
          have hbx5 := heap_alloc_new w3 (.cells #[.slice va O.1.1.length vc, .bool O.1.2] 26)
          have HBX5 := hid hbx5
          clear hal2 hbx5
          (refine hK.out _ _ (⟨HT.out _ H5.out.low, H5.out⟩) (fun hS5 => ?_); clear hK K)
          refine wpAnyH_take (i := 11) (v := ?_) rfl (by kernel_rfl) (by kernel_rfl) (by kernel_rfl) (fun _ _ _ h => h) (Or.inl ⟨by rfl, ?_⟩) hS5 ?_
          rotate_left
          · intro w' hSw
            obtain ⟨q0, hq⟩ := hSw
            obtain ⟨s0, s1, s2, s3, s4, s5, s6, s7, s8, s9, s10⟩ := hq.nine
            clear hq
            go_simp
            try with_reducible rfl
          simp only [Act.put, List.getElem_toArray, List.getElem_cons_succ, List.getElem_cons_zero, List.setIfInBounds_toArray, List.set_cons_zero, List.set_cons_succ]
          refine wpAnyH_done (by kernel_rfl) ?_ _
          clear hS5
          go_wp2_with fail
          go_meet
          exact ⟨_, va, vc, rfl, rfl, H5, HBX5, HRI5⟩
        · refine AllReadyH.cons rfl (fun K hK => ?_) AllReadyH.nil
          go_simp
          have hal := (Below.refl w1.drew.heap.size w1.drew).alloc (Nat.le_refl _) (.cells #[.slice none 0 0, .bool false] 26)
          have H4' := hid (hS0.2.keep hal)
          have hbx' := heap_alloc_new w1.drew (.cells #[.slice none 0 0, .bool false] 26)
          have HBX' := hid (show ((w1.drew).alloc (.cells #[.slice none 0 0, .bool false] 26)).heap[w1.heap.size]? = _ from hbx')
          have hb7 : w.heap.size + 1 < w1.heap.size := lt_of_block hS0.2.res
          (refine hK.out _ _ (⟨HT.out _ H4'.out.low, H4'.out⟩) (fun hS1 => ?_); clear hK K)
          clear hal hbx'
          (refine wpAnyH_ready (rs := [5]) (by kernel_rfl) (by simp) ?_)
          refine AllReadyH.cons rfl (fun K hK => ?_) AllReadyH.nil
          go_simp
          refine (HC.out _ (HX.out _ (H4'.out).low)).mono ?_
          rintro e w3 ⟨va, vc, rfl, hri, hb⟩
          have H4 := hid (H4'.out.keep hb)
          have HBX := hid ((hb.block _ (lt_of_block HBX'.out)).trans HBX'.out)
          have HRI4 := hid hri
          (refine hK.out _ _ (⟨HT.out _ H4.out.low, H4.out⟩) (fun hS2 => ?_); clear hK K)
          clear hri hb
          refine wpAnyH_take (i := 6) (v := ?_) rfl (by kernel_rfl) (by kernel_rfl) (by kernel_rfl) (fun _ _ _ h => h) (Or.inl ⟨by rfl, ?_⟩) hS2 ?_
          rotate_left
          · intro w' hSw
            obtain ⟨q0, hq⟩ := hSw
            obtain ⟨s0, s1, s2, s3, s4, s5, s6, s7, s8, s9, s10⟩ := hq.nine
            clear hq
            go_simp
            try with_reducible rfl
          simp only [Act.put, List.getElem_toArray, List.getElem_cons_succ, List.getElem_cons_zero, List.setIfInBounds_toArray, List.set_cons_zero, List.set_cons_succ]
          refine wpAnyH_take (i := 7) (v := ?_) rfl (by kernel_rfl) (by kernel_rfl) (by kernel_rfl) (fun _ _ _ h => h) (Or.inl ⟨by rfl, ?_⟩) hS2 ?_
          rotate_left
          · intro w' hSw
            obtain ⟨q0, hq⟩ := hSw
            obtain ⟨s0, s1, s2, s3, s4, s5, s6, s7, s8, s9, s10⟩ := hq.nine
            clear hq
            go_simp
            try with_reducible rfl
          simp only [Act.put, List.getElem_toArray, List.getElem_cons_succ, List.getElem_cons_zero, List.setIfInBounds_toArray, List.set_cons_zero, List.set_cons_succ]
          refine wpAnyH_take (i := 8) (v := ?_) rfl (by kernel_rfl) (by kernel_rfl) (by kernel_rfl) (fun _ _ _ h => h) (Or.inl ⟨by rfl, ?_⟩) hS2 ?_
          rotate_left
          · intro w' hSw
            obtain ⟨q0, hq⟩ := hSw
            obtain ⟨s0, s1, s2, s3, s4, s5, s6, s7, s8, s9, s10⟩ := hq.nine
            clear hq
            go_simp
            try with_reducible rfl
          simp only [Act.put, List.getElem_toArray, List.getElem_cons_succ, List.getElem_cons_zero, List.setIfInBounds_toArray, List.set_cons_zero, List.set_cons_succ]
          (refine wpAnyH_ready (rs := [10]) (by kernel_rfl) (by simp) ?_)
          refine AllReadyH.cons rfl (fun K hK => ?_) AllReadyH.nil
          have f0 := frozen_of_row _ _ 0 _ _ HBX.out
          have f1 := frozen_of_row _ _ 1 _ _ HBX.out
          have g0 := cell_of_row _ _ 0 _ _ _ HBX.out
          have g1 := cell_of_row _ _ 1 _ _ _ HBX.out
          simp only [List.getElem?_toArray, List.getElem?_cons_zero, List.getElem?_cons_succ] at g0 g1
          go_simp
          have H5 := hid (r2_set H4.out (g := w1.heap.size) hb7 (.slice va O.1.1.length vc) (.bool O.1.2))
          have HRI5 := hid (rowI_by (x := .slice va O.1.1.length vc) (y := .bool O.1.2) HRI4.out HBX.out)
          have HBX5 := hid (box_set (.slice va O.1.1.length vc) (.bool O.1.2) HBX.out)
          (refine hK.out _ _ (⟨HT.out _ H5.out.low, H5.out⟩) (fun hS5 => ?_); clear hK K)
          refine wpAnyH_take (i := 11) (v := ?_) rfl (by kernel_rfl) (by kernel_rfl) (by kernel_rfl) (fun _ _ _ h => h) (Or.inl ⟨by rfl, ?_⟩) hS5 ?_
          rotate_left
          · intro w' hSw
            obtain ⟨q0, hq⟩ := hSw
            obtain ⟨s0, s1, s2, s3, s4, s5, s6, s7, s8, s9, s10⟩ := hq.nine
            clear hq
            go_simp
            try with_reducible rfl
          simp only [Act.put, List.getElem_toArray, List.getElem_cons_succ, List.getElem_cons_zero, List.setIfInBounds_toArray, List.set_cons_zero, List.set_cons_succ]
          refine wpAnyH_done (by kernel_rfl) ?_ _
          clear hS5 f0 f1 g0 g1
          go_wp2_with fail
          go_meet
          exact ⟨_, va, vc, rfl, rfl, H5, HBX5, HRI5⟩
      case rest =>
        obtain ⟨b7, ua, uc, rfl, rfl, H2, HBX, HRI⟩ := hcut
        have X0 := hid (show BxR wc b7 ua uc O.1 from ⟨HBX.out, HRI.out⟩)
        clear H1 HBX HRI
        go_upto_region 5 with fail
        go_cut [9, 10] (fun s9 s10 wx => ∃ (b9 : Nat) (ub : Option Addr) (ud : Nat), s9 = .pointer (some ⟨b9, 0, none⟩) ∧ s10 = .int .i64 O.2 ∧ Hid (R2 w wx #[.int .i64 r, .int .i64 l, .int .i64 a, .int .i64 b, .int .i64 k, .int .i64 a2, .int .i64 b2] #[.slice xa x.length xc, .bool br]) ∧ Hid (BxR wx b7 ua uc O.1) ∧ Hid (wx.heap[b9]? = some (.cells #[.slice ub O.1.1.length ud, .bool O.1.2] 26 (0, 0))) ∧ Hid (RowI wx (.slice ub O.1.1.length ud) O.1.1))
        case first =>
          have H0 := H2
          go_wp2_with fail
          refine wp_region_held_drew (S := fun w1 => w1.cell? ⟨ba, o, none⟩ = some (.int .i64 t) ∧ R2 w w1 #[.int .i64 r, .int .i64 l, .int .i64 a, .int .i64 b, .int .i64 k, .int .i64 a2, .int .i64 b2] #[.slice xa x.length xc, .bool br]) (by kernel_rfl) ⟨HT.out _ H0.out.low.drew, H0.out.keep (Below.refl _ _).drew⟩ (fun hS0 => ?_)
          refine wpAnyH_take (i := 0) (v := ?_) rfl (by kernel_rfl) (by kernel_rfl) (by kernel_rfl) (fun _ _ _ h => h) (Or.inl ⟨by rfl, ?_⟩) hS0 ?_
          rotate_left
          · intro w' hSw
            obtain ⟨q0, hq⟩ := hSw
            obtain ⟨s0, s1, s2, s3, s4, s5, s6, s7, s8, s9, s10⟩ := hq.nine
            clear hq
            go_simp
            try with_reducible rfl
          simp only [Act.put, List.getElem_toArray, List.getElem_cons_succ, List.getElem_cons_zero, List.setIfInBounds_toArray, List.set_cons_zero, List.set_cons_succ]
          refine wpAnyH_take (i := 1) (v := ?_) rfl (by kernel_rfl) (by kernel_rfl) (by kernel_rfl) (fun _ _ _ h => h) (Or.inl ⟨by rfl, ?_⟩) hS0 ?_
          rotate_left
          · intro w' hSw
            obtain ⟨q0, hq⟩ := hSw
            obtain ⟨s0, s1, s2, s3, s4, s5, s6, s7, s8, s9, s10⟩ := hq.nine
            clear hq
            go_simp
            try with_reducible rfl
          simp only [Act.put, List.getElem_toArray, List.getElem_cons_succ, List.getElem_cons_zero, List.setIfInBounds_toArray, List.set_cons_zero, List.set_cons_succ]
          refine wpAnyH_take (i := 2) (v := ?_) rfl (by kernel_rfl) (by kernel_rfl) (by kernel_rfl) (fun _ _ _ h => h) (Or.inl ⟨by rfl, ?_⟩) hS0 ?_
          rotate_left
          · intro w' hSw
            obtain ⟨q0, hq⟩ := hSw
            obtain ⟨s0, s1, s2, s3, s4, s5, s6, s7, s8, s9, s10⟩ := hq.nine
            clear hq
            go_simp
            try with_reducible rfl
          simp only [Act.put, List.getElem_toArray, List.getElem_cons_succ, List.getElem_cons_zero, List.setIfInBounds_toArray, List.set_cons_zero, List.set_cons_succ]
          refine wpAnyH_take (i := 3) (v := ?_) rfl (by kernel_rfl) (by kernel_rfl) (by kernel_rfl) (fun _ _ _ h => h) (Or.inl ⟨by rfl, ?_⟩) hS0 ?_
          rotate_left
          · intro w' hSw
            obtain ⟨q0, hq⟩ := hSw
            obtain ⟨s0, s1, s2, s3, s4, s5, s6, s7, s8, s9, s10⟩ := hq.nine
            clear hq
            go_simp
            try with_reducible rfl
          simp only [Act.put, List.getElem_toArray, List.getElem_cons_succ, List.getElem_cons_zero, List.setIfInBounds_toArray, List.set_cons_zero, List.set_cons_succ]
          refine wpAnyH_take (i := 4) (v := ?_) rfl (by kernel_rfl) (by kernel_rfl) (by kernel_rfl) (fun _ _ _ h => h) (Or.inl ⟨by rfl, ?_⟩) hS0 ?_
          rotate_left
          · intro w' hSw
            obtain ⟨q0, hq⟩ := hSw
            obtain ⟨s0, s1, s2, s3, s4, s5, s6, s7, s8, s9, s10⟩ := hq.nine
            clear hq
            go_simp
            try with_reducible rfl
          simp only [Act.put, List.getElem_toArray, List.getElem_cons_succ, List.getElem_cons_zero, List.setIfInBounds_toArray, List.set_cons_zero, List.set_cons_succ]
          (refine wpAnyH_ready (rs := [5, 9]) (by kernel_rfl) (by simp) ?_)
          refine AllReadyH.cons rfl (fun K hK => ?_) ?_
          · go_simp
            refine (HD.out _ (HX.out _ (hS0.2).low)).mono ?_
            rintro e w3 ⟨va, vc, rfl, hri, hb⟩
            have H3 := hid (hS0.2.keep hb)
            have X3 := hid ((X0.out.keep (Below.refl _ _).drew).keep hb)
            have HRI := hid hri
            (refine hK.out _ _ (⟨HT.out _ H3.out.low, H3.out⟩) (fun hS1 => ?_); clear hK K)
            clear hri hb
            refine wpAnyH_take (i := 6) (v := ?_) rfl (by kernel_rfl) (by kernel_rfl) (by kernel_rfl) (fun _ _ _ h => h) (Or.inl ⟨by rfl, ?_⟩) hS1 ?_
            rotate_left
            · intro w' hSw
              obtain ⟨q0, hq⟩ := hSw
              obtain ⟨s0, s1, s2, s3, s4, s5, s6, s7, s8, s9, s10⟩ := hq.nine
              clear hq
              go_simp
              try with_reducible rfl
            simp only [Act.put, List.getElem_toArray, List.getElem_cons_succ, List.getElem_cons_zero, List.setIfInBounds_toArray, List.set_cons_zero, List.set_cons_succ]
            refine wpAnyH_take (i := 7) (v := ?_) rfl (by kernel_rfl) (by kernel_rfl) (by kernel_rfl) (fun _ _ _ h => h) (Or.inl ⟨by rfl, ?_⟩) hS1 ?_
            rotate_left
            · intro w' hSw
              obtain ⟨q0, hq⟩ := hSw
              obtain ⟨s0, s1, s2, s3, s4, s5, s6, s7, s8, s9, s10⟩ := hq.nine
              clear hq
              go_simp
              try with_reducible rfl
            simp only [Act.put, List.getElem_toArray, List.getElem_cons_succ, List.getElem_cons_zero, List.setIfInBounds_toArray, List.set_cons_zero, List.set_cons_succ]
            refine wpAnyH_take (i := 8) (v := ?_) rfl (by kernel_rfl) (by kernel_rfl) (by kernel_rfl) (fun _ _ _ h => h) (Or.inl ⟨by rfl, ?_⟩) hS1 ?_
            rotate_left
            · intro w' hSw
              obtain ⟨q0, hq⟩ := hSw
              obtain ⟨s0, s1, s2, s3, s4, s5, s6, s7, s8, s9, s10⟩ := hq.nine
              clear hq
              go_simp
              try with_reducible rfl
            simp only [Act.put, List.getElem_toArray, List.getElem_cons_succ, List.getElem_cons_zero, List.setIfInBounds_toArray, List.set_cons_zero, List.set_cons_succ]
            (refine wpAnyH_ready (rs := [9]) (by kernel_rfl) (by simp) ?_)
            refine AllReadyH.cons rfl (fun K hK => ?_) AllReadyH.nil
            go_simp
            have hal := (Below.refl w3.heap.size w3).alloc (Nat.le_refl _) (.cells #[.slice none 0 0, .bool false] 26)
            have H4 := hid (H3.out.keep hal)
            have hbx := heap_alloc_new w3 (.cells #[.slice none 0 0, .bool false] 26)
            have HBX := hid hbx
            have HRI4 := hid (HRI.out.keep hal)
            have hb7 : w.heap.size + 1 < w3.heap.size := lt_of_block H3.out.res
            (refine hK.out _ _ (⟨HT.out _ H4.out.low, H4.out⟩) (fun hS2 => ?_); clear hK K)
            clear hal hbx
            (refine wpAnyH_ready (rs := [10]) (by kernel_rfl) (by simp) ?_)
            refine AllReadyH.cons rfl (fun K hK => ?_) AllReadyH.nil
            go_simp
            have hal2 := (Below.refl w3.heap.size w3).alloc (Nat.le_refl _) (.cells #[.slice va O.1.1.length vc, .bool O.1.2] 26)
            have H5 := hid (H3.out.keep hal2)
            have X5 := hid (X3.out.keep hal2)
            have HRI5 := hid (HRI.out.keep hal2)
            have hbx5 := heap_alloc_new w3 (.cells #[.slice va O.1.1.length vc, .bool O.1.2] 26)
            have HBX5 := hid hbx5
            clear hal2 hbx5
            (refine hK.out _ _ (⟨HT.out _ H5.out.low, H5.out⟩) (fun hS5 => ?_); clear hK K)
            refine wpAnyH_take (i := 11) (v := ?_) rfl (by kernel_rfl) (by kernel_rfl) (by kernel_rfl) (fun _ _ _ h => h) (Or.inl ⟨by rfl, ?_⟩) hS5 ?_
            rotate_left
            · intro w' hSw
              obtain ⟨q0, hq⟩ := hSw
              obtain ⟨s0, s1, s2, s3, s4, s5, s6, s7, s8, s9, s10⟩ := hq.nine
              clear hq
              go_simp
              try with_reducible rfl
            simp only [Act.put, List.getElem_toArray, List.getElem_cons_succ, List.getElem_cons_zero, List.setIfInBounds_toArray, List.set_cons_zero, List.set_cons_succ]
            refine wpAnyH_done (by kernel_rfl) ?_ _
            clear hS5
            go_wp2_with fail
            go_meet
            exact ⟨_, va, vc, rfl, rfl, H5, X5, HBX5, HRI5⟩
          · refine AllReadyH.cons rfl (fun K hK => ?_) AllReadyH.nil
            go_simp
            have hal := (Below.refl wc.drew.heap.size wc.drew).alloc (Nat.le_refl _) (.cells #[.slice none 0 0, .bool false] 26)
            have H4' := hid (hS0.2.keep hal)
            have X4' := hid ((X0.out.keep (Below.refl _ _).drew).keep hal)
            have hbx' := heap_alloc_new wc.drew (.cells #[.slice none 0 0, .bool false] 26)
            have HBX' := hid (show ((wc.drew).alloc (.cells #[.slice none 0 0, .bool false] 26)).heap[wc.heap.size]? = _ from hbx')
            have hb7 : w.heap.size + 1 < wc.heap.size := lt_of_block hS0.2.res
            (refine hK.out _ _ (⟨HT.out _ H4'.out.low, H4'.out⟩) (fun hS1 => ?_); clear hK K)
            clear hal hbx'
            (refine wpAnyH_ready (rs := [5]) (by kernel_rfl) (by simp) ?_)
            refine AllReadyH.cons rfl (fun K hK => ?_) AllReadyH.nil
            go_simp
            refine (HD.out _ (HX.out _ (H4'.out).low)).mono ?_
            rintro e w3 ⟨va, vc, rfl, hri, hb⟩
            have H4 := hid (H4'.out.keep hb)
            have X4 := hid (X4'.out.keep hb)
            have HBX := hid ((hb.block _ (lt_of_block HBX'.out)).trans HBX'.out)
            have HRI4 := hid hri
            (refine hK.out _ _ (⟨HT.out _ H4.out.low, H4.out⟩) (fun hS2 => ?_); clear hK K)
            clear hri hb
            refine wpAnyH_take (i := 6) (v := ?_) rfl (by kernel_rfl) (by kernel_rfl) (by kernel_rfl) (fun _ _ _ h => h) (Or.inl ⟨by rfl, ?_⟩) hS2 ?_
            rotate_left
            · intro w' hSw
              obtain ⟨q0, hq⟩ := hSw
              obtain ⟨s0, s1, s2, s3, s4, s5, s6, s7, s8, s9, s10⟩ := hq.nine
              clear hq
              go_simp
              try with_reducible rfl
            simp only [Act.put, List.getElem_toArray, List.getElem_cons_succ, List.getElem_cons_zero, List.setIfInBounds_toArray, List.set_cons_zero, List.set_cons_succ]
            refine wpAnyH_take (i := 7) (v := ?_) rfl (by kernel_rfl) (by kernel_rfl) (by kernel_rfl) (fun _ _ _ h => h) (Or.inl ⟨by rfl, ?_⟩) hS2 ?_
            rotate_left
            · intro w' hSw
              obtain ⟨q0, hq⟩ := hSw
              obtain ⟨s0, s1, s2, s3, s4, s5, s6, s7, s8, s9, s10⟩ := hq.nine
              clear hq
              go_simp
              try with_reducible rfl
            simp only [Act.put, List.getElem_toArray, List.getElem_cons_succ, List.getElem_cons_zero, List.setIfInBounds_toArray, List.set_cons_zero, List.set_cons_succ]
            refine wpAnyH_take (i := 8) (v := ?_) rfl (by kernel_rfl) (by kernel_rfl) (by kernel_rfl) (fun _ _ _ h => h) (Or.inl ⟨by rfl, ?_⟩) hS2 ?_
            rotate_left
            · intro w' hSw
              obtain ⟨q0, hq⟩ := hSw
              obtain ⟨s0, s1, s2, s3, s4, s5, s6, s7, s8, s9, s10⟩ := hq.nine
              clear hq
              go_simp
              try with_reducible rfl
            simp only [Act.put, List.getElem_toArray, List.getElem_cons_succ, List.getElem_cons_zero, List.setIfInBounds_toArray, List.set_cons_zero, List.set_cons_succ]
            (refine wpAnyH_ready (rs := [10]) (by kernel_rfl) (by simp) ?_)
            refine AllReadyH.cons rfl (fun K hK => ?_) AllReadyH.nil
            have f0 := frozen_of_row _ _ 0 _ _ HBX.out
            have f1 := frozen_of_row _ _ 1 _ _ HBX.out
            have g0 := cell_of_row _ _ 0 _ _ _ HBX.out
            have g1 := cell_of_row _ _ 1 _ _ _ HBX.out
            simp only [List.getElem?_toArray, List.getElem?_cons_zero, List.getElem?_cons_succ] at g0 g1
            go_simp
            have H5 := hid (r2_set H4.out (g := wc.heap.size) hb7 (.slice va O.1.1.length vc) (.bool O.1.2))
            have X5 := hid (X4.out.set (.slice va O.1.1.length vc) (.bool O.1.2) HBX.out (by have := lt_of_block X0.out.1; omega))
            have HRI5 := hid (rowI_by (x := .slice va O.1.1.length vc) (y := .bool O.1.2) HRI4.out HBX.out)
            have HBX5 := hid (box_set (.slice va O.1.1.length vc) (.bool O.1.2) HBX.out)
            (refine hK.out _ _ (⟨HT.out _ H5.out.low, H5.out⟩) (fun hS5 => ?_); clear hK K)
            refine wpAnyH_take (i := 11) (v := ?_) rfl (by kernel_rfl) (by kernel_rfl) (by kernel_rfl) (fun _ _ _ h => h) (Or.inl ⟨by rfl, ?_⟩) hS5 ?_
            rotate_left
            · intro w' hSw
              obtain ⟨q0, hq⟩ := hSw
              obtain ⟨s0, s1, s2, s3, s4, s5, s6, s7, s8, s9, s10⟩ := hq.nine
              clear hq
              go_simp
              try with_reducible rfl
            simp only [Act.put, List.getElem_toArray, List.getElem_cons_succ, List.getElem_cons_zero, List.setIfInBounds_toArray, List.set_cons_zero, List.set_cons_succ]
            refine wpAnyH_done (by kernel_rfl) ?_ _
            clear hS5 f0 f1 g0 g1
            go_wp2_with fail
            go_meet
            exact ⟨_, va, vc, rfl, rfl, H5, X5, HBX5, HRI5⟩
        case rest =>
          clear X0 H2
          rename_i wd
          obtain ⟨b9, ub, ud, rfl, rfl, H2, X7, HBX, HRI⟩ := hcut
          obtain ⟨g0, g1⟩ := X7.out.two
          have f0 := cell_of_row _ _ 0 _ _ _ HBX.out
          have f1 := cell_of_row _ _ 1 _ _ _ HBX.out
          simp only [List.getElem?_toArray, List.getElem?_cons_zero, List.getElem?_cons_succ] at f0 f1
          go_wp2_with (go_at_call 14; refine (rsame_self _ (.slice ua O.1.1.length uc) (.slice ub O.1.1.length ud) O.1 X7.out.2 HRI.out).mono ?_; rintro e w6 ⟨rfl, hb⟩; have H3 := hid (H2.out.keep hb); clear hb)
          go_meet
          exact H3
    · have h0' : ¬ (0 : Int) < p.length := by omega
      go_wp2_with fail
      go_meet
      exact H1
  case rest =>
    clear H1
    have H1 := hcut
    clear hcut
    have HC := hid (fun w1 h1 h2 => run_all r l a b k a2 b2 w1 (.slice xa x.length xc) x br (.slice ad p.length cap) p h1 h2)
    have HD := hid (fun w1 h1 h2 => rrun_all r l a b k a2 b2 w1 (.slice xa x.length xc) x br (.slice ad p.length cap) p h1 h2)
    have HF := hid (fun w1 h1 h2 => follow_all r l a b k a2 b2 w1 (.slice xa x.length xc) x br (.slice ad p.length cap) p h1 h2)
    have HG := hid (fun w1 h1 h2 => rfollow_all r l a b k a2 b2 w1 (.slice xa x.length xc) x br (.slice ad p.length cap) p h1 h2)
    obtain ⟨O, hO⟩ : ∃ O, O = runO r l a b k a2 b2 (x, br) p := ⟨_, rfl⟩
    rw [← hO] at HC HD
    have hfl : (folO r l a b k a2 b2 (x, br) p).1.length ≤ 1000000 := by
      by_cases h : chkE (bothB r l a b k a2 b2 x br) p = 0
      · rw [folO_ok (x := (x, br)) h]; dsimp only; rw [folL_len]; omega
      · rw [folO_err (x := (x, br)) h]; simp
    obtain ⟨F, hF⟩ : ∃ F, F = folO r l a b k a2 b2 (x, br) p := ⟨_, rfl⟩
    rw [← hF] at HF HG hfl
    have HFL := hid hfl
    clear hO hF hfl
    obtain ⟨k0, k1, k2, k3, k4, k5, k6, k7, k8, k9, k10⟩ := H1.out.nine
    go_wp2_with fail
    refine (HC.out _ (HX.out _ H1.out.low) (HP.out _ H1.out.low)).mono ?_
    rintro e w3 ⟨va, vc, rfl, hri, hb⟩
    have hal := (Below.refl w3.heap.size w3).alloc (Nat.le_refl _) (.cells #[.slice va O.1.1.length vc, .bool O.1.2] 26)
    have H3 := hid (H1.out.keep hb)
    have H3a := hid ((H1.out.keep hb).keep hal)
    have X3 := hid (show BxR (w3.alloc (.cells #[.slice va O.1.1.length vc, .bool O.1.2] 26)) w3.heap.size va vc O.1 from ⟨heap_alloc_new w3 _, hri.keep hal⟩)
    clear hb hri hal H1 k0 k1 k2 k3 k4 k5 k6 k7 k8 k9 k10
    obtain ⟨k0, k1, k2, k3, k4, k5, k6, k7, k8, k9, k10⟩ := H3.out.nine
    have hz3 : w.heap.size + 1 < w3.heap.size := lt_of_block H3.out.res
    have hz3b : w.heap.size < w3.heap.size := lt_of_block H3.out.can
    go_wp2_with fail
    refine (HD.out _ (HX.out _ H3a.out.low) (HP.out _ H3a.out.low)).mono ?_
    rintro e w4 ⟨vb, vd, rfl, hri, hb⟩
    have hal := (Below.refl w4.heap.size w4).alloc (Nat.le_refl _) (.cells #[.slice vb O.1.1.length vd, .bool O.1.2] 26)
    have H4 := hid ((H3a.out.keep hb).keep hal)
    have X4 := hid ((X3.out.keep hb).keep hal)
    have HRI := hid (hri.keep hal)
    clear hb hri hal H3 H3a X3 hz3 hz3b k0 k1 k2 k3 k4 k5 k6 k7 k8 k9 k10
    obtain ⟨g0, g1⟩ := X4.out.two
    obtain ⟨k0, k1, k2, k3, k4, k5, k6, k7, k8, k9, k10⟩ := H4.out.nine
    go_wp2_with fail
    refine (rsame_self _ (.slice va O.1.1.length vc) (.slice vb O.1.1.length vd) O.1 X4.out.2 HRI.out).mono ?_
    rintro e w5 ⟨rfl, hb⟩
    have H5 := hid (H4.out.keep hb)
    clear hb H4 X4 HRI g0 g1 k0 k1 k2 k3 k4 k5 k6 k7 k8 k9 k10
    obtain ⟨k0, k1, k2, k3, k4, k5, k6, k7, k8, k9, k10⟩ := H5.out.nine
    go_wp2_with fail
    refine (HF.out _ (HX.out _ H5.out.low) (HP.out _ H5.out.low)).mono ?_
    rintro e w6 ⟨u6, rfl, hr6, hb⟩
    have H6 := hid (H5.out.keep hb)
    have HR6 := hid hr6
    clear hb hr6 H5 k0 k1 k2 k3 k4 k5 k6 k7 k8 k9 k10
    obtain ⟨k0, k1, k2, k3, k4, k5, k6, k7, k8, k9, k10⟩ := H6.out.nine
    go_wp2_with fail
    refine (HG.out _ (HX.out _ H6.out.low) (HP.out _ H6.out.low)).mono ?_
    rintro e w7 ⟨u7, rfl, hr7, hb⟩
    have H7 := hid (H6.out.keep hb)
    have HR7 := hid hr7
    have HR67 := hid (HR6.out.keep hb)
    clear hb hr7 H6 HR6 k0 k1 k2 k3 k4 k5 k6 k7 k8 k9 k10
    obtain ⟨k0, k1, k2, k3, k4, k5, k6, k7, k8, k9, k10⟩ := H7.out.nine
    go_wp2_with fail
    refine (rsameb_same u6 u7 F.1 _ HR67.out HR7.out HFL.out).mono ?_
    rintro e w8 ⟨rfl, hb⟩
    have H8 := hid (H7.out.keep hb)
    clear hb
    go_wp2_with fail
    refine (awake_any _).mono ?_
    rintro e w9 ⟨rfl, hb⟩
    have H9 := hid (H8.out.keep hb)
    clear hb
    go_wp2_with fail
    go_ret
    exact ⟨rfl, H9.out.low⟩
end Go.Proofs.Ytpkcnojcklmhmaa
