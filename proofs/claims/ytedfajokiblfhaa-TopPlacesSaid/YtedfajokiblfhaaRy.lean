/- Walk of told where a place is told: contract. -/
import Derived.Test.YtedfajokiblfhaaRw
import Derived.Test.YtedfajokiblfhaaQe
namespace Go.Proofs.Ytedfajokiblfhaa
open Go.RowKit Go.Shelf
attribute [local go_sem] Oper.semAt_some

set_option maxRecDepth 20000 in
set_option maxHeartbeats 8000000 in
theorem told_at (c : Cn) (x : Bd) (v v2 : Value) (l : List Int) (pb p : Nat) (w : World) (hv : c.V) (hb : bodyV c x.1 x.2 = true) (ho : okL l = true) (hlen : l.length ≤ 2000) (hl : RowI w v x.1) (hl2 : RowI w v2 l) (hp : p < c.P) (hpc : w.cell? ⟨pb, 0, none⟩ = some (.int .i64 (p : Int))) :
    Calls Try.prog 42 #[.agg #[.int .i64 (c.R : Int), .int .i64 (c.L : Int), .int .i64 c.A, .int .i64 c.B, .int .i64 c.K, .int .i64 c.A2, .int .i64 c.B2], .agg #[v, .bool x.2], v2, .func (.func 43) #[] #[.pointer (some ⟨pb, 0, none⟩)]] w (ToldP (tellN (fun y => y.1.getD p 0) c x l l.length) w) := by
  obtain ⟨hxl, _, hxo⟩ := bodyV_iff.1 hb
  have hc := hv.ok
  have hx : Warm c x := ⟨hxl, okL_bd hxo⟩
  obtain ⟨p1, p2⟩ := hc.p
  have h48 : x.1.length ≤ 48 := by omega
  have h0 : 0 < x.1.length := by omega
  have HL := hid (fun w1 (g : Below w.heap.size w w1) => hl.keep g)
  obtain ⟨a0, cap0, rfl⟩ := hl.shape
  obtain ⟨a, ba, o, cap, rfl, ha, hcl, hbl⟩ := hl2.form
  obtain ⟨i0, hi, hz0, hz1, hz2⟩ := info_parts infoIf
  have HPC := hid (fun w1 (g : Below w.heap.size w w1) => keep_cell g hpc)
  have HP := hid hp
  have HOK := hid hc; have HX := hid hx; have HAD := hid ha; have HCL := hid hcl; have HBL := hid hbl; have HLB := hid (okL_bd ho)
  have HS := hid (t3_start (w := w) (A := #[.int .i64 (c.R : Int), .int .i64 (c.L : Int), .int .i64 c.A, .int .i64 c.B, .int .i64 c.K, .int .i64 c.A2, .int .i64 c.B2]) (B := #[.slice a0 x.1.length cap0, .bool x.2]) (fv := .func (.func 43) #[] #[.pointer (some ⟨pb, 0, none⟩)]))
  have HWM := hid (fun k => show Warm c (runS c x (l.take k)) from HX.out.run HOK.out (fun b hb => HLB.out b (List.mem_of_mem_take hb)))
  have HLQ := hid (fun k => show (runS c x (l.take k)).1.length = x.1.length from (HWM.out k).len.trans HX.out.len.symm)
  obtain ⟨f, hf⟩ : ∃ f : Bd → Int, f = fun y => y.1.getD p 0 := ⟨_, rfl⟩
  rw [← hf]
  have HF := hid (fun (W : World) (nb : Nat) (y : Bd) (hg : GridAt W nb c y) (hy : Warm c y) (hq : W.cell? ⟨pb, 0, none⟩ = some (.int .i64 (p : Int))) => show Calls Try.prog 43 #[.pointer (some ⟨nb, 0, none⟩), .pointer (some ⟨pb, 0, none⟩)] W (fun e w' => e = .returned (.int .i64 (f y)) ∧ ∃ n, w' = W.drewN n) by rw [hf]; exact at1_any nb pb p c y W hg HOK.out hy HP.out hq)
  clear hl hl2 ha hcl hbl hx hc hb hxl hxo ho hv hf hp hpc
  refine (callsIn_wide (n := 10)).1 ?_
  refine callsIn_of_wp_marks Try.func42 rfl trivial ?_ rfl
  simp only [Try.ntmps42, List.size_toArray, List.length_cons, List.length_nil, Nat.reduceAdd, Nat.reduceSub, Array.replicate_succ, Array.replicate_zero, List.push_toArray, List.append_toArray, List.nil_append, List.cons_append]
  gi_wp2
  refine ⟨trivial, ?_⟩
  refine (callsIn_wide.2 (gridOf_any c x.1 x.2 _ _ (HL.out _ HS.out.two.low) h0 h48)).mono ?_
  rintro e w2 ⟨rfl, hb2⟩
  have H2 := hid (HS.out.keep hb2)
  clear hb2
  gi_wp2_with (first
    | (refine wpListIn_store_whole rfl 84 _ _ rfl w2.heap.size (gridA c x) rfl rfl 84 _ (heap_alloc_new w2 _) (infoGx c x h48) (by rw [gridA_size h48]; rfl) (gridA_one c x) ?_; generalize hW : World.setRow _ _ _ = W3; have H3 := hid (now_laid hW); clear hW)
    | (gi_at_make; refine wpListIn_make_own _ rfl _ _ 28 rfl W3.heap.size 3 i0 (.int .i64 0) 1 Try.underlying28 hi hz0 hz1 _ _ _ l.length rfl rfl (by omega) (by rw [hz2]; omega) (by unfold maxLen; omega) (Nat.le_refl _) ?_; intro w4 hown4 hgrow4; have HO4 := hid hown4; have HG4 := hid hgrow4; clear hown4 hgrow4))
  refine ⟨trivial, ?_⟩
  refine (callsIn_wide.2 (during_any w2.heap.size _ _ _ _)).mono ?_
  rintro e w5 ⟨rfl, rfl⟩
  gi_wp2
  obtain ⟨hg3, hb3⟩ := H3.out
  have z2 := H2.out.two.low.size
  have z2' := lt_of_block H2.out.fn
  have z3 := lt_of_block hg3
  have zg : W3.heap.size < w4.heap.size := (World.ownsRow.lt HO4.out _ rfl).2
  have hb4 : Below W3.heap.size W3 w4 := (Below.refl _ W3).grown HG4.out (Nat.le_refl _) (fun j e => by cases e)
  have hB5 := box2_start (w := w4.alloc (.cells #[.slice (some ⟨W3.heap.size, 0, none⟩) 0 l.length] 28)) (A := #[.pointer (some ⟨w2.heap.size, 0, none⟩)]) (B := #[.slice a l.length cap]) (T := 81) (T' := 28) (fz := (0, 0)) (fz' := (0, 0))
  have hxb := heap_alloc_new w4 (.cells #[.slice (some ⟨W3.heap.size, 0, none⟩) 0 l.length] 28)
  have hb45 := (Below.refl _ w4).alloc (Nat.le_refl _) (.cells #[.slice (some ⟨W3.heap.size, 0, none⟩) 0 l.length] 28)
  have z45 : (w4.alloc (.cells #[.slice (some ⟨W3.heap.size, 0, none⟩) 0 l.length] 28)).heap.size = w4.heap.size + 1 := by simp
  have z5 : (((w4.alloc (.cells #[.slice (some ⟨W3.heap.size, 0, none⟩) 0 l.length] 28)).alloc (.cells #[.pointer (some ⟨w2.heap.size, 0, none⟩)] 81)).alloc (.cells #[.slice a l.length cap] 28)).heap.size = w4.heap.size + 3 := by simp
  generalize ((w4.alloc (.cells #[.slice (some ⟨W3.heap.size, 0, none⟩) 0 l.length] 28)).alloc (.cells #[.pointer (some ⟨w2.heap.size, 0, none⟩)] 81)).alloc (.cells #[.slice a l.length cap] 28) = W5 at hB5 z5 ⊢
  generalize w4.alloc (.cells #[.slice (some ⟨W3.heap.size, 0, none⟩) 0 l.length] 28) = W4 at hB5 hxb hb45 z45
  have h5 := (((H2.out.keep hb3).keep hb4).keep hb45).keep hB5.low
  have hF0 : ToI w #[.int .i64 (c.R : Int), .int .i64 (c.L : Int), .int .i64 c.A, .int .i64 c.B, .int .i64 c.K, .int .i64 c.A2, .int .i64 c.B2] #[.slice a0 x.1.length cap0, .bool x.2] (.func (.func 43) #[] #[.pointer (some ⟨pb, 0, none⟩)]) w4.heap.size W3.heap.size (w4.heap.size + 3) [] W5 :=
    ⟨h5, _, (hB5.low.block _ (by omega)).trans hxb, own_kept (own_kept HO4.out hb45) hB5.low, .inl rfl⟩
  have hI : ItH c x l (w4.heap.size + 1) (w4.heap.size + 2) w2.heap.size a ba o cap (w4.heap.size + 3) W5 := by
    refine ⟨?_, ?_, ((hg3.keep hb4).keep hb45).keep hB5.low, HAD.out, fun j hj => ?_, ⟨by omega, by omega, by omega, fun h => by have := HBL.out h; omega⟩, by omega⟩
    · have := hB5.fst 0; rw [z45] at this; exact this
    · have := hB5.snd 0; rw [z45] at this; exact this
    · exact (h5.two.low.cell (p := ⟨ba, o + j, none⟩) (HBL.out (by rintro rfl; simp at hj))).trans (HCL.out j hj)
  clear h5 hB5 hg3 hb3 hb4 H3 hxb hb45
  refine range_boxed (T := 84) (F := Fence.wide) (n := 10) (xs := seqH c x l) (encs := encH c) (Kp := KpH (w4.heap.size + 3) w4.heap.size W3.heap.size) (w0 := W5) rfl (by omega) (gf := 87) (lb := #[.pointer (some ⟨w4.heap.size + 1, 0, none⟩), .pointer (some ⟨w4.heap.size + 2, 0, none⟩)]) rfl trivial (enters_of Try.func87 (by kernel_rfl) rfl)
    (fun l0 J Jx W hW hJ hJx hY h0 => during_run l0 c x l _ _ _ a ba o cap _ w4.heap.size W3.heap.size W.heap.size J Jx HOK.out HX.out HLB.out (by omega) (by omega) ⟨by omega, by omega, by omega, fun h => by have := HBL.out h; omega⟩ hJ hY W (hI.past hW.size (fun j hj => hW.block j (by omega))) (Nat.le_refl _) h0)
    (fun h k => h.trans k) (fun W l o o' hl h hc _ => KpH.put (by omega) h hc) (Below.refl _ _) (fun _ => rfl)
    (fun pre W => ToI w #[.int .i64 (c.R : Int), .int .i64 (c.L : Int), .int .i64 c.A, .int .i64 c.B, .int .i64 c.K, .int .i64 c.A2, .int .i64 c.B2] #[.slice a0 x.1.length cap0, .bool x.2] (.func (.func 43) #[] #[.pointer (some ⟨pb, 0, none⟩)]) w4.heap.size W3.heap.size (w4.heap.size + 3) (tellN f c x l (pre.length - 1)) W ∧ w4.heap.size + 3 ≤ W.heap.size) (fun _ _ => False) ?hI ?hIx ⟨hF0, by omega⟩
    (fun y a' W => ∃ nb, w4.heap.size + 3 ≤ nb ∧ GridAt W nb c y.2 ∧ a' = { tmps := #[.agg #[.int .i64 (c.R : Int), .int .i64 (c.L : Int), .int .i64 c.A, .int .i64 c.B, .int .i64 c.K, .int .i64 c.A2, .int .i64 c.B2], .agg #[.slice a0 x.1.length cap0, .bool x.2], .slice a l.length cap, .func (.func 43) #[] #[.pointer (some ⟨pb, 0, none⟩)], .pointer (some ⟨w.heap.size, 0, none⟩), .pointer (some ⟨w.heap.size + 1, 0, none⟩), undef, .pointer (some ⟨w.heap.size + 1 + 1, 0, none⟩), .slice none 0 0, .pointer (some ⟨w2.heap.size, 0, none⟩), .pointer (some ⟨w4.heap.size, 0, none⟩), .int .i64 (y.1 : Int), .pointer (some ⟨nb, 0, none⟩), .agg #[.int .i64 (c.R : Int), .int .i64 (c.L : Int), .int .i64 c.A, .int .i64 c.B, .int .i64 c.K, .int .i64 c.A2, .int .i64 c.B2], .agg #[.slice a0 x.1.length cap0, .bool x.2], .agg (gridA c (x.1, x.2)), .slice a l.length cap, .int .i64 (l.length : Int), .slice (some ⟨W3.heap.size, 0, none⟩) 0 l.length, .slice a l.length cap, .func (.func 87) #[] #[.pointer (some ⟨w4.heap.size + 1, 0, none⟩), .pointer (some ⟨w4.heap.size + 1 + 1, 0, none⟩)], .int .i64 (y.1 : Int), .agg (gridA c y.2), undef, undef, undef, undef, undef, undef, undef, undef], defers := [] }) ?hAx ?assign ?body ?done ?stop
  case assign =>
    rintro l' k y W K hx ⟨hi, hz⟩ hK
    obtain ⟨hkl, rfl⟩ := seqH_at hx
    have hw : (runS c x (l.take k)).1.length ≤ 48 := by rw [HLQ.out]; exact h48
    generalize runS c x (l.take k) = y at hx hw hK ⊢
    simp only [encH]
    gi_wp2_with (refine wpListIn_store_whole rfl 84 _ _ rfl W.heap.size (gridA c y) rfl rfl 84 _ (heap_alloc_new W _) (infoGx c y hw) (by rw [gridA_size hw]; rfl) (gridA_one c y) ?_; generalize hW : World.setRow _ _ _ = W6; have H6 := hid (now_laid hW); clear hW)
    exact hK _ _ (keeps_below H6.out.2) (kpH_below hz H6.out.2) ⟨hi.keep H6.out.2, Nat.le_trans hz H6.out.2.size⟩ ⟨W.heap.size, hz, H6.out.1, rfl⟩
  case body =>
    rintro l' k y a' W hx ⟨hi, hz⟩ ⟨nb, hnb, hgn, rfl⟩
    have hpl : ((seqH c x l).take k).length = k := by have := (List.getElem?_eq_some_iff.1 hx).1; rw [List.length_take]; omega
    have hpl2 : ((seqH c x l).take (k + 1)).length = k + 1 := by have := (List.getElem?_eq_some_iff.1 hx).1; rw [List.length_take]; omega
    obtain ⟨hkl, rfl⟩ := seqH_at hx
    rw [hpl] at hi
    rw [hpl2, Nat.add_sub_cancel]
    by_cases hk0 : k = 0
    · subst hk0
      have HI0 := hid hi
      gi_wp2
      exact ⟨keeps_below (Below.refl _ _), KpH.refl _ _ _ _, HI0.out, hz⟩
    have hk1 : (0 : Int) < (k : Int) := by omega
    have HTK := hid (show tellN f c x l k = tellN f c x l (k - 1) ++ [f (runS c x (l.take k))] by
      obtain ⟨j, rfl⟩ : ∃ j, k = j + 1 := ⟨k - 1, by omega⟩
      rw [Nat.add_sub_cancel]
      exact tellN_succ f c x l j)
    have HTL := hid (show (tellN f c x l (k - 1)).length ≤ 2000 by rw [tellN_len]; omega)
    have hwm := HWM.out k
    have hgn' : GridAt W nb c (runS c x (l.take k)) := hgn
    obtain ⟨t, ht⟩ : ∃ t, t = f (runS c x (l.take k)) := ⟨_, rfl⟩
    have HB := hid (HF.out W.drew nb (runS c x (l.take k)) hgn' hwm (HPC.out _ hi.three.two.low.drew))
    rw [← ht] at HB HTK
    generalize tellN f c x l (k - 1) = L at *
    clear ht hwm hgn' hx hpl hpl2
    obtain ⟨v, h1, h2, h5⟩ := hi.ex
    obtain ⟨va, vc, rfl⟩ := own_shape h2
    have HX1 := hid h1; have HOW := hid h2; have HOB := hid h5; have HI2 := hid hi.three
    have c0 := cell_of_row _ _ 0 _ _ _ h1
    have c1 := cell_of_row _ _ 0 _ _ _ hi.three.fn
    simp only [List.getElem?_toArray, List.getElem?_cons_zero] at c0 c1
    clear h1 h2 h5 hi
    gi_wp2
    refine wpIn_region_any (by kernel_rfl) ?_
    change wpAnyIn _ _ _ _ _ _ _ _ _ (World.drew _)
    refine wpAnyIn_ready (rs := [0, 1]) (by kernel_rfl) (by simp) ?_
    refine AllReadyIn.cons rfl (fun K hK => ?_) ?_
    · go_simp
      refine hK _ _ ?_
      clear hK K
      refine wpAnyIn_ready (rs := [1]) (by kernel_rfl) (by simp) ?_
      refine AllReadyIn.cons rfl (fun K hK => ?_) AllReadyIn.nil
      go_simp
      refine hK _ _ ?_
      clear hK K
      refine wpAnyIn_ready (rs := [2]) (by kernel_rfl) (by simp) ?_
      refine AllReadyIn.cons rfl (fun K hK => ?_) AllReadyIn.nil
      go_simp
      refine ⟨trivial, ?_⟩
      refine (callsIn_wide.2 HB.out).mono ?_
      rintro e W7 ⟨rfl, hd⟩
      refine hK _ _ ?_
      clear hK K
      have hb7' := ((Below.refl W.heap.size W).drew).trans (below_two hd)
      have HB7 := hid hb7'
      have c7 := cell_of_row W7 w4.heap.size 0 _ _ _ ((hb7'.block _ (lt_of_block HX1.out)).trans HX1.out)
      simp only [List.getElem?_toArray, List.getElem?_cons_zero] at c7
      clear hd hb7' 
      refine wpAnyIn_ready (rs := [3]) (by kernel_rfl) (by simp) ?_
      refine AllReadyIn.cons rfl (fun K hK => ?_) AllReadyIn.nil
      go_simp
      refine hK _ _ ?_
      clear hK K
      refine wpAnyIn_ready (rs := [4]) (by kernel_rfl) (by simp) ?_
      refine AllReadyIn.cons rfl (fun K hK => ?_) AllReadyIn.nil
      refine stepIn_append_where rfl (.tmp 25) (.tmp 28) 28 rfl W3.heap.size 3 i0 (.int .i64 0) 1 8 Try.underlying28 hi hz0 hz1 hz2 rfl (by decide) (.slice va L.length vc) L.length (ivs L) rfl ((own_kept HOW.out HB7.out).alloc _) ⟨W7.heap.size, 0, none⟩ 1 1 [.int .i64 t] rfl rfl (cellJ rfl) oneI1 (by decide) (by have := HTL.out; unfold maxLen; omega) (by have := HTL.out; omega) (by have := HB7.out.size; rw [World.size_alloc]; omega) ?_
      intro v8 w8 hown8 hgrow8 hw8
      refine hK _ _ ?_
      clear hK K
      have HE := hid (to_end (B0 := W5.heap.size) HI2.out HX1.out HOW.out HOB.out HB7.out hown8 hgrow8 hw8 (by omega) ⟨zg, by omega⟩ (by omega) hz)
      have hx8 := to_box HX1.out HOW.out HOB.out HB7.out hgrow8
      have c8 := cell_of_row _ _ 0 _ _ _ hx8
      have f8 := frozen_of_row _ _ 0 _ _ hx8
      simp only [List.getElem?_toArray, List.getElem?_cons_zero] at c8
      obtain ⟨a8, cc8, rfl⟩ := own_shape hown8
      refine wpAnyIn_ready (rs := [5]) (by kernel_rfl) (by simp) ?_
      refine AllReadyIn.cons rfl (fun K hK => ?_) AllReadyIn.nil
      go_simp
      refine hK _ _ ?_
      clear hK K
      refine wpAnyIn_done (by kernel_rfl) ?_ _
      obtain ⟨e1, e2, e3⟩ := HE.out
      refine ⟨e2, e3, ?_, ?_⟩
      · rw [HTK.out]; exact e1
      · have s1 := hgrow8.size
        have s2 := HB7.out.size
        simp at s1 ⊢
        omega
    · refine AllReadyIn.cons rfl (fun K hK => ?_) AllReadyIn.nil
      go_simp
      refine hK _ _ ?_
      clear hK K
      refine wpAnyIn_ready (rs := [0, 2]) (by kernel_rfl) (by simp) ?_
      refine AllReadyIn.cons rfl (fun K hK => ?_) ?_
      · go_simp
        refine hK _ _ ?_
        clear hK K
        refine wpAnyIn_ready (rs := [2]) (by kernel_rfl) (by simp) ?_
        refine AllReadyIn.cons rfl (fun K hK => ?_) AllReadyIn.nil
        go_simp
        refine ⟨trivial, ?_⟩
        refine (callsIn_wide.2 HB.out).mono ?_
        rintro e W7 ⟨rfl, hd⟩
        refine hK _ _ ?_
        clear hK K
        have hb7' := ((Below.refl W.heap.size W).drew).trans (below_two hd)
        have HB7 := hid hb7'
        have c7 := cell_of_row W7 w4.heap.size 0 _ _ _ ((hb7'.block _ (lt_of_block HX1.out)).trans HX1.out)
        simp only [List.getElem?_toArray, List.getElem?_cons_zero] at c7
        clear hd hb7' 
        refine wpAnyIn_ready (rs := [3]) (by kernel_rfl) (by simp) ?_
        refine AllReadyIn.cons rfl (fun K hK => ?_) AllReadyIn.nil
        go_simp
        refine hK _ _ ?_
        clear hK K
        refine wpAnyIn_ready (rs := [4]) (by kernel_rfl) (by simp) ?_
        refine AllReadyIn.cons rfl (fun K hK => ?_) AllReadyIn.nil
        refine stepIn_append_where rfl (.tmp 25) (.tmp 28) 28 rfl W3.heap.size 3 i0 (.int .i64 0) 1 8 Try.underlying28 hi hz0 hz1 hz2 rfl (by decide) (.slice va L.length vc) L.length (ivs L) rfl ((own_kept HOW.out HB7.out).alloc _) ⟨W7.heap.size, 0, none⟩ 1 1 [.int .i64 t] rfl rfl (cellJ rfl) oneI1 (by decide) (by have := HTL.out; unfold maxLen; omega) (by have := HTL.out; omega) (by have := HB7.out.size; rw [World.size_alloc]; omega) ?_
        intro v8 w8 hown8 hgrow8 hw8
        refine hK _ _ ?_
        clear hK K
        have HE := hid (to_end (B0 := W5.heap.size) HI2.out HX1.out HOW.out HOB.out HB7.out hown8 hgrow8 hw8 (by omega) ⟨zg, by omega⟩ (by omega) hz)
        have hx8 := to_box HX1.out HOW.out HOB.out HB7.out hgrow8
        have c8 := cell_of_row _ _ 0 _ _ _ hx8
        have f8 := frozen_of_row _ _ 0 _ _ hx8
        simp only [List.getElem?_toArray, List.getElem?_cons_zero] at c8
        obtain ⟨a8, cc8, rfl⟩ := own_shape hown8
        refine wpAnyIn_ready (rs := [5]) (by kernel_rfl) (by simp) ?_
        refine AllReadyIn.cons rfl (fun K hK => ?_) AllReadyIn.nil
        go_simp
        refine hK _ _ ?_
        clear hK K
        refine wpAnyIn_done (by kernel_rfl) ?_ _
        obtain ⟨e1, e2, e3⟩ := HE.out
        refine ⟨e2, e3, ?_, ?_⟩
        · rw [HTK.out]; exact e1
        · have s1 := hgrow8.size
          have s2 := HB7.out.size
          simp at s1 ⊢
          omega
      · refine AllReadyIn.cons rfl (fun K hK => ?_) AllReadyIn.nil
        go_simp
        refine ⟨trivial, ?_⟩
        refine (callsIn_wide.2 HB.out).mono ?_
        rintro e W7 ⟨rfl, hd⟩
        refine hK _ _ ?_
        clear hK K
        have hb7' := ((Below.refl W.heap.size W).drew).trans (below_two hd)
        have HB7 := hid hb7'
        have c7 := cell_of_row W7 w4.heap.size 0 _ _ _ ((hb7'.block _ (lt_of_block HX1.out)).trans HX1.out)
        simp only [List.getElem?_toArray, List.getElem?_cons_zero] at c7
        clear hd hb7' 
        refine wpAnyIn_ready (rs := [0, 3]) (by kernel_rfl) (by simp) ?_
        refine AllReadyIn.cons rfl (fun K hK => ?_) ?_
        · go_simp
          refine hK _ _ ?_
          clear hK K
          refine wpAnyIn_ready (rs := [3]) (by kernel_rfl) (by simp) ?_
          refine AllReadyIn.cons rfl (fun K hK => ?_) AllReadyIn.nil
          go_simp
          refine hK _ _ ?_
          clear hK K
          refine wpAnyIn_ready (rs := [4]) (by kernel_rfl) (by simp) ?_
          refine AllReadyIn.cons rfl (fun K hK => ?_) AllReadyIn.nil
          refine stepIn_append_where rfl (.tmp 25) (.tmp 28) 28 rfl W3.heap.size 3 i0 (.int .i64 0) 1 8 Try.underlying28 hi hz0 hz1 hz2 rfl (by decide) (.slice va L.length vc) L.length (ivs L) rfl ((own_kept HOW.out HB7.out).alloc _) ⟨W7.heap.size, 0, none⟩ 1 1 [.int .i64 t] rfl rfl (cellJ rfl) oneI1 (by decide) (by have := HTL.out; unfold maxLen; omega) (by have := HTL.out; omega) (by have := HB7.out.size; rw [World.size_alloc]; omega) ?_
          intro v8 w8 hown8 hgrow8 hw8
          refine hK _ _ ?_
          clear hK K
          have HE := hid (to_end (B0 := W5.heap.size) HI2.out HX1.out HOW.out HOB.out HB7.out hown8 hgrow8 hw8 (by omega) ⟨zg, by omega⟩ (by omega) hz)
          have hx8 := to_box HX1.out HOW.out HOB.out HB7.out hgrow8
          have c8 := cell_of_row _ _ 0 _ _ _ hx8
          have f8 := frozen_of_row _ _ 0 _ _ hx8
          simp only [List.getElem?_toArray, List.getElem?_cons_zero] at c8
          obtain ⟨a8, cc8, rfl⟩ := own_shape hown8
          refine wpAnyIn_ready (rs := [5]) (by kernel_rfl) (by simp) ?_
          refine AllReadyIn.cons rfl (fun K hK => ?_) AllReadyIn.nil
          go_simp
          refine hK _ _ ?_
          clear hK K
          refine wpAnyIn_done (by kernel_rfl) ?_ _
          obtain ⟨e1, e2, e3⟩ := HE.out
          refine ⟨e2, e3, ?_, ?_⟩
          · rw [HTK.out]; exact e1
          · have s1 := hgrow8.size
            have s2 := HB7.out.size
            simp at s1 ⊢
            omega
        · refine AllReadyIn.cons rfl (fun K hK => ?_) AllReadyIn.nil
          go_simp
          refine hK _ _ ?_
          clear hK K
          have c9 := keep_cell ((Below.refl _ W7).alloc (Nat.le_refl _) (.cells #[.int .i64 t] 3)) c7
          refine wpAnyIn_ready (rs := [0]) (by kernel_rfl) (by simp) ?_
          refine AllReadyIn.cons rfl (fun K hK => ?_) AllReadyIn.nil
          go_simp
          refine hK _ _ ?_
          clear hK K
          refine wpAnyIn_ready (rs := [4]) (by kernel_rfl) (by simp) ?_
          refine AllReadyIn.cons rfl (fun K hK => ?_) AllReadyIn.nil
          refine stepIn_append_where rfl (.tmp 25) (.tmp 28) 28 rfl W3.heap.size 3 i0 (.int .i64 0) 1 8 Try.underlying28 hi hz0 hz1 hz2 rfl (by decide) (.slice va L.length vc) L.length (ivs L) rfl ((own_kept HOW.out HB7.out).alloc _) ⟨W7.heap.size, 0, none⟩ 1 1 [.int .i64 t] rfl rfl (cellJ rfl) oneI1 (by decide) (by have := HTL.out; unfold maxLen; omega) (by have := HTL.out; omega) (by have := HB7.out.size; rw [World.size_alloc]; omega) ?_
          intro v8 w8 hown8 hgrow8 hw8
          refine hK _ _ ?_
          clear hK K
          have HE := hid (to_end (B0 := W5.heap.size) HI2.out HX1.out HOW.out HOB.out HB7.out hown8 hgrow8 hw8 (by omega) ⟨zg, by omega⟩ (by omega) hz)
          have hx8 := to_box HX1.out HOW.out HOB.out HB7.out hgrow8
          have c8 := cell_of_row _ _ 0 _ _ _ hx8
          have f8 := frozen_of_row _ _ 0 _ _ hx8
          simp only [List.getElem?_toArray, List.getElem?_cons_zero] at c8
          obtain ⟨a8, cc8, rfl⟩ := own_shape hown8
          refine wpAnyIn_ready (rs := [5]) (by kernel_rfl) (by simp) ?_
          refine AllReadyIn.cons rfl (fun K hK => ?_) AllReadyIn.nil
          go_simp
          refine hK _ _ ?_
          clear hK K
          refine wpAnyIn_done (by kernel_rfl) ?_ _
          obtain ⟨e1, e2, e3⟩ := HE.out
          refine ⟨e2, e3, ?_, ?_⟩
          · rw [HTK.out]; exact e1
          · have s1 := hgrow8.size
            have s2 := HB7.out.size
            simp at s1 ⊢
            omega
  case done =>
    rintro D W hD ⟨hi, hz⟩ hK
    rw [seqH_len, Nat.add_sub_cancel] at hi
    have HK := hid hK
    have htl := tellN_len f c x l l.length
    obtain ⟨v, h1, h2, h5⟩ := hi.ex
    obtain ⟨va, vc, rfl⟩ := own_shape h2
    have hrd := own_rowI h2 (by omega)
    rw [htl] at hrd h1
    have HRD := hid hrd
    have HLW := hid hi.three.two.low
    have HTL := hid htl
    have c0 := cell_of_row _ _ 0 _ _ _ h1
    simp only [List.getElem?_toArray, List.getElem?_cons_zero] at c0
    clear h1 h2 h5 hi hrd hK htl
    gi_wp2
    refine leaves_marks (B := w.heap.size) [D] W ⟨by simp, fun d hd => by rw [List.mem_singleton] at hd; subst hd; exact ⟨by omega, HK.out⟩⟩ fun W9 hb9 hc9 => ?_
    refine ⟨.slice va l.length vc, by simp [results, Try.results42, go_sem], va, vc, by rw [HTL.out], ?_, HLW.out.trans hb9⟩
    rw [HTL.out]
    exact HRD.out.cells hc9
  case stop => rintro D k W hD h; exact h.elim
  case hI =>
    rintro pre A B' row ⟨h1, h2⟩ hgr hr
    exact ⟨h1.turn (B0 := W5.heap.size) (by omega) (by omega) hgr hr, Nat.le_trans h2 hgr.size⟩
  case hIx => rintro pre A B' row h; exact h.elim
  case hAx =>
    rintro y a' W l' o1 o2 ⟨nb, h1, h2, h3⟩ hl' ho hc'
    exact ⟨nb, h1, (World.putObj_heap_other (by rintro rfl; rw [h2] at ho; cases ho; cases hc')).trans h2, h3⟩
end Go.Proofs.Ytedfajokiblfhaa
