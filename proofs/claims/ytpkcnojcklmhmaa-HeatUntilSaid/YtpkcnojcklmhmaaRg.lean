/- Walk of Until where nothing is wrong: contract. -/
import Derived.Test.YtpkcnojcklmhmaaRf
import Derived.Test.YtpkcnojcklmhmaaEa
import Derived.Test.YtpkcnojcklmhmaaHk
import Derived.Test.YtpkcnojcklmhmaaQd
namespace Go.Proofs.Ytpkcnojcklmhmaa
open Go.RowKit Go.Shelf
attribute [local go_sem] Oper.semAt_some

/-- Until's five boxes, whole. -/
structure U5 (w w1 : World) (A B : Array Value) (t p q : Value) : Prop where
  can : w1.heap[w.heap.size]? = some (.cells A 23 (0, 0))
  bod : w1.heap[w.heap.size + 1]? = some (.cells B 26 (0, 0))
  tbx : w1.heap[w.heap.size + 1 + 1]? = some (.cells #[t] 3 (0, 0))
  ra : w1.heap[w.heap.size + 1 + 1 + 1]? = some (.cells #[p] 3 (0, 0))
  rb : w1.heap[w.heap.size + 1 + 1 + 1 + 1]? = some (.cells #[q] 29 (0, 0))
  low : Below w.heap.size w w1
section
variable {w w1 w2 : World} {A B : Array Value} {t p q : Value}
theorem at_more {W : World} {b : Nat} {o o' : Obj} (h : W.heap[b]? = some o) : (W.alloc o').heap[b]? = some o := (Below.heap_alloc _ _ _ (lt_of_block h)).trans h
theorem u5_start : U5 w (((((w.alloc (.cells A 23)).alloc (.cells B 26)).alloc (.cells #[t] 3)).alloc (.cells #[p] 3)).alloc (.cells #[q] 29)) A B t p q :=
  ⟨at_more (at_more (at_more (at_more (heap_alloc_new w _)))), at_more (at_more (at_more (new_at (by simp)))), at_more (at_more (new_at (by simp))), at_more (new_at (by simp)), new_at (by simp), ((((((Below.refl _ _).alloc (Nat.le_refl _) _).alloc (by simp) _).alloc (by simp; omega) _).alloc (by simp; omega) _).alloc (by simp; omega) _)⟩
theorem U5.map (h : U5 w w1 A B t p q) (hk : ∀ j, j < w.heap.size + 5 → j < w1.heap.size → w2.heap[j]? = w1.heap[j]?) (hb : Below w.heap.size w w2) : U5 w w2 A B t p q :=
  ⟨(hk _ (by omega) (lt_of_block h.can)).trans h.can, (hk _ (by omega) (lt_of_block h.bod)).trans h.bod, (hk _ (by omega) (lt_of_block h.tbx)).trans h.tbx, (hk _ (by omega) (lt_of_block h.ra)).trans h.ra, (hk _ (by omega) (lt_of_block h.rb)).trans h.rb, hb⟩
theorem U5.keep (h : U5 w w1 A B t p q) (hb : Below w1.heap.size w1 w2) : U5 w w2 A B t p q := h.map (fun j _ h2 => hb.block j h2) (bstep h.low h.low.size hb)
theorem U5.turn {B0 : Nat} {row : Option Nat} (h : U5 w w1 A B t p q) (h0 : w.heap.size + 5 ≤ B0) (hg : w1.grownBy w2 row) (hr : ∀ j, row = some j → B0 ≤ j) : U5 w w2 A B t p q :=
  h.map (fun j h1 h2 => hg.block j h2 (fun e => by have := hr _ e.symm; omega)) (h.low.grown hg h.low.size (fun j e => by have := hr j e; omega))
theorem U5.set (h : U5 w w1 A B t p q) (p' q' : Value) : U5 w ((w1.setCell ⟨w.heap.size + 1 + 1 + 1, 0, none⟩ p').setCell ⟨w.heap.size + 1 + 1 + 1 + 1, 0, none⟩ q') A B t p' q' := by
  have h1 := heap_setCell_same w1 (w.heap.size + 1 + 1 + 1) 0 _ _ p' h.ra
  refine ⟨?_, ?_, ?_, ?_, ?_, (h.low.setCell (p := ⟨w.heap.size + 1 + 1 + 1, 0, none⟩) (by show w.heap.size ≤ w.heap.size + 1 + 1 + 1; omega) _).setCell (p := ⟨w.heap.size + 1 + 1 + 1 + 1, 0, none⟩) (by show w.heap.size ≤ w.heap.size + 1 + 1 + 1 + 1; omega) _⟩
  · rw [heap_setCell_other _ _ _ _ (show w.heap.size ≠ w.heap.size + 1 + 1 + 1 + 1 by omega), heap_setCell_other _ _ _ _ (show w.heap.size ≠ w.heap.size + 1 + 1 + 1 by omega)]; exact h.can
  · rw [heap_setCell_other _ _ _ _ (show w.heap.size + 1 ≠ w.heap.size + 1 + 1 + 1 + 1 by omega), heap_setCell_other _ _ _ _ (show w.heap.size + 1 ≠ w.heap.size + 1 + 1 + 1 by omega)]; exact h.bod
  · rw [heap_setCell_other _ _ _ _ (show w.heap.size + 1 + 1 ≠ w.heap.size + 1 + 1 + 1 + 1 by omega), heap_setCell_other _ _ _ _ (show w.heap.size + 1 + 1 ≠ w.heap.size + 1 + 1 + 1 by omega)]; exact h.tbx
  · rw [heap_setCell_other _ _ _ _ (show w.heap.size + 1 + 1 + 1 ≠ w.heap.size + 1 + 1 + 1 + 1 by omega)]; exact h1
  · exact heap_setCell_same _ (w.heap.size + 1 + 1 + 1 + 1) 0 _ _ q' ((heap_setCell_other _ _ _ _ (show w.heap.size + 1 + 1 + 1 + 1 ≠ w.heap.size + 1 + 1 + 1 by omega)).trans h.rb)
theorem U5.res (h : U5 w w1 A B t p q) : w1.cell? ⟨w.heap.size + 1 + 1 + 1, 0, none⟩ = some p ∧ w1.cell? ⟨w.heap.size + 1 + 1 + 1 + 1, 0, none⟩ = some q ∧ w1.frozen? ⟨w.heap.size + 1 + 1 + 1, 0, none⟩ = false ∧ w1.frozen? ⟨w.heap.size + 1 + 1 + 1 + 1, 0, none⟩ = false :=
  ⟨cell_of_row _ _ 0 _ _ _ h.ra, cell_of_row _ _ 0 _ _ _ h.rb, frozen_of_row _ _ 0 _ _ h.ra, frozen_of_row _ _ 0 _ _ h.rb⟩
theorem U5.ten {c0 c1 c2 c3 c4 c5 c6 d0 d1 : Value} (h : U5 w w1 #[c0, c1, c2, c3, c4, c5, c6] #[d0, d1] t p q) :
    (w1.cell? ⟨w.heap.size, 0, none⟩ = some c0 ∧ w1.cell? ⟨w.heap.size, 1, none⟩ = some c1 ∧ w1.cell? ⟨w.heap.size, 2, none⟩ = some c2 ∧ w1.cell? ⟨w.heap.size, 3, none⟩ = some c3 ∧ w1.cell? ⟨w.heap.size, 4, none⟩ = some c4 ∧ w1.cell? ⟨w.heap.size, 5, none⟩ = some c5 ∧ w1.cell? ⟨w.heap.size, 6, none⟩ = some c6) ∧
    (w1.cell? ⟨w.heap.size + 1, 0, none⟩ = some d0 ∧ w1.cell? ⟨w.heap.size + 1, 1, none⟩ = some d1) ∧ w1.cell? ⟨w.heap.size + 1 + 1, 0, none⟩ = some t :=
  ⟨⟨cell_of_row _ _ 0 _ _ _ h.can, cell_of_row _ _ 1 _ _ _ h.can, cell_of_row _ _ 2 _ _ _ h.can, cell_of_row _ _ 3 _ _ _ h.can, cell_of_row _ _ 4 _ _ _ h.can, cell_of_row _ _ 5 _ _ _ h.can, cell_of_row _ _ 6 _ _ _ h.can⟩, ⟨cell_of_row _ _ 0 _ _ _ h.bod, cell_of_row _ _ 1 _ _ _ h.bod⟩, cell_of_row _ _ 0 _ _ _ h.tbx⟩
end
theorem two_at {W : World} {n : Nat} (s t : Int) (T : TypeId) (h : W.heap.size = n) : RowI (W.alloc (.cells #[.int .i64 s, .int .i64 t] T)) (.slice (some ⟨n, 0, none⟩) 2 2) [s, t] := by
  subst h
  refine .inr ⟨W.heap.size, 0, 2, rfl, by simp [maxLen], fun k hk => ?_⟩
  have := cell_alloc_new W #[.int .i64 s, .int .i64 t] T (0, 0) k
  rw [Nat.zero_add, this]
  match k, hk with
  | 0, _ => rfl
  | 1, _ => rfl
theorem one_get {W : World} {t : Int} {T : TypeId} : (W.alloc (.cells #[.int .i64 t] T)).cell? ⟨W.heap.size, 0, none⟩ = some (.int .i64 t) := cell_alloc_new W _ T (0, 0) 0
theorem repeat_2000 (w : World) (b : Nat) (t : Int) (hc : w.cell? ⟨b, 0, none⟩ = some (.int .i64 t)) :
    Calls Try.prog 61 #[.slice (some ⟨b, 0, none⟩) 1 1, .int .i64 2000] w (RepP w (List.replicate 2000 t)) := repeat_any w b 0 1 2000 t hc (by omega) (by omega)
set_option maxRecDepth 20000 in
set_option maxHeartbeats 8000000 in
theorem huntil_ok (c : Cn) (x : Bd) (v : Value) (bath t : Int) (w : World) (hcv : c.V) (hbb : bothB c.R c.L c.A c.B c.K c.A2 c.B2 x.1 x.2 = true) (ho : (okT bath && okT t) = true) (hl : RowI w v x.1) :
    Calls Try.prog 25 #[.agg #[.int .i64 (c.R : Int), .int .i64 (c.L : Int), .int .i64 c.A, .int .i64 c.B, .int .i64 c.K, .int .i64 c.A2, .int .i64 c.B2], .agg #[v, .bool x.2], .int .i64 bath, .int .i64 t] w (PairU (untV c x bath t) w) := by
  have HL := hid (fun w1 (g : Below w.heap.size w w1) => hl.keep g)
  obtain ⟨h1, _, h3⟩ := bodyV_iff.1 (by rw [← bothB_cn c hcv]; exact hbb)
  obtain ⟨p1, p2⟩ := hcv.ok.p
  have h48 : x.1.length ≤ 48 := by omega
  have h0 : 0 < x.1.length := by omega
  have HCHK := hid (show chkE (bothB c.R c.L c.A c.B c.K c.A2 c.B2 x.1 x.2) [bath, t] = 0 by rw [hbb]; exact chkE_ok (by unfold okL; simpa using ho) (by simp))
  rw [Bool.and_eq_true] at ho
  have hb1 : -50000 ≤ bath ∧ bath ≤ 200000 := by simpa [okT] using ho.1
  have HB := hid hb1
  have HX := hid (show Warm c x from ⟨h1, okL_bd h3⟩)
  have HOK := hid hcv.ok
  obtain ⟨a0, cap0, rfl⟩ := hl.shape
  have HS := hid (u5_start (w := w) (A := #[.int .i64 (c.R : Int), .int .i64 (c.L : Int), .int .i64 c.A, .int .i64 c.B, .int .i64 c.K, .int .i64 c.A2, .int .i64 c.B2]) (B := #[.slice a0 x.1.length cap0, .bool x.2]) (t := .int .i64 t) (p := .int .i64 0) (q := .int .i64 0))
  clear hl hcv hbb ho h1 h3 hb1
  refine (callsIn_wide (n := 10)).1 ?_
  refine callsIn_of_wp_marks Try.func25 rfl trivial ?_ rfl
  simp only [Try.ntmps25, List.size_toArray, List.length_cons, List.length_nil, Nat.reduceAdd, Nat.reduceSub, Array.replicate_succ, Array.replicate_zero, List.push_toArray, List.append_toArray, List.nil_append, List.cons_append]
  gi_wp2
  refine ⟨trivial, ?_⟩
  refine (callsIn_wide.2 (check_any _ _ _ _ _ _ _ _ _ x.1 _ _ [bath, t] (HL.out _ (HS.out.low.alloc HS.out.low.size _)) (two_at _ _ _ (by simp)))).mono ?_
  rintro e w1 ⟨rfl, hb⟩
  rw [HCHK.out]
  have H1 := hid (HS.out.keep (balloc hb))
  clear hb HS
  obtain ⟨⟨k0, k1, k2, k3, k4, k5, k6⟩, ⟨k7, k8⟩, k9⟩ := H1.out.ten
  gi_wp2
  refine ⟨trivial, ?_⟩
  refine (callsIn_wide.2 (gridOf_any c x.1 x.2 _ _ (HL.out _ H1.out.low) h0 h48)).mono ?_
  rintro e w2 ⟨rfl, hb⟩
  have H2 := hid (H1.out.keep hb)
  clear hb k0 k1 k2 k3 k4 k5 k6 k7 k8 k9
  gi_wp2_with (refine wpListIn_store_whole rfl 82 _ _ rfl w2.heap.size (gridA c x) rfl rfl 82 _ (heap_alloc_new w2 _) (infoGx c x h48) (by rw [gridA_size h48]; rfl) (gridA_one c x) ?_; generalize hW : World.setRow _ _ _ = W3; have H3 := hid (now_laid hW); clear hW)
  refine ⟨trivial, ?_⟩
  refine (callsIn_wide.2 (repeat_2000 _ W3.heap.size bath one_get)).mono ?_
  rintro e w4 ⟨g, rfl, hg1, hg2, hb⟩
  have HB4 := hid hb; have HG1 := hid hg1; have HG2 := hid hg2
  clear hb hg1 hg2
  gi_wp2
  refine ⟨trivial, ?_⟩
  refine (callsIn_wide.2 (during_any w2.heap.size _ _ _ _)).mono ?_
  rintro e w5 ⟨rfl, rfl⟩
  gi_wp2
  obtain ⟨hg3, hb3⟩ := H3.out
  have z2 := H2.out.low.size
  have z2' := lt_of_block H2.out.rb
  have z3 := lt_of_block hg3
  have z4 := HB4.out.size
  have zg := lt_of_block HG2.out
  have hb4 : Below W3.heap.size W3 w4 := balloc HB4.out
  have hB5 := box2_start (w := w4) (A := #[.pointer (some ⟨w2.heap.size, 0, none⟩)]) (B := #[.slice (some ⟨g, 0, none⟩) 2000 2000]) (T := 90) (T' := 24) (fz := (0, 0)) (fz' := (0, 0))
  have z5 : ((w4.alloc (.cells #[.pointer (some ⟨w2.heap.size, 0, none⟩)] 90)).alloc (.cells #[.slice (some ⟨g, 0, none⟩) 2000 2000] 24)).heap.size = w4.heap.size + 2 := by simp
  generalize (w4.alloc (.cells #[.pointer (some ⟨w2.heap.size, 0, none⟩)] 90)).alloc (.cells #[.slice (some ⟨g, 0, none⟩) 2000 2000] 24) = W5 at hB5 z5 ⊢
  have h5 := ((H2.out.keep hb3).keep hb4).keep hB5.low
  have hg1 := HG1.out
  simp only [World.size_alloc] at hg1 z4
  obtain ⟨l, hl⟩ : ∃ l, l = List.replicate 2000 bath := ⟨_, rfl⟩
  have hg2 := HG2.out
  rw [← hl] at hg2
  have hll : l.length = 2000 := by rw [hl]; simp
  have hbd : ∀ b ∈ l, -50000 ≤ b ∧ b ≤ 200000 := fun b hb => by rw [hl] at hb; obtain rfl := (List.mem_replicate.1 hb).2; exact HB.out
  have HTK := hid (fun k (hk : k ≤ 2000) => show runS c x (l.take k) = stepN c x bath k by rw [hl]; exact stepN_take c x bath hk)
  have hI : ItH c x l w4.heap.size (w4.heap.size + 1) w2.heap.size (some ⟨g, 0, none⟩) g 0 2000 (w4.heap.size + 2) W5 := by
    refine ⟨hB5.fst 0, by rw [hll]; exact hB5.snd 0, (hg3.keep hb4).keep hB5.low, .inr rfl, fun j hj => ?_, ⟨by omega, by omega, by omega, fun _ => by omega⟩, by omega⟩
    have hcj := hB5.low.cell (p := ⟨g, 0 + j, none⟩) zg
    rw [hcj, Nat.zero_add, cell_of_row _ _ j _ _ _ hg2]
    simp [ivs, hj]
  have H5 := hid h5
  have HLL := hid hll
  have HBD := hid hbd
  clear h5 hB5 hg3 hb3 H3 hg2 hbd
  refine range_boxed (T := 82) (F := Fence.wide) (n := 10) (xs := seqH c x l) (encs := encH c) (Kp := KpH (w4.heap.size + 2) (w.heap.size + 1 + 1) (w.heap.size + 1 + 1)) (w0 := W5) rfl (by omega) (gf := 84) (lb := #[.pointer (some ⟨w4.heap.size, 0, none⟩), .pointer (some ⟨w4.heap.size + 1, 0, none⟩)]) rfl trivial (enters_of Try.func84 (by kernel_rfl) rfl)
    (fun l0 J Jx W hW hJ hJx hY h0 => during_run l0 c x l _ _ _ (some ⟨g, 0, none⟩) g 0 2000 _ (w.heap.size + 1 + 1) (w.heap.size + 1 + 1) W.heap.size J Jx HOK.out HX.out HBD.out (by rw [HLL.out]; omega) (by omega) ⟨by omega, by omega, by omega, fun _ => by omega⟩ hJ hY W (hI.past hW.size (fun j hj => hW.block j (by omega))) (Nat.le_refl _) h0)
    (fun h k => h.trans k) (fun W l o o' hl h hc _ => KpH.put (by omega) h hc) (Below.refl _ _) (fun _ => rfl)
    (fun pre W => U5 w W #[.int .i64 (c.R : Int), .int .i64 (c.L : Int), .int .i64 c.A, .int .i64 c.B, .int .i64 c.K, .int .i64 c.A2, .int .i64 c.B2] #[.slice a0 x.1.length cap0, .bool x.2] (.int .i64 t) (.int .i64 0) (.int .i64 0) ∧ w4.heap.size + 2 ≤ W.heap.size ∧ ∀ m, m < pre.length → coldN c x bath m < t)
    (fun _ W => ∃ n : Nat, U5 w W #[.int .i64 (c.R : Int), .int .i64 (c.L : Int), .int .i64 c.A, .int .i64 c.B, .int .i64 c.K, .int .i64 c.A2, .int .i64 c.B2] #[.slice a0 x.1.length cap0, .bool x.2] (.int .i64 t) (.int .i64 (n : Int)) (.int .i64 0) ∧ untV c x bath t = ((n : Int), 0)) ?hI ?hIx ⟨H5.out, by omega, fun m hm => absurd hm (Nat.not_lt_zero _)⟩
    (fun y a' W => ∃ nb, w4.heap.size + 2 ≤ nb ∧ GridAt W nb c y.2 ∧ a' = { tmps := #[.agg #[.int .i64 (c.R : Int), .int .i64 (c.L : Int), .int .i64 c.A, .int .i64 c.B, .int .i64 c.K, .int .i64 c.A2, .int .i64 c.B2], .agg #[.slice a0 x.1.length cap0, .bool x.2], .int .i64 bath, .int .i64 t, .pointer (some ⟨w.heap.size, 0, none⟩), .pointer (some ⟨w.heap.size + 1, 0, none⟩), undef, .pointer (some ⟨w.heap.size + 1 + 1, 0, none⟩), .pointer (some ⟨w.heap.size + 1 + 1 + 1, 0, none⟩), .pointer (some ⟨w.heap.size + 1 + 1 + 1 + 1, 0, none⟩), .int .i64 0, .pointer (some ⟨w2.heap.size, 0, none⟩), .int .i64 (y.1 : Int), .pointer (some ⟨nb, 0, none⟩), undef, undef, .agg #[.int .i64 (c.R : Int), .int .i64 (c.L : Int), .int .i64 c.A, .int .i64 c.B, .int .i64 c.K, .int .i64 c.A2, .int .i64 c.B2], .agg #[.slice a0 x.1.length cap0, .bool x.2], .int .i64 bath, .int .i64 t, .slice (some ⟨w.heap.size + 1 + 1 + 1 + 1 + 1, 0, none⟩) 2 2, .int .i64 0, .int .i64 0, .bool false, undef, .agg #[.int .i64 (c.R : Int), .int .i64 (c.L : Int), .int .i64 c.A, .int .i64 c.B, .int .i64 c.K, .int .i64 c.A2, .int .i64 c.B2], .agg #[.slice a0 x.1.length cap0, .bool x.2], .agg (gridA c (x.1, x.2)), .int .i64 bath, .slice (some ⟨W3.heap.size, 0, none⟩) 1 1, .slice (some ⟨g, 0, none⟩) 2000 2000, .func (.func 84) #[] #[.pointer (some ⟨w4.heap.size, 0, none⟩), .pointer (some ⟨w4.heap.size + 1, 0, none⟩)], .int .i64 (y.1 : Int), .agg (gridA c y.2), undef, undef, undef, undef, undef, undef, undef, undef], defers := [] }) ?hAx ?assign ?body ?done ?stop
  case assign =>
    rintro l' k y W K hx ⟨hi, hz, hm⟩ hK
    obtain ⟨hkl, rfl⟩ := seqH_at hx
    have hw : (runS c x (l.take k)).1.length ≤ 48 := by have := (HX.out.run HOK.out (l := l.take k) (fun b hb => HBD.out b (List.mem_of_mem_take hb))).len; unfold Cn.P at p2; omega
    generalize runS c x (l.take k) = y at hx hw hK ⊢
    simp only [encH]
    gi_wp2_with (refine wpListIn_store_whole rfl 82 _ _ rfl W.heap.size (gridA c y) rfl rfl 82 _ (heap_alloc_new W _) (infoGx c y hw) (by rw [gridA_size hw]; rfl) (gridA_one c y) ?_; generalize hW : World.setRow _ _ _ = W6; have H6 := hid (now_laid hW); clear hW)
    exact hK _ _ (keeps_below H6.out.2) (kpH_below hz H6.out.2) ⟨hi.keep H6.out.2, Nat.le_trans hz H6.out.2.size, hm⟩ ⟨W.heap.size, hz, H6.out.1, rfl⟩
  case body =>
    rintro l' k y a' W hx ⟨hi, hz, hm⟩ ⟨nb, hnb, hgn, rfl⟩
    obtain ⟨hkl, rfl⟩ := seqH_at hx
    rw [HLL.out] at hkl
    have hgn' : GridAt W nb c (runS c x (l.take k)) := hgn
    have hlen : ((seqH c x l).take k).length = k := by rw [List.length_take, seqH_len, HLL.out]; omega
    rw [hlen] at hm
    rw [HTK.out k hkl] at hgn'
    simp only [HTK.out k hkl]
    have hgn := hgn'
    have hwm := stepN_warm HOK.out HX.out HB.out.1 HB.out.2 k
    have hw : (stepN c x bath k).1.length ≤ 48 := by have := hwm.len; unfold Cn.P at p2; omega
    obtain ⟨mn, hmn⟩ : ∃ m, m = coldN c x bath k := ⟨_, rfl⟩
    have HCL := hid (coldest_any nb c (stepN c x bath k) W (hgn.read hw) HOK.out hwm)
    rw [show (bestT ltB (stepN c x bath k).1 (stepN c x bath k).1.length).2 = mn from hmn.symm] at HCL
    obtain ⟨bp, hbp⟩ : ∃ b, b = (bestT ltB (stepN c x bath k).1 (stepN c x bath k).1.length).1 := ⟨_, rfl⟩
    rw [← hbp] at HCL
    have HI' := hid hi; have HM := hid hm; have HMN := hid hmn
    generalize stepN c x bath k = y at HCL hgn hw ⊢
    clear hi hm hgn hbp hmn hwm hx hw
    gi_wp2
    refine ⟨trivial, ?_⟩
    refine (callsIn_wide.2 HCL.out).mono ?_
    rintro e W6 ⟨rfl, hd⟩
    have hb6 := below_two hd
    have H6 := hid (HI'.out.keep hb6)
    have k9 := H6.out.ten.2.2
    have hK6 := keeps_below (B := W5.heap.size) hb6
    have hz6 := hb6.size
    have HP6 := hid (kpH_below (x0 := w.heap.size + 1 + 1) (y0 := w.heap.size + 1 + 1) hz hb6)
    obtain ⟨r0, r1, r2, r3⟩ := H6.out.res
    clear hb6 hd
    by_cases ht : t ≤ mn
    · have HV := hid (untV_at (n := k) hkl (by rw [← HMN.out]; exact ht) (fun m hm => by have := HM.out m hm; omega))
      gi_wp2
      refine ⟨hK6.trans ?_, k, H6.out.set _ _, HV.out⟩
      exact ((KeepsOthers.setCell W6 ⟨w.heap.size + 1 + 1 + 1, 0, none⟩ _).trans (KeepsOthers.setCell _ ⟨w.heap.size + 1 + 1 + 1 + 1, 0, none⟩ _)).from _
    · gi_wp2
      refine ⟨hK6, HP6.out, H6.out, by omega, fun m hm => ?_⟩
      rw [List.length_take, seqH_len, HLL.out] at hm
      by_cases e : m = k
      · subst e; rw [← HMN.out]; omega
      · exact HM.out m (by omega)
  case done =>
    rintro D W hD ⟨hi, hz, hm⟩ hK
    rw [seqH_len, HLL.out] at hm
    have HV := hid (untV_none (c := c) (x := x) (b := bath) (t := t) (fun m h => by have := hm m (by omega); omega))
    have HI' := hid hi
    obtain ⟨r0, r1, r2, r3⟩ := hi.res
    have hDl := lt_of_block hK
    clear hi hm
    have HK8 := hid (((KeepsOthers.setCell W ⟨w.heap.size + 1 + 1 + 1, 0, none⟩ (.int .i64 0)).trans (KeepsOthers.setCell _ ⟨w.heap.size + 1 + 1 + 1 + 1, 0, none⟩ (.int .i64 8))).same D _ hK rfl)
    clear hK
    gi_wp2
    have H8 := HI'.out.set (.int .i64 0) (.int .i64 8)
    refine leaves_marks (B := w.heap.size) [D] _ ⟨by simp, fun d hd => by rw [List.mem_singleton] at hd; subst hd; exact ⟨by omega, HK8.out⟩⟩ fun W9 hb9 hc9 => ?_
    have c6 := cell_of_row _ _ 0 _ _ _ (hc9 _ _ _ _ H8.ra)
    have c7 := cell_of_row _ _ 0 _ _ _ (hc9 _ _ _ _ H8.rb)
    simp only [List.getElem?_toArray, List.getElem?_cons_zero] at c6 c7
    exact ⟨.tuple #[.int .i64 0, .int .i64 8], by simp [results, Try.results25, go_sem, c6, c7], by rw [HV.out], H8.low.trans hb9⟩
  case stop =>
    rintro D k W hD ⟨n, hi, hv⟩ hK
    have HI' := hid hi
    obtain ⟨r0, r1, r2, r3⟩ := hi.res
    have HK := hid hK
    have HV := hid hv
    clear hi hK hv
    gi_wp2
    refine leaves_marks (B := w.heap.size) [D] _ ⟨by simp, fun d hd => by rw [List.mem_singleton] at hd; subst hd; exact ⟨by omega, HK.out⟩⟩ fun W9 hb9 hc9 => ?_
    have c6 := cell_of_row _ _ 0 _ _ _ (hc9 _ _ _ _ HI'.out.ra)
    have c7 := cell_of_row _ _ 0 _ _ _ (hc9 _ _ _ _ HI'.out.rb)
    simp only [List.getElem?_toArray, List.getElem?_cons_zero] at c6 c7
    exact ⟨.tuple #[.int .i64 (n : Int), .int .i64 0], by simp [results, Try.results25, go_sem, c6, c7], by rw [HV.out], HI'.out.low.trans hb9⟩
  case hI =>
    rintro pre A B' row ⟨h1, h2, h3⟩ hgr hr
    exact ⟨h1.turn (B0 := W5.heap.size) (by omega) hgr (fun j e => (hr j e).1), Nat.le_trans h2 hgr.size, h3⟩
  case hIx =>
    rintro pre A B' row ⟨n, h1, h2⟩ hgr hr
    exact ⟨n, h1.turn (B0 := W5.heap.size) (by omega) hgr (fun j e => (hr j e).1), h2⟩
  case hAx =>
    rintro y a' W l' o1 o2 ⟨nb, h1, h2, h3⟩ hl' ho hc'
    exact ⟨nb, h1, (World.putObj_heap_other (by rintro rfl; rw [h2] at ho; cases ho; cases hc')).trans h2, h3⟩
end Go.Proofs.Ytpkcnojcklmhmaa
