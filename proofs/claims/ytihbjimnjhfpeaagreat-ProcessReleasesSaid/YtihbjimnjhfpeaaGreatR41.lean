/- Texts of this seat, one behind the other. -/
import Derived.Test.YtihbjimnjhfpeaaGreatR40
import Derived.Test.YtihbjimnjhfpeaaGreatR07
/- Walk of first over a search's cooks: contract. -/
namespace Go.Proofs.YtihbjimnjhfpeaaGreat
open Go.RowKit Go.Shelf Go.Lib
attribute [local go_sem] Oper.semAt_some

/-- What first hands back, with least's last. -/
def FirstP (c : Cn) (f : Int → Nat) (D : Dish) (need bath cold : Int) (cooling m0 more yb N : Nat) (w : World) (e : Ending) (w' : World) : Prop :=
  w.grownBy w' (some yb) ∧
  ((∃ k x, k < N ∧ (∀ j, j < k → tstC c f D need bath cold cooling (j * more) = false) ∧ tstC c f D need bath cold cooling (k * more) = true ∧ e = .returned (.tuple #[.agg (ckc x), .bool true]) ∧ XsC c f D bath m0 more yb k x w' ∧ LastC c f D bath m0 more yb k w') ∨
   ((∀ j, j < N → tstC c f D need bath cold cooling (j * more) = false) ∧ e = .returned (.tuple #[.agg zck, .bool false]) ∧ LastC c f D bath m0 more yb N w'))
section
variable {c : Cn} {f : Int → Nat} {D : Dish} {bath : Int} {m0 more yb k : Nat} {W W' : World}
theorem XsC.grown {x : Ck} {row : Option Nat} (h : XsC c f D bath m0 more yb k x W) (hg : W.grownBy W' row) (hr : ∀ j, row = some j → yb ≤ j ∧ ¬ IntAt W j) : XsC c f D bath m0 more yb k x W' := ⟨h.1.grown hg hr, h.2⟩
theorem LastC.grown {row : Option Nat} (h : LastC c f D bath m0 more yb k W) (hg : W.grownBy W' row) (hr : ∀ j, row = some j → yb < j ∧ ¬ IntAt W j) : LastC c f D bath m0 more yb k W' := by
  obtain ⟨x, h1, h2⟩ := h
  exact ⟨x, (hg.block _ (lt_of_block h1) (fun e => by have := hr _ e.symm; omega)).trans h1, h2.grown hg (fun j e => ⟨by have := hr _ e; omega, (hr _ e).2⟩)⟩
theorem LastC.cells (h : LastC c f D bath m0 more yb k W) (hc : ∀ (g : Nat) (cs : Array Value) (T : Nat) (fr : Nat × Nat), W.heap[g]? = some (Obj.cells cs T fr) → W'.heap[g]? = some (Obj.cells cs T fr)) : LastC c f D bath m0 more yb k W' := by
  obtain ⟨x, h1, h2⟩ := h
  exact ⟨x, hc _ _ _ _ h1, h2.1.cells hc, h2.2⟩
theorem kpK_grown {F : Nat} {lb : Array Value} {lo hi : Int} {mb B0 : Nat} {I : World → Prop} (hR : RateOk F lb f lo hi mb B0 I) (hg : W.grownBy W' (some yb)) (hy : B0 ≤ yb) : KpK I yb W W' :=
  ⟨hg.size, fun j cs t fz h1 h2 => (hg.block j (lt_of_block h1) (fun e => h2 (Option.some.inj e))).trans h1, fun hI => hR.keep _ _ _ hI hg (fun j e => by cases e; exact hy)⟩
theorem kpK_below {F : Nat} {lb : Array Value} {lo hi : Int} {mb B0 : Nat} {I : World → Prop} (hR : RateOk F lb f lo hi mb B0 I) (hb : Below W.heap.size W W') : KpK I yb W W' :=
  ⟨hb.size, fun j _ _ _ h1 _ => (hb.block j (lt_of_block h1)).trans h1, fun hI => hR.below hI hb⟩
end

set_option maxRecDepth 100000 in
set_option maxHeartbeats 8000000 in
theorem first_any (c : Cn) (need : Int) (F : Nat) (lb : Array Value) (bath cold : Int) (most cooling : Nat) (f : Int → Nat) (lo hi : Int) (mb B0 : Nat) (I : World → Prop) (x0 : Ck) (more N sbC fb qb sbL yb : Nat) (w : World) (hR : RateOk F lb f lo hi mb B0 I) (hF : Fix I mb) (hv : c.V) (hG : Good c x0.d) (hb : okT bath = true) (hbb : lo ≤ bath ∧ bath ≤ hi) (hc0 : okT cold = true) (hbc : lo ≤ cold ∧ cold ≤ hi) (hbd : ∀ t ∈ x0.d.1.1, lo ≤ t ∧ t ≤ hi)
    (hm0 : x0.m ≤ 2000) (hmost : most ≤ 2000) (hn : cooling ≤ 2000) (hmore : 1 ≤ more ∧ more ≤ 45) (hN : ∀ k, k < N ↔ x0.m + k * more ≤ most) (hB0 : B0 ≤ yb)
    (h1 : w.heap[sbC]? = some (.cells #[.int .i64 (c.R : Int), .int .i64 (c.L : Int), .int .i64 c.A, .int .i64 c.B, .int .i64 c.K, .int .i64 c.A2, .int .i64 c.B2, .int .i64 need, .func (.func F) #[] lb, .int .i64 bath, .int .i64 (most : Nat), .int .i64 cold, .int .i64 (cooling : Nat)] 127 (0, 0))) (h2 : w.heap[fb]? = some (.cells (ckc x0) 160 (0, 0))) (h3 : w.heap[qb]? = some (.cells #[.int .i64 (more : Nat)] 3 (0, 0))) (h4 : w.heap[sbL]? = some (.cells #[.int .i64 (c.R : Int), .int .i64 (c.L : Int), .int .i64 c.A, .int .i64 c.B, .int .i64 c.K, .int .i64 c.A2, .int .i64 c.B2, .int .i64 need, .func (.func F) #[] lb, .int .i64 bath, .int .i64 (most : Nat), .int .i64 cold, .int .i64 (cooling : Nat)] 127 (0, 0))) (h5 : w.heap[yb]? = some (.cells (ckc x0) 160 (0, 0)))
    (hI : I w) (hat : CkAt yb x0 w) :
    Calls Tryz.prog 118 #[.func (.func 146) #[] #[.pointer (some ⟨fb, 0, none⟩), .pointer (some ⟨sbC, 0, none⟩), .pointer (some ⟨qb, 0, none⟩)], .func (.func 115) #[] #[.pointer (some ⟨sbL, 0, none⟩), .pointer (some ⟨yb, 0, none⟩)]] w
      (FirstP c f x0.d need bath cold cooling x0.m more yb N w) := by
  have HRR := hid hR; have HFX := hid hF; have HN := hid hN
  have HLS := hid (fun k (x : Ck) (W : World) (z0 z1 z2 z3 : Value) (hx : XsC c f x0.d bath x0.m more yb k x W) (hIW : I W) (hs : W.heap[sbL]? = some (.cells #[.int .i64 (c.R : Int), .int .i64 (c.L : Int), .int .i64 c.A, .int .i64 c.B, .int .i64 c.K, .int .i64 c.A2, .int .i64 c.B2, .int .i64 need, .func (.func F) #[] lb, .int .i64 bath, .int .i64 (most : Nat), .int .i64 cold, .int .i64 (cooling : Nat)] 127 (0, 0))) (hy : W.heap[yb]? = some (.cells #[z0, z1, z2, z3] 160 (0, 0))) =>
    least1_any c need F lb bath cold most cooling f lo hi mb B0 I x sbL yb z0 z1 z2 z3 W hR hF hv (by rw [hx.2.1]; exact afN_good _ hv.ok hG hb) hc0 hn hIW hs hy hx.1 hbc (by rw [hx.2.1]; exact afN_bd _ hv.ok hG hbb hbd))
  have HCR := hid (fun l0 n0 B J Jx h1 h2 h3 h4 W h5 h6 h7 h8 h9 => cooks_run l0 c need F lb bath cold most cooling f lo hi mb B0 I x0 more N yb fb sbC qb n0 B J Jx hR hF hv hG hb hbb hbd hm0 hmost hmore hN h1 h2 h3 h4 W h5 h6 h7 h8 h9)
  have hyl := lt_of_block h5
  have hs1 := lt_of_block h1
  have hs2 := lt_of_block h2
  have hs3 := lt_of_block h3
  have hs4 := lt_of_block h4
  have hne1 : sbC ≠ yb := by rintro rfl; rw [h1] at h5; exact absurd (Obj.cells.inj (Option.some.inj h5)).2.1 (by decide)
  have hne3 : qb ≠ yb := by rintro rfl; rw [h3] at h5; exact absurd (Obj.cells.inj (Option.some.inj h5)).2.1 (by decide)
  have hne4 : sbL ≠ yb := by rintro rfl; rw [h4] at h5; exact absurd (Obj.cells.inj (Option.some.inj h5)).2.1 (by decide)
  have hx0 : x0.d = afN c f x0.d bath (0 * more) := by rw [Nat.zero_mul, afN_zero]
  have H1 := hid h1; have H2 := hid h2; have H3 := hid h3; have H4 := hid h4; have H5 := hid h5; have HI := hid hI; have HAT := hid hat
  have HX0 := hid hx0
  clear h1 h2 h3 h4 h5 hI hat hR hF hN hv hG hb hbb hc0 hbc hbd hx0
  refine (callsIn_wide (n := 10)).1 ?_
  refine callsIn_of_wp_marks Tryz.func118 rfl trivial ?_ rfl
  simp only [Tryz.ntmps118, List.size_toArray, List.length_cons, List.length_nil, Nat.reduceAdd, Nat.reduceSub, Array.replicate_succ, Array.replicate_zero, List.push_toArray, List.append_toArray, List.nil_append, List.cons_append]
  gi_wp2
  have hS := b3_start (w := w) (T1 := 162) (T2 := 160) (T3 := 4) (A := #[.func (.func 115) #[] #[.pointer (some ⟨sbL, 0, none⟩), .pointer (some ⟨yb, 0, none⟩)]]) (B := #[.slice none 0 0, .bool false, .slice none 0 0, .int .i64 0]) (R := #[.bool false])
  generalize ((w.alloc (.cells #[.func (.func 115) #[] #[.pointer (some ⟨sbL, 0, none⟩), .pointer (some ⟨yb, 0, none⟩)]] 162)).alloc (.cells #[.slice none 0 0, .bool false, .slice none 0 0, .int .i64 0] 160)).alloc (.cells #[.bool false] 4) = W5 at hS ⊢
  have hlow := hS.low
  have hz5 := lt_of_block hS.three
  have HFI : Hid (FiB c need F lb bath cold most cooling I sbL yb zck false w W5) := ⟨(hlow.block _ hs4).trans H4.out, HRR.out.below HI.out hlow, hS.one, hS.two, hS.three, below_row hlow⟩
  have HAT5 := hid (HAT.out.keep hlow)
  have HLA5 : Hid (LastC c f x0.d bath x0.m more yb 0 W5) := ⟨x0, (hlow.block _ hyl).trans H5.out, HAT5.out, HX0.out, by omega⟩
  have HB1 := hid ((hlow.block _ hs1).trans H1.out)
  have HB2 := hid ((hlow.block _ hs2).trans H2.out)
  have HB3 := hid ((hlow.block _ hs3).trans H3.out)
  have HI5 := hid (HRR.out.below HI.out hlow)
  have h1 := hlow.size
  clear hS hlow H1 H2 H3 H4 H5 HI HAT
  have heq := enter_at Tryz.func115 (by kernel_rfl) (by kernel_rfl)
  refine range_told (T := 160) (F := Fence.wide) (n := 10) (N := N) (Xs := XsC c f x0.d bath x0.m more yb) (encs := encC) (Kp := KpK I yb) (w0 := W5) rfl (by omega) (gf := 146) (lb := #[.pointer (some ⟨fb, 0, none⟩), .pointer (some ⟨sbC, 0, none⟩), .pointer (some ⟨qb, 0, none⟩)]) rfl trivial (enters_of Tryz.func146 (by kernel_rfl) rfl)
    (fun l0 J Jx W hW hJ hJx hY h0 => HCR.out l0 W5.heap.size W.heap.size J Jx (by omega) (by omega) hJ hY W ⟨(hW.block _ (by omega)).trans HB1.out, (hW.block _ (by omega)).trans HB3.out, HRR.out.below HI5.out hW, by omega, by omega, hW.size, hne1, hne3⟩ ((hW.block _ (by omega)).trans HB2.out) (HAT5.out.keep hW) (Nat.le_refl _) h0)
    (fun h k => h.trans k) (fun W l o o' hl h hc _ => ⟨by simp, fun j cs t fz hj _ => (World.putObj_heap_other (by rintro rfl; rw [h] at hj; cases hj; cases hc)).trans hj, fun hI => HRR.out.keep _ _ _ hI (grownBy_putObj' W l o') (fun j e => by cases e; omega)⟩) (Below.refl _ _) (fun _ => rfl)
    (fun k W => FiB c need F lb bath cold most cooling I sbL yb zck false w W ∧ (∀ j, j < k → tstC c f x0.d need bath cold cooling (j * more) = false) ∧ LastC c f x0.d bath x0.m more yb k W ∧ W5.heap.size ≤ W.heap.size)
    (fun k W => ∃ i x, k = i + 1 ∧ FiB c need F lb bath cold most cooling I sbL yb (ckc x) true w W ∧ (∀ j, j < i → tstC c f x0.d need bath cold cooling (j * more) = false) ∧ tstC c f x0.d need bath cold cooling (i * more) = true ∧ XsC c f x0.d bath x0.m more yb i x W ∧ LastC c f x0.d bath x0.m more yb i W) ?hI ?hIx ⟨HFI.out, fun j hj => absurd hj (Nat.not_lt_zero j), HLA5.out, Nat.le_refl _⟩
    (fun x a' W => ∃ nb, W5.heap.size ≤ nb ∧ W.heap[nb]? = some (.cells (ckc x) 160 (0, 0)) ∧ a' = { tmps := #[.func (.func 146) #[] #[.pointer (some ⟨fb, 0, none⟩), .pointer (some ⟨sbC, 0, none⟩), .pointer (some ⟨qb, 0, none⟩)], .func (.func 115) #[] #[.pointer (some ⟨sbL, 0, none⟩), .pointer (some ⟨yb, 0, none⟩)], undef, .pointer (some ⟨w.heap.size, 0, none⟩), .pointer (some ⟨w.heap.size + 1, 0, none⟩), .pointer (some ⟨w.heap.size + 1 + 1, 0, none⟩), .pointer (some ⟨nb, 0, none⟩),
      .func (.func 146) #[] #[.pointer (some ⟨fb, 0, none⟩), .pointer (some ⟨sbC, 0, none⟩), .pointer (some ⟨qb, 0, none⟩)], .agg (ckc x), undef, undef, undef, undef, undef], defers := [] }) ?hXs ?hAx ?assign ?body ?done ?stop
  case hI =>
    rintro k A B' row ⟨h1, h2, h3, h4⟩ hgr hr
    exact ⟨h1.grown HRR.out hgr hB0 hs4 hne4 hyl (fun j e => .inr (by have := (hr j e).1; omega)), h2, h3.grown hgr (fun j e => by obtain ⟨hj, o, ho, hap⟩ := hr j e; exact ⟨by omega, noInt_apart ho hap⟩), Nat.le_trans h4 hgr.size⟩
  case hIx =>
    rintro k A B' row ⟨i, x, h0, h1, h2, h3, h4, h5⟩ hgr hr
    exact ⟨i, x, h0, h1.grown HRR.out hgr hB0 hs4 hne4 hyl (fun j e => .inr (by have := (hr j e).1; omega)), h2, h3, h4.grown hgr (fun j e => by obtain ⟨hj, o, ho, hap⟩ := hr j e; exact ⟨by omega, noInt_apart ho hap⟩), h5.grown hgr (fun j e => by obtain ⟨hj, o, ho, hap⟩ := hr j e; exact ⟨by omega, noInt_apart ho hap⟩)⟩
  case hXs =>
    rintro k x W l o o' hx hl ho hc
    exact hx.grown (grownBy_putObj' W l o') (fun j e => by cases e; exact ⟨by omega, noInt_other ho hc⟩)
  case hAx =>
    rintro x a' W l' o1 o2 ⟨nb, h1, h2, h3⟩ hl' ho hc'
    exact ⟨nb, h1, (World.putObj_heap_other (by rintro rfl; rw [h2] at ho; cases ho; cases hc')).trans h2, h3⟩
  case assign =>
    rintro l' k x W K hkN hx ⟨hi, hno, hla, hz⟩ hK
    simp only [encC]
    gi_wp2_with (refine wpListIn_store_whole rfl 160 _ _ rfl W.heap.size (ckc x) rfl rfl 160 _ (heap_alloc_new W _) (infoCk x) rfl (ckc_one x) ?_; generalize hW : World.setRow _ _ _ = W6; have H6 := hid (laid_row hW); clear hW)
    obtain ⟨hn6, hb6⟩ := H6.out
    refine hK _ _ (keeps_below hb6) (kpK_below HRR.out hb6) (hx.grown (gbelow hb6) (fun j e => by cases e)) ⟨hi.grown HRR.out (gbelow hb6) hB0 hs4 hne4 hyl (fun j e => by cases e), hno, hla.grown (gbelow hb6) (fun j e => by cases e), Nat.le_trans hz hb6.size⟩ ⟨W.heap.size, hz, hn6, ?_⟩
    rfl
  case body =>
    rintro l' k x a' W hkN hx ⟨hi, hno, hla, hz⟩ ⟨nb, hnb, hbx, rfl⟩
    obtain ⟨y, hy1, hy2⟩ := id hla
    have HL := hid (HLS.out k x W _ _ _ _ hx hi.inv hi.sL hy1)
    have c1 := cell_of_row _ _ 0 _ _ _ hi.b1
    simp only [List.getElem?_toArray, List.getElem?_cons_zero] at c1
    have HFI := hid hi; have HXX := hid hx; have HBX := hid hbx; have HLA := hid hla; have HNO := hid hno
    have hzz := lt_of_block hi.b3
    clear hi hx hbx hla hno hy1 hy2
    gi_wp2_with (refine wpListIn_load_whole rfl 160 _ rfl nb rfl 160 (ckc x) (0, 0) _ HBX.out Tryz.underlying160 rfl (infoCk x) ?_)
    refine ⟨trivial, ?_⟩
    refine (callsIn_wide.2 HL.out).mono ?_
    rintro e W2 (⟨ht, rfl, hb2⟩ | ⟨ht, rfl, hy2, hg2⟩)
    · have H2 : Hid (FiB c need F lb bath cold most cooling I sbL yb zck false w W2) := HFI.out.grown HRR.out (gbelow hb2) hB0 hs4 hne4 hyl (fun j e => by cases e)
      have HX2 := hid (HXX.out.grown (gbelow hb2) (fun j e => by cases e))
      have HL2 := hid (HLA.out.grown (gbelow hb2) (fun j e => by cases e))
      have HBX2 := hid ((hb2.block _ (lt_of_block HBX.out)).trans HBX.out)
      have HT := hid ht
      have HB2' := hid hb2
      have hz2 := hb2.size
      have hzb := lt_of_block H2.out.b3
      clear hb2 ht c1
      have f0 : ∀ cs : Array Value, (W2.setRow (w.heap.size + 1) cs).heap[w.heap.size + 1 + 1]? = some (.cells #[.bool false] 4 (0, 0)) := fun cs => (setRow_other _ _ _ _ (by omega)).trans H2.out.b3
      have F0 := hid f0
      clear f0
      gi_wp2_with (first
        | (refine wpListIn_load_whole rfl 160 _ rfl nb rfl 160 (ckc x) (0, 0) _ HBX2.out Tryz.underlying160 rfl (infoCk x) ?_)
        | (refine wpListIn_store_whole rfl 160 _ _ rfl (w.heap.size + 1) (ckc x) rfl rfl 160 _ H2.out.b2 (infoCk x) rfl (ckc_one x) ?_; have b0 := cell_of_row _ _ 0 _ _ _ (F0.out (ckc x)); have b1 := frozen_of_row _ _ 0 _ _ (F0.out (ckc x)); simp only [List.getElem?_toArray, List.getElem?_cons_zero] at b0))
      generalize hW : World.setCell _ ⟨w.heap.size + 1 + 1, 0, none⟩ _ = W3
      obtain ⟨h3, e3, z3, W1, g1, n1, g2, n2⟩ := H2.out.told HRR.out hB0 hs4 hyl hW
      refine ⟨⟨by omega, fun j o hj ho _ => (e3 _ (by omega) (by omega)).trans ((HB2'.out.block _ (lt_of_block ho)).trans ho)⟩, k, x, rfl, h3, HNO.out, ?_, (HX2.out.grown g1 (fun j e => by cases e; exact ⟨by omega, n1⟩)).grown g2 (fun j e => by cases e; exact ⟨by omega, n2⟩), (HL2.out.grown g1 (fun j e => by cases e; exact ⟨by omega, n1⟩)).grown g2 (fun j e => by cases e; exact ⟨by omega, n2⟩)⟩
      have := HT.out
      rw [HXX.out.2.1] at this
      exact this
    · have HE : Hid (KeepsFrom W5.heap.size W W2 ∧ KpK I yb W W2 ∧ FiB c need F lb bath cold most cooling I sbL yb zck false w W2 ∧ (∀ j, j < k + 1 → tstC c f x0.d need bath cold cooling (j * more) = false) ∧ LastC c f x0.d bath x0.m more yb (k + 1) W2 ∧ W5.heap.size ≤ W2.heap.size) := by
        refine ⟨KeepsFrom.of_grownBy hg2 (fun j e => by cases e; omega), kpK_grown HRR.out hg2 hB0, HFI.out.grown HRR.out hg2 hB0 hs4 hne4 hyl (fun j e => by cases e; exact .inl rfl), fun j hj => ?_, ⟨x, hy2, ?_⟩, Nat.le_trans hz hg2.size⟩
        · rcases Nat.lt_succ_iff_lt_or_eq.1 hj with h | rfl
          · exact HNO.out j h
          · have := ht
            rw [HXX.out.2.1] at this
            exact this
        · rw [Nat.add_sub_cancel]
          obtain ⟨y, hy1, _⟩ := HLA.out
          exact HXX.out.grown hg2 (fun j e => by cases e; exact ⟨Nat.le_refl _, noInt_cook hy1⟩)
      clear hy2 hg2 ht c1
      gi_wp2
      exact HE.out
  case done =>
    rintro D W hD ⟨hi, hno, hla, hz⟩ hK
    have HFI := hid hi; have HLA := hid hla; have HNO := hid hno; have HK := hid hK
    have hzb := lt_of_block hi.b3
    clear hi hla hno hK
    have F0 := hid (show ∀ cs : Array Value, (W.setRow (w.heap.size + 1) cs).heap[w.heap.size + 1 + 1]? = some (.cells #[.bool false] 4 (0, 0)) from fun cs => (setRow_other _ _ _ _ (by omega)).trans HFI.out.b3)
    have HIZ := hid (infoCk ⟨(([], false), []), 0, none, none, 0, 0⟩)
    gi_wp2_with (first
      | (refine wpListIn_load_whole rfl 160 _ rfl (w.heap.size + 1) rfl 160 zck (0, 0) _ HFI.out.b2 Tryz.underlying160 rfl HIZ.out ?_)
      | (refine wpListIn_store_whole rfl 160 _ _ rfl (w.heap.size + 1) zck rfl rfl 160 _ HFI.out.b2 HIZ.out rfl (ckc_one ⟨(([], false), []), 0, none, none, 0, 0⟩) ?_; have b0 := cell_of_row _ _ 0 _ _ _ (F0.out zck); have b1 := frozen_of_row _ _ 0 _ _ (F0.out zck); simp only [List.getElem?_toArray, List.getElem?_cons_zero] at b0))
    generalize hW : World.setCell _ ⟨w.heap.size + 1 + 1, 0, none⟩ _ = W3
    obtain ⟨h3, e3, z3, W1, g1, n1, g2, n2⟩ := HFI.out.told HRR.out hB0 hs4 hyl hW
    have HE := hid (And.intro h3 ((HLA.out.grown g1 (fun j e => by cases e; exact ⟨by omega, n1⟩)).grown g2 (fun j e => by cases e; exact ⟨by omega, n2⟩)))
    have HKD := hid ((e3 D (by omega) (by omega)).trans HK.out)
    clear h3 e3 z3 g1 n1 g2 n2
    refine leaves_marks (B := w.heap.size) [D] _ ⟨by simp, fun d hd => by rw [List.mem_singleton] at hd; subst hd; exact ⟨by omega, HKD.out⟩⟩ fun W9 hb9 hc9 => ?_
    have q2 := hc9 _ _ _ _ HE.out.1.b2
    have q3 := hc9 _ _ _ _ HE.out.1.b3
    have c0 := cell_of_row _ _ 0 _ _ _ q2
    have c1 := cell_of_row _ _ 1 _ _ _ q2
    have c2 := cell_of_row _ _ 2 _ _ _ q2
    have c3 := cell_of_row _ _ 3 _ _ _ q2
    have c4 := cell_of_row _ _ 0 _ _ _ q3
    simp only [zck, List.getElem?_toArray, List.getElem?_cons_zero, List.getElem?_cons_succ] at c0 c1 c2 c3 c4
    refine ⟨.tuple #[.agg zck, .bool false], by simp [results, Tryz.results118, go_sem, c0, c1, c2, c3, c4, zck], grown_low HE.out.1.gr hb9, .inr ⟨HNO.out, rfl, HE.out.2.cells hc9⟩⟩
  case stop =>
    rintro D k W hD hkN ⟨i, x, rfl, h1, h2, h3, h4, h5⟩ hK
    have HE := hid (And.intro h1 (And.intro h2 (And.intro h3 (And.intro h4 h5))))
    have HK := hid hK
    have hzb := lt_of_block h1.b3
    clear h1 h2 h3 h4 h5 hK
    gi_wp2
    refine leaves_marks (B := w.heap.size) [D] _ ⟨by simp, fun d hd => by rw [List.mem_singleton] at hd; subst hd; exact ⟨by omega, HK.out⟩⟩ fun W9 hb9 hc9 => ?_
    obtain ⟨h1, h2, h3, h4, h5⟩ := HE.out
    have q2 := hc9 _ _ _ _ h1.b2
    have q3 := hc9 _ _ _ _ h1.b3
    have c0 := cell_of_row _ _ 0 _ _ _ q2
    have c1 := cell_of_row _ _ 1 _ _ _ q2
    have c2 := cell_of_row _ _ 2 _ _ _ q2
    have c3 := cell_of_row _ _ 3 _ _ _ q2
    have c4 := cell_of_row _ _ 0 _ _ _ q3
    simp only [ckc, List.getElem?_toArray, List.getElem?_cons_zero, List.getElem?_cons_succ] at c0 c1 c2 c3 c4
    refine ⟨.tuple #[.agg (ckc x), .bool true], by simp [results, Tryz.results118, go_sem, c0, c1, c2, c3, c4, ckc], grown_low h1.gr hb9, .inl ⟨i, x, by omega, h2, h3, rfl, ⟨h4.1.cells hc9, h4.2⟩, h5.cells hc9⟩⟩
end Go.Proofs.YtihbjimnjhfpeaaGreat

/- Walk of a search's least: contract. -/
namespace Go.Proofs.YtihbjimnjhfpeaaGreat
open Go.RowKit Go.Lib

theorem afN_add (c : Cn) (f : Int → Nat) (D : Dish) (b : Int) (p j : Nat) : afN c f (afN c f D b p) b j = afN c f D b (p + j) := by
  induction j with
  | zero => rw [afN_zero]; rfl
  | succ j ih => rw [afN_succ, ih, ← afN_succ]; rfl
theorem rounds_ex (m0 more most : Nat) (h1 : 1 ≤ more) (h : m0 ≤ most) : ∃ N, 1 ≤ N ∧ ∀ k, k < N ↔ m0 + k * more ≤ most :=
  ⟨(most - m0) / more + 1, Nat.le_add_left 1 _, fun k => by rw [Nat.lt_succ_iff, Nat.le_div_iff_mul_le (by omega)]; omega⟩
def risB (c : Cn) (D : Dish) (bath cold : Int) : Bool := (decide (c.K = 0) || D.1.2) && decide (cold ≤ bath)
set_option maxRecDepth 100000 in
set_option maxHeartbeats 4000000 in
theorem rising_any (c : Cn) (need : Int) (F : Nat) (lb : Array Value) (bath cold : Int) (most cooling : Nat) (D : Dish) (ua ub : Option Addr) (uc ud : Nat) (w : World) :
    Calls Tryz.prog 117 #[.agg #[.int .i64 (c.R : Int), .int .i64 (c.L : Int), .int .i64 c.A, .int .i64 c.B, .int .i64 c.K, .int .i64 c.A2, .int .i64 c.B2, .int .i64 need, .func (.func F) #[] lb, .int .i64 bath, .int .i64 (most : Nat), .int .i64 cold, .int .i64 (cooling : Nat)], .agg #[.slice ua D.1.1.length uc, .bool D.1.2, .slice ub D.2.length ud]] w fun e w' => e = .returned (.bool (risB c D bath cold)) ∧ Below w.heap.size w w' := by
  have HX := hid (b2_start (w := w) (T1 := 127) (T2 := 89) (A := #[.int .i64 (c.R : Int), .int .i64 (c.L : Int), .int .i64 c.A, .int .i64 c.B, .int .i64 c.K, .int .i64 c.A2, .int .i64 c.B2, .int .i64 need, .func (.func F) #[] lb, .int .i64 bath, .int .i64 (most : Nat), .int .i64 cold, .int .i64 (cooling : Nat)]) (B := #[.slice ua D.1.1.length uc, .bool D.1.2, .slice ub D.2.length ud]))
  have hlow := HX.out.low
  have m4 := cell_of_row _ _ 4 _ _ _ HX.out.one
  have s9 := cell_of_row _ _ 9 _ _ _ HX.out.one
  have s11 := cell_of_row _ _ 11 _ _ _ HX.out.one
  have d1 := cell_of_row _ _ 1 _ _ _ HX.out.two
  simp only [List.getElem?_toArray, List.getElem?_cons_zero, List.getElem?_cons_succ] at m4 s9 s11 d1
  have hz := HX.out.lt
  unfold risB
  clear HX
  go_enter Tryz.func117, Tryz.ntmps117
  by_cases hK : c.K = 0
  · by_cases hc : cold ≤ bath
    · go_wp2_with fail
      refine bodyPost_ret (v := .bool true) (by simp [results, Tryz.results117, go_sem, hK]) rfl ⟨by simp [hK, hc], ((Below.refl _ _).alloc (Nat.le_refl _) _).alloc (by simp) _⟩
    · go_wp2_with fail
      refine bodyPost_ret (v := .bool false) (by simp [results, Tryz.results117, go_sem]) rfl ⟨by simp [hc], ((Below.refl _ _).alloc (Nat.le_refl _) _).alloc (by simp) _⟩
  · cases hD : D.1.2
    · go_wp2_with fail
      refine bodyPost_ret (v := .bool false) (by simp [results, Tryz.results117, go_sem]) rfl ⟨by simp [hK], ((Below.refl _ _).alloc (Nat.le_refl _) _).alloc (by simp) _⟩
    · by_cases hc : cold ≤ bath
      · go_wp2_with fail
        refine bodyPost_ret (v := .bool true) (by simp [results, Tryz.results117, go_sem]) rfl ⟨by simp [hK, hc], ((Below.refl _ _).alloc (Nat.le_refl _) _).alloc (by simp) _⟩
      · go_wp2_with fail
        refine bodyPost_ret (v := .bool false) (by simp [results, Tryz.results117, go_sem]) rfl ⟨by simp [hc], ((Below.refl _ _).alloc (Nat.le_refl _) _).alloc (by simp) _⟩
/-- What least tells. -/
def LeastR (T : Nat → Bool) (most : Nat) (w : World) (e : Ending) (w' : World) : Prop :=
  Below w.heap.size w w' ∧ ((∃ n, n ≤ most ∧ T n = true ∧ (∀ j, j < n → T j = false) ∧ e = .returned (.tuple #[.int .i64 (n : Nat), .int .i64 0])) ∨ ((∀ j, j ≤ most → T j = false) ∧ e = .returned (.tuple #[.int .i64 0, .int .i64 8])))
/-- What least stands on: its search's box, and its last at yb. -/
structure LsL (c : Cn) (need : Int) (F : Nat) (lb : Array Value) (bath cold : Int) (most cooling : Nat) (I : World → Prop) (f : Int → Nat) (D : Dish) (p : Nat) (x : Ck) (w W : World) : Prop where
  one : W.heap[w.heap.size]? = some (.cells #[.int .i64 (c.R : Int), .int .i64 (c.L : Int), .int .i64 c.A, .int .i64 c.B, .int .i64 c.K, .int .i64 c.A2, .int .i64 c.B2, .int .i64 need, .func (.func F) #[] lb, .int .i64 bath, .int .i64 (most : Nat), .int .i64 cold, .int .i64 (cooling : Nat)] 127 (0, 0))
  last : W.heap[w.heap.size + 1 + 1]? = some (.cells (ckc x) 160 (0, 0))
  at' : CkAt (w.heap.size + 1 + 1) x W
  dis : x.d = afN c f D bath p
  tick : x.m = p
  inv : I W
  low : Below w.heap.size w W
section
variable {c : Cn} {need : Int} {F : Nat} {lb : Array Value} {bath cold : Int} {most cooling : Nat} {f : Int → Nat} {lo hi : Int} {mb B0 : Nat} {I : World → Prop} {D : Dish} {p : Nat} {x : Ck} {w W W' : World}
theorem LsL.keep (hR : RateOk F lb f lo hi mb B0 I) (h : LsL c need F lb bath cold most cooling I f D p x w W) (hb : Below W.heap.size W W') : LsL c need F lb bath cold most cooling I f D p x w W' :=
  ⟨(hb.block _ (lt_of_block h.one)).trans h.one, (hb.block _ (lt_of_block h.last)).trans h.last, h.at'.keep hb, h.dis, h.tick, hR.below h.inv hb, bstep h.low h.low.size hb⟩
end
theorem cooks3 {c : Cn} {need : Int} {F : Nat} {lb : Array Value} {bath cold : Int} {most cooling : Nat} {w W : World} {x : Ck} {more : Nat} (hW : ((w.alloc (.cells #[.int .i64 (c.R : Int), .int .i64 (c.L : Int), .int .i64 c.A, .int .i64 c.B, .int .i64 c.K, .int .i64 c.A2, .int .i64 c.B2, .int .i64 need, .func (.func F) #[] lb, .int .i64 bath, .int .i64 (most : Nat), .int .i64 cold, .int .i64 (cooling : Nat)] 127)).alloc (.cells (ckc x) 160)).alloc (.cells #[.int .i64 (more : Nat)] 3) = W) :
    W.heap[w.heap.size]? = some (.cells #[.int .i64 (c.R : Int), .int .i64 (c.L : Int), .int .i64 c.A, .int .i64 c.B, .int .i64 c.K, .int .i64 c.A2, .int .i64 c.B2, .int .i64 need, .func (.func F) #[] lb, .int .i64 bath, .int .i64 (most : Nat), .int .i64 cold, .int .i64 (cooling : Nat)] 127 (0, 0)) ∧ W.heap[w.heap.size + 1]? = some (.cells (ckc x) 160 (0, 0)) ∧ W.heap[w.heap.size + 1 + 1]? = some (.cells #[.int .i64 (more : Nat)] 3 (0, 0)) ∧ Below w.heap.size w W := by
  subst hW
  have h := b3_start (w := w) (T1 := 127) (T2 := 160) (T3 := 3) (A := #[.int .i64 (c.R : Int), .int .i64 (c.L : Int), .int .i64 c.A, .int .i64 c.B, .int .i64 c.K, .int .i64 c.A2, .int .i64 c.B2, .int .i64 need, .func (.func F) #[] lb, .int .i64 bath, .int .i64 (most : Nat), .int .i64 cold, .int .i64 (cooling : Nat)]) (B := ckc x) (R := #[.int .i64 (more : Nat)])
  exact ⟨h.one, h.two, h.three, h.low⟩
end Go.Proofs.YtihbjimnjhfpeaaGreat

/- Walk of a search's least: contract. -/
namespace Go.Proofs.YtihbjimnjhfpeaaGreat
open Go.RowKit Go.Lib

theorem yb_low {w W W' : World} {b : Nat} (h : Below w.heap.size w W) (hg : W.grownBy W' (some b)) (hb : w.heap.size ≤ b) : Below w.heap.size w W' := h.grown hg h.size (fun j e => by cases e; exact hb)
theorem tst_shift {c : Cn} {f : Int → Nat} {D E : Dish} {need bath cold : Int} {cooling p : Nat} (j : Nat) (h : E = afN c f D bath p) : tstC c f E need bath cold cooling j = tstC c f D need bath cold cooling (p + j) := by
  unfold tstC
  rw [h, afN_add]

set_option maxRecDepth 100000 in
set_option maxHeartbeats 8000000 in
theorem sleast_any (c : Cn) (need : Int) (F : Nat) (lb : Array Value) (bath cold : Int) (most cooling : Nat) (f : Int → Nat) (lo hi : Int) (mb B0 : Nat) (I : World → Prop) (D : Dish) (ua ub : Option Addr) (uc ud : Nat) (w : World) (hR : RateOk F lb f lo hi mb B0 I) (hF : Fix I mb) (hv : c.V) (hG : Good c D) (hb : okT bath = true) (hbb : lo ≤ bath ∧ bath ≤ hi) (hc0 : okT cold = true) (hbc : lo ≤ cold ∧ cold ≤ hi) (hbd : ∀ t ∈ D.1.1, lo ≤ t ∧ t ≤ hi)
    (hmost : most ≤ 2000) (hn : cooling ≤ 2000) (hmono : risB c D bath cold = true → ∀ j n, j ≤ n → n ≤ most → tstC c f D need bath cold cooling j = true → tstC c f D need bath cold cooling n = true)
    (hI : I w) (ht : RowI w (.slice ua D.1.1.length uc) D.1.1) (hs : RowI w (.slice ub D.2.length ud) (ivN D.2)) :
    Calls Tryz.prog 73 #[.agg #[.int .i64 (c.R : Int), .int .i64 (c.L : Int), .int .i64 c.A, .int .i64 c.B, .int .i64 c.K, .int .i64 c.A2, .int .i64 c.B2, .int .i64 need, .func (.func F) #[] lb, .int .i64 bath, .int .i64 (most : Nat), .int .i64 cold, .int .i64 (cooling : Nat)], .agg #[.slice ua D.1.1.length uc, .bool D.1.2, .slice ub D.2.length ud]] w (LeastR (tstC c f D need bath cold cooling) most w) := by
  have HRR := hid hR
  have hB0 := hR.le w hI
  have HF1 := hid (fun p (hp : p ≤ most) (x : Ck) (more : Nat) (sbC fb qb : Nat) (W : World) (hmore : 1 ≤ more ∧ more ≤ 45) (h : LsL c need F lb bath cold most cooling I f D p x w W) (h1 : W.heap[sbC]? = some (.cells #[.int .i64 (c.R : Int), .int .i64 (c.L : Int), .int .i64 c.A, .int .i64 c.B, .int .i64 c.K, .int .i64 c.A2, .int .i64 c.B2, .int .i64 need, .func (.func F) #[] lb, .int .i64 bath, .int .i64 (most : Nat), .int .i64 cold, .int .i64 (cooling : Nat)] 127 (0, 0))) (h2 : W.heap[fb]? = some (.cells (ckc x) 160 (0, 0))) (h3 : W.heap[qb]? = some (.cells #[.int .i64 (more : Nat)] 3 (0, 0))) => by
    have hx := h.dis
    obtain ⟨N, hN1, hN⟩ := rounds_ex x.m more most hmore.1 (by rw [h.tick]; exact hp)
    have h9 := first_any c need F lb bath cold most cooling f lo hi mb B0 I x more N sbC fb qb w.heap.size (w.heap.size + 1 + 1) W hR hF hv (by rw [hx]; exact afN_good p hv.ok hG hb) hb hbb hc0 hbc (by rw [hx]; exact afN_bd p hv.ok hG hbb hbd) (by rw [h.tick]; omega) hmost hn hmore hN (by omega) h1 h2 h3 h.one h.last h.inv h.at'
    exact Calls.mono h9 (R' := fun e W' => W.grownBy W' (some (w.heap.size + 1 + 1)) ∧
      ((∃ k y, p + k * more ≤ most ∧ (∀ j, j < k → tstC c f x.d need bath cold cooling (j * more) = false) ∧ tstC c f x.d need bath cold cooling (k * more) = true ∧ e = .returned (.tuple #[.agg (ckc y), .bool true]) ∧ XsC c f x.d bath x.m more (w.heap.size + 1 + 1) k y W' ∧ LastC c f x.d bath x.m more (w.heap.size + 1 + 1) k W') ∨
       ((∀ j, p + j * more ≤ most → tstC c f x.d need bath cold cooling (j * more) = false) ∧ e = .returned (.tuple #[.agg zck, .bool false]) ∧ ∃ k, 1 ≤ k ∧ p + (k - 1) * more ≤ most ∧ LastC c f x.d bath x.m more (w.heap.size + 1 + 1) k W'))) (by
      rintro e W' ⟨hg, ⟨k, y, hk, r1, r2, r3, r4, r5⟩ | ⟨r1, r2, r3⟩⟩
      · exact ⟨hg, .inl ⟨k, y, by have := (hN k).1 hk; rw [h.tick] at this; exact this, r1, r2, r3, r4, r5⟩⟩
      · exact ⟨hg, .inr ⟨fun j hj => r1 j ((hN j).2 (by rw [h.tick]; exact hj)), r2, N, hN1, by have := (hN (N - 1)).1 (by omega); rw [h.tick] at this; exact this, r3⟩⟩))
  have HS2 := hid (b2_start (w := w) (T1 := 127) (T2 := 89) (A := #[.int .i64 (c.R : Int), .int .i64 (c.L : Int), .int .i64 c.A, .int .i64 c.B, .int .i64 c.K, .int .i64 c.A2, .int .i64 c.B2, .int .i64 need, .func (.func F) #[] lb, .int .i64 bath, .int .i64 (most : Nat), .int .i64 cold, .int .i64 (cooling : Nat)]) (B := #[.slice ua D.1.1.length uc, .bool D.1.2, .slice ub D.2.length ud]))
  have HS3 := hid (b3_start (w := w) (T1 := 127) (T2 := 89) (T3 := 160) (A := #[.int .i64 (c.R : Int), .int .i64 (c.L : Int), .int .i64 c.A, .int .i64 c.B, .int .i64 c.K, .int .i64 c.A2, .int .i64 c.B2, .int .i64 need, .func (.func F) #[] lb, .int .i64 bath, .int .i64 (most : Nat), .int .i64 cold, .int .i64 (cooling : Nat)]) (B := #[.slice ua D.1.1.length uc, .bool D.1.2, .slice ub D.2.length ud]) (R := ckc ⟨D, 0, ua, ub, uc, ud⟩))
  have p1 : 0 < D.1.1.length := by have := (bodyV_iff.1 hG.body).1; have := hv.ok.p.1; omega
  have p2 : 0 < (ivN D.2).length := by have := hG.len; have := hv.ok.p.1; rw [ivN_len]; omega
  have HL3 : Hid (LsL c need F lb bath cold most cooling I f D 0 ⟨D, 0, ua, ub, uc, ud⟩ w (((w.alloc (.cells #[.int .i64 (c.R : Int), .int .i64 (c.L : Int), .int .i64 c.A, .int .i64 c.B, .int .i64 c.K, .int .i64 c.A2, .int .i64 c.B2, .int .i64 need, .func (.func F) #[] lb, .int .i64 bath, .int .i64 (most : Nat), .int .i64 cold, .int .i64 (cooling : Nat)] 127)).alloc (.cells #[.slice ua D.1.1.length uc, .bool D.1.2, .slice ub D.2.length ud] 89)).alloc (.cells (ckc ⟨D, 0, ua, ub, uc, ud⟩) 160))) :=
    ⟨HS3.out.one, HS3.out.three, ⟨ht.keep HS3.out.low, hs.keep HS3.out.low, fun p e => .inl (by cases e; have := rowI_lt ht p1; omega), fun p e => .inl (by cases e; have := rowI_lt hs p2; omega)⟩, (afN_zero c f D bath).symm, rfl, hR.below hI HS3.out.low, HS3.out.low⟩
  have HMO := hid hmono
  obtain ⟨⟨m0, m1, m2, m3, m4, m5, m6, m7, m8⟩, ⟨s0, s1, s2, s3⟩⟩ := sr_cells HS3.out.one
  have d0 := cell_of_row _ _ 0 _ _ _ HS2.out.two
  have d1 := cell_of_row _ _ 1 _ _ _ HS2.out.two
  have d2 := cell_of_row _ _ 2 _ _ _ HS2.out.two
  have t0 := cell_of_row _ _ 0 _ _ _ HS3.out.two
  have t1 := cell_of_row _ _ 1 _ _ _ HS3.out.two
  have t2 := cell_of_row _ _ 2 _ _ _ HS3.out.two
  have z2 := HS2.out.lt
  have z3 := lt_of_block HS3.out.three
  have z4 := lt_of_block HS3.out.two
  have HRI := hid (fun W => rising_any c need F lb bath cold most cooling D ua ub uc ud W)
  simp only [ckc, List.getElem?_toArray, List.getElem?_cons_zero, List.getElem?_cons_succ] at d0 d1 d2 t0 t1 t2 m0 m1 m2 m3 m4 m5 m6 m7 m8 s0 s1 s2 s3
  clear hR hF hv hG hb hbb hc0 hbc hbd hmono hI ht hs p1 p2 HS2 HS3
  go_enter Tryz.func73, Tryz.ntmps73
  go_wp2_with fail
  refine (HRI.out _).mono ?_
  rintro e W2 ⟨rfl, hb2⟩
  have HL := hid (HL3.out.keep HRR.out hb2)
  clear hb2 m0 m1 m2 m3 m4 m5 m6 m7 m8 s0 s1 s2 s3 d0 d1 d2 t0 t1 t2 z2 z3 z4 HL3 HRI
  cases hri : risB c D bath cold
  · have hpm : 0 ≤ most := Nat.zero_le _
    have hnop : ∀ j, j < 0 → tstC c f D need bath cold cooling j = false := fun j hj => absurd hj (Nat.not_lt_zero j)
    clear HMO
    obtain ⟨x, hx⟩ : ∃ x : Ck, x = ⟨D, 0, ua, ub, uc, ud⟩ := ⟨_, rfl⟩
    rw [← hx] at HL
    obtain ⟨p, hp⟩ : ∃ p : Nat, p = 0 := ⟨_, rfl⟩
    rw [← hp] at HL hpm hnop
    clear hx hp
    have HM := hid HL.out.tick
    obtain ⟨⟨m0, m1, m2, m3, m4, m5, m6, m7, m8⟩, ⟨s0, s1, s2, s3⟩⟩ := sr_cells HL.out.one
    have l0 := cell_of_row _ _ 0 _ _ _ HL.out.last
    have l1 := cell_of_row _ _ 1 _ _ _ HL.out.last
    have l2 := cell_of_row _ _ 2 _ _ _ HL.out.last
    have l3 := cell_of_row _ _ 3 _ _ _ HL.out.last
    simp only [ckc, List.getElem?_toArray, List.getElem?_cons_zero, List.getElem?_cons_succ] at l0 l1 l2 l3
    have hz3 := lt_of_block HL.out.last
    have HCK := hid (cooks_any c need F lb bath cold most cooling 1 x)
    simp only [ckc] at HCK
    go_wp2_with fail
    refine (HCK.out _).mono ?_
    rintro e W4 ⟨rfl, hW4⟩
    obtain ⟨h1, h2, h3, h4⟩ := cooks3 (x := x) (more := 1) hW4.symm
    have HL4 := hid (HL.out.keep HRR.out h4)
    have HQ := hid (And.intro h1 (And.intro h2 h3))
    clear hW4 h1 h2 h3 h4 m0 m1 m2 m3 m4 m5 m6 m7 m8 s0 s1 s2 s3 l0 l1 l2 l3 HCK
    go_wp2_with fail
    refine (HF1.out p hpm x 1 _ _ _ W4 (by omega) HL4.out HQ.out.1 HQ.out.2.1 HQ.out.2.2).mono ?_
    rintro e W5 ⟨hg, ⟨k, y, hk, hno, hyes, rfl, hxs, hla⟩ | ⟨hno, rfl, hla⟩⟩
    · have HLW := hid (yb_low HL4.out.low hg (by omega))
      have HR : Hid (p + k ≤ most ∧ tstC c f D need bath cold cooling (p + k) = true ∧ (∀ j, j < p + k → tstC c f D need bath cold cooling j = false) ∧ y.m = p + k) := by
        have hT := fun j => tst_shift (f := f) (need := need) (cold := cold) (cooling := cooling) (bath := bath) j HL4.out.dis
        have e1 : k * 1 = k := Nat.mul_one k
        rw [hT, e1] at hyes
        refine ⟨by omega, hyes, fun j hj => ?_, by have := hxs.2.2; rw [HM.out, e1] at this; exact this⟩
        by_cases h : j < p
        · exact hnop j h
        · have := hno (j - p) (by omega)
          rw [hT, Nat.mul_one, show p + (j - p) = j by omega] at this
          exact this
      have n3 := cell_of_row _ _ 3 _ _ _ (heap_alloc_new W5 (.cells (ckc y) 160))
      simp only [ckc, List.getElem?_toArray, List.getElem?_cons_zero, List.getElem?_cons_succ] at n3 ⊢
      rw [HR.out.2.2.2] at n3
      rw [HR.out.2.2.2]
      clear hno hyes hxs hla hg
      go_wp2_with fail
      refine bodyPost_ret (v := .tuple #[.int .i64 ((p + k : Nat) : Int), .int .i64 0]) (by simp [results, Tryz.results73, go_sem]) rfl ⟨HLW.out.alloc (by have := HLW.out.size; omega) _, .inl ⟨p + k, HR.out.1, HR.out.2.1, HR.out.2.2.1, rfl⟩⟩
    · have HLW := hid (yb_low HL4.out.low hg (by omega))
      have HR : Hid (∀ j, j ≤ most → tstC c f D need bath cold cooling j = false) := by
        intro j hj
        by_cases h : j < p
        · exact hnop j h
        · have := hno (j - p) (by omega)
          rw [Nat.mul_one, tst_shift (j - p) HL4.out.dis, show p + (j - p) = j by omega] at this
          exact this
      simp only [zck]
      clear hno hla hg
      go_wp2_with fail
      refine bodyPost_ret (v := .tuple #[.int .i64 0, .int .i64 8]) (by simp [results, Tryz.results73, go_sem]) rfl ⟨HLW.out.alloc (by have := HLW.out.size; omega) _, .inr ⟨HR.out, rfl⟩⟩
  · have hmo := HMO.out hri
    obtain ⟨x, hx⟩ : ∃ x : Ck, x = ⟨D, 0, ua, ub, uc, ud⟩ := ⟨_, rfl⟩
    rw [← hx] at HL
    clear hx
    have HM0 := hid HL.out.tick
    obtain ⟨⟨m0, m1, m2, m3, m4, m5, m6, m7, m8⟩, ⟨s0, s1, s2, s3⟩⟩ := sr_cells HL.out.one
    have l0 := cell_of_row _ _ 0 _ _ _ HL.out.last
    have l1 := cell_of_row _ _ 1 _ _ _ HL.out.last
    have l2 := cell_of_row _ _ 2 _ _ _ HL.out.last
    have l3 := cell_of_row _ _ 3 _ _ _ HL.out.last
    simp only [ckc, List.getElem?_toArray, List.getElem?_cons_zero, List.getElem?_cons_succ] at l0 l1 l2 l3
    have hz3 := lt_of_block HL.out.last
    have HCK := hid (cooks_any c need F lb bath cold most cooling 45 x)
    simp only [ckc] at HCK
    have HMO2 := hid hmo
    clear hmo HMO
    go_wp2_with fail
    refine (HCK.out _).mono ?_
    rintro e W4 ⟨rfl, hW4⟩
    obtain ⟨h1, h2, h3, h4⟩ := cooks3 (x := x) (more := 45) hW4.symm
    have HL4 := hid (HL.out.keep HRR.out h4)
    have HQ := hid (And.intro h1 (And.intro h2 h3))
    clear hW4 h1 h2 h3 h4 m0 m1 m2 m3 m4 m5 m6 m7 m8 s0 s1 s2 s3 l0 l1 l2 l3 HCK
    go_wp2_with fail
    refine (HF1.out 0 (Nat.zero_le _) x 45 _ _ _ W4 (by omega) HL4.out HQ.out.1 HQ.out.2.1 HQ.out.2.2).mono ?_
    rintro e W5 ⟨hg, hres⟩
    have hres2 : ∃ k, (k = 0 ∨ (k - 1) * 45 ≤ most) ∧ (∀ j, j < k → tstC c f x.d need bath cold cooling (j * 45) = false) ∧ LastC c f x.d bath x.m 45 (w.heap.size + 1 + 1) k W5 := by
      rcases hres with ⟨k, y, hk, hno, hyes, rfl, hxs, hla⟩ | ⟨hno, rfl, k, hk1, hk2, hla⟩
      · exact ⟨k, .inr (by have : (k - 1) * 45 ≤ k * 45 := Nat.mul_le_mul_right _ (by omega); omega), hno, hla⟩
      · exact ⟨k, .inr (by omega), fun j hj => hno j (by have : j * 45 ≤ (k - 1) * 45 := Nat.mul_le_mul_right _ (by omega); omega), hla⟩
    have hres3 : ∃ v, e = .returned v := by
      rcases hres with ⟨k, y, hk, hno, hyes, rfl, hxs, hla⟩ | ⟨hno, rfl, k, hk1, hk2, hla⟩
      · exact ⟨_, rfl⟩
      · exact ⟨_, rfl⟩
    obtain ⟨v9, rfl⟩ := hres3
    obtain ⟨k, hkm, hno, z, hz1, hz2⟩ := hres2
    have hpm : (k - 1) * 45 ≤ most := by rcases hkm with rfl | h <;> omega
    have hnop : ∀ j, j < (k - 1) * 45 → tstC c f D need bath cold cooling j = false := by
      intro j hj
      cases hT : tstC c f D need bath cold cooling j
      · rfl
      · have h1 := HMO2.out j ((k - 1) * 45) (by omega) hpm hT
        have h2 := hno (k - 1) (by omega)
        rw [tst_shift ((k - 1) * 45) HL4.out.dis, Nat.zero_add, h1] at h2
        cases h2
    have HL9 : Hid (LsL c need F lb bath cold most cooling I f D ((k - 1) * 45) z w W5) := by
      have hd := HL4.out.dis
      have hy0 := hg.size
      refine ⟨(hg.block _ (lt_of_block HL4.out.one) (fun e => by have := Option.some.inj e; omega)).trans HL4.out.one, hz1, hz2.1, ?_, by rw [hz2.2.2, HM0.out]; omega, HRR.out.keep _ _ _ HL4.out.inv hg (fun j e => by cases e; omega), yb_low HL4.out.low hg (by omega)⟩
      rw [hz2.2.1, hd, afN_zero]
    clear hno hz1 hz2 hg hres HL HL4 HQ HMO2 HM0 hkm
    have HL := hid HL9.out
    clear HL9
    generalize (k - 1) * 45 = p at *
    generalize z = x at *
    have HM := hid HL.out.tick
    obtain ⟨⟨m0, m1, m2, m3, m4, m5, m6, m7, m8⟩, ⟨s0, s1, s2, s3⟩⟩ := sr_cells HL.out.one
    have l0 := cell_of_row _ _ 0 _ _ _ HL.out.last
    have l1 := cell_of_row _ _ 1 _ _ _ HL.out.last
    have l2 := cell_of_row _ _ 2 _ _ _ HL.out.last
    have l3 := cell_of_row _ _ 3 _ _ _ HL.out.last
    simp only [ckc, List.getElem?_toArray, List.getElem?_cons_zero, List.getElem?_cons_succ] at l0 l1 l2 l3
    have hz3 := lt_of_block HL.out.last
    have HCK := hid (cooks_any c need F lb bath cold most cooling 1 x)
    simp only [ckc] at HCK
    go_wp2_with fail
    refine (HCK.out _).mono ?_
    rintro e W4 ⟨rfl, hW4⟩
    obtain ⟨h1, h2, h3, h4⟩ := cooks3 (x := x) (more := 1) hW4.symm
    have HL4 := hid (HL.out.keep HRR.out h4)
    have HQ := hid (And.intro h1 (And.intro h2 h3))
    clear hW4 h1 h2 h3 h4 m0 m1 m2 m3 m4 m5 m6 m7 m8 s0 s1 s2 s3 l0 l1 l2 l3 HCK
    go_wp2_with fail
    refine (HF1.out p hpm x 1 _ _ _ W4 (by omega) HL4.out HQ.out.1 HQ.out.2.1 HQ.out.2.2).mono ?_
    rintro e W5 ⟨hg, ⟨k, y, hk, hno, hyes, rfl, hxs, hla⟩ | ⟨hno, rfl, hla⟩⟩
    · have HLW := hid (yb_low HL4.out.low hg (by omega))
      have HR : Hid (p + k ≤ most ∧ tstC c f D need bath cold cooling (p + k) = true ∧ (∀ j, j < p + k → tstC c f D need bath cold cooling j = false) ∧ y.m = p + k) := by
        have hT := fun j => tst_shift (f := f) (need := need) (cold := cold) (cooling := cooling) (bath := bath) j HL4.out.dis
        have e1 : k * 1 = k := Nat.mul_one k
        rw [hT, e1] at hyes
        refine ⟨by omega, hyes, fun j hj => ?_, by have := hxs.2.2; rw [HM.out, e1] at this; exact this⟩
        by_cases h : j < p
        · exact hnop j h
        · have := hno (j - p) (by omega)
          rw [hT, Nat.mul_one, show p + (j - p) = j by omega] at this
          exact this
      have n3 := cell_of_row _ _ 3 _ _ _ (heap_alloc_new W5 (.cells (ckc y) 160))
      simp only [ckc, List.getElem?_toArray, List.getElem?_cons_zero, List.getElem?_cons_succ] at n3 ⊢
      rw [HR.out.2.2.2] at n3
      rw [HR.out.2.2.2]
      clear hno hyes hxs hla hg
      go_wp2_with fail
      refine bodyPost_ret (v := .tuple #[.int .i64 ((p + k : Nat) : Int), .int .i64 0]) (by simp [results, Tryz.results73, go_sem]) rfl ⟨HLW.out.alloc (by have := HLW.out.size; omega) _, .inl ⟨p + k, HR.out.1, HR.out.2.1, HR.out.2.2.1, rfl⟩⟩
    · have HLW := hid (yb_low HL4.out.low hg (by omega))
      have HR : Hid (∀ j, j ≤ most → tstC c f D need bath cold cooling j = false) := by
        intro j hj
        by_cases h : j < p
        · exact hnop j h
        · have := hno (j - p) (by omega)
          rw [Nat.mul_one, tst_shift (j - p) HL4.out.dis, show p + (j - p) = j by omega] at this
          exact this
      simp only [zck]
      clear hno hla hg
      go_wp2_with fail
      refine bodyPost_ret (v := .tuple #[.int .i64 0, .int .i64 8]) (by simp [results, Tryz.results73, go_sem]) rfl ⟨HLW.out.alloc (by have := HLW.out.size; omega) _, .inr ⟨HR.out, rfl⟩⟩
end Go.Proofs.YtihbjimnjhfpeaaGreat

/- slices.Repeat no times; ticks; Cook: contracts. -/
namespace Go.Proofs.YtihbjimnjhfpeaaGreat
open Go.RowKit Go.Lib

set_option maxRecDepth 100000 in
set_option maxHeartbeats 1000000 in
theorem mul64_none (w : World) :
    Calls Tryz.prog 148 #[.int .u64 1, .int .u64 0] w fun e w' => e = .returned (.tuple #[.int .u64 0, .int .u64 0]) ∧ w = w' := by
  have e1 : bits .and .u64 1 4294967295 = 1 := by decide
  have e3 : bits .and .u64 0 4294967295 = 0 := by decide
  go_enter Tryz.func148, Tryz.ntmps148
  go_wp2
  go_ret2
  exact ⟨rfl, rfl⟩
set_option maxRecDepth 100000 in
set_option maxHeartbeats 1000000 in
theorem mul_none (w : World) :
    Calls Tryz.prog 120 #[.int .u64 1, .int .u64 0] w fun e w' => e = .returned (.tuple #[.int .u64 0, .int .u64 0]) ∧ w = w' := by
  go_enter Tryz.func120, Tryz.ntmps120
  go_wp2_with (go_at_call 148; refine (mul64_none _).mono ?_; rintro e w' ⟨rfl, rfl⟩)
  go_ret2
  exact ⟨rfl, rfl⟩
set_option maxRecDepth 100000 in
set_option maxHeartbeats 2000000 in
theorem repeat_none (w : World) (b o cap : Nat) :
    Calls Tryz.prog 74 #[.slice (some ⟨b, o, none⟩) 1 cap, .int .i64 0] w (RepP w []) := by
  have hmk := run_make_row' (P := Tryz.prog) 28 3 (.int .i64 0) 8 Tryz.underlying28 infoIf rfl .i64 .i64 0 (by omega) (by omega)
  simp only [show ((0 : Nat) : Int) = 0 from rfl] at hmk
  go_enter Tryz.func74, Tryz.ntmps74
  go_wp2_with (first
    | (go_at_call 120; refine (mul_none _).mono ?_; rintro e w' ⟨rfl, rfl⟩)
    | (refine wpList_copy_splice rfl (.tmp 31) (.tmp 32) 28 28 rfl 3 Tryz.underlying28 infoI (some ⟨w.heap.size, 0, none⟩) (some ⟨b, o, none⟩) 0 0 1 cap rfl rfl w.heap.size 0 (List.replicate 0 (Value.int .i64 0)) 3 (made_at w 0 3) [] rfl (fun h => absurd h (Nat.lt_irrefl 0)) (by simp) (ints_one []) w.heap.size w ((Below.refl _ w).alloc (Nat.le_refl _) _) (Nat.le_refl _) ?_; intro w6 HG6 hB6))
  have hg6 := HG6.out
  simp only [List.replicate_zero, splice, List.take_nil, List.drop_nil, List.append_nil] at hg6
  have HG := hid hg6
  have HB6 := hid hB6
  clear HG6 hg6 hB6 hmk
  go_loopw [8] (fun i wr => i = .int .i64 0 ∧ Hid (wr.heap[w.heap.size]? = some (.cells (ivs []).toArray 3 (0, 0))) ∧ Hid (Below w.heap.size w wr)) (fun i _ => 0)
  case atStart => exact ⟨rfl, HG, HB6⟩
  case round =>
    obtain ⟨rfl, HW, HB⟩ := hrel
    go_wp2
    go_ret
    exact ⟨w.heap.size, rfl, Nat.le_refl _, HW.out, HB.out⟩

theorem rep_any (w : World) (b o cap n : Nat) (t : Int) (hc : w.cell? ⟨b, o, none⟩ = some (.int .i64 t)) (hn : n ≤ 4096) :
    Calls Tryz.prog 74 #[.slice (some ⟨b, o, none⟩) 1 cap, .int .i64 (n : Int)] w (RepP w (List.replicate n t)) := by
  rcases Nat.eq_zero_or_pos n with rfl | h
  · exact repeat_none w b o cap
  · exact repeat_any w b o cap n t hc h hn
def tick1 (x : Int) : Bool := decide (0 ≤ x) && decide (x ≤ 2000)
def ticksB (l : List Int) : Bool := l.all tick1 && decide (l.sum ≤ 2000)
theorem ticks_bad {l : List Int} {k : Nat} (hk : k < l.length) (h : tick1 l[k] = false) : ticksB l = false := by
  have : l.all tick1 = false := by
    rw [List.all_eq_false]
    exact ⟨l[k], List.getElem_mem hk, by rw [h]; simp⟩
  unfold ticksB
  rw [this]; rfl
theorem sum_take {l : List Int} {k : Nat} (hk : k < l.length) : (l.take (k + 1)).sum = (l.take k).sum + l[k] := by
  rw [List.take_add_one, List.getElem?_eq_getElem hk, Option.toList_some, List.sum_append, List.sum_singleton]
theorem sum_bd {l : List Int} (h : ∀ j (hj : j < l.length), tick1 l[j] = true) : 0 ≤ l.sum ∧ l.sum ≤ 2000 * l.length := by
  induction l with
  | nil => simp
  | cons x l ih =>
    have h0 := h 0 (by simp)
    have h1 := ih (fun j hj => by have := h (j + 1) (by simp; omega); simpa using this)
    simp [tick1] at h0
    simp only [List.sum_cons, List.length_cons]
    omega
set_option maxHeartbeats 2000000 in
theorem ticks_any (w : World) (v : Value) (l : List Int) (hl : RowI w v l) (hlen : l.length ≤ 1000) :
    Calls Tryz.prog 29 #[v] w fun e w' => e = .returned (.bool (ticksB l)) ∧ w = w' := by
  rcases hl with ⟨a0, c0, rfl, rfl⟩ | ⟨b, o, cap, rfl, hm, hc⟩
  · go_enter Tryz.func29, Tryz.ntmps29
    go_wp2
    refine wp_loop_rounds 1 ?_
    rw [rounds_succ]
    go_wp2
    go_ret
    exact ⟨rfl, rfl⟩
  · have HC := hid hc; clear hc hm
    go_enter Tryz.func29, Tryz.ntmps29
    go_wp2
    go_loop [3, 8] (fun s i => ∃ k : Nat, k ≤ l.length ∧ i = .int .i64 (k : Int) ∧ s = .int .i64 (l.take k).sum ∧ Hid (∀ j (hj : j < l.length), j < k → tick1 l[j] = true)) (fun s i => l.length - (intOf i).toNat)
    case atStart => exact ⟨0, Nat.zero_le _, rfl, rfl, fun j _ h => absurd h (Nat.not_lt_zero _)⟩
    case round =>
      obtain ⟨k, hk, rfl, rfl, hok⟩ := hrel
      have hbd : 0 ≤ (l.take k).sum ∧ (l.take k).sum ≤ 2000 * k := by
        have := sum_bd (l := l.take k) (fun j hj => by rw [List.length_take] at hj; rw [List.getElem_take]; exact hok.out j (by omega) (by omega))
        rw [List.length_take, Nat.min_eq_left hk] at this
        exact this
      by_cases hlt : k < l.length
      · have ex := HC.out k hlt
        have hlt' : (k : Int) < l.length := by omega
        have HSU := hid (sum_take hlt)
        cases ho : tick1 l[k]
        · have hE := hid (ticks_bad hlt ho)
          generalize (l.take k).sum = sm at *
          generalize l[k] = x at ex ho
          change (decide (0 ≤ x) && decide (x ≤ 2000)) = false at ho
          go_wp2_with (go_at_call 42; refine (pwithin_any _ _ _ _).mono ?_; rintro e w' ⟨rfl, rfl⟩)
          go_ret
          exact ⟨by rw [hE.out]; rfl, rfl⟩
        · have hst : Hid (∀ j (hj : j < l.length), j < k + 1 → tick1 l[j] = true) := fun j hj h => by
            rcases Nat.lt_or_ge j k with h1 | h1
            · exact hok.out j hj h1
            · obtain rfl : j = k := by omega
              exact ho
          have hxb : 0 ≤ l[k] ∧ l[k] ≤ 2000 := by simpa [tick1] using ho
          generalize (l.take k).sum = sm at *
          generalize l[k] = x at ex ho HSU hxb
          change (decide (0 ≤ x) && decide (x ≤ 2000)) = true at ho
          go_wp2_with (go_at_call 42; refine (pwithin_any _ _ _ _).mono ?_; rintro e w' ⟨rfl, rfl⟩)
          go_round
          case rel => exact ⟨k + 1, by omega, by go_num, by rw [HSU.out], hst⟩
          case measure => simp [intOf]; omega
      · obtain rfl : k = l.length := by omega
        rw [List.take_length] at *
        have hE := hid (show ticksB l = decide (l.sum ≤ 2000) by
          unfold ticksB
          rw [show l.all tick1 = true from List.all_eq_true.2 fun x hx => by
            obtain ⟨j, hj, e⟩ := List.mem_iff_getElem.1 hx
            rw [← e]
            exact hok.out j hj hj]
          rfl)
        generalize l.sum = sm at *
        go_wp2
        go_ret
        exact ⟨by rw [hE.out]; rfl, rfl⟩
end Go.Proofs.YtihbjimnjhfpeaaGreat
