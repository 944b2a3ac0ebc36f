/- Texts of this seat, one behind the other. -/
import Derived.Test.YtihbjimnjhfpeaaPdg
/- Walk of first over a search's cooks: contract. -/
namespace Go.Proofs.Ytihbjimnjhfpeaa
open Go.RowKit Go.Shelf Go.Lib
attribute [local go_sem] Oper.semAt_some

/-- What first hands back, with least's last. -/
def FirstP (c : Cn) (f : Int → Nat) (D : Dish) (need bath cold : Int) (cooling m0 more yb N : Nat) (w : World) (e : Ending) (w' : World) : Prop :=
  w.grownBy w' (some yb) ∧
  ((∃ k x, k < N ∧ (∀ j, j < k → tstC c f D need bath cold cooling (j * more) = false) ∧ tstC c f D need bath cold cooling (k * more) = true ∧ e = .returned (.tuple #[.agg (ckc x), .bool true]) ∧ XsC c f D bath m0 more yb k x w' ∧ LastC c f D bath m0 more yb k w') ∨
   ((∀ j, j < N → tstC c f D need bath cold cooling (j * more) = false) ∧ e = .returned (.tuple #[.agg zck, .bool false]) ∧ LastC c f D bath m0 more yb N w'))
section
variable {c : Cn} {f : Int → Nat} {D : Dish} {bath : Int} {m0 more yb k : Nat} {W W' : World}
theorem XsC.grown {x : Ck} {row : Option Nat} (h : XsC c f D bath m0 more yb k x W) (hg : W.grownBy W' row) (hr : ∀ j, row = some j → yb ≤ j ∧ ¬ IntAt W j) : XsC c f D bath m0 more yb k x W' := ⟨h.1.grown hg hr, h.2⟩
theorem LastC.grown {row : Option Nat} (h : LastC c f D bath m0 more yb k W) (hg : W.grownBy W' row) (hr : ∀ j, row = some j → yb < j ∧ ¬ IntAt W j) : LastC c f D bath m0 more yb k W' := by
  obtain ⟨x, h1, h2⟩ := h
  exact ⟨x, (hg.block _ (lt_of_block h1) (fun e => by have := hr _ e.symm; omega)).trans h1, h2.grown hg (fun j e => ⟨by have := hr _ e; omega, (hr _ e).2⟩)⟩
theorem LastC.cells (h : LastC c f D bath m0 more yb k W) (hc : ∀ (g : Nat) (cs : Array Value) (T : Nat) (fr : Nat × Nat), W.heap[g]? = some (Obj.cells cs T fr) → W'.heap[g]? = some (Obj.cells cs T fr)) : LastC c f D bath m0 more yb k W' := by
  obtain ⟨x, h1, h2⟩ := h
  exact ⟨x, hc _ _ _ _ h1, h2.1.cells hc, h2.2⟩
theorem kpK_grown {F : Nat} {lb : Array Value} {lo hi : Int} {mb B0 : Nat} {I : World → Prop} (hR : RateOk F lb f lo hi mb B0 I) (hg : W.grownBy W' (some yb)) (hy : B0 ≤ yb) : KpK I yb W W' :=
  ⟨hg.size, fun j cs t fz h1 h2 => (hg.block j (lt_of_block h1) (fun e => h2 (Option.some.inj e))).trans h1, fun hI => hR.keep _ _ _ hI hg (fun j e => by cases e; exact hy)⟩
theorem kpK_below {F : Nat} {lb : Array Value} {lo hi : Int} {mb B0 : Nat} {I : World → Prop} (hR : RateOk F lb f lo hi mb B0 I) (hb : Below W.heap.size W W') : KpK I yb W W' :=
  ⟨hb.size, fun j _ _ _ h1 _ => (hb.block j (lt_of_block h1)).trans h1, fun hI => hR.below hI hb⟩
end

set_option maxRecDepth 100000 in
set_option maxHeartbeats 8000000 in
theorem first_any (c : Cn) (need : Int) (F : Nat) (lb : Array Value) (bath cold : Int) (most cooling : Nat) (f : Int → Nat) (lo hi : Int) (mb B0 : Nat) (I : World → Prop) (x0 : Ck) (more N sbC fb qb sbL yb : Nat) (w : World) (hR : RateOk F lb f lo hi mb B0 I) (hF : Fix I mb) (hv : c.V) (hG : Good c x0.d) (hb : okT bath = true) (hbb : lo ≤ bath ∧ bath ≤ hi) (hc0 : okT cold = true) (hbc : lo ≤ cold ∧ cold ≤ hi) (hbd : ∀ t ∈ x0.d.1.1, lo ≤ t ∧ t ≤ hi)
    (hm0 : x0.m ≤ 2000) (hmost : most ≤ 2000) (hn : cooling ≤ 2000) (hmore : 1 ≤ more ∧ more ≤ 45) (hN : ∀ k, k < N ↔ x0.m + k * more ≤ most) (hB0 : B0 ≤ yb)
    (h1 : w.heap[sbC]? = some (.cells #[.int .i64 (c.R : Int), .int .i64 (c.L : Int), .int .i64 c.A, .int .i64 c.B, .int .i64 c.K, .int .i64 c.A2, .int .i64 c.B2, .int .i64 need, .func (.func F) #[] lb, .int .i64 bath, .int .i64 (most : Nat), .int .i64 cold, .int .i64 (cooling : Nat)] 58 (0, 0))) (h2 : w.heap[fb]? = some (.cells (ckc x0) 78 (0, 0))) (h3 : w.heap[qb]? = some (.cells #[.int .i64 (more : Nat)] 3 (0, 0))) (h4 : w.heap[sbL]? = some (.cells #[.int .i64 (c.R : Int), .int .i64 (c.L : Int), .int .i64 c.A, .int .i64 c.B, .int .i64 c.K, .int .i64 c.A2, .int .i64 c.B2, .int .i64 need, .func (.func F) #[] lb, .int .i64 bath, .int .i64 (most : Nat), .int .i64 cold, .int .i64 (cooling : Nat)] 58 (0, 0))) (h5 : w.heap[yb]? = some (.cells (ckc x0) 78 (0, 0)))
    (hI : I w) (hat : CkAt yb x0 w) :
    Calls Try.prog 48 #[.func (.func 61) #[] #[.pointer (some ⟨fb, 0, none⟩), .pointer (some ⟨sbC, 0, none⟩), .pointer (some ⟨qb, 0, none⟩)], .func (.func 45) #[] #[.pointer (some ⟨sbL, 0, none⟩), .pointer (some ⟨yb, 0, none⟩)]] w
      (FirstP c f x0.d need bath cold cooling x0.m more yb N w) := by
  have HRR := hid hR; have HFX := hid hF; have HN := hid hN
  have HLS := hid (fun k (x : Ck) (W : World) (z0 z1 z2 z3 : Value) (hx : XsC c f x0.d bath x0.m more yb k x W) (hIW : I W) (hs : W.heap[sbL]? = some (.cells #[.int .i64 (c.R : Int), .int .i64 (c.L : Int), .int .i64 c.A, .int .i64 c.B, .int .i64 c.K, .int .i64 c.A2, .int .i64 c.B2, .int .i64 need, .func (.func F) #[] lb, .int .i64 bath, .int .i64 (most : Nat), .int .i64 cold, .int .i64 (cooling : Nat)] 58 (0, 0))) (hy : W.heap[yb]? = some (.cells #[z0, z1, z2, z3] 78 (0, 0))) =>
    least1_any c need F lb bath cold most cooling f lo hi mb B0 I x sbL yb z0 z1 z2 z3 W hR hF hv (by rw [hx.2.1]; exact afN_good _ hv.ok hG hb) hc0 hn hIW hs hy hx.1 hbc (by rw [hx.2.1]; exact afN_bd _ hv.ok hG hbb hbd))
  have HCR := hid (fun l0 n0 B J Jx h1 h2 h3 h4 W h5 h6 h7 h8 h9 => cooks_run l0 c need F lb bath cold most cooling f lo hi mb B0 I x0 more N yb fb sbC qb n0 B J Jx hR hF hv hG hb hbb hbd hm0 hmost hmore hN h1 h2 h3 h4 W h5 h6 h7 h8 h9)
  have hyl := lt_of_block h5
  have hs1 := lt_of_block h1
  have hs2 := lt_of_block h2
  have hs3 := lt_of_block h3
  have hs4 := lt_of_block h4
  have hne1 : sbC ≠ yb := by rintro rfl; rw [h1] at h5; exact absurd (Obj.cells.inj (Option.some.inj h5)).2.1 (by decide)
  have hne3 : qb ≠ yb := by rintro rfl; rw [h3] at h5; exact absurd (Obj.cells.inj (Option.some.inj h5)).2.1 (by decide)
  have hne4 : sbL ≠ yb := by rintro rfl; rw [h4] at h5; exact absurd (Obj.cells.inj (Option.some.inj h5)).2.1 (by decide)
  have hx0 : x0.d = afN c f x0.d bath (0 * more) := by rw [Nat.zero_mul, afN_zero]
  have H1 := hid h1; have H2 := hid h2; have H3 := hid h3; have H4 := hid h4; have H5 := hid h5; have HI := hid hI; have HAT := hid hat
  have HX0 := hid hx0
  clear h1 h2 h3 h4 h5 hI hat hR hF hN hv hG hb hbb hc0 hbc hbd hx0
  refine (callsIn_wide (n := 10)).1 ?_
  refine callsIn_of_wp_marks Try.func48 rfl trivial ?_ rfl
  simp only [Try.ntmps48, List.size_toArray, List.length_cons, List.length_nil, Nat.reduceAdd, Nat.reduceSub, Array.replicate_succ, Array.replicate_zero, List.push_toArray, List.append_toArray, List.nil_append, List.cons_append]
  gi_wp2
  have hS := b3_start (w := w) (T1 := 80) (T2 := 78) (T3 := 4) (A := #[.func (.func 45) #[] #[.pointer (some ⟨sbL, 0, none⟩), .pointer (some ⟨yb, 0, none⟩)]]) (B := #[.slice none 0 0, .bool false, .slice none 0 0, .int .i64 0]) (R := #[.bool false])
  generalize ((w.alloc (.cells #[.func (.func 45) #[] #[.pointer (some ⟨sbL, 0, none⟩), .pointer (some ⟨yb, 0, none⟩)]] 80)).alloc (.cells #[.slice none 0 0, .bool false, .slice none 0 0, .int .i64 0] 78)).alloc (.cells #[.bool false] 4) = W5 at hS ⊢
  have hlow := hS.low
  have hz5 := lt_of_block hS.three
  have HFI : Hid (FiB c need F lb bath cold most cooling I sbL yb zck false w W5) := ⟨(hlow.block _ hs4).trans H4.out, HRR.out.below HI.out hlow, hS.one, hS.two, hS.three, below_row hlow⟩
  have HAT5 := hid (HAT.out.keep hlow)
  have HLA5 : Hid (LastC c f x0.d bath x0.m more yb 0 W5) := ⟨x0, (hlow.block _ hyl).trans H5.out, HAT5.out, HX0.out, by omega⟩
  have HB1 := hid ((hlow.block _ hs1).trans H1.out)
  have HB2 := hid ((hlow.block _ hs2).trans H2.out)
  have HB3 := hid ((hlow.block _ hs3).trans H3.out)
  have HI5 := hid (HRR.out.below HI.out hlow)
  have h1 := hlow.size
  clear hS hlow H1 H2 H3 H4 H5 HI HAT
  have heq := enter_at Try.func45 (by kernel_rfl) (by kernel_rfl)
  refine range_told (T := 78) (F := Fence.wide) (n := 10) (N := N) (Xs := XsC c f x0.d bath x0.m more yb) (encs := encC) (Kp := KpK I yb) (w0 := W5) rfl (by omega) (gf := 61) (lb := #[.pointer (some ⟨fb, 0, none⟩), .pointer (some ⟨sbC, 0, none⟩), .pointer (some ⟨qb, 0, none⟩)]) rfl trivial (enters_of Try.func61 (by kernel_rfl) rfl)
    (fun l0 J Jx W hW hJ hJx hY h0 => HCR.out l0 W5.heap.size W.heap.size J Jx (by omega) (by omega) hJ hY W ⟨(hW.block _ (by omega)).trans HB1.out, (hW.block _ (by omega)).trans HB3.out, HRR.out.below HI5.out hW, by omega, by omega, hW.size, hne1, hne3⟩ ((hW.block _ (by omega)).trans HB2.out) (HAT5.out.keep hW) (Nat.le_refl _) h0)
    (fun h k => h.trans k) (fun W l o o' hl h hc _ => ⟨by simp, fun j cs t fz hj _ => (World.putObj_heap_other (by rintro rfl; rw [h] at hj; cases hj; cases hc)).trans hj, fun hI => HRR.out.keep _ _ _ hI (grownBy_putObj' W l o') (fun j e => by cases e; omega)⟩) (Below.refl _ _) (fun _ => rfl)
    (fun k W => FiB c need F lb bath cold most cooling I sbL yb zck false w W ∧ (∀ j, j < k → tstC c f x0.d need bath cold cooling (j * more) = false) ∧ LastC c f x0.d bath x0.m more yb k W ∧ W5.heap.size ≤ W.heap.size)
    (fun k W => ∃ i x, k = i + 1 ∧ FiB c need F lb bath cold most cooling I sbL yb (ckc x) true w W ∧ (∀ j, j < i → tstC c f x0.d need bath cold cooling (j * more) = false) ∧ tstC c f x0.d need bath cold cooling (i * more) = true ∧ XsC c f x0.d bath x0.m more yb i x W ∧ LastC c f x0.d bath x0.m more yb i W) ?hI ?hIx ⟨HFI.out, fun j hj => absurd hj (Nat.not_lt_zero j), HLA5.out, Nat.le_refl _⟩
    (fun x a' W => ∃ nb, W5.heap.size ≤ nb ∧ W.heap[nb]? = some (.cells (ckc x) 78 (0, 0)) ∧ a' = { tmps := #[.func (.func 61) #[] #[.pointer (some ⟨fb, 0, none⟩), .pointer (some ⟨sbC, 0, none⟩), .pointer (some ⟨qb, 0, none⟩)], .func (.func 45) #[] #[.pointer (some ⟨sbL, 0, none⟩), .pointer (some ⟨yb, 0, none⟩)], undef, .pointer (some ⟨w.heap.size, 0, none⟩), .pointer (some ⟨w.heap.size + 1, 0, none⟩), .pointer (some ⟨w.heap.size + 1 + 1, 0, none⟩), .pointer (some ⟨nb, 0, none⟩),
      .func (.func 61) #[] #[.pointer (some ⟨fb, 0, none⟩), .pointer (some ⟨sbC, 0, none⟩), .pointer (some ⟨qb, 0, none⟩)], .agg (ckc x), undef, undef, undef, undef, undef], defers := [] }) ?hXs ?hAx ?assign ?body ?done ?stop
  case hI =>
    rintro k A B' row ⟨h1, h2, h3, h4⟩ hgr hr
    exact ⟨h1.grown HRR.out hgr hB0 hs4 hne4 hyl (fun j e => .inr (by have := (hr j e).1; omega)), h2, h3.grown hgr (fun j e => by obtain ⟨hj, o, ho, hap⟩ := hr j e; exact ⟨by omega, noInt_apart ho hap⟩), Nat.le_trans h4 hgr.size⟩
  case hIx =>
    rintro k A B' row ⟨i, x, h0, h1, h2, h3, h4, h5⟩ hgr hr
    exact ⟨i, x, h0, h1.grown HRR.out hgr hB0 hs4 hne4 hyl (fun j e => .inr (by have := (hr j e).1; omega)), h2, h3, h4.grown hgr (fun j e => by obtain ⟨hj, o, ho, hap⟩ := hr j e; exact ⟨by omega, noInt_apart ho hap⟩), h5.grown hgr (fun j e => by obtain ⟨hj, o, ho, hap⟩ := hr j e; exact ⟨by omega, noInt_apart ho hap⟩)⟩
  case hXs =>
    rintro k x W l o o' hx hl ho hc
    exact hx.grown (grownBy_putObj' W l o') (fun j e => by cases e; exact ⟨by omega, noInt_other ho hc⟩)
  case hAx =>
    rintro x a' W l' o1 o2 ⟨nb, h1, h2, h3⟩ hl' ho hc'
    exact ⟨nb, h1, (World.putObj_heap_other (by rintro rfl; rw [h2] at ho; cases ho; cases hc')).trans h2, h3⟩
  case assign =>
    rintro l' k x W K hkN hx ⟨hi, hno, hla, hz⟩ hK
    simp only [encC]
    gi_wp2_with (refine wpListIn_store_whole rfl 78 _ _ rfl W.heap.size (ckc x) rfl rfl 78 _ (heap_alloc_new W _) (infoCk x) rfl (ckc_one x) ?_; generalize hW : World.setRow _ _ _ = W6; have H6 := hid (laid_row hW); clear hW)
    obtain ⟨hn6, hb6⟩ := H6.out
    refine hK _ _ (keeps_below hb6) (kpK_below HRR.out hb6) (hx.grown (gbelow hb6) (fun j e => by cases e)) ⟨hi.grown HRR.out (gbelow hb6) hB0 hs4 hne4 hyl (fun j e => by cases e), hno, hla.grown (gbelow hb6) (fun j e => by cases e), Nat.le_trans hz hb6.size⟩ ⟨W.heap.size, hz, hn6, ?_⟩
    rfl
  case body =>
    rintro l' k x a' W hkN hx ⟨hi, hno, hla, hz⟩ ⟨nb, hnb, hbx, rfl⟩
    obtain ⟨y, hy1, hy2⟩ := id hla
    have HL := hid (HLS.out k x W _ _ _ _ hx hi.inv hi.sL hy1)
    have c1 := cell_of_row _ _ 0 _ _ _ hi.b1
    simp only [List.getElem?_toArray, List.getElem?_cons_zero] at c1
    have HFI := hid hi; have HXX := hid hx; have HBX := hid hbx; have HLA := hid hla; have HNO := hid hno
    have hzz := lt_of_block hi.b3
    clear hi hx hbx hla hno hy1 hy2
    gi_wp2_with (refine wpListIn_load_whole rfl 78 _ rfl nb rfl 78 (ckc x) (0, 0) _ HBX.out Try.underlying78 rfl (infoCk x) ?_)
    refine ⟨trivial, ?_⟩
    refine (callsIn_wide.2 HL.out).mono ?_
    rintro e W2 (⟨ht, rfl, hb2⟩ | ⟨ht, rfl, hy2, hg2⟩)
    · have H2 : Hid (FiB c need F lb bath cold most cooling I sbL yb zck false w W2) := HFI.out.grown HRR.out (gbelow hb2) hB0 hs4 hne4 hyl (fun j e => by cases e)
      have HX2 := hid (HXX.out.grown (gbelow hb2) (fun j e => by cases e))
      have HL2 := hid (HLA.out.grown (gbelow hb2) (fun j e => by cases e))
      have HBX2 := hid ((hb2.block _ (lt_of_block HBX.out)).trans HBX.out)
      have HT := hid ht
      have HB2' := hid hb2
      have hz2 := hb2.size
      have hzb := lt_of_block H2.out.b3
      clear hb2 ht c1
      have f0 : ∀ cs : Array Value, (W2.setRow (w.heap.size + 1) cs).heap[w.heap.size + 1 + 1]? = some (.cells #[.bool false] 4 (0, 0)) := fun cs => (setRow_other _ _ _ _ (by omega)).trans H2.out.b3
      have F0 := hid f0
      clear f0
      gi_wp2_with (first
        | (refine wpListIn_load_whole rfl 78 _ rfl nb rfl 78 (ckc x) (0, 0) _ HBX2.out Try.underlying78 rfl (infoCk x) ?_)
        | (refine wpListIn_store_whole rfl 78 _ _ rfl (w.heap.size + 1) (ckc x) rfl rfl 78 _ H2.out.b2 (infoCk x) rfl (ckc_one x) ?_; have b0 := cell_of_row _ _ 0 _ _ _ (F0.out (ckc x)); have b1 := frozen_of_row _ _ 0 _ _ (F0.out (ckc x)); simp only [List.getElem?_toArray, List.getElem?_cons_zero] at b0))
      generalize hW : World.setCell _ ⟨w.heap.size + 1 + 1, 0, none⟩ _ = W3
      obtain ⟨h3, e3, z3, W1, g1, n1, g2, n2⟩ := H2.out.told HRR.out hB0 hs4 hyl hW
      refine ⟨⟨by omega, fun j o hj ho _ => (e3 _ (by omega) (by omega)).trans ((HB2'.out.block _ (lt_of_block ho)).trans ho)⟩, k, x, rfl, h3, HNO.out, ?_, (HX2.out.grown g1 (fun j e => by cases e; exact ⟨by omega, n1⟩)).grown g2 (fun j e => by cases e; exact ⟨by omega, n2⟩), (HL2.out.grown g1 (fun j e => by cases e; exact ⟨by omega, n1⟩)).grown g2 (fun j e => by cases e; exact ⟨by omega, n2⟩)⟩
      have := HT.out
      rw [HXX.out.2.1] at this
      exact this
    · have HE : Hid (KeepsFrom W5.heap.size W W2 ∧ KpK I yb W W2 ∧ FiB c need F lb bath cold most cooling I sbL yb zck false w W2 ∧ (∀ j, j < k + 1 → tstC c f x0.d need bath cold cooling (j * more) = false) ∧ LastC c f x0.d bath x0.m more yb (k + 1) W2 ∧ W5.heap.size ≤ W2.heap.size) := by
        refine ⟨KeepsFrom.of_grownBy hg2 (fun j e => by cases e; omega), kpK_grown HRR.out hg2 hB0, HFI.out.grown HRR.out hg2 hB0 hs4 hne4 hyl (fun j e => by cases e; exact .inl rfl), fun j hj => ?_, ⟨x, hy2, ?_⟩, Nat.le_trans hz hg2.size⟩
        · rcases Nat.lt_succ_iff_lt_or_eq.1 hj with h | rfl
          · exact HNO.out j h
          · have := ht
            rw [HXX.out.2.1] at this
            exact this
        · rw [Nat.add_sub_cancel]
          obtain ⟨y, hy1, _⟩ := HLA.out
          exact HXX.out.grown hg2 (fun j e => by cases e; exact ⟨Nat.le_refl _, noInt_cook hy1⟩)
      clear hy2 hg2 ht c1
      gi_wp2
      exact HE.out
  case done =>
    rintro D W hD ⟨hi, hno, hla, hz⟩ hK
    have HFI := hid hi; have HLA := hid hla; have HNO := hid hno; have HK := hid hK
    have hzb := lt_of_block hi.b3
    clear hi hla hno hK
    have F0 := hid (show ∀ cs : Array Value, (W.setRow (w.heap.size + 1) cs).heap[w.heap.size + 1 + 1]? = some (.cells #[.bool false] 4 (0, 0)) from fun cs => (setRow_other _ _ _ _ (by omega)).trans HFI.out.b3)
    have HIZ := hid (infoCk ⟨(([], false), []), 0, none, none, 0, 0⟩)
    gi_wp2_with (first
      | (refine wpListIn_load_whole rfl 78 _ rfl (w.heap.size + 1) rfl 78 zck (0, 0) _ HFI.out.b2 Try.underlying78 rfl HIZ.out ?_)
      | (refine wpListIn_store_whole rfl 78 _ _ rfl (w.heap.size + 1) zck rfl rfl 78 _ HFI.out.b2 HIZ.out rfl (ckc_one ⟨(([], false), []), 0, none, none, 0, 0⟩) ?_; have b0 := cell_of_row _ _ 0 _ _ _ (F0.out zck); have b1 := frozen_of_row _ _ 0 _ _ (F0.out zck); simp only [List.getElem?_toArray, List.getElem?_cons_zero] at b0))
    generalize hW : World.setCell _ ⟨w.heap.size + 1 + 1, 0, none⟩ _ = W3
    obtain ⟨h3, e3, z3, W1, g1, n1, g2, n2⟩ := HFI.out.told HRR.out hB0 hs4 hyl hW
    have HE := hid (And.intro h3 ((HLA.out.grown g1 (fun j e => by cases e; exact ⟨by omega, n1⟩)).grown g2 (fun j e => by cases e; exact ⟨by omega, n2⟩)))
    have HKD := hid ((e3 D (by omega) (by omega)).trans HK.out)
    clear h3 e3 z3 g1 n1 g2 n2
    refine leaves_marks (B := w.heap.size) [D] _ ⟨by simp, fun d hd => by rw [List.mem_singleton] at hd; subst hd; exact ⟨by omega, HKD.out⟩⟩ fun W9 hb9 hc9 => ?_
    have q2 := hc9 _ _ _ _ HE.out.1.b2
    have q3 := hc9 _ _ _ _ HE.out.1.b3
    have c0 := cell_of_row _ _ 0 _ _ _ q2
    have c1 := cell_of_row _ _ 1 _ _ _ q2
    have c2 := cell_of_row _ _ 2 _ _ _ q2
    have c3 := cell_of_row _ _ 3 _ _ _ q2
    have c4 := cell_of_row _ _ 0 _ _ _ q3
    simp only [zck, List.getElem?_toArray, List.getElem?_cons_zero, List.getElem?_cons_succ] at c0 c1 c2 c3 c4
    refine ⟨.tuple #[.agg zck, .bool false], by simp [results, Try.results48, go_sem, c0, c1, c2, c3, c4, zck], grown_low HE.out.1.gr hb9, .inr ⟨HNO.out, rfl, HE.out.2.cells hc9⟩⟩
  case stop =>
    rintro D k W hD hkN ⟨i, x, rfl, h1, h2, h3, h4, h5⟩ hK
    have HE := hid (And.intro h1 (And.intro h2 (And.intro h3 (And.intro h4 h5))))
    have HK := hid hK
    have hzb := lt_of_block h1.b3
    clear h1 h2 h3 h4 h5 hK
    gi_wp2
    refine leaves_marks (B := w.heap.size) [D] _ ⟨by simp, fun d hd => by rw [List.mem_singleton] at hd; subst hd; exact ⟨by omega, HK.out⟩⟩ fun W9 hb9 hc9 => ?_
    obtain ⟨h1, h2, h3, h4, h5⟩ := HE.out
    have q2 := hc9 _ _ _ _ h1.b2
    have q3 := hc9 _ _ _ _ h1.b3
    have c0 := cell_of_row _ _ 0 _ _ _ q2
    have c1 := cell_of_row _ _ 1 _ _ _ q2
    have c2 := cell_of_row _ _ 2 _ _ _ q2
    have c3 := cell_of_row _ _ 3 _ _ _ q2
    have c4 := cell_of_row _ _ 0 _ _ _ q3
    simp only [ckc, List.getElem?_toArray, List.getElem?_cons_zero, List.getElem?_cons_succ] at c0 c1 c2 c3 c4
    refine ⟨.tuple #[.agg (ckc x), .bool true], by simp [results, Try.results48, go_sem, c0, c1, c2, c3, c4, ckc], grown_low h1.gr hb9, .inl ⟨i, x, by omega, h2, h3, rfl, ⟨h4.1.cells hc9, h4.2⟩, h5.cells hc9⟩⟩
end Go.Proofs.Ytihbjimnjhfpeaa

/- Walk of a search's least: contract. -/
namespace Go.Proofs.Ytihbjimnjhfpeaa
open Go.RowKit Go.Lib

theorem afN_add (c : Cn) (f : Int → Nat) (D : Dish) (b : Int) (p j : Nat) : afN c f (afN c f D b p) b j = afN c f D b (p + j) := by
  induction j with
  | zero => rw [afN_zero]; rfl
  | succ j ih => rw [afN_succ, ih, ← afN_succ]; rfl
theorem rounds_ex (m0 more most : Nat) (h1 : 1 ≤ more) (h : m0 ≤ most) : ∃ N, 1 ≤ N ∧ ∀ k, k < N ↔ m0 + k * more ≤ most :=
  ⟨(most - m0) / more + 1, Nat.le_add_left 1 _, fun k => by rw [Nat.lt_succ_iff, Nat.le_div_iff_mul_le (by omega)]; omega⟩
def risB (c : Cn) (D : Dish) (bath cold : Int) : Bool := (decide (c.K = 0) || D.1.2) && decide (cold ≤ bath)
set_option maxRecDepth 100000 in
set_option maxHeartbeats 4000000 in
theorem rising_any (c : Cn) (need : Int) (F : Nat) (lb : Array Value) (bath cold : Int) (most cooling : Nat) (D : Dish) (ua ub : Option Addr) (uc ud : Nat) (w : World) :
    Calls Try.prog 47 #[.agg #[.int .i64 (c.R : Int), .int .i64 (c.L : Int), .int .i64 c.A, .int .i64 c.B, .int .i64 c.K, .int .i64 c.A2, .int .i64 c.B2, .int .i64 need, .func (.func F) #[] lb, .int .i64 bath, .int .i64 (most : Nat), .int .i64 cold, .int .i64 (cooling : Nat)], .agg #[.slice ua D.1.1.length uc, .bool D.1.2, .slice ub D.2.length ud]] w fun e w' => e = .returned (.bool (risB c D bath cold)) ∧ Below w.heap.size w w' := by
  have HX := hid (b2_start (w := w) (T1 := 58) (T2 := 63) (A := #[.int .i64 (c.R : Int), .int .i64 (c.L : Int), .int .i64 c.A, .int .i64 c.B, .int .i64 c.K, .int .i64 c.A2, .int .i64 c.B2, .int .i64 need, .func (.func F) #[] lb, .int .i64 bath, .int .i64 (most : Nat), .int .i64 cold, .int .i64 (cooling : Nat)]) (B := #[.slice ua D.1.1.length uc, .bool D.1.2, .slice ub D.2.length ud]))
  have hlow := HX.out.low
  have m4 := cell_of_row _ _ 4 _ _ _ HX.out.one
  have s9 := cell_of_row _ _ 9 _ _ _ HX.out.one
  have s11 := cell_of_row _ _ 11 _ _ _ HX.out.one
  have d1 := cell_of_row _ _ 1 _ _ _ HX.out.two
  simp only [List.getElem?_toArray, List.getElem?_cons_zero, List.getElem?_cons_succ] at m4 s9 s11 d1
  have hz := HX.out.lt
  unfold risB
  clear HX
  go_enter Try.func47, Try.ntmps47
  by_cases hK : c.K = 0
  · by_cases hc : cold ≤ bath
    · go_wp2_with fail
      refine bodyPost_ret (v := .bool true) (by simp [results, Try.results47, go_sem, hK]) rfl ⟨by simp [hK, hc], ((Below.refl _ _).alloc (Nat.le_refl _) _).alloc (by simp) _⟩
    · go_wp2_with fail
      refine bodyPost_ret (v := .bool false) (by simp [results, Try.results47, go_sem]) rfl ⟨by simp [hc], ((Below.refl _ _).alloc (Nat.le_refl _) _).alloc (by simp) _⟩
  · cases hD : D.1.2
    · go_wp2_with fail
      refine bodyPost_ret (v := .bool false) (by simp [results, Try.results47, go_sem]) rfl ⟨by simp [hK], ((Below.refl _ _).alloc (Nat.le_refl _) _).alloc (by simp) _⟩
    · by_cases hc : cold ≤ bath
      · go_wp2_with fail
        refine bodyPost_ret (v := .bool true) (by simp [results, Try.results47, go_sem]) rfl ⟨by simp [hK, hc], ((Below.refl _ _).alloc (Nat.le_refl _) _).alloc (by simp) _⟩
      · go_wp2_with fail
        refine bodyPost_ret (v := .bool false) (by simp [results, Try.results47, go_sem]) rfl ⟨by simp [hc], ((Below.refl _ _).alloc (Nat.le_refl _) _).alloc (by simp) _⟩
/-- What least tells. -/
def LeastR (T : Nat → Bool) (most : Nat) (w : World) (e : Ending) (w' : World) : Prop :=
  Below w.heap.size w w' ∧ ((∃ n, n ≤ most ∧ T n = true ∧ (∀ j, j < n → T j = false) ∧ e = .returned (.tuple #[.int .i64 (n : Nat), .int .i64 0])) ∨ ((∀ j, j ≤ most → T j = false) ∧ e = .returned (.tuple #[.int .i64 0, .int .i64 8])))
/-- What least stands on: its search's box, and its last at yb. -/
structure LsL (c : Cn) (need : Int) (F : Nat) (lb : Array Value) (bath cold : Int) (most cooling : Nat) (I : World → Prop) (f : Int → Nat) (D : Dish) (p : Nat) (x : Ck) (w W : World) : Prop where
  one : W.heap[w.heap.size]? = some (.cells #[.int .i64 (c.R : Int), .int .i64 (c.L : Int), .int .i64 c.A, .int .i64 c.B, .int .i64 c.K, .int .i64 c.A2, .int .i64 c.B2, .int .i64 need, .func (.func F) #[] lb, .int .i64 bath, .int .i64 (most : Nat), .int .i64 cold, .int .i64 (cooling : Nat)] 58 (0, 0))
  last : W.heap[w.heap.size + 1 + 1]? = some (.cells (ckc x) 78 (0, 0))
  at' : CkAt (w.heap.size + 1 + 1) x W
  dis : x.d = afN c f D bath p
  tick : x.m = p
  inv : I W
  low : Below w.heap.size w W
section
variable {c : Cn} {need : Int} {F : Nat} {lb : Array Value} {bath cold : Int} {most cooling : Nat} {f : Int → Nat} {lo hi : Int} {mb B0 : Nat} {I : World → Prop} {D : Dish} {p : Nat} {x : Ck} {w W W' : World}
theorem LsL.keep (hR : RateOk F lb f lo hi mb B0 I) (h : LsL c need F lb bath cold most cooling I f D p x w W) (hb : Below W.heap.size W W') : LsL c need F lb bath cold most cooling I f D p x w W' :=
  ⟨(hb.block _ (lt_of_block h.one)).trans h.one, (hb.block _ (lt_of_block h.last)).trans h.last, h.at'.keep hb, h.dis, h.tick, hR.below h.inv hb, bstep h.low h.low.size hb⟩
end
theorem cooks3 {c : Cn} {need : Int} {F : Nat} {lb : Array Value} {bath cold : Int} {most cooling : Nat} {w W : World} {x : Ck} {more : Nat} (hW : ((w.alloc (.cells #[.int .i64 (c.R : Int), .int .i64 (c.L : Int), .int .i64 c.A, .int .i64 c.B, .int .i64 c.K, .int .i64 c.A2, .int .i64 c.B2, .int .i64 need, .func (.func F) #[] lb, .int .i64 bath, .int .i64 (most : Nat), .int .i64 cold, .int .i64 (cooling : Nat)] 58)).alloc (.cells (ckc x) 78)).alloc (.cells #[.int .i64 (more : Nat)] 3) = W) :
    W.heap[w.heap.size]? = some (.cells #[.int .i64 (c.R : Int), .int .i64 (c.L : Int), .int .i64 c.A, .int .i64 c.B, .int .i64 c.K, .int .i64 c.A2, .int .i64 c.B2, .int .i64 need, .func (.func F) #[] lb, .int .i64 bath, .int .i64 (most : Nat), .int .i64 cold, .int .i64 (cooling : Nat)] 58 (0, 0)) ∧ W.heap[w.heap.size + 1]? = some (.cells (ckc x) 78 (0, 0)) ∧ W.heap[w.heap.size + 1 + 1]? = some (.cells #[.int .i64 (more : Nat)] 3 (0, 0)) ∧ Below w.heap.size w W := by
  subst hW
  have h := b3_start (w := w) (T1 := 58) (T2 := 78) (T3 := 3) (A := #[.int .i64 (c.R : Int), .int .i64 (c.L : Int), .int .i64 c.A, .int .i64 c.B, .int .i64 c.K, .int .i64 c.A2, .int .i64 c.B2, .int .i64 need, .func (.func F) #[] lb, .int .i64 bath, .int .i64 (most : Nat), .int .i64 cold, .int .i64 (cooling : Nat)]) (B := ckc x) (R := #[.int .i64 (more : Nat)])
  exact ⟨h.one, h.two, h.three, h.low⟩
end Go.Proofs.Ytihbjimnjhfpeaa
