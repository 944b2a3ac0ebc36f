/- Texts of this seat, one behind the other. -/
import Derived.Test.YtihbjimnjhfpeaaGreatR04
import Derived.ProofKit
import Derived.OpenShut
import Derived.ChangeOld
import Derived.Lib.SmallJoins
import Derived.Deep.Fields
/- Walk of Run where it runs: contract. -/
namespace Go.Proofs.YtihbjimnjhfpeaaGreat
open Go.RowKit Go.Shelf
attribute [local go_sem] Oper.semAt_some

/-- The last grid's body. -/
def lastH (x : Bd) (pre : List (Nat × Bd)) : Bd := match pre.getLast? with | some y => y.2 | none => x
theorem lastH_succ {x : Bd} {xs : List (Nat × Bd)} {k : Nat} {y : Nat × Bd} (h : xs[k]? = some y) : lastH x (xs.take (k + 1)) = y.2 := by
  unfold lastH; rw [List.take_add_one, h]; simp
theorem lastH_all (c : Cn) (x : Bd) (l : List Int) : lastH x (seqH c x l) = runS c x l := by
  have h1 := lastH_succ (x := x) (seqH_get c x l l.length (Nat.le_refl _))
  rw [List.take_of_length_le (by rw [seqH_len]; exact Nat.le_refl _), List.take_length] at h1
  exact h1
theorem seqH_at {c : Cn} {x : Bd} {l : List Int} {k : Nat} {y : Nat × Bd} (h : (seqH c x l)[k]? = some y) : k ≤ l.length ∧ y = (k, runS c x (l.take k)) := by
  have hk : k < (seqH c x l).length := (List.getElem?_eq_some_iff.1 h).1
  rw [seqH_len] at hk
  have := seqH_get c x l k (by omega)
  rw [h] at this
  exact ⟨by omega, Option.some.inj this⟩
/-- What Run's rounds stand on: the last grid in its box, and the three boxes. -/
def RunI (w : World) (xb : Nat) (c : Cn) (A B : Array Value) (y : Bd) (W : World) : Prop := GridAt W xb c y ∧ R3 w W A B #[.slice none 0 0, .bool false]
theorem RunI.turn {w W W' : World} {xb B0 : Nat} {c : Cn} {A B : Array Value} {y : Bd} {row : Option Nat} (h : RunI w xb c A B y W) (hxb : xb < B0) (hw : w.heap.size + 1 + 1 < B0) (hg : W.grownBy W' row) (hr : ∀ j, row = some j → B0 ≤ j) : RunI w xb c A B y W' := by
  have hk : ∀ j, j < B0 → j < W.heap.size → W'.heap[j]? = W.heap[j]? := fun j h1 h2 => hg.block j h2 (fun e => by have := hr _ e.symm; omega)
  obtain ⟨h1, h2⟩ := h
  exact ⟨(hk _ hxb (lt_of_block h1)).trans h1, ⟨(hk _ (by omega) (lt_of_block h2.can)).trans h2.can, (hk _ (by omega) (lt_of_block h2.bod)).trans h2.bod, (hk _ (by omega) (lt_of_block h2.res)).trans h2.res, h2.low.grown hg h2.low.size (fun j e => by have := hr j e; omega)⟩⟩
theorem RunI.more {w W W' : World} {xb : Nat} {c : Cn} {A B : Array Value} {y : Bd} (h : RunI w xb c A B y W) (hb : Below W.heap.size W W') : RunI w xb c A B y W' := ⟨h.1.keep hb, h.2.keep hb⟩
/-- What is laid for a round's variable. -/
theorem now_laid {W W' : World} {c : Cn} {y : Bd} {Z : Array Value} (hW : (W.alloc (.cells Z 208)).setRow W.heap.size (gridA c y) = W') : GridAt W' W.heap.size c y ∧ Below W.heap.size W W' := by
  subst hW
  exact ⟨setRow_heap _ _ _ _ _ _ (heap_alloc_new W _), ((Below.refl _ W).alloc (Nat.le_refl _) _).trans ⟨rfl, rfl, rfl, by simp, fun k hk => setRow_other _ _ _ _ (by omega)⟩⟩
theorem keeps_below {B : Nat} {W W' : World} (h : Below W.heap.size W W') : KeepsFrom B W W' := ⟨h.size, fun k _ _ hk _ => (h.block k (lt_of_block hk)).trans hk⟩
theorem kpH_below {n0 x0 y0 : Nat} {W W' : World} (hn : n0 ≤ W.heap.size) (h : Below W.heap.size W W') : KpH n0 x0 y0 W W' :=
  ⟨h.size, fun j hj _ _ => h.block j (by omega), fun j cs hj _ => (h.block j (lt_of_block hj)).trans hj⟩
/-- What Run hands back. -/
def RunP (c : Cn) (x : Bd) (l : List Int) (w : World) (e : Ending) (w' : World) : Prop := ∃ v, e = .returned (.tuple #[.agg #[v, .bool (runS c x l).2], .int .i64 0]) ∧ RowN w w' v (runS c x l).1 ∧ Below w.heap.size w w'

theorem R3.row {w W : World} {A B R cs : Array Value} {g : Nat} (h : R3 w W A B R) (hg : w.heap.size + 1 + 1 < g) : R3 w (W.setRow g cs) A B R :=
  ⟨(setRow_other _ _ _ _ (by omega)).trans h.can, (setRow_other _ _ _ _ (by omega)).trans h.bod, (setRow_other _ _ _ _ (by omega)).trans h.res, h.low.trans ⟨rfl, rfl, rfl, by simp, fun k hk => setRow_other _ _ _ _ (by omega)⟩⟩
theorem kpH_row {n0 g : Nat} {W : World} (cs : Array Value) : KpH n0 g g W (W.setRow g cs) :=
  ⟨by simp, fun j _ h2 _ => setRow_other _ _ _ _ h2, fun j cs' hj h2 => (setRow_other _ _ _ _ h2).trans hj⟩
theorem keeps_row {B g : Nat} {W : World} {cs old : Array Value} {t : TypeId} (h : W.heap[g]? = some (.cells old t (0, 0))) : KeepsFrom B W (W.setRow g cs) :=
  (KeepsOthers.of_grownBy (grownBy_setRow W g cs) (fun j o ej hj => by cases ej; rw [h] at hj; cases hj; rfl)).from _
theorem res_end {w W7 : World} {A B : Array Value} {u v : Value} {D : Nat} (h7 : R3 w W7 A B #[.slice none 0 0, .bool false]) (hD : w.heap.size + 1 + 1 < D) :
    (((W7.setCell ⟨w.heap.size + 1 + 1, 0, none⟩ u).setCell ⟨w.heap.size + 1 + 1, 1, none⟩ v).putObj D (.deferred none)).cell? ⟨w.heap.size + 1 + 1, 0, none⟩ = some u ∧
    (((W7.setCell ⟨w.heap.size + 1 + 1, 0, none⟩ u).setCell ⟨w.heap.size + 1 + 1, 1, none⟩ v).putObj D (.deferred none)).cell? ⟨w.heap.size + 1 + 1, 1, none⟩ = some v ∧
    (∀ g, g ≠ w.heap.size + 1 + 1 → g ≠ D → (((W7.setCell ⟨w.heap.size + 1 + 1, 0, none⟩ u).setCell ⟨w.heap.size + 1 + 1, 1, none⟩ v).putObj D (.deferred none)).heap[g]? = W7.heap[g]?) ∧
    Below w.heap.size w (((W7.setCell ⟨w.heap.size + 1 + 1, 0, none⟩ u).setCell ⟨w.heap.size + 1 + 1, 1, none⟩ v).putObj D (.deferred none)) := by
  have h1 := heap_setCell_same W7 (w.heap.size + 1 + 1) 0 _ _ u h7.res
  have h2 := heap_setCell_same _ (w.heap.size + 1 + 1) 1 _ _ v h1
  have h3 : (((W7.setCell ⟨w.heap.size + 1 + 1, 0, none⟩ u).setCell ⟨w.heap.size + 1 + 1, 1, none⟩ v).putObj D (.deferred none)).heap[w.heap.size + 1 + 1]? = _ := (World.putObj_heap_other (by omega)).trans h2
  refine ⟨cell_of_row _ _ 0 _ _ _ h3, cell_of_row _ _ 1 _ _ _ h3, fun g hg hgD => ?_, ?_⟩
  · rw [World.putObj_heap_other hgD, heap_setCell_other _ _ _ _ (by exact hg), heap_setCell_other _ _ _ _ (by exact hg)]
  · refine ((h7.low.setCell (p := ⟨w.heap.size + 1 + 1, 0, none⟩) (by show w.heap.size ≤ w.heap.size + 1 + 1; omega) u).setCell (p := ⟨w.heap.size + 1 + 1, 1, none⟩) (by show w.heap.size ≤ w.heap.size + 1 + 1; omega) v).trans ⟨rfl, rfl, rfl, by simp, fun k hk => World.putObj_heap_other (by omega)⟩
set_option maxRecDepth 20000 in
set_option maxHeartbeats 8000000 in
theorem run_ok (c : Cn) (x : Bd) (v v2 : Value) (l : List Int) (w : World) (hv : c.V) (hb : bodyV c x.1 x.2 = true) (ho : okL l = true) (hlen : l.length ≤ 2000) (hl : RowI w v x.1) (hl2 : RowI w v2 l) :
    Calls Tryz.prog 151 #[.agg #[.int .i64 (c.R : Int), .int .i64 (c.L : Int), .int .i64 c.A, .int .i64 c.B, .int .i64 c.K, .int .i64 c.A2, .int .i64 c.B2], .agg #[v, .bool x.2], v2] w (RunP c x l w) := by
  obtain ⟨hxl, _, hxo⟩ := bodyV_iff.1 hb
  have hc := hv.ok
  have hx : Warm c x := ⟨hxl, okL_bd hxo⟩
  have HCHK : Hid (chkE (bothB c.R c.L c.A c.B c.K c.A2 c.B2 x.1 x.2) l = 0) := by unfold Hid; rw [bothB_cn c hv, hb]; exact chkE_ok ho (by omega)
  obtain ⟨p1, p2⟩ := hc.p
  have h48 : x.1.length ≤ 48 := by omega
  have h0 : 0 < x.1.length := by omega
  have HL := hid (fun w1 (g : Below w.heap.size w w1) => hl.keep g)
  have HL2 := hid (fun w1 (g : Below w.heap.size w w1) => hl2.keep g)
  obtain ⟨a0, cap0, rfl⟩ := hl.shape
  obtain ⟨a, ba, o, cap, rfl, ha, hcl, hbl⟩ := hl2.form
  have HOK := hid hc; have HX := hid hx; have HAD := hid ha; have HCL := hid hcl; have HBL := hid hbl; have HLB := hid (okL_bd ho)
  have HS := hid (r3_start (w := w) (A := #[.int .i64 (c.R : Int), .int .i64 (c.L : Int), .int .i64 c.A, .int .i64 c.B, .int .i64 c.K, .int .i64 c.A2, .int .i64 c.B2]) (B := #[.slice a0 x.1.length cap0, .bool x.2]) (R := #[.slice none 0 0, .bool false]))
  clear hl hl2 ha hcl hbl hx hc hb hxl hxo ho hv
  refine (callsIn_wide (n := 10)).1 ?_
  refine callsIn_of_wp_marks Tryz.func151 rfl trivial ?_ rfl
  simp only [Tryz.ntmps151, List.size_toArray, List.length_cons, List.length_nil, Nat.reduceAdd, Nat.reduceSub, Array.replicate_succ, Array.replicate_zero, List.push_toArray, List.append_toArray, List.nil_append, List.cons_append]
  gi_wp2
  refine ⟨trivial, ?_⟩
  refine (callsIn_wide.2 (check_any _ _ _ _ _ _ _ _ _ x.1 _ _ l (HL.out _ HS.out.low) (HL2.out _ HS.out.low))).mono ?_
  rintro e w1 ⟨rfl, hb1⟩
  rw [HCHK.out]
  have H1 := hid (HS.out.keep hb1)
  clear hb1
  have q0 := H1.out.cell.1 0; have q1 := H1.out.cell.1 1; have q2 := H1.out.cell.1 2; have q3 := H1.out.cell.1 3; have q4 := H1.out.cell.1 4; have q5 := H1.out.cell.1 5; have q6 := H1.out.cell.1 6
  have q7 := H1.out.cell.2.1 0; have q8 := H1.out.cell.2.1 1
  simp only [List.getElem?_toArray, List.getElem?_cons_zero, List.getElem?_cons_succ] at q0 q1 q2 q3 q4 q5 q6 q7 q8
  gi_wp2
  refine ⟨trivial, ?_⟩
  refine (callsIn_wide.2 (gridOf_any c x.1 x.2 _ _ (HL.out _ H1.out.low) h0 h48)).mono ?_
  rintro e w2 ⟨rfl, hb2⟩
  have H2 := hid (H1.out.keep hb2)
  clear hb2 q0 q1 q2 q3 q4 q5 q6 q7 q8
  gi_wp2_with (first
    | (refine wpListIn_store_whole rfl 208 _ _ rfl w2.heap.size (gridA c x) rfl rfl 208 _ (heap_alloc_new w2 _) (infoGx c x h48) (by rw [gridA_size h48]; rfl) (gridA_one c x) ?_; generalize hW : World.setRow _ _ _ = W3; have H3 := hid (now_laid hW); clear hW)
    | (refine wpListIn_load_whole rfl 208 _ rfl w2.heap.size rfl 208 (gridA c x) (0, 0) _ H3.out.1 Tryz.underlying208 rfl (infoGx c x h48) ?_)
    | (refine wpListIn_store_whole rfl 208 _ _ rfl W3.heap.size (gridA c x) rfl rfl 208 _ (heap_alloc_new W3 _) (infoGx c x h48) (by rw [gridA_size h48]; rfl) (gridA_one c x) ?_; generalize hW : World.setRow _ _ _ = W4; have H4 := hid (now_laid hW); clear hW))
  refine ⟨trivial, ?_⟩
  refine (callsIn_wide.2 (during_any w2.heap.size a l.length cap W4)).mono ?_
  rintro e w5 ⟨rfl, rfl⟩
  gi_wp2
  obtain ⟨hg3, hb3⟩ := H3.out
  obtain ⟨hg4, hb4⟩ := H4.out
  have z2 := H2.out.low.size
  have z2' := lt_of_block H2.out.res
  have z3 := lt_of_block hg3
  have z4 := lt_of_block hg4
  have hB5 := box2_start (w := W4) (A := #[.pointer (some ⟨w2.heap.size, 0, none⟩)]) (B := #[.slice a l.length cap]) (T := 218) (T' := 28) (fz := (0, 0)) (fz' := (0, 0))
  have z5 : ((W4.alloc (.cells #[.pointer (some ⟨w2.heap.size, 0, none⟩)] 218)).alloc (.cells #[.slice a l.length cap] 28)).heap.size = W4.heap.size + 2 := by simp
  generalize (W4.alloc (.cells #[.pointer (some ⟨w2.heap.size, 0, none⟩)] 218)).alloc (.cells #[.slice a l.length cap] 28) = W5 at hB5 z5 ⊢
  have h5 := ((H2.out.keep hb3).keep hb4).keep hB5.low
  have hI : ItH c x l W4.heap.size (W4.heap.size + 1) w2.heap.size a ba o cap (W4.heap.size + 2) W5 :=
    ⟨hB5.fst 0, hB5.snd 0, (hg3.keep hb4).keep hB5.low, HAD.out, fun j hj => (h5.low.cell (p := ⟨ba, o + j, none⟩) (HBL.out (by rintro rfl; simp at hj))).trans (HCL.out j hj), ⟨by omega, by omega, by omega, fun h => by have := HBL.out h; omega⟩, by omega⟩
  have hg5 : GridAt W5 W3.heap.size c x := hg4.keep hB5.low
  have H5 := hid h5
  clear h5 hB5 hg3 hb3 hg4 hb4 H3 H4
  refine range_boxed (T := 208) (F := Fence.wide) (n := 10) (xs := seqH c x l) (encs := encH c) (Kp := KpH (W4.heap.size + 2) W3.heap.size W3.heap.size) (w0 := W5) rfl (by omega) (gf := 178) (lb := #[.pointer (some ⟨W4.heap.size, 0, none⟩), .pointer (some ⟨W4.heap.size + 1, 0, none⟩)]) rfl trivial (enters_of Tryz.func178 (by kernel_rfl) rfl)
    (fun l0 J Jx W hW hJ hJx hY h0 => during_run l0 c x l _ _ _ a ba o cap _ W3.heap.size W3.heap.size W.heap.size J Jx HOK.out HX.out HLB.out (by omega) (by omega) ⟨by omega, by omega, by omega, fun h => by have := HBL.out h; omega⟩ hJ hY W (hI.past hW.size (fun j hj => hW.block j (by omega))) (Nat.le_refl _) h0)
    (fun h k => h.trans k) (fun W l o o' hl h hc _ => KpH.put (by omega) h hc) (Below.refl _ _) (fun _ => rfl)
    (fun pre W => RunI w W3.heap.size c #[.int .i64 (c.R : Int), .int .i64 (c.L : Int), .int .i64 c.A, .int .i64 c.B, .int .i64 c.K, .int .i64 c.A2, .int .i64 c.B2] #[.slice a0 x.1.length cap0, .bool x.2] (lastH x pre) W ∧ (lastH x pre).1.length ≤ 48 ∧ W4.heap.size + 2 ≤ W.heap.size) (fun _ _ => False) ?hI ?hIx ⟨⟨hg5, H5.out⟩, h48, by omega⟩
    (fun y a' W => ∃ nb, W3.heap.size < nb ∧ GridAt W nb c y.2 ∧ a' = { tmps := #[.agg #[.int .i64 (c.R : Int), .int .i64 (c.L : Int), .int .i64 c.A, .int .i64 c.B, .int .i64 c.K, .int .i64 c.A2, .int .i64 c.B2], .agg #[.slice a0 x.1.length cap0, .bool x.2], .slice a l.length cap, .pointer (some ⟨w.heap.size, 0, none⟩), .pointer (some ⟨w.heap.size + 1, 0, none⟩), undef, .pointer (some ⟨w.heap.size + 1 + 1, 0, none⟩), .int .i64 0, .int .i64 0, .pointer (some ⟨w2.heap.size, 0, none⟩), .pointer (some ⟨W3.heap.size, 0, none⟩), undef, .pointer (some ⟨nb, 0, none⟩),
      .agg #[.int .i64 (c.R : Int), .int .i64 (c.L : Int), .int .i64 c.A, .int .i64 c.B, .int .i64 c.K, .int .i64 c.A2, .int .i64 c.B2], .agg #[.slice a0 x.1.length cap0, .bool x.2], .slice a l.length cap, .int .i64 0, .int .i64 0, .bool false, undef, undef, .agg #[.int .i64 (c.R : Int), .int .i64 (c.L : Int), .int .i64 c.A, .int .i64 c.B, .int .i64 c.K, .int .i64 c.A2, .int .i64 c.B2], .agg #[.slice a0 x.1.length cap0, .bool x.2], .agg (gridA c (x.1, x.2)), .agg (gridA c x), .slice a l.length cap,
      .func (.func 178) #[] #[.pointer (some ⟨W4.heap.size, 0, none⟩), .pointer (some ⟨W4.heap.size + 1, 0, none⟩)], .int .i64 (y.1 : Int), .agg (gridA c y.2), undef, undef], defers := [] }) ?hAx ?assign ?body ?done ?stop
  case assign =>
    rintro l' k y W K hx ⟨hi, h48', hz⟩ hK
    obtain ⟨hkl, rfl⟩ := seqH_at hx
    have hw : (runS c x (l.take k)).1.length ≤ 48 := by have := (HX.out.run HOK.out (l := l.take k) (fun b hb => HLB.out b (List.mem_of_mem_take hb))).len; unfold Cn.P at p2; omega
    generalize runS c x (l.take k) = y at hx hw hK ⊢
    simp only [encH]
    gi_wp2_with (refine wpListIn_store_whole rfl 208 _ _ rfl W.heap.size (gridA c y) rfl rfl 208 _ (heap_alloc_new W _) (infoGx c y hw) (by rw [gridA_size hw]; rfl) (gridA_one c y) ?_; generalize hW : World.setRow _ _ _ = W6; have H6 := hid (now_laid hW); clear hW)
    exact hK _ _ (keeps_below H6.out.2) (kpH_below hz H6.out.2) ⟨hi.more H6.out.2, h48', Nat.le_trans hz H6.out.2.size⟩ ⟨W.heap.size, by omega, H6.out.1, rfl⟩
  case body =>
    rintro l' k y a' W hx ⟨hi, h48', hz⟩ ⟨nb, hnb, hgn, rfl⟩
    obtain ⟨hkl, rfl⟩ := seqH_at hx
    have hw : (runS c x (l.take k)).1.length ≤ 48 := by have := (HX.out.run HOK.out (l := l.take k) (fun b hb => HLB.out b (List.mem_of_mem_take hb))).len; unfold Cn.P at p2; omega
    have hls := lastH_succ (x := x) hx
    generalize runS c x (l.take k) = y at hx hw hgn hls ⊢
    have HLS := hid hls; have HGN := hid hgn; have HI' := hid hi
    clear hls hgn hi hx
    gi_wp2_with (first
      | (refine wpListIn_load_whole rfl 208 _ rfl nb rfl 208 (gridA c y) (0, 0) _ HGN.out Tryz.underlying208 rfl (infoGx c y hw) ?_)
      | (refine wpListIn_store_whole rfl 208 _ _ rfl W3.heap.size (gridA c y) rfl rfl 208 _ HI'.out.1 (infoGx c y hw) (by rw [gridA_size h48', gridA_size hw]) (gridA_one c y) ?_))
    refine ⟨keeps_row HI'.out.1, kpH_row _, ?_⟩
    rw [HLS.out]
    exact ⟨⟨setRow_heap _ _ _ _ _ _ HI'.out.1, HI'.out.2.row (by omega)⟩, hw, by simpa using hz⟩
  case done =>
    rintro D W hD ⟨hi, h48', hz⟩ hK
    rw [lastH_all] at hi h48'
    have hlr : (runS c x l).1.length = c.P := (HX.out.run HOK.out (fun b hb => HLB.out b hb)).len
    have HI' := hid hi; have HLR := hid hlr
    clear hi hlr
    gi_wp2
    refine ⟨trivial, ?_⟩
    refine (callsIn_wide.2 (body_any W3.heap.size c (runS c x l) W HI'.out.1 HOK.out HLR.out)).mono ?_
    rintro e W7 ⟨vr, rfl, ⟨g, rfl, hg1, hg2⟩, hb7⟩
    have hK7 := (hb7.block D (lt_of_block hK)).trans hK
    have hDl := lt_of_block hK
    have h7 := HI'.out.2.keep hb7
    have k0 := h7.cell.2.2.1 0; have k1 := h7.cell.2.2.1 1; have k2 := h7.cell.2.2.2 0; have k3 := h7.cell.2.2.2 1
    simp only [List.getElem?_toArray, List.getElem?_cons_zero, List.getElem?_cons_succ] at k0 k1
    have hl2 := lt_of_block HI'.out.2.res
    have H7 := hid (res_end (u := .slice (some ⟨g, 0, none⟩) (runS c x l).1.length (runS c x l).1.length) (v := .bool (runS c x l).2) (D := D) h7 (by omega)); have HG2 := hid hg2
    obtain ⟨R, hR⟩ : ∃ R, R = runS c x l := ⟨_, rfl⟩
    rw [← hR] at HG2 H7 ⊢
    have HRR := hid hR
    clear hR h7 hg2 hb7 hK
    have HK8 := hid (((KeepsOthers.setCell W7 ⟨w.heap.size + 1 + 1, 0, none⟩ (.slice (some ⟨g, 0, none⟩) R.1.length R.1.length)).trans (KeepsOthers.setCell _ ⟨w.heap.size + 1 + 1, 1, none⟩ (.bool R.2))).same D _ hK7 rfl)
    gi_wp2
    refine ⟨by simp, .inl ⟨_, _, rfl, run_takeDeferred HK8.out, ?_⟩⟩
    obtain ⟨c6, c7, c8, c9⟩ := H7.out
    refine ⟨.tuple #[.agg #[.slice (some ⟨g, 0, none⟩) R.1.length R.1.length, .bool R.2], .int .i64 0], by simp [results, Tryz.results151, go_sem, c6, c7], ?_⟩
    refine ⟨_, by rw [← HRR.out], ⟨g, by rw [← HRR.out], by omega, ?_⟩, c9⟩
    rw [← HRR.out, c8 g (by omega) (by omega)]
    exact HG2.out
  case stop => rintro D k W hD h; exact h.elim
  case hI =>
    rintro pre A B' row ⟨h1, h2, h3⟩ hgr hr
    exact ⟨h1.turn (B0 := W5.heap.size) (by omega) (by omega) hgr (fun j e => (hr j e).1), h2, Nat.le_trans h3 hgr.size⟩
  case hIx => rintro pre A B' row h; exact h.elim
  case hAx =>
    rintro y a' W l' o1 o2 ⟨nb, h1, h2, h3⟩ hl' ho hc'
    exact ⟨nb, h1, (World.putObj_heap_other (by rintro rfl; rw [h2] at ho; cases ho; cases hc')).trans h2, h3⟩
end Go.Proofs.YtihbjimnjhfpeaaGreat

/- Walks of Step and of the law's awake: contracts. -/
namespace Go.Proofs.YtihbjimnjhfpeaaGreat
open Go.RowKit Go.Shelf

theorem one_at {W : World} {n : Nat} (t : Int) (T : TypeId) (h : W.heap.size = n) : RowI (W.alloc (.cells #[.int .i64 t] T)) (.slice (some ⟨n, 0, none⟩) 1 1) [t] := by
  subst h
  refine .inr ⟨W.heap.size, 0, 1, rfl, by simp [maxLen], fun k hk => ?_⟩
  obtain rfl : k = 0 := by simp at hk; omega
  exact cell_alloc_new W _ T (0, 0) 0
theorem res_set {w W7 : World} {A B : Array Value} {u v : Value} (h7 : R3 w W7 A B #[.slice none 0 0, .bool false]) :
    ((W7.setCell ⟨w.heap.size + 1 + 1, 0, none⟩ u).setCell ⟨w.heap.size + 1 + 1, 1, none⟩ v).cell? ⟨w.heap.size + 1 + 1, 0, none⟩ = some u ∧
    ((W7.setCell ⟨w.heap.size + 1 + 1, 0, none⟩ u).setCell ⟨w.heap.size + 1 + 1, 1, none⟩ v).cell? ⟨w.heap.size + 1 + 1, 1, none⟩ = some v ∧
    (∀ g, g ≠ w.heap.size + 1 + 1 → ((W7.setCell ⟨w.heap.size + 1 + 1, 0, none⟩ u).setCell ⟨w.heap.size + 1 + 1, 1, none⟩ v).heap[g]? = W7.heap[g]?) ∧
    Below w.heap.size w ((W7.setCell ⟨w.heap.size + 1 + 1, 0, none⟩ u).setCell ⟨w.heap.size + 1 + 1, 1, none⟩ v) := by
  have h1 := heap_setCell_same W7 (w.heap.size + 1 + 1) 0 _ _ u h7.res
  have h2 := heap_setCell_same _ (w.heap.size + 1 + 1) 1 _ _ v h1
  refine ⟨cell_of_row _ _ 0 _ _ _ h2, cell_of_row _ _ 1 _ _ _ h2, fun g hg => ?_, ?_⟩
  · rw [heap_setCell_other _ _ _ _ (by exact hg), heap_setCell_other _ _ _ _ (by exact hg)]
  · exact (h7.low.setCell (p := ⟨w.heap.size + 1 + 1, 0, none⟩) (by show w.heap.size ≤ w.heap.size + 1 + 1; omega) u).setCell (p := ⟨w.heap.size + 1 + 1, 1, none⟩) (by show w.heap.size ≤ w.heap.size + 1 + 1; omega) v

set_option maxRecDepth 20000 in
set_option maxHeartbeats 800000 in
theorem step_ok (c : Cn) (x : Bd) (v : Value) (bath : Int) (w : World) (hv : c.V) (hb : bodyV c x.1 x.2 = true) (ho : okL [bath] = true) (hl : RowI w v x.1) :
    Calls Tryz.prog 122 #[.agg #[.int .i64 (c.R : Int), .int .i64 (c.L : Int), .int .i64 c.A, .int .i64 c.B, .int .i64 c.K, .int .i64 c.A2, .int .i64 c.B2], .agg #[v, .bool x.2], .int .i64 bath] w (RunP c x [bath] w) := by
  have HV := hid hv; have HBV := hid hb; have HO := hid ho
  have HL := hid (fun w1 (g : Below w.heap.size w w1) => hl.keep g)
  obtain ⟨a0, cap, rfl⟩ := hl.shape
  clear hl hv hb ho
  have HS := hid (r3_start (w := w) (A := #[.int .i64 (c.R : Int), .int .i64 (c.L : Int), .int .i64 c.A, .int .i64 c.B, .int .i64 c.K, .int .i64 c.A2, .int .i64 c.B2]) (B := #[.slice a0 x.1.length cap, .bool x.2]) (R := #[.slice none 0 0, .bool false]))
  go_enter Tryz.func122, Tryz.ntmps122
  go_wp2_with (go_at_call 151; refine (run_ok c x _ _ [bath] _ HV.out HBV.out HO.out (by simp) (HL.out _ (HS.out.low.alloc HS.out.low.size _)) (one_at _ _ (by simp))).mono ?_; rintro e w1 ⟨v1, rfl, ⟨g, rfl, hg1, hg2⟩, hb⟩; have H1 := hid (HS.out.keep (balloc hb)); have HG1 := hid hg1; have HG2 := hid hg2; clear hb hg1 hg2; have k0 := H1.out.cell.2.2.1 0; have k1 := H1.out.cell.2.2.1 1; have k2 := H1.out.cell.2.2.2 0; have k3 := H1.out.cell.2.2.2 1; simp only [List.getElem?_toArray, List.getElem?_cons_zero, List.getElem?_cons_succ] at k0 k1)
  obtain ⟨c6, c7, c8, c9⟩ := res_set (u := .slice (some ⟨g, 0, none⟩) (runS c x [bath]).1.length (runS c x [bath]).1.length) (v := .bool (runS c x [bath]).2) H1.out
  have hg1 := HG1.out
  simp only [World.size_alloc] at hg1
  refine bodyPost_ret (v := .tuple #[.agg #[.slice (some ⟨g, 0, none⟩) (runS c x [bath]).1.length (runS c x [bath]).1.length, .bool (runS c x [bath]).2], .int .i64 0]) (by simp [results, Tryz.results122, go_sem, c6, c7]) rfl ⟨_, rfl, ⟨g, rfl, by omega, ?_⟩, c9⟩
  rw [c8 g (by omega)]
  exact HG2.out

def c0 : Cn := ⟨1, 1, 100, 50, 0, 0, 0⟩
end Go.Proofs.YtihbjimnjhfpeaaGreat

/- What the laws' rows share: arguments opened. -/
namespace Go.Proofs.YtihbjimnjhfpeaaGreat
open Go.ChangeShapes Go.WideShapes Go.ChangeAt Go.RowKit Go.Joins Go.Deep

theorem own : ownKnob Tryz.prog.godebug = none := by kernel_rfl
theorem laidOut : laidOutB Tryz.prog = true := by kernel_rfl
theorem cellsC : Tryz.prog.cellsOf 23 = 7 := by kernel_rfl
theorem cellsI : Tryz.prog.cellsOf 3 = 1 := by kernel_rfl

section
variable {H : Type} {enc : TypeId × Value → H} {P : Program} {w : World} {base : Nat} {spare : Nat → Bool} {held : Bool}
/-- A struct Two by value: its thirteen cells. -/
def TwoV (r l a b k a2 b2 : Int) (u : Value) (br : Bool) (u2 : Value) (br2 : Bool) (v v2 : Value) : Value := .agg #[.int .i64 r, .int .i64 l, .int .i64 a, .int .i64 b, .int .i64 k, .int .i64 a2, .int .i64 b2, u, .bool br, u2, .bool br2, v, v2]
set_option maxRecDepth 100000 in
theorem trod_can {n : Nat} {c0 c1 c2 c3 c4 c5 c6 : Value} {y : DataW H × List MemPlace} (h : DataW.trod enc Tryz.prog w base spare held n 23 [c0, c1, c2, c3, c4, c5, c6] = some y) :
    ∃ r l a b k a2 b2 : Int, c0 = .int .i64 r ∧ c1 = .int .i64 l ∧ c2 = .int .i64 a ∧ c3 = .int .i64 b ∧ c4 = .int .i64 k ∧ c5 = .int .i64 a2 ∧ c6 = .int .i64 b2 := by
  obtain ⟨xs, m, _, hx, _, hlen, hg⟩ := DataW.trod_struct Tryz.underlying23 h
  match xs, hlen with
  | [y0, y1, y2, y3, y4, y5, y6], _ =>
    have g0 := hg 0 _ rfl; have g1 := hg 1 _ rfl; have g2 := hg 2 _ rfl; have g3 := hg 3 _ rfl; have g4 := hg 4 _ rfl; have g5 := hg 5 _ rfl; have g6 := hg 6 _ rfl
    simp [cellsI] at g0 g1 g2 g3 g4 g5 g6
    obtain ⟨n0, e0, _⟩ := DataW.trod_int Tryz.underlying3 g0
    obtain ⟨n1, e1, _⟩ := DataW.trod_int Tryz.underlying3 g1
    obtain ⟨n2, e2, _⟩ := DataW.trod_int Tryz.underlying3 g2
    obtain ⟨n3, e3, _⟩ := DataW.trod_int Tryz.underlying3 g3
    obtain ⟨n4, e4, _⟩ := DataW.trod_int Tryz.underlying3 g4
    obtain ⟨n5, e5, _⟩ := DataW.trod_int Tryz.underlying3 g5
    obtain ⟨n6, e6, _⟩ := DataW.trod_int Tryz.underlying3 g6
    simp at e0 e1 e2 e3 e4 e5 e6
    exact ⟨n0, n1, n2, n3, n4, n5, n6, e0, e1, e2, e3, e4, e5, e6⟩
end
end Go.Proofs.YtihbjimnjhfpeaaGreat

/- Walk of HeatBetween. -/
namespace Go.Proofs.YtihbjimnjhfpeaaGreat
open Go.RowKit


/-- The least and the greatest of a bath and the first k temperatures, or beyond them. -/
structure InR (lo hi bath : Int) (T : List Int) (k : Nat) : Prop where
  b1 : lo ≤ bath
  b2 : bath ≤ hi
  all : ∀ j (h : j < T.length), j < k → lo ≤ T[j] ∧ T[j] ≤ hi
  r1 : -50000 ≤ lo
  r2 : hi ≤ 200000
theorem InR.next {lo hi bath : Int} {T : List Int} {k : Nat} (h : InR lo hi bath T k) (hk : k < T.length) {lo' hi' : Int} (h1 : lo' ≤ lo) (h2 : hi ≤ hi') (h3 : lo' ≤ T[k]) (h4 : T[k] ≤ hi') (h5 : -50000 ≤ lo') (h6 : hi' ≤ 200000) : InR lo' hi' bath T (k + 1) :=
  ⟨by have := h.b1; omega, by have := h.b2; omega, fun j hj hjk => by
    rcases Nat.lt_or_ge j k with g | g
    · have := h.all j hj g; omega
    · obtain rfl : j = k := by omega
      exact ⟨h3, h4⟩, h5, h6⟩

end Go.Proofs.YtihbjimnjhfpeaaGreat
