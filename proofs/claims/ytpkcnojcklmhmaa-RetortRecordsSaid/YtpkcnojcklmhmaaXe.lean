/- Walk of Run where all is valid: contract. -/
import Derived.Test.YtpkcnojcklmhmaaXd
namespace Go.Proofs.Ytpkcnojcklmhmaa
open Go.RowKit Go.Shelf
attribute [local go_sem] Oper.semAt_some

theorem three_laid (W : World) (a b c : Obj) : (((W.alloc a).alloc b).alloc c).heap[W.heap.size]? = some a ∧ (((W.alloc a).alloc b).alloc c).heap[W.heap.size + 1]? = some b ∧ (((W.alloc a).alloc b).alloc c).heap[W.heap.size + 1 + 1]? = some c ∧ Below W.heap.size W (((W.alloc a).alloc b).alloc c) ∧ (((W.alloc a).alloc b).alloc c).heap.size = W.heap.size + 3 := by
  have h2 := heap_alloc_new ((W.alloc a).alloc b) c
  rw [World.size_alloc, World.size_alloc] at h2
  exact ⟨(Below.heap_alloc _ _ _ (by simp; omega)).trans ((Below.heap_alloc _ _ _ (by simp)).trans (heap_alloc_new W _)), (Below.heap_alloc _ _ _ (by simp)).trans (heap_two W _ _), h2, (((Below.refl _ _).alloc (Nat.le_refl _) _).alloc (by simp) _).alloc (by simp; omega) _, by simp⟩
theorem rdL_one (x : Rd) : ∀ u ∈ rdL x, u.oneCell' = true := by
  intro u hu
  simp only [rdL, List.mem_cons, List.not_mem_nil, or_false] at hu
  rcases hu with rfl | rfl | rfl | rfl <;> rfl
theorem rd_new (W : World) (x : Rd) : ∀ j u, (rdL x)[j]? = some u → (W.alloc (.cells #[.int .i64 x.s, .int .i64 x.t, .int .i64 x.c, .int .i64 x.b] 74)).cell? ((⟨W.heap.size, 0, none⟩ : Addr).add j) = some u := by
  intro j u hu
  have := cell_alloc_new W #[.int .i64 x.s, .int .i64 x.t, .int .i64 x.c, .int .i64 x.b] 74 (0, 0) j
  rw [show ((⟨W.heap.size, 0, none⟩ : Addr).add j) = ⟨W.heap.size, j, none⟩ by simp [Addr.add]; omega, this, List.getElem?_toArray]
  exact hu
theorem own_ne {W : World} {base n g : Nat} {v : Value} {xs : List Value} (h : W.ownsRow base 74 4 v n xs) (hg : g < base) : v.ownBlock = none ∨ v.ownBlock ≠ some g := by
  cases hb : v.ownBlock with
  | none => exact .inl rfl
  | some j => exact .inr (fun e => by cases e; have := (World.ownsRow.lt h _ hb).1; omega)
theorem rd_box {W w8 : World} {base n lb : Nat} {v u : Value} {xs : List Value} {o : Obj} (h : W.ownsRow base 74 4 v n xs) (hg : (W.alloc o).grownBy w8 v.ownBlock) (hb : W.heap[lb]? = some (.cells #[u] 61 (0, 0))) (hl : lb < base) : w8.heap[lb]? = some (.cells #[u] 61 (0, 0)) :=
  (hg.block _ (by have := lt_at hb; simp; omega) (fun e => by have := (World.ownsRow.lt h _ e.symm).1; omega)).trans ((Below.heap_alloc _ _ _ (lt_at hb)).trans hb)
theorem rowR_nil (w : World) (r : Nat → Rd) : RowR w (.slice none 0 0) 0 r := ⟨none, 0, 0, 0, rfl, Nat.le_refl _, by unfold maxLen; omega, .inl rfl, fun k hk => absurd hk (Nat.not_lt_zero _)⟩
theorem cell_kept {W W' : World} {a : Addr} {v : Value} (hc : ∀ (g : Nat) (cs : Array Value) (T : Nat) (fr : Nat × Nat), W.heap[g]? = some (Obj.cells cs T fr) → W'.heap[g]? = some (Obj.cells cs T fr)) (h : W.cell? a = some v) : W'.cell? a = some v := by
  have hb : ∃ cs T fr, W.heap[a.block]? = some (.cells cs T fr) := by
    unfold World.cell? at h
    revert h
    cases W.heap[a.block]? with
    | none => simp
    | some o => cases o <;> simp
  obtain ⟨cs, T, fr, hcs⟩ := hb
  rw [World.cell?_of_block (a := a) ((hc _ _ _ _ hcs).trans hcs.symm)]
  exact h
theorem RowR.cells {W W' : World} {v : Value} {n : Nat} {r : Nat → Rd} (h : RowR W v n r) (hc : ∀ (g : Nat) (cs : Array Value) (T : Nat) (fr : Nat × Nat), W.heap[g]? = some (Obj.cells cs T fr) → W'.heap[g]? = some (Obj.cells cs T fr)) : RowR W' v n r := by
  obtain ⟨a, b, o, cap, hv, h1, h2, h3, h4⟩ := h
  exact ⟨a, b, o, cap, hv, h1, h2, h3, fun k g => ⟨cell_kept hc (h4 k g).1, cell_kept hc (h4 k g).2.1, cell_kept hc (h4 k g).2.2.1, cell_kept hc (h4 k g).2.2.2⟩⟩
theorem _root_.Go.World.grownBy.drew {W W' : World} {row : Option Nat} (h : W.grownBy W' row) : W.grownBy W'.drew row := ⟨h.os, h.tape, h.output, h.size, h.block⟩
theorem _root_.Go.World.grownBy.put {W W' : World} {g : Nat} (h : W.grownBy W' (some g)) (i : Nat) (v : Value) : W.grownBy (W'.setCell ⟨g, i, none⟩ v) (some g) :=
  h.trans ⟨rfl, rfl, rfl, by simp, fun j _ hj => heap_setCell_other _ _ _ _ (fun e => hj (by rw [e]))⟩
theorem fill_one {W W' : World} {g : Nat} {cs : Array Value} {T : TypeId} (h : W'.heap[g]? = some (.cells cs T (0, 0)) ∧ W.grownBy W' (some g) ∧ ∀ j, j ≠ g → W'.heap[j]? = W.heap[j]?) (i : Nat) (v : Value) :
    (W'.setCell ⟨g, i, none⟩ v).heap[g]? = some (.cells (cs.setIfInBounds i v) T (0, 0)) ∧ W.grownBy (W'.setCell ⟨g, i, none⟩ v) (some g) ∧ ∀ j, j ≠ g → (W'.setCell ⟨g, i, none⟩ v).heap[j]? = W.heap[j]? :=
  ⟨heap_setCell_same _ g i _ _ v h.1, h.2.1.put i v, fun j hj => (heap_setCell_other _ _ _ _ (by exact hj)).trans (h.2.2 j hj)⟩
/-- A load's box is filled, cell by cell. -/
theorem set_five {W : World} {g : Nat} {z : Ld} (h : W.heap[g]? = some (.cells (ldA z) 57 (0, 0))) (y : Ld) :
    (World.drew (World.setCell (World.setCell (World.setCell (World.setCell (World.setCell W ⟨g, 0, none⟩ (.int .i64 y.tick)) ⟨g, 1, none⟩ (.int .i64 y.step)) ⟨g, 2, none⟩ (.int .i64 y.gone)) ⟨g, 3, none⟩ (.int .i64 y.temp)) ⟨g, 4, none⟩ (.int .i64 y.air))).heap[g]? = some (.cells (ldA y) 57 (0, 0)) ∧ W.grownBy (World.drew (World.setCell (World.setCell (World.setCell (World.setCell (World.setCell W ⟨g, 0, none⟩ (.int .i64 y.tick)) ⟨g, 1, none⟩ (.int .i64 y.step)) ⟨g, 2, none⟩ (.int .i64 y.gone)) ⟨g, 3, none⟩ (.int .i64 y.temp)) ⟨g, 4, none⟩ (.int .i64 y.air))) (some g) ∧ ∀ j, j ≠ g → (World.drew (World.setCell (World.setCell (World.setCell (World.setCell (World.setCell W ⟨g, 0, none⟩ (.int .i64 y.tick)) ⟨g, 1, none⟩ (.int .i64 y.step)) ⟨g, 2, none⟩ (.int .i64 y.gone)) ⟨g, 3, none⟩ (.int .i64 y.temp)) ⟨g, 4, none⟩ (.int .i64 y.air))).heap[j]? = W.heap[j]? := by
  have h5 := fill_one (fill_one (fill_one (fill_one (fill_one ⟨h, World.grownBy.refl W (some g), fun j _ => rfl⟩ 0 (.int .i64 y.tick)) 1 (.int .i64 y.step)) 2 (.int .i64 y.gone)) 3 (.int .i64 y.temp)) 4 (.int .i64 y.air)
  generalize World.setCell (World.setCell (World.setCell (World.setCell (World.setCell W ⟨g, 0, none⟩ (.int .i64 y.tick)) ⟨g, 1, none⟩ (.int .i64 y.step)) ⟨g, 2, none⟩ (.int .i64 y.gone)) ⟨g, 3, none⟩ (.int .i64 y.temp)) ⟨g, 4, none⟩ (.int .i64 y.air) = X at h5 ⊢
  exact ⟨h5.1, h5.2.1.drew, h5.2.2⟩
/-- The first three boxes of Run. -/
structure RuB (w : World) (J : Jb) (x : Ld) (W : World) : Prop where
  ves : W.heap[w.heap.size]? = some (.cells J.wA 53 (0, 0))
  ld : W.heap[w.heap.size + 1]? = some (.cells (ldA x) 57 (0, 0))
  res : W.heap[w.heap.size + 1 + 1]? = some (.cells (ldA ⟨0, 0, 0, 0, 0⟩) 57 (0, 0))
  low : Below w.heap.size w W
theorem ruB_start (w : World) (J : Jb) (x : Ld) : RuB w J x (((w.alloc (.cells J.wA 53)).alloc (.cells (ldA x) 57)).alloc (.cells (ldA ⟨0, 0, 0, 0, 0⟩) 57)) := by
  have h2 := heap_alloc_new ((w.alloc (.cells J.wA 53)).alloc (.cells (ldA x) 57)) (.cells (ldA ⟨0, 0, 0, 0, 0⟩) 57)
  rw [World.size_alloc, World.size_alloc] at h2
  exact ⟨(Below.heap_alloc _ _ _ (by simp; omega)).trans ((Below.heap_alloc _ _ _ (by simp)).trans (heap_alloc_new w _)), (Below.heap_alloc _ _ _ (by simp)).trans (heap_two w _ _), h2, (((Below.refl _ _).alloc (Nat.le_refl _) _).alloc (by simp) _).alloc (by simp; omega) _⟩
theorem RuB.keep {w W W' : World} {J : Jb} {x : Ld} (h : RuB w J x W) (hb : Below W.heap.size W W') : RuB w J x W' :=
  ⟨(hb.block _ (lt_at h.ves)).trans h.ves, (hb.block _ (lt_at h.ld)).trans h.ld, (hb.block _ (lt_at h.res)).trans h.res, bstep h.low h.low.size hb⟩
/-- What Run hands back behind K ticks. -/
def RunK (J : Jb) (x : Ld) (K : Nat) (w : World) (e : Ending) (w' : World) : Prop :=
  ∃ v, e = .returned (.tuple #[.agg (ldA (J.endL (J.lds x K))), v, .int .i64 (J.err (J.lds x K))]) ∧ RowR w' v (J.endN (J.lds x K) K) (J.rds x) ∧ Below w.heap.size w w'
theorem Jb.Stops.done {J : Jb} {x : Ld} {K M : Nat} (h : J.Stops x K) (h1 : ∀ k, k < M → J.live (J.lds x k) = true) (h2 : J.live (J.lds x M) = false) (hM : M < 2000) : K = M := by
  rcases Nat.lt_trichotomy K M with h3 | h3 | h3
  · rcases h.end_ with h4 | h4
    · omega
    · rw [h1 K h3] at h4; cases h4
  · exact h3
  · rw [h.live M h3] at h2; cases h2
theorem Jb.Stops.brk {J : Jb} {x : Ld} {K M : Nat} (h : J.Stops x K) (h1 : ∀ k, k < M → J.live (J.lds x k) = true) (hM : 2000 ≤ M) : K = 2000 := by
  rcases h.end_ with h4 | h4
  · exact h4
  · have := h.le
    rcases Nat.lt_or_ge K 2000 with h3 | h3
    · rw [h1 K (by omega)] at h4; cases h4
    · omega
set_option maxRecDepth 20000 in
set_option maxHeartbeats 4000000 in
theorem run_job (J : Jb) (x : Ld) (u z : Value) (w : World) (K : Nat) (hs : J.s.size ≤ maxLen) (hp : RowP w u J.m J.P) (hq : RowT w z J.n J.q) (hg : goodB J.s J.h J.c J.v J.p J.ch J.m J.P J.n J.q x = true) (hK : J.Stops x K) :
    Calls Try.prog 37 #[.agg J.wA, u, z, .agg (ldA x)] w (RunK J x K w) := by
  obtain ⟨hJ, hx⟩ := Jb.ok_of hs hg
  have HVAL := hid (fun w1 (h1 : RowP w1 u J.m J.P) (h2 : RowT w1 z J.n J.q) => valid_any J.s J.h J.c J.v J.p J.ch u J.m J.P z J.n J.q x.tick x.step x.gone x.temp x.air w1 hs h1 h2)
  rw [show goodB J.s J.h J.c J.v J.p J.ch J.m J.P J.n J.q ⟨x.tick, x.step, x.gone, x.temp, x.air⟩ = true from hg] at HVAL
  have HP := hid (fun w1 (g : Below w.heap.size w w1) => RowT.keep hp g)
  have HQ := hid (fun w1 (g : Below w.heap.size w w1) => hq.keep g)
  have HPW := hid hp; have HQW := hid hq
  obtain ⟨pa, pc, rfl⟩ := RowT.shape hp
  obtain ⟨qa, qc, rfl⟩ := hq.shape
  have HJ := hid hJ; have HX := hid hx; have HKS := hid hK
  obtain ⟨M, hM1, hM2⟩ := Jb.stop_ex J x
  have HM1 := hid hM1; have HM2 := hid hM2
  obtain ⟨i0, hi, hz0, hz1, hz2⟩ := infoRds
  have hmm := hJ.m
  have HS := hid (ruB_start w J x)
  clear hp hq hg hJ hx hK hM1 hM2 hs
  unfold Jb.wA ldA at HS ⊢
  refine (callsIn_wide (n := 10)).1 ?_
  refine callsIn_of_wp_marks Try.func37 rfl trivial ?_ rfl
  simp only [Try.ntmps37, List.size_toArray, List.length_cons, List.length_nil, Nat.reduceAdd, Nat.reduceSub, Array.replicate_succ, Array.replicate_zero, List.push_toArray, List.append_toArray, List.nil_append, List.cons_append]
  gi_wp2
  refine ⟨trivial, ?_⟩
  refine (callsIn_wide.2 (HVAL.out _ (HP.out _ HS.out.low) (HQ.out _ HS.out.low))).mono ?_
  rintro e w1 ⟨rfl, hb1⟩
  have H1 := hid (HS.out.keep hb1)
  clear hb1 HS
  have H2 := hid (H1.out.keep ((Below.refl _ w1).alloc (Nat.le_refl _) (.cells #[.slice none 0 0] 61)))
  have q0 := cell_of_row _ _ 0 _ _ _ H2.out.ves; have q1 := cell_of_row _ _ 1 _ _ _ H2.out.ves; have q2 := cell_of_row _ _ 2 _ _ _ H2.out.ves; have q3 := cell_of_row _ _ 3 _ _ _ H2.out.ves; have q4 := cell_of_row _ _ 4 _ _ _ H2.out.ves; have q5 := cell_of_row _ _ 5 _ _ _ H2.out.ves
  have y0 := cell_of_row _ _ 0 _ _ _ H2.out.ld; have y1 := cell_of_row _ _ 1 _ _ _ H2.out.ld; have y2 := cell_of_row _ _ 2 _ _ _ H2.out.ld; have y3 := cell_of_row _ _ 3 _ _ _ H2.out.ld; have y4 := cell_of_row _ _ 4 _ _ _ H2.out.ld
  simp only [Jb.wA, ldA, List.getElem?_toArray, List.getElem?_cons_zero, List.getElem?_cons_succ] at q0 q1 q2 q3 q4 q5 y0 y1 y2 y3 y4
  have hz1' := H1.out.low.size
  have hz1'' := lt_at H1.out.res
  gi_wp2
  refine ⟨trivial, ?_⟩
  refine (callsIn_wide.2 (ticks_any J x pa J.m pc qa J.n qc _)).mono ?_
  rintro e w5 ⟨rfl, rfl⟩
  clear q0 q1 q2 q3 q4 q5 y0 y1 y2 y3 y4
  gi_wp2
  obtain ⟨hlb, hvb, htb, hB5, z5⟩ := three_laid w1 (.cells #[.slice none 0 0] 61) (.cells (J.vA (.slice pa J.m pc) (.slice qa J.n qc)) 117) (.cells (ldA x) 57)
  generalize ((w1.alloc (.cells #[.slice none 0 0] 61)).alloc (.cells (J.vA (.slice pa J.m pc) (.slice qa J.n qc)) 117)).alloc (.cells (ldA x) 57) = W5 at hlb hvb htb hB5 z5 ⊢
  have H5 := H1.out.keep hB5
  have hF0 : RuI w J x w1.heap.size (w1.heap.size + 3) 0 W5 := ⟨H5.ld, H5.res, H5.low, _, hlb, World.ownsRow_nil _ _ _ _⟩
  have hI : ItT J x (.slice pa J.m pc) (.slice qa J.n qc) w (w1.heap.size + 1 + 1) (w1.heap.size + 1) (w1.heap.size + 3) W5 := ⟨htb, hvb, fun j hj => H5.low.block j hj, ⟨by omega, by omega, by omega⟩, by omega⟩
  clear H5 hlb hvb htb hB5 H1 H2
  refine range_exits (T := 57) (F := Fence.wide) (n := 10) (xs := seqT J x M) (encs := encT) (Kp := KpG 57 (w1.heap.size + 3) (w.heap.size + 1) w1.heap.size) (w0 := W5) rfl (by omega) (gf := 99) (lb := #[.pointer (some ⟨w1.heap.size + 1 + 1, 0, none⟩), .pointer (some ⟨w1.heap.size + 1, 0, none⟩)]) rfl trivial (enters_of Try.func99 (by kernel_rfl) rfl)
    (fun l0 I Ix W hW hI1 hIx1 hY h0 => ticks_run l0 J x M _ _ w _ _ _ (w.heap.size + 1) w1.heap.size W.heap.size I Ix HJ.out HX.out HM1.out HM2.out HPW.out HQW.out (by omega) ⟨by omega, by omega, by omega, by omega⟩ hI1 hY W (hI.past hW.size (fun j hj => hW.block j (by omega))) (Nat.le_refl _) h0)
    (fun h k => h.trans k) (fun W l o o' hl h hc _ => KpG.put (by omega) h hc) (Below.refl _ _) (fun _ => rfl)
    (fun pre W => RuI w J x w1.heap.size (w1.heap.size + 3) pre.length W ∧ w1.heap.size + 3 ≤ W.heap.size ∧ pre.length < 2000)
    (fun c pre W => c = Code.exit 0 ∧ RuI w J x w1.heap.size (w1.heap.size + 3) 2000 W ∧ pre.length = 2000) ?hI ?hIx ⟨hF0, by omega, by simp⟩
    (fun y a' W => ∃ nb mb : Nat, w1.heap.size + 3 ≤ nb ∧ w1.heap.size + 3 ≤ mb ∧ W.heap[nb]? = some (.cells (ldA y.1) 57 (0, 0)) ∧ W.heap[mb]? = some (.cells (rdA y.2) 74 (0, 0)) ∧ a' = { tmps := #[.agg #[.string J.s, .int .i64 J.h, .int .i64 J.c, .int .i64 J.v, .int .i64 J.p, .int .i64 J.ch], .slice pa J.m pc, .slice qa J.n qc, .agg #[.int .i64 x.tick, .int .i64 x.step, .int .i64 x.gone, .int .i64 x.temp, .int .i64 x.air], .pointer (some ⟨w.heap.size, 0, none⟩), undef, undef, .pointer (some ⟨w.heap.size + 1, 0, none⟩), .pointer (some ⟨w.heap.size + 1 + 1, 0, none⟩), .slice none 0 0, .int .i64 0, .pointer (some ⟨w1.heap.size, 0, none⟩), .pointer (some ⟨nb, 0, none⟩), .pointer (some ⟨mb, 0, none⟩), .agg #[.string J.s, .int .i64 J.h, .int .i64 J.c, .int .i64 J.v, .int .i64 J.p, .int .i64 J.ch], .slice pa J.m pc, .slice qa J.n qc, .agg #[.int .i64 x.tick, .int .i64 x.step, .int .i64 x.gone, .int .i64 x.temp, .int .i64 x.air], .bool true, .bool false, undef, .agg #[.string J.s, .int .i64 J.h, .int .i64 J.c, .int .i64 J.v, .int .i64 J.p, .int .i64 J.ch], .slice pa J.m pc, .slice qa J.n qc, .agg #[.string J.s, .int .i64 J.h, .int .i64 J.c, .int .i64 J.v, .int .i64 J.p, .int .i64 J.ch, .slice pa J.m pc, .slice qa J.n qc], .agg #[.int .i64 x.tick, .int .i64 x.step, .int .i64 x.gone, .int .i64 x.temp, .int .i64 x.air], .func (.func 99) #[] #[.pointer (some ⟨w1.heap.size + 1 + 1, 0, none⟩), .pointer (some ⟨w1.heap.size + 1, 0, none⟩)], .agg (ldA y.1), .agg (rdA y.2), undef, undef, undef, undef, undef, undef, undef, undef, undef, undef, undef, undef, undef, undef, undef, undef, undef, undef, undef, undef, undef, undef], defers := [] }) ?hAx ?assign ?body ?done ?stop
  case assign =>
    rintro l' k y W K0 hx ⟨hi, hz, hl⟩ hK0
    obtain ⟨hkl, rfl⟩ := seqT_at hx
    simp only [encT]
    gi_wp2_with (first
      | (refine wpListIn_store_whole rfl 57 _ _ rfl W.heap.size (ldA (J.lds x (k + 1))) rfl rfl 57 _ (heap_alloc_new W _) (infoLd _) (by rfl) (ldA_one _) ?_; generalize hW : World.setRow _ _ _ = W6; have H6 := hid (new_row hW); clear hW)
      | (refine wpListIn_store_whole rfl 74 _ _ rfl W6.heap.size (rdA (J.rds x k)) rfl rfl 74 _ (heap_alloc_new W6 _) (infoRd1 _) (by rfl) (rdA_one _) ?_; generalize hW : World.setRow _ _ _ = W7; have H7 := hid (new_row hW); clear hW))
    have h7 := (H7.out.2.1.block _ (lt_at H6.out.1)).trans H6.out.1
    have hb7 := H6.out.2.1.trans (H7.out.2.1.mono H6.out.2.1.size)
    exact hK0 _ _ (keeps_below hb7) (kpG_below hz hb7) ⟨hi.keep hb7, Nat.le_trans hz hb7.size, hl⟩ ⟨W.heap.size, W6.heap.size, hz, Nat.le_trans hz H6.out.2.1.size, h7, H7.out.1, rfl⟩
  case body =>
    rintro l' k y a' W hx ⟨hi, hz, hl⟩ ⟨nb, mb, hnb, hmb, hgn, hgm, rfl⟩
    obtain ⟨hkl, rfl⟩ := seqT_at hx
    have hlen : ((seqT J x M).take k).length = k := by rw [List.length_take, seqT_len]; omega
    have HLEN1 := hid (show ((seqT J x M).take (k + 1)).length = k + 1 by rw [List.length_take, seqT_len]; omega)
    rw [hlen] at hi hl
    obtain ⟨v, hv, hown⟩ := hi.ex
    obtain ⟨va, vc, rfl⟩ := rd_shape hown
    have HI := hid hi; have HV := hid hv; have HO := hid hown; have HGN := hid hgn; have HGM := hid hgm; have HZ := hid hz; have HL := hid hl
    clear hi hv hown hgn hgm hx hlen hl
    dsimp only at HGN HGM ⊢
    gi_wp2_with (first
      | (refine wpListIn_load_whole rfl 57 _ rfl nb rfl 57 (ldA (J.lds x (k + 1))) (0, 0) _ HGN.out Try.underlying57 rfl (infoLd _) ?_)
      | (refine wpListIn_store_whole rfl 57 _ _ rfl (w.heap.size + 1) (ldA (J.lds x (k + 1))) rfl rfl 57 _ HI.out.ld (infoLd _) (by rfl) (ldA_one _) ?_; generalize hW : World.setRow _ _ _ = W6; have H6 := hid (own_row hW HI.out.ld); have HW6 := hid hW; clear hW; have c0 := cell_of_row _ _ 0 _ _ _ ((H6.out.2.2.2 _ (show w1.heap.size ≠ w.heap.size + 1 by omega)).trans HV.out); have d0 := cell_of_row _ _ 0 _ _ _ ((H6.out.2.2.2 mb (by omega)).trans HGM.out); have d1 := cell_of_row _ _ 1 _ _ _ ((H6.out.2.2.2 mb (by omega)).trans HGM.out); have d2 := cell_of_row _ _ 2 _ _ _ ((H6.out.2.2.2 mb (by omega)).trans HGM.out); have d3 := cell_of_row _ _ 3 _ _ _ ((H6.out.2.2.2 mb (by omega)).trans HGM.out); simp only [rdA, List.getElem?_toArray, List.getElem?_cons_zero, List.getElem?_cons_succ] at c0 d0 d1 d2 d3; have HO6 := hid (HO.out.kept H6.out.2.1 (own_ne HO.out (by omega))))
      | (refine wpListIn_append_where _ rfl _ _ 61 rfl (w1.heap.size + 3) 74 i0 (.agg #[.int .i64 0, .int .i64 0, .int .i64 0, .int .i64 0]) 4 32 Try.underlying61 hi hz0 hz1 hz2 rfl (by decide) (.slice va k vc) k (rdvs (J.rds x) k) rfl (World.ownsRow.alloc HO6.out _) ⟨W6.heap.size, 0, none⟩ 1 1 (rdL (J.rds x k)) rfl rfl (rd_new _ _) (rdL_one _) (by decide) (by have := HL.out; unfold maxLen; omega) (by have := HL.out; omega) (by have := H6.out.2.2.1; have := HZ.out; simp; omega) ?_; intro v8 w8 hown8 hgrow8 _; obtain ⟨va8, vc8, rfl⟩ := rd_shape hown8; have HO8 := hid hown8; have HG8 := hid hgrow8; have hbx := rd_box HO6.out HG8.out ((H6.out.2.2.2 _ (show w1.heap.size ≠ w.heap.size + 1 by omega)).trans HV.out) (by omega); have f5 := frozen_of_row w8 _ 0 _ _ hbx; have g5 := cell_of_row w8 _ 0 _ _ _ hbx; simp only [List.getElem?_toArray, List.getElem?_cons_zero] at g5; clear hown8 hgrow8))
    all_goals have hE := ru_end (B := W5.heap.size) HI.out HV.out HO.out HW6.out HO8.out HG8.out (by omega) (by omega) HZ.out
    all_goals have hsz := hE.2.2.size
    all_goals have hzz := HZ.out
    all_goals have hll := HL.out
    · rename_i hk2
      have hk3 : k + 1 = 2000 := by simp at hk2; omega
      exact ⟨hE.2.1, rfl, hk3 ▸ hE.1, by rw [HLEN1.out]; exact hk3⟩
    · rename_i hk2
      have hk3 : k + 1 ≠ 2000 := by simp at hk2; omega
      exact ⟨hE.2.1, hE.2.2, by rw [HLEN1.out]; exact hE.1, by omega, by rw [HLEN1.out]; omega⟩
  case done =>
    rintro D W hD ⟨hi, hz, hl⟩ hK0
    rw [seqT_len] at hi hl
    obtain rfl : K = M := HKS.out.done HM1.out HM2.out hl
    obtain ⟨v, hv, hown⟩ := hi.ex
    obtain ⟨va, vc, rfl⟩ := rd_shape hown
    have HI := hid hi; have HD := hid hK0; have HV := hid hv; have HO := hid hown
    have hDl := lt_at hK0
    obtain ⟨Y, hY⟩ : ∃ y, y = J.lds x K := ⟨_, rfl⟩
    have hld := hi.ld
    rw [← hY] at hld
    have HY := hid hY
    have y0 := cell_of_row _ _ 0 _ _ _ hld; have y1 := cell_of_row _ _ 1 _ _ _ hld; have y2 := cell_of_row _ _ 2 _ _ _ hld; have y3 := cell_of_row _ _ 3 _ _ _ hld; have y4 := cell_of_row _ _ 4 _ _ _ hld
    have c0 := cell_of_row _ _ 0 _ _ _ hv
    have r0 := frozen_of_row _ _ 0 _ _ hi.res; have r1 := frozen_of_row _ _ 1 _ _ hi.res; have r2 := frozen_of_row _ _ 2 _ _ hi.res; have r3 := frozen_of_row _ _ 3 _ _ hi.res; have r4 := frozen_of_row _ _ 4 _ _ hi.res
    have z0 := cell_of_row _ _ 0 _ _ _ hi.res; have z1 := cell_of_row _ _ 1 _ _ _ hi.res; have z2 := cell_of_row _ _ 2 _ _ _ hi.res; have z3 := cell_of_row _ _ 3 _ _ _ hi.res; have z4 := cell_of_row _ _ 4 _ _ _ hi.res
    simp only [ldA, List.getElem?_toArray, List.getElem?_cons_zero, List.getElem?_cons_succ] at y0 y1 y2 y3 y4 c0 z0 z1 z2 z3 z4
    clear hi hK0 hv hown hld
    by_cases s1 : Y.step = (J.m : Int)
    · have s1' : (Y.step == (J.m : Int)) = true := by simpa using s1
      have HE := hid (Jb.end_done (J := J) (y := J.lds x K) (by rw [← HY.out]; exact s1) K)
      clear hY s1
      gi_wp2
      refine wpIn_region_any (by kernel_rfl) ?_
      change wpAnyIn _ _ _ _ _ _ _ _ _ (World.drew _)
      refine wpAnyIn_ready (rs := [0, 1]) (by kernel_rfl) (by simp) ?_
      refine AllReadyIn.cons rfl (fun K hK => ?_) ?_
      · go_simp
        refine hK _ _ ?_
        clear hK K
        refine wpAnyIn_ready (rs := [1, 2]) (by kernel_rfl) (by simp) ?_
        refine AllReadyIn.cons rfl (fun K hK => ?_) ?_
        · go_simp
          refine hK _ _ ?_
          clear hK K
          refine wpAnyIn_ready (rs := [2]) (by kernel_rfl) (by simp) ?_
          refine AllReadyIn.cons rfl (fun K hK => ?_) AllReadyIn.nil
          go_simp
          refine hK _ _ ?_
          clear hK K
          have H7 := hid (set_five HI.out.res Y)
          generalize World.drew (World.setCell (World.setCell (World.setCell (World.setCell (World.setCell W _ _) _ _) _ _) _ _) _ _) = W7 at H7 ⊢
          have HD7 := hid ((H7.out.2.2 D (by omega)).trans HD.out)
          have HO7 := hid (HO.out.kept H7.out.2.1 (own_ne HO.out (by omega)))
          have HL7 := hid (HI.out.low.grown H7.out.2.1 HI.out.low.size (fun j e => by cases e; omega))
          refine wpAnyIn_ready (rs := [3]) (by kernel_rfl) (by simp) ?_
          refine AllReadyIn.cons rfl (fun K hK => ?_) AllReadyIn.nil
          go_simp
          refine hK _ _ ?_
          clear hK K
          refine wpAnyIn_ready (rs := [4]) (by kernel_rfl) (by simp) ?_
          refine AllReadyIn.cons rfl (fun K hK => ?_) AllReadyIn.nil
          go_simp
          refine hK _ _ ?_
          clear hK K
          refine wpAnyIn_done (by kernel_rfl) ?_ _
          gi_wp2
          refine leaves_marks (B := w.heap.size) [D] _ ⟨by simp, fun d hd => by rw [List.mem_singleton] at hd; subst hd; exact ⟨by omega, HD7.out⟩⟩ fun W9 hb9 hc9 => ?_
          have e0 := cell_of_row _ _ 0 _ _ _ (hc9 _ _ _ _ H7.out.1); have e1 := cell_of_row _ _ 1 _ _ _ (hc9 _ _ _ _ H7.out.1); have e2 := cell_of_row _ _ 2 _ _ _ (hc9 _ _ _ _ H7.out.1); have e3 := cell_of_row _ _ 3 _ _ _ (hc9 _ _ _ _ H7.out.1); have e4 := cell_of_row _ _ 4 _ _ _ (hc9 _ _ _ _ H7.out.1)
          simp only [ldA, List.getElem?_toArray, List.getElem?_cons_zero, List.getElem?_cons_succ] at e0 e1 e2 e3 e4
          exact ⟨.tuple #[.agg (ldA Y), .slice va K vc, .int .i64 0], by simp [ldA, results, Try.results37, go_sem, e0, e1, e2, e3, e4], _, by rw [HE.out.1, HE.out.2.1, HY.out], by rw [HE.out.2.2]; exact (own_rowR HO7.out).cells hc9, HL7.out.trans hb9⟩
        · refine AllReadyIn.cons rfl (fun K hK => ?_) AllReadyIn.nil
          go_simp
          refine hK _ _ ?_
          clear hK K
          have H7 := hid (set_five HI.out.res Y)
          generalize World.drew (World.setCell (World.setCell (World.setCell (World.setCell (World.setCell W _ _) _ _) _ _) _ _) _ _) = W7 at H7 ⊢
          have HD7 := hid ((H7.out.2.2 D (by omega)).trans HD.out)
          have HO7 := hid (HO.out.kept H7.out.2.1 (own_ne HO.out (by omega)))
          have HL7 := hid (HI.out.low.grown H7.out.2.1 HI.out.low.size (fun j e => by cases e; omega))
          have c7 := cell_of_row _ _ 0 _ _ _ ((H7.out.2.2 _ (show w1.heap.size ≠ w.heap.size + 1 + 1 by omega)).trans HV.out)
          simp only [List.getElem?_toArray, List.getElem?_cons_zero] at c7
          refine wpAnyIn_ready (rs := [1]) (by kernel_rfl) (by simp) ?_
          refine AllReadyIn.cons rfl (fun K hK => ?_) AllReadyIn.nil
          go_simp
          refine hK _ _ ?_
          clear hK K
          refine wpAnyIn_ready (rs := [3]) (by kernel_rfl) (by simp) ?_
          refine AllReadyIn.cons rfl (fun K hK => ?_) AllReadyIn.nil
          go_simp
          refine hK _ _ ?_
          clear hK K
          refine wpAnyIn_ready (rs := [4]) (by kernel_rfl) (by simp) ?_
          refine AllReadyIn.cons rfl (fun K hK => ?_) AllReadyIn.nil
          go_simp
          refine hK _ _ ?_
          clear hK K
          refine wpAnyIn_done (by kernel_rfl) ?_ _
          gi_wp2
          refine leaves_marks (B := w.heap.size) [D] _ ⟨by simp, fun d hd => by rw [List.mem_singleton] at hd; subst hd; exact ⟨by omega, HD7.out⟩⟩ fun W9 hb9 hc9 => ?_
          have e0 := cell_of_row _ _ 0 _ _ _ (hc9 _ _ _ _ H7.out.1); have e1 := cell_of_row _ _ 1 _ _ _ (hc9 _ _ _ _ H7.out.1); have e2 := cell_of_row _ _ 2 _ _ _ (hc9 _ _ _ _ H7.out.1); have e3 := cell_of_row _ _ 3 _ _ _ (hc9 _ _ _ _ H7.out.1); have e4 := cell_of_row _ _ 4 _ _ _ (hc9 _ _ _ _ H7.out.1)
          simp only [ldA, List.getElem?_toArray, List.getElem?_cons_zero, List.getElem?_cons_succ] at e0 e1 e2 e3 e4
          exact ⟨.tuple #[.agg (ldA Y), .slice va K vc, .int .i64 0], by simp [ldA, results, Try.results37, go_sem, e0, e1, e2, e3, e4], _, by rw [HE.out.1, HE.out.2.1, HY.out], by rw [HE.out.2.2]; exact (own_rowR HO7.out).cells hc9, HL7.out.trans hb9⟩
      · refine AllReadyIn.cons rfl (fun K hK => ?_) AllReadyIn.nil
        go_simp
        refine hK _ _ ?_
        clear hK K
        refine wpAnyIn_ready (rs := [0]) (by kernel_rfl) (by simp) ?_
        refine AllReadyIn.cons rfl (fun K hK => ?_) AllReadyIn.nil
        go_simp
        refine hK _ _ ?_
        clear hK K
        refine wpAnyIn_ready (rs := [2]) (by kernel_rfl) (by simp) ?_
        refine AllReadyIn.cons rfl (fun K hK => ?_) AllReadyIn.nil
        go_simp
        refine hK _ _ ?_
        clear hK K
        have H7 := hid (set_five HI.out.res Y)
        generalize World.drew (World.setCell (World.setCell (World.setCell (World.setCell (World.setCell W _ _) _ _) _ _) _ _) _ _) = W7 at H7 ⊢
        have HD7 := hid ((H7.out.2.2 D (by omega)).trans HD.out)
        have HO7 := hid (HO.out.kept H7.out.2.1 (own_ne HO.out (by omega)))
        have HL7 := hid (HI.out.low.grown H7.out.2.1 HI.out.low.size (fun j e => by cases e; omega))
        refine wpAnyIn_ready (rs := [3]) (by kernel_rfl) (by simp) ?_
        refine AllReadyIn.cons rfl (fun K hK => ?_) AllReadyIn.nil
        go_simp
        refine hK _ _ ?_
        clear hK K
        refine wpAnyIn_ready (rs := [4]) (by kernel_rfl) (by simp) ?_
        refine AllReadyIn.cons rfl (fun K hK => ?_) AllReadyIn.nil
        go_simp
        refine hK _ _ ?_
        clear hK K
        refine wpAnyIn_done (by kernel_rfl) ?_ _
        gi_wp2
        refine leaves_marks (B := w.heap.size) [D] _ ⟨by simp, fun d hd => by rw [List.mem_singleton] at hd; subst hd; exact ⟨by omega, HD7.out⟩⟩ fun W9 hb9 hc9 => ?_
        have e0 := cell_of_row _ _ 0 _ _ _ (hc9 _ _ _ _ H7.out.1); have e1 := cell_of_row _ _ 1 _ _ _ (hc9 _ _ _ _ H7.out.1); have e2 := cell_of_row _ _ 2 _ _ _ (hc9 _ _ _ _ H7.out.1); have e3 := cell_of_row _ _ 3 _ _ _ (hc9 _ _ _ _ H7.out.1); have e4 := cell_of_row _ _ 4 _ _ _ (hc9 _ _ _ _ H7.out.1)
        simp only [ldA, List.getElem?_toArray, List.getElem?_cons_zero, List.getElem?_cons_succ] at e0 e1 e2 e3 e4
        exact ⟨.tuple #[.agg (ldA Y), .slice va K vc, .int .i64 0], by simp [ldA, results, Try.results37, go_sem, e0, e1, e2, e3, e4], _, by rw [HE.out.1, HE.out.2.1, HY.out], by rw [HE.out.2.2]; exact (own_rowR HO7.out).cells hc9, HL7.out.trans hb9⟩
    · have s1' : (Y.step == (J.m : Int)) = false := by simpa using s1
      by_cases s2 : Y.tick = 100000000
      · have s2' : (Y.tick == 100000000) = true := by simpa using s2
        have HE := hid (Jb.end_late (J := J) (y := J.lds x K) (by rw [← HY.out]; exact s1) (by rw [← HY.out]; exact s2) K)
        clear hY s1 s2
        gi_wp2_with (refine wpListIn_store_whole rfl 57 _ _ rfl (w.heap.size + 1 + 1) (ldA ⟨0, 0, 0, 0, 0⟩) rfl rfl 57 _ HI.out.res (infoLd _) (by rfl) (ldA_one _) ?_; generalize hW : World.setRow _ _ _ = W6; have H6 := hid (own_row hW HI.out.res); clear hW)
        have hD6 := (H6.out.2.2.2 D (by omega)).trans HD.out
        have hL6 : Below w.heap.size w W6 := HI.out.low.grown H6.out.2.1 HI.out.low.size (fun j e => by cases e; omega)
        refine leaves_marks (B := w.heap.size) [D] _ ⟨by simp, fun d hd => by rw [List.mem_singleton] at hd; subst hd; exact ⟨by omega, hD6⟩⟩ fun W9 hb9 hc9 => ?_
        have e0 := cell_of_row _ _ 0 _ _ _ (hc9 _ _ _ _ H6.out.1); have e1 := cell_of_row _ _ 1 _ _ _ (hc9 _ _ _ _ H6.out.1); have e2 := cell_of_row _ _ 2 _ _ _ (hc9 _ _ _ _ H6.out.1); have e3 := cell_of_row _ _ 3 _ _ _ (hc9 _ _ _ _ H6.out.1); have e4 := cell_of_row _ _ 4 _ _ _ (hc9 _ _ _ _ H6.out.1)
        simp only [ldA, List.getElem?_toArray, List.getElem?_cons_zero, List.getElem?_cons_succ] at e0 e1 e2 e3 e4
        exact ⟨.tuple #[.agg (ldA ⟨0, 0, 0, 0, 0⟩), .slice none 0 0, .int .i64 7], by simp [ldA, results, Try.results37, go_sem, e0, e1, e2, e3, e4], _, by rw [HE.out.1, HE.out.2.1], by rw [HE.out.2.2]; exact rowR_nil _ _, hL6.trans hb9⟩
      · have s2' : (Y.tick == 100000000) = false := by simpa using s2
        have HE := hid (Jb.end_none (J := J) (y := J.lds x K) (by rw [← HY.out]; exact s1) (by rw [← HY.out]; exact s2) K)
        clear hY s1 s2
        gi_wp2_with (refine wpListIn_store_whole rfl 57 _ _ rfl (w.heap.size + 1 + 1) (ldA ⟨0, 0, 0, 0, 0⟩) rfl rfl 57 _ HI.out.res (infoLd _) (by rfl) (ldA_one _) ?_; generalize hW : World.setRow _ _ _ = W6; have H6 := hid (own_row hW HI.out.res); clear hW)
        have hD6 := (H6.out.2.2.2 D (by omega)).trans HD.out
        have hL6 : Below w.heap.size w W6 := HI.out.low.grown H6.out.2.1 HI.out.low.size (fun j e => by cases e; omega)
        refine leaves_marks (B := w.heap.size) [D] _ ⟨by simp, fun d hd => by rw [List.mem_singleton] at hd; subst hd; exact ⟨by omega, hD6⟩⟩ fun W9 hb9 hc9 => ?_
        have e0 := cell_of_row _ _ 0 _ _ _ (hc9 _ _ _ _ H6.out.1); have e1 := cell_of_row _ _ 1 _ _ _ (hc9 _ _ _ _ H6.out.1); have e2 := cell_of_row _ _ 2 _ _ _ (hc9 _ _ _ _ H6.out.1); have e3 := cell_of_row _ _ 3 _ _ _ (hc9 _ _ _ _ H6.out.1); have e4 := cell_of_row _ _ 4 _ _ _ (hc9 _ _ _ _ H6.out.1)
        simp only [ldA, List.getElem?_toArray, List.getElem?_cons_zero, List.getElem?_cons_succ] at e0 e1 e2 e3 e4
        exact ⟨.tuple #[.agg (ldA ⟨0, 0, 0, 0, 0⟩), .slice none 0 0, .int .i64 8], by simp [ldA, results, Try.results37, go_sem, e0, e1, e2, e3, e4], _, by rw [HE.out.1, HE.out.2.1], by rw [HE.out.2.2]; exact rowR_nil _ _, hL6.trans hb9⟩
  case stop =>
    rintro D k c W hD ⟨rfl, hi, hl⟩ hK0
    rw [List.length_take, seqT_len] at hl
    obtain rfl : K = 2000 := HKS.out.brk HM1.out (by omega)
    clear hl
    obtain ⟨v, hv, hown⟩ := hi.ex
    obtain ⟨va, vc, rfl⟩ := rd_shape hown
    have HI := hid hi; have HD := hid hK0; have HV := hid hv; have HO := hid hown
    have hDl := lt_at hK0
    obtain ⟨Y, hY⟩ : ∃ y, y = J.lds x 2000 := ⟨_, rfl⟩
    have hld := hi.ld
    rw [← hY] at hld
    have HY := hid hY
    have y0 := cell_of_row _ _ 0 _ _ _ hld; have y1 := cell_of_row _ _ 1 _ _ _ hld; have y2 := cell_of_row _ _ 2 _ _ _ hld; have y3 := cell_of_row _ _ 3 _ _ _ hld; have y4 := cell_of_row _ _ 4 _ _ _ hld
    have c0 := cell_of_row _ _ 0 _ _ _ hv
    have r0 := frozen_of_row _ _ 0 _ _ hi.res; have r1 := frozen_of_row _ _ 1 _ _ hi.res; have r2 := frozen_of_row _ _ 2 _ _ hi.res; have r3 := frozen_of_row _ _ 3 _ _ hi.res; have r4 := frozen_of_row _ _ 4 _ _ hi.res
    have z0 := cell_of_row _ _ 0 _ _ _ hi.res; have z1 := cell_of_row _ _ 1 _ _ _ hi.res; have z2 := cell_of_row _ _ 2 _ _ _ hi.res; have z3 := cell_of_row _ _ 3 _ _ _ hi.res; have z4 := cell_of_row _ _ 4 _ _ _ hi.res
    simp only [ldA, List.getElem?_toArray, List.getElem?_cons_zero, List.getElem?_cons_succ] at y0 y1 y2 y3 y4 c0 z0 z1 z2 z3 z4
    clear hi hK0 hv hown hld
    by_cases s1 : Y.step = (J.m : Int)
    · have s1' : (Y.step == (J.m : Int)) = true := by simpa using s1
      have HE := hid (Jb.end_done (J := J) (y := J.lds x 2000) (by rw [← HY.out]; exact s1) 2000)
      clear hY s1
      gi_wp2
      refine wpIn_region_any (by kernel_rfl) ?_
      change wpAnyIn _ _ _ _ _ _ _ _ _ (World.drew _)
      refine wpAnyIn_ready (rs := [0, 1]) (by kernel_rfl) (by simp) ?_
      refine AllReadyIn.cons rfl (fun K hK => ?_) ?_
      · go_simp
        refine hK _ _ ?_
        clear hK K
        refine wpAnyIn_ready (rs := [1, 2]) (by kernel_rfl) (by simp) ?_
        refine AllReadyIn.cons rfl (fun K hK => ?_) ?_
        · go_simp
          refine hK _ _ ?_
          clear hK K
          refine wpAnyIn_ready (rs := [2]) (by kernel_rfl) (by simp) ?_
          refine AllReadyIn.cons rfl (fun K hK => ?_) AllReadyIn.nil
          go_simp
          refine hK _ _ ?_
          clear hK K
          have H7 := hid (set_five HI.out.res Y)
          generalize World.drew (World.setCell (World.setCell (World.setCell (World.setCell (World.setCell W _ _) _ _) _ _) _ _) _ _) = W7 at H7 ⊢
          have HD7 := hid ((H7.out.2.2 D (by omega)).trans HD.out)
          have HO7 := hid (HO.out.kept H7.out.2.1 (own_ne HO.out (by omega)))
          have HL7 := hid (HI.out.low.grown H7.out.2.1 HI.out.low.size (fun j e => by cases e; omega))
          refine wpAnyIn_ready (rs := [3]) (by kernel_rfl) (by simp) ?_
          refine AllReadyIn.cons rfl (fun K hK => ?_) AllReadyIn.nil
          go_simp
          refine hK _ _ ?_
          clear hK K
          refine wpAnyIn_ready (rs := [4]) (by kernel_rfl) (by simp) ?_
          refine AllReadyIn.cons rfl (fun K hK => ?_) AllReadyIn.nil
          go_simp
          refine hK _ _ ?_
          clear hK K
          refine wpAnyIn_done (by kernel_rfl) ?_ _
          gi_wp2
          refine leaves_marks (B := w.heap.size) [D] _ ⟨by simp, fun d hd => by rw [List.mem_singleton] at hd; subst hd; exact ⟨by omega, HD7.out⟩⟩ fun W9 hb9 hc9 => ?_
          have e0 := cell_of_row _ _ 0 _ _ _ (hc9 _ _ _ _ H7.out.1); have e1 := cell_of_row _ _ 1 _ _ _ (hc9 _ _ _ _ H7.out.1); have e2 := cell_of_row _ _ 2 _ _ _ (hc9 _ _ _ _ H7.out.1); have e3 := cell_of_row _ _ 3 _ _ _ (hc9 _ _ _ _ H7.out.1); have e4 := cell_of_row _ _ 4 _ _ _ (hc9 _ _ _ _ H7.out.1)
          simp only [ldA, List.getElem?_toArray, List.getElem?_cons_zero, List.getElem?_cons_succ] at e0 e1 e2 e3 e4
          exact ⟨.tuple #[.agg (ldA Y), .slice va 2000 vc, .int .i64 0], by simp [ldA, results, Try.results37, go_sem, e0, e1, e2, e3, e4], _, by rw [HE.out.1, HE.out.2.1, HY.out], by rw [HE.out.2.2]; exact (own_rowR HO7.out).cells hc9, HL7.out.trans hb9⟩
        · refine AllReadyIn.cons rfl (fun K hK => ?_) AllReadyIn.nil
          go_simp
          refine hK _ _ ?_
          clear hK K
          have H7 := hid (set_five HI.out.res Y)
          generalize World.drew (World.setCell (World.setCell (World.setCell (World.setCell (World.setCell W _ _) _ _) _ _) _ _) _ _) = W7 at H7 ⊢
          have HD7 := hid ((H7.out.2.2 D (by omega)).trans HD.out)
          have HO7 := hid (HO.out.kept H7.out.2.1 (own_ne HO.out (by omega)))
          have HL7 := hid (HI.out.low.grown H7.out.2.1 HI.out.low.size (fun j e => by cases e; omega))
          have c7 := cell_of_row _ _ 0 _ _ _ ((H7.out.2.2 _ (show w1.heap.size ≠ w.heap.size + 1 + 1 by omega)).trans HV.out)
          simp only [List.getElem?_toArray, List.getElem?_cons_zero] at c7
          refine wpAnyIn_ready (rs := [1]) (by kernel_rfl) (by simp) ?_
          refine AllReadyIn.cons rfl (fun K hK => ?_) AllReadyIn.nil
          go_simp
          refine hK _ _ ?_
          clear hK K
          refine wpAnyIn_ready (rs := [3]) (by kernel_rfl) (by simp) ?_
          refine AllReadyIn.cons rfl (fun K hK => ?_) AllReadyIn.nil
          go_simp
          refine hK _ _ ?_
          clear hK K
          refine wpAnyIn_ready (rs := [4]) (by kernel_rfl) (by simp) ?_
          refine AllReadyIn.cons rfl (fun K hK => ?_) AllReadyIn.nil
          go_simp
          refine hK _ _ ?_
          clear hK K
          refine wpAnyIn_done (by kernel_rfl) ?_ _
          gi_wp2
          refine leaves_marks (B := w.heap.size) [D] _ ⟨by simp, fun d hd => by rw [List.mem_singleton] at hd; subst hd; exact ⟨by omega, HD7.out⟩⟩ fun W9 hb9 hc9 => ?_
          have e0 := cell_of_row _ _ 0 _ _ _ (hc9 _ _ _ _ H7.out.1); have e1 := cell_of_row _ _ 1 _ _ _ (hc9 _ _ _ _ H7.out.1); have e2 := cell_of_row _ _ 2 _ _ _ (hc9 _ _ _ _ H7.out.1); have e3 := cell_of_row _ _ 3 _ _ _ (hc9 _ _ _ _ H7.out.1); have e4 := cell_of_row _ _ 4 _ _ _ (hc9 _ _ _ _ H7.out.1)
          simp only [ldA, List.getElem?_toArray, List.getElem?_cons_zero, List.getElem?_cons_succ] at e0 e1 e2 e3 e4
          exact ⟨.tuple #[.agg (ldA Y), .slice va 2000 vc, .int .i64 0], by simp [ldA, results, Try.results37, go_sem, e0, e1, e2, e3, e4], _, by rw [HE.out.1, HE.out.2.1, HY.out], by rw [HE.out.2.2]; exact (own_rowR HO7.out).cells hc9, HL7.out.trans hb9⟩
      · refine AllReadyIn.cons rfl (fun K hK => ?_) AllReadyIn.nil
        go_simp
        refine hK _ _ ?_
        clear hK K
        refine wpAnyIn_ready (rs := [0]) (by kernel_rfl) (by simp) ?_
        refine AllReadyIn.cons rfl (fun K hK => ?_) AllReadyIn.nil
        go_simp
        refine hK _ _ ?_
        clear hK K
        refine wpAnyIn_ready (rs := [2]) (by kernel_rfl) (by simp) ?_
        refine AllReadyIn.cons rfl (fun K hK => ?_) AllReadyIn.nil
        go_simp
        refine hK _ _ ?_
        clear hK K
        have H7 := hid (set_five HI.out.res Y)
        generalize World.drew (World.setCell (World.setCell (World.setCell (World.setCell (World.setCell W _ _) _ _) _ _) _ _) _ _) = W7 at H7 ⊢
        have HD7 := hid ((H7.out.2.2 D (by omega)).trans HD.out)
        have HO7 := hid (HO.out.kept H7.out.2.1 (own_ne HO.out (by omega)))
        have HL7 := hid (HI.out.low.grown H7.out.2.1 HI.out.low.size (fun j e => by cases e; omega))
        refine wpAnyIn_ready (rs := [3]) (by kernel_rfl) (by simp) ?_
        refine AllReadyIn.cons rfl (fun K hK => ?_) AllReadyIn.nil
        go_simp
        refine hK _ _ ?_
        clear hK K
        refine wpAnyIn_ready (rs := [4]) (by kernel_rfl) (by simp) ?_
        refine AllReadyIn.cons rfl (fun K hK => ?_) AllReadyIn.nil
        go_simp
        refine hK _ _ ?_
        clear hK K
        refine wpAnyIn_done (by kernel_rfl) ?_ _
        gi_wp2
        refine leaves_marks (B := w.heap.size) [D] _ ⟨by simp, fun d hd => by rw [List.mem_singleton] at hd; subst hd; exact ⟨by omega, HD7.out⟩⟩ fun W9 hb9 hc9 => ?_
        have e0 := cell_of_row _ _ 0 _ _ _ (hc9 _ _ _ _ H7.out.1); have e1 := cell_of_row _ _ 1 _ _ _ (hc9 _ _ _ _ H7.out.1); have e2 := cell_of_row _ _ 2 _ _ _ (hc9 _ _ _ _ H7.out.1); have e3 := cell_of_row _ _ 3 _ _ _ (hc9 _ _ _ _ H7.out.1); have e4 := cell_of_row _ _ 4 _ _ _ (hc9 _ _ _ _ H7.out.1)
        simp only [ldA, List.getElem?_toArray, List.getElem?_cons_zero, List.getElem?_cons_succ] at e0 e1 e2 e3 e4
        exact ⟨.tuple #[.agg (ldA Y), .slice va 2000 vc, .int .i64 0], by simp [ldA, results, Try.results37, go_sem, e0, e1, e2, e3, e4], _, by rw [HE.out.1, HE.out.2.1, HY.out], by rw [HE.out.2.2]; exact (own_rowR HO7.out).cells hc9, HL7.out.trans hb9⟩
    · have s1' : (Y.step == (J.m : Int)) = false := by simpa using s1
      by_cases s2 : Y.tick = 100000000
      · have s2' : (Y.tick == 100000000) = true := by simpa using s2
        have HE := hid (Jb.end_late (J := J) (y := J.lds x 2000) (by rw [← HY.out]; exact s1) (by rw [← HY.out]; exact s2) 2000)
        clear hY s1 s2
        gi_wp2_with (refine wpListIn_store_whole rfl 57 _ _ rfl (w.heap.size + 1 + 1) (ldA ⟨0, 0, 0, 0, 0⟩) rfl rfl 57 _ HI.out.res (infoLd _) (by rfl) (ldA_one _) ?_; generalize hW : World.setRow _ _ _ = W6; have H6 := hid (own_row hW HI.out.res); clear hW)
        have hD6 := (H6.out.2.2.2 D (by omega)).trans HD.out
        have hL6 : Below w.heap.size w W6 := HI.out.low.grown H6.out.2.1 HI.out.low.size (fun j e => by cases e; omega)
        refine leaves_marks (B := w.heap.size) [D] _ ⟨by simp, fun d hd => by rw [List.mem_singleton] at hd; subst hd; exact ⟨by omega, hD6⟩⟩ fun W9 hb9 hc9 => ?_
        have e0 := cell_of_row _ _ 0 _ _ _ (hc9 _ _ _ _ H6.out.1); have e1 := cell_of_row _ _ 1 _ _ _ (hc9 _ _ _ _ H6.out.1); have e2 := cell_of_row _ _ 2 _ _ _ (hc9 _ _ _ _ H6.out.1); have e3 := cell_of_row _ _ 3 _ _ _ (hc9 _ _ _ _ H6.out.1); have e4 := cell_of_row _ _ 4 _ _ _ (hc9 _ _ _ _ H6.out.1)
        simp only [ldA, List.getElem?_toArray, List.getElem?_cons_zero, List.getElem?_cons_succ] at e0 e1 e2 e3 e4
        exact ⟨.tuple #[.agg (ldA ⟨0, 0, 0, 0, 0⟩), .slice none 0 0, .int .i64 7], by simp [ldA, results, Try.results37, go_sem, e0, e1, e2, e3, e4], _, by rw [HE.out.1, HE.out.2.1], by rw [HE.out.2.2]; exact rowR_nil _ _, hL6.trans hb9⟩
      · have s2' : (Y.tick == 100000000) = false := by simpa using s2
        have HE := hid (Jb.end_none (J := J) (y := J.lds x 2000) (by rw [← HY.out]; exact s1) (by rw [← HY.out]; exact s2) 2000)
        clear hY s1 s2
        gi_wp2_with (refine wpListIn_store_whole rfl 57 _ _ rfl (w.heap.size + 1 + 1) (ldA ⟨0, 0, 0, 0, 0⟩) rfl rfl 57 _ HI.out.res (infoLd _) (by rfl) (ldA_one _) ?_; generalize hW : World.setRow _ _ _ = W6; have H6 := hid (own_row hW HI.out.res); clear hW)
        have hD6 := (H6.out.2.2.2 D (by omega)).trans HD.out
        have hL6 : Below w.heap.size w W6 := HI.out.low.grown H6.out.2.1 HI.out.low.size (fun j e => by cases e; omega)
        refine leaves_marks (B := w.heap.size) [D] _ ⟨by simp, fun d hd => by rw [List.mem_singleton] at hd; subst hd; exact ⟨by omega, hD6⟩⟩ fun W9 hb9 hc9 => ?_
        have e0 := cell_of_row _ _ 0 _ _ _ (hc9 _ _ _ _ H6.out.1); have e1 := cell_of_row _ _ 1 _ _ _ (hc9 _ _ _ _ H6.out.1); have e2 := cell_of_row _ _ 2 _ _ _ (hc9 _ _ _ _ H6.out.1); have e3 := cell_of_row _ _ 3 _ _ _ (hc9 _ _ _ _ H6.out.1); have e4 := cell_of_row _ _ 4 _ _ _ (hc9 _ _ _ _ H6.out.1)
        simp only [ldA, List.getElem?_toArray, List.getElem?_cons_zero, List.getElem?_cons_succ] at e0 e1 e2 e3 e4
        exact ⟨.tuple #[.agg (ldA ⟨0, 0, 0, 0, 0⟩), .slice none 0 0, .int .i64 8], by simp [ldA, results, Try.results37, go_sem, e0, e1, e2, e3, e4], _, by rw [HE.out.1, HE.out.2.1], by rw [HE.out.2.2]; exact rowR_nil _ _, hL6.trans hb9⟩
  case hI =>
    rintro pre A B' row ⟨h1, h2, h3⟩ hgr hr
    exact ⟨h1.turn (B0 := W5.heap.size) (by omega) (by omega) hgr hr, Nat.le_trans h2 hgr.size, h3⟩
  case hIx =>
    rintro c pre A B' row ⟨h1, h2, h3⟩ hgr hr
    exact ⟨h1, h2.turn (B0 := W5.heap.size) (by omega) (by omega) hgr hr, h3⟩
  case hAx =>
    rintro y a' W l' o1 o2 ⟨nb, mb, h1, h2, h3, h4, h5⟩ hl' ho hc'
    exact ⟨nb, mb, h1, h2, (World.putObj_heap_other (by rintro rfl; rw [h3] at ho; cases ho; cases hc')).trans h3, (World.putObj_heap_other (by rintro rfl; rw [h4] at ho; cases ho; cases hc')).trans h4, h5⟩
end Go.Proofs.Ytpkcnojcklmhmaa
