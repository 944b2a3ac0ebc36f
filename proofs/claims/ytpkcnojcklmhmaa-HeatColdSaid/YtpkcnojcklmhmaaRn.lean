/- Walk of Follow: contract. -/
import Derived.Test.YtpkcnojcklmhmaaRm
import Derived.Test.YtpkcnojcklmhmaaRf
import Derived.Test.YtpkcnojcklmhmaaFa
namespace Go.Proofs.Ytpkcnojcklmhmaa
open Go.RowKit Go.Shelf
attribute [local go_sem] Oper.semAt_some

/-- What lies in a block that is new to a world keeps its type. -/
def IntsAt (W : World) (l : List (Rw × Bd)) : Prop := ∀ k (h : k < l.length), ∃ cs, W.heap[l[k].1.b]? = some (.cells cs 3 (0, 0))
theorem IntsAt.grow {W W' : World} {l : List (Rw × Bd)} {row : Option Nat} (h : IntsAt W l) (hg : W.grownBy W' row) (hne : ∀ k (hk : k < l.length), row ≠ some l[k].1.b) : IntsAt W' l := fun k hk => by
  obtain ⟨cs, hc⟩ := h k hk
  exact ⟨cs, (hg.block _ (lt_of_block hc) (fun e => hne k hk e.symm)).trans hc⟩
theorem IntsAt.keep {W W' : World} {l : List (Rw × Bd)} (h : IntsAt W l) (hb : Below W.heap.size W W') : IntsAt W' l := fun k hk => by
  obtain ⟨cs, hc⟩ := h k hk
  exact ⟨cs, (hb.block _ (lt_of_block hc)).trans hc⟩
theorem own_type {W : World} {base n g : Nat} {v : Value} {xs : List Value} (h : W.ownsRow base 26 2 v n xs) (hg : v.ownBlock = some g) : ∃ cs, W.heap[g]? = some (.cells cs 26 (0, 0)) := by
  rcases h.2 with ⟨rfl, _⟩ | ⟨g', cap, cur, rfl, _, hc, _⟩
  · cases hg
  · cases hg; exact ⟨cur, hc⟩
/-- What Follow's rounds stand on: the list's box, the list, and the two boxes. -/
structure FoI (w : World) (A B : Array Value) (xb base n0 q : Nat) (L : List Bd) (W : World) : Prop where
  two : R2 w W A B
  ex : ∃ (v : Value) (rs : List (Rw × Bd)), W.heap[xb]? = some (.cells #[v] 34 (0, 0)) ∧ Bods W base v q rs ∧ IntsAt W rs ∧ rs.map (·.2) = L ∧ (v.ownBlock = some base ∨ ∃ g, v.ownBlock = some g ∧ n0 ≤ g)
theorem FoI.turn {w W W' : World} {A B : Array Value} {xb base n0 q B0 : Nat} {L : List Bd} {row : Option Nat} (h : FoI w A B xb base n0 q L W) (hw : w.heap.size + 1 < B0) (hx : xb < B0) (hg : W.grownBy W' row) (hr : ∀ j, row = some j → B0 ≤ j ∧ ∃ o : Obj, W.heap[j]? = some o ∧ Obj.apart 82 o) : FoI w A B xb base n0 q L W' := by
  obtain ⟨v, rs, h1, h2, h3, h4, h5⟩ := h.ex
  have nInt : ∀ j, row = some j → ∀ k (hk : k < rs.length), rs[k].1.b ≠ j := fun j e k hk e2 => by
    obtain ⟨_, o, ho, hc⟩ := hr j e
    obtain ⟨cs, hcs⟩ := h3 k hk
    rw [e2, ho] at hcs
    cases hcs
    rcases hc with hc | ⟨cs', hc⟩ <;> cases hc
  have nOwn : ∀ j, row = some j → v.ownBlock ≠ some j := fun j e e2 => by
    obtain ⟨_, o, ho, hc⟩ := hr j e
    obtain ⟨cs, hcs⟩ := own_type h2.own e2
    rw [ho] at hcs
    cases hcs
    rcases hc with hc | ⟨cs', hc⟩ <;> cases hc
  have hk : ∀ j, j < B0 → j < W.heap.size → W'.heap[j]? = W.heap[j]? := fun j g1 g2 => hg.block j g2 (fun e => by have := (hr _ e.symm).1; omega)
  refine ⟨⟨(hk _ (by omega) (lt_of_block h.two.can)).trans h.two.can, (hk _ (by omega) (lt_of_block h.two.res)).trans h.two.res, h.two.low.grown hg h.two.low.size (fun j e => by have := (hr j e).1; omega)⟩, v, rs, (hk _ hx (lt_of_block h1)).trans h1, h2.turn hg (fun j e => ⟨fun k hk => nInt j e k hk, nOwn j e⟩), h3.grow hg (fun k hk e => nInt _ e k hk rfl), h4, h5⟩
theorem FoI.keep {w W W' : World} {A B : Array Value} {xb base n0 q : Nat} {L : List Bd} (h : FoI w A B xb base n0 q L W) (hb : Below W.heap.size W W') : FoI w A B xb base n0 q L W' := by
  obtain ⟨v, rs, h1, h2, h3, h4, h5⟩ := h.ex
  exact ⟨h.two.keep hb, v, rs, (hb.block _ (lt_of_block h1)).trans h1, h2.keep hb, h3.keep hb, h4, h5⟩
theorem kpH_cell {n0 x0 y0 : Nat} {W : World} {old : Array Value} {t : TypeId} (u : Value) (h : W.heap[x0]? = some (.cells old t (0, 0))) (ht : t ≠ 82) : KpH n0 x0 y0 W (W.setCell ⟨x0, 0, none⟩ u) :=
  ⟨by simp, fun j _ h2 _ => heap_setCell_other _ _ _ _ h2, fun j cs hj _ => (heap_setCell_other _ _ _ _ (by rintro rfl; rw [h] at hj; cases hj; exact ht rfl)).trans hj⟩
theorem kpH_own {n0 x0 y0 g : Nat} {W W' : World} {old : Array Value} {t : TypeId} (hg : W.grownBy W' (some g)) (h : W.heap[g]? = some (.cells old t (0, 0))) (ht : t ≠ 82) (hn : n0 ≤ W.heap.size) (hy : g = y0 ∨ n0 ≤ g) : KpH n0 x0 y0 W W' :=
  ⟨hg.size, fun j h1 _ h3 => hg.block j (by omega) (fun e => by cases e; omega), fun j cs hj _ => (hg.block j (lt_of_block hj) (fun e => by cases e; rw [h] at hj; cases hj; exact ht rfl)).trans hj⟩
theorem keeps_cell {B x0 : Nat} {W : World} {u : Value} : KeepsFrom B W (W.setCell ⟨x0, 0, none⟩ u) := (KeepsOthers.setCell W ⟨x0, 0, none⟩ u).from _
theorem keeps_own {B g : Nat} {W W' : World} {old : Array Value} {t : TypeId} (hg : W.grownBy W' (some g)) (h : W.heap[g]? = some (.cells old t (0, 0))) : KeepsFrom B W W' :=
  (KeepsOthers.of_grownBy hg (fun j o ej hj => by cases ej; rw [h] at hj; cases hj; rfl)).from _
/-- The end of a round: the list has one body more. -/
theorem fo_end {w W W7 w8 : World} {A B : Array Value} {xb base n0 q B0 : Nat} {L : List Bd} {v v8 : Value} {rs : List (Rw × Bd)} {r : Rw} {x : Bd} {o : Obj} {cs : Array Value}
    (hA : R2 w W A B) (h1 : W.heap[xb]? = some (.cells #[v] 34 (0, 0))) (h2 : Bods W base v q rs) (h3 : IntsAt W rs) (h4 : rs.map (·.2) = L) (h5 : v.ownBlock = some base ∨ ∃ g, v.ownBlock = some g ∧ n0 ≤ g)
    (hb : Below W.heap.size W W7) (hr : RowAt W7 q r x.1) (hri : W7.heap[r.b]? = some (.cells cs 3 (0, 0))) (hrn : W.heap.size ≤ r.b)
    (hown : w8.ownsRow base 26 2 v8 (rs.length + 1) (bdvs q rs ++ [r.v q, .bool x.2])) (hg : (W7.alloc o).grownBy w8 v.ownBlock) (hw : v8.ownBlock = v.ownBlock ∨ v8.ownBlock = some (W7.alloc o).heap.size)
    (hx0 : w.heap.size + 1 < xb) (hxb : xb < base ∨ (base < xb ∧ xb < n0)) (hbase : w.heap.size + 1 < base) (hn0 : n0 ≤ W.heap.size) (hbn : base < n0) :
    FoI w A B xb base n0 q (L ++ [x]) (w8.setCell ⟨xb, 0, none⟩ v8) ∧ KeepsFrom B0 W (w8.setCell ⟨xb, 0, none⟩ v8) ∧ KpH n0 xb base W (w8.setCell ⟨xb, 0, none⟩ v8) := by
  have hvb : ∃ g, v.ownBlock = some g ∧ (g = base ∨ n0 ≤ g) := by
    rcases h5 with h | ⟨g, h, hn⟩
    · exact ⟨_, h, .inl rfl⟩
    · exact ⟨_, h, .inr hn⟩
  obtain ⟨g, hg0, hgb⟩ := hvb
  obtain ⟨old, hold⟩ := own_type h2.own hg0
  have hgl := lt_of_block hold
  have hb8 : Below W.heap.size W (W7.alloc o) := hb.alloc hb.size o
  have hold8 : (W7.alloc o).heap[g]? = some (.cells old 26 (0, 0)) := (hb8.block _ hgl).trans hold
  have hxl := lt_of_block h1
  have hxg : xb ≠ g := by rintro rfl; rw [h1] at hold; cases hold
  have hxb8 : w8.heap[xb]? = some (.cells #[v] 34 (0, 0)) := (hg.block _ (Nat.lt_of_lt_of_le hxl hb8.size) (by rw [hg0]; intro e; cases e; exact hxg rfl)).trans ((hb8.block _ hxl).trans h1)
  have hne7 : v.ownBlock ≠ some r.b := by rw [hg0]; intro e; cases e; omega
  have hr8 : RowAt (W7.alloc o) q r x.1 := hr.keep ((Below.refl _ _).alloc (Nat.le_refl _) _)
  have hbods := (h2.keep hb8).app hown hg hw hr8 hne7
  have hri8 : (W7.alloc o).heap[r.b]? = some (.cells cs 3 (0, 0)) := (Below.heap_alloc _ _ _ (lt_of_block hri)).trans hri
  have hne : ∀ k (hk : k < rs.length), v.ownBlock ≠ some rs[k].1.b := fun k hk => (h2.row k hk).2
  have hint : IntsAt w8 (rs ++ [(r, x)]) := fun k hk => by
    rw [List.length_append, List.length_singleton] at hk
    by_cases e : k < rs.length
    · rw [List.getElem_append_left e]
      exact ((h3.keep hb8).grow hg hne) k e
    · obtain rfl : k = rs.length := by omega
      rw [List.getElem_append_right (Nat.le_refl _)]
      simp only [Nat.sub_self, List.getElem_singleton]
      exact ⟨cs, (hg.block _ (lt_of_block hri8) (fun e => hne7 e.symm)).trans hri8⟩
  have hcell : ∀ j, j ≠ xb → (w8.setCell ⟨xb, 0, none⟩ v8).heap[j]? = w8.heap[j]? := fun j hj => heap_setCell_other _ _ _ _ hj
  have hgc : w8.grownBy (w8.setCell ⟨xb, 0, none⟩ v8) (some xb) := ⟨rfl, rfl, rfl, by simp, fun j _ hj => hcell j (fun e => hj (by rw [e]))⟩
  have hxr : ∀ k (hk : k < (rs ++ [(r, x)]).length), (rs ++ [(r, x)])[k].1.b ≠ xb := fun k hk e => by
    obtain ⟨cs', hc⟩ := hint k hk
    rw [e, hxb8] at hc
    cases hc
  have hx8 : v8.ownBlock ≠ some xb := by
    rcases hw with e | e
    · rw [e, hg0]; intro e2; cases e2; exact hxg rfl
    · rw [e]; intro e2; cases e2; have := hb8.size; omega
  have hs8 := hg.size
  have hA8 := hA.keep hb8
  refine ⟨⟨⟨?_, ?_, ?_⟩, v8, rs ++ [(r, x)], heap_setCell_same w8 xb 0 _ _ v8 hxb8, hbods.turn hgc (fun j e => by cases e; exact ⟨hxr, hx8⟩), hint.grow hgc (fun k hk e => by cases e; exact hxr k hk rfl), by rw [List.map_append, h4]; rfl, ?_⟩, ?_, ?_⟩
  · rw [hcell _ (by omega)]
    exact (hg.block _ (lt_of_block hA8.can) (by rw [hg0]; intro e; cases e; omega)).trans hA8.can
  · rw [hcell _ (by omega)]
    exact (hg.block _ (lt_of_block hA8.res) (by rw [hg0]; intro e; cases e; omega)).trans hA8.res
  · exact (hA8.low.grown hg hA8.low.size (fun j e => by rw [hg0] at e; cases e; omega)).setCell (p := ⟨xb, 0, none⟩) (by show w.heap.size ≤ xb; omega) _
  · rcases hw with e | e
    · rw [e]; exact h5
    · exact .inr ⟨_, e, Nat.le_trans hn0 hb8.size⟩
  · rw [hg0] at hg
    exact (keeps_below hb8).trans ((keeps_own hg hold8).trans keeps_cell)
  · rw [hg0] at hg
    exact (kpH_below hn0 hb8).trans ((kpH_own hg hold8 (by decide) (Nat.le_trans hn0 hb8.size) hgb).trans (kpH_cell v8 hxb8 (by decide)))
theorem cell_cells {W W' : World} {a : Addr} {v : Value} (hc : ∀ (g : Nat) (cs : Array Value) (T : Nat) (fr : Nat × Nat), W.heap[g]? = some (Obj.cells cs T fr) → W'.heap[g]? = some (Obj.cells cs T fr)) (h : W.cell? a = some v) : W'.cell? a = some v := by
  have hb : ∃ cs T fr, W.heap[a.block]? = some (.cells cs T fr) := by
    unfold World.cell? at h
    revert h
    cases W.heap[a.block]? with
    | none => simp
    | some o => cases o <;> simp
  obtain ⟨cs, T, fr, hcs⟩ := hb
  rw [World.cell?_of_block (a := a) ((hc _ _ _ _ hcs).trans hcs.symm)]
  exact h
theorem fo_box {W W7 w8 : World} {xb base n0 q : Nat} {v : Value} {rs : List (Rw × Bd)} {o : Obj} (h1 : W.heap[xb]? = some (.cells #[v] 34 (0, 0))) (h2 : Bods W base v q rs) (h5 : v.ownBlock = some base ∨ ∃ g, v.ownBlock = some g ∧ n0 ≤ g)
    (hb : Below W.heap.size W W7) (hg : (W7.alloc o).grownBy w8 v.ownBlock) : w8.heap[xb]? = some (.cells #[v] 34 (0, 0)) := by
  have hvb : ∃ g, v.ownBlock = some g := by
    rcases h5 with h | ⟨g, h, hn⟩
    · exact ⟨_, h⟩
    · exact ⟨_, h⟩
  obtain ⟨g, hg0⟩ := hvb
  obtain ⟨old, hold⟩ := own_type h2.own hg0
  have hxl := lt_of_block h1
  have hxg : xb ≠ g := by rintro rfl; rw [h1] at hold; cases hold
  have hb8 : Below W.heap.size W (W7.alloc o) := hb.alloc hb.size o
  exact (hg.block _ (Nat.lt_of_lt_of_le hxl hb8.size) (by rw [hg0]; intro e; cases e; exact hxg rfl)).trans ((hb8.block _ hxl).trans h1)
theorem own_shape2b {w : World} {base e n : Nat} {v : Value} {xs : List Value} (h : w.ownsRow base e 2 v n xs) : ∃ a c, v = .slice a n c := by
  rcases h.2 with ⟨rfl, h0⟩ | ⟨g, cap, cur, rfl, _⟩
  · exact ⟨none, 0, by rw [h0]⟩
  · exact ⟨_, _, rfl⟩
theorem RowI.cells {W W' : World} {v : Value} {l : List Int} (h : RowI W v l) (hc : ∀ (g : Nat) (cs : Array Value) (T : Nat) (fr : Nat × Nat), W.heap[g]? = Option.some (Obj.cells cs T fr) → W'.heap[g]? = Option.some (Obj.cells cs T fr)) : RowI W' v l := by
  rcases h with h | ⟨b, o, cap, hv, hm, h⟩
  · exact .inl h
  · exact .inr ⟨b, o, cap, hv, hm, fun k hk => cell_cells hc (h k hk)⟩
theorem RowBd.cells {W W' : World} {v : Value} {L : List Bd} (h : RowBd W v L) (hc : ∀ (g : Nat) (cs : Array Value) (T : Nat) (fr : Nat × Nat), W.heap[g]? = some (Obj.cells cs T fr) → W'.heap[g]? = some (Obj.cells cs T fr)) : RowBd W' v L := by
  obtain ⟨a, b, o, cap, h1, h2, h3, h4⟩ := h
  refine ⟨a, b, o, cap, h1, h2, h3, fun k hk => ?_⟩
  obtain ⟨ua, uc, g1, g2, g3⟩ := h4 k hk
  exact ⟨ua, uc, cell_cells hc g1, cell_cells hc g2, g3.cells hc⟩
/-- The bodies behind no, one, two .. ticks. -/
def folL (c : Cn) (x : Bd) (l : List Int) : List Bd := (seqH c x l).map (·.2)
/-- What Follow hands back: a list of bodies, and an error. -/
def FolP (L : List Bd) (n : Int) (w : World) (e : Ending) (w' : World) : Prop := ∃ u, e = .returned (.tuple #[u, .int .i64 n]) ∧ RowBd w' u L ∧ Below w.heap.size w w'
set_option maxRecDepth 20000 in
set_option maxHeartbeats 8000000 in
theorem follow_ok (c : Cn) (x : Bd) (v v2 : Value) (l : List Int) (w : World) (hv : c.V) (hb : bodyV c x.1 x.2 = true) (ho : okL l = true) (hlen : l.length ≤ 2000) (hl : RowI w v x.1) (hl2 : RowI w v2 l) :
    Calls Try.prog 17 #[.agg #[.int .i64 (c.R : Int), .int .i64 (c.L : Int), .int .i64 c.A, .int .i64 c.B, .int .i64 c.K, .int .i64 c.A2, .int .i64 c.B2], .agg #[v, .bool x.2], v2] w (FolP (folL c x l) 0 w) := by
  obtain ⟨hxl, _, hxo⟩ := bodyV_iff.1 hb
  have hc := hv.ok
  have hx : Warm c x := ⟨hxl, okL_bd hxo⟩
  have HCHK : Hid (chkE (bothB c.R c.L c.A c.B c.K c.A2 c.B2 x.1 x.2) l = 0) := by unfold Hid; rw [bothB_cn c hv, hb]; exact chkE_ok ho (by omega)
  obtain ⟨p1, p2⟩ := hc.p
  have h48 : x.1.length ≤ 48 := by omega
  have h0 : 0 < x.1.length := by omega
  have HL := hid (fun w1 (g : Below w.heap.size w w1) => hl.keep g)
  have HL2 := hid (fun w1 (g : Below w.heap.size w w1) => hl2.keep g)
  obtain ⟨a0, cap0, rfl⟩ := hl.shape
  obtain ⟨a, ba, o, cap, rfl, ha, hcl, hbl⟩ := hl2.form
  obtain ⟨i0, hi, hz0, hz1, hz2⟩ := infoBd
  have HOK := hid hc; have HX := hid hx; have HAD := hid ha; have HCL := hid hcl; have HBL := hid hbl; have HLB := hid (okL_bd ho)
  have HS := hid (r2_start (w := w) (A := #[.int .i64 (c.R : Int), .int .i64 (c.L : Int), .int .i64 c.A, .int .i64 c.B, .int .i64 c.K, .int .i64 c.A2, .int .i64 c.B2]) (R := #[.slice a0 x.1.length cap0, .bool x.2]))
  have HLQ := hid (fun k => show (runS c x (l.take k)).1.length = x.1.length from (HX.out.run HOK.out (fun b hb => HLB.out b (List.mem_of_mem_take hb))).len.trans HX.out.len.symm)
  clear hl hl2 ha hcl hbl hx hc hb hxl hxo ho hv
  refine (callsIn_wide (n := 10)).1 ?_
  refine callsIn_of_wp_marks Try.func17 rfl trivial ?_ rfl
  simp only [Try.ntmps17, List.size_toArray, List.length_cons, List.length_nil, Nat.reduceAdd, Nat.reduceSub, Array.replicate_succ, Array.replicate_zero, List.push_toArray, List.append_toArray, List.nil_append, List.cons_append]
  gi_wp2
  refine ⟨trivial, ?_⟩
  refine (callsIn_wide.2 (check_any _ _ _ _ _ _ _ _ _ x.1 _ _ l (HL.out _ HS.out.low) (HL2.out _ HS.out.low))).mono ?_
  rintro e w1 ⟨rfl, hb1⟩
  rw [HCHK.out]
  have H1 := hid (HS.out.keep hb1)
  clear hb1 HS
  obtain ⟨k0, k1, k2, k3, k4, k5, k6, k7, k8, k9, k10⟩ := H1.out.nine
  gi_wp2
  refine ⟨trivial, ?_⟩
  refine (callsIn_wide.2 (gridOf_any c x.1 x.2 _ _ (HL.out _ H1.out.low) h0 h48)).mono ?_
  rintro e w2 ⟨rfl, hb2⟩
  have H2 := hid (H1.out.keep hb2)
  clear hb2 k0 k1 k2 k3 k4 k5 k6 k7 k8 k9 k10
  gi_wp2_with (first
    | (refine wpListIn_store_whole rfl 82 _ _ rfl w2.heap.size (gridA c x) rfl rfl 82 _ (heap_alloc_new w2 _) (infoGx c x h48) (by rw [gridA_size h48]; rfl) (gridA_one c x) ?_; generalize hW : World.setRow _ _ _ = W3; have H3 := hid (now_laid hW); clear hW)
    | (gi_at_make; refine wpListIn_make_own _ rfl _ _ 34 rfl W3.heap.size 26 i0 (.agg #[.slice none 0 0, .bool false]) 2 Try.underlying34 hi hz0 hz1 _ _ _ (l.length + 1) rfl rfl (by omega) (by rw [hz2]; omega) (by unfold maxLen; omega) (Nat.le_refl _) ?_; intro w4 hown4 hgrow4; have HO4 := hid hown4; have HG4 := hid hgrow4; clear hown4 hgrow4))
  refine ⟨trivial, ?_⟩
  refine (callsIn_wide.2 (during_any w2.heap.size _ _ _ _)).mono ?_
  rintro e w5 ⟨rfl, rfl⟩
  gi_wp2
  obtain ⟨hg3, hb3⟩ := H3.out
  have z2 := H2.out.low.size
  have z2' := lt_of_block H2.out.res
  have z3 := lt_of_block hg3
  have zg : W3.heap.size < w4.heap.size := (World.ownsRow.lt HO4.out _ rfl).2
  have hb4 : Below W3.heap.size W3 w4 := (Below.refl _ W3).grown HG4.out (Nat.le_refl _) (fun j e => by cases e)
  have hB5 := box2_start (w := w4.alloc (.cells #[.slice (some ⟨W3.heap.size, 0, none⟩) 0 (l.length + 1)] 34)) (A := #[.pointer (some ⟨w2.heap.size, 0, none⟩)]) (B := #[.slice a l.length cap]) (T := 90) (T' := 24) (fz := (0, 0)) (fz' := (0, 0))
  have hxb := heap_alloc_new w4 (.cells #[.slice (some ⟨W3.heap.size, 0, none⟩) 0 (l.length + 1)] 34)
  have hb45 := (Below.refl _ w4).alloc (Nat.le_refl _) (.cells #[.slice (some ⟨W3.heap.size, 0, none⟩) 0 (l.length + 1)] 34)
  have z45 : (w4.alloc (.cells #[.slice (some ⟨W3.heap.size, 0, none⟩) 0 (l.length + 1)] 34)).heap.size = w4.heap.size + 1 := by simp
  have z5 : (((w4.alloc (.cells #[.slice (some ⟨W3.heap.size, 0, none⟩) 0 (l.length + 1)] 34)).alloc (.cells #[.pointer (some ⟨w2.heap.size, 0, none⟩)] 90)).alloc (.cells #[.slice a l.length cap] 24)).heap.size = w4.heap.size + 3 := by simp
  generalize ((w4.alloc (.cells #[.slice (some ⟨W3.heap.size, 0, none⟩) 0 (l.length + 1)] 34)).alloc (.cells #[.pointer (some ⟨w2.heap.size, 0, none⟩)] 90)).alloc (.cells #[.slice a l.length cap] 24) = W5 at hB5 z5 ⊢
  generalize w4.alloc (.cells #[.slice (some ⟨W3.heap.size, 0, none⟩) 0 (l.length + 1)] 34) = W4 at hB5 hxb hb45 z45
  have h5 := (((H2.out.keep hb3).keep hb4).keep hb45).keep hB5.low
  have hbd0 : Bods w4 W3.heap.size (.slice (some ⟨W3.heap.size, 0, none⟩) 0 (l.length + 1)) x.1.length [] := ⟨HO4.out, fun k h => absurd h (Nat.not_lt_zero _)⟩
  have hF0 : FoI w #[.int .i64 (c.R : Int), .int .i64 (c.L : Int), .int .i64 c.A, .int .i64 c.B, .int .i64 c.K, .int .i64 c.A2, .int .i64 c.B2] #[.slice a0 x.1.length cap0, .bool x.2] w4.heap.size W3.heap.size (w4.heap.size + 3) x.1.length [] W5 :=
    ⟨h5, _, [], (hB5.low.block _ (by omega)).trans hxb, (hbd0.keep hb45).keep hB5.low, fun k h => absurd h (Nat.not_lt_zero _), rfl, .inl rfl⟩
  have hI : ItH c x l (w4.heap.size + 1) (w4.heap.size + 2) w2.heap.size a ba o cap (w4.heap.size + 3) W5 := by
    refine ⟨?_, ?_, ((hg3.keep hb4).keep hb45).keep hB5.low, HAD.out, fun j hj => ?_, ⟨by omega, by omega, by omega, fun h => by have := HBL.out h; omega⟩, by omega⟩
    · have := hB5.fst 0; rw [z45] at this; exact this
    · have := hB5.snd 0; rw [z45] at this; exact this
    · exact (h5.low.cell (p := ⟨ba, o + j, none⟩) (HBL.out (by rintro rfl; simp at hj))).trans (HCL.out j hj)
  clear h5 hB5 hg3 hb3 hb4 H3 hxb hb45 hbd0
  refine range_boxed (T := 82) (F := Fence.wide) (n := 10) (xs := seqH c x l) (encs := encH c) (Kp := KpH (w4.heap.size + 3) w4.heap.size W3.heap.size) (w0 := W5) rfl (by omega) (gf := 84) (lb := #[.pointer (some ⟨w4.heap.size + 1, 0, none⟩), .pointer (some ⟨w4.heap.size + 2, 0, none⟩)]) rfl trivial (enters_of Try.func84 (by kernel_rfl) rfl)
    (fun l0 J Jx W hW hJ hJx hY h0 => during_run l0 c x l _ _ _ a ba o cap _ w4.heap.size W3.heap.size W.heap.size J Jx HOK.out HX.out HLB.out (by omega) (by omega) ⟨by omega, by omega, by omega, fun h => by have := HBL.out h; omega⟩ hJ hY W (hI.past hW.size (fun j hj => hW.block j (by omega))) (Nat.le_refl _) h0)
    (fun h k => h.trans k) (fun W l o o' hl h hc _ => KpH.put (by omega) h hc) (Below.refl _ _) (fun _ => rfl)
    (fun pre W => FoI w #[.int .i64 (c.R : Int), .int .i64 (c.L : Int), .int .i64 c.A, .int .i64 c.B, .int .i64 c.K, .int .i64 c.A2, .int .i64 c.B2] #[.slice a0 x.1.length cap0, .bool x.2] w4.heap.size W3.heap.size (w4.heap.size + 3) x.1.length (pre.map (·.2)) W ∧ w4.heap.size + 3 ≤ W.heap.size) (fun _ _ => False) ?hI ?hIx ⟨hF0, by omega⟩
    (fun y a' W => ∃ nb, w4.heap.size + 3 ≤ nb ∧ GridAt W nb c y.2 ∧ a' = { tmps := #[.agg #[.int .i64 (c.R : Int), .int .i64 (c.L : Int), .int .i64 c.A, .int .i64 c.B, .int .i64 c.K, .int .i64 c.A2, .int .i64 c.B2], .agg #[.slice a0 x.1.length cap0, .bool x.2], .slice a l.length cap, .pointer (some ⟨w.heap.size, 0, none⟩), .pointer (some ⟨w.heap.size + 1, 0, none⟩), undef, .slice none 0 0, .int .i64 0, .int .i64 0, .pointer (some ⟨w2.heap.size, 0, none⟩), .pointer (some ⟨w4.heap.size, 0, none⟩), undef, .pointer (some ⟨nb, 0, none⟩), .agg #[.int .i64 (c.R : Int), .int .i64 (c.L : Int), .int .i64 c.A, .int .i64 c.B, .int .i64 c.K, .int .i64 c.A2, .int .i64 c.B2], .agg #[.slice a0 x.1.length cap0, .bool x.2], .slice a l.length cap, .int .i64 0, .int .i64 0, .bool false, undef, .agg #[.int .i64 (c.R : Int), .int .i64 (c.L : Int), .int .i64 c.A, .int .i64 c.B, .int .i64 c.K, .int .i64 c.A2, .int .i64 c.B2], .agg #[.slice a0 x.1.length cap0, .bool x.2], .agg (gridA c (x.1, x.2)), .slice a l.length cap, .int .i64 (l.length : Int), .int .i64 ((l.length : Int) + 1), .slice (some ⟨W3.heap.size, 0, none⟩) 0 (l.length + 1), .slice a l.length cap, .func (.func 84) #[] #[.pointer (some ⟨w4.heap.size + 1, 0, none⟩), .pointer (some ⟨w4.heap.size + 1 + 1, 0, none⟩)], .int .i64 (y.1 : Int), .agg (gridA c y.2), undef, undef, undef, undef, undef], defers := [] }) ?hAx ?assign ?body ?done ?stop
  case assign =>
    rintro l' k y W K hx ⟨hi, hz⟩ hK
    obtain ⟨hkl, rfl⟩ := seqH_at hx
    have hw : (runS c x (l.take k)).1.length ≤ 48 := by rw [HLQ.out]; exact h48
    generalize runS c x (l.take k) = y at hx hw hK ⊢
    simp only [encH]
    gi_wp2_with (refine wpListIn_store_whole rfl 82 _ _ rfl W.heap.size (gridA c y) rfl rfl 82 _ (heap_alloc_new W _) (infoGx c y hw) (by rw [gridA_size hw]; rfl) (gridA_one c y) ?_; generalize hW : World.setRow _ _ _ = W6; have H6 := hid (now_laid hW); clear hW)
    exact hK _ _ (keeps_below H6.out.2) (kpH_below hz H6.out.2) ⟨hi.keep H6.out.2, Nat.le_trans hz H6.out.2.size⟩ ⟨W.heap.size, hz, H6.out.1, rfl⟩
  case body =>
    rintro l' k y a' W hx ⟨hi, hz⟩ ⟨nb, hnb, hgn, rfl⟩
    have HTK := hid (show ((seqH c x l).take (k + 1)).map (·.2) = ((seqH c x l).take k).map (·.2) ++ [y.2] by rw [List.take_add_one, hx, List.map_append]; rfl)
    have hkn : (((seqH c x l).take k).map (·.2)).length ≤ 2001 := by rw [List.length_map, List.length_take, seqH_len]; omega
    obtain ⟨hkl, rfl⟩ := seqH_at hx
    have hq : (runS c x (l.take k)).1.length = x.1.length := HLQ.out k
    have hlp : (runS c x (l.take k)).1.length = c.P := hq.trans HX.out.len
    dsimp only at HTK hgn
    have hgn' : GridAt W nb c (runS c x (l.take k)) := hgn
    have HB := hid (body_any nb c (runS c x (l.take k)) W.drew hgn' HOK.out hlp)
    generalize runS c x (l.take k) = y at *
    obtain ⟨v, rs, h1, h2, h3, h4, h5⟩ := hi.ex
    obtain ⟨va, vc, rfl⟩ := h2.shape
    have hrl : rs.length = (((seqH c x l).take k).map (·.2)).length := by rw [← h4, List.length_map]
    have HKN := hid (show rs.length ≤ 2001 by omega)
    have HX1 := hid h1; have HBD := hid h2; have HIN := hid h3; have HMP := hid h4; have HOB := hid h5; have HI2 := hid hi.two; have HQ := hid hq
    have c0 := cell_of_row _ _ 0 _ _ _ h1
    simp only [List.getElem?_toArray, List.getElem?_cons_zero] at c0
    clear h1 h2 h3 h4 h5 hi hq hgn hgn' hlp hkn hrl hx
    gi_wp2
    refine wpIn_region_any (by kernel_rfl) ?_
    change wpAnyIn _ _ _ _ _ _ _ _ _ (World.drew _)
    refine wpAnyIn_ready (rs := [0, 1]) (by kernel_rfl) (by simp) ?_
    refine AllReadyIn.cons rfl (fun K hK => ?_) ?_
    · go_simp
      refine hK _ _ ?_
      clear hK K
      refine wpAnyIn_ready (rs := [1]) (by kernel_rfl) (by simp) ?_
      refine AllReadyIn.cons rfl (fun K hK => ?_) AllReadyIn.nil
      go_simp
      refine ⟨trivial, ?_⟩
      refine (callsIn_wide.2 HB.out).mono ?_
      rintro e W7 ⟨v7, rfl, ⟨g, rfl, hg1, hg2⟩, hb7⟩
      refine hK _ _ ?_
      clear hK K
      have hb7' := ((Below.refl W.heap.size W).drew).trans hb7
      have HB7 := hid hb7'
      have hg1' : W.heap.size ≤ g := hg1
      have HR7 := hid (show RowAt W7 x.1.length ⟨g, 0, x.1.length⟩ y.1 from ⟨HQ.out, fun j hj => by rw [Nat.zero_add, cell_of_row W7 g j _ _ _ hg2]; simp [hj], lt_of_block hg2⟩)
      have HG7 := hid hg2
      have c7 := cell_of_row W7 w4.heap.size 0 _ _ _ ((hb7'.block _ (lt_of_block HX1.out)).trans HX1.out)
      simp only [List.getElem?_toArray, List.getElem?_cons_zero] at c7
      clear hg1 hg2 hb7 hb7'
      rw [HQ.out]
      refine wpAnyIn_ready (rs := [2]) (by kernel_rfl) (by simp) ?_
      refine AllReadyIn.cons rfl (fun K hK => ?_) AllReadyIn.nil
      go_simp
      refine hK _ _ ?_
      clear hK K
      refine wpAnyIn_ready (rs := [3]) (by kernel_rfl) (by simp) ?_
      refine AllReadyIn.cons rfl (fun K hK => ?_) AllReadyIn.nil
      refine stepIn_append_where rfl (.tmp 31) (.tmp 33) 34 rfl W3.heap.size 26 i0 (.agg #[.slice none 0 0, .bool false]) 2 32 Try.underlying34 hi hz0 hz1 hz2 rfl (by decide) (.slice va rs.length vc) rs.length (bdvs x.1.length rs) rfl ((HBD.out.keep HB7.out).own.alloc _) ⟨W7.heap.size, 0, none⟩ 1 1 [Rw.v ⟨g, 0, x.1.length⟩ x.1.length, .bool y.2] rfl rfl (cellBd rfl) oneBd (by decide) (by have := HKN.out; unfold maxLen; omega) (by have := HKN.out; omega) (by have := HB7.out.size; rw [World.size_alloc]; omega) ?_
      intro v8 w8 hown8 hgrow8 hw8
      refine hK _ _ ?_
      clear hK K
      have HE := hid (fo_end (B0 := W5.heap.size) HI2.out HX1.out HBD.out HIN.out HMP.out HOB.out HB7.out HR7.out HG7.out hg1' hown8 hgrow8 hw8 (by omega) (.inr ⟨zg, by omega⟩) (by omega) hz (by omega))
      have hx8 := fo_box HX1.out HBD.out HOB.out HB7.out hgrow8
      have c8 := cell_of_row _ _ 0 _ _ _ hx8
      have f8 := frozen_of_row _ _ 0 _ _ hx8
      simp only [List.getElem?_toArray, List.getElem?_cons_zero] at c8
      obtain ⟨a8, cc8, rfl⟩ := own_shape2b hown8
      refine wpAnyIn_ready (rs := [4]) (by kernel_rfl) (by simp) ?_
      refine AllReadyIn.cons rfl (fun K hK => ?_) AllReadyIn.nil
      go_simp
      refine hK _ _ ?_
      clear hK K
      refine wpAnyIn_done (by kernel_rfl) ?_ _
      obtain ⟨e1, e2, e3⟩ := HE.out
      refine ⟨e2, e3, ?_, ?_⟩
      · rw [HTK.out]; exact e1
      · have s1 := hgrow8.size
        have s2 := HB7.out.size
        simp at s1 ⊢
        omega
    · refine AllReadyIn.cons rfl (fun K hK => ?_) AllReadyIn.nil
      go_simp
      refine ⟨trivial, ?_⟩
      refine (callsIn_wide.2 HB.out).mono ?_
      rintro e W7 ⟨v7, rfl, ⟨g, rfl, hg1, hg2⟩, hb7⟩
      refine hK _ _ ?_
      clear hK K
      have hb7' := ((Below.refl W.heap.size W).drew).trans hb7
      have HB7 := hid hb7'
      have hg1' : W.heap.size ≤ g := hg1
      have HR7 := hid (show RowAt W7 x.1.length ⟨g, 0, x.1.length⟩ y.1 from ⟨HQ.out, fun j hj => by rw [Nat.zero_add, cell_of_row W7 g j _ _ _ hg2]; simp [hj], lt_of_block hg2⟩)
      have HG7 := hid hg2
      have c7 := cell_of_row W7 w4.heap.size 0 _ _ _ ((hb7'.block _ (lt_of_block HX1.out)).trans HX1.out)
      simp only [List.getElem?_toArray, List.getElem?_cons_zero] at c7
      clear hg1 hg2 hb7 hb7'
      rw [HQ.out]
      refine wpAnyIn_ready (rs := [0, 2]) (by kernel_rfl) (by simp) ?_
      refine AllReadyIn.cons rfl (fun K hK => ?_) ?_
      · go_simp
        refine hK _ _ ?_
        clear hK K
        refine wpAnyIn_ready (rs := [2]) (by kernel_rfl) (by simp) ?_
        refine AllReadyIn.cons rfl (fun K hK => ?_) AllReadyIn.nil
        go_simp
        refine hK _ _ ?_
        clear hK K
        refine wpAnyIn_ready (rs := [3]) (by kernel_rfl) (by simp) ?_
        refine AllReadyIn.cons rfl (fun K hK => ?_) AllReadyIn.nil
        refine stepIn_append_where rfl (.tmp 31) (.tmp 33) 34 rfl W3.heap.size 26 i0 (.agg #[.slice none 0 0, .bool false]) 2 32 Try.underlying34 hi hz0 hz1 hz2 rfl (by decide) (.slice va rs.length vc) rs.length (bdvs x.1.length rs) rfl ((HBD.out.keep HB7.out).own.alloc _) ⟨W7.heap.size, 0, none⟩ 1 1 [Rw.v ⟨g, 0, x.1.length⟩ x.1.length, .bool y.2] rfl rfl (cellBd rfl) oneBd (by decide) (by have := HKN.out; unfold maxLen; omega) (by have := HKN.out; omega) (by have := HB7.out.size; rw [World.size_alloc]; omega) ?_
        intro v8 w8 hown8 hgrow8 hw8
        refine hK _ _ ?_
        clear hK K
        have HE := hid (fo_end (B0 := W5.heap.size) HI2.out HX1.out HBD.out HIN.out HMP.out HOB.out HB7.out HR7.out HG7.out hg1' hown8 hgrow8 hw8 (by omega) (.inr ⟨zg, by omega⟩) (by omega) hz (by omega))
        have hx8 := fo_box HX1.out HBD.out HOB.out HB7.out hgrow8
        have c8 := cell_of_row _ _ 0 _ _ _ hx8
        have f8 := frozen_of_row _ _ 0 _ _ hx8
        simp only [List.getElem?_toArray, List.getElem?_cons_zero] at c8
        obtain ⟨a8, cc8, rfl⟩ := own_shape2b hown8
        refine wpAnyIn_ready (rs := [4]) (by kernel_rfl) (by simp) ?_
        refine AllReadyIn.cons rfl (fun K hK => ?_) AllReadyIn.nil
        go_simp
        refine hK _ _ ?_
        clear hK K
        refine wpAnyIn_done (by kernel_rfl) ?_ _
        obtain ⟨e1, e2, e3⟩ := HE.out
        refine ⟨e2, e3, ?_, ?_⟩
        · rw [HTK.out]; exact e1
        · have s1 := hgrow8.size
          have s2 := HB7.out.size
          simp at s1 ⊢
          omega
      · refine AllReadyIn.cons rfl (fun K hK => ?_) AllReadyIn.nil
        go_simp
        refine hK _ _ ?_
        clear hK K
        have c9 := keep_cell ((Below.refl _ W7).alloc (Nat.le_refl _) (.cells #[.slice (some ⟨g, 0, none⟩) x.1.length x.1.length, .bool y.2] 26)) c7
        refine wpAnyIn_ready (rs := [0]) (by kernel_rfl) (by simp) ?_
        refine AllReadyIn.cons rfl (fun K hK => ?_) AllReadyIn.nil
        go_simp
        refine hK _ _ ?_
        clear hK K
        refine wpAnyIn_ready (rs := [3]) (by kernel_rfl) (by simp) ?_
        refine AllReadyIn.cons rfl (fun K hK => ?_) AllReadyIn.nil
        refine stepIn_append_where rfl (.tmp 31) (.tmp 33) 34 rfl W3.heap.size 26 i0 (.agg #[.slice none 0 0, .bool false]) 2 32 Try.underlying34 hi hz0 hz1 hz2 rfl (by decide) (.slice va rs.length vc) rs.length (bdvs x.1.length rs) rfl ((HBD.out.keep HB7.out).own.alloc _) ⟨W7.heap.size, 0, none⟩ 1 1 [Rw.v ⟨g, 0, x.1.length⟩ x.1.length, .bool y.2] rfl rfl (cellBd rfl) oneBd (by decide) (by have := HKN.out; unfold maxLen; omega) (by have := HKN.out; omega) (by have := HB7.out.size; rw [World.size_alloc]; omega) ?_
        intro v8 w8 hown8 hgrow8 hw8
        refine hK _ _ ?_
        clear hK K
        have HE := hid (fo_end (B0 := W5.heap.size) HI2.out HX1.out HBD.out HIN.out HMP.out HOB.out HB7.out HR7.out HG7.out hg1' hown8 hgrow8 hw8 (by omega) (.inr ⟨zg, by omega⟩) (by omega) hz (by omega))
        have hx8 := fo_box HX1.out HBD.out HOB.out HB7.out hgrow8
        have c8 := cell_of_row _ _ 0 _ _ _ hx8
        have f8 := frozen_of_row _ _ 0 _ _ hx8
        simp only [List.getElem?_toArray, List.getElem?_cons_zero] at c8
        obtain ⟨a8, cc8, rfl⟩ := own_shape2b hown8
        refine wpAnyIn_ready (rs := [4]) (by kernel_rfl) (by simp) ?_
        refine AllReadyIn.cons rfl (fun K hK => ?_) AllReadyIn.nil
        go_simp
        refine hK _ _ ?_
        clear hK K
        refine wpAnyIn_done (by kernel_rfl) ?_ _
        obtain ⟨e1, e2, e3⟩ := HE.out
        refine ⟨e2, e3, ?_, ?_⟩
        · rw [HTK.out]; exact e1
        · have s1 := hgrow8.size
          have s2 := HB7.out.size
          simp at s1 ⊢
          omega
  case done =>
    rintro D W hD ⟨hi, hz⟩ hK
    have HK := hid hK
    obtain ⟨v, rs, h1, h2, h3, h4, h5⟩ := hi.ex
    obtain ⟨va, vc, rfl⟩ := h2.shape
    have hrl : rs.length = l.length + 1 := by rw [← seqH_len c x l, ← List.length_map (·.2), h4, List.length_map]
    have hrd := h2.read (by omega) (by omega)
    rw [h4] at hrd
    have HRD := hid hrd
    have HLW := hid hi.two.low
    have c0 := cell_of_row _ _ 0 _ _ _ h1
    simp only [List.getElem?_toArray, List.getElem?_cons_zero] at c0
    clear h1 h2 h3 h4 h5 hi hrd hK hrl
    gi_wp2
    refine leaves_marks (B := w.heap.size) [D] W ⟨by simp, fun d hd => by rw [List.mem_singleton] at hd; subst hd; exact ⟨by have := H2.out.low.size; omega, HK.out⟩⟩ fun W9 hb9 hc9 => ?_
    refine ⟨.tuple #[.slice va rs.length vc, .int .i64 0], by simp [results, Try.results17, go_sem], _, rfl, ?_, HLW.out.trans hb9⟩
    exact HRD.out.cells hc9
  case stop => rintro D k W hD h; exact h.elim
  case hI =>
    rintro pre A B' row ⟨h1, h2⟩ hgr hr
    exact ⟨h1.turn (B0 := W5.heap.size) (by omega) (by omega) hgr hr, Nat.le_trans h2 hgr.size⟩
  case hIx => rintro pre A B' row h; exact h.elim
  case hAx =>
    rintro y a' W l' o1 o2 ⟨nb, h1, h2, h3⟩ hl' ho hc'
    exact ⟨nb, h1, (World.putObj_heap_other (by rintro rfl; rw [h2] at ho; cases ho; cases hc')).trans h2, h3⟩
end Go.Proofs.Ytpkcnojcklmhmaa
