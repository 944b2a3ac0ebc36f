/- Texts of this seat, one behind the other. -/
import Derived.Test.YtihbjimnjhfpeaaGreatG32
import Derived.Test.YtihbjimnjhfpeaaGreatG16
import Derived.Test.YtihbjimnjhfpeaaGreatG07
/- Walk of the reference's tick: contract. -/
namespace Go.Proofs.YtihbjimnjhfpeaaGreat
open Go.RowKit Go.Lib

/-- A tick's boxes: the run, and what is told. -/
structure TkL (K : Kq) (n : Nat) (A R : Array Value) (w W : World) : Prop where
  kept : K.at W
  still : Lt.Still K.gD K.gU w W
  box : W.heap[n]? = some (.cells A 136 (0, 0))
  res : W.heap[n + 1]? = some (.cells R 136 (0, 0))
theorem TkL.lt {K : Kq} {n : Nat} {A R : Array Value} {w W : World} (h : TkL K n A R w W) : n + 1 < W.heap.size := lt_of_block h.res
theorem TkL.below {K : Kq} {n : Nat} {A R : Array Value} {w W W' : World} (h : TkL K n A R w W) (hb : Below W.heap.size W W') : TkL K n A R w W' :=
  ⟨Kq.below h.kept hb, h.still.trans (Lt.Still.below hb), (hb.block _ (lt_of_block h.box)).trans h.box, (hb.block _ (lt_of_block h.res)).trans h.res⟩
theorem TkL.at {K : Kq} {n : Nat} {A R : Array Value} {w W W' : World} (h : TkL K n A R w W) (hn : K.gD < n ∧ K.gU < n) (hk : K.at W') (hs : Lt.Still K.gD K.gU W W') : TkL K n A R w W' :=
  ⟨hk, h.still.trans hs, (hs.block _ (lt_of_block h.box) (by omega) (by omega)).trans h.box, (hs.block _ (lt_of_block h.res) (by omega) (by omega)).trans h.res⟩
theorem tkL_start {K : Kq} {w : World} {A R : Array Value} (hK : K.at w) : TkL K w.heap.size A R w ((w.alloc (.cells A 136)).alloc (.cells R 136)) := by
  have hb : Below w.heap.size w ((w.alloc (.cells A 136)).alloc (.cells R 136)) := ((Below.refl _ _).alloc (Nat.le_refl _) _).alloc (by simp) _
  exact ⟨Kq.below hK hb, Lt.Still.below hb, heap_alloc2_old w _ _, heap_alloc2_new w _ _⟩
/-- One cell of the run's box is stored. -/
theorem TkL.put {K : Kq} {n : Nat} {A R : Array Value} {w W : World} (h : TkL K n A R w W) (hn : K.gD < n ∧ K.gU < n) (hw : w.heap.size ≤ n) (i : Nat) (u : Value) : TkL K n (A.setIfInBounds i u) R w (W.setCell ⟨n, i, none⟩ u) := by
  have hlt := Kq.lt h.kept
  have hg : W.grownBy (W.setCell ⟨n, i, none⟩ u) (some n) := by
    refine ⟨rfl, rfl, rfl, by rw [Lt.size_set]; exact Nat.le_refl _, fun k _ hk => ?_⟩
    exact heap_setCell_other _ _ _ _ (show k ≠ n from fun e => hk (by rw [e]))
  refine ⟨Kq.grown (base := n) h.kept hg (fun j e => by cases e; exact Nat.le_refl _) hn, ⟨by rw [Lt.size_set]; exact h.still.size, fun j hj h1 h2 => ?_⟩, heap_setCell_same W n i _ _ u h.box, ?_⟩
  · rw [heap_setCell_other _ _ _ _ (show j ≠ n by omega)]; exact h.still.block j hj h1 h2
  · rw [heap_setCell_other _ _ _ _ (show n + 1 ≠ n by omega)]; exact h.res
theorem TkL.grow {K : Kq} {n : Nat} {A R : Array Value} {w W W' : World} {row : Option Nat} (h : TkL K n A R w W) (hn : K.gD < n ∧ K.gU < n) (hw : w.heap.size ≤ n) (hg : W.grownBy W' row) (hr : ∀ j, row = some j → n + 2 ≤ j) : TkL K n A R w W' :=
  ⟨Kq.grown (base := n + 2) h.kept hg hr (by omega), ⟨Nat.le_trans h.still.size hg.size, fun j hj h1 h2 => (hg.block j (Nat.lt_of_lt_of_le hj h.still.size) (fun e => by have := hr j e.symm; omega)).trans (h.still.block j hj h1 h2)⟩,
    (hg.block _ (lt_of_block h.box) (fun e => by have := hr _ e.symm; omega)).trans h.box, (hg.block _ (lt_of_block h.res) (fun e => by have := hr _ e.symm; omega)).trans h.res⟩

/-- The cells of a run. -/
def rnA (c : Cn) (K : Kq) (vx : Value) (br : Bool) (vd vu : Value) (k : Nat) : Array Value := #[.int .i64 (c.R : Int), .int .i64 (c.L : Int), .int .i64 c.A, .int .i64 c.B, .int .i64 c.K, .int .i64 c.A2, .int .i64 c.B2, vx, .bool br, .pointer (some ⟨K.b, 0, none⟩), vd, vu, .int .i64 (k : Nat)]
theorem rnA_d {c : Cn} {K : Kq} {vx vd vu : Value} {br : Bool} {k : Nat} (u v : Value) (m : Nat) : (((rnA c K vx br vd vu k).setIfInBounds 10 u).setIfInBounds 11 v).setIfInBounds 12 (.int .i64 m) = rnA c K vx br u v m := rfl
theorem rowI_put {W : World} {b i base n cap : Nat} {a : Option Addr} {l : List Int} (u : Value) (h : RowI W (.slice a n cap) l) (ha : ∀ ad, a = some ad → base ≤ ad.block) (hb : b < base) : RowI (W.setCell ⟨b, i, none⟩ u) (.slice a n cap) l := by
  rcases h with h | ⟨b', o, cap', hv, hm, hc⟩
  · exact .inl h
  · refine .inr ⟨b', o, cap', hv, hm, fun k hk => ?_⟩
    injection hv with e1
    have := ha _ e1
    have : base ≤ b' := this
    rw [World.cell?_setCell_other _ _ _ _ (fun e => by cases e; omega)]
    exact hc k hk
theorem TkL.x {c : Cn} {K : Kq} {n : Nat} {vx vd vu : Value} {br : Bool} {k : Nat} {R : Array Value} {w W : World} (h : TkL K n (rnA c K vx br vd vu k) R w W) :
    W.cell? ⟨n, 7, none⟩ = some vx ∧ W.cell? ⟨n, 8, none⟩ = some (.bool br) ∧ W.cell? ⟨n, 9, none⟩ = some (.pointer (some ⟨K.b, 0, none⟩)) ∧ W.cell? ⟨n, 10, none⟩ = some vd ∧ W.cell? ⟨n, 11, none⟩ = some vu ∧ W.cell? ⟨n, 12, none⟩ = some (.int .i64 (k : Nat)) :=
  ⟨cell_of_row _ _ 7 _ _ _ h.box, cell_of_row _ _ 8 _ _ _ h.box, cell_of_row _ _ 9 _ _ _ h.box, cell_of_row _ _ 10 _ _ _ h.box, cell_of_row _ _ 11 _ _ _ h.box, cell_of_row _ _ 12 _ _ _ h.box⟩

/-- Two rows of ints that grow side by side. -/
structure TwoO (base : Nat) (u v : Value) (l m : List Int) (W : World) : Prop where
  a : W.ownsRow base 3 1 u (ivs l).length (ivs l)
  b : W.ownsRow base 3 1 v (ivs m).length (ivs m)
  ne : u.ownBlock ≠ v.ownBlock
theorem TwoO.alloc {base : Nat} {u v : Value} {l m : List Int} {W : World} (h : TwoO base u v l m W) (o : Obj) : TwoO base u v l m (W.alloc o) := ⟨World.ownsRow.alloc h.a o, World.ownsRow.alloc h.b o, h.ne⟩
theorem TwoO.still {gD gU base : Nat} {u v : Value} {l m : List Int} {W W' : World} (h : TwoO base u v l m W) (hs : Lt.Still gD gU W W') (hD : gD < base) (hU : gU < base) : TwoO base u v l m W' :=
  ⟨own_still h.a hs hD hU, own_still h.b hs hD hU, h.ne⟩
theorem TwoO.appA {base : Nat} {u u' v : Value} {l m x : List Int} {W W' : World} (h : TwoO base u v l m W) (hA : AppP W base 3 u (ivs l) x u' W') : TwoO base u' v (l ++ x) m W' := by
  refine ⟨by rw [ivs_len]; exact app_next hA, World.ownsRow.kept h.b hA.2.1 (.inr (Ne.symm h.ne)), ?_⟩
  rcases hA.2.2 with e | e
  · rw [e]; exact h.ne
  · rw [e]; intro g
    have := (World.ownsRow.lt h.b _ g.symm).2
    omega
theorem TwoO.appB {base : Nat} {u v v' : Value} {l m x : List Int} {W W' : World} (h : TwoO base u v l m W) (hA : AppP W base 3 v (ivs m) x v' W') : TwoO base u v' l (m ++ x) W' := by
  refine ⟨World.ownsRow.kept h.a hA.2.1 (.inr h.ne), by rw [ivs_len]; exact app_next hA, ?_⟩
  rcases hA.2.2 with e | e
  · rw [e]; exact h.ne
  · rw [e]; intro g
    have := (World.ownsRow.lt h.a _ g).2
    omega
theorem twoO_new {W : World} : TwoO W.heap.size (.slice (some ⟨W.heap.size, 0, none⟩) 0 0) (.slice (some ⟨W.heap.size + 1, 0, none⟩) 0 0) [] [] ((W.alloc (.cells #[] 3)).alloc (.cells #[] 3)) := by
  refine ⟨World.ownsRow.alloc (own_new (by rfl) (Nat.le_refl _)) _, own_at (by rfl) (by simp) (by omega), fun e => ?_⟩
  simp [Value.ownBlock] at e
theorem still_app {gD gU base : Nat} {W0 W W' : World} {u u' : Value} {xs : List Value} {x : List Int} (hs : Lt.Still gD gU W0 W) (hb : W0.heap.size ≤ base) (ho : W.ownsRow base 3 1 u xs.length xs) (hA : AppP W base 3 u xs x u' W') : Lt.Still gD gU W0 W' :=
  ⟨Nat.le_trans hs.size hA.2.1.size, fun j hj h1 h2 => (hA.2.1.block j (Nat.lt_of_lt_of_le hj hs.size) (fun e => by have := (World.ownsRow.lt ho _ e.symm).1; omega)).trans (hs.block j hj h1 h2)⟩
theorem kq_app {K : Kq} {base : Nat} {W W' : World} {u u' : Value} {xs : List Value} {x : List Int} (h : K.at W) (hD : K.gD < base) (hU : K.gU < base) (ho : W.ownsRow base 3 1 u xs.length xs) (hA : AppP W base 3 u xs x u' W') : K.at W' :=
  Kq.grown (base := base) h hA.2.1 (fun _ e => (World.ownsRow.lt ho _ e).1) ⟨hD, hU⟩
theorem ivN_take {f : Int → Nat} {S : List Nat} {T : List Int} {k : Nat} (h1 : k < S.length) (h2 : k < T.length) : (ivN (addD f S T)).take (k + 1) = (ivN (addD f S T)).take k ++ [((Lt.cutN S[k] (f T[k]) : Nat) : Int)] := by
  unfold ivN
  rw [← List.map_take, addD_take h1 h2, List.map_append, ← List.map_take]
  rfl
theorem best2_step {T : List Int} {k : Nat} (hk : k < T.length) : (bestT ltB T (k + 1)).2 = if T[k] < (bestT ltB T k).2 then T[k] else (bestT ltB T k).2 := by
  rw [show bestT ltB T (k + 1) = if ltB (T.getD k 0) (bestT ltB T k).2 then (k, T.getD k 0) else bestT ltB T k from rfl, getD_at hk]
  generalize bestT ltB T k = q
  unfold ltB
  by_cases g : T[k] < q.2 <;> simp [g]
theorem RowK.cells {gD gU : Nat} {W : World} {a : Option Addr} {n cap : Nat} {l : List Int} (h : RowK gD gU W (.slice a n cap) l) (h0 : 0 < l.length) :
    ∃ b o, a = some ⟨b, o, none⟩ ∧ ∀ W', Lt.Still gD gU W W' → ∀ k (hk : k < l.length), W'.cell? ⟨b, o + k, none⟩ = some (.int .i64 l[k]) := by
  obtain ⟨b, o, c, hv, _⟩ := h.row.some h0
  injection hv with e1
  refine ⟨b, o, e1, fun W' hs k hk => ?_⟩
  obtain ⟨b', o', c', hv', hc⟩ := (h W' hs).some h0
  injection hv' with e2
  rw [e1] at e2
  cases e2
  exact hc k hk
theorem ivN_get {S : List Nat} {k : Nat} (h : k < S.length) : (ivN S)[k]'(by rw [ivN_len]; exact h) = (S[k] : Nat) := by simp [ivN]
theorem RowK.cellsN {gD gU : Nat} {W : World} {a : Option Addr} {n cap : Nat} {l : List Nat} (h : RowK gD gU W (.slice a n cap) (ivN l)) (h0 : 0 < l.length) :
    ∃ b o, a = some ⟨b, o, none⟩ ∧ ∀ W', Lt.Still gD gU W W' → ∀ k (hk : k < l.length), W'.cell? ⟨b, o + k, none⟩ = some (.int .i64 (l[k] : Nat)) := by
  obtain ⟨b, o, h1, h2⟩ := h.cells (by rw [ivN_len]; exact h0)
  refine ⟨b, o, h1, fun W' hs k hk => ?_⟩
  rw [h2 W' hs k (by rw [ivN_len]; exact hk), ivN_get hk]

theorem infoRn : (Tryz.prog.info? 136).map (·.size) = some 13 := by kernel_rfl
theorem rnA_one {c : Cn} {K : Kq} {a1 a2 a3 : Option Addr} {n1 n2 n3 c1 c2 c3 : Nat} {br : Bool} {k : Nat} : (rnA c K (.slice a1 n1 c1) br (.slice a2 n2 c2) (.slice a3 n3 c3) k).all (·.oneCell') = true := by simp [rnA, Value.oneCell']
/-- The result's box is laid as a whole. -/
theorem TkL.lay {K : Kq} {n : Nat} {A R : Array Value} {w W W' : World} {cs : Array Value} (h : TkL K n A R w W) (hn : K.gD < n ∧ K.gU < n) (hw : w.heap.size ≤ n) (hW : W.setRow (n + 1) cs = W') :
    W'.heap[n + 1]? = some (.cells cs 136 (0, 0)) ∧ K.at W' ∧ Lt.Still K.gD K.gU w W' ∧ ∀ g, g ≠ n + 1 → W'.heap[g]? = W.heap[g]? := by
  subst hW
  have ho : ∀ g, g ≠ n + 1 → (W.setRow (n + 1) cs).heap[g]? = W.heap[g]? := fun g hg => setRow_other _ _ _ _ hg
  have hg : W.grownBy (W.setRow (n + 1) cs) (some (n + 1)) := ⟨rfl, rfl, rfl, by simp, fun k _ hk => ho k (fun e => hk (by rw [e]))⟩
  exact ⟨setRow_heap _ _ _ _ _ _ h.res, Kq.grown (base := n + 1) h.kept hg (fun j e => by cases e; exact Nat.le_refl _) (by omega), ⟨Nat.le_trans h.still.size hg.size, fun j hj h1 h2 => (ho j (by omega)).trans (h.still.block j hj h1 h2)⟩, ho⟩
theorem rowI_same2 {W W' : World} {base n cap : Nat} {a : Option Addr} {l : List Int} (h : RowI W (.slice a n cap) l) (ha : ∀ ad, a = some ad → base ≤ ad.block) (hs : ∀ g, base ≤ g → W'.heap[g]? = W.heap[g]?) : RowI W' (.slice a n cap) l := by
  rcases h with h | ⟨b', o, cap', hv, hm, hc⟩
  · exact .inl h
  · refine .inr ⟨b', o, cap', hv, hm, fun k hk => ?_⟩
    injection hv with e1
    have := ha _ e1
    rw [World.cell?_of_block (a := ⟨b', o + k, none⟩) (hs b' this)]
    exact hc k hk

set_option maxRecDepth 100000 in
set_option maxHeartbeats 4000000 in
theorem xtick_any (c : Cn) (K : Kq) (S : Rs) (bath : Int) (xa : Option Addr) (xc : Nat) (da : Option Addr) (dc : Nat) (ua : Option Addr) (uc : Nat) (w : World) (hc : c.Ok) (hV : K.V) (hG : GoodR c S) (hb : okT bath = true) (hR : RowsK K.gD K.gU w S xa xc da dc ua uc) (hK : K.at w) :
    Calls Tryz.prog 125 #[.agg #[.int .i64 (c.R : Int), .int .i64 (c.L : Int), .int .i64 c.A, .int .i64 c.B, .int .i64 c.K, .int .i64 c.A2, .int .i64 c.B2, .slice xa S.x.1.length xc, .bool S.x.2, .pointer (some ⟨K.b, 0, none⟩), .slice da S.d.length dc, .slice ua S.u.length uc, .int .i64 (S.k : Nat)], .int .i64 bath] w (RnF c K (rsT c K.f K.u S bath) w) := by
  have HN := hid (Kq.lt hK)
  have HT := hid (tkL_start (A := #[.int .i64 (c.R : Int), .int .i64 (c.L : Int), .int .i64 c.A, .int .i64 c.B, .int .i64 c.K, .int .i64 c.A2, .int .i64 c.B2, .slice xa S.x.1.length xc, .bool S.x.2, .pointer (some ⟨K.b, 0, none⟩), .slice da S.d.length dc, .slice ua S.u.length uc, .int .i64 (S.k : Nat)]) (R := #[.int .i64 0, .int .i64 0, .int .i64 0, .int .i64 0, .int .i64 0, .int .i64 0, .int .i64 0, .slice none 0 0, .bool false, .pointer none, .slice none 0 0, .slice none 0 0, .int .i64 0]) hK)
  have x7 := cell_of_row _ _ 7 _ _ _ HT.out.box
  have x8 := cell_of_row _ _ 8 _ _ _ HT.out.box
  simp only [List.getElem?_toArray, List.getElem?_cons_zero, List.getElem?_cons_succ] at x7 x8
  have hbb : -50000 ≤ bath ∧ bath ≤ 200000 := by simpa [okT] using hb
  have HAF := hid (fun W h => rafter_new c (.slice xa S.x.1.length xc) S.x.1 S.x.2 bath W hc hG.warm hbb.1 hbb.2 h)
  have HRK := hid hR
  have hGT := hG.tick (f := K.f) (g := K.u) hc hb
  have hlx : S.x.1.length = c.P := (bodyV_iff.1 hG.down.body).1
  have hld : S.d.length = c.P := hG.down.len
  have hlu : S.u.length = c.P := hG.up.len
  have hrs : rsT c K.f K.u S bath = ⟨tickS c (S.x.1, S.x.2) bath, addD K.f S.d (tickS c (S.x.1, S.x.2) bath).1, addD K.u S.u (tickS c (S.x.1, S.x.2) bath).1, Lt.cutN S.k (K.f (minT (tickS c (S.x.1, S.x.2) bath).1))⟩ := rfl
  have hlt : (tickS c (S.x.1, S.x.2) bath).1.length = c.P := (bodyV_iff.1 hGT.down.body).1
  have HBD := hid (show ∀ t ∈ (tickS c (S.x.1, S.x.2) bath).1, -50000 ≤ t ∧ t ≤ 200000 from hGT.warm.bd)
  have HDL := hid (fun k (h : k < S.d.length) => hG.down.le _ (List.getElem_mem h))
  have HUL := hid (fun k (h : k < S.u.length) => hG.up.le _ (List.getElem_mem h))
  have HKL := hid hG.kle
  have HPB := hid hc.p
  have HCC := hid hc
  rw [hrs]
  clear hR hbb hK hrs hGT hG hb hc
  generalize tickS c (S.x.1, S.x.2) bath = TB at *
  rw [← hlx] at hld hlu hlt HPB
  have hN1 : 1 ≤ S.x.1.length := HPB.out.1
  have HL := hid (And.intro hlx (And.intro hld (And.intro hlu hlt)))
  clear hlx hld hlu hlt hN1
  go_enter Tryz.func125, Tryz.ntmps125
  go_wp2_with fail
  refine (HAF.out _ (HRK.out.tx.still HT.out.still).row).mono ?_
  rintro e w1 ⟨ya, yc, rfl, hr1, hfr, hb1⟩
  have HT := hid (HT.out.below hb1)
  clear hb1 x7 x8
  have hn : Hid (K.gD < w.heap.size ∧ K.gU < w.heap.size) := ⟨HN.out.2.1, HN.out.2.2.1⟩
  have y7 := cell_of_row _ _ 7 _ _ _ HT.out.box
  have y8 := cell_of_row _ _ 8 _ _ _ HT.out.box
  have f7 := frozen_of_row _ _ 7 _ _ HT.out.box
  have f8 := frozen_of_row _ _ 8 _ _ HT.out.box
  simp only [List.getElem?_toArray, List.getElem?_cons_zero, List.getElem?_cons_succ] at y7 y8
  have HT := hid ((HT.out.put hn.out (Nat.le_refl _) 7 (.slice ya S.x.1.length yc)).put hn.out (Nat.le_refl _) 8 (.bool TB.2))
  have HT : Hid (TkL K w.heap.size (rnA c K (.slice ya S.x.1.length yc) TB.2 (.slice da S.d.length dc) (.slice ua S.u.length uc) S.k) #[.int .i64 0, .int .i64 0, .int .i64 0, .int .i64 0, .int .i64 0, .int .i64 0, .int .i64 0, .slice none 0 0, .bool false, .pointer none, .slice none 0 0, .slice none 0 0, .int .i64 0] w _) := HT
  have HW1 := hid (rowI_put (b := w.heap.size) (i := 8) (base := w.heap.size + 2) (.bool TB.2) (rowI_put (b := w.heap.size) (i := 7) (base := w.heap.size + 2) (.slice ya S.x.1.length yc) hr1 (fun ad e => by have := hfr ad e; simpa using this) (by omega)) (fun ad e => by have := hfr ad e; simpa using this) (by omega))
  have HFR : Hid (∀ ad, ya = some ad → w.heap.size + 2 ≤ ad.block) := fun ad e => by have := hfr ad e; simpa using this
  clear hr1 hfr
  go_upto_region 2 with fail
  generalize hW : (w1.setCell ⟨w.heap.size, 7, none⟩ (.slice ya S.x.1.length yc)).setCell ⟨w.heap.size, 8, none⟩ (.bool TB.2) = W1 at *
  clear hW y7 y8 f7 f8
  go_upto_region 3 with fail
  obtain ⟨B1, hB1⟩ : ∃ B1, W1.heap.size = B1 := ⟨_, rfl⟩
  have HB1 : Hid (w.heap.size + 1 < B1) := by rw [← hB1]; exact HT.out.lt
  have HTO := hid (twoO_new (W := W1))
  have hba : Below W1.heap.size W1 ((W1.alloc (.cells #[] 3)).alloc (.cells #[] 3)) := ((Below.refl _ _).alloc (Nat.le_refl _) _).alloc (by simp) _
  have HK2 := hid (Kq.below HT.out.kept hba)
  have HS2 := hid (Lt.Still.below (gD := K.gD) (gU := K.gU) hba)
  rw [hB1] at HTO
  simp only [hB1]
  have HSZ := hid hB1
  generalize (W1.alloc (.cells #[] 3)).alloc (.cells #[] 3) = W2 at *
  clear hba hB1
  have HTT := hid (HT.out.at hn.out HK2.out HS2.out)
  obtain ⟨x7, x8, x9, x10, x11, x12⟩ := HTT.out.x
  have HRX := hid (rowK_from HW1.out HFR.out (by have := hn.out; omega) (by have := hn.out; omega) (gD := K.gD) (gU := K.gU))
  have hN1 : 1 ≤ S.x.1.length := HPB.out.1
  have hlt := HL.out.2.2.2
  obtain ⟨gy, oy, hvy, hcy⟩ := HRX.out.cells (by omega)
  obtain ⟨gd, od, hvd, hcd⟩ := (HRK.out.td.still HT.out.still).cellsN (by rw [HL.out.2.1]; exact hN1)
  obtain ⟨gu, ou, hvu, hcu⟩ := (HRK.out.tu.still HT.out.still).cellsN (by rw [HL.out.2.2.1]; exact hN1)
  subst hvy
  subst hvd
  subst hvu
  have HCY := hid hcy
  have HCD := hid hcd
  have HCU := hid hcu
  clear hcy hcd hcu
  have cy0 := HCY.out W2 HS2.out 0 (by omega)
  rw [Nat.add_zero] at cy0
  have hb0 : (bestT ltB TB.1 0).2 = TB.1[0]'(by omega) := getD_at (by omega)
  rw [← hb0] at cy0
  clear hb0
  have hN0 : 0 < S.x.1.length := by omega
  clear hlt hN1
  obtain ⟨i0, hi, hz0, hz1, hz2⟩ := info_parts infoQc
  go_wp2_with fail
  go_loopw [5, 6, 7, 8] (fun u v m i wr => ∃ k : Nat, k ≤ S.x.1.length ∧ i = .int .i64 (k : Int) ∧ ∃ mm : Int, m = .int .i64 mm ∧ Hid (mm = (bestT ltB TB.1 k).2) ∧ Hid (TwoO B1 u v ((ivN (addD K.f S.d TB.1)).take k) ((ivN (addD K.u S.u TB.1)).take k) wr) ∧ Hid (K.at wr) ∧ Hid (Lt.Still K.gD K.gU W1 wr)) (fun _ _ _ i _ => S.x.1.length - (intOf i).toNat)
  case atStart => exact ⟨0, Nat.zero_le _, rfl, _, rfl, rfl, HTO, HK2, HS2⟩
  case round =>
    obtain ⟨k, hk, rfl, mm, rfl, HMM, HO, HKr, HSr⟩ := hrel
    clear x7 x8 x9 x10 x11 x12 cy0 HTO HK2 HS2 HTT
    have HTr := hid (HT.out.at hn.out HKr.out HSr.out)
    obtain ⟨x7, x8, x9, x10, x11, x12⟩ := HTr.out.x
    obtain ⟨⟨a5, c5, rfl⟩, ⟨a6, c6, rfl⟩⟩ := And.intro (own_shapeP HO.out.a) (own_shapeP HO.out.b)
    by_cases hlt : k < S.x.1.length
    · have hlt' : (k : Int) < S.x.1.length := by omega
      have hkT : k < TB.1.length := by rw [HL.out.2.2.2]; exact hlt
      have hkd : k < S.d.length := by rw [HL.out.2.1]; exact hlt
      have hku : k < S.u.length := by rw [HL.out.2.2.1]; exact hlt
      have ey := HCY.out wr HSr.out k hkT
      have HBS := hid (best2_step hkT)
      have HFD := hid (ivN_take (f := K.f) hkd hkT)
      have HFU := hid (ivN_take (f := K.u) hku hkT)
      have ht := HBD.out _ (List.getElem_mem hkT)
      have HCYk := hid (fun W' h => HCY.out W' h k hkT)
      have HCDk := hid (fun W' h => HCD.out W' h k hkd)
      have HCUk := hid (fun W' h => HCU.out W' h k hku)
      have hdl := HDL.out k hkd
      have hul := HUL.out k hku
      generalize TB.1[k] = t at *
      generalize S.d[k] = dk at *
      generalize S.u[k] = uk at *
      have HLT := hid hlt
      clear hlt hkT hkd hku
      have hft : K.f t ≤ 10000000000000000 := Lt.dn_le K.r K.Z t (by have := hV.z1; omega)
      have hut : K.u t ≤ 10000000000000001 := Lt.up_le K.r K.Z t (by have := hV.z1; omega)
      go_wp2_with fail
      have HKd := hid (Kq.below HKr.out (Below.refl _ _).drew)
      go_region_held3 (fun w' => w'.cell? ⟨w.heap.size, 7, none⟩ = some (.slice (some ⟨gy, oy, none⟩) S.x.1.length yc) ∧ w'.cell? ⟨w.heap.size, 9, none⟩ = some (.pointer (some ⟨K.b, 0, none⟩)) ∧ w'.cell? ⟨gy, oy + k, none⟩ = some (.int .i64 t))
        (first | exact ⟨x7, x9, ey⟩ | exact ⟨z7, z9, zy⟩)
        (first | (go_at_call 153; refine (at_k hV t _ HKd.out ht.1 ht.2).mono ?_; rintro e w3 ⟨rfl, hk3, hs3⟩; have HK3 := hid hk3; have HS3 := hid (HSr.out.trans ((Lt.Still.below (Below.refl _ _).drew).trans hs3)); have HO3 := hid ((HO.out.still (gD := K.gD) (gU := K.gU) (Lt.Still.below (Below.refl _ _).drew) (by have := hn.out; have := HB1.out; omega) (by have := hn.out; have := HB1.out; omega)).still hs3 (by have := hn.out; have := HB1.out; omega) (by have := hn.out; have := HB1.out; omega)); have HTr := hid (HT.out.at hn.out HK3.out HS3.out); obtain ⟨z7, _, z9, _⟩ := HTr.out.x; have zy := HCYk.out w3 HS3.out))
      clear z7 z9 zy x7 x8 x9 x10 x11 x12 ey HKd
      rename_i hheld
      clear hheld
      generalize K.f t = fx at *
      generalize K.u t = ux at *
      have hfx : fx ≤ 1000000000000000000 := by omega
      have hux : ux ≤ 1000000000000000000 := by omega
      have HFX := hid hfx
      have HUX := hid hux
      have HBD2 := hid (And.intro hdl hul)
      clear hft hut ht
      have HLF := hid (show ((ivN (addD K.f S.d TB.1)).take k).length ≤ 1000 by rw [List.length_take]; have := HPB.out.2; have := HLT.out; omega)
      have HLU := hid (show ((ivN (addD K.u S.u TB.1)).take k).length ≤ 1000 by rw [List.length_take]; have := HPB.out.2; have := HLT.out; omega)
      generalize (ivN (addD K.f S.d TB.1)).take k = FF at *
      generalize (ivN (addD K.u S.u TB.1)).take k = FU at *
      have z10 := HTr.out.x.2.2.2.1
      have zd := HCDk.out w3 HS3.out
      have hkd' : (k : Int) < S.d.length := by rw [HL.out.2.1]; exact hlt'
      have hku' : (k : Int) < S.u.length := by rw [HL.out.2.2.1]; exact hlt'
      have HTL1 : Hid ((ivs FF).length + [((Lt.cutN dk fx : Nat) : Int)].length ≤ 1000000) := by refine hid ?_; rw [ivs_len]; have := HLF.out; simp; omega
      have HTB1 : Hid (B1 ≤ (w3.alloc (.cells #[.int .i64 ((Lt.cutN dk fx : Nat) : Int)] 3)).heap.size) := by refine hid ?_; have := HS3.out.size; have := HSZ.out; simp; omega
      have hNb := HPB.out.2
      have HN2 := hid (show K.gD < B1 ∧ K.gU < B1 by have := hn.out; have := HB1.out; omega)
      have z11 := HTr.out.x.2.2.2.2.1
      have HTL2 : Hid ((ivs FU).length + [((Lt.cutN uk ux : Nat) : Int)].length ≤ 1000000) := by refine hid ?_; rw [ivs_len]; have := HLU.out; simp; omega
      by_cases he : t < mm
      · have he' := he
        rw [HMM.out] at he'
        rw [if_pos he'] at HBS
        clear he'
        go_wp2_with (first
          | (go_at_call 154; refine (Lt.cut_any _ _ _ (by assumption) (by assumption)).mono ?_; rintro e w4 ⟨rfl, rfl⟩)
          | (at_builtin; refine wpList_app rfl (.tmp 47) (.tmp 55) 28 rfl B1 3 i0 Tryz.underlying28 hi hz0 hz1 hz2 _ (ivs FF) rfl (HO3.out.alloc _).a _ [((Lt.cutN dk fx : Nat) : Int)] rfl (by exact (one_row _ _ rfl).src) HTL1.out HTB1.out ?_; intro v3 w6 hA1; have HO6 := hid ((HO3.out.alloc _).appA hA1); have HK6 := hid (kq_app (Kq.below HK3.out ((Below.refl _ _).alloc (Nat.le_refl _) _)) HN2.out.1 HN2.out.2 (HO3.out.alloc _).a hA1); have HS6 := hid (still_app (HS3.out.trans (Lt.Still.below ((Below.refl _ _).alloc (Nat.le_refl _) _))) (Nat.le_of_eq HSZ.out) (HO3.out.alloc _).a hA1); obtain ⟨a3, c3, rfl⟩ := own_shapeP HO6.out.a; clear hA1; have y11 := (HT.out.at hn.out HK6.out HS6.out).x.2.2.2.2.1; have yu := HCUk.out w6 HS6.out)
          | (at_builtin; refine wpList_app rfl (.tmp 57) (.tmp 65) 28 rfl B1 3 i0 Tryz.underlying28 hi hz0 hz1 hz2 _ (ivs FU) rfl (HO6.out.alloc _).b _ [((Lt.cutN uk ux : Nat) : Int)] rfl (by exact (one_row _ _ rfl).src) HTL2.out (by have := HS6.out.size; have := HSZ.out; simp; omega) ?_; intro v4 w9 hA2; have HO9 := hid ((HO6.out.alloc _).appB hA2); have HK9 := hid (kq_app (Kq.below HK6.out ((Below.refl _ _).alloc (Nat.le_refl _) _)) HN2.out.1 HN2.out.2 (HO6.out.alloc _).b hA2); have HS9 := hid (still_app (HS6.out.trans (Lt.Still.below ((Below.refl _ _).alloc (Nat.le_refl _) _))) (Nat.le_of_eq HSZ.out) (HO6.out.alloc _).b hA2); obtain ⟨a4, c4, rfl⟩ := own_shapeP HO9.out.b; clear hA2; have q7 := (HT.out.at hn.out HK9.out HS9.out).x.1; have qy := HCYk.out w9 HS9.out))
        go_roundw
        case rel => exact ⟨k + 1, HLT.out, by go_num, t, rfl, HBS.out.symm, by rw [HFD.out, HFU.out]; exact HO9, HK9, HS9⟩
        case measure => have := HLT.out; simp [intOf]; omega
      · have he' := he
        rw [HMM.out] at he'
        rw [if_neg he'] at HBS
        clear he'
        go_wp2_with (first
          | (go_at_call 154; refine (Lt.cut_any _ _ _ (by assumption) (by assumption)).mono ?_; rintro e w4 ⟨rfl, rfl⟩)
          | (at_builtin; refine wpList_app rfl (.tmp 47) (.tmp 55) 28 rfl B1 3 i0 Tryz.underlying28 hi hz0 hz1 hz2 _ (ivs FF) rfl (HO3.out.alloc _).a _ [((Lt.cutN dk fx : Nat) : Int)] rfl (by exact (one_row _ _ rfl).src) HTL1.out HTB1.out ?_; intro v3 w6 hA1; have HO6 := hid ((HO3.out.alloc _).appA hA1); have HK6 := hid (kq_app (Kq.below HK3.out ((Below.refl _ _).alloc (Nat.le_refl _) _)) HN2.out.1 HN2.out.2 (HO3.out.alloc _).a hA1); have HS6 := hid (still_app (HS3.out.trans (Lt.Still.below ((Below.refl _ _).alloc (Nat.le_refl _) _))) (Nat.le_of_eq HSZ.out) (HO3.out.alloc _).a hA1); obtain ⟨a3, c3, rfl⟩ := own_shapeP HO6.out.a; clear hA1; have y11 := (HT.out.at hn.out HK6.out HS6.out).x.2.2.2.2.1; have yu := HCUk.out w6 HS6.out)
          | (at_builtin; refine wpList_app rfl (.tmp 57) (.tmp 65) 28 rfl B1 3 i0 Tryz.underlying28 hi hz0 hz1 hz2 _ (ivs FU) rfl (HO6.out.alloc _).b _ [((Lt.cutN uk ux : Nat) : Int)] rfl (by exact (one_row _ _ rfl).src) HTL2.out (by have := HS6.out.size; have := HSZ.out; simp; omega) ?_; intro v4 w9 hA2; have HO9 := hid ((HO6.out.alloc _).appB hA2); have HK9 := hid (kq_app (Kq.below HK6.out ((Below.refl _ _).alloc (Nat.le_refl _) _)) HN2.out.1 HN2.out.2 (HO6.out.alloc _).b hA2); have HS9 := hid (still_app (HS6.out.trans (Lt.Still.below ((Below.refl _ _).alloc (Nat.le_refl _) _))) (Nat.le_of_eq HSZ.out) (HO6.out.alloc _).b hA2); obtain ⟨a4, c4, rfl⟩ := own_shapeP HO9.out.b; clear hA2; have q7 := (HT.out.at hn.out HK9.out HS9.out).x.1; have qy := HCYk.out w9 HS9.out))
        go_roundw
        case rel => exact ⟨k + 1, HLT.out, by go_num, mm, rfl, by rw [HBS.out]; exact HMM, by rw [HFD.out, HFU.out]; exact HO9, HK9, HS9⟩
        case measure => have := HLT.out; simp [intOf]; omega
    · obtain rfl : k = S.x.1.length := by omega
      have hF1 : (ivN (addD K.f S.d TB.1)).take S.x.1.length = ivN (addD K.f S.d TB.1) := List.take_of_length_le (by rw [ivN_len, addD_len (by rw [HL.out.2.1, HL.out.2.2.2]), HL.out.2.1]; exact Nat.le_refl _)
      have hF2 : (ivN (addD K.u S.u TB.1)).take S.x.1.length = ivN (addD K.u S.u TB.1) := List.take_of_length_le (by rw [ivN_len, addD_len (by rw [HL.out.2.2.1, HL.out.2.2.2]), HL.out.2.2.1]; exact Nat.le_refl _)
      rw [hF1, hF2] at HO ⊢
      have HG1 := hid (addD_len (f := K.f) (S := S.d) (T := TB.1) (by rw [HL.out.2.1, HL.out.2.2.2]))
      have HG2 := hid (addD_len (f := K.u) (S := S.u) (T := TB.1) (by rw [HL.out.2.2.1, HL.out.2.2.2]))
      have hmm : mm = minT TB.1 := by rw [HMM.out]; unfold minT; rw [HL.out.2.2.2]
      have hbm := HBD.out _ (minT_mem TB.1 (by rw [HL.out.2.2.2]; exact HPB.out.1))
      rw [← hmm] at hbm ⊢
      have hks := HKL.out
      have hfm : K.f mm ≤ 1000000000000000000 := Nat.le_trans (Lt.dn_le K.r K.Z mm (by have := hV.z1; omega)) (by decide)
      have HN2 := hid (show K.gD < B1 ∧ K.gU < B1 by have := hn.out; have := HB1.out; omega)
      have HFM := hid (show K.f (minT TB.1) = K.f mm by rw [hmm])
      generalize addD K.f S.d TB.1 = AD at *
      generalize addD K.u S.u TB.1 = AU at *
      clear hF1 hF2 hmm HMM hlt
      go_upto_region 13 with (first
        | (go_at_call 153; refine (at_k hV mm _ HKr.out hbm.1 hbm.2).mono ?_; rintro e w3 ⟨rfl, hk3, hs3⟩; have HK3 := hid hk3; have HS3 := hid (HSr.out.trans hs3); have HO3 := hid (HO.out.still hs3 HN2.out.1 HN2.out.2); clear hk3 hs3))
      clear x7 x8 x9 x10 x11 x12 HTr
      have HT3 := hid (HT.out.at hn.out HK3.out HS3.out)
      obtain ⟨x7, x8, x9, x10, x11, x12⟩ := HT3.out.x
      have f10 := frozen_of_row _ _ 10 _ _ HT3.out.box
      have f11 := frozen_of_row _ _ 11 _ _ HT3.out.box
      have f12 := frozen_of_row _ _ 12 _ _ HT3.out.box
      generalize K.f mm = fm at *
      go_upto_region 14 with (first
        | (go_at_call 154; refine (Lt.cut_any _ _ _ (by assumption) (by assumption)).mono ?_; rintro e w4 ⟨rfl, rfl⟩))
      have HT4 := hid (((HT3.out.put hn.out (Nat.le_refl _) 10 (.slice a5 (ivs (ivN AD)).length c5)).put hn.out (Nat.le_refl _) 11 (.slice a6 (ivs (ivN AU)).length c6)).put hn.out (Nat.le_refl _) 12 (.int .i64 ((Lt.cutN S.k fm : Nat) : Int)))
      rw [rnA_d] at HT4
      have HA4 := hid (own_set (m := w.heap.size) (j := 12) (u := .int .i64 ((Lt.cutN S.k fm : Nat) : Int)) (own_set (m := w.heap.size) (j := 11) (u := .slice a6 (ivs (ivN AU)).length c6) (own_set (m := w.heap.size) (j := 10) (u := .slice a5 (ivs (ivN AD)).length c5) HO3.out.a (by have := HB1.out; omega)) (by have := HB1.out; omega)) (by have := HB1.out; omega))
      have HU4 := hid (own_set (m := w.heap.size) (j := 12) (u := .int .i64 ((Lt.cutN S.k fm : Nat) : Int)) (own_set (m := w.heap.size) (j := 11) (u := .slice a6 (ivs (ivN AU)).length c6) (own_set (m := w.heap.size) (j := 10) (u := .slice a5 (ivs (ivN AD)).length c5) HO3.out.b (by have := HB1.out; omega)) (by have := HB1.out; omega)) (by have := HB1.out; omega))
      have HX4 := hid (rowI_put (b := w.heap.size) (i := 12) (base := w.heap.size + 2) (.int .i64 ((Lt.cutN S.k fm : Nat) : Int)) (rowI_put (b := w.heap.size) (i := 11) (base := w.heap.size + 2) (.slice a6 (ivs (ivN AU)).length c6) (rowI_put (b := w.heap.size) (i := 10) (base := w.heap.size + 2) (.slice a5 (ivs (ivN AD)).length c5) (HRX.out.still HS3.out).row HFR.out (by omega)) HFR.out (by omega)) HFR.out (by omega))
      generalize hW : (((w3.setCell ⟨w.heap.size, 10, none⟩ (.slice a5 (ivs (ivN AD)).length c5)).setCell ⟨w.heap.size, 11, none⟩ (.slice a6 (ivs (ivN AU)).length c6)).setCell ⟨w.heap.size, 12, none⟩ (.int .i64 ((Lt.cutN S.k fm : Nat) : Int))) = W4 at *
      clear hW x7 x8 x9 x10 x11 x12 f10 f11 f12 HT3
      rw [ivs_len, ivN_len, HG1.out] at HT4 HA4
      rw [ivs_len, ivN_len, HG2.out] at HT4 HU4
      go_wp2_with (first
        | (refine wpList_load_row rfl 136 _ rfl w.heap.size rfl 136 _ (0, 0) _ HT4.out.box Tryz.underlying136 rfl infoRn ?_)
        | (refine wpList_store_row rfl 136 _ _ rfl (w.heap.size + 1) _ rfl rfl 136 _ HT4.out.res infoRn rfl rnA_one ?_; generalize hW : World.setRow _ _ _ = W5; have HE := hid (HT4.out.lay hn.out (Nat.le_refl _) hW); clear hW))
      refine bodyPost_ret (results_cell_row Tryz.results125 _ _ (w.heap.size + 1) 136 _ (0, 0) _ rfl HE.out.1 Tryz.underlying136 rfl infoRn) rfl ?_
      have hgs : ∀ g, w.heap.size + 2 ≤ g → W5.heap[g]? = W4.heap[g]? := fun g hg => HE.out.2.2.2 g (by omega)
      have hB := HB1.out
      have hnn := hn.out
      have hx5 := rowI_same2 HX4.out HFR.out hgs
      have hd4 := own_from HA4.out
      have hu4 := own_from HU4.out
      have hd5 := rowI_same2 (own_rowI (l := ivN AD) (by rw [ivN_len, HG1.out]; exact HA4.out) (by rw [ivN_len, HG1.out, HL.out.2.1]; have := HPB.out.2; omega)) hd4 (fun g hg => hgs g (by omega))
      have hu5 := rowI_same2 (own_rowI (l := ivN AU) (by rw [ivN_len, HG2.out]; exact HU4.out) (by rw [ivN_len, HG2.out, HL.out.2.2.1]; have := HPB.out.2; omega)) hu4 (fun g hg => hgs g (by omega))
      have e1 := HL.out.2.2.2
      have e2 := HG1.out
      have e3 := HG2.out
      have e4 := HFM.out
      refine ⟨some ⟨gy, oy, none⟩, yc, a5, c5, a6, c6, ?_, ⟨?_, ?_, ?_⟩, ⟨fun ad e => by have := HFR.out ad e; omega, fun ad e => by have := hd4 ad e; omega, fun ad e => by have := hu4 ad e; omega⟩, HE.out.2.1, HE.out.2.2.1⟩
      · simp only [rnA, e1, e2, e3, e4]
      · simp only [e1]; exact rowK_from hx5 HFR.out (by omega) (by omega)
      · simp only [e2]; exact rowK_from hd5 hd4 (by omega) (by omega)
      · simp only [e3]; exact rowK_from hu5 hu4 (by omega) (by omega)
end Go.Proofs.YtihbjimnjhfpeaaGreat

/- Walk of the reference's through: contract. -/
namespace Go.Proofs.YtihbjimnjhfpeaaGreat
open Go.RowKit Go.Lib

theorem TkL.x13 {c : Cn} {K : Kq} {n : Nat} {vx vd vu : Value} {br : Bool} {k : Nat} {R : Array Value} {w W : World} (h : TkL K n (rnA c K vx br vd vu k) R w W) :
    W.cell? ⟨n, 0, none⟩ = some (.int .i64 (c.R : Int)) ∧ W.cell? ⟨n, 1, none⟩ = some (.int .i64 (c.L : Int)) ∧ W.cell? ⟨n, 2, none⟩ = some (.int .i64 c.A) ∧ W.cell? ⟨n, 3, none⟩ = some (.int .i64 c.B) ∧ W.cell? ⟨n, 4, none⟩ = some (.int .i64 c.K) ∧ W.cell? ⟨n, 5, none⟩ = some (.int .i64 c.A2) ∧ W.cell? ⟨n, 6, none⟩ = some (.int .i64 c.B2) ∧
    W.cell? ⟨n, 7, none⟩ = some vx ∧ W.cell? ⟨n, 8, none⟩ = some (.bool br) ∧ W.cell? ⟨n, 9, none⟩ = some (.pointer (some ⟨K.b, 0, none⟩)) ∧ W.cell? ⟨n, 10, none⟩ = some vd ∧ W.cell? ⟨n, 11, none⟩ = some vu ∧ W.cell? ⟨n, 12, none⟩ = some (.int .i64 (k : Nat)) :=
  ⟨cell_of_row _ _ 0 _ _ _ h.box, cell_of_row _ _ 1 _ _ _ h.box, cell_of_row _ _ 2 _ _ _ h.box, cell_of_row _ _ 3 _ _ _ h.box, cell_of_row _ _ 4 _ _ _ h.box, cell_of_row _ _ 5 _ _ _ h.box, cell_of_row _ _ 6 _ _ _ h.box, h.x⟩
/-- The run's box is laid as a whole. -/
theorem TkL.lay0 {K : Kq} {n : Nat} {A R cs : Array Value} {w W W' : World} (h : TkL K n A R w W) (hn : K.gD < n ∧ K.gU < n) (hw : w.heap.size ≤ n) (hW : W.setRow n cs = W') :
    TkL K n cs R w W' ∧ ∀ g, g ≠ n → W'.heap[g]? = W.heap[g]? := by
  subst hW
  have ho : ∀ g, g ≠ n → (W.setRow n cs).heap[g]? = W.heap[g]? := fun g hg => setRow_other _ _ _ _ hg
  have hg : W.grownBy (W.setRow n cs) (some n) := ⟨rfl, rfl, rfl, by simp, fun k _ hk => ho k (fun e => hk (by rw [e]))⟩
  exact ⟨⟨Kq.grown (base := n) h.kept hg (fun j e => by cases e; exact Nat.le_refl _) hn, ⟨Nat.le_trans h.still.size hg.size, fun j hj h1 h2 => (ho j (by omega)).trans (h.still.block j hj h1 h2)⟩, setRow_heap _ _ _ _ _ _ h.box, (ho _ (by omega)).trans h.res⟩, ho⟩
theorem rowK_same {gD gU base n cap : Nat} {W W' : World} {a : Option Addr} {l : List Int} (h : RowK gD gU W (.slice a n cap) l) (ha : ∀ ad, a = some ad → base ≤ ad.block) (hs : ∀ g, base ≤ g → W'.heap[g]? = W.heap[g]?) (hD : gD < base) (hU : gU < base) : RowK gD gU W' (.slice a n cap) l :=
  rowK_from (rowI_same2 h.row ha hs) ha hD hU
theorem RowsK.same {gD gU base : Nat} {W W' : World} {S : Rs} {xa da ua : Option Addr} {xc dc uc : Nat} (h : RowsK gD gU W S xa xc da dc ua uc) (hf : RowsF base xa da ua) (hs : ∀ g, base ≤ g → W'.heap[g]? = W.heap[g]?) (hD : gD < base) (hU : gU < base) : RowsK gD gU W' S xa xc da dc ua uc :=
  ⟨rowK_same h.tx hf.fx hs hD hU, rowK_same h.td hf.fd hs hD hU, rowK_same h.tu hf.fu hs hD hU⟩
theorem RowK.at {gD gU : Nat} {W : World} {a : Option Addr} {n cap : Nat} {l : List Int} (h : RowK gD gU W (.slice a n cap) l) {k : Nat} (hk : k < l.length) :
    ∃ b o, a = some ⟨b, o, none⟩ ∧ ∀ W', Lt.Still gD gU W W' → W'.cell? ⟨b, o + k, none⟩ = some (.int .i64 l[k]) := by
  obtain ⟨b, o, h1, h2⟩ := h.cells (by omega)
  exact ⟨b, o, h1, fun W' hs => h2 W' hs k hk⟩

/-- What the round of a run stands on: its box's cells, and the bath's. -/
def RawT (c : Cn) (K : Kq) (n : Nat) (xa : Option Addr) (xn xc : Nat) (br : Bool) (da : Option Addr) (dn dc : Nat) (ua : Option Addr) (un uc : Nat) (sk : Nat) (R : Array Value) (w : World) (bb bo : Nat) (t : Int) (W : World) : Prop :=
  (W.cell? ⟨n, 0, none⟩ = some (.int .i64 (c.R : Int)) ∧ W.cell? ⟨n, 1, none⟩ = some (.int .i64 (c.L : Int)) ∧ W.cell? ⟨n, 2, none⟩ = some (.int .i64 c.A) ∧ W.cell? ⟨n, 3, none⟩ = some (.int .i64 c.B) ∧ W.cell? ⟨n, 4, none⟩ = some (.int .i64 c.K) ∧ W.cell? ⟨n, 5, none⟩ = some (.int .i64 c.A2) ∧ W.cell? ⟨n, 6, none⟩ = some (.int .i64 c.B2) ∧
    W.cell? ⟨n, 7, none⟩ = some (.slice xa xn xc) ∧ W.cell? ⟨n, 8, none⟩ = some (.bool br) ∧ W.cell? ⟨n, 9, none⟩ = some (.pointer (some ⟨K.b, 0, none⟩)) ∧ W.cell? ⟨n, 10, none⟩ = some (.slice da dn dc) ∧ W.cell? ⟨n, 11, none⟩ = some (.slice ua un uc) ∧ W.cell? ⟨n, 12, none⟩ = some (.int .i64 (sk : Nat))) ∧
  W.cell? ⟨bb, bo, none⟩ = some (.int .i64 t) ∧ TkL K n (rnA c K (.slice xa xn xc) br (.slice da dn dc) (.slice ua un uc) sk) R w W
/-- Rows that two boxes spare. -/
def RowsO (gD gU n : Nat) (W : World) (S : Rs) (xa : Option Addr) (xc : Nat) (da : Option Addr) (dc : Nat) (ua : Option Addr) (uc : Nat) : Prop :=
  ∀ W', (∀ g, g ≠ n → g ≠ n + 1 → W'.heap[g]? = W.heap[g]?) → W.heap.size ≤ W'.heap.size → RowsK gD gU W' S xa xc da dc ua uc
theorem RowsK.off {gD gU n : Nat} {W : World} {S : Rs} {xa da ua : Option Addr} {xc dc uc : Nat} (h : RowsK gD gU W S xa xc da dc ua uc) (hf : RowsF (n + 2) xa da ua) (hD : gD < n) (hU : gU < n) : RowsO gD gU n W S xa xc da dc ua uc :=
  fun _ hs _ => h.same hf (fun g hg => hs g (by omega) (by omega)) (by omega) (by omega)
theorem RowsK.start {gD gU : Nat} {w W : World} {S : Rs} {xa da ua : Option Addr} {xc dc uc : Nat} (h : RowsK gD gU w S xa xc da dc ua uc) (hs : Lt.Still gD gU w W) : RowsO gD gU w.heap.size W S xa xc da dc ua uc :=
  fun _ h1 h2 => h.still ⟨Nat.le_trans hs.size h2, fun j hj a b => (h1 j (by omega) (by omega)).trans (hs.block j hj a b)⟩
set_option maxRecDepth 100000 in
set_option maxHeartbeats 4000000 in
theorem xthrough_any (c : Cn) (K : Kq) (S : Rs) (v : Value) (l : List Int) (xa : Option Addr) (xc : Nat) (da : Option Addr) (dc : Nat) (ua : Option Addr) (uc : Nat) (w : World) (hc : c.Ok) (hV : K.V) (hG : GoodR c S) (hb : okL l = true) (hR : RowsK K.gD K.gU w S xa xc da dc ua uc) (hK : K.at w) (hl : RowK K.gD K.gU w v l) (hlen : l.length ≤ 100000) :
    Calls Tryz.prog 81 #[.agg #[.int .i64 (c.R : Int), .int .i64 (c.L : Int), .int .i64 c.A, .int .i64 c.B, .int .i64 c.K, .int .i64 c.A2, .int .i64 c.B2, .slice xa S.x.1.length xc, .bool S.x.2, .pointer (some ⟨K.b, 0, none⟩), .slice da S.d.length dc, .slice ua S.u.length uc, .int .i64 (S.k : Nat)], v] w (RnP c K (rsR c K.f K.u S l) w) := by
  have HN := hid (Kq.lt hK)
  have hn : Hid (K.gD < w.heap.size ∧ K.gU < w.heap.size) := ⟨HN.out.2.1, HN.out.2.2.1⟩
  have HT := hid (tkL_start (A := #[.int .i64 (c.R : Int), .int .i64 (c.L : Int), .int .i64 c.A, .int .i64 c.B, .int .i64 c.K, .int .i64 c.A2, .int .i64 c.B2, .slice xa S.x.1.length xc, .bool S.x.2, .pointer (some ⟨K.b, 0, none⟩), .slice da S.d.length dc, .slice ua S.u.length uc, .int .i64 (S.k : Nat)]) (R := #[.int .i64 0, .int .i64 0, .int .i64 0, .int .i64 0, .int .i64 0, .int .i64 0, .int .i64 0, .slice none 0 0, .bool false, .pointer none, .slice none 0 0, .slice none 0 0, .int .i64 0]) hK)
  obtain ⟨ba, bc, rfl⟩ := hl.row.shape
  have HL := hid hl
  have HR := hid (hR.start HT.out.still)
  have HB := hid hb
  clear hR hK hl hb
  go_enter Tryz.func81, Tryz.ntmps81
  go_wp2_with fail
  go_loopw [5] (fun i wr => ∃ k : Nat, k ≤ l.length ∧ i = .int .i64 (k : Int) ∧ ∃ S' xa xc da dc ua uc, Hid (S' = rsR c K.f K.u S (l.take k)) ∧ Hid (TkL K w.heap.size (rnA c K (.slice xa S'.x.1.length xc) S'.x.2 (.slice da S'.d.length dc) (.slice ua S'.u.length uc) S'.k) #[.int .i64 0, .int .i64 0, .int .i64 0, .int .i64 0, .int .i64 0, .int .i64 0, .int .i64 0, .slice none 0 0, .bool false, .pointer none, .slice none 0 0, .slice none 0 0, .int .i64 0] w wr) ∧ Hid (RowsO K.gD K.gU w.heap.size wr S' xa xc da dc ua uc)) (fun i _ => l.length - (intOf i).toNat)
  case atStart => exact ⟨0, Nat.zero_le _, rfl, S, xa, xc, da, dc, ua, uc, rfl, HT, HR⟩
  case round =>
    obtain ⟨k, hk, rfl, S', ya, yc, ea, ec, ga, gc, HS, HTr, HRo⟩ := hrel
    have HRr := hid (HRo.out wr (fun _ _ _ => rfl) (Nat.le_refl _))
    by_cases hlt : k < l.length
    · have hlt' : (k : Int) < l.length := by omega
      obtain ⟨bb, bo, rfl, hcb⟩ := HL.out.at hlt
      have hot := okL_all HB.out k hlt
      have HSU := hid (rsR_succ c K.f K.u S l k hlt)
      have HGk : Hid (GoodR c S') := by refine hid ?_; rw [HS.out]; exact hG.run hc (okL_take HB.out k)
      rw [← HS.out] at HSU
      generalize l[k] = t at *
      have HCB := hid hcb
      have HOT := hid hot
      have HLT := hid hlt
      clear hcb hot hlt
      have HTK := hid (fun W h1 h2 => xtick_any c K S' t ya yc ea ec ga gc W hc hV HGk.out HOT.out h1 h2)
      have HTD := hid (HTr.out.below (Below.refl _ wr).drew)
      have HRD := hid (HRr.out.still (Lt.Still.below (Below.refl _ wr).drew))
      go_wp2_with fail
      refine wp_region_sink (S := RawT c K w.heap.size ya S'.x.1.length yc S'.x.2 ea S'.d.length ec ga S'.u.length gc S'.k #[.int .i64 0, .int .i64 0, .int .i64 0, .int .i64 0, .int .i64 0, .int .i64 0, .int .i64 0, .slice none 0 0, .bool false, .pointer none, .slice none 0 0, .slice none 0 0, .int .i64 0] w bb (bo + k) t) 6 (by kernel_rfl) (by kernel_rfl) (by kernel_rfl) (by kernel_rfl) ⟨HTD.out.x13, HCB.out _ HTD.out.still, HTD.out⟩ (fun hS0 => ?_)
      refine wpAnyH_take (i := 0) (v := ?_) rfl (by kernel_rfl) (by kernel_rfl) (by kernel_rfl) (fun _ _ _ h => h) (Or.inl ⟨by rfl, ?_⟩) hS0 ?_
      rotate_left
      · intro w' hSw
        obtain ⟨⟨q0, q1, q2, q3, q4, q5, q6, q7, q8, q9, q10, q11, q12⟩, _⟩ := hSw
        go_simp
        try with_reducible rfl
      try simp only [Act.put]
      try simp only [List.setIfInBounds_toArray]
      try simp only [List.set_cons_zero, List.set_cons_succ]
      refine wpAnyH_take (i := 1) (v := ?_) rfl (by kernel_rfl) (by kernel_rfl) (by kernel_rfl) (fun _ _ _ h => h) (Or.inl ⟨by rfl, ?_⟩) hS0 ?_
      rotate_left
      · intro w' hSw
        obtain _ := hSw
        go_simp
        try with_reducible rfl
      try simp only [Act.put]
      try simp only [List.setIfInBounds_toArray]
      try simp only [List.set_cons_zero, List.set_cons_succ]
      refine wpAnyH_take (i := 2) (v := ?_) rfl (by kernel_rfl) (by kernel_rfl) (by kernel_rfl) (fun _ _ _ h => h) (Or.inl ⟨by rfl, ?_⟩) hS0 ?_
      rotate_left
      · intro w' hSw
        obtain _ := hSw
        go_simp
        try with_reducible rfl
      try simp only [Act.put]
      try simp only [List.setIfInBounds_toArray]
      try simp only [List.set_cons_zero, List.set_cons_succ]
      refine wpAnyH_take (i := 3) (v := ?_) rfl (by kernel_rfl) (by kernel_rfl) (by kernel_rfl) (fun _ _ _ h => h) (Or.inl ⟨by rfl, ?_⟩) hS0 ?_
      rotate_left
      · intro w' hSw
        obtain _ := hSw
        go_simp
        try with_reducible rfl
      try simp only [Act.put]
      try simp only [List.setIfInBounds_toArray]
      try simp only [List.set_cons_zero, List.set_cons_succ]
      refine wpAnyH_take (i := 4) (v := ?_) rfl (by kernel_rfl) (by kernel_rfl) (by kernel_rfl) (fun _ _ _ h => h) (Or.inl ⟨by rfl, ?_⟩) hS0 ?_
      rotate_left
      · intro w' hSw
        obtain ⟨_, qb, _⟩ := hSw
        go_simp
        try with_reducible rfl
      try simp only [Act.put]
      try simp only [List.setIfInBounds_toArray]
      try simp only [List.set_cons_zero, List.set_cons_succ]
      (refine wpAnyH_ready (rs := [5]) (by kernel_rfl) (by simp) ?_)
      refine AllReadyH.cons rfl (fun K hK => ?_) AllReadyH.nil
      go_simp
      refine (HTK.out _ HRD.out HTD.out.kept).mono ?_
      rintro e w5 ⟨za, zc, fa, fc, ha, hc', rfl, hrows, hfr, hk5, hs5⟩
      have HT5 := hid (HTD.out.at hn.out hk5 hs5)
      (refine hK.out _ _ (⟨HT5.out.x13, HCB.out _ HT5.out.still, HT5.out⟩) (fun hS1 => ?_); clear hK K)
      refine wpAnyH_done (by kernel_rfl) ?_ _
      clear hS0 hS1
      refine sink_last rfl (fun K' hK' => ?_)
      refine wp_store_row 136 _ _ rfl w.heap.size _ rfl rfl 136 _ HT5.out.box infoRn rfl rnA_one ?_
      generalize hW : World.setRow _ _ _ = W6
      have HE := hid (HT5.out.lay0 hn.out (Nat.le_refl _) hW)
      clear hW
      refine hK'.out _ _ ?_
      clear hK' K'
      have hsz := HT5.out.lt
      have HR6 := hid ((hrows.same (base := w.heap.size + 2) ⟨fun ad e => by have h1 : wr.heap.size ≤ ad.block := hfr.fx ad e; have := HTr.out.lt; omega, fun ad e => by have h1 : wr.heap.size ≤ ad.block := hfr.fd ad e; have := HTr.out.lt; omega, fun ad e => by have h1 : wr.heap.size ≤ ad.block := hfr.fu ad e; have := HTr.out.lt; omega⟩ (fun g hg => HE.out.2 g (by omega)) (by have := hn.out; omega) (by have := hn.out; omega)).off (n := w.heap.size) ⟨fun ad e => by have h1 : wr.heap.size ≤ ad.block := hfr.fx ad e; have := HTr.out.lt; omega, fun ad e => by have h1 : wr.heap.size ≤ ad.block := hfr.fd ad e; have := HTr.out.lt; omega, fun ad e => by have h1 : wr.heap.size ≤ ad.block := hfr.fu ad e; have := HTr.out.lt; omega⟩ hn.out.1 hn.out.2)
      go_wp2_with fail
      go_roundw
      case rel => exact ⟨k + 1, HLT.out, by go_num, rsT c K.f K.u S' t, za, zc, fa, fc, ha, hc', HSU.out.symm, HE.out.1, HR6⟩
      case measure => have := HLT.out; simp [intOf]; omega
    · obtain rfl : k = l.length := by omega
      rw [List.take_length] at HS
      go_wp2_with (first
        | (refine wpList_load_row rfl 136 _ rfl w.heap.size rfl 136 _ (0, 0) _ HTr.out.box Tryz.underlying136 rfl infoRn ?_)
        | (refine wpList_store_row rfl 136 _ _ rfl (w.heap.size + 1) _ rfl rfl 136 _ HTr.out.res infoRn rfl rnA_one ?_; generalize hW : World.setRow _ _ _ = W5; have HE := hid (HTr.out.lay hn.out (Nat.le_refl _) hW); have HSZ : Hid (wr.heap.size ≤ W5.heap.size) := (by refine hid ?_; rw [← hW]; simp); clear hW))
      refine bodyPost_ret (results_cell_row Tryz.results81 _ _ (w.heap.size + 1) 136 _ (0, 0) _ rfl HE.out.1 Tryz.underlying136 rfl infoRn) rfl ?_
      have hS' := HS.out
      subst hS'
      exact ⟨ya, yc, ea, ec, ga, gc, rfl, HRo.out W5 (fun g _ h2 => HE.out.2.2.2 g h2) HSZ.out, HE.out.2.1, HE.out.2.2.1⟩
end Go.Proofs.YtihbjimnjhfpeaaGreat
