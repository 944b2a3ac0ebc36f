/- Texts of this seat, one behind the other. -/
import Derived.Test.YtihbjimnjhfpeaaGreatR39
import Derived.Test.YtihbjimnjhfpeaaGreatR04
import Derived.Test.YtihbjimnjhfpeaaGreatR05
import Derived.Test.YtihbjimnjhfpeaaGreatR24
/- Walk of the iterator over cooks: contract. -/
namespace Go.Proofs.YtihbjimnjhfpeaaGreat
open Go.RowKit Go.Shelf Go.Lib
attribute [local go_sem] Oper.semAt_some

/-- A cook as it is handed on: its dish, its ticks, and where its rows lie. -/
structure Ck where
  d : Dish
  m : Nat
  ua : Option Addr
  ub : Option Addr
  uc : Nat
  ud : Nat
def ckc (x : Ck) : Array Value := #[.slice x.ua x.d.1.1.length x.uc, .bool x.d.1.2, .slice x.ub x.d.2.length x.ud, .int .i64 (x.m : Nat)]
def encC (x : Ck) : Array Value := #[.agg (ckc x)]
theorem ckc_one (x : Ck) : (ckc x).all (·.oneCell') = true := by simp [ckc, Value.oneCell']
theorem infoCk (x : Ck) : (Tryz.prog.info? 160).map (·.size) = some (ckc x).size := by
  show _ = some 4
  kernel_rfl
/-- Where a row lies: below y0, or behind it in a block of ints. -/
def Loc (y0 : Nat) (W : World) (a : Option Addr) : Prop := ∀ p, a = some p → p.block < y0 ∨ (y0 < p.block ∧ IntAt W p.block)
theorem Loc.ne {y0 : Nat} {W : World} {a : Option Addr} (h : Loc y0 W a) : ∀ p, a = some p → p.block ≠ y0 := fun p e => by rcases h p e with h | ⟨h, _⟩ <;> omega
theorem Loc.off {y0 g : Nat} {W : World} {a : Option Addr} {cs : Array Value} {fz : Nat × Nat} (h : Loc y0 W a) (hg : W.heap[g]? = some (.cells cs 160 fz)) (hy : y0 ≤ g) : ∀ p, a = some p → p.block ≠ g := fun p e => by
  rcases h p e with h | ⟨h, cs', fz', hi⟩
  · omega
  · rintro rfl
    rw [hg] at hi
    exact absurd (Obj.cells.inj (Option.some.inj hi)).2.1 (by decide)
theorem Loc.turn {y0 g : Nat} {W W' : World} {a : Option Addr} (h : Loc y0 W a) (hg : ∀ j, j ≠ g → W'.heap[j]? = W.heap[j]?) (ho : ∀ p, a = some p → p.block ≠ g) : Loc y0 W' a := fun p e => by
  rcases h p e with h | ⟨h, cs, fz, hi⟩
  · exact .inl h
  · exact .inr ⟨h, cs, fz, (hg _ (ho p e)).trans hi⟩
theorem Loc.keep {y0 : Nat} {W W' : World} {a : Option Addr} (h : Loc y0 W a) (hb : Below W.heap.size W W') : Loc y0 W' a := fun p e => by
  rcases h p e with h | ⟨h, cs, fz, hi⟩
  · exact .inl h
  · exact .inr ⟨h, cs, fz, (hb.block _ (lt_of_block hi)).trans hi⟩
/-- The cook's rows as they read. -/
structure CkAt (y0 : Nat) (x : Ck) (W : World) : Prop where
  temps : RowI W (.slice x.ua x.d.1.1.length x.uc) x.d.1.1
  sums : RowI W (.slice x.ub x.d.2.length x.ud) (ivN x.d.2)
  oa : Loc y0 W x.ua
  ob : Loc y0 W x.ub
theorem rowI_lt {W : World} {p : Addr} {n cap : Nat} {l : List Int} (h : RowI W (.slice (some p) n cap) l) (h0 : 0 < l.length) : p.block < W.heap.size := by
  rcases h with ⟨_, _, _, rfl⟩ | ⟨b, o, cap', hv, hm, hc⟩
  · simp at h0
  · cases hv
    have := World.block_lt_of_cell? W ⟨b, o + 0, none⟩ (hc 0 h0)
    exact this
/-- Every block of cells stays, but that at y0; and what the rate stands on. -/
structure KpK (I : World → Prop) (y0 : Nat) (W W' : World) : Prop where
  size : W.heap.size ≤ W'.heap.size
  cells : ∀ j cs t fz, W.heap[j]? = some (.cells cs t fz) → j ≠ y0 → W'.heap[j]? = some (.cells cs t fz)
  inv : I W → I W'
section
variable {I : World → Prop} {y0 : Nat} {W W' W'' : World}
theorem KpK.trans (h : KpK I y0 W W') (k : KpK I y0 W' W'') : KpK I y0 W W'' :=
  ⟨Nat.le_trans h.size k.size, fun j cs t fz h1 h2 => k.cells j cs t fz (h.cells j cs t fz h1 h2) h2, fun h1 => k.inv (h.inv h1)⟩
theorem cells_of_cell {b o : Nat} {v : Value} (h : W.cell? ⟨b, o, none⟩ = some v) : ∃ cs t fz, W.heap[b]? = some (.cells cs t fz) := by
  unfold World.cell? at h
  cases hb : W.heap[(⟨b, o, none⟩ : Addr).block]? with
  | none => simp [hb] at h
  | some ob =>
    cases ob with
    | cells cs t fz => exact ⟨cs, t, fz, rfl⟩
    | _ => simp [hb] at h
theorem KpK.row {a : Option Addr} {n cap : Nat} {l : List Int} (hk : KpK I y0 W W') (h : RowI W (.slice a n cap) l) (ho : ∀ p, a = some p → p.block ≠ y0) : RowI W' (.slice a n cap) l := by
  rcases h with h | ⟨b, o, cap', hv, hm, hc⟩
  · exact .inl h
  · cases hv
    refine .inr ⟨b, o, cap, rfl, hm, fun k hk' => ?_⟩
    have h1 := hc k hk'
    obtain ⟨cs, t, fz, hb⟩ := cells_of_cell h1
    exact (World.cell?_of_block (a := ⟨b, o + k, none⟩) ((hk.cells b cs t fz hb (ho _ rfl)).trans hb.symm)).trans h1
theorem KpK.loc {a : Option Addr} (hk : KpK I y0 W W') (h : Loc y0 W a) : Loc y0 W' a := fun p e => by
  rcases h p e with h | ⟨h, cs, fz, hi⟩
  · exact .inl h
  · exact .inr ⟨h, cs, fz, hk.cells _ _ _ _ hi (by omega)⟩
theorem KpK.ck {x : Ck} (hk : KpK I y0 W W') (h : CkAt y0 x W) : CkAt y0 x W' := ⟨hk.row h.temps h.oa.ne, hk.row h.sums h.ob.ne, hk.loc h.oa, hk.loc h.ob⟩
theorem CkAt.keep {x : Ck} (h : CkAt y0 x W) (hb : Below W.heap.size W W') : CkAt y0 x W' := ⟨h.temps.keep hb, h.sums.keep hb, h.oa.keep hb, h.ob.keep hb⟩
end
/-- What is laid for a variable that is a struct. -/
theorem laid_row {W W' : World} {T : TypeId} {Z cs : Array Value} (hW : (W.alloc (.cells Z T)).setRow W.heap.size cs = W') : W'.heap[W.heap.size]? = some (.cells cs T (0, 0)) ∧ Below W.heap.size W W' := by
  subst hW
  exact ⟨setRow_heap _ _ _ _ _ _ (heap_alloc_new W _), ((Below.refl _ W).alloc (Nat.le_refl _) _).trans ⟨rfl, rfl, rfl, by simp, fun k hk => setRow_other _ _ _ _ (by omega)⟩⟩
theorem set4 {W : World} {b : Nat} {T : TypeId} {x0 x1 x2 x3 y0 y1 y2 : Value} (h : W.heap[b]? = some (.cells #[x0, x1, x2, x3] T (0, 0))) :
    (((W.setCell ⟨b, 0, none⟩ y0).setCell ⟨b, 1, none⟩ y1).setCell ⟨b, 2, none⟩ y2).heap[b]? = some (.cells #[y0, y1, y2, x3] T (0, 0)) ∧ (∀ g, g ≠ b → (((W.setCell ⟨b, 0, none⟩ y0).setCell ⟨b, 1, none⟩ y1).setCell ⟨b, 2, none⟩ y2).heap[g]? = W.heap[g]?) := by
  have h0 := heap_setCell_same W b 0 _ _ y0 h
  have h1 := heap_setCell_same _ b 1 _ _ y1 h0
  have h2 := heap_setCell_same _ b 2 _ _ y2 h1
  refine ⟨h2, fun g hg => ?_⟩
  rw [heap_setCell_other _ _ _ _ (by exact hg), heap_setCell_other _ _ _ _ (by exact hg), heap_setCell_other _ _ _ _ (by exact hg)]
/-- A row of ints stays where one block turns that it doesn't lie in. -/
theorem rowI_turned {W W' : World} {g : Nat} {a : Option Addr} {n cap : Nat} {l : List Int} (h : RowI W (.slice a n cap) l) (hg : ∀ j, j ≠ g → W'.heap[j]? = W.heap[j]?) (ho : ∀ p, a = some p → p.block ≠ g) : RowI W' (.slice a n cap) l := by
  rcases h with h | ⟨b, o, cap', hv, hm, hc⟩
  · exact .inl h
  · cases hv
    exact .inr ⟨b, o, cap, rfl, hm, fun k hk' => (World.cell?_of_block (a := ⟨b, o + k, none⟩) (hg b (ho ⟨b, o, none⟩ rfl))).trans (hc k hk')⟩
theorem CkAt.turn {y0 g : Nat} {x : Ck} {W W' : World} (h : CkAt y0 x W) (hg : ∀ j, j ≠ g → W'.heap[j]? = W.heap[j]?) (ha : ∀ p, x.ua = some p → p.block ≠ g) (hb : ∀ p, x.ub = some p → p.block ≠ g) : CkAt y0 x W' :=
  ⟨rowI_turned h.temps hg ha, rowI_turned h.sums hg hb, h.oa.turn hg ha, h.ob.turn hg hb⟩

/-- What the iterator stands on: the search's box, the stride's box. -/
structure ItK (c : Cn) (need : Int) (F : Nat) (lb : Array Value) (bath cold : Int) (most cooling : Nat) (I : World → Prop) (sb qb more n0 y0 : Nat) (W : World) : Prop where
  sBox : W.heap[sb]? = some (.cells #[.int .i64 (c.R : Int), .int .i64 (c.L : Int), .int .i64 c.A, .int .i64 c.B, .int .i64 c.K, .int .i64 c.A2, .int .i64 c.B2, .int .i64 need, .func (.func F) #[] lb, .int .i64 bath, .int .i64 (most : Nat), .int .i64 cold, .int .i64 (cooling : Nat)] 127 (0, 0))
  qBox : W.heap[qb]? = some (.cells #[.int .i64 (more : Nat)] 3 (0, 0))
  inv : I W
  lt1 : sb < n0
  lt2 : qb < n0
  le : n0 ≤ W.heap.size
  ne1 : sb ≠ y0
  ne2 : qb ≠ y0
section
variable {c : Cn} {need : Int} {F : Nat} {lb : Array Value} {bath cold : Int} {most cooling : Nat} {f : Int → Nat} {lo hi : Int} {mb B0 : Nat} {I : World → Prop} {sb qb more n0 y0 g : Nat} {W W' : World}
theorem ItK.keep (hR : RateOk F lb f lo hi mb B0 I) (h : ItK c need F lb bath cold most cooling I sb qb more n0 y0 W) (hb : Below W.heap.size W W') : ItK c need F lb bath cold most cooling I sb qb more n0 y0 W' :=
  ⟨(hb.block _ (lt_of_block h.sBox)).trans h.sBox, (hb.block _ (lt_of_block h.qBox)).trans h.qBox, hR.below h.inv hb, h.lt1, h.lt2, Nat.le_trans h.le hb.size, h.ne1, h.ne2⟩
theorem ItK.kp (h : ItK c need F lb bath cold most cooling I sb qb more n0 y0 W) (hk : KpK I y0 W W') : ItK c need F lb bath cold most cooling I sb qb more n0 y0 W' :=
  ⟨hk.cells _ _ _ _ h.sBox h.ne1, hk.cells _ _ _ _ h.qBox h.ne2, hk.inv h.inv, h.lt1, h.lt2, Nat.le_trans h.le hk.size, h.ne1, h.ne2⟩
theorem ItK.turn (hR : RateOk F lb f lo hi mb B0 I) (h : ItK c need F lb bath cold most cooling I sb qb more n0 y0 W) (hg : W.grownBy W' (some g)) (hn : n0 ≤ g) (h0 : B0 ≤ n0) (he : ∀ j, j ≠ g → W'.heap[j]? = W.heap[j]?) : ItK c need F lb bath cold most cooling I sb qb more n0 y0 W' :=
  ⟨(he _ (by have := h.lt1; omega)).trans h.sBox, (he _ (by have := h.lt2; omega)).trans h.qBox, hR.keep _ _ _ h.inv hg (fun j e => by cases e; omega), h.lt1, h.lt2, Nat.le_trans h.le hg.size, h.ne1, h.ne2⟩
theorem ItK.facts (h : ItK c need F lb bath cold most cooling I sb qb more n0 y0 W) :
    (W.cell? ⟨sb, 0, none⟩ = some (.int .i64 (c.R : Int)) ∧ W.cell? ⟨sb, 1, none⟩ = some (.int .i64 (c.L : Int)) ∧ W.cell? ⟨sb, 2, none⟩ = some (.int .i64 c.A) ∧ W.cell? ⟨sb, 3, none⟩ = some (.int .i64 c.B) ∧ W.cell? ⟨sb, 4, none⟩ = some (.int .i64 c.K) ∧ W.cell? ⟨sb, 5, none⟩ = some (.int .i64 c.A2) ∧ W.cell? ⟨sb, 6, none⟩ = some (.int .i64 c.B2) ∧ W.cell? ⟨sb, 7, none⟩ = some (.int .i64 need) ∧ W.cell? ⟨sb, 8, none⟩ = some (.func (.func F) #[] lb)) ∧
    (W.cell? ⟨sb, 9, none⟩ = some (.int .i64 bath) ∧ W.cell? ⟨sb, 10, none⟩ = some (.int .i64 (most : Nat)) ∧ W.cell? ⟨sb, 11, none⟩ = some (.int .i64 cold) ∧ W.cell? ⟨sb, 12, none⟩ = some (.int .i64 (cooling : Nat))) ∧ W.cell? ⟨qb, 0, none⟩ = some (.int .i64 (more : Nat)) :=
  ⟨⟨cell_of_row _ _ 0 _ _ _ h.sBox, cell_of_row _ _ 1 _ _ _ h.sBox, cell_of_row _ _ 2 _ _ _ h.sBox, cell_of_row _ _ 3 _ _ _ h.sBox, cell_of_row _ _ 4 _ _ _ h.sBox, cell_of_row _ _ 5 _ _ _ h.sBox, cell_of_row _ _ 6 _ _ _ h.sBox, cell_of_row _ _ 7 _ _ _ h.sBox, cell_of_row _ _ 8 _ _ _ h.sBox⟩, ⟨cell_of_row _ _ 9 _ _ _ h.sBox, cell_of_row _ _ 10 _ _ _ h.sBox, cell_of_row _ _ 11 _ _ _ h.sBox, cell_of_row _ _ 12 _ _ _ h.sBox⟩, cell_of_row _ _ 0 _ _ _ h.qBox⟩
end
/-- The iterator's own variable, a cook of n ticks more than at first, and m ticks told. -/
structure CurC (c : Cn) (f : Int → Nat) (D : Dish) (bath : Int) (n m y0 nb : Nat) (x : Ck) (W : World) : Prop where
  box : W.heap[nb]? = some (.cells (ckc x) 160 (0, 0))
  at' : CkAt y0 x W
  dis : x.d = afN c f D bath n
  tick : x.m = m
  lt : y0 < nb
/-- What the k-th round is for. -/
def XsC (c : Cn) (f : Int → Nat) (D : Dish) (bath : Int) (m0 more y0 k : Nat) (x : Ck) (W : World) : Prop := CkAt y0 x W ∧ x.d = afN c f D bath (k * more) ∧ x.m = m0 + k * more
def mOf (v : Value) (W : World) : Nat := match v with
  | .pointer (some a) => match W.cell? ⟨a.block, 3, none⟩ with
    | some (.int _ i) => i.toNat
    | _ => 0
  | _ => 0
section
variable {c : Cn} {f : Int → Nat} {D : Dish} {bath : Int} {n m y0 nb : Nat} {x : Ck} {I : World → Prop} {W W' : World}
theorem CurC.mOf (h : CurC c f D bath n m y0 nb x W) : mOf (.pointer (some ⟨nb, 0, none⟩)) W = m := by
  have := cell_of_row W nb 3 _ _ _ h.box
  unfold Proofs.YtihbjimnjhfpeaaGreat.mOf
  simp only [this]
  have e := h.tick
  simp [ckc, e]
theorem CurC.keep (h : CurC c f D bath n m y0 nb x W) (hb : Below W.heap.size W W') : CurC c f D bath n m y0 nb x W' := ⟨(hb.block _ (lt_of_block h.box)).trans h.box, h.at'.keep hb, h.dis, h.tick, h.lt⟩
theorem CurC.kp (h : CurC c f D bath n m y0 nb x W) (hk : KpK I y0 W W') : CurC c f D bath n m y0 nb x W' := ⟨hk.cells _ _ _ _ h.box (by have := h.lt; omega), hk.ck h.at', h.dis, h.tick, h.lt⟩
/-- The next tick's dish is laid into the variable. -/
theorem CurC.store (h : CurC c f D bath n m y0 nb x W) {E : Dish} {ua ub : Option Addr} {uc ud : Nat} (hE : E = afN c f D bath (n + 1)) (ht : RowI W (.slice ua E.1.1.length uc) E.1.1) (hs : RowI W (.slice ub E.2.length ud) (ivN E.2)) (ha : Loc y0 W ua) (hb : Loc y0 W ub)
    (hW : (((W.setCell ⟨nb, 0, none⟩ (.slice ua E.1.1.length uc)).setCell ⟨nb, 1, none⟩ (.bool E.1.2)).setCell ⟨nb, 2, none⟩ (.slice ub E.2.length ud)) = W') :
    CurC c f D bath (n + 1) m y0 nb ⟨E, x.m, ua, ub, uc, ud⟩ W' ∧ (∀ j, j ≠ nb → W'.heap[j]? = W.heap[j]?) ∧ W.grownBy W' (some nb) := by
  have h4 := h.box
  obtain ⟨e1, e2⟩ := set4 (y0 := .slice ua E.1.1.length uc) (y1 := .bool E.1.2) (y2 := .slice ub E.2.length ud) h4
  have hg := set3_grown (W := W) (b := nb) (y0 := .slice ua E.1.1.length uc) (y1 := .bool E.1.2) (y2 := .slice ub E.2.length ud)
  rw [hW] at e1 e2 hg
  have hl := h.lt
  have h1 := ha.off h.box (by omega)
  have h2 := hb.off h.box (by omega)
  exact ⟨⟨e1, ⟨rowI_turned ht e2 h1, rowI_turned hs e2 h2, ha.turn e2 h1, hb.turn e2 h2⟩, hE, h.tick, hl⟩, e2, hg⟩
/-- Its ticks are told anew. -/
theorem CurC.count (h : CurC c f D bath n m y0 nb x W) {m' : Nat} (hW : W.setCell ⟨nb, 3, none⟩ (.int .i64 (m' : Nat)) = W') :
    CurC c f D bath n m' y0 nb ⟨x.d, m', x.ua, x.ub, x.uc, x.ud⟩ W' ∧ (∀ j, j ≠ nb → W'.heap[j]? = W.heap[j]?) ∧ W.grownBy W' (some nb) := by
  have h0 := heap_setCell_same W nb 3 _ _ (.int .i64 (m' : Nat)) h.box
  have e2 : ∀ j, j ≠ nb → (W.setCell ⟨nb, 3, none⟩ (.int .i64 (m' : Nat))).heap[j]? = W.heap[j]? := fun j hj => heap_setCell_other _ _ _ _ (by exact hj)
  have hg : W.grownBy (W.setCell ⟨nb, 3, none⟩ (.int .i64 (m' : Nat))) (some nb) := ⟨rfl, rfl, rfl, by simp, fun k _ hk => e2 k (fun e => hk (by rw [e]))⟩
  rw [hW] at h0 e2 hg
  have hl := h.lt
  have a := h.at'.turn e2 (h.at'.oa.off h.box (by omega)) (h.at'.ob.off h.box (by omega))
  exact ⟨⟨h0, ⟨a.temps, a.sums, a.oa, a.ob⟩, h.dis, rfl, hl⟩, e2, hg⟩
/-- A new variable with what the old one held. -/
theorem CurC.next (h : CurC c f D bath n m y0 nb x W) {Z : Array Value} (hW : (W.alloc (.cells Z 160)).setRow W.heap.size (ckc x) = W') :
    CurC c f D bath n m y0 W.heap.size x W' ∧ Below W.heap.size W W' := by
  obtain ⟨h1, h2⟩ := laid_row hW
  exact ⟨⟨h1, h.at'.keep h2, h.dis, h.tick, by have := lt_of_block h.box; have := h.lt; omega⟩, h2⟩
end
end Go.Proofs.YtihbjimnjhfpeaaGreat

/- Walk of the iterator over cooks: contract. -/
namespace Go.Proofs.YtihbjimnjhfpeaaGreat
open Go.RowKit Go.Shelf Go.Lib
attribute [local go_sem] Oper.semAt_some

set_option maxRecDepth 100000 in
set_option maxHeartbeats 8000000 in
theorem cooks_run (l0 : Nat) (c : Cn) (need : Int) (F : Nat) (lb : Array Value) (bath cold : Int) (most cooling : Nat) (f : Int → Nat) (lo hi : Int) (mb B0 : Nat) (I : World → Prop) (x0 : Ck) (more N y0 fb sb qb n0 B : Nat) (J Jx : Nat → World → Prop) (hR : RateOk F lb f lo hi mb B0 I) (hF : Fix I mb) (hv : c.V) (hG : Good c x0.d) (hb : okT bath = true) (hbb : lo ≤ bath ∧ bath ≤ hi) (hbd : ∀ t ∈ x0.d.1.1, lo ≤ t ∧ t ≤ hi)
    (hm0 : x0.m ≤ 2000) (hmost : most ≤ 2000) (hmore : 1 ≤ more ∧ more ≤ 45) (hN : ∀ k, k < N ↔ x0.m + k * more ≤ most) (hB0 : B0 ≤ n0) (hy0 : y0 < n0)
    (hJ : AbN 160 B J) (hY : ∀ k x W1, k < N → XsC c f x0.d bath x0.m more y0 k x W1 → J k W1 → YieldAt Fence.wide 8 Tryz.prog l0 (encC x) W1 fun e W' =>
      (e = .returned (.bool true) ∧ J (k + 1) W' ∧ KpK I y0 W1 W') ∨ (e = .returned (.bool false) ∧ Jx (k + 1) W'))
    (W : World) (hI : ItK c need F lb bath cold most cooling I sb qb more n0 y0 W) (hfr : W.heap[fb]? = some (.cells (ckc x0) 160 (0, 0))) (hat : CkAt y0 x0 W) (hB : B ≤ W.heap.size) (h0 : J 0 W) :
    CallsIn Fence.wide 9 Tryz.prog 146 #[.func (.yield l0) #[] #[], .pointer (some ⟨fb, 0, none⟩), .pointer (some ⟨sb, 0, none⟩), .pointer (some ⟨qb, 0, none⟩)] W fun e W' => (∃ v, e = .returned v) ∧ (J N W' ∨ ∃ k, k ≤ N ∧ Jx k W') := by
  have HI := hid hI; have HY := hid hY; have HJ := hid hJ; have H0 := hid h0; have HRR := hid hR; have HFX := hid hF; have HFR := hid hfr; have HN := hid hN
  have HGD := hid (fun n => afN_good (f := f) n hv.ok hG hb)
  have HP := hid hv.ok.p
  have HLN := hid (fun n => (show (afN c f x0.d bath n).1.1.length = c.P ∧ (afN c f x0.d bath n).2.length = c.P from ⟨(bodyV_iff.1 (afN_good n hv.ok hG hb).body).1, (afN_good n hv.ok hG hb).len⟩))
  have HAF := hid (fun k (E : Dish) (hE : E = afN c f x0.d bath k) (ua ub : Option Addr) (uc ud : Nat) (W : World) (hIW : I W) (ht : RowI W (.slice ua E.1.1.length uc) E.1.1) (hs : RowI W (.slice ub E.2.length ud) (ivN E.2)) => mafterN_any c need bath F lb f lo hi mb B0 I E ua ub uc ud W hR hv (by rw [hE]; exact afN_good k hv.ok hG hb) hb hIW ht hs (by
      have := afN_bd (f := f) (k + 1) hv.ok hG hbb hbd
      rw [afN_succ] at this
      rw [hE]
      exact this))
  have HSU := hid (fun k => afN_succ c f x0.d bath k)
  have HZ := hid (afN_zero c f x0.d bath)
  have HAT := hid hat
  have hfl := lt_of_block hfr
  have hle := hI.le
  have p1 : 0 < x0.d.1.1.length := by have := (bodyV_iff.1 hG.body).1; have := hv.ok.p.1; omega
  have p2 : 0 < x0.d.2.length := by have := hG.len; have := hv.ok.p.1; omega
  have HPP := hid (And.intro p1 p2)
  clear hI hY hJ h0 hR hF hfr hN hv hG hb hbb hbd hat p1 p2
  refine callsIn_of_wp Tryz.func146 rfl trivial ?_ rfl
  simp only [Tryz.ntmps146, List.size_toArray, List.length_cons, List.length_nil, Nat.reduceAdd, Nat.reduceSub, Array.replicate_succ, Array.replicate_zero, List.push_toArray, List.append_toArray, List.nil_append, List.cons_append]
  gi_wp2_with (first
    | (refine wpListIn_load_whole rfl 160 _ rfl fb rfl 160 (ckc x0) (0, 0) _ HFR.out Tryz.underlying160 rfl (infoCk x0) ?_)
    | (refine wpListIn_store_whole rfl 160 _ _ rfl W.heap.size (ckc x0) rfl rfl 160 _ (heap_alloc_new W _) (infoCk x0) rfl (ckc_one x0) ?_; generalize hW : World.setRow _ _ _ = W2; have HS := hid (laid_row hW); clear hW))
  have HST : Hid (ItK c need F lb bath cold most cooling I sb qb more n0 y0 W2 ∧ CurC c f x0.d bath (0 * more) (x0.m + 0 * more) y0 W.heap.size x0 W2 ∧ J 0 W2 ∧ B ≤ W2.heap.size) := by
    obtain ⟨hs1, hs2⟩ := HS.out
    refine ⟨HI.out.keep HRR.out hs2, ⟨hs1, HAT.out.keep hs2, ?_, by omega, by omega⟩, HJ.out _ _ _ none H0.out (gbelow hs2) (fun j e => by cases e), Nat.le_trans hB hs2.size⟩
    rw [Nat.zero_mul, HZ.out]
  have hnb0 : n0 ≤ W.heap.size := hle
  clear HFR HS HI HAT H0 hfl
  go_simp
  gi_loopw [5] (fun v wr => ∃ k nb x, k ≤ N ∧ n0 ≤ nb ∧ B ≤ nb ∧ v = .pointer (some ⟨nb, 0, none⟩) ∧ Hid (ItK c need F lb bath cold most cooling I sb qb more n0 y0 wr ∧ CurC c f x0.d bath (k * more) (x0.m + k * more) y0 nb x wr ∧ J k wr ∧ B ≤ wr.heap.size)) (fun v wr => 10000 - mOf v wr)
  case atStart => exact ⟨0, W.heap.size, x0, Nat.zero_le _, hnb0, hB, rfl, HST⟩
  case round =>
    obtain ⟨k, nb, x, hk, hn, hBn, rfl, hR⟩ := hrel
    have hmm : x0.m + k * more ≤ 2045 := by
      rcases k with _ | k'
      · omega
      · have := (HN.out k').1 (by omega)
        rw [Nat.succ_mul]
        omega
    have HSM := hid (show x0.m + (k + 1) * more = x0.m + k * more + more by rw [Nat.succ_mul]; omega)
    have HSK := hid (show (k + 1) * more = k * more + more from Nat.succ_mul k more)
    have HNK := hid (HN.out k)
    obtain ⟨⟨m0, m1, m2, m3, m4, m5, m6, m7, m8⟩, ⟨s0, s1, s2, s3⟩, q0⟩ := hR.out.1.facts
    have t3 : wr.cell? ⟨nb, 3, none⟩ = some (.int .i64 ((x0.m + k * more : Nat) : Int)) := by
      have h := cell_of_row wr nb 3 _ _ _ hR.out.2.1.box
      have e := hR.out.2.1.tick
      simpa [ckc, e] using h
    have HMO := hid hR.out.2.1.mOf
    by_cases hlt : x0.m + k * more ≤ most
    · obtain ⟨fn, tmps, assign, body, hy, hYR⟩ := HY.out k x wr (HNK.out.2 hlt) ⟨hR.out.2.1.at', hR.out.2.1.dis, hR.out.2.1.tick⟩ hR.out.2.2.1
      simp only [encC] at hy
      have HKN := hid (HNK.out.2 hlt)
      generalize x0.m + k * more = m at *
      have hlt' : (m : Int) ≤ most := by omega
      have HYR := hid hYR
      have HBX := hid hR.out.2.1.box
      clear hYR hlt
      gi_wp2_with (refine wpListIn_load_whole rfl 160 _ rfl nb rfl 160 (ckc x) (0, 0) _ HBX.out Tryz.underlying160 rfl (infoCk x) ?_)
      refine HYR.out.mono ?_
      rintro e W3 (⟨rfl, hJ3, hk3⟩ | ⟨rfl, hJx3⟩)
      · have H3 : Hid (ItK c need F lb bath cold most cooling I sb qb more n0 y0 W3 ∧ CurC c f x0.d bath (k * more) m y0 nb x W3 ∧ J (k + 1) W3 ∧ B ≤ W3.heap.size) := ⟨hR.out.1.kp hk3, hR.out.2.1.kp hk3, hJ3, Nat.le_trans hR.out.2.2.2 hk3.size⟩
        clear hJ3 hk3 hR m0 m1 m2 m3 m4 m5 m6 m7 m8 s0 s1 s2 s3 q0 t3 HBX HYR hy
        have q0 := H3.out.1.facts.2.2
        gi_wp2
        gi_loopw [17] (fun i wr => ∃ j x, j ≤ more ∧ i = .int .i64 (j : Int) ∧ Hid (ItK c need F lb bath cold most cooling I sb qb more n0 y0 wr ∧ CurC c f x0.d bath (k * more + j) m y0 nb x wr ∧ J (k + 1) wr ∧ B ≤ wr.heap.size)) (fun i _ => more - (intOf i).toNat)
        case atStart => exact ⟨0, x, Nat.zero_le _, rfl, H3⟩
        case round =>
          clear q0 H3
          obtain ⟨j, x, hj, rfl, hR⟩ := hrel
          obtain ⟨⟨m0, m1, m2, m3, m4, m5, m6, m7, m8⟩, ⟨s0, s1, s2, s3⟩, q0⟩ := hR.out.1.facts
          have d0 := cell_of_row _ _ 0 _ _ _ hR.out.2.1.box
          have d1 := cell_of_row _ _ 1 _ _ _ hR.out.2.1.box
          have d2 := cell_of_row _ _ 2 _ _ _ hR.out.2.1.box
          have d3 := cell_of_row _ _ 3 _ _ _ hR.out.2.1.box
          simp only [ckc, List.getElem?_toArray, List.getElem?_cons_zero, List.getElem?_cons_succ] at d0 d1 d2 d3
          by_cases hjl : j < more
          · have hjl' : (j : Int) < more := by omega
            have hAF := hid (HAF.out (k * more + j) x.d hR.out.2.1.dis x.ua x.ub x.uc x.ud _ hR.out.1.inv hR.out.2.1.at'.temps hR.out.2.1.at'.sums)
            have hSU := hid (show dishT c f x.d bath = afN c f x0.d bath (k * more + j + 1) by rw [hR.out.2.1.dis, HSU.out])
            have HJL := hid hjl
            clear hjl
            gi_wp2
            refine ⟨trivial, ?_⟩
            refine (callsIn_wide.2 hAF.out).mono ?_
            rintro e W4 ⟨ua, ub, uc, ud, rfl, ht4, hs4, hi4, hg4, hna, hnb4⟩
            rw [hSU.out] at ht4 hs4 ⊢
            have hb4 := HFX.out.low hR.out.1.inv hi4 hg4
            have hnbl := lt_of_block hR.out.2.1.box
            have H4 : Hid (ItK c need F lb bath cold most cooling I sb qb more n0 y0 W4 ∧ CurC c f x0.d bath (k * more + j) m y0 nb x W4 ∧ J (k + 1) W4 ∧ B ≤ W4.heap.size) := ⟨hR.out.1.keep HRR.out hb4, hR.out.2.1.keep hb4, HJ.out _ _ _ none hR.out.2.2.1 (gbelow hb4) (fun j e => by cases e), Nat.le_trans hR.out.2.2.2 hb4.size⟩
            have HRO := hid (And.intro ht4 (And.intro hs4 (And.intro (show Loc y0 W4 ua from fun p e => .inr ⟨by have := (hna p e).1; omega, (hna p e).2⟩) (show Loc y0 W4 ub from fun p e => .inr ⟨by have := (hnb4 p e).1; omega, (hnb4 p e).2⟩))))
            clear m0 m1 m2 m3 m4 m5 m6 m7 m8 s0 s1 s2 s3 q0 d0 d1 d2 d3 ht4 hs4 hi4 hg4 hna hnb4 hb4 hnbl hR hAF
            have d0 := cell_of_row _ _ 0 _ _ _ H4.out.2.1.box
            have d1 := cell_of_row _ _ 1 _ _ _ H4.out.2.1.box
            have d2 := cell_of_row _ _ 2 _ _ _ H4.out.2.1.box
            simp only [ckc, List.getElem?_toArray, List.getElem?_cons_zero, List.getElem?_cons_succ] at d0 d1 d2
            have f0 := frozen_of_row _ _ 0 _ _ H4.out.2.1.box
            have f1 := frozen_of_row _ _ 1 _ _ H4.out.2.1.box
            have f2 := frozen_of_row _ _ 2 _ _ H4.out.2.1.box
            have hz := lt_of_block H4.out.2.1.box
            gi_wp2
            generalize hW : World.setCell _ ⟨nb, 2, none⟩ _ = W5
            obtain ⟨h5, e5, g5⟩ := H4.out.2.1.store rfl HRO.out.1 HRO.out.2.1 HRO.out.2.2.1 HRO.out.2.2.2 hW
            have H5 : Hid (ItK c need F lb bath cold most cooling I sb qb more n0 y0 W5 ∧ CurC c f x0.d bath (k * more + (j + 1)) m y0 nb _ W5 ∧ J (k + 1) W5 ∧ B ≤ W5.heap.size) := ⟨H4.out.1.turn HRR.out g5 hn hB0 e5, h5, HJ.out _ _ _ (some nb) H4.out.2.2.1 g5 (fun j e => by cases e; exact ⟨hBn, _, H4.out.2.1.box, .inr ⟨_, rfl⟩⟩), Nat.le_trans H4.out.2.2.2 g5.size⟩
            clear h5 e5 g5 hW d0 d1 d2 f0 f1 f2 hz H4
            go_roundw
            case rel => exact ⟨j + 1, _, HJL.out, by go_num, H5⟩
            case measure => have := HJL.out; simp [intOf]; omega
          · obtain rfl : j = more := by omega
            have f3 := frozen_of_row _ _ 3 _ _ hR.out.2.1.box
            have hz := lt_of_block hR.out.2.1.box
            have hxm := hR.out.2.1.tick
            rw [hxm] at d3
            clear hjl
            gi_wp2_with (first
              | (rw [← Int.natCast_add]; generalize hW : World.setCell _ ⟨nb, 3, none⟩ _ = W5; have H5 := hid (hR.out.2.1.count hW); clear hW; refine wpListIn_load_whole rfl 160 _ rfl nb rfl 160 (ckc ⟨x.d, m + j, x.ua, x.ub, x.uc, x.ud⟩) (0, 0) _ H5.out.1.box Tryz.underlying160 rfl (infoCk _) ?_)
              | (refine wpListIn_store_whole rfl 160 _ _ rfl W5.heap.size (ckc ⟨x.d, m + j, x.ua, x.ub, x.uc, x.ud⟩) rfl rfl 160 _ (heap_alloc_new W5 _) (infoCk _) rfl (ckc_one _) ?_; generalize hW : World.setRow _ _ _ = W6; have H6 := hid hW; clear hW))
            obtain ⟨h5, e5, g5⟩ := H5.out
            obtain ⟨h6, b6⟩ := h5.next H6.out
            have i6 := (hR.out.1.turn HRR.out g5 hn hB0 e5).keep HRR.out b6
            have j6 := HJ.out _ _ _ none (HJ.out _ _ _ (some nb) hR.out.2.2.1 g5 (fun j e => by cases e; exact ⟨hBn, _, hR.out.2.1.box, .inr ⟨_, rfl⟩⟩)) (gbelow b6) (fun j e => by cases e)
            have hz5 := g5.size
            have hz6 := b6.size
            have hle := hR.out.1.le
            have hbs := hR.out.2.2.2
            have hmo := h6.mOf
            have hmo0 := HMO.out
            rw [← HSK.out, ← HSM.out] at h6
            have H9 : Hid (ItK c need F lb bath cold most cooling I sb qb j n0 y0 W6 ∧ CurC c f x0.d bath ((k + 1) * j) (x0.m + (k + 1) * j) y0 W5.heap.size _ W6 ∧ J (k + 1) W6 ∧ B ≤ W6.heap.size) := ⟨i6, h6, j6, by omega⟩
            clear h5 e5 g5 h6 b6 i6 j6 H5 H6 hR HAF d0 d1 d2 d3 f3 hz hxm m0 m1 m2 m3 m4 m5 m6 m7 m8 s0 s1 s2 s3 q0
            go_simp
            go_roundw
            case rel => exact ⟨k + 1, HKN.out, W5.heap.size, by omega, by omega, rfl, _, H9⟩
            case measure => omega
      · have HX3 := hid hJx3
        clear hJx3
        gi_wp2
        refine bodyPost_ret (results_none rfl _ _ _) rfl ?_
        exact ⟨⟨_, rfl⟩, .inr ⟨k + 1, HKN.out, HX3.out⟩⟩
    · have hkN : k = N := by
        have := HNK.out.1
        by_cases e : k < N
        · exact absurd (this e) hlt
        · omega
      subst hkN
      have HJE := hid hR.out.2.2.1
      generalize x0.m + k * more = m at *
      have hlt' : ¬ (m : Int) ≤ most := by omega
      clear hlt
      gi_wp2
      go_end0
      exact ⟨⟨_, rfl⟩, .inl HJE.out⟩
end Go.Proofs.YtihbjimnjhfpeaaGreat

/- Walks of least's closure and of cooks: contracts. -/
namespace Go.Proofs.YtihbjimnjhfpeaaGreat
open Go.RowKit Go.Shelf Go.Lib

/-- A can is sterile with n ticks of a search, and its cooling. -/
def tstC (c : Cn) (f : Int → Nat) (D : Dish) (need bath cold : Int) (cooling n : Nat) : Bool := enD need (afN c f (afN c f D bath n) cold cooling)
/-- A cook's block is laid anew. -/
theorem set4w {W W' : World} {b : Nat} {T : TypeId} {x0 x1 x2 x3 y0 y1 y2 y3 : Value} (h : W.heap[b]? = some (.cells #[x0, x1, x2, x3] T (0, 0))) (hW : (((W.setCell ⟨b, 0, none⟩ y0).setCell ⟨b, 1, none⟩ y1).setCell ⟨b, 2, none⟩ y2).setCell ⟨b, 3, none⟩ y3 = W') :
    W'.heap[b]? = some (.cells #[y0, y1, y2, y3] T (0, 0)) ∧ (∀ g, g ≠ b → W'.heap[g]? = W.heap[g]?) ∧ W.grownBy W' (some b) := by
  subst hW
  have h0 := heap_setCell_same W b 0 _ _ y0 h
  have h1 := heap_setCell_same _ b 1 _ _ y1 h0
  have h2 := heap_setCell_same _ b 2 _ _ y2 h1
  have h3 := heap_setCell_same _ b 3 _ _ y3 h2
  have hg : ∀ g, g ≠ b → ((((W.setCell ⟨b, 0, none⟩ y0).setCell ⟨b, 1, none⟩ y1).setCell ⟨b, 2, none⟩ y2).setCell ⟨b, 3, none⟩ y3).heap[g]? = W.heap[g]? := fun g hg => by
    rw [heap_setCell_other _ _ _ _ (by exact hg), heap_setCell_other _ _ _ _ (by exact hg), heap_setCell_other _ _ _ _ (by exact hg), heap_setCell_other _ _ _ _ (by exact hg)]
  exact ⟨h3, hg, rfl, rfl, rfl, by simp, fun k _ hk => hg k (fun e => hk (by rw [e]))⟩
theorem below_row {w W : World} {row : Option Nat} (hb : Below w.heap.size w W) : w.grownBy W row := ⟨hb.os, hb.tape, hb.output, hb.size, fun j hj _ => hb.block j hj⟩
/-- A search's box, and its cells. -/
theorem sr_cells {c : Cn} {need : Int} {F : Nat} {lb : Array Value} {bath cold : Int} {most cooling : Nat} {sb : Nat} {W : World} (h : W.heap[sb]? = some (.cells #[.int .i64 (c.R : Int), .int .i64 (c.L : Int), .int .i64 c.A, .int .i64 c.B, .int .i64 c.K, .int .i64 c.A2, .int .i64 c.B2, .int .i64 need, .func (.func F) #[] lb, .int .i64 bath, .int .i64 (most : Nat), .int .i64 cold, .int .i64 (cooling : Nat)] 127 (0, 0))) :
    (W.cell? ⟨sb, 0, none⟩ = some (.int .i64 (c.R : Int)) ∧ W.cell? ⟨sb, 1, none⟩ = some (.int .i64 (c.L : Int)) ∧ W.cell? ⟨sb, 2, none⟩ = some (.int .i64 c.A) ∧ W.cell? ⟨sb, 3, none⟩ = some (.int .i64 c.B) ∧ W.cell? ⟨sb, 4, none⟩ = some (.int .i64 c.K) ∧ W.cell? ⟨sb, 5, none⟩ = some (.int .i64 c.A2) ∧ W.cell? ⟨sb, 6, none⟩ = some (.int .i64 c.B2) ∧ W.cell? ⟨sb, 7, none⟩ = some (.int .i64 need) ∧ W.cell? ⟨sb, 8, none⟩ = some (.func (.func F) #[] lb)) ∧
    (W.cell? ⟨sb, 9, none⟩ = some (.int .i64 bath) ∧ W.cell? ⟨sb, 10, none⟩ = some (.int .i64 (most : Nat)) ∧ W.cell? ⟨sb, 11, none⟩ = some (.int .i64 cold) ∧ W.cell? ⟨sb, 12, none⟩ = some (.int .i64 (cooling : Nat))) :=
  ⟨⟨cell_of_row _ _ 0 _ _ _ h, cell_of_row _ _ 1 _ _ _ h, cell_of_row _ _ 2 _ _ _ h, cell_of_row _ _ 3 _ _ _ h, cell_of_row _ _ 4 _ _ _ h, cell_of_row _ _ 5 _ _ _ h, cell_of_row _ _ 6 _ _ _ h, cell_of_row _ _ 7 _ _ _ h, cell_of_row _ _ 8 _ _ _ h⟩, ⟨cell_of_row _ _ 9 _ _ _ h, cell_of_row _ _ 10 _ _ _ h, cell_of_row _ _ 11 _ _ _ h, cell_of_row _ _ 12 _ _ _ h⟩⟩

set_option maxRecDepth 100000 in
set_option maxHeartbeats 8000000 in
theorem least1_any (c : Cn) (need : Int) (F : Nat) (lb : Array Value) (bath cold : Int) (most cooling : Nat) (f : Int → Nat) (lo hi : Int) (mb B0 : Nat) (I : World → Prop) (x : Ck) (sb yb : Nat) (z0 z1 z2 z3 : Value) (w : World) (hR : RateOk F lb f lo hi mb B0 I) (hF : Fix I mb) (hv : c.V) (hG : Good c x.d) (hb : okT cold = true) (hn : cooling ≤ 2000) (hI : I w)
    (hsb : w.heap[sb]? = some (.cells #[.int .i64 (c.R : Int), .int .i64 (c.L : Int), .int .i64 c.A, .int .i64 c.B, .int .i64 c.K, .int .i64 c.A2, .int .i64 c.B2, .int .i64 need, .func (.func F) #[] lb, .int .i64 bath, .int .i64 (most : Nat), .int .i64 cold, .int .i64 (cooling : Nat)] 127 (0, 0))) (hyb : w.heap[yb]? = some (.cells #[z0, z1, z2, z3] 160 (0, 0))) (hat : CkAt yb x w) (hbc : lo ≤ cold ∧ cold ≤ hi) (hbd : ∀ t ∈ x.d.1.1, lo ≤ t ∧ t ≤ hi) :
    Calls Tryz.prog 115 #[.agg (ckc x), .pointer (some ⟨sb, 0, none⟩), .pointer (some ⟨yb, 0, none⟩)] w fun e w' =>
      (enD need (afN c f x.d cold cooling) = true ∧ e = .returned (.bool true) ∧ Below w.heap.size w w') ∨ (enD need (afN c f x.d cold cooling) = false ∧ e = .returned (.bool false) ∧ w'.heap[yb]? = some (.cells (ckc x) 160 (0, 0)) ∧ w.grownBy w' (some yb)) := by
  have HB := hid ((Below.refl _ w).alloc (Nat.le_refl _) (.cells (ckc x) 160))
  have HX := hid (heap_alloc_new w (.cells (ckc x) 160))
  have HSB := hid ((HB.out.block _ (lt_of_block hsb)).trans hsb)
  have HYB := hid ((HB.out.block _ (lt_of_block hyb)).trans hyb)
  have HST := hid (ssterile_any c need F lb bath cold most cooling f lo hi mb B0 I x.d x.ua x.ub x.uc x.ud _ hR hF hv hG hb hn (hR.below hI HB.out) (hat.temps.keep HB.out) (hat.sums.keep HB.out) hbc hbd)
  have hz := lt_of_block HX.out
  have hyz := lt_of_block hyb
  clear hR hF hv hG hb hn hI hat hbc hbd hsb hyb
  obtain ⟨⟨m0, m1, m2, m3, m4, m5, m6, m7, m8⟩, ⟨s0, s1, s2, s3⟩⟩ := sr_cells HSB.out
  have d0 := cell_of_row _ _ 0 _ _ _ HX.out
  have d1 := cell_of_row _ _ 1 _ _ _ HX.out
  have d2 := cell_of_row _ _ 2 _ _ _ HX.out
  simp only [ckc, List.getElem?_toArray, List.getElem?_cons_zero, List.getElem?_cons_succ] at d0 d1 d2
  generalize enD need (afN c f x.d cold cooling) = tst at *
  simp only [ckc] at *
  go_enter Tryz.func115, Tryz.ntmps115
  go_wp2_with fail
  refine HST.out.mono ?_
  rintro e w2 ⟨rfl, hb2⟩
  have HX2 := hid ((hb2.block _ (lt_of_block HX.out)).trans HX.out)
  have HY2 := hid ((hb2.block _ (lt_of_block HYB.out)).trans HYB.out)
  have HB2 := hid (bstep HB.out HB.out.size hb2)
  have hz2 := hb2.size
  clear hb2 m0 m1 m2 m3 m4 m5 m6 m7 m8 s0 s1 s2 s3 d0 d1 d2 HST HSB
  cases tst with
  | true =>
    go_wp2_with fail
    refine bodyPost_ret (v := .bool true) (by simp [results, Tryz.results115, go_sem]) rfl ⟨rfl, HB2.out⟩
  | false =>
    have d0 := cell_of_row _ _ 0 _ _ _ HX2.out
    have d1 := cell_of_row _ _ 1 _ _ _ HX2.out
    have d2 := cell_of_row _ _ 2 _ _ _ HX2.out
    have d3 := cell_of_row _ _ 3 _ _ _ HX2.out
    have y0 := cell_of_row _ _ 0 _ _ _ HY2.out
    have y1 := cell_of_row _ _ 1 _ _ _ HY2.out
    have y2 := cell_of_row _ _ 2 _ _ _ HY2.out
    have y3 := cell_of_row _ _ 3 _ _ _ HY2.out
    simp only [List.getElem?_toArray, List.getElem?_cons_zero, List.getElem?_cons_succ] at d0 d1 d2 d3 y0 y1 y2 y3
    have f0 := frozen_of_row _ _ 0 _ _ HY2.out
    have f1 := frozen_of_row _ _ 1 _ _ HY2.out
    have f2 := frozen_of_row _ _ 2 _ _ HY2.out
    have f3 := frozen_of_row _ _ 3 _ _ HY2.out
    have hzy := lt_of_block HY2.out
    go_wp2_with fail
    generalize hW : World.setCell _ ⟨yb, 3, none⟩ _ = W5
    obtain ⟨h5, e5, g5⟩ := set4w HY2.out hW
    have H5 := hid (And.intro h5 (Lt.grown_more (below_row HB2.out) g5 (fun j e => .inl (Option.some.inj e).symm)))
    refine bodyPost_ret (v := .bool false) (by simp [results, Tryz.results115, go_sem]) rfl ⟨rfl, H5.out.1, H5.out.2⟩

set_option maxRecDepth 100000 in
set_option maxHeartbeats 4000000 in
theorem cooks_any (c : Cn) (need : Int) (F : Nat) (lb : Array Value) (bath cold : Int) (most cooling : Nat) (more : Nat) (x : Ck) (w : World) :
    Calls Tryz.prog 119 #[.agg #[.int .i64 (c.R : Int), .int .i64 (c.L : Int), .int .i64 c.A, .int .i64 c.B, .int .i64 c.K, .int .i64 c.A2, .int .i64 c.B2, .int .i64 need, .func (.func F) #[] lb, .int .i64 bath, .int .i64 (most : Nat), .int .i64 cold, .int .i64 (cooling : Nat)], .agg (ckc x), .int .i64 (more : Nat)] w fun e w' => e = .returned (.func (.func 146) #[] #[.pointer (some ⟨w.heap.size + 1, 0, none⟩), .pointer (some ⟨w.heap.size, 0, none⟩), .pointer (some ⟨w.heap.size + 1 + 1, 0, none⟩)]) ∧
      w' = ((w.alloc (.cells #[.int .i64 (c.R : Int), .int .i64 (c.L : Int), .int .i64 c.A, .int .i64 c.B, .int .i64 c.K, .int .i64 c.A2, .int .i64 c.B2, .int .i64 need, .func (.func F) #[] lb, .int .i64 bath, .int .i64 (most : Nat), .int .i64 cold, .int .i64 (cooling : Nat)] 127)).alloc (.cells (ckc x) 160)).alloc (.cells #[.int .i64 (more : Nat)] 3) := by
  simp only [ckc]
  go_enter Tryz.func119, Tryz.ntmps119
  go_wp2_with fail
  refine bodyPost_ret (v := .func (.func 146) #[] #[.pointer (some ⟨w.heap.size + 1, 0, none⟩), .pointer (some ⟨w.heap.size, 0, none⟩), .pointer (some ⟨w.heap.size + 1 + 1, 0, none⟩)]) (by simp [results, Tryz.results119, go_sem]) rfl ⟨rfl, rfl⟩
end Go.Proofs.YtihbjimnjhfpeaaGreat

/- Walk of first over a search's cooks: contract. -/
namespace Go.Proofs.YtihbjimnjhfpeaaGreat
open Go.RowKit Go.Shelf Go.Lib
attribute [local go_sem] Oper.semAt_some

theorem grown_low {w W W' : World} {row : Option Nat} (h : w.grownBy W row) (hb : Below w.heap.size W W') : w.grownBy W' row :=
  ⟨hb.os.trans h.os, hb.tape.trans h.tape, hb.output.trans h.output, Nat.le_trans h.size hb.size, fun k hk hne => (hb.block k hk).trans (h.block k hk hne)⟩
section
variable {W W' : World} {yb : Nat} {x : Ck}
theorem rowI_offK {row : Option Nat} {a : Option Addr} {n cap : Nat} {l : List Int} (h : RowI W (.slice a n cap) l) (hg : W.grownBy W' row) (ho : ∀ p, a = some p → some p.block ≠ row) : RowI W' (.slice a n cap) l := by
  rcases h with h | ⟨b, o, cap', hv, hm, hc⟩
  · exact .inl h
  · cases hv
    exact .inr ⟨b, o, cap, rfl, hm, fun k hk => Lt.grown_cell hg (World.block_lt_of_cell? W ⟨b, o + k, none⟩ (hc k hk)) (ho ⟨b, o, none⟩ rfl) (hc k hk)⟩
/-- A cook's rows stay where a block turns that is no block of ints and no older than yb. -/
theorem CkAt.grown {row : Option Nat} (h : CkAt yb x W) (hg : W.grownBy W' row) (hr : ∀ j, row = some j → yb ≤ j ∧ ¬ IntAt W j) : CkAt yb x W' := by
  have ho : ∀ a, Loc yb W a → ∀ p, a = some p → some p.block ≠ row := fun a ha p e e2 => by
    obtain ⟨h1, h2⟩ := hr _ e2.symm
    rcases ha p e with h | ⟨h, hi⟩
    · omega
    · exact h2 hi
  have hl : ∀ a, Loc yb W a → Loc yb W' a := fun a ha p e => by
    rcases ha p e with h | ⟨h, cs, fz, hi⟩
    · exact .inl h
    · exact .inr ⟨h, cs, fz, (hg.block _ (lt_of_block hi) (ho a ha p e)).trans hi⟩
  exact ⟨rowI_offK h.temps hg (ho _ h.oa), rowI_offK h.sums hg (ho _ h.ob), hl _ h.oa, hl _ h.ob⟩
theorem CkAt.cells (h : CkAt yb x W) (hc : ∀ (g : Nat) (cs : Array Value) (T : Nat) (fr : Nat × Nat), W.heap[g]? = some (Obj.cells cs T fr) → W'.heap[g]? = some (Obj.cells cs T fr)) : CkAt yb x W' := by
  have hrow : ∀ {v : Value} {l : List Int}, RowI W v l → RowI W' v l := fun {v l} h => by
    rcases h with h | ⟨b, o, cap, hv, hm, h⟩
    · exact .inl h
    · refine .inr ⟨b, o, cap, hv, hm, fun k hk => ?_⟩
      obtain ⟨cs, t, fz, hb⟩ := cells_of_cell (h k hk)
      exact (World.cell?_of_block (a := ⟨b, o + k, none⟩) ((hc _ _ _ _ hb).trans hb.symm)).trans (h k hk)
  have hl : ∀ a, Loc yb W a → Loc yb W' a := fun a ha p e => by
    rcases ha p e with h | ⟨h, cs, fz, hi⟩
    · exact .inl h
    · exact .inr ⟨h, cs, fz, hc _ _ _ _ hi⟩
  exact ⟨hrow h.temps, hrow h.sums, hl _ h.oa, hl _ h.ob⟩
theorem noInt_cook {j : Nat} {cs : Array Value} {fz : Nat × Nat} (h : W.heap[j]? = some (.cells cs 160 fz)) : ¬ IntAt W j := fun ⟨cs', fz', hi⟩ => by
  rw [h] at hi
  exact absurd (Obj.cells.inj (Option.some.inj hi)).2.1 (by decide)
theorem noInt_other {j : Nat} {o : Obj} (h : W.heap[j]? = some o) (hc : o.isCells = false) : ¬ IntAt W j := fun ⟨cs', fz', hi⟩ => by
  rw [h] at hi
  cases hi
  cases hc
theorem noInt_apart {j : Nat} {o : Obj} (h : W.heap[j]? = some o) (hc : Obj.apart 160 o) : ¬ IntAt W j := by
  rcases hc with hc | ⟨cs, rfl⟩
  · exact noInt_other h hc
  · exact noInt_cook h
end
/-- What least's last is behind k rounds that told no. -/
def LastC (c : Cn) (f : Int → Nat) (D : Dish) (bath : Int) (m0 more yb k : Nat) (W : World) : Prop := ∃ x, W.heap[yb]? = some (.cells (ckc x) 160 (0, 0)) ∧ XsC c f D bath m0 more yb (k - 1) x W
def zck : Array Value := #[.slice none 0 0, .bool false, .slice none 0 0, .int .i64 0]
/-- What first's rounds stand on. -/
structure FiB (c : Cn) (need : Int) (F : Nat) (lb : Array Value) (bath cold : Int) (most cooling : Nat) (I : World → Prop) (sbL yb : Nat) (Z : Array Value) (bo : Bool) (w W : World) : Prop where
  sL : W.heap[sbL]? = some (.cells #[.int .i64 (c.R : Int), .int .i64 (c.L : Int), .int .i64 c.A, .int .i64 c.B, .int .i64 c.K, .int .i64 c.A2, .int .i64 c.B2, .int .i64 need, .func (.func F) #[] lb, .int .i64 bath, .int .i64 (most : Nat), .int .i64 cold, .int .i64 (cooling : Nat)] 127 (0, 0))
  inv : I W
  b1 : W.heap[w.heap.size]? = some (.cells #[.func (.func 115) #[] #[.pointer (some ⟨sbL, 0, none⟩), .pointer (some ⟨yb, 0, none⟩)]] 162 (0, 0))
  b2 : W.heap[w.heap.size + 1]? = some (.cells Z 160 (0, 0))
  b3 : W.heap[w.heap.size + 1 + 1]? = some (.cells #[.bool bo] 4 (0, 0))
  gr : w.grownBy W (some yb)
section
variable {c : Cn} {need : Int} {F : Nat} {lb : Array Value} {bath cold : Int} {most cooling : Nat} {f : Int → Nat} {lo hi : Int} {mb B0 : Nat} {I : World → Prop} {sbL yb B : Nat} {Z : Array Value} {bo : Bool} {w W W' : World}
theorem FiB.grown {row : Option Nat} (hR : RateOk F lb f lo hi mb B0 I) (h : FiB c need F lb bath cold most cooling I sbL yb Z bo w W) (hg : W.grownBy W' row) (hB0 : B0 ≤ yb) (hs : sbL < w.heap.size) (hne : sbL ≠ yb) (hy : yb < w.heap.size) (hr : ∀ j, row = some j → j = yb ∨ w.heap.size + 1 + 1 < j) : FiB c need F lb bath cold most cooling I sbL yb Z bo w W' := by
  have hk : ∀ j o, W.heap[j]? = some o → j ≠ yb → j ≤ w.heap.size + 1 + 1 → W'.heap[j]? = some o := fun j o h1 h2 h3 => (hg.block j (lt_of_block h1) (fun e => by have := hr _ e.symm; omega)).trans h1
  exact ⟨hk _ _ h.sL hne (by omega), hR.keep _ _ _ h.inv hg (fun j e => by have := hr _ e; omega), hk _ _ h.b1 (by omega) (by omega), hk _ _ h.b2 (by omega) (by omega), hk _ _ h.b3 (by omega) (by omega),
    Lt.grown_more h.gr hg (fun j e => by have := hr _ e; omega)⟩
theorem FiB.told (h : FiB c need F lb bath cold most cooling I sbL yb Z bo w W) (hR : RateOk F lb f lo hi mb B0 I) (hB0 : B0 ≤ yb) (hs : sbL < w.heap.size) (hy : yb < w.heap.size) {cs : Array Value} {b' : Bool} (hW : (W.setRow (w.heap.size + 1) cs).setCell ⟨w.heap.size + 1 + 1, 0, none⟩ (.bool b') = W') :
    FiB c need F lb bath cold most cooling I sbL yb cs b' w W' ∧ (∀ j, j ≠ w.heap.size + 1 → j ≠ w.heap.size + 1 + 1 → W'.heap[j]? = W.heap[j]?) ∧ W'.heap.size = W.heap.size ∧ ∃ W1, W.grownBy W1 (some (w.heap.size + 1)) ∧ ¬ IntAt W (w.heap.size + 1) ∧ W1.grownBy W' (some (w.heap.size + 1 + 1)) ∧ ¬ IntAt W1 (w.heap.size + 1 + 1) := by
  have g1 := grownBy_setRow W (w.heap.size + 1) cs
  have e1 : ∀ j, j ≠ w.heap.size + 1 → (W.setRow (w.heap.size + 1) cs).heap[j]? = W.heap[j]? := fun j hj => setRow_other _ _ _ _ hj
  have k2 : (W.setRow (w.heap.size + 1) cs).heap[w.heap.size + 1]? = some (.cells cs 160 (0, 0)) := setRow_heap _ _ _ _ _ _ h.b2
  have k3 : (W.setRow (w.heap.size + 1) cs).heap[w.heap.size + 1 + 1]? = some (.cells #[.bool bo] 4 (0, 0)) := (e1 _ (by omega)).trans h.b3
  have hz : (W.setRow (w.heap.size + 1) cs).heap.size = W.heap.size := by simp
  generalize W.setRow (w.heap.size + 1) cs = W1 at *
  have g2 : W1.grownBy (W1.setCell ⟨w.heap.size + 1 + 1, 0, none⟩ (.bool b')) (some (w.heap.size + 1 + 1)) := ⟨rfl, rfl, rfl, by simp, fun k _ hk => heap_setCell_other _ _ _ _ (fun e => hk (by rw [e]))⟩
  have e2 : ∀ j, j ≠ w.heap.size + 1 + 1 → (W1.setCell ⟨w.heap.size + 1 + 1, 0, none⟩ (.bool b')).heap[j]? = W1.heap[j]? := fun j hj => heap_setCell_other _ _ _ _ (by exact hj)
  have k4 := heap_setCell_same W1 (w.heap.size + 1 + 1) 0 _ _ (.bool b') k3
  have hz2 : (W1.setCell ⟨w.heap.size + 1 + 1, 0, none⟩ (.bool b')).heap.size = W1.heap.size := by simp
  rw [hW] at g2 e2 k4 hz2
  have ni : ¬ IntAt W1 (w.heap.size + 1 + 1) := fun ⟨cs', fz', hi⟩ => by
    rw [k3] at hi
    exact absurd (Obj.cells.inj (Option.some.inj hi)).2.1 (by decide)
  refine ⟨⟨(e2 _ (by omega)).trans ((e1 _ (by omega)).trans h.sL), hR.keep _ _ _ (hR.keep _ _ _ h.inv g1 (fun j e => by cases e; omega)) g2 (fun j e => by cases e; omega), (e2 _ (by omega)).trans ((e1 _ (by omega)).trans h.b1), (e2 _ (by omega)).trans k2, k4,
    Lt.grown_more (Lt.grown_more h.gr g1 (fun j e => by cases e; exact .inr (by omega))) g2 (fun j e => by cases e; exact .inr (by omega))⟩, fun j h1 h2 => (e2 _ h2).trans (e1 _ h1), hz2.trans hz, W1, g1, noInt_cook h.b2, g2, ni⟩
end
end Go.Proofs.YtihbjimnjhfpeaaGreat
