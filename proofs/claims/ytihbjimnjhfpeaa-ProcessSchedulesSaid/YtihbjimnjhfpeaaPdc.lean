/- Walk of the iterator over cooks: contract. -/
import Derived.Test.YtihbjimnjhfpeaaG34
import Derived.Test.YtihbjimnjhfpeaaG09
namespace Go.Proofs.Ytihbjimnjhfpeaa
open Go.RowKit Go.Shelf Go.Lib
attribute [local go_sem] Oper.semAt_some

/-- A cook as it is handed on: its dish, its ticks, and where its rows lie. -/
structure Ck where
  d : Dish
  m : Nat
  ua : Option Addr
  ub : Option Addr
  uc : Nat
  ud : Nat
def ckc (x : Ck) : Array Value := #[.slice x.ua x.d.1.1.length x.uc, .bool x.d.1.2, .slice x.ub x.d.2.length x.ud, .int .i64 (x.m : Nat)]
def encC (x : Ck) : Array Value := #[.agg (ckc x)]
theorem ckc_one (x : Ck) : (ckc x).all (·.oneCell') = true := by simp [ckc, Value.oneCell']
theorem infoCk (x : Ck) : (Try.prog.info? 78).map (·.size) = some (ckc x).size := by
  show _ = some 4
  kernel_rfl
/-- Where a row lies: below y0, or behind it in a block of ints. -/
def Loc (y0 : Nat) (W : World) (a : Option Addr) : Prop := ∀ p, a = some p → p.block < y0 ∨ (y0 < p.block ∧ IntAt W p.block)
theorem Loc.ne {y0 : Nat} {W : World} {a : Option Addr} (h : Loc y0 W a) : ∀ p, a = some p → p.block ≠ y0 := fun p e => by rcases h p e with h | ⟨h, _⟩ <;> omega
theorem Loc.off {y0 g : Nat} {W : World} {a : Option Addr} {cs : Array Value} {fz : Nat × Nat} (h : Loc y0 W a) (hg : W.heap[g]? = some (.cells cs 78 fz)) (hy : y0 ≤ g) : ∀ p, a = some p → p.block ≠ g := fun p e => by
  rcases h p e with h | ⟨h, cs', fz', hi⟩
  · omega
  · rintro rfl
    rw [hg] at hi
    exact absurd (Obj.cells.inj (Option.some.inj hi)).2.1 (by decide)
theorem Loc.turn {y0 g : Nat} {W W' : World} {a : Option Addr} (h : Loc y0 W a) (hg : ∀ j, j ≠ g → W'.heap[j]? = W.heap[j]?) (ho : ∀ p, a = some p → p.block ≠ g) : Loc y0 W' a := fun p e => by
  rcases h p e with h | ⟨h, cs, fz, hi⟩
  · exact .inl h
  · exact .inr ⟨h, cs, fz, (hg _ (ho p e)).trans hi⟩
theorem Loc.keep {y0 : Nat} {W W' : World} {a : Option Addr} (h : Loc y0 W a) (hb : Below W.heap.size W W') : Loc y0 W' a := fun p e => by
  rcases h p e with h | ⟨h, cs, fz, hi⟩
  · exact .inl h
  · exact .inr ⟨h, cs, fz, (hb.block _ (lt_of_block hi)).trans hi⟩
/-- The cook's rows as they read. -/
structure CkAt (y0 : Nat) (x : Ck) (W : World) : Prop where
  temps : RowI W (.slice x.ua x.d.1.1.length x.uc) x.d.1.1
  sums : RowI W (.slice x.ub x.d.2.length x.ud) (ivN x.d.2)
  oa : Loc y0 W x.ua
  ob : Loc y0 W x.ub
theorem rowI_lt {W : World} {p : Addr} {n cap : Nat} {l : List Int} (h : RowI W (.slice (some p) n cap) l) (h0 : 0 < l.length) : p.block < W.heap.size := by
  rcases h with ⟨_, _, _, rfl⟩ | ⟨b, o, cap', hv, hm, hc⟩
  · simp at h0
  · cases hv
    have := World.block_lt_of_cell? W ⟨b, o + 0, none⟩ (hc 0 h0)
    exact this
/-- Every block of cells stays, but that at y0; and what the rate stands on. -/
structure KpK (I : World → Prop) (y0 : Nat) (W W' : World) : Prop where
  size : W.heap.size ≤ W'.heap.size
  cells : ∀ j cs t fz, W.heap[j]? = some (.cells cs t fz) → j ≠ y0 → W'.heap[j]? = some (.cells cs t fz)
  inv : I W → I W'
section
variable {I : World → Prop} {y0 : Nat} {W W' W'' : World}
theorem KpK.trans (h : KpK I y0 W W') (k : KpK I y0 W' W'') : KpK I y0 W W'' :=
  ⟨Nat.le_trans h.size k.size, fun j cs t fz h1 h2 => k.cells j cs t fz (h.cells j cs t fz h1 h2) h2, fun h1 => k.inv (h.inv h1)⟩
theorem cells_of_cell {b o : Nat} {v : Value} (h : W.cell? ⟨b, o, none⟩ = some v) : ∃ cs t fz, W.heap[b]? = some (.cells cs t fz) := by
  unfold World.cell? at h
  cases hb : W.heap[(⟨b, o, none⟩ : Addr).block]? with
  | none => simp [hb] at h
  | some ob =>
    cases ob with
    | cells cs t fz => exact ⟨cs, t, fz, rfl⟩
    | _ => simp [hb] at h
theorem KpK.row {a : Option Addr} {n cap : Nat} {l : List Int} (hk : KpK I y0 W W') (h : RowI W (.slice a n cap) l) (ho : ∀ p, a = some p → p.block ≠ y0) : RowI W' (.slice a n cap) l := by
  rcases h with h | ⟨b, o, cap', hv, hm, hc⟩
  · exact .inl h
  · cases hv
    refine .inr ⟨b, o, cap, rfl, hm, fun k hk' => ?_⟩
    have h1 := hc k hk'
    obtain ⟨cs, t, fz, hb⟩ := cells_of_cell h1
    exact (World.cell?_of_block (a := ⟨b, o + k, none⟩) ((hk.cells b cs t fz hb (ho _ rfl)).trans hb.symm)).trans h1
theorem KpK.loc {a : Option Addr} (hk : KpK I y0 W W') (h : Loc y0 W a) : Loc y0 W' a := fun p e => by
  rcases h p e with h | ⟨h, cs, fz, hi⟩
  · exact .inl h
  · exact .inr ⟨h, cs, fz, hk.cells _ _ _ _ hi (by omega)⟩
theorem KpK.ck {x : Ck} (hk : KpK I y0 W W') (h : CkAt y0 x W) : CkAt y0 x W' := ⟨hk.row h.temps h.oa.ne, hk.row h.sums h.ob.ne, hk.loc h.oa, hk.loc h.ob⟩
theorem CkAt.keep {x : Ck} (h : CkAt y0 x W) (hb : Below W.heap.size W W') : CkAt y0 x W' := ⟨h.temps.keep hb, h.sums.keep hb, h.oa.keep hb, h.ob.keep hb⟩
end
/-- What is laid for a variable that is a struct. -/
theorem laid_row {W W' : World} {T : TypeId} {Z cs : Array Value} (hW : (W.alloc (.cells Z T)).setRow W.heap.size cs = W') : W'.heap[W.heap.size]? = some (.cells cs T (0, 0)) ∧ Below W.heap.size W W' := by
  subst hW
  exact ⟨setRow_heap _ _ _ _ _ _ (heap_alloc_new W _), ((Below.refl _ W).alloc (Nat.le_refl _) _).trans ⟨rfl, rfl, rfl, by simp, fun k hk => setRow_other _ _ _ _ (by omega)⟩⟩
theorem set4 {W : World} {b : Nat} {T : TypeId} {x0 x1 x2 x3 y0 y1 y2 : Value} (h : W.heap[b]? = some (.cells #[x0, x1, x2, x3] T (0, 0))) :
    (((W.setCell ⟨b, 0, none⟩ y0).setCell ⟨b, 1, none⟩ y1).setCell ⟨b, 2, none⟩ y2).heap[b]? = some (.cells #[y0, y1, y2, x3] T (0, 0)) ∧ (∀ g, g ≠ b → (((W.setCell ⟨b, 0, none⟩ y0).setCell ⟨b, 1, none⟩ y1).setCell ⟨b, 2, none⟩ y2).heap[g]? = W.heap[g]?) := by
  have h0 := heap_setCell_same W b 0 _ _ y0 h
  have h1 := heap_setCell_same _ b 1 _ _ y1 h0
  have h2 := heap_setCell_same _ b 2 _ _ y2 h1
  refine ⟨h2, fun g hg => ?_⟩
  rw [heap_setCell_other _ _ _ _ (by exact hg), heap_setCell_other _ _ _ _ (by exact hg), heap_setCell_other _ _ _ _ (by exact hg)]
/-- A row of ints stays where one block turns that it doesn't lie in. -/
theorem rowI_turned {W W' : World} {g : Nat} {a : Option Addr} {n cap : Nat} {l : List Int} (h : RowI W (.slice a n cap) l) (hg : ∀ j, j ≠ g → W'.heap[j]? = W.heap[j]?) (ho : ∀ p, a = some p → p.block ≠ g) : RowI W' (.slice a n cap) l := by
  rcases h with h | ⟨b, o, cap', hv, hm, hc⟩
  · exact .inl h
  · cases hv
    exact .inr ⟨b, o, cap, rfl, hm, fun k hk' => (World.cell?_of_block (a := ⟨b, o + k, none⟩) (hg b (ho ⟨b, o, none⟩ rfl))).trans (hc k hk')⟩
theorem CkAt.turn {y0 g : Nat} {x : Ck} {W W' : World} (h : CkAt y0 x W) (hg : ∀ j, j ≠ g → W'.heap[j]? = W.heap[j]?) (ha : ∀ p, x.ua = some p → p.block ≠ g) (hb : ∀ p, x.ub = some p → p.block ≠ g) : CkAt y0 x W' :=
  ⟨rowI_turned h.temps hg ha, rowI_turned h.sums hg hb, h.oa.turn hg ha, h.ob.turn hg hb⟩

/-- What the iterator stands on: the search's box, the stride's box. -/
structure ItK (c : Cn) (need : Int) (F : Nat) (lb : Array Value) (bath cold : Int) (most cooling : Nat) (I : World → Prop) (sb qb more n0 y0 : Nat) (W : World) : Prop where
  sBox : W.heap[sb]? = some (.cells #[.int .i64 (c.R : Int), .int .i64 (c.L : Int), .int .i64 c.A, .int .i64 c.B, .int .i64 c.K, .int .i64 c.A2, .int .i64 c.B2, .int .i64 need, .func (.func F) #[] lb, .int .i64 bath, .int .i64 (most : Nat), .int .i64 cold, .int .i64 (cooling : Nat)] 58 (0, 0))
  qBox : W.heap[qb]? = some (.cells #[.int .i64 (more : Nat)] 3 (0, 0))
  inv : I W
  lt1 : sb < n0
  lt2 : qb < n0
  le : n0 ≤ W.heap.size
  ne1 : sb ≠ y0
  ne2 : qb ≠ y0
section
variable {c : Cn} {need : Int} {F : Nat} {lb : Array Value} {bath cold : Int} {most cooling : Nat} {f : Int → Nat} {lo hi : Int} {mb B0 : Nat} {I : World → Prop} {sb qb more n0 y0 g : Nat} {W W' : World}
theorem ItK.keep (hR : RateOk F lb f lo hi mb B0 I) (h : ItK c need F lb bath cold most cooling I sb qb more n0 y0 W) (hb : Below W.heap.size W W') : ItK c need F lb bath cold most cooling I sb qb more n0 y0 W' :=
  ⟨(hb.block _ (lt_of_block h.sBox)).trans h.sBox, (hb.block _ (lt_of_block h.qBox)).trans h.qBox, hR.below h.inv hb, h.lt1, h.lt2, Nat.le_trans h.le hb.size, h.ne1, h.ne2⟩
theorem ItK.kp (h : ItK c need F lb bath cold most cooling I sb qb more n0 y0 W) (hk : KpK I y0 W W') : ItK c need F lb bath cold most cooling I sb qb more n0 y0 W' :=
  ⟨hk.cells _ _ _ _ h.sBox h.ne1, hk.cells _ _ _ _ h.qBox h.ne2, hk.inv h.inv, h.lt1, h.lt2, Nat.le_trans h.le hk.size, h.ne1, h.ne2⟩
theorem ItK.turn (hR : RateOk F lb f lo hi mb B0 I) (h : ItK c need F lb bath cold most cooling I sb qb more n0 y0 W) (hg : W.grownBy W' (some g)) (hn : n0 ≤ g) (h0 : B0 ≤ n0) (he : ∀ j, j ≠ g → W'.heap[j]? = W.heap[j]?) : ItK c need F lb bath cold most cooling I sb qb more n0 y0 W' :=
  ⟨(he _ (by have := h.lt1; omega)).trans h.sBox, (he _ (by have := h.lt2; omega)).trans h.qBox, hR.keep _ _ _ h.inv hg (fun j e => by cases e; omega), h.lt1, h.lt2, Nat.le_trans h.le hg.size, h.ne1, h.ne2⟩
theorem ItK.facts (h : ItK c need F lb bath cold most cooling I sb qb more n0 y0 W) :
    (W.cell? ⟨sb, 0, none⟩ = some (.int .i64 (c.R : Int)) ∧ W.cell? ⟨sb, 1, none⟩ = some (.int .i64 (c.L : Int)) ∧ W.cell? ⟨sb, 2, none⟩ = some (.int .i64 c.A) ∧ W.cell? ⟨sb, 3, none⟩ = some (.int .i64 c.B) ∧ W.cell? ⟨sb, 4, none⟩ = some (.int .i64 c.K) ∧ W.cell? ⟨sb, 5, none⟩ = some (.int .i64 c.A2) ∧ W.cell? ⟨sb, 6, none⟩ = some (.int .i64 c.B2) ∧ W.cell? ⟨sb, 7, none⟩ = some (.int .i64 need) ∧ W.cell? ⟨sb, 8, none⟩ = some (.func (.func F) #[] lb)) ∧
    (W.cell? ⟨sb, 9, none⟩ = some (.int .i64 bath) ∧ W.cell? ⟨sb, 10, none⟩ = some (.int .i64 (most : Nat)) ∧ W.cell? ⟨sb, 11, none⟩ = some (.int .i64 cold) ∧ W.cell? ⟨sb, 12, none⟩ = some (.int .i64 (cooling : Nat))) ∧ W.cell? ⟨qb, 0, none⟩ = some (.int .i64 (more : Nat)) :=
  ⟨⟨cell_of_row _ _ 0 _ _ _ h.sBox, cell_of_row _ _ 1 _ _ _ h.sBox, cell_of_row _ _ 2 _ _ _ h.sBox, cell_of_row _ _ 3 _ _ _ h.sBox, cell_of_row _ _ 4 _ _ _ h.sBox, cell_of_row _ _ 5 _ _ _ h.sBox, cell_of_row _ _ 6 _ _ _ h.sBox, cell_of_row _ _ 7 _ _ _ h.sBox, cell_of_row _ _ 8 _ _ _ h.sBox⟩, ⟨cell_of_row _ _ 9 _ _ _ h.sBox, cell_of_row _ _ 10 _ _ _ h.sBox, cell_of_row _ _ 11 _ _ _ h.sBox, cell_of_row _ _ 12 _ _ _ h.sBox⟩, cell_of_row _ _ 0 _ _ _ h.qBox⟩
end
/-- The iterator's own variable, a cook of n ticks more than at first, and m ticks told. -/
structure CurC (c : Cn) (f : Int → Nat) (D : Dish) (bath : Int) (n m y0 nb : Nat) (x : Ck) (W : World) : Prop where
  box : W.heap[nb]? = some (.cells (ckc x) 78 (0, 0))
  at' : CkAt y0 x W
  dis : x.d = afN c f D bath n
  tick : x.m = m
  lt : y0 < nb
/-- What the k-th round is for. -/
def XsC (c : Cn) (f : Int → Nat) (D : Dish) (bath : Int) (m0 more y0 k : Nat) (x : Ck) (W : World) : Prop := CkAt y0 x W ∧ x.d = afN c f D bath (k * more) ∧ x.m = m0 + k * more
def mOf (v : Value) (W : World) : Nat := match v with
  | .pointer (some a) => match W.cell? ⟨a.block, 3, none⟩ with
    | some (.int _ i) => i.toNat
    | _ => 0
  | _ => 0
section
variable {c : Cn} {f : Int → Nat} {D : Dish} {bath : Int} {n m y0 nb : Nat} {x : Ck} {I : World → Prop} {W W' : World}
theorem CurC.mOf (h : CurC c f D bath n m y0 nb x W) : mOf (.pointer (some ⟨nb, 0, none⟩)) W = m := by
  have := cell_of_row W nb 3 _ _ _ h.box
  unfold Proofs.Ytihbjimnjhfpeaa.mOf
  simp only [this]
  have e := h.tick
  simp [ckc, e]
theorem CurC.keep (h : CurC c f D bath n m y0 nb x W) (hb : Below W.heap.size W W') : CurC c f D bath n m y0 nb x W' := ⟨(hb.block _ (lt_of_block h.box)).trans h.box, h.at'.keep hb, h.dis, h.tick, h.lt⟩
theorem CurC.kp (h : CurC c f D bath n m y0 nb x W) (hk : KpK I y0 W W') : CurC c f D bath n m y0 nb x W' := ⟨hk.cells _ _ _ _ h.box (by have := h.lt; omega), hk.ck h.at', h.dis, h.tick, h.lt⟩
/-- The next tick's dish is laid into the variable. -/
theorem CurC.store (h : CurC c f D bath n m y0 nb x W) {E : Dish} {ua ub : Option Addr} {uc ud : Nat} (hE : E = afN c f D bath (n + 1)) (ht : RowI W (.slice ua E.1.1.length uc) E.1.1) (hs : RowI W (.slice ub E.2.length ud) (ivN E.2)) (ha : Loc y0 W ua) (hb : Loc y0 W ub)
    (hW : (((W.setCell ⟨nb, 0, none⟩ (.slice ua E.1.1.length uc)).setCell ⟨nb, 1, none⟩ (.bool E.1.2)).setCell ⟨nb, 2, none⟩ (.slice ub E.2.length ud)) = W') :
    CurC c f D bath (n + 1) m y0 nb ⟨E, x.m, ua, ub, uc, ud⟩ W' ∧ (∀ j, j ≠ nb → W'.heap[j]? = W.heap[j]?) ∧ W.grownBy W' (some nb) := by
  have h4 := h.box
  obtain ⟨e1, e2⟩ := set4 (y0 := .slice ua E.1.1.length uc) (y1 := .bool E.1.2) (y2 := .slice ub E.2.length ud) h4
  have hg := set3_grown (W := W) (b := nb) (y0 := .slice ua E.1.1.length uc) (y1 := .bool E.1.2) (y2 := .slice ub E.2.length ud)
  rw [hW] at e1 e2 hg
  have hl := h.lt
  have h1 := ha.off h.box (by omega)
  have h2 := hb.off h.box (by omega)
  exact ⟨⟨e1, ⟨rowI_turned ht e2 h1, rowI_turned hs e2 h2, ha.turn e2 h1, hb.turn e2 h2⟩, hE, h.tick, hl⟩, e2, hg⟩
/-- Its ticks are told anew. -/
theorem CurC.count (h : CurC c f D bath n m y0 nb x W) {m' : Nat} (hW : W.setCell ⟨nb, 3, none⟩ (.int .i64 (m' : Nat)) = W') :
    CurC c f D bath n m' y0 nb ⟨x.d, m', x.ua, x.ub, x.uc, x.ud⟩ W' ∧ (∀ j, j ≠ nb → W'.heap[j]? = W.heap[j]?) ∧ W.grownBy W' (some nb) := by
  have h0 := heap_setCell_same W nb 3 _ _ (.int .i64 (m' : Nat)) h.box
  have e2 : ∀ j, j ≠ nb → (W.setCell ⟨nb, 3, none⟩ (.int .i64 (m' : Nat))).heap[j]? = W.heap[j]? := fun j hj => heap_setCell_other _ _ _ _ (by exact hj)
  have hg : W.grownBy (W.setCell ⟨nb, 3, none⟩ (.int .i64 (m' : Nat))) (some nb) := ⟨rfl, rfl, rfl, by simp, fun k _ hk => e2 k (fun e => hk (by rw [e]))⟩
  rw [hW] at h0 e2 hg
  have hl := h.lt
  have a := h.at'.turn e2 (h.at'.oa.off h.box (by omega)) (h.at'.ob.off h.box (by omega))
  exact ⟨⟨h0, ⟨a.temps, a.sums, a.oa, a.ob⟩, h.dis, rfl, hl⟩, e2, hg⟩
/-- A new variable with what the old one held. -/
theorem CurC.next (h : CurC c f D bath n m y0 nb x W) {Z : Array Value} (hW : (W.alloc (.cells Z 78)).setRow W.heap.size (ckc x) = W') :
    CurC c f D bath n m y0 W.heap.size x W' ∧ Below W.heap.size W W' := by
  obtain ⟨h1, h2⟩ := laid_row hW
  exact ⟨⟨h1, h.at'.keep h2, h.dis, h.tick, by have := lt_of_block h.box; have := h.lt; omega⟩, h2⟩
end
end Go.Proofs.Ytihbjimnjhfpeaa
