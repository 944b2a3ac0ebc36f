/- What the iterator of starts stands on, and what a round pays. -/
import Derived.Test.YtikjgbfbbkmmcaaQvt
import Derived.Test.YtikjgbfbbkmmcaaQvl
import Derived.Test.YtikjgbfbbkmmcaaXw
namespace Go.Proofs.Ytikjgbfbbkmmcaa
open Go.RowKit Go.Shelf Rt
attribute [local go_sem] Oper.semAt_some

abbrev sstC (y : Sst) : Array Value := #[.int .i64 y.b, .int .i64 y.v, .int .i64 y.t]
def encY (y : Sst) : Array Value := #[.agg (sstC y)]
abbrev vesC (x y : Int) : Array Value := #[.int .i64 x, .int .i64 y]
theorem infoBskA (x : Bsk) : (Try.prog.info? 55).map (·.size) = some (bskC x).size := by show _ = some 4; kernel_rfl
theorem infoVesA (x y : Int) : (Try.prog.info? 99).map (·.size) = some (vesC x y).size := by show _ = some 2; kernel_rfl
theorem infoSstA (y : Sst) : (Try.prog.info? 57).map (·.size) = some (sstC y).size := by show _ = some 3; kernel_rfl
theorem bskC_one (x : Bsk) : (bskC x).all (·.oneCell') = true := by simp [bskC, Value.oneCell']
theorem vesC_one (x y : Int) : (vesC x y).all (·.oneCell') = true := by simp [vesC, Value.oneCell']
theorem sstC_one (y : Sst) : (sstC y).all (·.oneCell') = true := by simp [sstC, Value.oneCell']
/-- What is laid for a variable that is a struct. -/
theorem laidQ {W W' : World} {T : TypeId} {Z cs : Array Value} (hW : (W.alloc (.cells Z T)).setRow W.heap.size cs = W') : W'.heap[W.heap.size]? = some (.cells cs T (0, 0)) ∧ Below W.heap.size W W' ∧ W'.heap.size = W.heap.size + 1 := by
  subst hW
  exact ⟨setRow_heap _ _ _ _ _ _ (heap_alloc_new W _), ((Below.refl _ W).alloc (Nat.le_refl _) _).trans ⟨rfl, rfl, rfl, by simp, fun k hk => setRow_other _ _ _ _ (by omega)⟩, by simp⟩
/-- What a round pays: old blocks stay but two; and every block of the pool's types stays. -/
structure KpV (n0 x0 y0 : Nat) (W W' : World) : Prop where
  size : W.heap.size ≤ W'.heap.size
  low : ∀ j, j < n0 → j ≠ x0 → j ≠ y0 → W'.heap[j]? = W.heap[j]?
  own : ∀ (j : Nat) (cs : Array Value) (t : Nat), TV t → W.heap[j]? = some (.cells cs t (0, 0)) → W'.heap[j]? = some (.cells cs t (0, 0))
/-- What the iterator stands on: its three boxes, and old memory. -/
structure ItV (v : Value) (m : Nat) (p : Int) (w0 : World) (mb lb qb n0 : Nat) (w : World) : Prop where
  mbx : w.heap[mb]? = some (.cells #[.int .i64 (m : Nat)] 3 (0, 0))
  lbx : w.heap[lb]? = some (.cells #[v] 22 (0, 0))
  qbx : w.heap[qb]? = some (.cells #[.int .i64 p] 3 (0, 0))
  low : ∀ j, j < w0.heap.size → w.heap[j]? = w0.heap[j]?
  lt : mb < n0 ∧ lb < n0 ∧ qb < n0 ∧ w0.heap.size ≤ n0
  le : n0 ≤ w.heap.size
section
variable {v : Value} {m : Nat} {p : Int} {w0 w w' : World} {mb lb qb n0 x0 y0 pb base : Nat} {l : List Pr}
theorem KpV.trans {A B C : World} (h : KpV n0 x0 y0 A B) (k : KpV n0 x0 y0 B C) : KpV n0 x0 y0 A C :=
  ⟨Nat.le_trans h.size k.size, fun j h1 h2 h3 => (k.low j h1 h2 h3).trans (h.low j h1 h2 h3), fun j cs t h1 h2 => k.own j cs t h1 (h.own j cs t h1 h2)⟩
theorem KpV.put {W : World} {j0 : Nat} {o o' : Obj} (hl : n0 ≤ j0) (h : W.heap[j0]? = some o) (hc : o.isCells = false) : KpV n0 x0 y0 W (W.putObj j0 o') :=
  ⟨by simp, fun j h1 _ _ => World.putObj_heap_other (by omega), fun j cs t _ h1 => (World.putObj_heap_other (by rintro rfl; rw [h] at h1; cases h1; cases hc)).trans h1⟩
theorem kpV_below {W W' : World} (hn : n0 ≤ W.heap.size) (h : Below W.heap.size W W') : KpV n0 x0 y0 W W' :=
  ⟨h.size, fun j hj _ _ => h.block j (by omega), fun j cs t _ hj => (h.block j (Array.getElem?_eq_some_iff.1 hj).1).trans hj⟩
theorem ItV.past (h : ItV v m p w0 mb lb qb n0 w) (hs : w.heap.size ≤ w'.heap.size) (hb : ∀ j, j < n0 → w'.heap[j]? = w.heap[j]?) : ItV v m p w0 mb lb qb n0 w' := by
  obtain ⟨l1, l2, l3, l4⟩ := h.lt
  exact ⟨(hb _ l1).trans h.mbx, (hb _ l2).trans h.lbx, (hb _ l3).trans h.qbx, fun j hj => (hb j (by omega)).trans (h.low j hj), h.lt, Nat.le_trans h.le hs⟩
theorem ItV.tn (h : ItV v m p w0 mb lb qb n0 w) (ht : Tn TV pb w w') (hn : n0 ≤ pb) : ItV v m p w0 mb lb qb n0 w' :=
  h.past ht.size (fun j hj => ht.block (by omega) (by have := h.le; omega))
theorem ItV.kp (h : ItV v m p w0 mb lb qb n0 w) (hk : KpV n0 x0 y0 w w') (hx : (mb ≠ x0 ∧ mb ≠ y0) ∧ (lb ≠ x0 ∧ lb ≠ y0) ∧ (qb ≠ x0 ∧ qb ≠ y0) ∧ w0.heap.size ≤ x0 ∧ w0.heap.size ≤ y0) : ItV v m p w0 mb lb qb n0 w' := by
  obtain ⟨l1, l2, l3, l4⟩ := h.lt
  obtain ⟨x1, x2, x3, x4, x5⟩ := hx
  exact ⟨(hk.low _ l1 x1.1 x1.2).trans h.mbx, (hk.low _ l2 x2.1 x2.2).trans h.lbx, (hk.low _ l3 x3.1 x3.2).trans h.qbx, fun j hj => (hk.low j (by omega) (by omega) (by omega)).trans (h.low j hj), h.lt, Nat.le_trans h.le hk.size⟩
theorem HpAt.kp (h : HpAt pb base l w) (hk : KpV n0 x0 y0 w w') : HpAt pb base l w' := by
  obtain ⟨m, h1, h2, ⟨v, h3, h4⟩, h5, h6⟩ := h
  refine ⟨m, h1, h2, ⟨v, hk.own _ _ _ (.inl rfl) h3, h4.1, ?_⟩, Nat.le_trans h5 hk.size, h6⟩
  rcases h4.2 with hn | ⟨g, cap, cur, rfl, hb', hgg, rest⟩
  · exact .inl hn
  · exact .inr ⟨g, cap, cur, rfl, hb', hk.own _ _ _ (.inr rfl) hgg, rest⟩
theorem RowE.lows {α : Type} {C : Enc α} {l : List α} {W0 : World} (h : RowE C W0 v l) (hl : ∀ j, j < W0.heap.size → w.heap[j]? = W0.heap[j]?) : RowE C w v l := h.low hl
end
/-- A valid list, and how it is served. -/
structure SvOk (l : List Bsk) (m : Nat) (p : Int) : Prop where
  len : l.length ≤ 500
  ok : ∀ x ∈ l, oneQ x = true
  asc : l.Pairwise fun x y => befK x y = true
  m1 : 1 ≤ m
  m12 : m ≤ 12
  p1 : 1 ≤ p
  p2 : p ≤ 100000000
section
variable {l : List Bsk} {m : Nat} {p : Int}
theorem SvOk.far (h : SvOk l m p) {k : Nat} (hk : k < l.length) : 0 ≤ fcT (caQ l) m p k ∧ fcT (caQ l) m p k + p ≤ 60000000000 :=
  ⟨fcT_nonneg (caQ_nonneg h.ok) k, fcT_far (by have := h.m1; omega) (caQ_nonneg h.ok) (caQ_mono h.asc) (caQ_most h.ok) (by have := h.p1; omega) h.p2 (by have := h.len; omega)⟩
theorem SvOk.ne (h : SvOk l m p) (k : Nat) : fcF (caQ l) m p k ≠ [] := fun e => by
  have h2 := fcF_len (caQ l) m p k
  rw [e] at h2
  have := h.m1
  simp at h2
  omega
end
end Go.Proofs.Ytikjgbfbbkmmcaa
