/- Texts of this seat, one behind the other. -/
import Derived.RangeFuncNested
import Derived.RangeFuncBound
import Derived.RangeFuncCalls
import Derived.RangeFuncLeaves
import Derived.RangeFuncWrites
import Derived.Test.YtihbjimnjhfpeaaGreatR03
import Derived.Shelf.Abstract
import Derived.Shelf.RegionOpen
import Derived.WalkKit
import Derived.OwnWalkIn
import Derived.TacticsInMore
import Derived.LoopNIn
import Derived.LoopIn
/- A range over a function whose iterator keeps state of its own in cells of one type: the caller's law. -/
namespace Go.Proofs.YtihbjimnjhfpeaaGreat
open Go.RowKit

section
variable {α : Type} {F : Fence} {n : Nat} {P : Program}
/-- A walk's object, or cells of type T. -/
def Obj.turns (T : TypeId) (o : Obj) : Prop := o.isWalk = true ∨ ∃ cs, o = .cells cs T (0, 0)
/-- What is no cells, or cells of type T. -/
def Obj.apart (T : TypeId) (o : Obj) : Prop := o.isCells = false ∨ ∃ cs, o = .cells cs T (0, 0)
/-- J stands when a walk's object, or cells of type T, that are no older than B, are turned, and when blocks are laid. -/
def AbG (T B : Nat) (J : List α → World → Prop) : Prop :=
  ∀ s W W' row, J s W → W.grownBy W' row → (∀ j, row = some j → B ≤ j ∧ ∃ o : Obj, W.heap[j]? = some o ∧ Obj.turns T o) → J s W'
/-- The same of what is no cells. -/
def OwG (T B : Nat) (J : List α → World → Prop) : Prop :=
  ∀ s W W' row, J s W → W.grownBy W' row → (∀ j, row = some j → B ≤ j ∧ ∃ o : Obj, W.heap[j]? = some o ∧ Obj.apart T o) → J s W'
/-- An iterator that yields xs in their order, one round each, and keeps no more than that of J between rounds; a round that goes on pays Kp. -/
def SeqG (T : Nat) (F : Fence) (n : Nat) (P : Program) (gf : Nat) (lb : Array Value) (encs : α → Array Value) (Kp : World → World → Prop) (xs : List α) (w : World) : Prop :=
  ∀ (l : Nat) (J Jx : List α → World → Prop) (W : World), Below w.heap.size w W → AbG T W.heap.size J → AbG T W.heap.size Jx →
    (∀ k x W1, xs[k]? = some x → J (xs.take k) W1 → YieldAt F (n - 1) P l (encs x) W1 fun e W' =>
      (e = .returned (.bool true) ∧ J (xs.take (k + 1)) W' ∧ Kp W1 W') ∨ (e = .returned (.bool false) ∧ Jx (xs.take (k + 1)) W')) →
    J [] W →
    CallsIn F n P gf (#[.func (.yield l) #[] #[]] ++ lb) W fun e W' => (∃ v, e = .returned v) ∧ (J xs W' ∨ ∃ k, Jx (xs.take k) W')

theorem OwG.put {T B : Nat} {J : List α → World → Prop} (h : OwG T B J) {s : List α} {W : World} {l : Nat} {o : Obj} (o' : Obj) (hs : J s W) (hB : B ≤ l) (hl : W.heap[l]? = some o) (ho : o.isCells = false) : J s (W.putObj l o') :=
  h s W _ (some l) hs (grownBy_putObj' W l o') (fun j e => by cases e; exact ⟨hB, o, hl, .inl ho⟩)
theorem OwG.lay {T B : Nat} {J : List α → World → Prop} (h : OwG T B J) {s : List α} {W : World} (o : Obj) (hs : J s W) : J s (W.alloc o) :=
  h s W _ none hs (World.grownBy_alloc W o none) (fun j e => by cases e)
/-- How a round of the body may end: it goes on, or it returns. -/
def EndM (B : Nat) (Kp : World → World → Prop) (I Ix : World → Prop) (W : World) : Exit → Act → World → Prop
  | .normal, _, W' => KeepsFrom B W W' ∧ Kp W W' ∧ I W'
  | .ret, _, W' => KeepsFrom B W W' ∧ Ix W'
  | _, _, _ => False

/-- What the loop's two blocks hold: its record at B + 1, the rounds' deferred calls (none) at B. -/
def Blocks (B : Nat) (q : Loop) (W : World) : Prop := W.heap[B + 1]? = some (.loop q) ∧ W.heap[B]? = some (.deferred (some []))
theorem Blocks.step {B C T : Nat} {q : Loop} {W W' : World} {row : Option Nat} (h : Blocks B q W) (hg : W.grownBy W' row) (hr : ∀ j, row = some j → C ≤ j ∧ ∃ o : Obj, W.heap[j]? = some o ∧ Obj.turns T o) : Blocks B q W' := by
  refine ⟨(hg.block _ (Array.getElem?_eq_some_iff.1 h.1).1 (fun e => ?_)).trans h.1, (hg.block _ (Array.getElem?_eq_some_iff.1 h.2).1 (fun e => ?_)).trans h.2⟩
  · obtain ⟨_, o, ho, hw | ⟨cs, rfl⟩⟩ := hr _ e.symm
    · rw [h.1] at ho; cases ho; cases hw
    · rw [h.1] at ho; cases ho
  · obtain ⟨_, o, ho, hw | ⟨cs, rfl⟩⟩ := hr _ e.symm
    · rw [h.2] at ho; cases ho; cases hw
    · rw [h.2] at ho; cases ho
theorem Blocks.turn {B : Nat} {q : Loop} {W : World} (q' : Loop) (h : Blocks B q W) : Blocks B q' (W.putObj (B + 1) (.loop q')) :=
  ⟨World.putObj_heap_same (Array.getElem?_eq_some_iff.1 h.1).1, (World.putObj_heap_other (by omega)).trans h.2⟩
theorem Blocks.past {B : Nat} {q : Loop} {W W' : World} (h : Blocks B q W) (hk : KeepsFrom B W W') : Blocks B q W' :=
  ⟨hk.same _ _ (by omega) h.1 rfl, hk.same _ _ (Nat.le_refl _) h.2 rfl⟩

/-- The same where the assignment lays blocks: what it leaves is Ax. -/
theorem range_boxed {T : Nat} {g : Operand} {ps : Array Tmp} {assign body : Code} {Q : Exit → Act → World → Prop} {a : Act} {w w0 : World} {gf : Nat} {lb : Array Value} {encs : α → Array Value} {Kp : World → World → Prop} {xs : List α}
    (hro : F.round = none) (h1 : 1 ≤ n) (hg : a.eval g = .func (.func gf) #[] lb) (hFg : F.fn gf) (eg : ∀ args w, (callFunc gf args).run P w = .ok (.enter gf args) w)
    (hseq : SeqG T F (n - 1) P gf lb encs Kp xs w0) (hKt : ∀ {A B C : World}, Kp A B → Kp B C → Kp A C)
    (hKb : ∀ (W : World) (l : Nat) (o o' : Obj), w.heap.size ≤ l → W.heap[l]? = some o → o.isCells = false → o.isWalk = false → Kp W (W.putObj l o'))
    (hb0 : Below w0.heap.size w0 w) (hps : ∀ x, (encs x).size = ps.size)
    (I Ix : List α → World → Prop) (hI : OwG T w.heap.size I) (hIx : OwG T w.heap.size Ix) (h0 : I [] w) (Ax : α → Act → World → Prop) (hAx : ∀ (x : α) (a' : Act) (W : World) (l : Nat) (o o' : Obj), Ax x a' W → w.heap.size ≤ l → W.heap[l]? = some o → o.isCells = false → Ax x a' (W.putObj l o'))
    (hassign : ∀ (l k : Nat) (x : α) (W : World) (K : Act → World → Prop), xs[k]? = some x → I (xs.take k) W → (∀ a' W', KeepsFrom w.heap.size W W' → Kp W W' → I (xs.take k) W' → Ax x a' W' → K a' W') →
      assign.wpIn (F.inRound l) (n - 1 - 1) P (Exit.then K (fun _ _ _ => False)) { tmps := (ps.zip (encs x)).foldl (fun t (p, v) => t.setIfInBounds p v) a.tmps, defers := [] } W)
    (hbody : ∀ (l k : Nat) (x : α) (a' : Act) (W : World), xs[k]? = some x → I (xs.take k) W → Ax x a' W → body.wpIn (F.inRound l) (n - 1 - 1) P (EndM w.heap.size Kp (I (xs.take (k + 1))) (Ix (xs.take (k + 1))) W) a' W)
    (hdone : ∀ (D : Nat) (W : World), w.heap.size ≤ D → I xs W → W.heap[D]? = some (.deferred (some [])) → Q .normal { a with defers := { target := .collected D, args := #[] } :: a.defers } W)
    (hstop : ∀ (D k : Nat) (W : World), w.heap.size ≤ D → Ix (xs.take k) W → W.heap[D]? = some (.deferred (some [])) → Code.ret.wpIn F n P Q { a with defers := { target := .collected D, args := #[] } :: a.defers } W) :
    (Code.rangeFunc g ps assign body).wpIn F n P Q a w := by
  refine wpIn_rangeFunc fun fn hfn => ?_
  rw [hro]
  obtain ⟨rc, hrc⟩ : ∃ rc : LoopState → Option Code → Loop, rc = fun st pe => { state := st, pending := pe, fn, tmps := a.tmps, params := ps, assign, body, defers := w.heap.size } := ⟨_, rfl⟩
  have hB1 : Blocks w.heap.size (rc .ready none) ((w.alloc (.deferred (some []))).alloc (.loop (rc .ready none))) := by
    refine ⟨?_, (Below.heap_alloc _ _ _ (by simp)).trans (World.alloc_heap_new w _)⟩
    have := World.alloc_heap_new (w.alloc (.deferred (some []))) (.loop (rc .ready none))
    rwa [World.size_alloc] at this
  have hI1 := hI.lay (.loop (rc .ready none)) (hI.lay (.deferred (some [])) h0)
  have hlow : Below w0.heap.size w0 ((w.alloc (.deferred (some []))).alloc (.loop (rc .ready none))) := hb0.trans ((((Below.refl _ w).alloc (Nat.le_refl _) _).alloc (by simp) _).mono hb0.size)
  have hsize : ((w.alloc (.deferred (some []))).alloc (.loop (rc .ready none))).heap.size = w.heap.size + 2 := by simp
  refine ⟨w.heap.size + 1, [{ target := .collected w.heap.size, args := #[] }], (w.alloc (.deferred (some []))).alloc (.loop (rc .ready none)), { target := .fn (.func gf) lb, args := #[.func (.yield (w.heap.size + 1)) #[] #[]] }, (w.alloc (.deferred (some []))).alloc (.loop (rc .ready none)), gf,
    #[.func (.yield (w.heap.size + 1)) #[] #[]] ++ lb, (w.alloc (.deferred (some []))).alloc (.loop (rc .ready none)), by rw [hrc]; exact run_enterLoop_outer _ _ _ _ _, ?_, ?_, ?_, fun _ => h1, ?_⟩
  · simp only [resolve, hg]
    simp [go_sem]
  · intro f' hf'
    simp [Target.leads] at hf'
    subst hf'
    exact hFg
  · simp [invoke, go_sem, eg]
  · generalize (w.alloc (.deferred (some []))).alloc (.loop (rc .ready none)) = W1 at hB1 hI1 hlow hsize ⊢
    have widen : ∀ {A : World} {row : Option Nat}, (∀ j, row = some j → W1.heap.size ≤ j ∧ ∃ o : Obj, A.heap[j]? = some o ∧ Obj.turns T o) → (∀ j, row = some j → w.heap.size ≤ j ∧ ∃ o : Obj, A.heap[j]? = some o ∧ Obj.apart T o) := fun hr j e => by
      obtain ⟨hj, o, ho, hw⟩ := hr j e
      exact ⟨by omega, o, ho, hw.elim (fun h => .inl (Obj.not_cells_of_walk h)) .inr⟩
    refine (hseq (w.heap.size + 1) (fun pre W => I pre W ∧ Blocks w.heap.size (rc .ready none) W) (fun pre W => Ix pre W ∧ Blocks w.heap.size (rc .done (some .ret)) W) W1 hlow
      (fun s A B row hs hgr hr => ⟨hI s A B row hs.1 hgr (widen hr), hs.2.step hgr hr⟩)
      (fun s A B row hs hgr hr => ⟨hIx s A B row hs.1 hgr (widen hr), hs.2.step hgr hr⟩) ?_ ⟨hI1, hB1⟩).mono ?_
    · rintro k x W hx ⟨hi, hbk⟩
      have hy := run_yield (P := P) (args := encs x) hbk.1 (by rw [hrc]; exact hps x)
      rw [hrc] at hy
      refine ⟨fn, _, assign, body, hy, roundIn_of_wpIn hfn (hassign _ k x W _ hx hi (fun a' W' hkf0 hkp0 hi0 hax0 => ⟨_, run_beginRound (hbk.past hkf0).1 (by rw [hrc]), ?_⟩))⟩
      have hbk0 := hbk.past hkf0
      have hbz := hbk0.turn { rc .ready none with state := .busy }
      have hkz : Kp W (W'.putObj (w.heap.size + 1) (.loop { rc .ready none with state := .busy })) := hKt hkp0 (hKb _ _ _ _ (by omega) hbk0.1 rfl rfl)
      refine wpIn_mono (hbody _ k x a' _ hx (hI.put _ hi0 (by omega) hbk0.1 rfl) (hAx _ _ _ _ _ _ hax0 (by omega) hbk0.1 rfl)) ?_
      rintro e a3 W3 hp
      cases e with
      | normal =>
        obtain ⟨hkf, hkp, hi3⟩ := hp
        have hb3 := hbz.past hkf
        have hr := run_endRound (P := P) none hb3.1
        refine ⟨_, _, hr, .inl ⟨rfl, ⟨hI.put _ hi3 (by omega) hb3.1 rfl, ?_⟩, hKt (hKt hkz hkp) (hKb _ _ _ _ (by omega) hb3.1 rfl rfl)⟩⟩
        rw [hrc] at hb3 ⊢
        exact hb3.turn _
      | ret =>
        obtain ⟨hkf, hi3⟩ := hp
        have hb3 := hbz.past hkf
        have hr := run_endRound (P := P) (some .ret) hb3.1
        refine ⟨_, _, hr, .inr ⟨rfl, hIx.put _ hi3 (by omega) hb3.1 rfl, ?_⟩⟩
        rw [hrc] at hb3 ⊢
        exact hb3.turn _
      | exit id => exact hp.elim
      | goto t => exact hp.elim
      | panic ch => exact hp.elim
      | outgrown => exact hp.elim
    · rintro e W2 ⟨⟨v, rfl⟩, ⟨hi, hbk⟩ | ⟨k, hi, hbk⟩⟩
      · have hr := run_endLoop (P := P) hbk.1 (by rw [hrc]; simp)
        exact ⟨none, _, by rw [hrc] at hr; exact hr, hdone _ _ (Nat.le_refl _) (hI.put _ hi (by omega) hbk.1 rfl) ((World.putObj_heap_other (by omega)).trans hbk.2)⟩
      · have hr := run_endLoop (P := P) hbk.1 (by rw [hrc]; simp)
        exact ⟨some .ret, _, by rw [hrc] at hr; exact hr, hstop _ k _ (Nat.le_refl _) (hIx.put _ hi (by omega) hbk.1 rfl) ((World.putObj_heap_other (by omega)).trans hbk.2)⟩
end
end Go.Proofs.YtihbjimnjhfpeaaGreat

/- Walk of the iterator of a run: contract. -/
namespace Go.Proofs.YtihbjimnjhfpeaaGreat
open Go.RowKit Go.Shelf
attribute [local go_sem] Oper.semAt_some

section
variable {F : Fence} {nF : Nat} {P : Program} {w : World} {ops : Array Oper} {rest : List Oper} {o : Oper} {a : Act} {Q : Exit → Act → World → Prop}
/-- A whole struct is loaded, in a fenced walk. -/
theorem wpListIn_load_whole (hgd : o.guard = none) (ty : TypeId) (x : Operand) (ho : o.op = .load ty x) (g : Nat) (hx : a.eval x = .pointer (some ⟨g, 0, none⟩)) (t : TypeId) (cs : Array Value) (fr : Nat × Nat) (d : TypeDesc) (hg : w.heap[g]? = some (.cells cs t fr))
    (hu : P.underlying ty = some d) (hd : (match d with | .struct _ | .array _ _ => true | _ => false) = true) (hi : (P.info? ty).map (·.size) = some cs.size)
    (h : wpListIn F nF P ops Q rest (a.put o.dst (.agg cs)) w) : wpListIn F nF P ops Q (o :: rest) a w := by
  refine wpListIn_plain hgd fun K hK => ?_
  unfold Oper.wpIn
  refine ⟨by simp [Oper.about, ho], ?_⟩
  rw [Oper.semAt_plain F _ _ (by rw [ho]; intro c hc'; cases hc')]
  simp only [execOp, ho, hx, Instr.loadAt, Instr.sureAddr, Sem.run_bind, Sem.run_pure, Result.andThen_ok, run_loadVar_row w g t ty cs fr d hg hu hd hi]
  exact hK _ _ h
/-- A whole struct is stored, in a fenced walk. -/
theorem wpListIn_store_whole (hgd : o.guard = none) (ty : TypeId) (x y : Operand) (ho : o.op = .store ty x y) (g : Nat) (cells : Array Value) (hx : a.eval x = .pointer (some ⟨g, 0, none⟩)) (hy : a.eval y = .agg cells)
    (t : TypeId) (old : Array Value) (hg : w.heap[g]? = some (.cells old t (0, 0))) (hi : (P.info? ty).map (·.size) = some cells.size) (hold : old.size = cells.size) (h1 : cells.all (·.oneCell') = true)
    (h : wpListIn F nF P ops Q rest (a.put o.dst undef) (w.setRow g cells)) : wpListIn F nF P ops Q (o :: rest) a w := by
  refine wpListIn_plain hgd fun K hK => ?_
  unfold Oper.wpIn
  refine ⟨by simp [Oper.about, ho], ?_⟩
  rw [Oper.semAt_plain F _ _ (by rw [ho]; intro c hc'; cases hc')]
  simp only [execOp, ho, hx, hy, Instr.storeAt, Instr.sureAddr, Sem.run_bind, Sem.run_pure, Result.andThen_ok, run_storeVar_row w g t ty old cells hg hi hold h1]
  exact hK _ _ h
end

/-- What the iterator hands to a round: how many ticks, and the grid. -/
def encH (c : Cn) (y : Nat × Bd) : Array Value := #[.int .i64 (y.1 : Int), .agg (gridA c y.2)]
def seqH (c : Cn) (x : Bd) (l : List Int) : List (Nat × Bd) := (List.range (l.length + 1)).map fun k => (k, runS c x (l.take k))
theorem seqH_get (c : Cn) (x : Bd) (l : List Int) (k : Nat) (h : k ≤ l.length) : (seqH c x l)[k]? = some (k, runS c x (l.take k)) := by
  unfold seqH; rw [List.getElem?_map, List.getElem?_range (by omega)]; rfl
theorem seqH_len (c : Cn) (x : Bd) (l : List Int) : (seqH c x l).length = l.length + 1 := by simp [seqH]

/-- Every block of the n0 first stays, but two; and every grid stays, but one. -/
structure KpH (n0 x0 y0 : Nat) (W W' : World) : Prop where
  size : W.heap.size ≤ W'.heap.size
  low : ∀ j, j < n0 → j ≠ x0 → j ≠ y0 → W'.heap[j]? = W.heap[j]?
  grids : ∀ j cs, W.heap[j]? = some (.cells cs 208 (0, 0)) → j ≠ x0 → W'.heap[j]? = some (.cells cs 208 (0, 0))
theorem KpH.trans {n0 x0 y0 : Nat} {A B C : World} (h : KpH n0 x0 y0 A B) (k : KpH n0 x0 y0 B C) : KpH n0 x0 y0 A C :=
  ⟨Nat.le_trans h.size k.size, fun j h1 h2 h3 => (k.low j h1 h2 h3).trans (h.low j h1 h2 h3), fun j cs h1 h2 => k.grids j cs (h.grids j cs h1 h2) h2⟩
theorem KpH.refl (n0 x0 y0 : Nat) (A : World) : KpH n0 x0 y0 A A := ⟨Nat.le_refl _, fun _ _ _ _ => rfl, fun _ _ h _ => h⟩
theorem KpH.put {n0 x0 y0 l : Nat} {W : World} {o o' : Obj} (hl : n0 ≤ l) (h : W.heap[l]? = some o) (hc : o.isCells = false) : KpH n0 x0 y0 W (W.putObj l o') :=
  ⟨by simp, fun j h1 _ _ => World.putObj_heap_other (by omega), fun j cs h1 _ => (World.putObj_heap_other (by rintro rfl; rw [h] at h1; cases h1; cases hc)).trans h1⟩

/-- What the iterator stands on: its two boxes, the grid, the baths. -/
structure ItH (c : Cn) (x : Bd) (l : List Int) (tb bb gb : Nat) (a : Option Addr) (ba o cap n0 : Nat) (w : World) : Prop where
  tp : w.cell? ⟨tb, 0, none⟩ = some (.pointer (some ⟨gb, 0, none⟩))
  bp : w.cell? ⟨bb, 0, none⟩ = some (.slice a l.length cap)
  gr : GridAt w gb c x
  addr : l = [] ∨ a = some ⟨ba, o, none⟩
  cells : ∀ j (h : j < l.length), w.cell? ⟨ba, o + j, none⟩ = some (.int .i64 l[j])
  lt : tb < n0 ∧ bb < n0 ∧ gb < n0 ∧ (l ≠ [] → ba < n0)
  le : n0 ≤ w.heap.size
section
variable {c : Cn} {x : Bd} {l : List Int} {tb bb gb : Nat} {a : Option Addr} {ba o cap n0 x0 y0 : Nat} {w w' : World}
theorem ItH.keep (h : ItH c x l tb bb gb a ba o cap n0 w) (hs : w.heap.size ≤ w'.heap.size) (hb : ∀ j, j < n0 → j ≠ x0 → j ≠ y0 → w'.heap[j]? = w.heap[j]?) (hx : (tb ≠ x0 ∧ tb ≠ y0) ∧ (bb ≠ x0 ∧ bb ≠ y0) ∧ (gb ≠ x0 ∧ gb ≠ y0) ∧ (l ≠ [] → ba ≠ x0 ∧ ba ≠ y0)) : ItH c x l tb bb gb a ba o cap n0 w' := by
  obtain ⟨x1, x2, x3, x4⟩ := hx
  obtain ⟨l1, l2, l3, l4⟩ := h.lt
  refine ⟨(World.cell?_of_block (a := ⟨tb, 0, none⟩) (hb _ l1 x1.1 x1.2)).trans h.tp, (World.cell?_of_block (a := ⟨bb, 0, none⟩) (hb _ l2 x2.1 x2.2)).trans h.bp, (hb _ l3 x3.1 x3.2).trans h.gr, h.addr, fun j hj => ?_, h.lt, Nat.le_trans h.le hs⟩
  have hl : l ≠ [] := by rintro rfl; exact absurd hj (Nat.not_lt_zero _)
  exact (World.cell?_of_block (a := ⟨ba, o + j, none⟩) (hb _ (l4 hl) (x4 hl).1 (x4 hl).2)).trans (h.cells j hj)
theorem ItH.past (h : ItH c x l tb bb gb a ba o cap n0 w) (hs : w.heap.size ≤ w'.heap.size) (hb : ∀ j, j < n0 → w'.heap[j]? = w.heap[j]?) : ItH c x l tb bb gb a ba o cap n0 w' := by
  obtain ⟨l1, l2, l3, l4⟩ := h.lt
  refine ⟨(World.cell?_of_block (a := ⟨tb, 0, none⟩) (hb _ l1)).trans h.tp, (World.cell?_of_block (a := ⟨bb, 0, none⟩) (hb _ l2)).trans h.bp, (hb _ l3).trans h.gr, h.addr, fun j hj => ?_, h.lt, Nat.le_trans h.le hs⟩
  have hl : l ≠ [] := by rintro rfl; exact absurd hj (Nat.not_lt_zero _)
  exact (World.cell?_of_block (a := ⟨ba, o + j, none⟩) (hb _ (l4 hl))).trans (h.cells j hj)
end
theorem grownBy_setRow (W : World) (g : Nat) (cs : Array Value) : W.grownBy (W.setRow g cs) (some g) := ⟨rfl, rfl, rfl, by simp, fun k _ hne => setRow_other _ _ _ _ (fun e => hne (by rw [e]))⟩
theorem gbelow {w w' : World} (h : Below w.heap.size w w') : w.grownBy w' none := ⟨h.os, h.tape, h.output, h.size, fun j hj _ => h.block j hj⟩

theorem dur_start {W W2 : World} {c : Cn} {x : Bd} {Z : Array Value} (hW : (W.alloc (.cells Z 208)).setRow W.heap.size (gridA c x) = W2) : GridAt W2 W.heap.size c x ∧ W2.heap.size = W.heap.size + 1 ∧ (∀ j, j < W.heap.size → W2.heap[j]? = W.heap[j]?) ∧ W.grownBy W2 none := by
  subst hW
  have hb : ∀ j, j < W.heap.size → ((W.alloc (.cells Z 208)).setRow W.heap.size (gridA c x)).heap[j]? = W.heap[j]? := fun j hj => (setRow_other _ _ _ _ (by omega)).trans (Below.heap_alloc W _ j hj)
  exact ⟨setRow_heap _ _ _ _ _ _ (heap_alloc_new W _), by simp, hb, ⟨rfl, rfl, rfl, by simp, fun j hj _ => hb j hj⟩⟩
theorem dur_tick {wr W4 W5 : World} {nb : Nat} {c : Cn} {y y' : Bd} (hb : Below wr.heap.size wr W4) (hg : GridAt wr nb c y) (hW : W4.setRow nb (gridA c y') = W5) : GridAt W5 nb c y' ∧ wr.heap.size ≤ W5.heap.size ∧ (∀ j, j < wr.heap.size → j ≠ nb → W5.heap[j]? = wr.heap[j]?) ∧ wr.grownBy W4 none ∧ W4.grownBy W5 (some nb) ∧ GridAt W4 nb c y := by
  subst hW
  have h4 := hg.keep hb
  exact ⟨setRow_heap _ _ _ _ _ _ h4, by simp; exact hb.size, fun j hj hn => (setRow_other _ _ _ _ hn).trans (hb.block j hj), gbelow hb, grownBy_setRow _ _ _, h4⟩

set_option maxRecDepth 20000 in
set_option maxHeartbeats 8000000 in
theorem during_run (l0 : Nat) (c : Cn) (x : Bd) (l : List Int) (tb bb gb : Nat) (a : Option Addr) (ba o cap n0 x0 y0 B : Nat) (J Jx : List (Nat × Bd) → World → Prop) (hc : c.Ok) (hx : Warm c x) (hl : ∀ b ∈ l, -50000 ≤ b ∧ b ≤ 200000) (hlen : l.length ≤ 10000) (hx0 : x0 < n0)
    (hne : (tb ≠ x0 ∧ tb ≠ y0) ∧ (bb ≠ x0 ∧ bb ≠ y0) ∧ (gb ≠ x0 ∧ gb ≠ y0) ∧ (l ≠ [] → ba ≠ x0 ∧ ba ≠ y0))
    (hJ : AbG 208 B J) (hY : ∀ k y W1, (seqH c x l)[k]? = some y → J ((seqH c x l).take k) W1 → YieldAt Fence.wide 8 Tryz.prog l0 (encH c y) W1 fun e W' =>
      (e = .returned (.bool true) ∧ J ((seqH c x l).take (k + 1)) W' ∧ KpH n0 x0 y0 W1 W') ∨ (e = .returned (.bool false) ∧ Jx ((seqH c x l).take (k + 1)) W'))
    (W : World) (hI : ItH c x l tb bb gb a ba o cap n0 W) (hB : B ≤ W.heap.size) (h0 : J [] W) :
    CallsIn Fence.wide 9 Tryz.prog 178 #[.func (.yield l0) #[] #[], .pointer (some ⟨tb, 0, none⟩), .pointer (some ⟨bb, 0, none⟩)] W fun e W' => (∃ v, e = .returned v) ∧ (J (seqH c x l) W' ∨ ∃ k, Jx ((seqH c x l).take k) W') := by
  have hct := hI.tp
  have h48 : x.1.length ≤ 48 := by have := hx.len; have := hc.p; unfold Cn.P at this; omega
  have HI := hid hI; have HY := hid hY; have HJ := hid hJ; have H0 := hid h0; have HOK := hid hc; have HX := hid hx; have HL := hid hl
  have hgl : gb < W.heap.size := (Array.getElem?_eq_some_iff.1 hI.gr).1
  clear hI hY hJ h0 hx hl
  refine callsIn_of_wp Tryz.func178 rfl trivial ?_ rfl
  simp only [Tryz.ntmps178, List.size_toArray, List.length_cons, List.length_nil, Nat.reduceAdd, Nat.reduceSub, Array.replicate_succ, Array.replicate_zero, List.push_toArray, List.append_toArray, List.nil_append, List.cons_append]
  have HS0 := hid (seqH_get c x l 0 (Nat.zero_le _))
  gi_wp2_with (first
    | (refine wpListIn_load_whole rfl 208 _ rfl gb rfl 208 (gridA c x) (0, 0) _ HI.out.gr Tryz.underlying208 rfl (infoGx c x h48) ?_)
    | (refine wpListIn_store_whole rfl 208 _ _ rfl W.heap.size (gridA c x) rfl rfl 208 _ (heap_alloc_new W _) (infoGx c x h48) (by rw [gridA_size h48]; rfl) (gridA_one c x) ?_; generalize hW : World.setRow _ _ _ = W2; have HS := hid (dur_start hW); clear hW; obtain ⟨fn, tmps, assign, body, hy, hR⟩ := HY.out 0 (0, x) W2 HS0.out (HJ.out _ _ _ none H0.out HS.out.2.2.2 (fun j e => by cases e)); simp only [encH] at hy; rw [show ((0 : Nat) : Int) = 0 from rfl] at hy; have HR := hid hR; clear hR)
    | (refine wpListIn_load_whole rfl 208 _ rfl W.heap.size rfl 208 (gridA c x) (0, 0) _ HS.out.1 Tryz.underlying208 rfl (infoGx c x h48) ?_))
  refine HR.out.mono ?_
  obtain ⟨hg2, hz2, hb2, hr2⟩ := HS.out
  have hI2 := HI.out.past (by omega) (fun j hj => hb2 j (Nat.lt_of_lt_of_le hj HI.out.le))
  rintro e W3 (⟨rfl, hJ3, hk3⟩ | ⟨rfl, hJx3⟩)
  · have hI3 := hI2.keep hk3.size hk3.low hne
    have hg3 : GridAt W3 W.heap.size c x := hk3.grids _ _ hg2 (by have := HI.out.le; omega)
    have hnb : n0 ≤ W.heap.size := HI.out.le
    have hcb := hI3.bp
    have H3 := hid (And.intro hI3 (And.intro hg3 hJ3))
    clear hI3 hg3 hJ3 hk3 hI2 hg2 hz2 hb2 hr2 hy HR HS hct
    gi_wp2
    gi_loopw [16] (fun i wr => ∃ k : Nat, k ≤ l.length ∧ i = .int .i64 (k : Int) ∧ Hid (ItH c x l tb bb gb a ba o cap n0 wr ∧ GridAt wr W.heap.size c (runS c x (l.take k)) ∧ J ((seqH c x l).take (k + 1)) wr)) (fun i _ => l.length - (intOf i).toNat)
    case atStart => exact ⟨0, Nat.zero_le _, rfl, by rw [List.take_zero]; exact H3⟩
    case round =>
      obtain ⟨k, hk, rfl, hR⟩ := hrel
      clear hcb H3
      by_cases hlt : k < l.length
      · obtain rfl : a = some ⟨ba, o, none⟩ := hR.out.1.addr.resolve_left (by rintro rfl; exact absurd hlt (Nat.not_lt_zero _))
        have ex := hR.out.1.cells k hlt
        have hbd := HL.out _ (List.getElem_mem hlt)
        have hsc := runS_succ c x l k hlt
        have HGT := hid (seqH_get c x l (k + 1) hlt)
        have hwm := HX.out.run HOK.out (l := l.take k) (fun b hb => HL.out b (List.mem_of_mem_take hb))
        obtain ⟨bt, hbt⟩ : ∃ bt, bt = l[k] := ⟨_, rfl⟩
        rw [← hbt] at ex hbd hsc
        obtain ⟨y, hy0⟩ : ∃ y, y = runS c x (l.take k) := ⟨_, rfl⟩
        have hgr := hR.out.2.1
        rw [← hy0] at hsc hwm hgr
        rw [hsc] at HGT
        obtain ⟨bd1, bd2⟩ := hbd
        have h48y : y.1.length ≤ 48 := by have := hwm.len; have := HOK.out.p; unfold Cn.P at this; omega
        have hwt := hwm.tick HOK.out bd1 bd2
        have h48t : (tickS c y bt).1.length ≤ 48 := by have := hwt.len; have := HOK.out.p; unfold Cn.P at this; omega
        have HSC := hid hsc; have HWM := hid hwm; have HGR := hid hgr
        clear hsc hbt hy0 hwm hgr hwt
        have hlt' : (k : Int) < l.length := by omega
        gi_wp2
        refine ⟨trivial, ?_⟩
        refine (callsIn_wide.2 (after_any W.heap.size c y bt wr HGR.out HOK.out HWM.out bd1 bd2)).mono ?_
        rintro e W4 ⟨rfl, hb4⟩
        have HB4 := hid hb4
        clear hb4
        gi_wp2_with (first
          | (refine wpListIn_store_whole rfl 208 _ _ rfl W.heap.size (gridA c (tickS c y bt)) rfl rfl 208 _ (HGR.out.keep HB4.out) (infoGx c (tickS c y bt) h48t) (by rw [gridA_size h48y, gridA_size h48t]) (gridA_one c (tickS c y bt)) ?_; generalize hW : World.setRow _ _ _ = W5; have HS := hid (dur_tick HB4.out HGR.out hW); clear hW; obtain ⟨fn, tmps, assign, body, hy, hRR⟩ := HY.out (k + 1) (k + 1, tickS c y bt) W5 HGT.out (HJ.out _ _ _ (some W.heap.size) (HJ.out _ _ _ none hR.out.2.2 HS.out.2.2.2.1 (fun j e => by cases e)) HS.out.2.2.2.2.1 (fun j e => by cases e; exact ⟨hB, _, HS.out.2.2.2.2.2, .inr ⟨_, rfl⟩⟩)); simp only [encH, Int.natCast_add, Int.natCast_one] at hy; have HR := hid hRR; clear hRR)
          | (refine wpListIn_load_whole rfl 208 _ rfl W.heap.size rfl 208 (gridA c (tickS c y bt)) (0, 0) _ HS.out.1 Tryz.underlying208 rfl (infoGx c (tickS c y bt) h48t) ?_))
        refine HR.out.mono ?_
        rintro e W6 (⟨rfl, hJ6, hk6⟩ | ⟨rfl, hJx6⟩)
        · have hI5 : ItH c x l tb bb gb (some ⟨ba, o, none⟩) ba o cap n0 W5 := hR.out.1.past HS.out.2.1 (fun j hj => HS.out.2.2.1 j (by have := hR.out.1.le; omega) (by omega))
          have hI6 := hI5.keep hk6.size hk6.low hne
          have hg6 : GridAt W6 W.heap.size c (tickS c y bt) := hk6.grids _ _ HS.out.1 (by omega)
          have H6 := hid (And.intro hI6 (And.intro hg6 hJ6))
          clear hI5 hI6 hg6 hJ6 hk6
          gi_wp2
          go_roundw
          case rel => exact ⟨k + 1, by omega, by go_num, by rw [HSC.out]; exact H6⟩
          case measure => simp [intOf]; omega
        · have HX6 := hid hJx6
          clear hJx6
          gi_wp2
          refine bodyPost_ret (results_none rfl _ _ _) rfl ?_
          exact ⟨⟨_, rfl⟩, .inr ⟨k + 1 + 1, HX6.out⟩⟩
      · obtain rfl : k = l.length := by omega
        gi_wp2
        go_end0
        exact ⟨⟨_, rfl⟩, .inl (by have := hR.out.2.2; rwa [List.take_of_length_le (by rw [seqH_len]; exact Nat.le_refl _)] at this)⟩
  · have HX3 := hid hJx3
    clear hJx3
    gi_wp2
    refine bodyPost_ret (results_none rfl _ _ _) rfl ?_
    exact ⟨⟨_, rfl⟩, .inr ⟨1, HX3.out⟩⟩
end Go.Proofs.YtihbjimnjhfpeaaGreat

/- Walk of Run: contracts. -/
namespace Go.Proofs.YtihbjimnjhfpeaaGreat
open Go.RowKit Go.Shelf
attribute [local go_sem] Oper.semAt_some

/-- The boxes of a can, of a body, and of the body that comes back, whole. -/
structure R3 (w w1 : World) (A B R : Array Value) : Prop where
  can : w1.heap[w.heap.size]? = some (.cells A 23 (0, 0))
  bod : w1.heap[w.heap.size + 1]? = some (.cells B 87 (0, 0))
  res : w1.heap[w.heap.size + 1 + 1]? = some (.cells R 87 (0, 0))
  low : Below w.heap.size w w1
theorem lt_of_block {w : World} {b : Nat} {o : Obj} (h : w.heap[b]? = some o) : b < w.heap.size := (Array.getElem?_eq_some_iff.1 h).1
theorem R3.keep {w w1 w2 : World} {A B R : Array Value} (h : R3 w w1 A B R) (hb : Below w1.heap.size w1 w2) : R3 w w2 A B R :=
  ⟨(hb.block _ (lt_of_block h.can)).trans h.can, (hb.block _ (lt_of_block h.bod)).trans h.bod, (hb.block _ (lt_of_block h.res)).trans h.res, bstep h.low h.low.size hb⟩
theorem r3_start {w : World} {A B R : Array Value} : R3 w (((w.alloc (.cells A 23)).alloc (.cells B 87)).alloc (.cells R 87)) A B R := by
  have hs : ((w.alloc (.cells A 23)).alloc (.cells B 87)).heap.size = w.heap.size + 1 + 1 := by simp
  refine ⟨?_, ?_, new_at hs, (((Below.refl _ _).alloc (Nat.le_refl _) _).alloc (by simp) _).alloc (by simp; omega) _⟩
  · rw [Below.heap_alloc _ _ _ (by rw [hs]; omega)]; exact heap_alloc2_old w _ _
  · rw [Below.heap_alloc _ _ _ (by rw [hs]; omega)]; exact heap_alloc2_new w _ _
theorem R3.cell {w w1 : World} {A B R : Array Value} (h : R3 w w1 A B R) : (∀ i, w1.cell? ⟨w.heap.size, i, none⟩ = A[i]?) ∧ (∀ i, w1.cell? ⟨w.heap.size + 1, i, none⟩ = B[i]?) ∧ (∀ i, w1.cell? ⟨w.heap.size + 1 + 1, i, none⟩ = R[i]?) ∧ (∀ i, w1.frozen? ⟨w.heap.size + 1 + 1, i, none⟩ = false) :=
  ⟨fun i => cell_of_row _ _ i _ _ _ h.can, fun i => cell_of_row _ _ i _ _ _ h.bod, fun i => cell_of_row _ _ i _ _ _ h.res, fun i => frozen_of_row _ _ i _ _ h.res⟩

set_option maxHeartbeats 2000000 in
theorem during_any (gb : Nat) (a : Option Addr) (n cap : Nat) (w : World) : Calls Tryz.prog 167 #[.pointer (some ⟨gb, 0, none⟩), .slice a n cap] w fun e w' => e = .returned (.func (.func 178) #[] #[.pointer (some ⟨w.heap.size, 0, none⟩), .pointer (some ⟨w.heap.size + 1, 0, none⟩)]) ∧ w' = (w.alloc (.cells #[.pointer (some ⟨gb, 0, none⟩)] 218)).alloc (.cells #[.slice a n cap] 28) := by
  go_enter Tryz.func167, Tryz.ntmps167
  go_wp2
  go_ret
  exact ⟨rfl, rfl⟩

end Go.Proofs.YtihbjimnjhfpeaaGreat
