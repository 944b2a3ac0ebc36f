/- A range over a function whose iterator keeps state of its own in cells of some types: the caller's law. -/
import Derived.RangeFuncNested
import Derived.RangeFuncBound
import Derived.RangeFuncCalls
import Derived.RangeFuncLeaves
import Derived.RangeFuncWrites
namespace Go.Proofs.Ytikjgbfbbkmmcaa
open Go.RowKit

section
variable {α : Type} {F : Fence} {n : Nat} {P : Program}
/-- A walk's object, or cells of the types T. -/
def Obj.turns2 (T : TypeId → Prop) (o : Obj) : Prop := o.isWalk = true ∨ ∃ t cs, T t ∧ o = .cells cs t (0, 0)
/-- What is no cells, or cells of the types T. -/
def Obj.apart2 (T : TypeId → Prop) (o : Obj) : Prop := o.isCells = false ∨ ∃ t cs, T t ∧ o = .cells cs t (0, 0)
/-- J stands when a walk's object, or cells of the types T, that are no older than B, are turned, and when blocks are laid. -/
def AbG2 (T : Nat → Prop) (B : Nat) (J : List α → World → Prop) : Prop :=
  ∀ s W W' row, J s W → W.grownBy W' row → (∀ j, row = some j → B ≤ j ∧ ∃ o : Obj, W.heap[j]? = some o ∧ Obj.turns2 T o) → J s W'
/-- The same of what is no cells. -/
def OwG2 (T : Nat → Prop) (B : Nat) (J : List α → World → Prop) : Prop :=
  ∀ s W W' row, J s W → W.grownBy W' row → (∀ j, row = some j → B ≤ j ∧ ∃ o : Obj, W.heap[j]? = some o ∧ Obj.apart2 T o) → J s W'
/-- An iterator that yields xs in their order, one round each, and keeps no more than that of J between rounds; a round that goes on pays Kp. -/
def SeqG2 (T : Nat → Prop) (F : Fence) (n : Nat) (P : Program) (gf : Nat) (lb : Array Value) (encs : α → Array Value) (Kp : World → World → Prop) (xs : List α) (w : World) : Prop :=
  ∀ (l : Nat) (J Jx : List α → World → Prop) (W : World), Below w.heap.size w W → AbG2 T W.heap.size J → AbG2 T W.heap.size Jx →
    (∀ k x W1, xs[k]? = some x → J (xs.take k) W1 → YieldAt F (n - 1) P l (encs x) W1 fun e W' =>
      (e = .returned (.bool true) ∧ J (xs.take (k + 1)) W' ∧ Kp W1 W') ∨ (e = .returned (.bool false) ∧ Jx (xs.take (k + 1)) W')) →
    J [] W →
    CallsIn F n P gf (#[.func (.yield l) #[] #[]] ++ lb) W fun e W' => (∃ v, e = .returned v) ∧ (J xs W' ∨ ∃ k, Jx (xs.take k) W')

theorem OwG2.put {T : Nat → Prop} {B : Nat} {J : List α → World → Prop} (h : OwG2 T B J) {s : List α} {W : World} {l : Nat} {o : Obj} (o' : Obj) (hs : J s W) (hB : B ≤ l) (hl : W.heap[l]? = some o) (ho : o.isCells = false) : J s (W.putObj l o') :=
  h s W _ (some l) hs (grownBy_putObj' W l o') (fun j e => by cases e; exact ⟨hB, o, hl, .inl ho⟩)
theorem OwG2.lay {T : Nat → Prop} {B : Nat} {J : List α → World → Prop} (h : OwG2 T B J) {s : List α} {W : World} (o : Obj) (hs : J s W) : J s (W.alloc o) :=
  h s W _ none hs (World.grownBy_alloc W o none) (fun j e => by cases e)
/-- How a round of the body may end: it goes on, or it returns. -/
def EndM2 (B : Nat) (Kp : World → World → Prop) (I Ix : World → Prop) (W : World) : Exit → Act → World → Prop
  | .normal, _, W' => KeepsFrom B W W' ∧ Kp W W' ∧ I W'
  | .ret, _, W' => KeepsFrom B W W' ∧ Ix W'
  | _, _, _ => False

/-- What the loop's two blocks hold: its record at B + 1, the rounds' deferred calls (none) at B. -/
def Blocks2 (B : Nat) (q : Loop) (W : World) : Prop := W.heap[B + 1]? = some (.loop q) ∧ W.heap[B]? = some (.deferred (some []))
theorem Blocks2.step {T : Nat → Prop} {B C : Nat} {q : Loop} {W W' : World} {row : Option Nat} (h : Blocks2 B q W) (hg : W.grownBy W' row) (hr : ∀ j, row = some j → C ≤ j ∧ ∃ o : Obj, W.heap[j]? = some o ∧ Obj.turns2 T o) : Blocks2 B q W' := by
  refine ⟨(hg.block _ (Array.getElem?_eq_some_iff.1 h.1).1 (fun e => ?_)).trans h.1, (hg.block _ (Array.getElem?_eq_some_iff.1 h.2).1 (fun e => ?_)).trans h.2⟩
  · obtain ⟨_, o, ho, hw | ⟨t, cs, _, rfl⟩⟩ := hr _ e.symm
    · rw [h.1] at ho; cases ho; cases hw
    · rw [h.1] at ho; cases ho
  · obtain ⟨_, o, ho, hw | ⟨t, cs, _, rfl⟩⟩ := hr _ e.symm
    · rw [h.2] at ho; cases ho; cases hw
    · rw [h.2] at ho; cases ho
theorem Blocks2.turn {B : Nat} {q : Loop} {W : World} (q' : Loop) (h : Blocks2 B q W) : Blocks2 B q' (W.putObj (B + 1) (.loop q')) :=
  ⟨World.putObj_heap_same (Array.getElem?_eq_some_iff.1 h.1).1, (World.putObj_heap_other (by omega)).trans h.2⟩
theorem Blocks2.past {B : Nat} {q : Loop} {W W' : World} (h : Blocks2 B q W) (hk : KeepsFrom B W W') : Blocks2 B q W' :=
  ⟨hk.same _ _ (by omega) h.1 rfl, hk.same _ _ (Nat.le_refl _) h.2 rfl⟩

/-- The same where the assignment lays blocks: what it leaves is Ax. -/
theorem range_boxed2 {T : Nat → Prop} {g : Operand} {ps : Array Tmp} {assign body : Code} {Q : Exit → Act → World → Prop} {a : Act} {w w0 : World} {gf : Nat} {lb : Array Value} {encs : α → Array Value} {Kp : World → World → Prop} {xs : List α}
    (hro : F.round = none) (h1 : 1 ≤ n) (hg : a.eval g = .func (.func gf) #[] lb) (hFg : F.fn gf) (eg : ∀ args w, (callFunc gf args).run P w = .ok (.enter gf args) w)
    (hseq : SeqG2 T F (n - 1) P gf lb encs Kp xs w0) (hKt : ∀ {A B C : World}, Kp A B → Kp B C → Kp A C)
    (hKb : ∀ (W : World) (l : Nat) (o o' : Obj), w.heap.size ≤ l → W.heap[l]? = some o → o.isCells = false → o.isWalk = false → Kp W (W.putObj l o'))
    (hb0 : Below w0.heap.size w0 w) (hps : ∀ x, (encs x).size = ps.size)
    (I Ix : List α → World → Prop) (hI : OwG2 T w.heap.size I) (hIx : OwG2 T w.heap.size Ix) (h0 : I [] w) (Ax : α → Act → World → Prop) (hAx : ∀ (x : α) (a' : Act) (W : World) (l : Nat) (o o' : Obj), Ax x a' W → w.heap.size ≤ l → W.heap[l]? = some o → o.isCells = false → Ax x a' (W.putObj l o'))
    (hassign : ∀ (l k : Nat) (x : α) (W : World) (K : Act → World → Prop), xs[k]? = some x → I (xs.take k) W → (∀ a' W', KeepsFrom w.heap.size W W' → Kp W W' → I (xs.take k) W' → Ax x a' W' → K a' W') →
      assign.wpIn (F.inRound l) (n - 1 - 1) P (Exit.then K (fun _ _ _ => False)) { tmps := (ps.zip (encs x)).foldl (fun t (p, v) => t.setIfInBounds p v) a.tmps, defers := [] } W)
    (hbody : ∀ (l k : Nat) (x : α) (a' : Act) (W : World), xs[k]? = some x → I (xs.take k) W → Ax x a' W → body.wpIn (F.inRound l) (n - 1 - 1) P (EndM2 w.heap.size Kp (I (xs.take (k + 1))) (Ix (xs.take (k + 1))) W) a' W)
    (hdone : ∀ (D : Nat) (W : World), w.heap.size ≤ D → I xs W → W.heap[D]? = some (.deferred (some [])) → Q .normal { a with defers := { target := .collected D, args := #[] } :: a.defers } W)
    (hstop : ∀ (D k : Nat) (W : World), w.heap.size ≤ D → Ix (xs.take k) W → W.heap[D]? = some (.deferred (some [])) → Code.ret.wpIn F n P Q { a with defers := { target := .collected D, args := #[] } :: a.defers } W) :
    (Code.rangeFunc g ps assign body).wpIn F n P Q a w := by
  refine wpIn_rangeFunc fun fn hfn => ?_
  rw [hro]
  obtain ⟨rc, hrc⟩ : ∃ rc : LoopState → Option Code → Loop, rc = fun st pe => { state := st, pending := pe, fn, tmps := a.tmps, params := ps, assign, body, defers := w.heap.size } := ⟨_, rfl⟩
  have hB1 : Blocks2 w.heap.size (rc .ready none) ((w.alloc (.deferred (some []))).alloc (.loop (rc .ready none))) := by
    refine ⟨?_, (Below.heap_alloc _ _ _ (by simp)).trans (World.alloc_heap_new w _)⟩
    have := World.alloc_heap_new (w.alloc (.deferred (some []))) (.loop (rc .ready none))
    rwa [World.size_alloc] at this
  have hI1 := hI.lay (.loop (rc .ready none)) (hI.lay (.deferred (some [])) h0)
  have hlow : Below w0.heap.size w0 ((w.alloc (.deferred (some []))).alloc (.loop (rc .ready none))) := hb0.trans ((((Below.refl _ w).alloc (Nat.le_refl _) _).alloc (by simp) _).mono hb0.size)
  have hsize : ((w.alloc (.deferred (some []))).alloc (.loop (rc .ready none))).heap.size = w.heap.size + 2 := by simp
  refine ⟨w.heap.size + 1, [{ target := .collected w.heap.size, args := #[] }], (w.alloc (.deferred (some []))).alloc (.loop (rc .ready none)), { target := .fn (.func gf) lb, args := #[.func (.yield (w.heap.size + 1)) #[] #[]] }, (w.alloc (.deferred (some []))).alloc (.loop (rc .ready none)), gf,
    #[.func (.yield (w.heap.size + 1)) #[] #[]] ++ lb, (w.alloc (.deferred (some []))).alloc (.loop (rc .ready none)), by rw [hrc]; exact run_enterLoop_outer _ _ _ _ _, ?_, ?_, ?_, fun _ => h1, ?_⟩
  · simp only [resolve, hg]
    simp [go_sem]
  · intro f' hf'
    simp [Target.leads] at hf'
    subst hf'
    exact hFg
  · simp [invoke, go_sem, eg]
  · generalize (w.alloc (.deferred (some []))).alloc (.loop (rc .ready none)) = W1 at hB1 hI1 hlow hsize ⊢
    have widen : ∀ {A : World} {row : Option Nat}, (∀ j, row = some j → W1.heap.size ≤ j ∧ ∃ o : Obj, A.heap[j]? = some o ∧ Obj.turns2 T o) → (∀ j, row = some j → w.heap.size ≤ j ∧ ∃ o : Obj, A.heap[j]? = some o ∧ Obj.apart2 T o) := fun hr j e => by
      obtain ⟨hj, o, ho, hw⟩ := hr j e
      exact ⟨by omega, o, ho, hw.elim (fun h => .inl (Obj.not_cells_of_walk h)) .inr⟩
    refine (hseq (w.heap.size + 1) (fun pre W => I pre W ∧ Blocks2 w.heap.size (rc .ready none) W) (fun pre W => Ix pre W ∧ Blocks2 w.heap.size (rc .done (some .ret)) W) W1 hlow
      (fun s A B row hs hgr hr => ⟨hI s A B row hs.1 hgr (widen hr), hs.2.step hgr hr⟩)
      (fun s A B row hs hgr hr => ⟨hIx s A B row hs.1 hgr (widen hr), hs.2.step hgr hr⟩) ?_ ⟨hI1, hB1⟩).mono ?_
    · rintro k x W hx ⟨hi, hbk⟩
      have hy := run_yield (P := P) (args := encs x) hbk.1 (by rw [hrc]; exact hps x)
      rw [hrc] at hy
      refine ⟨fn, _, assign, body, hy, roundIn_of_wpIn hfn (hassign _ k x W _ hx hi (fun a' W' hkf0 hkp0 hi0 hax0 => ⟨_, run_beginRound (hbk.past hkf0).1 (by rw [hrc]), ?_⟩))⟩
      have hbk0 := hbk.past hkf0
      have hbz := hbk0.turn { rc .ready none with state := .busy }
      have hkz : Kp W (W'.putObj (w.heap.size + 1) (.loop { rc .ready none with state := .busy })) := hKt hkp0 (hKb _ _ _ _ (by omega) hbk0.1 rfl rfl)
      refine wpIn_mono (hbody _ k x a' _ hx (hI.put _ hi0 (by omega) hbk0.1 rfl) (hAx _ _ _ _ _ _ hax0 (by omega) hbk0.1 rfl)) ?_
      rintro e a3 W3 hp
      cases e with
      | normal =>
        obtain ⟨hkf, hkp, hi3⟩ := hp
        have hb3 := hbz.past hkf
        have hr := run_endRound (P := P) none hb3.1
        refine ⟨_, _, hr, .inl ⟨rfl, ⟨hI.put _ hi3 (by omega) hb3.1 rfl, ?_⟩, hKt (hKt hkz hkp) (hKb _ _ _ _ (by omega) hb3.1 rfl rfl)⟩⟩
        rw [hrc] at hb3 ⊢
        exact hb3.turn _
      | ret =>
        obtain ⟨hkf, hi3⟩ := hp
        have hb3 := hbz.past hkf
        have hr := run_endRound (P := P) (some .ret) hb3.1
        refine ⟨_, _, hr, .inr ⟨rfl, hIx.put _ hi3 (by omega) hb3.1 rfl, ?_⟩⟩
        rw [hrc] at hb3 ⊢
        exact hb3.turn _
      | exit id => exact hp.elim
      | goto t => exact hp.elim
      | panic ch => exact hp.elim
      | outgrown => exact hp.elim
    · rintro e W2 ⟨⟨v, rfl⟩, ⟨hi, hbk⟩ | ⟨k, hi, hbk⟩⟩
      · have hr := run_endLoop (P := P) hbk.1 (by rw [hrc]; simp)
        exact ⟨none, _, by rw [hrc] at hr; exact hr, hdone _ _ (Nat.le_refl _) (hI.put _ hi (by omega) hbk.1 rfl) ((World.putObj_heap_other (by omega)).trans hbk.2)⟩
      · have hr := run_endLoop (P := P) hbk.1 (by rw [hrc]; simp)
        exact ⟨some .ret, _, by rw [hrc] at hr; exact hr, hstop _ k _ (Nat.le_refl _) (hIx.put _ hi (by omega) hbk.1 rfl) ((World.putObj_heap_other (by omega)).trans hbk.2)⟩
end
end Go.Proofs.Ytikjgbfbbkmmcaa
