/- Texts of this seat, one behind the other. -/
import Derived.RangeFuncNested
import Derived.RangeFuncBound
import Derived.RangeFuncCalls
import Derived.RangeFuncLeaves
import Derived.RangeFuncWrites
import Derived.Test.YtihbjimnjhfpeaaGreatG24
import Derived.Shelf.Abstract
import Derived.Shelf.RegionOpen
import Derived.WalkKit
import Derived.OwnWalkIn
import Derived.TacticsInMore
import Derived.LoopNIn
import Derived.LoopIn
/- A range over a function whose iterator writes one map that was made ahead of the loop: the caller's law. -/
namespace Go.Proofs.YtihbjimnjhfpeaaGreat.Lt
open Go.RowKit

section
variable {α : Type} {F : Fence} {n : Nat} {P : Program}
/-- J stands when the map at mb, or a walk's object that is no older than B, is turned, and when blocks are laid. -/
def AbM (mb B : Nat) (J : List α → World → Prop) : Prop :=
  ∀ s W W' row, J s W → W.grownBy W' row → (∀ j, row = some j → (j = mb ∨ B ≤ j) ∧ ∃ o : Obj, W.heap[j]? = some o ∧ o.isWalk = true) → J s W'
/-- The same of what is no cells. -/
def OwM (mb B : Nat) (J : List α → World → Prop) : Prop :=
  ∀ s W W' row, J s W → W.grownBy W' row → (∀ j, row = some j → (j = mb ∨ B ≤ j) ∧ ∃ o : Obj, W.heap[j]? = some o ∧ o.isCells = false) → J s W'
/-- An iterator that yields xs in their order, one round each, and keeps no more than that of J between rounds; a round that goes on pays Kp. -/
def SeqM (F : Fence) (n : Nat) (P : Program) (gf : Nat) (lb : Array Value) (encs : α → Array Value) (Kp : World → World → Prop) (mb : Nat) (xs : List α) (w : World) : Prop :=
  ∀ (l : Nat) (J Jx : List α → World → Prop) (W : World), Below w.heap.size w W → AbM mb W.heap.size J → AbM mb W.heap.size Jx →
    (∀ k x W1, xs[k]? = some x → J (xs.take k) W1 → YieldAt F (n - 1) P l (encs x) W1 fun e W' =>
      (e = .returned (.bool true) ∧ J (xs.take (k + 1)) W' ∧ Kp W1 W') ∨ (e = .returned (.bool false) ∧ Jx (xs.take (k + 1)) W')) →
    J [] W →
    CallsIn F n P gf (#[.func (.yield l) #[] #[]] ++ lb) W fun e W' => (∃ v, e = .returned v) ∧ (J xs W' ∨ ∃ k, Jx (xs.take k) W')

theorem OwM.put {mb B : Nat} {J : List α → World → Prop} (h : OwM mb B J) {s : List α} {W : World} {l : Nat} {o : Obj} (o' : Obj) (hs : J s W) (hB : B ≤ l) (hl : W.heap[l]? = some o) (ho : o.isCells = false) : J s (W.putObj l o') :=
  h s W _ (some l) hs (grownBy_putObj' W l o') (fun j e => by cases e; exact ⟨.inr hB, o, hl, ho⟩)
theorem OwM.lay {mb B : Nat} {J : List α → World → Prop} (h : OwM mb B J) {s : List α} {W : World} (o : Obj) (hs : J s W) : J s (W.alloc o) :=
  h s W _ none hs (World.grownBy_alloc W o none) (fun j e => by cases e)
/-- How a round of the body may end: it goes on, or it returns. -/
def EndM (B : Nat) (Kp : World → World → Prop) (I Ix : World → Prop) (W : World) : Exit → Act → World → Prop
  | .normal, _, W' => KeepsFrom B W W' ∧ Kp W W' ∧ I W'
  | .ret, _, W' => KeepsFrom B W W' ∧ Ix W'
  | _, _, _ => False

/-- What the loop's two blocks hold: its record at B + 1, the rounds' deferred calls (none) at B. -/
def Blocks (B : Nat) (q : Loop) (W : World) : Prop := W.heap[B + 1]? = some (.loop q) ∧ W.heap[B]? = some (.deferred (some []))
theorem Blocks.step {B mb C : Nat} {q : Loop} {W W' : World} {row : Option Nat} (h : Blocks B q W) (hg : W.grownBy W' row) (hr : ∀ j, row = some j → (j = mb ∨ C ≤ j) ∧ ∃ o : Obj, W.heap[j]? = some o ∧ o.isWalk = true) : Blocks B q W' :=
  ⟨(grownBy_keeps hg (fun j e => (hr j e).2) h.1 rfl).trans h.1, (grownBy_keeps hg (fun j e => (hr j e).2) h.2 rfl).trans h.2⟩
theorem Blocks.turn {B : Nat} {q : Loop} {W : World} (q' : Loop) (h : Blocks B q W) : Blocks B q' (W.putObj (B + 1) (.loop q')) :=
  ⟨World.putObj_heap_same (Array.getElem?_eq_some_iff.1 h.1).1, (World.putObj_heap_other (by omega)).trans h.2⟩
theorem Blocks.past {B : Nat} {q : Loop} {W W' : World} (h : Blocks B q W) (hk : KeepsFrom B W W') : Blocks B q W' :=
  ⟨hk.same _ _ (by omega) h.1 rfl, hk.same _ _ (Nat.le_refl _) h.2 rfl⟩

/-- The statement 'for .. := range g': what the rounds make of I. -/
theorem range_map {g : Operand} {ps : Array Tmp} {assign body : Code} {Q : Exit → Act → World → Prop} {a : Act} {w w0 : World} {gf mb : Nat} {lb : Array Value} {encs : α → Array Value} {Kp : World → World → Prop} {xs : List α}
    (hro : F.round = none) (h1 : 1 ≤ n) (hg : a.eval g = .func (.func gf) #[] lb) (hFg : F.fn gf) (eg : ∀ args w, (callFunc gf args).run P w = .ok (.enter gf args) w)
    (hseq : SeqM F (n - 1) P gf lb encs Kp mb xs w0) (hKt : ∀ {A B C : World}, Kp A B → Kp B C → Kp A C)
    (hKb : ∀ (W : World) (l : Nat) (o o' : Obj), w.heap.size ≤ l → W.heap[l]? = some o → o.isCells = false → o.isWalk = false → Kp W (W.putObj l o'))
    (hb0 : Below w0.heap.size w0 w) (hps : ∀ x, (encs x).size = ps.size)
    (I Ix : List α → World → Prop) (hI : OwM mb w.heap.size I) (hIx : OwM mb w.heap.size Ix) (h0 : I [] w) (a₁ : α → Act)
    (hassign : ∀ (l : Nat) (x : α) (W : World) (K : Act → World → Prop), K (a₁ x) W →
      assign.wpIn (F.inRound l) (n - 1 - 1) P (Exit.then K (fun _ _ _ => False)) { tmps := (ps.zip (encs x)).foldl (fun t (p, v) => t.setIfInBounds p v) a.tmps, defers := [] } W)
    (hbody : ∀ (l k : Nat) (x : α) (W : World), xs[k]? = some x → I (xs.take k) W → body.wpIn (F.inRound l) (n - 1 - 1) P (EndM w.heap.size Kp (I (xs.take (k + 1))) (Ix (xs.take (k + 1))) W) (a₁ x) W)
    (hdone : ∀ (D : Nat) (W : World), w.heap.size ≤ D → I xs W → W.heap[D]? = some (.deferred (some [])) → Q .normal { a with defers := { target := .collected D, args := #[] } :: a.defers } W)
    (hstop : ∀ (D k : Nat) (W : World), w.heap.size ≤ D → Ix (xs.take k) W → W.heap[D]? = some (.deferred (some [])) → Code.ret.wpIn F n P Q { a with defers := { target := .collected D, args := #[] } :: a.defers } W) :
    (Code.rangeFunc g ps assign body).wpIn F n P Q a w := by
  refine wpIn_rangeFunc fun fn hfn => ?_
  rw [hro]
  obtain ⟨rc, hrc⟩ : ∃ rc : LoopState → Option Code → Loop, rc = fun st pe => { state := st, pending := pe, fn, tmps := a.tmps, params := ps, assign, body, defers := w.heap.size } := ⟨_, rfl⟩
  have hB1 : Blocks w.heap.size (rc .ready none) ((w.alloc (.deferred (some []))).alloc (.loop (rc .ready none))) := by
    refine ⟨?_, (Below.heap_alloc _ _ _ (by simp)).trans (World.alloc_heap_new w _)⟩
    have := World.alloc_heap_new (w.alloc (.deferred (some []))) (.loop (rc .ready none))
    rwa [World.size_alloc] at this
  have hI1 := hI.lay (.loop (rc .ready none)) (hI.lay (.deferred (some [])) h0)
  have hlow : Below w0.heap.size w0 ((w.alloc (.deferred (some []))).alloc (.loop (rc .ready none))) := hb0.trans ((((Below.refl _ w).alloc (Nat.le_refl _) _).alloc (by simp) _).mono hb0.size)
  have hsize : ((w.alloc (.deferred (some []))).alloc (.loop (rc .ready none))).heap.size = w.heap.size + 2 := by simp
  refine ⟨w.heap.size + 1, [{ target := .collected w.heap.size, args := #[] }], (w.alloc (.deferred (some []))).alloc (.loop (rc .ready none)), { target := .fn (.func gf) lb, args := #[.func (.yield (w.heap.size + 1)) #[] #[]] }, (w.alloc (.deferred (some []))).alloc (.loop (rc .ready none)), gf,
    #[.func (.yield (w.heap.size + 1)) #[] #[]] ++ lb, (w.alloc (.deferred (some []))).alloc (.loop (rc .ready none)), by rw [hrc]; exact run_enterLoop_outer _ _ _ _ _, ?_, ?_, ?_, fun _ => h1, ?_⟩
  · simp only [resolve, hg]
    simp [go_sem]
  · intro f' hf'
    simp [Target.leads] at hf'
    subst hf'
    exact hFg
  · simp [invoke, go_sem, eg]
  · generalize (w.alloc (.deferred (some []))).alloc (.loop (rc .ready none)) = W1 at hB1 hI1 hlow hsize ⊢
    have widen : ∀ {A : World} {row : Option Nat}, (∀ j, row = some j → (j = mb ∨ W1.heap.size ≤ j) ∧ ∃ o : Obj, A.heap[j]? = some o ∧ o.isWalk = true) → (∀ j, row = some j → (j = mb ∨ w.heap.size ≤ j) ∧ ∃ o : Obj, A.heap[j]? = some o ∧ o.isCells = false) := fun hr j e => by
      obtain ⟨hj, o, ho, hw⟩ := hr j e
      exact ⟨hj.elim .inl (fun h => .inr (by omega)), o, ho, Obj.not_cells_of_walk hw⟩
    refine (hseq (w.heap.size + 1) (fun pre W => I pre W ∧ Blocks w.heap.size (rc .ready none) W) (fun pre W => Ix pre W ∧ Blocks w.heap.size (rc .done (some .ret)) W) W1 hlow
      (fun s A B row hs hgr hr => ⟨hI s A B row hs.1 hgr (widen hr), hs.2.step hgr hr⟩)
      (fun s A B row hs hgr hr => ⟨hIx s A B row hs.1 hgr (widen hr), hs.2.step hgr hr⟩) ?_ ⟨hI1, hB1⟩).mono ?_
    · rintro k x W hx ⟨hi, hbk⟩
      have hy := run_yield (P := P) (args := encs x) hbk.1 (by rw [hrc]; exact hps x)
      rw [hrc] at hy
      refine ⟨fn, _, assign, body, hy, roundIn_of_wpIn hfn (hassign _ x W _ ⟨_, run_beginRound hbk.1 (by rw [hrc]), ?_⟩)⟩
      have hbz := hbk.turn { rc .ready none with state := .busy }
      have hkz : Kp W (W.putObj (w.heap.size + 1) (.loop { rc .ready none with state := .busy })) := hKb _ _ _ _ (by omega) hbk.1 rfl rfl
      refine wpIn_mono (hbody _ k x _ hx (hI.put _ hi (by omega) hbk.1 rfl)) ?_
      rintro e a3 W3 hp
      cases e with
      | normal =>
        obtain ⟨hkf, hkp, hi3⟩ := hp
        have hb3 := hbz.past hkf
        have hr := run_endRound (P := P) none hb3.1
        refine ⟨_, _, hr, .inl ⟨rfl, ⟨hI.put _ hi3 (by omega) hb3.1 rfl, ?_⟩, hKt (hKt hkz hkp) (hKb _ _ _ _ (by omega) hb3.1 rfl rfl)⟩⟩
        rw [hrc] at hb3 ⊢
        exact hb3.turn _
      | ret =>
        obtain ⟨hkf, hi3⟩ := hp
        have hb3 := hbz.past hkf
        have hr := run_endRound (P := P) (some .ret) hb3.1
        refine ⟨_, _, hr, .inr ⟨rfl, hIx.put _ hi3 (by omega) hb3.1 rfl, ?_⟩⟩
        rw [hrc] at hb3 ⊢
        exact hb3.turn _
      | exit id => exact hp.elim
      | goto t => exact hp.elim
      | panic ch => exact hp.elim
      | outgrown => exact hp.elim
    · rintro e W2 ⟨⟨v, rfl⟩, ⟨hi, hbk⟩ | ⟨k, hi, hbk⟩⟩
      · have hr := run_endLoop (P := P) hbk.1 (by rw [hrc]; simp)
        exact ⟨none, _, by rw [hrc] at hr; exact hr, hdone _ _ (Nat.le_refl _) (hI.put _ hi (by omega) hbk.1 rfl) ((World.putObj_heap_other (by omega)).trans hbk.2)⟩
      · have hr := run_endLoop (P := P) hbk.1 (by rw [hrc]; simp)
        exact ⟨some .ret, _, by rw [hrc] at hr; exact hr, hstop _ k _ (Nat.le_refl _) (hIx.put _ hi (by omega) hbk.1 rfl) ((World.putObj_heap_other (by omega)).trans hbk.2)⟩
end
end Go.Proofs.YtihbjimnjhfpeaaGreat.Lt

/- Walk of the iterator of package lethal's running sums: contract. -/
namespace Go.Proofs.YtihbjimnjhfpeaaGreat.Lt
open Go.RowKit Go.Lib Go.Maps Go.Shelf
attribute [local go_sem] Oper.semAt_some

/-- What the iterator hands to a round: how many, and the sum. -/
def encS (x : Nat × Nat) : Array Value := #[.int .i64 (x.1 : Int), .int .i64 (x.2 : Int)]
def seqS (f : Int → Nat) (l : List Int) : List (Nat × Nat) := (List.range l.length).map fun i => (i + 1, sumL f (l.take (i + 1)))
theorem seqS_get (f : Int → Nat) (l : List Int) (k : Nat) (h : k < l.length) : (seqS f l)[k]? = some (k + 1, sumL f (l.take (k + 1))) := by
  unfold seqS; rw [List.getElem?_map, List.getElem?_range h]; rfl
theorem seqS_len (f : Int → Nat) (l : List Int) : (seqS f l).length = l.length := by simp [seqS]

/-- What the iterator stands on behind k rounds: its two boxes, the temperatures, the rates. -/
structure ItS (fn : Fn) (s : ByteArray) (r : Int) (Z : Nat) (d g : Int) (L mb tb rb : Nat) (a : Option Addr) (b o cap n0 : Nat) (l : List Int) (k : Nat) (w : World) : Prop where
  temps : w.cell? ⟨tb, 0, none⟩ = some (.slice a l.length cap)
  addr : l = [] ∨ a = some ⟨b, o, none⟩
  rate : w.cell? ⟨rb, 0, none⟩ = some (.func fn #[] #[.pointer (some ⟨L, 0, none⟩)])
  cells : ∀ j (h : j < l.length), w.cell? ⟨b, o + j, none⟩ = some (.int .i64 l[j])
  rds : RdS s r Z d g L mb k w
  lt : tb < n0 ∧ rb < n0 ∧ L < n0 ∧ mb < n0 ∧ (l ≠ [] → b < n0)
  le : n0 ≤ w.heap.size
theorem MapI.isMap {r : Int} {Z : Nat} {w : World} {mb n : Nat} (h : MapI r Z w mb n) : ∃ o : Obj, w.heap[mb]? = some o ∧ o.isWalk = true := by
  obtain ⟨D, ⟨es, clock, h1, _⟩, _⟩ := h
  exact ⟨_, h1, rfl⟩
theorem MapI.noCell {r : Int} {Z : Nat} {w : World} {mb n a i : Nat} {v : Value} (h : MapI r Z w mb n) (hc : w.cell? ⟨a, i, none⟩ = some v) : some a ≠ some mb := by
  intro e
  cases e
  obtain ⟨D, ⟨es, clock, h1, _⟩, _⟩ := h
  unfold World.cell? at hc
  rw [show w.heap[(⟨mb, i, none⟩ : Addr).block]? = _ from h1] at hc
  cases hc
theorem ItS.call {fn : Fn} {s : ByteArray} {r : Int} {Z : Nat} {d g : Int} {L mb tb rb : Nat} {a : Option Addr} {b o cap n0 k : Nat} {l : List Int} {w w' : World} (h : ItS fn s r Z d g L mb tb rb a b o cap n0 l k w) (hg : w.grownBy w' (some mb)) (hm : MapI r Z w' mb (k + 1)) : ItS fn s r Z d g L mb tb rb a b o cap n0 l (k + 1) w' := by
  have hM := h.rds.2.2
  refine ⟨grown_cell hg (Nat.lt_of_lt_of_le h.lt.1 h.le) (hM.noCell h.temps) h.temps, h.addr, grown_cell hg (Nat.lt_of_lt_of_le h.lt.2.1 h.le) (hM.noCell h.rate) h.rate, fun j hj => ?_, h.rds.next hg hm, h.lt, Nat.le_trans h.le hg.size⟩
  exact grown_cell hg (Nat.lt_of_lt_of_le (h.lt.2.2.2.2 (by rintro rfl; exact absurd hj (Nat.not_lt_zero _))) h.le) (hM.noCell (h.cells j hj)) (h.cells j hj)
theorem ItS.past {fn : Fn} {s : ByteArray} {r : Int} {Z : Nat} {d g : Int} {L mb tb rb : Nat} {a : Option Addr} {b o cap n0 k : Nat} {l : List Int} {w w' : World} (h : ItS fn s r Z d g L mb tb rb a b o cap n0 l k w) (hb : Below n0 w w') : ItS fn s r Z d g L mb tb rb a b o cap n0 l k w' := by
  have hc : ∀ a i v, a < n0 → w.cell? ⟨a, i, none⟩ = some v → w'.cell? ⟨a, i, none⟩ = some v := fun a i v ha e => (hb.cell (p := ⟨a, i, none⟩) ha).trans e
  obtain ⟨⟨c0, c1, c2, c3, c4, c5, c6⟩, hne, D, ⟨es, clock, h1, h2⟩, hg⟩ := h.rds
  refine ⟨hc _ _ _ h.lt.1 h.temps, h.addr, hc _ _ _ h.lt.2.1 h.rate, fun j hj => hc _ _ _ (h.lt.2.2.2.2 (by rintro rfl; exact absurd hj (Nat.not_lt_zero _))) (h.cells j hj), ⟨⟨hc _ _ _ h.lt.2.2.1 c0, hc _ _ _ h.lt.2.2.1 c1, hc _ _ _ h.lt.2.2.1 c2, hc _ _ _ h.lt.2.2.1 c3, hc _ _ _ h.lt.2.2.1 c4, hc _ _ _ h.lt.2.2.1 c5, Nat.lt_of_lt_of_le c6 hb.size⟩, hne, D, ⟨es, clock, (hb.block mb h.lt.2.2.2.1).trans h1, h2⟩, hg⟩, h.lt, Nat.le_trans h.le hb.size⟩

end Go.Proofs.YtihbjimnjhfpeaaGreat.Lt
