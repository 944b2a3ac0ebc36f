/- Texts of this seat, one behind the other. -/
import Derived.Test.YtihbjimnjhfpeaaGreatRows
import Derived.WalkKit
import Derived.WalkSpells
import Derived.WalkLawsBesides
import Derived.BigQuiet
import Derived.Deep.QuietTactic
import Derived.Deep.RegionHeld3
import Derived.StillTailTactics
import Derived.Deep.RegionWith
import Derived.Maps.AppendAt
import Derived.Deep.RegionLaw
import Derived.OwnWalk
import Derived.OwnWalkIn
import Derived.RegionTactic
/- Small tools of these proofs. -/
namespace Go.Proofs.YtihbjimnjhfpeaaGreat
open Go.RowKit

theorem hid {p : Prop} (h : p) : Hid p := h
theorem ret_bool {a b : Bool} (h : a = b) : Ending.returned (.bool a) = .returned (.bool b) := by rw [h]
theorem ret_int {k : IntKind} {a b : Int} (h : a = b) : Ending.returned (.int k a) = .returned (.int k b) := by rw [h]
theorem int_eq {k : IntKind} {a b : Int} (h : a = b) : Value.int k a = .int k b := by rw [h]
theorem bcell {W w1 : World} (hb : Below W.heap.size W w1) : (∀ b o, b < W.heap.size → w1.cell? ⟨b, o, none⟩ = W.cell? ⟨b, o, none⟩) ∧ (∀ b o, b < W.heap.size → w1.frozen? ⟨b, o, none⟩ = W.frozen? ⟨b, o, none⟩) :=
  ⟨fun b o h => hb.cell (p := ⟨b, o, none⟩) h, fun b o h => hb.frozen (p := ⟨b, o, none⟩) h⟩
theorem balloc {w w1 : World} {o : Obj} (hb : Below (w.alloc o).heap.size (w.alloc o) w1) : Below w.heap.size w w1 :=
  ((Below.refl _ _).alloc (Nat.le_refl _) _).trans (hb.mono (by simp))
theorem bdrewN {B : Nat} {w w1 : World} {n : Nat} (h : Below B w w1) : Below B w (w1.drewN n) := ⟨h.os, h.tape, h.output, h.size, h.block⟩
theorem cell_alloc_new (w : World) (cs : Array Value) (T : TypeId) (fz : Nat × Nat) (i : Nat) : (w.alloc (.cells cs T fz)).cell? ⟨w.heap.size, i, none⟩ = cs[i]? := by
  unfold World.cell?
  show (match (w.alloc (.cells cs T fz)).heap[w.heap.size]? with | some (.cells c _ _) => _ | _ => _) = _
  rw [heap_alloc_new]
  rfl
theorem alloc_size (w : World) (o : Obj) : (w.alloc o).heap.size = w.heap.size + 1 := by simp
theorem keep_cell {W w2 : World} {b i : Nat} {v : Value} (hb : Below W.heap.size W w2) (h : W.cell? ⟨b, i, none⟩ = some v) : w2.cell? ⟨b, i, none⟩ = some v :=
  (hb.cell (p := ⟨b, i, none⟩) (World.block_lt_of_cell? W ⟨b, i, none⟩ h)).trans h
/-- A slice of ints that is read, from any place of a row. -/
def RowI (w : World) (v : Value) (l : List Int) : Prop := (∃ a cap, v = .slice a 0 cap ∧ l = []) ∨ ∃ b o cap, v = .slice (some ⟨b, o, none⟩) l.length cap ∧ l.length ≤ maxLen ∧ ∀ k (h : k < l.length), w.cell? ⟨b, o + k, none⟩ = some (.int .i64 l[k])
theorem RowI.keep {W w2 : World} {v : Value} {l : List Int} (h : RowI W v l) (hb : Below W.heap.size W w2) : RowI w2 v l := by
  rcases h with h | ⟨b, o, cap, hv, hm, hc⟩
  · exact .inl h
  · exact .inr ⟨b, o, cap, hv, hm, fun k hk => keep_cell hb (hc k hk)⟩
theorem RowI.shape {w : World} {v : Value} {l : List Int} (h : RowI w v l) : ∃ a cap, v = .slice a l.length cap := by
  rcases h with ⟨_, _, rfl, rfl⟩ | ⟨b, o, cap, rfl, _, _⟩
  · exact ⟨_, _, rfl⟩
  · exact ⟨_, _, rfl⟩
theorem RowI.form {w : World} {v : Value} {l : List Int} (h : RowI w v l) : ∃ a b o cap, v = .slice a l.length cap ∧ (l = [] ∨ a = some ⟨b, o, none⟩) ∧ (∀ j (h : j < l.length), w.cell? ⟨b, o + j, none⟩ = some (.int .i64 l[j])) ∧ (l ≠ [] → b < w.heap.size) := by
  rcases h with ⟨a, cap, rfl, rfl⟩ | ⟨b, o, cap, rfl, hm, hc⟩
  · exact ⟨a, 0, 0, cap, rfl, .inl rfl, fun j h => absurd h (Nat.not_lt_zero _), fun h => absurd rfl h⟩
  · refine ⟨_, b, o, cap, rfl, .inr rfl, hc, fun h => ?_⟩
    have h0 : 0 < l.length := List.length_pos_iff.2 h
    exact World.block_lt_of_cell? w ⟨b, o + 0, none⟩ (hc 0 h0)
theorem bstep {A : Nat} {w w1 w2 : World} (h : Below A w w1) (hs : A ≤ w1.heap.size) (k : Below w1.heap.size w1 w2) : Below A w w2 := h.trans (k.mono hs)
/-- What two boxes behind one another hold. -/
structure Box2 (w w1 : World) (A B : Array Value) : Prop where
  fst : ∀ i, w1.cell? ⟨w.heap.size, i, none⟩ = A[i]?
  snd : ∀ i, w1.cell? ⟨w.heap.size + 1, i, none⟩ = B[i]?
  sz : w.heap.size + 1 < w1.heap.size
  low : Below w.heap.size w w1
theorem box2_start {w : World} {A B : Array Value} {T T' : TypeId} {fz fz' : Nat × Nat} : Box2 w ((w.alloc (.cells A T fz)).alloc (.cells B T' fz')) A B := by
  refine ⟨fun i => ?_, fun i => ?_, by simp, ((Below.refl _ _).alloc (Nat.le_refl _) _).alloc (by simp) _⟩
  · have h := (bcell ((Below.refl _ (w.alloc (.cells A T fz))).alloc (Nat.le_refl _) (.cells B T' fz'))).1 w.heap.size i (by simp)
    rw [h, cell_alloc_new]
  · have h := cell_alloc_new (w.alloc (.cells A T fz)) B T' fz' i
    rwa [alloc_size] at h
theorem Box2.keep {w w1 w2 : World} {A B : Array Value} (h : Box2 w w1 A B) (hb : Below w1.heap.size w1 w2) : Box2 w w2 A B :=
  ⟨fun i => ((bcell hb).1 _ _ (Nat.lt_of_succ_lt h.sz)).trans (h.fst i), fun i => ((bcell hb).1 _ _ h.sz).trans (h.snd i), Nat.lt_of_lt_of_le h.sz hb.size, bstep h.low h.low.size hb⟩
theorem box2_call {w w1 : World} {A B : Array Value} {T T' : TypeId} {fz fz' : Nat × Nat} (hb : Below ((w.alloc (.cells A T fz)).alloc (.cells B T' fz')).heap.size ((w.alloc (.cells A T fz)).alloc (.cells B T' fz')) w1) : Box2 w w1 A B := box2_start.keep hb
theorem Box2.can {w w1 : World} {c0 c1 c2 c3 c4 c5 c6 : Value} {B : Array Value} (h : Box2 w w1 #[c0, c1, c2, c3, c4, c5, c6] B) :
    w1.cell? ⟨w.heap.size, 0, none⟩ = some c0 ∧ w1.cell? ⟨w.heap.size, 1, none⟩ = some c1 ∧ w1.cell? ⟨w.heap.size, 2, none⟩ = some c2 ∧ w1.cell? ⟨w.heap.size, 3, none⟩ = some c3 ∧ w1.cell? ⟨w.heap.size, 4, none⟩ = some c4 ∧ w1.cell? ⟨w.heap.size, 5, none⟩ = some c5 ∧ w1.cell? ⟨w.heap.size, 6, none⟩ = some c6 :=
  ⟨h.fst 0, h.fst 1, h.fst 2, h.fst 3, h.fst 4, h.fst 5, h.fst 6⟩
theorem Box2.body {w w1 : World} {A : Array Value} {d0 d1 : Value} (h : Box2 w w1 A #[d0, d1]) :
    w1.cell? ⟨w.heap.size + 1, 0, none⟩ = some d0 ∧ w1.cell? ⟨w.heap.size + 1, 1, none⟩ = some d1 := ⟨h.snd 0, h.snd 1⟩
/-- What one box holds. -/
structure Box1 (w w1 : World) (A : Array Value) : Prop where
  fst : ∀ i, w1.cell? ⟨w.heap.size, i, none⟩ = A[i]?
  sz : w.heap.size < w1.heap.size
  low : Below w.heap.size w w1
theorem box1_start {w : World} {A : Array Value} {T : TypeId} {fz : Nat × Nat} : Box1 w (w.alloc (.cells A T fz)) A :=
  ⟨fun i => cell_alloc_new w A T fz i, by simp, (Below.refl _ _).alloc (Nat.le_refl _) _⟩
theorem Box1.keep {w w1 w2 : World} {A : Array Value} (h : Box1 w w1 A) (hb : Below w1.heap.size w1 w2) : Box1 w w2 A :=
  ⟨fun i => ((bcell hb).1 _ _ h.sz).trans (h.fst i), Nat.lt_of_lt_of_le h.sz hb.size, bstep h.low h.low.size hb⟩
theorem box1_call {w w1 : World} {A : Array Value} {T : TypeId} {fz : Nat × Nat} (hb : Below (w.alloc (.cells A T fz)).heap.size (w.alloc (.cells A T fz)) w1) : Box1 w w1 A := box1_start.keep hb
theorem Box1.can {w w1 : World} {c0 c1 c2 c3 c4 c5 c6 : Value} (h : Box1 w w1 #[c0, c1, c2, c3, c4, c5, c6]) :
    w1.cell? ⟨w.heap.size, 0, none⟩ = some c0 ∧ w1.cell? ⟨w.heap.size, 1, none⟩ = some c1 ∧ w1.cell? ⟨w.heap.size, 2, none⟩ = some c2 ∧ w1.cell? ⟨w.heap.size, 3, none⟩ = some c3 ∧ w1.cell? ⟨w.heap.size, 4, none⟩ = some c4 ∧ w1.cell? ⟨w.heap.size, 5, none⟩ = some c5 ∧ w1.cell? ⟨w.heap.size, 6, none⟩ = some c6 :=
  ⟨h.fst 0, h.fst 1, h.fst 2, h.fst 3, h.fst 4, h.fst 5, h.fst 6⟩
/-- Nine cells: a can's box and a body's behind it. -/
def Nine (b : Nat) (w w1 : World) (c0 c1 c2 c3 c4 c5 c6 d0 d1 : Value) : Prop :=
  w1.cell? ⟨b, 0, none⟩ = some c0 ∧ w1.cell? ⟨b, 1, none⟩ = some c1 ∧ w1.cell? ⟨b, 2, none⟩ = some c2 ∧ w1.cell? ⟨b, 3, none⟩ = some c3 ∧ w1.cell? ⟨b, 4, none⟩ = some c4 ∧ w1.cell? ⟨b, 5, none⟩ = some c5 ∧ w1.cell? ⟨b, 6, none⟩ = some c6 ∧
    w1.cell? ⟨b + 1, 0, none⟩ = some d0 ∧ w1.cell? ⟨b + 1, 1, none⟩ = some d1 ∧ b + 1 < w1.heap.size ∧ Below w.heap.size w w1
theorem nine_start {w : World} {c0 c1 c2 c3 c4 c5 c6 d0 d1 : Value} {T T' : TypeId} {fz fz' : Nat × Nat} : Nine w.heap.size w ((w.alloc (.cells #[c0, c1, c2, c3, c4, c5, c6] T fz)).alloc (.cells #[d0, d1] T' fz')) c0 c1 c2 c3 c4 c5 c6 d0 d1 := by
  have h := box2_start (w := w) (A := #[c0, c1, c2, c3, c4, c5, c6]) (B := #[d0, d1]) (T := T) (T' := T') (fz := fz) (fz' := fz')
  exact ⟨h.fst 0, h.fst 1, h.fst 2, h.fst 3, h.fst 4, h.fst 5, h.fst 6, h.snd 0, h.snd 1, h.sz, h.low⟩
theorem nine_keep {b : Nat} {w W w2 : World} {c0 c1 c2 c3 c4 c5 c6 d0 d1 : Value} (hb : Below W.heap.size W w2) (h : Nine b w W c0 c1 c2 c3 c4 c5 c6 d0 d1) : Nine b w w2 c0 c1 c2 c3 c4 c5 c6 d0 d1 := by
  obtain ⟨h0, h1, h2, h3, h4, h5, h6, h7, h8, h9, h10⟩ := h
  exact ⟨keep_cell hb h0, keep_cell hb h1, keep_cell hb h2, keep_cell hb h3, keep_cell hb h4, keep_cell hb h5, keep_cell hb h6, keep_cell hb h7, keep_cell hb h8, Nat.lt_of_lt_of_le h9 hb.size, bstep h10 h10.size hb⟩
end Go.Proofs.YtihbjimnjhfpeaaGreat

/- append of a slice of ints that was read, whatever it is, onto a row of the call's own: one law, in three forms. -/
namespace Go.Proofs.YtihbjimnjhfpeaaGreat
open Go.RowKit

/-- The ints of a list, as values. -/
def ivs (l : List Int) : List Value := l.map (.int .i64)
theorem ivs_len (l : List Int) : (ivs l).length = l.length := by simp [ivs]
theorem ivs_one (l : List Int) : ∀ u ∈ ivs l, u.oneCell' = true := by
  intro u hu
  simp only [ivs, List.mem_map] at hu
  obtain ⟨x, _, rfl⟩ := hu
  rfl
/-- What is read of a source: nothing, or the cells from an address on. -/
def Src (w : World) (u : Value) (l : List Int) : Prop := (∃ a c, u = .slice a 0 c ∧ l = []) ∨ ∃ b o c, u = .slice (some ⟨b, o, none⟩) l.length c ∧ ∀ k (h : k < l.length), w.cell? ⟨b, o + k, none⟩ = some (.int .i64 l[k])
/-- What an append leaves: the new row, where it lies, and that no other old block has turned. -/
def AppP (w : World) (base e : Nat) (v : Value) (xs : List Value) (l : List Int) (v' : Value) (w' : World) : Prop :=
  w'.ownsRow base e 1 v' (xs.length + l.length) (xs ++ ivs l) ∧ w.grownBy w' v.ownBlock ∧ (v'.ownBlock = v.ownBlock ∨ v'.ownBlock = some w.heap.size)

section
variable {P : Program} {w : World}
theorem run_app_none {base t ty e : Nat} {i : TypeInfo} (ht : P.underlying t = some (.slice e)) (hi : P.info? e = some i) {v : Value} {n : Nat} {xs : List Value} (hown : w.ownsRow base e 1 v n xs) (c : Nat) :
    (Builtin.append_ #[t, t] ty #[v, .slice none 0 c]).run P w = .ok v w := by
  have hU := run_underlying ht (P := P)
  rcases hown.2 with ⟨rfl, rfl⟩ | ⟨g, cap, cur, rfl, _, _, h, _⟩
  · simp [Builtin.append_, hU, sizeOf, typeInfo, hi, Builtin.lenOf, Builtin.firstCells]
  · simp [Builtin.append_, hU, sizeOf, typeInfo, hi, Builtin.lenOf, Builtin.firstCells, storeCells, h]
theorem run_app {base t ty e : Nat} {i : TypeInfo} (ht : P.underlying t = some (.slice e)) (hi : P.info? e = some i) (hz : i.zero = some (.int .i64 0)) (hs : i.size = 1) (hb : i.bytes = 8)
    {v : Value} {xs : List Value} (hown : w.ownsRow base e 1 v xs.length xs) {u : Value} {l : List Int} (hl : Src w u l) (hn : xs.length + l.length ≤ 1000000) (hbase : base ≤ w.heap.size) :
    ∃ v' w', (Builtin.append_ #[t, t] ty #[v, u]).run P w = .ok v' w' ∧ AppP w base e v xs l v' w' := by
  have go : ∀ (ad : Addr) (c : Nat), u = .slice (some ad) l.length c → (∀ j x, (ivs l)[j]? = some x → w.cell? (ad.add j) = some x) → ∃ v' w', (Builtin.append_ #[t, t] ty #[v, u]).run P w = .ok v' w' ∧ AppP w base e v xs l v' w' := by
    rintro ad c rfl hc
    obtain ⟨v', w', h1, h2, h3, _, h5⟩ := run_append_own_at (P := P) w base t ty e i (.int .i64 0) 1 8 ht hi hz hs hb rfl (by decide) v xs.length xs hown ad l.length c (ivs l) (by rw [ivs_len, Nat.mul_one]) hc (ivs_one l) (by unfold maxLen; omega) (by omega) hbase
    exact ⟨v', w', h1, h2, h3, h5⟩
  rcases hl with ⟨a, c, rfl, rfl⟩ | ⟨b, o, c, rfl, hc⟩
  · cases a with
    | none => exact ⟨v, w, run_app_none ht hi hown c, by simpa [AppP, ivs] using hown, World.grownBy.refl w _, .inl rfl⟩
    | some ad => exact go ad c rfl (fun j x h => by simp [ivs] at h)
  · refine go _ c rfl (fun j x h => ?_)
    have hj : j < l.length := by have := (List.getElem?_eq_some_iff.1 h).1; rwa [ivs_len] at this
    have hadd : (⟨b, o, none⟩ : Addr).add j = ⟨b, o + j, none⟩ := by unfold Addr.add; split <;> simp_all
    rw [hadd, hc j hj, ← h]
    simp [ivs, hj]

theorem wp_app {o : Oper} {a : Act} {K : Act → World → Prop} {Q : Exit → Act → World → Prop} (s x : Operand) (t : TypeId) (ho : o.op = .call { callee := .builtin .append, args := #[s, x], argTypes := #[t, t] })
    (base e : Nat) (i : TypeInfo) (ht : P.underlying t = some (.slice e)) (hi : P.info? e = some i) (hz : i.zero = some (.int .i64 0)) (hs : i.size = 1) (hb : i.bytes = 8)
    (v : Value) (xs : List Value) (hv : a.eval s = v) (hown : w.ownsRow base e 1 v xs.length xs) (u : Value) (l : List Int) (hu : a.eval x = u) (hl : Src w u l) (hn : xs.length + l.length ≤ 1000000) (hbase : base ≤ w.heap.size)
    (h : ∀ v' w', AppP w base e v xs l v' w' → K (a.put o.dst v') w') : o.wp P a w K Q := by
  obtain ⟨v', w', hr, h1⟩ := run_app (P := P) (ty := o.type) ht hi hz hs hb hown hl hn hbase
  unfold Oper.wp execOp
  simp only [ho, resolve, invoke, builtin, Sem.run_bind, Sem.run_pure, Result.andThen_ok, List.map_toArray, List.map_cons, List.map_nil, hv, hu, hr]
  exact h v' w' h1
/-- At a plain list of operations. -/
theorem wpList_app {ops : Array Oper} {rest : List Oper} {o : Oper} {a : Act} {Q : Exit → Act → World → Prop} (hgd : o.guard = none) (s x : Operand) (t : TypeId) (ho : o.op = .call { callee := .builtin .append, args := #[s, x], argTypes := #[t, t] })
    (base e : Nat) (i : TypeInfo) (ht : P.underlying t = some (.slice e)) (hi : P.info? e = some i) (hz : i.zero = some (.int .i64 0)) (hs : i.size = 1) (hb : i.bytes = 8)
    (v : Value) (xs : List Value) (hv : a.eval s = v) (hown : w.ownsRow base e 1 v xs.length xs) (u : Value) (l : List Int) (hu : a.eval x = u) (hl : Src w u l) (hn : xs.length + l.length ≤ 1000000) (hbase : base ≤ w.heap.size)
    (h : ∀ v' w', AppP w base e v xs l v' w' → wpList P ops Q rest (a.put o.dst v') w') : wpList P ops Q (o :: rest) a w :=
  wpList_plain hgd fun _ hK => wp_app s x t ho base e i ht hi hz hs hb v xs hv hown u l hu hl hn hbase fun v' w' h1 => hK _ _ (h v' w' h1)
/-- At a step of a region that draws its order. -/
theorem step_app {ops : Array Oper} {o : Oper} {a : Act} {K : Act → World → Prop} {Q : Exit → Act → World → Prop} {E : Prop} (hgd : o.guard = none) (s x : Operand) (t : TypeId) (ho : o.op = .call { callee := .builtin .append, args := #[s, x], argTypes := #[t, t] })
    (base e : Nat) (i : TypeInfo) (ht : P.underlying t = some (.slice e)) (hi : P.info? e = some i) (hz : i.zero = some (.int .i64 0)) (hs : i.size = 1) (hb : i.bytes = 8)
    (v : Value) (xs : List Value) (hv : a.eval s = v) (hown : w.ownsRow base e 1 v xs.length xs) (u : Value) (l : List Int) (hu : a.eval x = u) (hl : Src w u l) (hn : xs.length + l.length ≤ 1000000) (hbase : base ≤ w.heap.size)
    (h : ∀ v' w', AppP w base e v xs l v' w' → K (a.put o.dst v') w') : if Region.wanted o (yielded ops a.tmps) = true then Oper.wp P o a w K Q else E := by
  have hw : Region.wanted o (yielded ops a.tmps) = true := by simp [Region.wanted, hgd]
  rw [if_pos hw]
  exact wp_app s x t ho base e i ht hi hz hs hb v xs hv hown u l hu hl hn hbase h
/-- A row of no ints that was just laid. -/
theorem own_none (W : World) (e : Nat) (cs : Array Value) (h : cs.size = 0) : (W.alloc (.cells cs e)).ownsRow W.heap.size e 1 (.slice (some ⟨W.heap.size, 0, none⟩) 0 0) ([] : List Value).length [] :=
  ⟨by simp, .inr ⟨W.heap.size, 0, cs, rfl, Nat.le_refl _, heap_alloc_new W _, Nat.le_refl _, by simp, by simpa using h, by simp⟩⟩
end
end Go.Proofs.YtihbjimnjhfpeaaGreat

/- Appends in a region that draws: what the own row, and all else, is behind one. -/
namespace Go.Proofs.YtihbjimnjhfpeaaGreat
open Go.RowKit

theorem RowI.src {w : World} {v : Value} {l : List Int} (h : RowI w v l) : Src w v l := by
  rcases h with ⟨a, c, hv, hl⟩ | ⟨b, o, c, hv, _, hc⟩
  · exact .inl ⟨a, c, hv, hl⟩
  · exact .inr ⟨b, o, c, hv, hc⟩
/-- A row of ints that the call owns, read. -/
theorem own_rowI {w : World} {base e : Nat} {v : Value} {l : List Int} (h : w.ownsRow base e 1 v l.length (ivs l)) (hl : l.length ≤ 1000000) : RowI w v l := by
  rcases h.2 with ⟨rfl, h0⟩ | ⟨g, cap, cur, rfl, _, hg, hcap, _, hcs, ht⟩
  · exact .inl ⟨none, 0, rfl, List.length_eq_zero_iff.1 h0⟩
  · refine .inr ⟨g, 0, cap, rfl, by unfold maxLen; omega, fun k hk => ?_⟩
    rw [Nat.zero_add, cell_of_row w g k cur e _ hg]
    have hx : (ivs l)[k]? = some (.int .i64 l[k]) := by simp [ivs, hk]
    rw [← ht, List.getElem?_take_of_lt (by omega)] at hx
    simpa using hx
theorem own_new {W : World} {base e : Nat} {cs : Array Value} (h : cs.size = 0) (hb : base ≤ W.heap.size) : (W.alloc (.cells cs e)).ownsRow base e 1 (.slice (some ⟨W.heap.size, 0, none⟩) 0 0) ([] : List Value).length [] :=
  ⟨by simp, .inr ⟨W.heap.size, 0, cs, rfl, hb, heap_alloc_new W _, Nat.le_refl _, by simp, by simpa using h, by simp⟩⟩
theorem own_at {W : World} {base e n : Nat} {cs : Array Value} (h : cs.size = 0) (hn : W.heap.size = n) (hb : base ≤ n) : (W.alloc (.cells cs e)).ownsRow base e 1 (.slice (some ⟨n, 0, none⟩) 0 0) ([] : List Value).length [] := by
  subst hn; exact own_new h hb
theorem app_low {W W0 w' : World} {base e : Nat} {v v' : Value} {xs : List Value} {l : List Int} (hW : Below W.heap.size W W0) (hown : W0.ownsRow base e 1 v xs.length xs) (hb : W.heap.size ≤ base) (h : AppP W0 base e v xs l v' w') : Below W.heap.size W w' :=
  hW.grown h.2.1 hW.size (fun k hk => by have := (World.ownsRow.lt hown k hk).1; omega)
theorem app_first {W0 w' : World} {base e : Nat} {v v' : Value} {l : List Int} (h : AppP W0 base e v [] l v' w') : w'.ownsRow base e 1 v' (ivs l).length (ivs l) := by
  have := h.1
  rwa [List.length_nil, Nat.zero_add, List.nil_append, ← ivs_len l] at this
theorem app_next {W0 w' : World} {base e : Nat} {v v' : Value} {l m : List Int} (h : AppP W0 base e v (ivs l) m v' w') : w'.ownsRow base e 1 v' (l ++ m).length (ivs (l ++ m)) := by
  have := h.1
  rwa [ivs_len, ← List.length_append, show ivs l ++ ivs m = ivs (l ++ m) by simp [ivs]] at this
/-- A block that an append leaves alone, now and later. -/
def Apart (w : World) (b : Nat) (o : Obj) (v : Value) : Prop := w.heap[b]? = some o ∧ v.ownBlock ≠ some b
theorem apart_app {W w' : World} {base e b : Nat} {o : Obj} {v v' : Value} {xs : List Value} {l : List Int} (hA : AppP W base e v xs l v' w') (h : Apart W b o v) : Apart w' b o v' := by
  have hlt : b < W.heap.size := (Array.getElem?_eq_some_iff.1 h.1).1
  refine ⟨(hA.2.1.block b hlt (Ne.symm h.2)).trans h.1, ?_⟩
  rcases hA.2.2 with h2 | h2
  · rw [h2]; exact h.2
  · rw [h2]; intro g; cases g; omega
/-- The block that is newest. -/
theorem apart_new {W : World} {base e n : Nat} {o : Obj} {v : Value} {xs : List Value} (hown : W.ownsRow base e 1 v n xs) : Apart (W.alloc o) W.heap.size o v :=
  ⟨heap_alloc_new W o, fun g => by have := (World.ownsRow.lt hown _ g).2; omega⟩
/-- The newest block is the row's. -/
theorem apart_old {W : World} {o o' : Obj} {n c : Nat} : Apart ((W.alloc o).alloc o') W.heap.size o (.slice (some ⟨(W.alloc o).heap.size, 0, none⟩) n c) :=
  ⟨heap_alloc2_old W o o', by simp [Value.ownBlock]⟩
theorem apart_at {W : World} {o o' : Obj} {m n c : Nat} (hm : W.heap.size + 1 = m) : Apart ((W.alloc o).alloc o') W.heap.size o (.slice (some ⟨m, 0, none⟩) n c) :=
  ⟨heap_alloc2_old W o o', by simp [Value.ownBlock]; omega⟩
theorem apart_drew {w : World} {b : Nat} {o : Obj} {v : Value} (h : Apart w b o v) : Apart w.drew b o v := h
/-- The law of an append, which hands on that the row is owned. -/
theorem step_app2 {P : Program} {w : World} {ops : Array Oper} {o : Oper} {a : Act} {K : Act → World → Prop} {Q : Exit → Act → World → Prop} {E : Prop} (hgd : o.guard = none) (s x : Operand) (t : TypeId) (ho : o.op = .call { callee := .builtin .append, args := #[s, x], argTypes := #[t, t] })
    (base e : Nat) (i : TypeInfo) (ht : P.underlying t = some (.slice e)) (hi : P.info? e = some i) (hz : i.zero = some (.int .i64 0)) (hs : i.size = 1) (hb : i.bytes = 8)
    (v : Value) (xs : List Value) (hv : a.eval s = v) (hown : w.ownsRow base e 1 v xs.length xs) (u : Value) (l : List Int) (hu : a.eval x = u) (hl : Src w u l) (hn : xs.length + l.length ≤ 1000000) (hbase : base ≤ w.heap.size)
    (h : ∀ v' w', w.ownsRow base e 1 v xs.length xs → AppP w base e v xs l v' w' → K (a.put o.dst v') w') : if Region.wanted o (yielded ops a.tmps) = true then Oper.wp P o a w K Q else E :=
  step_app hgd s x t ho base e i ht hi hz hs hb v xs hv hown u l hu hl hn hbase fun v' w' g => h v' w' hown g
end Go.Proofs.YtihbjimnjhfpeaaGreat

/- Plain math of a can's ticks. -/
namespace Go.Proofs.YtihbjimnjhfpeaaGreat

/-- A can that is valid: the numbers of its rings and layers are plain. -/
structure Cn where
  R : Nat
  L : Nat
  A : Int
  B : Int
  K : Int
  A2 : Int
  B2 : Int
def conB (a b : Int) : Bool := (decide (0 ≤ a) && decide (a ≤ 500)) && ((decide (0 ≤ b) && decide (b ≤ 500)) && (decide (1 ≤ a + b) && decide (a + b ≤ 500)))
def brkB (k a b : Int) : Bool := if k = 0 then decide (a = 0) && decide (b = 0) else (decide (1 ≤ k) && decide (k ≤ 200000)) && conB a b
def canB (r l a b k a2 b2 : Int) : Bool := (decide (1 ≤ r) && decide (r ≤ 6)) && ((decide (1 ≤ l) && decide (l ≤ 8)) && (conB a b && brkB k a2 b2))
/-- What makes a can valid. -/
structure Cn.Ok (c : Cn) : Prop where
  r1 : 1 ≤ c.R
  r2 : c.R ≤ 6
  l1 : 1 ≤ c.L
  l2 : c.L ≤ 8
  a1 : 0 ≤ c.A
  b1 : 0 ≤ c.B
  ab1 : 1 ≤ c.A + c.B
  ab : c.A + c.B ≤ 500
  a3 : 0 ≤ c.A2
  b3 : 0 ≤ c.B2
  ab3 : c.A2 + c.B2 ≤ 500
  k1 : 0 ≤ c.K
  k2 : c.K ≤ 200000
theorem conB_iff {a b : Int} : conB a b = true ↔ 0 ≤ a ∧ a ≤ 500 ∧ 0 ≤ b ∧ b ≤ 500 ∧ 1 ≤ a + b ∧ a + b ≤ 500 := by
  simp only [conB, Bool.and_eq_true, decide_eq_true_eq]
  omega
theorem brkB_true {k a b : Int} (h : brkB k a b = true) : (k = 0 ∧ a = 0 ∧ b = 0) ∨ (1 ≤ k ∧ k ≤ 200000 ∧ 0 ≤ a ∧ 0 ≤ b ∧ 1 ≤ a + b ∧ a + b ≤ 500) := by
  unfold brkB at h
  split at h
  · simp at h; omega
  · rw [Bool.and_eq_true, conB_iff, Bool.and_eq_true, decide_eq_true_eq, decide_eq_true_eq] at h; omega
def Cn.V (c : Cn) : Prop := canB c.R c.L c.A c.B c.K c.A2 c.B2 = true
theorem Cn.V.ok {c : Cn} (h : c.V) : c.Ok := by
  simp only [Cn.V, canB, Bool.and_eq_true, decide_eq_true_eq, conB_iff] at h
  obtain ⟨⟨r1, r2⟩, ⟨l1, l2⟩, h2, h3⟩ := h
  have h4 := brkB_true h3
  refine ⟨?_, ?_, ?_, ?_, ?_, ?_, ?_, ?_, ?_, ?_, ?_, ?_, ?_⟩ <;> omega
theorem canB_cn {r l a b k a2 b2 : Int} (h : canB r l a b k a2 b2 = true) : ∃ c : Cn, c.V ∧ r = c.R ∧ l = c.L ∧ a = c.A ∧ b = c.B ∧ k = c.K ∧ a2 = c.A2 ∧ b2 = c.B2 := by
  have h' := h
  simp only [canB, Bool.and_eq_true, decide_eq_true_eq] at h
  obtain ⟨⟨r1, r2⟩, ⟨l1, l2⟩, _⟩ := h
  obtain ⟨R, rfl⟩ := Int.eq_ofNat_of_zero_le (show 0 ≤ r by omega)
  obtain ⟨L, rfl⟩ := Int.eq_ofNat_of_zero_le (show 0 ≤ l by omega)
  exact ⟨⟨R, L, a, b, k, a2, b2⟩, h', rfl, rfl, rfl, rfl, rfl, rfl, rfl⟩
/-- The number of its places. -/
def Cn.P (c : Cn) : Nat := c.R * c.L
theorem Cn.P_int (c : Cn) : ((c.P : Nat) : Int) = (c.R : Int) * c.L := by unfold Cn.P; rw [Int.natCast_mul]
theorem Cn.Ok.p {c : Cn} (h : c.Ok) : 1 ≤ c.P ∧ c.P ≤ 48 := ⟨Nat.mul_le_mul h.r1 h.l1, Nat.mul_le_mul h.r2 h.l2⟩
def okT (t : Int) : Bool := decide (-50000 ≤ t) && decide (t ≤ 200000)
def okL (l : List Int) : Bool := l.all okT
theorem okL_all {l : List Int} (h : okL l = true) (k : Nat) (hk : k < l.length) : okT l[k] = true := List.all_eq_true.1 h _ (List.getElem_mem hk)
theorem okL_bd {l : List Int} (h : okL l = true) : ∀ t ∈ l, -50000 ≤ t ∧ t ≤ 200000 := fun t ht => by
  have := List.all_eq_true.1 h t ht
  simpa [okT] using this
theorem okL_of {l : List Int} (h : ∀ t ∈ l, -50000 ≤ t ∧ t ≤ 200000) : okL l = true := List.all_eq_true.2 fun t ht => by simpa [okT] using h t ht
theorem okL_end {l : List Int} {k : Nat} (h : ∀ j (hj : j < l.length), j < k → okT l[j] = true) (hk : k = l.length) : okL l = true := by
  subst hk
  refine List.all_eq_true.2 fun x hx => ?_
  obtain ⟨j, hj, rfl⟩ := List.getElem_of_mem hx
  exact h j hj hj
theorem okL_bad {l : List Int} {k : Nat} (hk : k < l.length) (h : okT l[k] = false) : okL l = false := by
  cases ho : okL l with
  | false => rfl
  | true => rw [okL_all ho k hk] at h; cases h
/-- A body that is valid for a can (v: the can is). -/
def bodyB (v : Bool) (r l k : Int) (T : List Int) (br : Bool) : Bool := v && (decide ((T.length : Int) = r * l) && (!(br && decide (k = 0)) && okL T))
theorem bodyB_can {r l k : Int} {T : List Int} {br : Bool} : bodyB false r l k T br = false := rfl
theorem bodyB_len {r l k : Int} {T : List Int} {br : Bool} (h : (T.length : Int) ≠ r * l) : bodyB true r l k T br = false := by unfold bodyB; rw [decide_eq_false h]; rfl
theorem bodyB_brk {r l k : Int} {T : List Int} (h : k = 0) : bodyB true r l k T true = false := by unfold bodyB; rw [decide_eq_true h]; simp
theorem bodyB_rest {r l k : Int} {T : List Int} {br : Bool} (h : (T.length : Int) = r * l) (hk : br = false ∨ k ≠ 0) : bodyB true r l k T br = okL T := by
  unfold bodyB
  rw [decide_eq_true h]
  rcases hk with rfl | hk
  · simp
  · rw [decide_eq_false hk]; simp

/-- What a place's new temperature is a thousandth of a width of. -/
def num (A B : Int) (r : Nat) (x1 x2 x3 x4 x5 : Int) : Int := 2 * A * (r * x1 + (r + 1) * x2) + (2 * r + 1) * (B * (x3 + x4) + (1000 - 2 * A - 2 * B) * x5)
theorem num_sub (A B : Int) (r : Nat) (x1 x2 x3 x4 x5 y1 y2 y3 y4 y5 : Int) : num A B r (y1 - x1) (y2 - x2) (y3 - x3) (y4 - x4) (y5 - x5) = num A B r y1 y2 y3 y4 y5 - num A B r x1 x2 x3 x4 x5 := by
  unfold num; grind
theorem num_const (A B : Int) (r : Nat) (x : Int) : num A B r x x x x x = x * (1000 * (2 * r + 1)) := by
  unfold num; grind
theorem num_add (A B : Int) (r : Nat) (x1 x2 x3 x4 x5 s : Int) : num A B r (x1 + s) (x2 + s) (x3 + s) (x4 + s) (x5 + s) = num A B r x1 x2 x3 x4 x5 + s * (1000 * (2 * r + 1)) := by
  unfold num; grind
theorem num_nonneg {A B : Int} (r : Nat) {x1 x2 x3 x4 x5 : Int} (hA : 0 ≤ A) (hB : 0 ≤ B) (hAB : A + B ≤ 500) (h1 : 0 ≤ x1) (h2 : 0 ≤ x2) (h3 : 0 ≤ x3) (h4 : 0 ≤ x4) (h5 : 0 ≤ x5) : 0 ≤ num A B r x1 x2 x3 x4 x5 := by
  unfold num
  have a1 : 0 ≤ (r : Int) * x1 := Int.mul_nonneg (by omega) h1
  have a2 : 0 ≤ ((r : Int) + 1) * x2 := Int.mul_nonneg (by omega) h2
  have a3 : 0 ≤ 2 * A * ((r : Int) * x1 + (r + 1) * x2) := Int.mul_nonneg (by omega) (by omega)
  have a4 : 0 ≤ B * (x3 + x4) := Int.mul_nonneg hB (by omega)
  have a5 : 0 ≤ (1000 - 2 * A - 2 * B) * x5 := Int.mul_nonneg (by omega) h5
  have a6 : 0 ≤ (2 * (r : Int) + 1) * (B * (x3 + x4) + (1000 - 2 * A - 2 * B) * x5) := Int.mul_nonneg (by omega) (by omega)
  omega
theorem num_mono {A B : Int} (r : Nat) {x1 x2 x3 x4 x5 y1 y2 y3 y4 y5 : Int} (hA : 0 ≤ A) (hB : 0 ≤ B) (hAB : A + B ≤ 500) (h1 : x1 ≤ y1) (h2 : x2 ≤ y2) (h3 : x3 ≤ y3) (h4 : x4 ≤ y4) (h5 : x5 ≤ y5) : num A B r x1 x2 x3 x4 x5 ≤ num A B r y1 y2 y3 y4 y5 := by
  have h := num_nonneg r (x1 := y1 - x1) (x2 := y2 - x2) (x3 := y3 - x3) (x4 := y4 - x4) (x5 := y5 - x5) hA hB hAB (by omega) (by omega) (by omega) (by omega) (by omega)
  rw [num_sub] at h
  omega

/-- The temperature at a ring and a layer: the bath's where there is none. -/
def nearT (R L : Nat) (T : List Int) (b : Int) (r l : Int) : Int := if 0 ≤ r ∧ r < R ∧ 0 ≤ l ∧ l < L then T.getD (l * R + r).toNat 0 else b
/-- What becomes of a place in a tick. -/
def mixT (R L : Nat) (A B : Int) (T : List Int) (b : Int) (r l : Nat) : Int :=
  num A B r (nearT R L T b ((r : Int) - 1) l) (nearT R L T b (r + 1) l) (nearT R L T b r ((l : Int) - 1)) (nearT R L T b r (l + 1)) (nearT R L T b r l) / (1000 * (2 * r + 1))
/-- The temperatures after a tick. -/
def tickT (R L : Nat) (A B : Int) (T : List Int) (b : Int) : List Int := (List.range (R * L)).map fun i => mixT R L A B T b (i % R) (i / R)
theorem tickT_len (R L : Nat) (A B : Int) (T : List Int) (b : Int) : (tickT R L A B T b).length = R * L := by simp [tickT]
theorem tickT_get (R L : Nat) (A B : Int) (T : List Int) (b : Int) (i : Nat) (h : i < (tickT R L A B T b).length) : (tickT R L A B T b)[i] = mixT R L A B T b (i % R) (i / R) := by simp [tickT]

theorem getD_at {T : List Int} {i : Nat} (h : i < T.length) : T.getD i 0 = T[i] := by simp [List.getD, h]
theorem idx_lt {R L r l : Nat} (hr : r < R) (hl : l < L) : l * R + r < R * L := by
  have h := Nat.mul_le_mul_right R (show l + 1 ≤ L by omega)
  rw [Nat.succ_mul] at h
  rw [Nat.mul_comm R L]
  omega
theorem nearT_in {R L : Nat} {T : List Int} {b r l : Int} (h : 0 ≤ r ∧ r < R ∧ 0 ≤ l ∧ l < L) : nearT R L T b r l = T.getD (l * R + r).toNat 0 := if_pos h
theorem nearT_out {R L : Nat} {T : List Int} {b r l : Int} (h : ¬ (0 ≤ r ∧ r < R ∧ 0 ≤ l ∧ l < L)) : nearT R L T b r l = b := if_neg h
theorem idx_nat {R L : Nat} {r l : Int} (h : 0 ≤ r ∧ r < R ∧ 0 ≤ l ∧ l < L) : ∃ p q : Nat, r = p ∧ l = q ∧ p < R ∧ q < L ∧ (l * R + r).toNat = q * R + p := by
  obtain ⟨h1, h2, h3, h4⟩ := h
  obtain ⟨p, rfl⟩ := Int.eq_ofNat_of_zero_le h1
  obtain ⟨q, rfl⟩ := Int.eq_ofNat_of_zero_le h3
  exact ⟨p, q, rfl, rfl, by omega, by omega, by rw [← Int.natCast_mul, ← Int.natCast_add, Int.toNat_natCast]⟩
theorem nearT_bd {R L : Nat} {T : List Int} {b lo hi : Int} (r l : Int) (hlen : T.length = R * L) (hT : ∀ x ∈ T, lo ≤ x ∧ x ≤ hi) (hb : lo ≤ b ∧ b ≤ hi) : lo ≤ nearT R L T b r l ∧ nearT R L T b r l ≤ hi := by
  by_cases h : 0 ≤ r ∧ r < R ∧ 0 ≤ l ∧ l < L
  · rw [nearT_in h]
    obtain ⟨p, q, rfl, rfl, hp, hq, e⟩ := idx_nat h
    have hi := idx_lt hp hq
    rw [e, getD_at (by omega)]
    exact hT _ (List.getElem_mem _)
  · rw [nearT_out h]; exact hb
theorem nearT_le {R L : Nat} {T U : List Int} {b d : Int} (r l : Int) (h1 : T.length = R * L) (h2 : U.length = R * L) (h : ∀ i (a : i < T.length) (c : i < U.length), T[i] ≤ U[i]) (hb : b ≤ d) : nearT R L T b r l ≤ nearT R L U d r l := by
  by_cases g : 0 ≤ r ∧ r < R ∧ 0 ≤ l ∧ l < L
  · rw [nearT_in g, nearT_in g]
    obtain ⟨p, q, rfl, rfl, hp, hq, e⟩ := idx_nat g
    have hi := idx_lt hp hq
    rw [e, getD_at (by omega), getD_at (by omega)]
    exact h _ _ _
  · rw [nearT_out g, nearT_out g]; exact hb
theorem nearT_add {R L : Nat} {T : List Int} {b s : Int} (r l : Int) (h1 : T.length = R * L) : nearT R L (T.map (· + s)) (b + s) r l = nearT R L T b r l + s := by
  by_cases g : 0 ≤ r ∧ r < R ∧ 0 ≤ l ∧ l < L
  · rw [nearT_in g, nearT_in g]
    obtain ⟨p, q, rfl, rfl, hp, hq, e⟩ := idx_nat g
    have hi := idx_lt hp hq
    rw [e, getD_at (by rw [List.length_map]; omega), getD_at (by omega), List.getElem_map]
  · rw [nearT_out g, nearT_out g]

theorem wide_pos (r : Nat) : (0 : Int) < 1000 * (2 * r + 1) := by omega
theorem mixT_bd {R L : Nat} {A B : Int} {T : List Int} {b lo hi : Int} (r l : Nat) (hA : 0 ≤ A) (hB : 0 ≤ B) (hAB : A + B ≤ 500) (hlen : T.length = R * L) (hT : ∀ x ∈ T, lo ≤ x ∧ x ≤ hi) (hb : lo ≤ b ∧ b ≤ hi) : lo ≤ mixT R L A B T b r l ∧ mixT R L A B T b r l ≤ hi := by
  have n1 := nearT_bd (r - 1 : Int) l hlen hT hb
  have n2 := nearT_bd (r + 1 : Int) l hlen hT hb
  have n3 := nearT_bd (r : Int) (l - 1 : Int) hlen hT hb
  have n4 := nearT_bd (r : Int) (l + 1 : Int) hlen hT hb
  have n5 := nearT_bd (r : Int) (l : Int) hlen hT hb
  have m1 := num_mono r hA hB hAB n1.1 n2.1 n3.1 n4.1 n5.1
  have m2 := num_mono r hA hB hAB n1.2 n2.2 n3.2 n4.2 n5.2
  rw [num_const] at m1 m2
  unfold mixT
  exact ⟨Int.le_ediv_of_mul_le (wide_pos r) m1, by
    have := Int.ediv_le_ediv (wide_pos r) m2
    rwa [Int.mul_ediv_cancel _ (by have := wide_pos r; omega)] at this⟩
theorem mixT_le {R L : Nat} {A B : Int} {T U : List Int} {b d : Int} (r l : Nat) (hA : 0 ≤ A) (hB : 0 ≤ B) (hAB : A + B ≤ 500) (h1 : T.length = R * L) (h2 : U.length = R * L) (h : ∀ i (a : i < T.length) (c : i < U.length), T[i] ≤ U[i]) (hb : b ≤ d) : mixT R L A B T b r l ≤ mixT R L A B U d r l := by
  unfold mixT
  exact Int.ediv_le_ediv (wide_pos r) (num_mono r hA hB hAB (nearT_le _ _ h1 h2 h hb) (nearT_le _ _ h1 h2 h hb) (nearT_le _ _ h1 h2 h hb) (nearT_le _ _ h1 h2 h hb) (nearT_le _ _ h1 h2 h hb))
theorem mixT_add {R L : Nat} {A B : Int} {T : List Int} {b s : Int} (r l : Nat) (h1 : T.length = R * L) : mixT R L A B (T.map (· + s)) (b + s) r l = mixT R L A B T b r l + s := by
  unfold mixT
  rw [nearT_add _ _ h1, nearT_add _ _ h1, nearT_add _ _ h1, nearT_add _ _ h1, nearT_add _ _ h1, num_add, Int.add_mul_ediv_right _ _ (by have := wide_pos r; omega)]
theorem tickT_bd {R L : Nat} {A B : Int} {T : List Int} {b lo hi : Int} (hA : 0 ≤ A) (hB : 0 ≤ B) (hAB : A + B ≤ 500) (hlen : T.length = R * L) (hT : ∀ x ∈ T, lo ≤ x ∧ x ≤ hi) (hb : lo ≤ b ∧ b ≤ hi) : ∀ x ∈ tickT R L A B T b, lo ≤ x ∧ x ≤ hi := by
  intro x hx
  simp only [tickT, List.mem_map] at hx
  obtain ⟨i, _, rfl⟩ := hx
  exact mixT_bd _ _ hA hB hAB hlen hT hb
theorem tickT_le {R L : Nat} {A B : Int} {T U : List Int} {b d : Int} (hA : 0 ≤ A) (hB : 0 ≤ B) (hAB : A + B ≤ 500) (h1 : T.length = R * L) (h2 : U.length = R * L) (h : ∀ i (a : i < T.length) (c : i < U.length), T[i] ≤ U[i]) (hb : b ≤ d) :
    ∀ i (a : i < (tickT R L A B T b).length) (c : i < (tickT R L A B U d).length), (tickT R L A B T b)[i] ≤ (tickT R L A B U d)[i] := by
  intro i a c
  rw [tickT_get, tickT_get]
  exact mixT_le _ _ hA hB hAB h1 h2 h hb
theorem tickT_add {R L : Nat} {A B : Int} {T : List Int} {b s : Int} (h1 : T.length = R * L) : tickT R L A B (T.map (· + s)) (b + s) = (tickT R L A B T b).map (· + s) := by
  unfold tickT
  rw [List.map_map]
  exact List.map_congr_left fun i _ => mixT_add _ _ h1

/-- The first of the foremost places among the first k, and its temperature. -/
def bestT (lt : Int → Int → Bool) (T : List Int) : Nat → Nat × Int
  | 0 => (0, T.getD 0 0)
  | k + 1 => if lt (T.getD k 0) (bestT lt T k).2 then (k, T.getD k 0) else bestT lt T k
theorem bestT_at (lt : Int → Int → Bool) (T : List Int) (k : Nat) (hk : k ≤ T.length) (h0 : 0 < T.length) : (bestT lt T k).1 < T.length ∧ T.getD (bestT lt T k).1 0 = (bestT lt T k).2 := by
  induction k with
  | zero => exact ⟨h0, rfl⟩
  | succ k ih =>
    unfold bestT
    split
    · exact ⟨by dsimp only; omega, rfl⟩
    · exact ih (by omega)
def ltB (a b : Int) : Bool := decide (a < b)
def gtB (a b : Int) : Bool := decide (b < a)
/-- The least temperature. -/
def minT (T : List Int) : Int := (bestT ltB T T.length).2
theorem best_le (T : List Int) (k : Nat) (hk : k ≤ T.length) : ∀ i (h : i < T.length), i < k → (bestT ltB T k).2 ≤ T[i] := by
  induction k with
  | zero => intro i _ h; omega
  | succ k ih =>
    intro i h hi
    have ih := ih (by omega)
    unfold bestT
    have e : T.getD k 0 = T[k] := getD_at (by omega)
    rw [e]
    rcases Nat.lt_or_ge i k with h1 | h1
    · have := ih i h h1
      split
      · rename_i g
        simp only [ltB, decide_eq_true_eq] at g
        dsimp only; omega
      · exact this
    · obtain rfl : i = k := by omega
      split
      · exact Int.le_refl _
      · rename_i g
        simp only [ltB, decide_eq_true_eq] at g
        omega
theorem minT_le (T : List Int) {x : Int} (h : x ∈ T) : minT T ≤ x := by
  obtain ⟨i, hi, rfl⟩ := List.getElem_of_mem h
  exact best_le T T.length (Nat.le_refl _) i hi hi
theorem minT_mem (T : List Int) (h0 : 0 < T.length) : minT T ∈ T := by
  obtain ⟨h1, h2⟩ := bestT_at ltB T T.length (Nat.le_refl _) h0
  unfold minT
  rw [← h2, getD_at h1]
  exact List.getElem_mem _

/-- A body: its temperatures, and whether it is broken. -/
abbrev Bd := List Int × Bool
/-- Whether it is broken behind a tick that made T. -/
def brk (K : Int) (br : Bool) (T : List Int) : Bool := br || (decide (0 < K) && decide (K ≤ minT T))
def Cn.a (c : Cn) (br : Bool) : Int := if br then c.A2 else c.A
def Cn.b (c : Cn) (br : Bool) : Int := if br then c.B2 else c.B
/-- A tick. -/
def tickS (c : Cn) (x : Bd) (bath : Int) : Bd := (tickT c.R c.L (c.a x.2) (c.b x.2) x.1 bath, brk c.K x.2 (tickT c.R c.L (c.a x.2) (c.b x.2) x.1 bath))
/-- The body behind some ticks. -/
def runS (c : Cn) (x : Bd) (l : List Int) : Bd := l.foldl (tickS c) x
theorem runS_nil (c : Cn) (x : Bd) : runS c x [] = x := rfl
theorem runS_append (c : Cn) (x : Bd) (l m : List Int) : runS c x (l ++ m) = runS c (runS c x l) m := List.foldl_append
theorem runS_succ (c : Cn) (x : Bd) (l : List Int) (k : Nat) (hk : k < l.length) : runS c x (l.take (k + 1)) = tickS c (runS c x (l.take k)) l[k] := by
  rw [List.take_add_one, runS_append]
  simp [hk, runS]
/-- The body has a temperature for each place, each in its range. -/
structure Warm (c : Cn) (x : Bd) : Prop where
  len : x.1.length = c.R * c.L
  bd : ∀ t ∈ x.1, -50000 ≤ t ∧ t ≤ 200000
theorem Cn.Ok.ra {c : Cn} (h : c.Ok) (br : Bool) : 0 ≤ c.a br ∧ 0 ≤ c.b br ∧ c.a br + c.b br ≤ 500 := by
  have := h.a1; have := h.b1; have := h.ab; have := h.a3; have := h.b3; have := h.ab3
  cases br <;> simp [Cn.a, Cn.b] <;> omega
theorem Warm.tick {c : Cn} {x : Bd} {b : Int} (hc : c.Ok) (h : Warm c x) (h1 : -50000 ≤ b) (h2 : b ≤ 200000) : Warm c (tickS c x b) := by
  obtain ⟨a1, a2, a3⟩ := hc.ra x.2
  exact ⟨tickT_len _ _ _ _ _ _, tickT_bd a1 a2 a3 h.len h.bd ⟨h1, h2⟩⟩
theorem Warm.run {c : Cn} {x : Bd} {l : List Int} (hc : c.Ok) (h : Warm c x) (hl : ∀ b ∈ l, -50000 ≤ b ∧ b ≤ 200000) : Warm c (runS c x l) := by
  induction l generalizing x with
  | nil => exact h
  | cons b l ih =>
    have hb := hl b (List.mem_cons_self)
    exact ih (h.tick hc hb.1 hb.2) (fun d hd => hl d (List.mem_cons_of_mem _ hd))
end Go.Proofs.YtihbjimnjhfpeaaGreat
