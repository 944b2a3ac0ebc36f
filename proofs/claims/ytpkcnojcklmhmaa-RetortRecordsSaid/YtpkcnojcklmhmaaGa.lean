/- append of a slice of ints that was read, whatever it is, onto a row of the call's own: one law, in three forms. -/
import Derived.Test.YtpkcnojcklmhmaaRows
import Derived.Maps.AppendAt
import Derived.Deep.RegionLaw
import Derived.OwnWalk
import Derived.OwnWalkIn
import Derived.RegionTactic
namespace Go.Proofs.Ytpkcnojcklmhmaa
open Go.RowKit

/-- The ints of a list, as values. -/
def ivs (l : List Int) : List Value := l.map (.int .i64)
theorem ivs_len (l : List Int) : (ivs l).length = l.length := by simp [ivs]
theorem ivs_one (l : List Int) : ∀ u ∈ ivs l, u.oneCell' = true := by
  intro u hu
  simp only [ivs, List.mem_map] at hu
  obtain ⟨x, _, rfl⟩ := hu
  rfl
/-- What is read of a source: nothing, or the cells from an address on. -/
def Src (w : World) (u : Value) (l : List Int) : Prop := (∃ a c, u = .slice a 0 c ∧ l = []) ∨ ∃ b o c, u = .slice (some ⟨b, o, none⟩) l.length c ∧ ∀ k (h : k < l.length), w.cell? ⟨b, o + k, none⟩ = some (.int .i64 l[k])
/-- What an append leaves: the new row, where it lies, and that no other old block has turned. -/
def AppP (w : World) (base e : Nat) (v : Value) (xs : List Value) (l : List Int) (v' : Value) (w' : World) : Prop :=
  w'.ownsRow base e 1 v' (xs.length + l.length) (xs ++ ivs l) ∧ w.grownBy w' v.ownBlock ∧ (v'.ownBlock = v.ownBlock ∨ v'.ownBlock = some w.heap.size)

section
variable {P : Program} {w : World}
theorem run_app_none {base t ty e : Nat} {i : TypeInfo} (ht : P.underlying t = some (.slice e)) (hi : P.info? e = some i) {v : Value} {n : Nat} {xs : List Value} (hown : w.ownsRow base e 1 v n xs) (c : Nat) :
    (Builtin.append_ #[t, t] ty #[v, .slice none 0 c]).run P w = .ok v w := by
  have hU := run_underlying ht (P := P)
  rcases hown.2 with ⟨rfl, rfl⟩ | ⟨g, cap, cur, rfl, _, _, h, _⟩
  · simp [Builtin.append_, hU, sizeOf, typeInfo, hi, Builtin.lenOf, Builtin.firstCells]
  · simp [Builtin.append_, hU, sizeOf, typeInfo, hi, Builtin.lenOf, Builtin.firstCells, storeCells, h]
theorem run_app {base t ty e : Nat} {i : TypeInfo} (ht : P.underlying t = some (.slice e)) (hi : P.info? e = some i) (hz : i.zero = some (.int .i64 0)) (hs : i.size = 1) (hb : i.bytes = 8)
    {v : Value} {xs : List Value} (hown : w.ownsRow base e 1 v xs.length xs) {u : Value} {l : List Int} (hl : Src w u l) (hn : xs.length + l.length ≤ 1000000) (hbase : base ≤ w.heap.size) :
    ∃ v' w', (Builtin.append_ #[t, t] ty #[v, u]).run P w = .ok v' w' ∧ AppP w base e v xs l v' w' := by
  have go : ∀ (ad : Addr) (c : Nat), u = .slice (some ad) l.length c → (∀ j x, (ivs l)[j]? = some x → w.cell? (ad.add j) = some x) → ∃ v' w', (Builtin.append_ #[t, t] ty #[v, u]).run P w = .ok v' w' ∧ AppP w base e v xs l v' w' := by
    rintro ad c rfl hc
    obtain ⟨v', w', h1, h2, h3, _, h5⟩ := run_append_own_at (P := P) w base t ty e i (.int .i64 0) 1 8 ht hi hz hs hb rfl (by decide) v xs.length xs hown ad l.length c (ivs l) (by rw [ivs_len, Nat.mul_one]) hc (ivs_one l) (by unfold maxLen; omega) (by omega) hbase
    exact ⟨v', w', h1, h2, h3, h5⟩
  rcases hl with ⟨a, c, rfl, rfl⟩ | ⟨b, o, c, rfl, hc⟩
  · cases a with
    | none => exact ⟨v, w, run_app_none ht hi hown c, by simpa [AppP, ivs] using hown, World.grownBy.refl w _, .inl rfl⟩
    | some ad => exact go ad c rfl (fun j x h => by simp [ivs] at h)
  · refine go _ c rfl (fun j x h => ?_)
    have hj : j < l.length := by have := (List.getElem?_eq_some_iff.1 h).1; rwa [ivs_len] at this
    have hadd : (⟨b, o, none⟩ : Addr).add j = ⟨b, o + j, none⟩ := by unfold Addr.add; split <;> simp_all
    rw [hadd, hc j hj, ← h]
    simp [ivs, hj]

theorem wp_app {o : Oper} {a : Act} {K : Act → World → Prop} {Q : Exit → Act → World → Prop} (s x : Operand) (t : TypeId) (ho : o.op = .call { callee := .builtin .append, args := #[s, x], argTypes := #[t, t] })
    (base e : Nat) (i : TypeInfo) (ht : P.underlying t = some (.slice e)) (hi : P.info? e = some i) (hz : i.zero = some (.int .i64 0)) (hs : i.size = 1) (hb : i.bytes = 8)
    (v : Value) (xs : List Value) (hv : a.eval s = v) (hown : w.ownsRow base e 1 v xs.length xs) (u : Value) (l : List Int) (hu : a.eval x = u) (hl : Src w u l) (hn : xs.length + l.length ≤ 1000000) (hbase : base ≤ w.heap.size)
    (h : ∀ v' w', AppP w base e v xs l v' w' → K (a.put o.dst v') w') : o.wp P a w K Q := by
  obtain ⟨v', w', hr, h1⟩ := run_app (P := P) (ty := o.type) ht hi hz hs hb hown hl hn hbase
  unfold Oper.wp execOp
  simp only [ho, resolve, invoke, builtin, Sem.run_bind, Sem.run_pure, Result.andThen_ok, List.map_toArray, List.map_cons, List.map_nil, hv, hu, hr]
  exact h v' w' h1
/-- At a plain list of operations. -/
theorem wpList_app {ops : Array Oper} {rest : List Oper} {o : Oper} {a : Act} {Q : Exit → Act → World → Prop} (hgd : o.guard = none) (s x : Operand) (t : TypeId) (ho : o.op = .call { callee := .builtin .append, args := #[s, x], argTypes := #[t, t] })
    (base e : Nat) (i : TypeInfo) (ht : P.underlying t = some (.slice e)) (hi : P.info? e = some i) (hz : i.zero = some (.int .i64 0)) (hs : i.size = 1) (hb : i.bytes = 8)
    (v : Value) (xs : List Value) (hv : a.eval s = v) (hown : w.ownsRow base e 1 v xs.length xs) (u : Value) (l : List Int) (hu : a.eval x = u) (hl : Src w u l) (hn : xs.length + l.length ≤ 1000000) (hbase : base ≤ w.heap.size)
    (h : ∀ v' w', AppP w base e v xs l v' w' → wpList P ops Q rest (a.put o.dst v') w') : wpList P ops Q (o :: rest) a w :=
  wpList_plain hgd fun _ hK => wp_app s x t ho base e i ht hi hz hs hb v xs hv hown u l hu hl hn hbase fun v' w' h1 => hK _ _ (h v' w' h1)
/-- At a step of a region that draws its order. -/
theorem step_app {ops : Array Oper} {o : Oper} {a : Act} {K : Act → World → Prop} {Q : Exit → Act → World → Prop} {E : Prop} (hgd : o.guard = none) (s x : Operand) (t : TypeId) (ho : o.op = .call { callee := .builtin .append, args := #[s, x], argTypes := #[t, t] })
    (base e : Nat) (i : TypeInfo) (ht : P.underlying t = some (.slice e)) (hi : P.info? e = some i) (hz : i.zero = some (.int .i64 0)) (hs : i.size = 1) (hb : i.bytes = 8)
    (v : Value) (xs : List Value) (hv : a.eval s = v) (hown : w.ownsRow base e 1 v xs.length xs) (u : Value) (l : List Int) (hu : a.eval x = u) (hl : Src w u l) (hn : xs.length + l.length ≤ 1000000) (hbase : base ≤ w.heap.size)
    (h : ∀ v' w', AppP w base e v xs l v' w' → K (a.put o.dst v') w') : if Region.wanted o (yielded ops a.tmps) = true then Oper.wp P o a w K Q else E := by
  have hw : Region.wanted o (yielded ops a.tmps) = true := by simp [Region.wanted, hgd]
  rw [if_pos hw]
  exact wp_app s x t ho base e i ht hi hz hs hb v xs hv hown u l hu hl hn hbase h
/-- A row of no ints that was just laid. -/
theorem own_none (W : World) (e : Nat) (cs : Array Value) (h : cs.size = 0) : (W.alloc (.cells cs e)).ownsRow W.heap.size e 1 (.slice (some ⟨W.heap.size, 0, none⟩) 0 0) ([] : List Value).length [] :=
  ⟨by simp, .inr ⟨W.heap.size, 0, cs, rfl, Nat.le_refl _, heap_alloc_new W _, Nat.le_refl _, by simp, by simpa using h, by simp⟩⟩
end
end Go.Proofs.Ytpkcnojcklmhmaa
