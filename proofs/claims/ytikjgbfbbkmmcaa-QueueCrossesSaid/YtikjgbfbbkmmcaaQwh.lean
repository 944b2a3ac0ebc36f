/- append of a list of structs that was read onto one of the call's own: a law; slices.Grow of nothing. -/
import Derived.Test.YtikjgbfbbkmmcaaQvr
import Derived.Laws.AppendOwn
import Derived.Maps.AppendAt
import Derived.Lib.AppendZeros
namespace Go.Proofs.Ytikjgbfbbkmmcaa
open Go.RowKit Go.Shelf Go.Lib

section
variable {P : Program} {w : World} {α : Type}
/-- What an append leaves. -/
def AppE (C : Enc α) (w : World) (base e : Nat) (v : Value) (xs l : List α) (v' : Value) (w' : World) : Prop := OwnE C w' base e v' (xs ++ l) ∧ w.grownBy w' v.ownBlock
theorem run_appE_none {base t ty e k : Nat} {i : TypeInfo} (ht : P.underlying t = some (.slice e)) (hi : P.info? e = some i) {v : Value} {n : Nat} {xs : List Value} (hown : w.ownsRow base e k v n xs) (c : Nat) :
    (Builtin.append_ #[t, t] ty #[v, .slice none 0 c]).run P w = .ok v w := by
  have hU := run_underlying ht (P := P)
  rcases hown.2 with ⟨rfl, rfl⟩ | ⟨g, cap, cur, rfl, _, _, h, _⟩
  · simp [Builtin.append_, hU, sizeOf, typeInfo, hi, Builtin.lenOf, Builtin.firstCells]
  · simp [Builtin.append_, hU, sizeOf, typeInfo, hi, Builtin.lenOf, Builtin.firstCells, storeCells, h]
theorem run_appE [Inhabited α] {C : Enc α} {base t ty e bytes : Nat} {i : TypeInfo} {z : Value} (ht : P.underlying t = some (.slice e)) (hi : P.info? e = some i) (hz : i.zero = some z) (hs : i.size = C.n) (hb : i.bytes = bytes) (hzs : z.cells.size = C.n) (h0 : 0 < C.n) (hby : bytes ≤ 1000)
    {v : Value} {xs : List α} (hown : OwnE C w base e v xs) {u : Value} {l : List α} (hl : RowE C w u l) (hn : xs.length + l.length ≤ 1000000) (hbase : base ≤ w.heap.size) :
    ∃ v' w', (Builtin.append_ #[t, t] ty #[v, u]).run P w = .ok v' w' ∧ AppE C w base e v xs l v' w' := by
  have go : ∀ (ad : Addr) (c : Nat), u = .slice (some ad) l.length c → (∀ j x, (evs C l)[j]? = some x → w.cell? (ad.add j) = some x) → ∃ v' w', (Builtin.append_ #[t, t] ty #[v, u]).run P w = .ok v' w' ∧ AppE C w base e v xs l v' w' := by
    rintro ad c rfl hc
    have hm : (xs.length + l.length) * bytes ≤ 1000000 * 1000 := Nat.mul_le_mul hn hby
    obtain ⟨v', w', h1, h2, h3, _, h5⟩ := run_append_own_at (P := P) w base t ty e i z C.n bytes ht hi hz hs hb hzs h0 v xs.length (evs C xs) hown ad l.length c (evs C l) (evs_len C l) hc (evs_one l) (by unfold maxLen; omega) (by omega) hbase
    refine ⟨v', w', h1, ?_, h3⟩
    unfold OwnE
    rw [List.length_append, evs_app]
    exact h2
  obtain ⟨a, cap, rfl⟩ := hl.shape
  rcases a with _ | ⟨b, o, z'⟩
  · have hl0 : l = [] := by
      rcases l with _ | ⟨p, l⟩
      · rfl
      · obtain ⟨b, o, h, _⟩ := hl.get (k := 0) (by simp)
        cases h
    subst hl0
    exact ⟨v, w, run_appE_none ht hi hown cap, by rw [List.append_nil]; exact hown, World.grownBy.refl w _⟩
  · refine go _ cap rfl (fun j x h => ?_)
    have hp : 0 < l.length := by
      have := (List.getElem?_eq_some_iff.1 h).1
      rw [evs_len] at this
      exact Nat.pos_of_ne_zero (fun e => by rw [e] at this; simp at this)
    obtain ⟨b', o', hh, _⟩ := hl.get (k := 0) hp
    injection hh with hh
    injection hh with e1 e2 e3
    subst e1 e2 e3
    exact hl.cells h0 j x h
/-- At a plain list of operations. -/
theorem wpList_appE [Inhabited α] (C : Enc α) {ops : Array Oper} {rest : List Oper} {o : Oper} {a : Act} {Q : Exit → Act → World → Prop} (hgd : o.guard = none) (s x : Operand) (t : TypeId) (ho : o.op = .call { callee := .builtin .append, args := #[s, x], argTypes := #[t, t] })
    (base e bytes : Nat) (i : TypeInfo) (z : Value) (ht : P.underlying t = some (.slice e)) (hi : P.info? e = some i) (hz : i.zero = some z) (hs : i.size = C.n) (hb : i.bytes = bytes) (hzs : z.cells.size = C.n) (h0 : 0 < C.n) (hby : bytes ≤ 1000)
    (v : Value) (xs : List α) (hv : a.eval s = v) (hown : OwnE C w base e v xs) (u : Value) (l : List α) (hu : a.eval x = u) (hl : RowE C w u l) (hn : xs.length + l.length ≤ 1000000) (hbase : base ≤ w.heap.size)
    (h : ∀ v' w', AppE C w base e v xs l v' w' → wpList P ops Q rest (a.put o.dst v') w') : wpList P ops Q (o :: rest) a w :=
  wpList_plain hgd fun K hK => by
    obtain ⟨v', w', hr, h1⟩ := run_appE (P := P) (ty := o.type) ht hi hz hs hb hzs h0 hby hown hl hn hbase
    unfold Oper.wp execOp
    simp only [ho, resolve, invoke, builtin, Sem.run_bind, Sem.run_pure, Result.andThen_ok, List.map_toArray, List.map_cons, List.map_nil, hv, hu, hr]
    exact hK _ _ (h v' w' h1)
end
theorem AppE.low {α : Type} {C : Enc α} {w0 w w' : World} {e : Nat} {v v' : Value} {xs l : List α} (h : AppE C w w0.heap.size e v xs l v' w') (hb : Below w0.heap.size w0 w) (ho : OwnE C w w0.heap.size e v xs) : Below w0.heap.size w0 w' := by
  refine hb.grown h.2 hb.size (fun k hk => ?_)
  rcases ho.2 with ⟨rfl, _⟩ | ⟨g, cap, cur, rfl, hg, _⟩
  · cases hk
  · cases hk; exact hg
end Go.Proofs.Ytikjgbfbbkmmcaa
