/- Appends in a region that draws: what the own row, and all else, is behind one. -/
import Derived.Test.YtpkcnojcklmhmaaGt
import Derived.Test.YtpkcnojcklmhmaaGa
namespace Go.Proofs.Ytpkcnojcklmhmaa
open Go.RowKit

theorem RowI.src {w : World} {v : Value} {l : List Int} (h : RowI w v l) : Src w v l := by
  rcases h with ⟨a, c, hv, hl⟩ | ⟨b, o, c, hv, _, hc⟩
  · exact .inl ⟨a, c, hv, hl⟩
  · exact .inr ⟨b, o, c, hv, hc⟩
/-- A row of ints that the call owns, read. -/
theorem own_rowI {w : World} {base e : Nat} {v : Value} {l : List Int} (h : w.ownsRow base e 1 v l.length (ivs l)) (hl : l.length ≤ 1000000) : RowI w v l := by
  rcases h.2 with ⟨rfl, h0⟩ | ⟨g, cap, cur, rfl, _, hg, hcap, _, hcs, ht⟩
  · exact .inl ⟨none, 0, rfl, List.length_eq_zero_iff.1 h0⟩
  · refine .inr ⟨g, 0, cap, rfl, by unfold maxLen; omega, fun k hk => ?_⟩
    rw [Nat.zero_add, cell_of_row w g k cur e _ hg]
    have hx : (ivs l)[k]? = some (.int .i64 l[k]) := by simp [ivs, hk]
    rw [← ht, List.getElem?_take_of_lt (by omega)] at hx
    simpa using hx
theorem own_new {W : World} {base e : Nat} {cs : Array Value} (h : cs.size = 0) (hb : base ≤ W.heap.size) : (W.alloc (.cells cs e)).ownsRow base e 1 (.slice (some ⟨W.heap.size, 0, none⟩) 0 0) ([] : List Value).length [] :=
  ⟨by simp, .inr ⟨W.heap.size, 0, cs, rfl, hb, heap_alloc_new W _, Nat.le_refl _, by simp, by simpa using h, by simp⟩⟩
theorem own_at {W : World} {base e n : Nat} {cs : Array Value} (h : cs.size = 0) (hn : W.heap.size = n) (hb : base ≤ n) : (W.alloc (.cells cs e)).ownsRow base e 1 (.slice (some ⟨n, 0, none⟩) 0 0) ([] : List Value).length [] := by
  subst hn; exact own_new h hb
theorem app_low {W W0 w' : World} {base e : Nat} {v v' : Value} {xs : List Value} {l : List Int} (hW : Below W.heap.size W W0) (hown : W0.ownsRow base e 1 v xs.length xs) (hb : W.heap.size ≤ base) (h : AppP W0 base e v xs l v' w') : Below W.heap.size W w' :=
  hW.grown h.2.1 hW.size (fun k hk => by have := (World.ownsRow.lt hown k hk).1; omega)
theorem app_first {W0 w' : World} {base e : Nat} {v v' : Value} {l : List Int} (h : AppP W0 base e v [] l v' w') : w'.ownsRow base e 1 v' (ivs l).length (ivs l) := by
  have := h.1
  rwa [List.length_nil, Nat.zero_add, List.nil_append, ← ivs_len l] at this
theorem app_next {W0 w' : World} {base e : Nat} {v v' : Value} {l m : List Int} (h : AppP W0 base e v (ivs l) m v' w') : w'.ownsRow base e 1 v' (l ++ m).length (ivs (l ++ m)) := by
  have := h.1
  rwa [ivs_len, ← List.length_append, show ivs l ++ ivs m = ivs (l ++ m) by simp [ivs]] at this
/-- A block that an append leaves alone, now and later. -/
def Apart (w : World) (b : Nat) (o : Obj) (v : Value) : Prop := w.heap[b]? = some o ∧ v.ownBlock ≠ some b
theorem apart_app {W w' : World} {base e b : Nat} {o : Obj} {v v' : Value} {xs : List Value} {l : List Int} (hA : AppP W base e v xs l v' w') (h : Apart W b o v) : Apart w' b o v' := by
  have hlt : b < W.heap.size := (Array.getElem?_eq_some_iff.1 h.1).1
  refine ⟨(hA.2.1.block b hlt (Ne.symm h.2)).trans h.1, ?_⟩
  rcases hA.2.2 with h2 | h2
  · rw [h2]; exact h.2
  · rw [h2]; intro g; cases g; omega
/-- The block that is newest. -/
theorem apart_new {W : World} {base e n : Nat} {o : Obj} {v : Value} {xs : List Value} (hown : W.ownsRow base e 1 v n xs) : Apart (W.alloc o) W.heap.size o v :=
  ⟨heap_alloc_new W o, fun g => by have := (World.ownsRow.lt hown _ g).2; omega⟩
/-- The newest block is the row's. -/
theorem apart_old {W : World} {o o' : Obj} {n c : Nat} : Apart ((W.alloc o).alloc o') W.heap.size o (.slice (some ⟨(W.alloc o).heap.size, 0, none⟩) n c) :=
  ⟨heap_alloc2_old W o o', by simp [Value.ownBlock]⟩
theorem apart_at {W : World} {o o' : Obj} {m n c : Nat} (hm : W.heap.size + 1 = m) : Apart ((W.alloc o).alloc o') W.heap.size o (.slice (some ⟨m, 0, none⟩) n c) :=
  ⟨heap_alloc2_old W o o', by simp [Value.ownBlock]; omega⟩
theorem apart_drew {w : World} {b : Nat} {o : Obj} {v : Value} (h : Apart w b o v) : Apart w.drew b o v := h
/-- The law of an append, which hands on that the row is owned. -/
theorem step_app2 {P : Program} {w : World} {ops : Array Oper} {o : Oper} {a : Act} {K : Act → World → Prop} {Q : Exit → Act → World → Prop} {E : Prop} (hgd : o.guard = none) (s x : Operand) (t : TypeId) (ho : o.op = .call { callee := .builtin .append, args := #[s, x], argTypes := #[t, t] })
    (base e : Nat) (i : TypeInfo) (ht : P.underlying t = some (.slice e)) (hi : P.info? e = some i) (hz : i.zero = some (.int .i64 0)) (hs : i.size = 1) (hb : i.bytes = 8)
    (v : Value) (xs : List Value) (hv : a.eval s = v) (hown : w.ownsRow base e 1 v xs.length xs) (u : Value) (l : List Int) (hu : a.eval x = u) (hl : Src w u l) (hn : xs.length + l.length ≤ 1000000) (hbase : base ≤ w.heap.size)
    (h : ∀ v' w', w.ownsRow base e 1 v xs.length xs → AppP w base e v xs l v' w' → K (a.put o.dst v') w') : if Region.wanted o (yielded ops a.tmps) = true then Oper.wp P o a w K Q else E :=
  step_app hgd s x t ho base e i ht hi hz hs hb v xs hv hown u l hu hl hn hbase fun v' w' g => h v' w' hown g
end Go.Proofs.Ytpkcnojcklmhmaa
