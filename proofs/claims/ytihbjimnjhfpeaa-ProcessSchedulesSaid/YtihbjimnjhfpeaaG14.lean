/- Texts of this seat, one behind the other. -/
import Derived.Test.YtihbjimnjhfpeaaRows
import Derived.Maps.AppendAt
import Derived.Deep.RegionLaw
import Derived.OwnWalk
import Derived.OwnWalkIn
import Derived.RegionTactic
import Derived.Test.YtihbjimnjhfpeaaG01
import Derived.Test.YtihbjimnjhfpeaaG13
import Derived.Laws.OwnMore
import Derived.Shelf.Bits.Mul64
/- append of a slice of ints that was read, whatever it is, onto a row of the call's own: one law, in three forms. -/
namespace Go.Proofs.Ytihbjimnjhfpeaa
open Go.RowKit

/-- The ints of a list, as values. -/
def ivs (l : List Int) : List Value := l.map (.int .i64)
theorem ivs_len (l : List Int) : (ivs l).length = l.length := by simp [ivs]
theorem ivs_one (l : List Int) : ∀ u ∈ ivs l, u.oneCell' = true := by
  intro u hu
  simp only [ivs, List.mem_map] at hu
  obtain ⟨x, _, rfl⟩ := hu
  rfl
/-- What is read of a source: nothing, or the cells from an address on. -/
def Src (w : World) (u : Value) (l : List Int) : Prop := (∃ a c, u = .slice a 0 c ∧ l = []) ∨ ∃ b o c, u = .slice (some ⟨b, o, none⟩) l.length c ∧ ∀ k (h : k < l.length), w.cell? ⟨b, o + k, none⟩ = some (.int .i64 l[k])
/-- What an append leaves: the new row, where it lies, and that no other old block has turned. -/
def AppP (w : World) (base e : Nat) (v : Value) (xs : List Value) (l : List Int) (v' : Value) (w' : World) : Prop :=
  w'.ownsRow base e 1 v' (xs.length + l.length) (xs ++ ivs l) ∧ w.grownBy w' v.ownBlock ∧ (v'.ownBlock = v.ownBlock ∨ v'.ownBlock = some w.heap.size)

section
variable {P : Program} {w : World}
theorem run_app_none {base t ty e : Nat} {i : TypeInfo} (ht : P.underlying t = some (.slice e)) (hi : P.info? e = some i) {v : Value} {n : Nat} {xs : List Value} (hown : w.ownsRow base e 1 v n xs) (c : Nat) :
    (Builtin.append_ #[t, t] ty #[v, .slice none 0 c]).run P w = .ok v w := by
  have hU := run_underlying ht (P := P)
  rcases hown.2 with ⟨rfl, rfl⟩ | ⟨g, cap, cur, rfl, _, _, h, _⟩
  · simp [Builtin.append_, hU, sizeOf, typeInfo, hi, Builtin.lenOf, Builtin.firstCells]
  · simp [Builtin.append_, hU, sizeOf, typeInfo, hi, Builtin.lenOf, Builtin.firstCells, storeCells, h]
theorem run_app {base t ty e : Nat} {i : TypeInfo} (ht : P.underlying t = some (.slice e)) (hi : P.info? e = some i) (hz : i.zero = some (.int .i64 0)) (hs : i.size = 1) (hb : i.bytes = 8)
    {v : Value} {xs : List Value} (hown : w.ownsRow base e 1 v xs.length xs) {u : Value} {l : List Int} (hl : Src w u l) (hn : xs.length + l.length ≤ 1000000) (hbase : base ≤ w.heap.size) :
    ∃ v' w', (Builtin.append_ #[t, t] ty #[v, u]).run P w = .ok v' w' ∧ AppP w base e v xs l v' w' := by
  have go : ∀ (ad : Addr) (c : Nat), u = .slice (some ad) l.length c → (∀ j x, (ivs l)[j]? = some x → w.cell? (ad.add j) = some x) → ∃ v' w', (Builtin.append_ #[t, t] ty #[v, u]).run P w = .ok v' w' ∧ AppP w base e v xs l v' w' := by
    rintro ad c rfl hc
    obtain ⟨v', w', h1, h2, h3, _, h5⟩ := run_append_own_at (P := P) w base t ty e i (.int .i64 0) 1 8 ht hi hz hs hb rfl (by decide) v xs.length xs hown ad l.length c (ivs l) (by rw [ivs_len, Nat.mul_one]) hc (ivs_one l) (by unfold maxLen; omega) (by omega) hbase
    exact ⟨v', w', h1, h2, h3, h5⟩
  rcases hl with ⟨a, c, rfl, rfl⟩ | ⟨b, o, c, rfl, hc⟩
  · cases a with
    | none => exact ⟨v, w, run_app_none ht hi hown c, by simpa [AppP, ivs] using hown, World.grownBy.refl w _, .inl rfl⟩
    | some ad => exact go ad c rfl (fun j x h => by simp [ivs] at h)
  · refine go _ c rfl (fun j x h => ?_)
    have hj : j < l.length := by have := (List.getElem?_eq_some_iff.1 h).1; rwa [ivs_len] at this
    have hadd : (⟨b, o, none⟩ : Addr).add j = ⟨b, o + j, none⟩ := by unfold Addr.add; split <;> simp_all
    rw [hadd, hc j hj, ← h]
    simp [ivs, hj]

theorem wp_app {o : Oper} {a : Act} {K : Act → World → Prop} {Q : Exit → Act → World → Prop} (s x : Operand) (t : TypeId) (ho : o.op = .call { callee := .builtin .append, args := #[s, x], argTypes := #[t, t] })
    (base e : Nat) (i : TypeInfo) (ht : P.underlying t = some (.slice e)) (hi : P.info? e = some i) (hz : i.zero = some (.int .i64 0)) (hs : i.size = 1) (hb : i.bytes = 8)
    (v : Value) (xs : List Value) (hv : a.eval s = v) (hown : w.ownsRow base e 1 v xs.length xs) (u : Value) (l : List Int) (hu : a.eval x = u) (hl : Src w u l) (hn : xs.length + l.length ≤ 1000000) (hbase : base ≤ w.heap.size)
    (h : ∀ v' w', AppP w base e v xs l v' w' → K (a.put o.dst v') w') : o.wp P a w K Q := by
  obtain ⟨v', w', hr, h1⟩ := run_app (P := P) (ty := o.type) ht hi hz hs hb hown hl hn hbase
  unfold Oper.wp execOp
  simp only [ho, resolve, invoke, builtin, Sem.run_bind, Sem.run_pure, Result.andThen_ok, List.map_toArray, List.map_cons, List.map_nil, hv, hu, hr]
  exact h v' w' h1
/-- At a plain list of operations. -/
theorem wpList_app {ops : Array Oper} {rest : List Oper} {o : Oper} {a : Act} {Q : Exit → Act → World → Prop} (hgd : o.guard = none) (s x : Operand) (t : TypeId) (ho : o.op = .call { callee := .builtin .append, args := #[s, x], argTypes := #[t, t] })
    (base e : Nat) (i : TypeInfo) (ht : P.underlying t = some (.slice e)) (hi : P.info? e = some i) (hz : i.zero = some (.int .i64 0)) (hs : i.size = 1) (hb : i.bytes = 8)
    (v : Value) (xs : List Value) (hv : a.eval s = v) (hown : w.ownsRow base e 1 v xs.length xs) (u : Value) (l : List Int) (hu : a.eval x = u) (hl : Src w u l) (hn : xs.length + l.length ≤ 1000000) (hbase : base ≤ w.heap.size)
    (h : ∀ v' w', AppP w base e v xs l v' w' → wpList P ops Q rest (a.put o.dst v') w') : wpList P ops Q (o :: rest) a w :=
  wpList_plain hgd fun _ hK => wp_app s x t ho base e i ht hi hz hs hb v xs hv hown u l hu hl hn hbase fun v' w' h1 => hK _ _ (h v' w' h1)
/-- At a step of a region that draws its order. -/
theorem step_app {ops : Array Oper} {o : Oper} {a : Act} {K : Act → World → Prop} {Q : Exit → Act → World → Prop} {E : Prop} (hgd : o.guard = none) (s x : Operand) (t : TypeId) (ho : o.op = .call { callee := .builtin .append, args := #[s, x], argTypes := #[t, t] })
    (base e : Nat) (i : TypeInfo) (ht : P.underlying t = some (.slice e)) (hi : P.info? e = some i) (hz : i.zero = some (.int .i64 0)) (hs : i.size = 1) (hb : i.bytes = 8)
    (v : Value) (xs : List Value) (hv : a.eval s = v) (hown : w.ownsRow base e 1 v xs.length xs) (u : Value) (l : List Int) (hu : a.eval x = u) (hl : Src w u l) (hn : xs.length + l.length ≤ 1000000) (hbase : base ≤ w.heap.size)
    (h : ∀ v' w', AppP w base e v xs l v' w' → K (a.put o.dst v') w') : if Region.wanted o (yielded ops a.tmps) = true then Oper.wp P o a w K Q else E := by
  have hw : Region.wanted o (yielded ops a.tmps) = true := by simp [Region.wanted, hgd]
  rw [if_pos hw]
  exact wp_app s x t ho base e i ht hi hz hs hb v xs hv hown u l hu hl hn hbase h
/-- A row of no ints that was just laid. -/
theorem own_none (W : World) (e : Nat) (cs : Array Value) (h : cs.size = 0) : (W.alloc (.cells cs e)).ownsRow W.heap.size e 1 (.slice (some ⟨W.heap.size, 0, none⟩) 0 0) ([] : List Value).length [] :=
  ⟨by simp, .inr ⟨W.heap.size, 0, cs, rfl, Nat.le_refl _, heap_alloc_new W _, Nat.le_refl _, by simp, by simpa using h, by simp⟩⟩
end
end Go.Proofs.Ytihbjimnjhfpeaa

/- Appends in a region that draws: what the own row, and all else, is behind one. -/
namespace Go.Proofs.Ytihbjimnjhfpeaa
open Go.RowKit

theorem RowI.src {w : World} {v : Value} {l : List Int} (h : RowI w v l) : Src w v l := by
  rcases h with ⟨a, c, hv, hl⟩ | ⟨b, o, c, hv, _, hc⟩
  · exact .inl ⟨a, c, hv, hl⟩
  · exact .inr ⟨b, o, c, hv, hc⟩
/-- A row of ints that the call owns, read. -/
theorem own_rowI {w : World} {base e : Nat} {v : Value} {l : List Int} (h : w.ownsRow base e 1 v l.length (ivs l)) (hl : l.length ≤ 1000000) : RowI w v l := by
  rcases h.2 with ⟨rfl, h0⟩ | ⟨g, cap, cur, rfl, _, hg, hcap, _, hcs, ht⟩
  · exact .inl ⟨none, 0, rfl, List.length_eq_zero_iff.1 h0⟩
  · refine .inr ⟨g, 0, cap, rfl, by unfold maxLen; omega, fun k hk => ?_⟩
    rw [Nat.zero_add, cell_of_row w g k cur e _ hg]
    have hx : (ivs l)[k]? = some (.int .i64 l[k]) := by simp [ivs, hk]
    rw [← ht, List.getElem?_take_of_lt (by omega)] at hx
    simpa using hx
theorem own_new {W : World} {base e : Nat} {cs : Array Value} (h : cs.size = 0) (hb : base ≤ W.heap.size) : (W.alloc (.cells cs e)).ownsRow base e 1 (.slice (some ⟨W.heap.size, 0, none⟩) 0 0) ([] : List Value).length [] :=
  ⟨by simp, .inr ⟨W.heap.size, 0, cs, rfl, hb, heap_alloc_new W _, Nat.le_refl _, by simp, by simpa using h, by simp⟩⟩
theorem own_at {W : World} {base e n : Nat} {cs : Array Value} (h : cs.size = 0) (hn : W.heap.size = n) (hb : base ≤ n) : (W.alloc (.cells cs e)).ownsRow base e 1 (.slice (some ⟨n, 0, none⟩) 0 0) ([] : List Value).length [] := by
  subst hn; exact own_new h hb
theorem app_low {W W0 w' : World} {base e : Nat} {v v' : Value} {xs : List Value} {l : List Int} (hW : Below W.heap.size W W0) (hown : W0.ownsRow base e 1 v xs.length xs) (hb : W.heap.size ≤ base) (h : AppP W0 base e v xs l v' w') : Below W.heap.size W w' :=
  hW.grown h.2.1 hW.size (fun k hk => by have := (World.ownsRow.lt hown k hk).1; omega)
theorem app_first {W0 w' : World} {base e : Nat} {v v' : Value} {l : List Int} (h : AppP W0 base e v [] l v' w') : w'.ownsRow base e 1 v' (ivs l).length (ivs l) := by
  have := h.1
  rwa [List.length_nil, Nat.zero_add, List.nil_append, ← ivs_len l] at this
theorem app_next {W0 w' : World} {base e : Nat} {v v' : Value} {l m : List Int} (h : AppP W0 base e v (ivs l) m v' w') : w'.ownsRow base e 1 v' (l ++ m).length (ivs (l ++ m)) := by
  have := h.1
  rwa [ivs_len, ← List.length_append, show ivs l ++ ivs m = ivs (l ++ m) by simp [ivs]] at this
/-- A block that an append leaves alone, now and later. -/
def Apart (w : World) (b : Nat) (o : Obj) (v : Value) : Prop := w.heap[b]? = some o ∧ v.ownBlock ≠ some b
theorem apart_app {W w' : World} {base e b : Nat} {o : Obj} {v v' : Value} {xs : List Value} {l : List Int} (hA : AppP W base e v xs l v' w') (h : Apart W b o v) : Apart w' b o v' := by
  have hlt : b < W.heap.size := (Array.getElem?_eq_some_iff.1 h.1).1
  refine ⟨(hA.2.1.block b hlt (Ne.symm h.2)).trans h.1, ?_⟩
  rcases hA.2.2 with h2 | h2
  · rw [h2]; exact h.2
  · rw [h2]; intro g; cases g; omega
/-- The block that is newest. -/
theorem apart_new {W : World} {base e n : Nat} {o : Obj} {v : Value} {xs : List Value} (hown : W.ownsRow base e 1 v n xs) : Apart (W.alloc o) W.heap.size o v :=
  ⟨heap_alloc_new W o, fun g => by have := (World.ownsRow.lt hown _ g).2; omega⟩
/-- The newest block is the row's. -/
theorem apart_old {W : World} {o o' : Obj} {n c : Nat} : Apart ((W.alloc o).alloc o') W.heap.size o (.slice (some ⟨(W.alloc o).heap.size, 0, none⟩) n c) :=
  ⟨heap_alloc2_old W o o', by simp [Value.ownBlock]⟩
theorem apart_at {W : World} {o o' : Obj} {m n c : Nat} (hm : W.heap.size + 1 = m) : Apart ((W.alloc o).alloc o') W.heap.size o (.slice (some ⟨m, 0, none⟩) n c) :=
  ⟨heap_alloc2_old W o o', by simp [Value.ownBlock]; omega⟩
theorem apart_drew {w : World} {b : Nat} {o : Obj} {v : Value} (h : Apart w b o v) : Apart w.drew b o v := h
/-- The law of an append, which hands on that the row is owned. -/
theorem step_app2 {P : Program} {w : World} {ops : Array Oper} {o : Oper} {a : Act} {K : Act → World → Prop} {Q : Exit → Act → World → Prop} {E : Prop} (hgd : o.guard = none) (s x : Operand) (t : TypeId) (ho : o.op = .call { callee := .builtin .append, args := #[s, x], argTypes := #[t, t] })
    (base e : Nat) (i : TypeInfo) (ht : P.underlying t = some (.slice e)) (hi : P.info? e = some i) (hz : i.zero = some (.int .i64 0)) (hs : i.size = 1) (hb : i.bytes = 8)
    (v : Value) (xs : List Value) (hv : a.eval s = v) (hown : w.ownsRow base e 1 v xs.length xs) (u : Value) (l : List Int) (hu : a.eval x = u) (hl : Src w u l) (hn : xs.length + l.length ≤ 1000000) (hbase : base ≤ w.heap.size)
    (h : ∀ v' w', w.ownsRow base e 1 v xs.length xs → AppP w base e v xs l v' w' → K (a.put o.dst v') w') : if Region.wanted o (yielded ops a.tmps) = true then Oper.wp P o a w K Q else E :=
  step_app hgd s x t ho base e i ht hi hz hs hb v xs hv hown u l hu hl hn hbase fun v' w' g => h v' w' hown g
end Go.Proofs.Ytihbjimnjhfpeaa

/- Walk of Shifted: contract. -/
namespace Go.Proofs.Ytihbjimnjhfpeaa
open Go.RowKit

/-- What Shifted hands back: a body and an error. -/
def shiftO (r l a b k a2 b2 : Int) (x : Bd) (s : Int) : Bd × Int :=
  if bothB r l a b k a2 b2 x.1 x.2 = false then (([], false), 1) else if (decide (-250000 ≤ s) && decide (s ≤ 250000)) = false then (([], false), 7)
  else if okL (x.1.map (· + s)) = false then (([], false), 7) else ((x.1.map (· + s), x.2), 0)
theorem shiftO_can {r l a b k a2 b2 : Int} {x : Bd} {s : Int} (h : bothB r l a b k a2 b2 x.1 x.2 = false) : shiftO r l a b k a2 b2 x s = (([], false), 1) := by unfold shiftO; rw [if_pos h]
theorem shiftO_far {r l a b k a2 b2 : Int} {x : Bd} {s : Int} (h : bothB r l a b k a2 b2 x.1 x.2 = true) (g : (decide (-250000 ≤ s) && decide (s ≤ 250000)) = false) : shiftO r l a b k a2 b2 x s = (([], false), 7) := by unfold shiftO; rw [if_neg (by rw [h]; simp), if_pos g]
theorem shiftO_bad {r l a b k a2 b2 : Int} {x : Bd} {s : Int} (h : bothB r l a b k a2 b2 x.1 x.2 = true) (g : (decide (-250000 ≤ s) && decide (s ≤ 250000)) = true) (h2 : okL (x.1.map (· + s)) = false) : shiftO r l a b k a2 b2 x s = (([], false), 7) := by unfold shiftO; rw [if_neg (by rw [h]; simp), if_neg (by rw [g]; simp), if_pos h2]
theorem shiftO_ok {r l a b k a2 b2 : Int} {x : Bd} {s : Int} (h : bothB r l a b k a2 b2 x.1 x.2 = true) (g : (decide (-250000 ≤ s) && decide (s ≤ 250000)) = true) (h2 : okL (x.1.map (· + s)) = true) : shiftO r l a b k a2 b2 x s = ((x.1.map (· + s), x.2), 0) := by unfold shiftO; rw [if_neg (by rw [h]; simp), if_neg (by rw [g]; simp), if_neg (by rw [h2]; simp)]

/-- A row of ints that the call made. -/
def CloneP (w : World) (l : List Int) (e : Ending) (w' : World) : Prop := ∃ (g cap : Nat), e = .returned (.slice (some ⟨g, 0, none⟩) l.length cap) ∧ w'.ownsRow w.heap.size 3 1 (.slice (some ⟨g, 0, none⟩) l.length cap) (ivs l).length (ivs l) ∧ Below w.heap.size w w'
set_option maxRecDepth 100000 in
set_option maxHeartbeats 1000000 in
theorem clone_yes (w : World) (v : Value) (l : List Int) (hl : RowI w v l) (h0 : 0 < l.length) (hm : l.length ≤ 1000000) : Calls Try.prog 64 #[v] w (CloneP w l) := by
  obtain ⟨b, o, cap, rfl, hc⟩ := hl.some h0
  have HS := hid (RowI.src (hl.keep ((Below.refl _ w).alloc (Nat.le_refl _) (.cells #[] 3))))
  obtain ⟨i0, hi, hz0, hz1', hz2'⟩ := info_parts infoIf
  have H0 := hid h0
  clear hl hc h0
  have hnil := Go.Lib.run_eql_slice_nil (P := Try.prog) w 44 3 (some ⟨b, o, none⟩) l.length cap 0 0 Try.underlying44
  go_enter Try.func64, Try.ntmps64
  go_wp2_with (first
    | (refine wpList_app rfl (.tmp 5) (.tmp 6) 44 rfl w.heap.size 3 i0 Try.underlying44 hi hz0 hz1' hz2' _ [] rfl (own_new rfl (Nat.le_refl _)) _ l rfl HS.out (by simp; omega) (by simp) ?_; intro v3 w6 hA1; have HB6 := hid (app_low ((Below.refl _ w).alloc (Nat.le_refl _) _) (own_new rfl (Nat.le_refl _)) (Nat.le_refl _) hA1); have HO6 := hid (app_first hA1); clear hA1))
  go_ret
  have ho := HO6.out
  rcases ho.2 with ⟨_, h1⟩ | ⟨g, cap', cur, rfl, _⟩
  · rw [ivs_len] at h1; have := H0.out; omega
  · rw [ivs_len] at ho ⊢
    exact ⟨g, cap', rfl, by rw [ivs_len]; exact ho, HB6.out⟩

/-- The temperatures when n have been shifted. -/
def midS (T : List Int) (s : Int) (n : Nat) : List Int := (T.take n).map (· + s) ++ T.drop n
theorem midS_zero (T : List Int) (s : Int) : midS T s 0 = T := by simp [midS]
theorem midS_all (T : List Int) (s : Int) : midS T s T.length = T.map (· + s) := by simp [midS]
theorem midS_len (T : List Int) (s : Int) (n : Nat) : (midS T s n).length = T.length := by simp [midS]; omega
theorem midS_at {T : List Int} {s : Int} {n : Nat} (h : n < T.length) : (midS T s n)[n]? = some T[n] := by
  unfold midS
  rw [List.getElem?_append_right (by simp; omega)]
  simp [show n - min n T.length = 0 by omega, h]
theorem midS_set {T : List Int} {s : Int} {n : Nat} (h : n < T.length) : (midS T s n).set n (T[n] + s) = midS T s (n + 1) := by
  have e : T.drop n = T[n] :: T.drop (n + 1) := List.drop_eq_getElem_cons h
  have e2 : T.take (n + 1) = T.take n ++ [T[n]] := by rw [List.take_add_one, List.getElem?_eq_getElem h]; rfl
  unfold midS
  rw [e, e2, List.set_append_right _ _ (by simp; omega), List.length_map, List.length_take, show n - min n T.length = 0 by omega, List.set_cons_zero, List.map_append, List.append_assoc]
  rfl
theorem ivs_set (l : List Int) (n : Nat) (x : Int) : (ivs l).set n (.int .i64 x) = ivs (l.set n x) := by simp [ivs, List.map_set]
theorem ivs_at {l : List Int} {n : Nat} {x : Int} (h : l[n]? = some x) : (ivs l)[n]? = some (.int .i64 x) := by simp [ivs, h]
theorem R3.other {w W : World} {A B R : Array Value} {g j : Nat} {u : Value} (h : R3 w W A B R) (hg : w.heap.size + 1 + 1 < g) : R3 w (W.setCell ⟨g, j, none⟩ u) A B R :=
  ⟨(heap_setCell_other _ _ _ _ (show w.heap.size ≠ g by omega)).trans h.can, (heap_setCell_other _ _ _ _ (show w.heap.size + 1 ≠ g by omega)).trans h.bod, (heap_setCell_other _ _ _ _ (show w.heap.size + 1 + 1 ≠ g by omega)).trans h.res, h.low.setCell (p := ⟨g, j, none⟩) (by show w.heap.size ≤ g; omega) u⟩
theorem R3.nil {w W : World} {A B : Array Value} {u v : Value} (h : R3 w W A B #[.slice none 0 0, .bool false]) : ((W.setCell ⟨w.heap.size + 1 + 1, 0, none⟩ u).setCell ⟨w.heap.size + 1 + 1, 1, none⟩ v).cell? ⟨w.heap.size + 1 + 1, 0, none⟩ = some u ∧ ((W.setCell ⟨w.heap.size + 1 + 1, 0, none⟩ u).setCell ⟨w.heap.size + 1 + 1, 1, none⟩ v).cell? ⟨w.heap.size + 1 + 1, 1, none⟩ = some v ∧ Below w.heap.size w ((W.setCell ⟨w.heap.size + 1 + 1, 0, none⟩ u).setCell ⟨w.heap.size + 1 + 1, 1, none⟩ v) := by
  obtain ⟨c6, c7, _, c9⟩ := res_set (u := u) (v := v) h
  exact ⟨c6, c7, c9⟩

theorem rowI_far {W : World} {l : List Int} {g n cap m i j : Nat} {u v : Value} (h : RowI W (.slice (some ⟨g, 0, none⟩) n cap) l) (hne : g ≠ m) : RowI ((W.setCell ⟨m, i, none⟩ u).setCell ⟨m, j, none⟩ v) (.slice (some ⟨g, 0, none⟩) n cap) l := by
  rcases h with h | ⟨b, o, c, hz, hm, hc⟩
  · exact .inl h
  · cases hz
    refine .inr ⟨g, 0, cap, rfl, hm, fun k hk => ?_⟩
    rw [← hc k hk]
    exact World.cell?_of_block (a := ⟨g, 0 + k, none⟩) (by rw [heap_setCell_other _ _ _ _ hne, heap_setCell_other _ _ _ _ hne])
end Go.Proofs.Ytihbjimnjhfpeaa

/- Walk of math/bits.Mul where one factor is 1 and the other one small: contract. -/
namespace Go.Proofs.Ytihbjimnjhfpeaa
open Go.RowKit Go.Lib

set_option maxRecDepth 100000 in
set_option maxHeartbeats 1000000 in
theorem mul64_one (n : Nat) (w : World) (h1 : 1 ≤ n) (h2 : n ≤ 4096) :
    Calls Try.prog 66 #[.int .u64 1, .int .u64 (n : Int)] w fun e w' => e = .returned (.tuple #[.int .u64 0, .int .u64 (n : Int)]) ∧ w = w' := by
  have e1 : bits .and .u64 1 4294967295 = 1 := by decide
  have e2 : bits .and .u64 (n : Int) 4294967295 = (n : Int) := by rw [Mul64.maskN n (by omega)]; omega
  have e3 : bits .and .u64 0 4294967295 = 0 := by decide
  have e4 : (n : Int) / 4294967296 = 0 := by omega
  go_enter Try.func66, Try.ntmps66
  go_wp2
  go_ret2
  exact ⟨rfl, rfl⟩
set_option maxRecDepth 100000 in
set_option maxHeartbeats 1000000 in
theorem mul_one (n : Nat) (w : World) (h1 : 1 ≤ n) (h2 : n ≤ 4096) :
    Calls Try.prog 52 #[.int .u64 1, .int .u64 (n : Int)] w fun e w' => e = .returned (.tuple #[.int .u64 0, .int .u64 (n : Int)]) ∧ w = w' := by
  go_enter Try.func52, Try.ntmps52
  go_wp2_with (go_at_call 66; refine (mul64_one n _ h1 h2).mono ?_; rintro e w' ⟨rfl, rfl⟩)
  go_ret2
  exact ⟨rfl, rfl⟩
end Go.Proofs.Ytihbjimnjhfpeaa
