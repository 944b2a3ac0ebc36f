/- Texts of this seat, one behind the other. -/
import Derived.Test.YtihbjimnjhfpeaaGreatRows
import Derived.Maps.AppendAt
import Derived.Deep.RegionLaw
import Derived.OwnWalk
import Derived.OwnWalkIn
import Derived.RegionTactic
import Derived.Test.YtihbjimnjhfpeaaGreatR01
import Derived.Test.YtihbjimnjhfpeaaGreatR06
import Derived.Laws.OwnMore
import Derived.Shelf.Bits.Mul64
import Derived.Laws.CopyOwn
import Derived.Deep.OwnRows
import Derived.Deep.DeepCutAuto
/- append of a slice of ints that was read, whatever it is, onto a row of the call's own: one law, in three forms. -/
namespace Go.Proofs.YtihbjimnjhfpeaaGreat
open Go.RowKit

/-- The ints of a list, as values. -/
def ivs (l : List Int) : List Value := l.map (.int .i64)
theorem ivs_len (l : List Int) : (ivs l).length = l.length := by simp [ivs]
theorem ivs_one (l : List Int) : ∀ u ∈ ivs l, u.oneCell' = true := by
  intro u hu
  simp only [ivs, List.mem_map] at hu
  obtain ⟨x, _, rfl⟩ := hu
  rfl
/-- What is read of a source: nothing, or the cells from an address on. -/
def Src (w : World) (u : Value) (l : List Int) : Prop := (∃ a c, u = .slice a 0 c ∧ l = []) ∨ ∃ b o c, u = .slice (some ⟨b, o, none⟩) l.length c ∧ ∀ k (h : k < l.length), w.cell? ⟨b, o + k, none⟩ = some (.int .i64 l[k])
/-- What an append leaves: the new row, where it lies, and that no other old block has turned. -/
def AppP (w : World) (base e : Nat) (v : Value) (xs : List Value) (l : List Int) (v' : Value) (w' : World) : Prop :=
  w'.ownsRow base e 1 v' (xs.length + l.length) (xs ++ ivs l) ∧ w.grownBy w' v.ownBlock ∧ (v'.ownBlock = v.ownBlock ∨ v'.ownBlock = some w.heap.size)

section
variable {P : Program} {w : World}
theorem run_app_none {base t ty e : Nat} {i : TypeInfo} (ht : P.underlying t = some (.slice e)) (hi : P.info? e = some i) {v : Value} {n : Nat} {xs : List Value} (hown : w.ownsRow base e 1 v n xs) (c : Nat) :
    (Builtin.append_ #[t, t] ty #[v, .slice none 0 c]).run P w = .ok v w := by
  have hU := run_underlying ht (P := P)
  rcases hown.2 with ⟨rfl, rfl⟩ | ⟨g, cap, cur, rfl, _, _, h, _⟩
  · simp [Builtin.append_, hU, sizeOf, typeInfo, hi, Builtin.lenOf, Builtin.firstCells]
  · simp [Builtin.append_, hU, sizeOf, typeInfo, hi, Builtin.lenOf, Builtin.firstCells, storeCells, h]
theorem run_app {base t ty e : Nat} {i : TypeInfo} (ht : P.underlying t = some (.slice e)) (hi : P.info? e = some i) (hz : i.zero = some (.int .i64 0)) (hs : i.size = 1) (hb : i.bytes = 8)
    {v : Value} {xs : List Value} (hown : w.ownsRow base e 1 v xs.length xs) {u : Value} {l : List Int} (hl : Src w u l) (hn : xs.length + l.length ≤ 1000000) (hbase : base ≤ w.heap.size) :
    ∃ v' w', (Builtin.append_ #[t, t] ty #[v, u]).run P w = .ok v' w' ∧ AppP w base e v xs l v' w' := by
  have go : ∀ (ad : Addr) (c : Nat), u = .slice (some ad) l.length c → (∀ j x, (ivs l)[j]? = some x → w.cell? (ad.add j) = some x) → ∃ v' w', (Builtin.append_ #[t, t] ty #[v, u]).run P w = .ok v' w' ∧ AppP w base e v xs l v' w' := by
    rintro ad c rfl hc
    obtain ⟨v', w', h1, h2, h3, _, h5⟩ := run_append_own_at (P := P) w base t ty e i (.int .i64 0) 1 8 ht hi hz hs hb rfl (by decide) v xs.length xs hown ad l.length c (ivs l) (by rw [ivs_len, Nat.mul_one]) hc (ivs_one l) (by unfold maxLen; omega) (by omega) hbase
    exact ⟨v', w', h1, h2, h3, h5⟩
  rcases hl with ⟨a, c, rfl, rfl⟩ | ⟨b, o, c, rfl, hc⟩
  · cases a with
    | none => exact ⟨v, w, run_app_none ht hi hown c, by simpa [AppP, ivs] using hown, World.grownBy.refl w _, .inl rfl⟩
    | some ad => exact go ad c rfl (fun j x h => by simp [ivs] at h)
  · refine go _ c rfl (fun j x h => ?_)
    have hj : j < l.length := by have := (List.getElem?_eq_some_iff.1 h).1; rwa [ivs_len] at this
    have hadd : (⟨b, o, none⟩ : Addr).add j = ⟨b, o + j, none⟩ := by unfold Addr.add; split <;> simp_all
    rw [hadd, hc j hj, ← h]
    simp [ivs, hj]

theorem wp_app {o : Oper} {a : Act} {K : Act → World → Prop} {Q : Exit → Act → World → Prop} (s x : Operand) (t : TypeId) (ho : o.op = .call { callee := .builtin .append, args := #[s, x], argTypes := #[t, t] })
    (base e : Nat) (i : TypeInfo) (ht : P.underlying t = some (.slice e)) (hi : P.info? e = some i) (hz : i.zero = some (.int .i64 0)) (hs : i.size = 1) (hb : i.bytes = 8)
    (v : Value) (xs : List Value) (hv : a.eval s = v) (hown : w.ownsRow base e 1 v xs.length xs) (u : Value) (l : List Int) (hu : a.eval x = u) (hl : Src w u l) (hn : xs.length + l.length ≤ 1000000) (hbase : base ≤ w.heap.size)
    (h : ∀ v' w', AppP w base e v xs l v' w' → K (a.put o.dst v') w') : o.wp P a w K Q := by
  obtain ⟨v', w', hr, h1⟩ := run_app (P := P) (ty := o.type) ht hi hz hs hb hown hl hn hbase
  unfold Oper.wp execOp
  simp only [ho, resolve, invoke, builtin, Sem.run_bind, Sem.run_pure, Result.andThen_ok, List.map_toArray, List.map_cons, List.map_nil, hv, hu, hr]
  exact h v' w' h1
/-- At a plain list of operations. -/
theorem wpList_app {ops : Array Oper} {rest : List Oper} {o : Oper} {a : Act} {Q : Exit → Act → World → Prop} (hgd : o.guard = none) (s x : Operand) (t : TypeId) (ho : o.op = .call { callee := .builtin .append, args := #[s, x], argTypes := #[t, t] })
    (base e : Nat) (i : TypeInfo) (ht : P.underlying t = some (.slice e)) (hi : P.info? e = some i) (hz : i.zero = some (.int .i64 0)) (hs : i.size = 1) (hb : i.bytes = 8)
    (v : Value) (xs : List Value) (hv : a.eval s = v) (hown : w.ownsRow base e 1 v xs.length xs) (u : Value) (l : List Int) (hu : a.eval x = u) (hl : Src w u l) (hn : xs.length + l.length ≤ 1000000) (hbase : base ≤ w.heap.size)
    (h : ∀ v' w', AppP w base e v xs l v' w' → wpList P ops Q rest (a.put o.dst v') w') : wpList P ops Q (o :: rest) a w :=
  wpList_plain hgd fun _ hK => wp_app s x t ho base e i ht hi hz hs hb v xs hv hown u l hu hl hn hbase fun v' w' h1 => hK _ _ (h v' w' h1)
end
end Go.Proofs.YtihbjimnjhfpeaaGreat

/- Appends in a region that draws: what the own row, and all else, is behind one. -/
namespace Go.Proofs.YtihbjimnjhfpeaaGreat
open Go.RowKit

theorem RowI.src {w : World} {v : Value} {l : List Int} (h : RowI w v l) : Src w v l := by
  rcases h with ⟨a, c, hv, hl⟩ | ⟨b, o, c, hv, _, hc⟩
  · exact .inl ⟨a, c, hv, hl⟩
  · exact .inr ⟨b, o, c, hv, hc⟩
/-- A row of ints that the call owns, read. -/
theorem own_rowI {w : World} {base e : Nat} {v : Value} {l : List Int} (h : w.ownsRow base e 1 v l.length (ivs l)) (hl : l.length ≤ 1000000) : RowI w v l := by
  rcases h.2 with ⟨rfl, h0⟩ | ⟨g, cap, cur, rfl, _, hg, hcap, _, hcs, ht⟩
  · exact .inl ⟨none, 0, rfl, List.length_eq_zero_iff.1 h0⟩
  · refine .inr ⟨g, 0, cap, rfl, by unfold maxLen; omega, fun k hk => ?_⟩
    rw [Nat.zero_add, cell_of_row w g k cur e _ hg]
    have hx : (ivs l)[k]? = some (.int .i64 l[k]) := by simp [ivs, hk]
    rw [← ht, List.getElem?_take_of_lt (by omega)] at hx
    simpa using hx
theorem own_new {W : World} {base e : Nat} {cs : Array Value} (h : cs.size = 0) (hb : base ≤ W.heap.size) : (W.alloc (.cells cs e)).ownsRow base e 1 (.slice (some ⟨W.heap.size, 0, none⟩) 0 0) ([] : List Value).length [] :=
  ⟨by simp, .inr ⟨W.heap.size, 0, cs, rfl, hb, heap_alloc_new W _, Nat.le_refl _, by simp, by simpa using h, by simp⟩⟩
theorem app_low {W W0 w' : World} {base e : Nat} {v v' : Value} {xs : List Value} {l : List Int} (hW : Below W.heap.size W W0) (hown : W0.ownsRow base e 1 v xs.length xs) (hb : W.heap.size ≤ base) (h : AppP W0 base e v xs l v' w') : Below W.heap.size W w' :=
  hW.grown h.2.1 hW.size (fun k hk => by have := (World.ownsRow.lt hown k hk).1; omega)
theorem app_first {W0 w' : World} {base e : Nat} {v v' : Value} {l : List Int} (h : AppP W0 base e v [] l v' w') : w'.ownsRow base e 1 v' (ivs l).length (ivs l) := by
  have := h.1
  rwa [List.length_nil, Nat.zero_add, List.nil_append, ← ivs_len l] at this
theorem app_next {W0 w' : World} {base e : Nat} {v v' : Value} {l m : List Int} (h : AppP W0 base e v (ivs l) m v' w') : w'.ownsRow base e 1 v' (l ++ m).length (ivs (l ++ m)) := by
  have := h.1
  rwa [ivs_len, ← List.length_append, show ivs l ++ ivs m = ivs (l ++ m) by simp [ivs]] at this
/-- A block that an append leaves alone, now and later. -/
def Apart (w : World) (b : Nat) (o : Obj) (v : Value) : Prop := w.heap[b]? = some o ∧ v.ownBlock ≠ some b
end Go.Proofs.YtihbjimnjhfpeaaGreat

/- Walk of Shifted: contract. -/
namespace Go.Proofs.YtihbjimnjhfpeaaGreat
open Go.RowKit

/-- What Shifted hands back: a body and an error. -/
def shiftO (r l a b k a2 b2 : Int) (x : Bd) (s : Int) : Bd × Int :=
  if bothB r l a b k a2 b2 x.1 x.2 = false then (([], false), 1) else if (decide (-250000 ≤ s) && decide (s ≤ 250000)) = false then (([], false), 7)
  else if okL (x.1.map (· + s)) = false then (([], false), 7) else ((x.1.map (· + s), x.2), 0)
/-- A row of ints that the call made. -/
def CloneP (w : World) (l : List Int) (e : Ending) (w' : World) : Prop := ∃ (g cap : Nat), e = .returned (.slice (some ⟨g, 0, none⟩) l.length cap) ∧ w'.ownsRow w.heap.size 3 1 (.slice (some ⟨g, 0, none⟩) l.length cap) (ivs l).length (ivs l) ∧ Below w.heap.size w w'
set_option maxRecDepth 100000 in
set_option maxHeartbeats 1000000 in
theorem clone_yes (w : World) (v : Value) (l : List Int) (hl : RowI w v l) (h0 : 0 < l.length) (hm : l.length ≤ 1000000) : Calls Tryz.prog 123 #[v] w (CloneP w l) := by
  obtain ⟨b, o, cap, rfl, hc⟩ := hl.some h0
  have HS := hid (RowI.src (hl.keep ((Below.refl _ w).alloc (Nat.le_refl _) (.cells #[] 3))))
  obtain ⟨i0, hi, hz0, hz1', hz2'⟩ := info_parts infoIf
  have H0 := hid h0
  clear hl hc h0
  have hnil := Go.Lib.run_eql_slice_nil (P := Tryz.prog) w 28 3 (some ⟨b, o, none⟩) l.length cap 0 0 Tryz.underlying28
  go_enter Tryz.func123, Tryz.ntmps123
  go_wp2_with (first
    | (refine wpList_app rfl (.tmp 5) (.tmp 6) 28 rfl w.heap.size 3 i0 Tryz.underlying28 hi hz0 hz1' hz2' _ [] rfl (own_new rfl (Nat.le_refl _)) _ l rfl HS.out (by simp; omega) (by simp) ?_; intro v3 w6 hA1; have HB6 := hid (app_low ((Below.refl _ w).alloc (Nat.le_refl _) _) (own_new rfl (Nat.le_refl _)) (Nat.le_refl _) hA1); have HO6 := hid (app_first hA1); clear hA1))
  go_ret
  have ho := HO6.out
  rcases ho.2 with ⟨_, h1⟩ | ⟨g, cap', cur, rfl, _⟩
  · rw [ivs_len] at h1; have := H0.out; omega
  · rw [ivs_len] at ho ⊢
    exact ⟨g, cap', rfl, by rw [ivs_len]; exact ho, HB6.out⟩

/-- The temperatures when n have been shifted. -/
def midS (T : List Int) (s : Int) (n : Nat) : List Int := (T.take n).map (· + s) ++ T.drop n
theorem ivs_set (l : List Int) (n : Nat) (x : Int) : (ivs l).set n (.int .i64 x) = ivs (l.set n x) := by simp [ivs, List.map_set]
theorem ivs_at {l : List Int} {n : Nat} {x : Int} (h : l[n]? = some x) : (ivs l)[n]? = some (.int .i64 x) := by simp [ivs, h]
theorem R3.other {w W : World} {A B R : Array Value} {g j : Nat} {u : Value} (h : R3 w W A B R) (hg : w.heap.size + 1 + 1 < g) : R3 w (W.setCell ⟨g, j, none⟩ u) A B R :=
  ⟨(heap_setCell_other _ _ _ _ (show w.heap.size ≠ g by omega)).trans h.can, (heap_setCell_other _ _ _ _ (show w.heap.size + 1 ≠ g by omega)).trans h.bod, (heap_setCell_other _ _ _ _ (show w.heap.size + 1 + 1 ≠ g by omega)).trans h.res, h.low.setCell (p := ⟨g, j, none⟩) (by show w.heap.size ≤ g; omega) u⟩
theorem R3.nil {w W : World} {A B : Array Value} {u v : Value} (h : R3 w W A B #[.slice none 0 0, .bool false]) : ((W.setCell ⟨w.heap.size + 1 + 1, 0, none⟩ u).setCell ⟨w.heap.size + 1 + 1, 1, none⟩ v).cell? ⟨w.heap.size + 1 + 1, 0, none⟩ = some u ∧ ((W.setCell ⟨w.heap.size + 1 + 1, 0, none⟩ u).setCell ⟨w.heap.size + 1 + 1, 1, none⟩ v).cell? ⟨w.heap.size + 1 + 1, 1, none⟩ = some v ∧ Below w.heap.size w ((W.setCell ⟨w.heap.size + 1 + 1, 0, none⟩ u).setCell ⟨w.heap.size + 1 + 1, 1, none⟩ v) := by
  obtain ⟨c6, c7, _, c9⟩ := res_set (u := u) (v := v) h
  exact ⟨c6, c7, c9⟩

theorem rowI_far {W : World} {l : List Int} {g n cap m i j : Nat} {u v : Value} (h : RowI W (.slice (some ⟨g, 0, none⟩) n cap) l) (hne : g ≠ m) : RowI ((W.setCell ⟨m, i, none⟩ u).setCell ⟨m, j, none⟩ v) (.slice (some ⟨g, 0, none⟩) n cap) l := by
  rcases h with h | ⟨b, o, c, hz, hm, hc⟩
  · exact .inl h
  · cases hz
    refine .inr ⟨g, 0, cap, rfl, hm, fun k hk => ?_⟩
    rw [← hc k hk]
    exact World.cell?_of_block (a := ⟨g, 0 + k, none⟩) (by rw [heap_setCell_other _ _ _ _ hne, heap_setCell_other _ _ _ _ hne])
end Go.Proofs.YtihbjimnjhfpeaaGreat

/- Walk of math/bits.Mul where one factor is 1 and the other one small: contract. -/
namespace Go.Proofs.YtihbjimnjhfpeaaGreat
open Go.RowKit Go.Lib

set_option maxRecDepth 100000 in
set_option maxHeartbeats 1000000 in
theorem mul64_one (n : Nat) (w : World) (h1 : 1 ≤ n) (h2 : n ≤ 4096) :
    Calls Tryz.prog 148 #[.int .u64 1, .int .u64 (n : Int)] w fun e w' => e = .returned (.tuple #[.int .u64 0, .int .u64 (n : Int)]) ∧ w = w' := by
  have e1 : bits .and .u64 1 4294967295 = 1 := by decide
  have e2 : bits .and .u64 (n : Int) 4294967295 = (n : Int) := by rw [Mul64.maskN n (by omega)]; omega
  have e3 : bits .and .u64 0 4294967295 = 0 := by decide
  have e4 : (n : Int) / 4294967296 = 0 := by omega
  go_enter Tryz.func148, Tryz.ntmps148
  go_wp2
  go_ret2
  exact ⟨rfl, rfl⟩
set_option maxRecDepth 100000 in
set_option maxHeartbeats 1000000 in
theorem mul_one (n : Nat) (w : World) (h1 : 1 ≤ n) (h2 : n ≤ 4096) :
    Calls Tryz.prog 120 #[.int .u64 1, .int .u64 (n : Int)] w fun e w' => e = .returned (.tuple #[.int .u64 0, .int .u64 (n : Int)]) ∧ w = w' := by
  go_enter Tryz.func120, Tryz.ntmps120
  go_wp2_with (go_at_call 148; refine (mul64_one n _ h1 h2).mono ?_; rintro e w' ⟨rfl, rfl⟩)
  go_ret2
  exact ⟨rfl, rfl⟩
end Go.Proofs.YtihbjimnjhfpeaaGreat

/- Walk of slices.Repeat over one number: contract. -/
namespace Go.Proofs.YtihbjimnjhfpeaaGreat
open Go.RowKit

/-- What has been filled: m times t, then zeros. -/
def filL (t : Int) (n m : Nat) : List Int := List.replicate m t ++ List.replicate (n - m) 0
theorem filL_all (t : Int) (n : Nat) : filL t n n = List.replicate n t := by simp [filL]
theorem filL_len {t : Int} {n m : Nat} (h : m ≤ n) : (filL t n m).length = n := by simp [filL]; omega
theorem ivs_append (l m : List Int) : ivs (l ++ m) = ivs l ++ ivs m := by simp [ivs]
theorem ivs_rep (t : Int) (n : Nat) : ivs (List.replicate n t) = List.replicate n (.int .i64 t) := by simp [ivs]
theorem filL_one {t : Int} {n : Nat} (h : 1 ≤ n) : splice (List.replicate n (Value.int .i64 0)) 0 [.int .i64 t] = ivs (filL t n 1) := by
  have e := splice_mid ([] : List Value) (List.replicate n (Value.int .i64 0)) [] [.int .i64 t] (by rw [List.length_replicate]; exact h)
  rw [List.nil_append, List.append_nil] at e
  rw [List.length_nil] at e
  rw [e]
  simp [filL, ivs]
theorem filL_step {t : Int} {n m k : Nat} (h : m + k ≤ n) : splice (ivs (filL t n m)) m (ivs (List.replicate k t)) = ivs (filL t n (m + k)) := by
  have e := splice_mid (List.replicate m (Value.int .i64 t)) (List.replicate (n - m) (Value.int .i64 0)) [] (List.replicate k (.int .i64 t)) (by simp; omega)
  rw [List.length_replicate, List.append_nil] at e
  unfold filL
  rw [ivs_append, ivs_append, ivs_rep, ivs_rep, ivs_rep, ivs_rep, e]
  rw [List.length_replicate, List.drop_replicate, List.append_nil, ← List.append_assoc, List.replicate_append_replicate, show n - m - k = n - (m + k) by omega, ivs_rep]
theorem filL_at {t : Int} {n m j : Nat} (h : j < m) : (filL t n m)[j]? = some t := by
  unfold filL
  rw [List.getElem?_append_left (by simpa using h)]
  simp [h]
/-- A row of ints in memory that is new since w. -/
def RepP (w : World) (l : List Int) (e : Ending) (w' : World) : Prop := ∃ g, e = .returned (.slice (some ⟨g, 0, none⟩) l.length l.length) ∧ w.heap.size ≤ g ∧ w'.heap[g]? = some (.cells (ivs l).toArray 3 (0, 0)) ∧ Below w.heap.size w w'

set_option maxRecDepth 100000 in
set_option maxHeartbeats 2000000 in
theorem repeat_any (w : World) (b o cap n : Nat) (t : Int) (hc : w.cell? ⟨b, o, none⟩ = some (.int .i64 t)) (hn1 : 1 ≤ n) (hn2 : n ≤ 4096) :
    Calls Tryz.prog 74 #[.slice (some ⟨b, o, none⟩) 1 cap, .int .i64 (n : Int)] w (RepP w (List.replicate n t)) := by
  have hmk := run_make_row' (P := Tryz.prog) 28 3 (.int .i64 0) 8 Tryz.underlying28 infoIf rfl .i64 .i64 n (by omega) (by omega)
  have HSRC := hid (src_cells (w := w.alloc (.cells (madeCells #[.int .i64 0] n) 3)) (b := b) (o := o) (l := [t]) (fun k hk => by obtain rfl : k = 0 := (by simpa using hk); exact keep_cell ((Below.refl _ w).alloc (Nat.le_refl _) (.cells (madeCells #[.int .i64 0] n) 3)) hc))
  have hmin : ([t].map (Value.int .i64)).length = Nat.min 1 n := by simp; exact (Nat.min_eq_left hn1).symm
  have HMIN := hid hmin
  have hfit : 0 + ([t].map (Value.int .i64)).length ≤ (List.replicate n (Value.int .i64 0)).length := by simp; omega
  have HFIT := hid hfit
  have HONE := hid (filL_one (t := t) hn1)
  clear hmin hfit
  have HC := hid (keep_cell ((Below.refl _ w).alloc (Nat.le_refl _) (.cells (madeCells #[.int .i64 0] n) 3)) hc)
  have h0 : ¬ (n : Int) < 0 := by omega
  have hbig : decide ((9223372036854775807 : Int) < n) = false := by simp; omega
  clear hc
  go_enter Tryz.func74, Tryz.ntmps74
  go_wp2_with (first
    | (go_at_call 120; refine (mul_one n _ hn1 hn2).mono ?_; rintro e w' ⟨rfl, rfl⟩)
    | (refine wpList_copy_splice rfl (.tmp 31) (.tmp 32) 28 28 rfl 3 Tryz.underlying28 infoI (some ⟨w.heap.size, 0, none⟩) (some ⟨b, o, none⟩) n n 1 cap rfl rfl w.heap.size 0 (List.replicate n (Value.int .i64 0)) 3 (made_at w n 3) ([t].map (.int .i64)) HMIN.out (fun _ => ⟨rfl, _, rfl, HSRC.out⟩) HFIT.out (ints_one [t]) w.heap.size w ((Below.refl _ w).alloc (Nat.le_refl _) _) (Nat.le_refl _) ?_; intro w6 HG6 hB6))
  have hg6 := HG6.out
  rw [List.map_cons, List.map_nil, HONE.out] at hg6
  have HG := hid hg6
  have HB6 := hid hB6
  clear HG6 hg6 hB6
  clear HSRC HMIN HFIT HONE hmk HC
  go_loopw [8] (fun i wr => ∃ m : Nat, 1 ≤ m ∧ m ≤ n ∧ i = .int .i64 (m : Int) ∧ Hid (wr.heap[w.heap.size]? = some (.cells (ivs (filL t n m)).toArray 3 (0, 0))) ∧ Hid (Below w.heap.size w wr)) (fun i _ => n - (intOf i).toNat)
  case atStart => exact ⟨1, Nat.le_refl _, hn1, rfl, HG, HB6⟩
  case round =>
    obtain ⟨m, hm1, hm2, rfl, HW, HB⟩ := hrel
    by_cases hlt : m < n
    · have hlt' : (m : Int) < n := by omega
      have hne : ¬ n = m := by omega
      obtain ⟨k, hk⟩ : ∃ k, k = Nat.min m (n - m) := ⟨_, rfl⟩
      have hk1 : 1 ≤ k := by rw [hk]; exact Nat.le_min.2 ⟨hm1, by omega⟩
      have hk2 : m + k ≤ n := by have := Nat.min_le_right m (n - m); rw [hk]; show m + Nat.min m (n - m) ≤ n; have h2 : Nat.min m (n - m) ≤ n - m := this; omega
      have hk3 : k ≤ m := by rw [hk]; exact Nat.min_le_left m (n - m)
      have HCS := hid (show (ivs (List.replicate k t)).length = Nat.min m (n - m) by rw [ivs_len, List.length_replicate, hk])
      have HFT := hid (show m + (ivs (List.replicate k t)).length ≤ (ivs (filL t n m)).length by rw [ivs_len, ivs_len, List.length_replicate, filL_len hm2]; exact hk2)
      have HSR := hid (src_cells (w := wr.drew) (b := w.heap.size) (o := 0) (l := List.replicate k t) (fun j hj => by
        rw [List.length_replicate] at hj
        rw [Nat.zero_add]
        refine (cell_of_row wr w.heap.size j _ _ _ HW.out).trans ?_
        have := ivs_at (filL_at (t := t) (n := n) (show j < m by omega))
        simpa using this))
      have HSTEP := hid (filL_step (t := t) hk2)
      have HONE := hid (ivs_one (List.replicate k t))
      clear hk
      go_wp2
      go_region_held3 (fun w' => Below w.heap.size w w') (first | exact HB.out.drew | exact hB7) ((refine step_copy_splice rfl (.tmp 41) (.tmp 44) 28 28 rfl 3 Tryz.underlying28 infoI (some ⟨w.heap.size, m, none⟩) (some ⟨w.heap.size, 0, none⟩) (n - m) (n - m) m n rfl rfl w.heap.size m (ivs (filL t n m)) 3 HW.out (ivs (List.replicate k t)) HCS.out (fun _ => ⟨rfl, _, rfl, HSR.out⟩) HFT.out HONE.out w.heap.size w HB.out.drew (Nat.le_refl _) ?_; intro w7 HG7 hB7))
      have HG8 := hid HG7.out
      rw [HSTEP.out] at HG8
      have HB8 := hid hB7
      clear HG7 hB7
      go_wp2
      go_roundw
      case rel => exact ⟨m + k, by omega, hk2, by rw [ivs_len, List.length_replicate, wrap_i64 (n := (m : Int) + k) (by omega) (by omega)]; go_num, HG8, HB8⟩
      case measure =>
        rw [ivs_len, List.length_replicate, wrap_i64 (n := (m : Int) + k) (by omega) (by omega)]
        simp [intOf]; omega
    · obtain rfl : m = n := by omega
      rw [filL_all] at HW
      go_wp2
      go_ret
      refine ⟨w.heap.size, ?_, Nat.le_refl _, HW.out, HB.out⟩
      rw [List.length_replicate]
      rfl
end Go.Proofs.YtihbjimnjhfpeaaGreat

/- Walk of Even of both: contracts. -/
namespace Go.Proofs.YtihbjimnjhfpeaaGreat
open Go.RowKit

/-- What Even hands back. -/
def evenO (r l a b k a2 b2 t : Int) : Bd × Int :=
  if canB r l a b k a2 b2 = false then (([], false), 1) else if okT t = false then (([], false), 7) else ((List.replicate (cnOf r l a b k a2 b2).P t, decide (0 < k) && decide (k ≤ t)), 0)
theorem evenO_can {r l a b k a2 b2 t : Int} (h : canB r l a b k a2 b2 = false) : evenO r l a b k a2 b2 t = (([], false), 1) := by unfold evenO; rw [if_pos h]
theorem evenO_far {r l a b k a2 b2 t : Int} (h : canB r l a b k a2 b2 = true) (g : okT t = false) : evenO r l a b k a2 b2 t = (([], false), 7) := by unfold evenO; rw [if_neg (by rw [h]; simp), if_pos g]
theorem evenO_ok {c : Cn} {t : Int} (h : c.V) (g : okT t = true) : evenO c.R c.L c.A c.B c.K c.A2 c.B2 t = ((List.replicate c.P t, decide (0 < c.K) && decide (c.K ≤ t)), 0) := by
  unfold evenO; rw [if_neg (by rw [show canB (c.R : Int) c.L c.A c.B c.K c.A2 c.B2 = true from h]; simp), if_neg (by rw [g]; simp), cnOf_cn]
/-- The boxes of a can and of the body that comes back, whole. -/
structure R2 (w w1 : World) (A R : Array Value) : Prop where
  can : w1.heap[w.heap.size]? = some (.cells A 23 (0, 0))
  res : w1.heap[w.heap.size + 1]? = some (.cells R 87 (0, 0))
  low : Below w.heap.size w w1
theorem R2.keep {w w1 w2 : World} {A R : Array Value} (h : R2 w w1 A R) (hb : Below w1.heap.size w1 w2) : R2 w w2 A R :=
  ⟨(hb.block _ (lt_of_block h.can)).trans h.can, (hb.block _ (lt_of_block h.res)).trans h.res, bstep h.low h.low.size hb⟩
theorem r2_start {w : World} {A R : Array Value} : R2 w ((w.alloc (.cells A 23)).alloc (.cells R 87)) A R :=
  ⟨heap_alloc2_old w _ _, heap_alloc2_new w _ _, ((Below.refl _ _).alloc (Nat.le_refl _) _).alloc (by simp) _⟩
theorem R2.cell {w w1 : World} {A R : Array Value} (h : R2 w w1 A R) : (∀ i, w1.cell? ⟨w.heap.size, i, none⟩ = A[i]?) ∧ (∀ i, w1.cell? ⟨w.heap.size + 1, i, none⟩ = R[i]?) ∧ (∀ i, w1.frozen? ⟨w.heap.size + 1, i, none⟩ = false) :=
  ⟨fun i => cell_of_row _ _ i _ _ _ h.can, fun i => cell_of_row _ _ i _ _ _ h.res, fun i => frozen_of_row _ _ i _ _ h.res⟩
theorem R2.set {w W : World} {A : Array Value} {u v d0 d1 : Value} (h : R2 w W A #[d0, d1]) : ((W.setCell ⟨w.heap.size + 1, 0, none⟩ u).setCell ⟨w.heap.size + 1, 1, none⟩ v).cell? ⟨w.heap.size + 1, 0, none⟩ = some u ∧ ((W.setCell ⟨w.heap.size + 1, 0, none⟩ u).setCell ⟨w.heap.size + 1, 1, none⟩ v).cell? ⟨w.heap.size + 1, 1, none⟩ = some v ∧ Below w.heap.size w ((W.setCell ⟨w.heap.size + 1, 0, none⟩ u).setCell ⟨w.heap.size + 1, 1, none⟩ v) := by
  have h1 := heap_setCell_same W (w.heap.size + 1) 0 _ _ u h.res
  have h2 := heap_setCell_same _ (w.heap.size + 1) 1 _ _ v h1
  exact ⟨cell_of_row _ _ 0 _ _ _ h2, cell_of_row _ _ 1 _ _ _ h2, (h.low.setCell (p := ⟨w.heap.size + 1, 0, none⟩) (Nat.le_succ _) u).setCell (p := ⟨w.heap.size + 1, 1, none⟩) (Nat.le_succ _) v⟩
theorem R2.facts {w W : World} {c0 c1 c2 c3 c4 c5 c6 d0 d1 : Value} (h : R2 w W #[c0, c1, c2, c3, c4, c5, c6] #[d0, d1]) :
    W.cell? ⟨w.heap.size, 0, none⟩ = some c0 ∧ W.cell? ⟨w.heap.size, 1, none⟩ = some c1 ∧ W.cell? ⟨w.heap.size, 2, none⟩ = some c2 ∧ W.cell? ⟨w.heap.size, 3, none⟩ = some c3 ∧ W.cell? ⟨w.heap.size, 4, none⟩ = some c4 ∧ W.cell? ⟨w.heap.size, 5, none⟩ = some c5 ∧ W.cell? ⟨w.heap.size, 6, none⟩ = some c6 ∧
    W.cell? ⟨w.heap.size + 1, 0, none⟩ = some d0 ∧ W.cell? ⟨w.heap.size + 1, 1, none⟩ = some d1 ∧ W.frozen? ⟨w.heap.size + 1, 0, none⟩ = false ∧ W.frozen? ⟨w.heap.size + 1, 1, none⟩ = false ∧ w.heap.size + 1 < W.heap.size :=
  ⟨h.cell.1 0, h.cell.1 1, h.cell.1 2, h.cell.1 3, h.cell.1 4, h.cell.1 5, h.cell.1 6, h.cell.2.1 0, h.cell.2.1 1, h.cell.2.2 0, h.cell.2.2 1, lt_of_block h.res⟩

set_option maxRecDepth 100000 in
set_option maxHeartbeats 2000000 in
theorem even_no (r l a b k a2 b2 : Int) (w : World) (t : Int) (hn : canB r l a b k a2 b2 = false ∨ okT t = false) :
    Calls Tryz.prog 121 #[.agg #[.int .i64 r, .int .i64 l, .int .i64 a, .int .i64 b, .int .i64 k, .int .i64 a2, .int .i64 b2], .int .i64 t] w (OutB (evenO r l a b k a2 b2 t) w) := by
  have HS := hid (r2_start (w := w) (A := #[.int .i64 r, .int .i64 l, .int .i64 a, .int .i64 b, .int .i64 k, .int .i64 a2, .int .i64 b2]) (R := #[.slice none 0 0, .bool false]))
  cases hc : canB r l a b k a2 b2
  · rw [evenO_can hc]
    clear hn
    go_enter Tryz.func121, Tryz.ntmps121
    go_wp2_with fail
    refine (vcan_any _ _ _ _ _ _ _ _).mono ?_
    rintro e w1 ⟨rfl, hb⟩
    rw [hc]
    have H1 := hid (HS.out.keep hb)
    obtain ⟨k0, k1, k2, k3, k4, k5, k6, d0, d1, f0, f1, hz⟩ := H1.out.facts
    go_wp2_with fail
    obtain ⟨c6, c7, c9⟩ := H1.out.set (u := .slice none 0 0) (v := .bool false)
    exact bodyPost_ret (v := .tuple #[.agg #[.slice none 0 0, .bool false], .int .i64 1]) (by simp [results, Tryz.results121, go_sem, c6, c7]) rfl (outB_nil rfl c9)
  · have ho := hn.resolve_left (by rw [hc]; simp)
    rw [evenO_far hc ho]
    have HO := hid (show okL [t] = false by simp [okL, ho])
    clear hn ho
    go_enter Tryz.func121, Tryz.ntmps121
    go_wp2_with fail
    refine (vcan_any _ _ _ _ _ _ _ _).mono ?_
    rintro e w1 ⟨rfl, hb⟩
    rw [hc]
    have H1 := hid (HS.out.keep hb)
    obtain ⟨k0, k1, k2, k3, k4, k5, k6, d0, d1, f0, f1, hz⟩ := H1.out.facts
    go_wp2_with (go_at_call 149; refine (temps_any _ _ [t] (one_at _ _ rfl)).mono ?_; rintro e w' ⟨rfl, rfl⟩; rw [HO.out])
    obtain ⟨c6, c7, c9⟩ := H1.out.set (u := .slice none 0 0) (v := .bool false)
    generalize World.setCell _ _ (.bool false) = W8 at c6 c7 c9 ⊢
    have hb8 := (Below.refl _ W8).alloc (Nat.le_refl _) (.cells #[.int .i64 t] 3)
    have c6 := keep_cell hb8 c6
    have c7 := keep_cell hb8 c7
    have c9 := bstep c9 c9.size hb8
    exact bodyPost_ret (v := .tuple #[.agg #[.slice none 0 0, .bool false], .int .i64 7]) (by simp [results, Tryz.results121, go_sem, c6, c7]) rfl (outB_nil rfl c9)

/-- R2, whatever the body's cells hold. -/
def R2e (c : Cn) (w w1 : World) : Prop := ∃ d0 d1, R2 w w1 #[.int .i64 (c.R : Int), .int .i64 (c.L : Int), .int .i64 c.A, .int .i64 c.B, .int .i64 c.K, .int .i64 c.A2, .int .i64 c.B2] #[d0, d1]
theorem r2e_set {c : Cn} {w W : World} {u v : Value} (h : R2e c w W) : R2e c w ((W.setCell ⟨w.heap.size + 1, 0, none⟩ u).setCell ⟨w.heap.size + 1, 1, none⟩ v) := by
  obtain ⟨d0, d1, h⟩ := h
  have h1 := heap_setCell_same W (w.heap.size + 1) 0 _ _ u h.res
  have h2 := heap_setCell_same _ (w.heap.size + 1) 1 _ _ v h1
  exact ⟨u, v, (heap_setCell_other _ _ _ _ (show w.heap.size ≠ w.heap.size + 1 by omega)).trans ((heap_setCell_other _ _ _ _ (show w.heap.size ≠ w.heap.size + 1 by omega)).trans h.can), h2, h.set.2.2⟩
/-- R2 with the can's cells laid out. -/
def RawR (c : Cn) (w w1 : World) : Prop := w1.cell? ⟨w.heap.size, 0, none⟩ = some (.int .i64 (c.R : Int)) ∧ w1.cell? ⟨w.heap.size, 1, none⟩ = some (.int .i64 (c.L : Int)) ∧ w1.cell? ⟨w.heap.size, 2, none⟩ = some (.int .i64 c.A) ∧ w1.cell? ⟨w.heap.size, 3, none⟩ = some (.int .i64 c.B) ∧ w1.cell? ⟨w.heap.size, 4, none⟩ = some (.int .i64 c.K) ∧ w1.cell? ⟨w.heap.size, 5, none⟩ = some (.int .i64 c.A2) ∧ w1.cell? ⟨w.heap.size, 6, none⟩ = some (.int .i64 c.B2) ∧ R2e c w w1
theorem rawR {c : Cn} {w w1 : World} (h : R2e c w w1) : RawR c w w1 := by
  have h0 := h
  obtain ⟨d0, d1, h⟩ := h
  obtain ⟨k0, k1, k2, k3, k4, k5, k6, _⟩ := h.facts
  exact ⟨k0, k1, k2, k3, k4, k5, k6, h0⟩
theorem RawR.r2 {c : Cn} {w w1 : World} (h : RawR c w w1) : R2e c w w1 := h.2.2.2.2.2.2.2
theorem R2e.keep {c : Cn} {w w1 w2 : World} (h : R2e c w w1) (hb : Below w1.heap.size w1 w2) : R2e c w w2 := by
  obtain ⟨d0, d1, h⟩ := h
  exact ⟨d0, d1, h.keep hb⟩
theorem rawR_keep {c : Cn} {w w1 w2 : World} (h : RawR c w w1) (hb : Below w1.heap.size w1 w2) : RawR c w w2 := rawR (h.r2.keep hb)

set_option maxRecDepth 100000 in
set_option maxHeartbeats 4000000 in
theorem even_yes (c : Cn) (t : Int) (w : World) (hv : c.V) (ho : okT t = true) (hk : 0 < c.K) :
    Calls Tryz.prog 121 #[.agg #[.int .i64 (c.R : Int), .int .i64 (c.L : Int), .int .i64 c.A, .int .i64 c.B, .int .i64 c.K, .int .i64 c.A2, .int .i64 c.B2], .int .i64 t] w (OutB (evenO c.R c.L c.A c.B c.K c.A2 c.B2 t) w) := by
  rw [evenO_ok hv ho]
  have HS := hid (r2_start (w := w) (A := #[.int .i64 (c.R : Int), .int .i64 (c.L : Int), .int .i64 c.A, .int .i64 c.B, .int .i64 c.K, .int .i64 c.A2, .int .i64 c.B2]) (R := #[.slice none 0 0, .bool false]))
  have hp := hv.ok.p
  have HP := hid hp
  have HV := hid hv
  have HO := hid (show okL [t] = true by simp [okL, ho])
  have hc : canB (c.R : Int) c.L c.A c.B c.K c.A2 c.B2 = true := hv
  have HC := hid hc
  clear ho hv hc hp
  go_enter Tryz.func121, Tryz.ntmps121
  go_wp2_with fail
  refine (vcan_any _ _ _ _ _ _ _ _).mono ?_
  rintro e w1 ⟨rfl, hb⟩
  rw [HC.out]
  have H1 := hid (HS.out.keep hb)
  obtain ⟨k0, k1, k2, k3, k4, k5, k6, d0, d1, f0, f1, hz⟩ := H1.out.facts
  clear hb
  go_wp2_with (go_at_call 149; refine (temps_any _ _ [t] (one_at _ _ rfl)).mono ?_; rintro e w' ⟨rfl, rfl⟩; rw [HO.out])
  have hb2 := (Below.refl _ w1).alloc (Nat.le_refl _) (.cells #[.int .i64 t] 3)
  have H2 := hid (H1.out.keep hb2)
  clear k0 k1 k2 k3 k4 k5 k6 d0 d1 f0 f1 hz
  generalize World.alloc w1 _ = W2 at *
  obtain ⟨k0, k1, k2, k3, k4, k5, k6, d0, d1, f0, f1, hz⟩ := H2.out.facts
  first
  | go_region_held3 (fun w' => w'.cell? ⟨w.heap.size, 0, none⟩ = some (.int .i64 c.R) ∧ w'.cell? ⟨w.heap.size, 1, none⟩ = some (.int .i64 c.L) ∧ w'.cell? ⟨w.heap.size, 2, none⟩ = some (.int .i64 c.A) ∧ w'.cell? ⟨w.heap.size, 3, none⟩ = some (.int .i64 c.B) ∧ w'.cell? ⟨w.heap.size, 4, none⟩ = some (.int .i64 c.K) ∧ w'.cell? ⟨w.heap.size, 5, none⟩ = some (.int .i64 c.A2) ∧ w'.cell? ⟨w.heap.size, 6, none⟩ = some (.int .i64 c.B2) ∧ R2e c w w') (first | exact rawR (R2e.keep ⟨_, _, H2.out⟩ (Below.refl _ _).drew) | exact rawR_keep (by assumption) hb | exact rawR_keep (by assumption) ((Below.refl _ _).alloc (Nat.le_refl _) _) | exact rawR (r2e_set (RawR.r2 (by assumption))))
    (first
      | (go_at_call 150; refine (places_yes c _ HV.out).mono ?_; rintro e w3 ⟨rfl, hb⟩; (first | (have q0 : w3.cell? ⟨W2.heap.size, 0, none⟩ = some (.int .i64 t) := keep_cell hb (cell_alloc_new W2.drew _ _ _ 0); have HRW := hid q0) | skip))
      | (go_at_call 74; have HE := RawR.r2 (c := c) (w := w) (by assumption); refine (repeat_any _ _ 0 1 c.P t (by first | exact HRW.out | exact cell_alloc_new _ _ _ _ 0) HP.out.1 (by have := HP.out; omega)).mono ?_; rintro e w5 ⟨g, rfl, hg1, hg2, hb⟩; have HE2 := HE.keep hb; have HGE := hid (Nat.lt_of_lt_of_le (by obtain ⟨_, _, h⟩ := HE; exact lt_of_block h.res) hg1); obtain ⟨d0, d1, H5⟩ := HE2; obtain ⟨_, _, _, _, _, _, _, d0, d1, f0, f1, hz⟩ := H5.facts; have HG := hid hg2; have HH5 := hid H5; clear H5))
  | fail
  all_goals
    go_wp2_with fail
    obtain ⟨c6, c7, c9⟩ := HH5.out.set (u := .slice (some ⟨g, 0, none⟩) c.P c.P) (v := .bool (decide (0 < c.K) && decide (c.K ≤ t)))
    have hge : g ≠ w.heap.size + 1 := by have := HGE.out; omega
    have hri := rowI_far (m := w.heap.size + 1) (i := 0) (j := 1) (u := .slice (some ⟨g, 0, none⟩) c.P c.P) (v := .bool (decide (0 < c.K) && decide (c.K ≤ t))) (rowI_of_block (cap := c.P) HG.out (by rw [List.length_replicate]; have := HP.out; omega)) hge
    rw [List.length_replicate] at hri
    (try simp only [hk, decide_true, Bool.true_and] at c6 c7 c9 hri ⊢)
    refine bodyPost_ret (v := .tuple #[.agg #[.slice (some ⟨g, 0, none⟩) c.P c.P, .bool _], .int .i64 0]) (by simp [results, Tryz.results121, go_sem, c6, c7]; rfl) rfl ⟨some ⟨g, 0, none⟩, c.P, by dsimp only; rw [List.length_replicate], by dsimp only; rw [List.length_replicate]; exact hri, c9⟩
end Go.Proofs.YtihbjimnjhfpeaaGreat
