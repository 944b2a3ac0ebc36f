/- Texts of this seat, one behind the other. -/
import Derived.Test.YtjfakhfkbnnbcaaP3
import Derived.Laws.AppendOwn
import Derived.OwnWalk
import Derived.Test.YtjfakhfkbnnbcaaRows
import Derived.Maps.OwnOps
import Derived.Maps.OwnSet
import Derived.Maps.Views
import Derived.Test.YtjfakhfkbnnbcaaP1
import Derived.Laws.OwnMore
/- Lists of heads: own rows of ints, upTo; the reference's Heads: contracts. -/
namespace Go.Proofs.Ytjfakhfkbnnbcaa
open Go.RowKit

/-- Ints in a row of the call's own. -/
def OwnJ (w : World) (base : Nat) (v : Value) (l : List Int) : Prop := w.ownsRow base 3 1 v l.length (l.map (Value.int .i64))
theorem infoJ : ∃ i, Try.prog.info? 3 = some i ∧ i.zero = some (.int .i64 0) ∧ i.size = 1 ∧ i.bytes = 8 := info_parts (by kernel_rfl)
theorem OwnJ.rowI {w : World} {base : Nat} {v : Value} {l : List Int} (h : OwnJ w base v l) : RowI w v l := by
  rcases h.2 with ⟨rfl, h0⟩ | ⟨g, cap, cur, rfl, _, hg, hcap, hmx, hcs, ht⟩
  · exact .inl ⟨none, 0, rfl, List.length_eq_zero_iff.1 h0⟩
  · refine .inr ⟨g, 0, cap, rfl, Nat.le_trans hcap hmx, fun k hk => ?_⟩
    rw [Nat.zero_add, cell_of_row w g k cur _ _ hg]
    have hx : (l.map (Value.int .i64))[k]? = some (.int .i64 l[k]) := by simp [hk]
    rw [← ht, List.getElem?_take_of_lt (by omega)] at hx
    simpa using hx
theorem ownJ_nil (w : World) (base : Nat) : OwnJ w base (.slice none 0 0) [] := World.ownsRow_nil w base _ 1
theorem OwnJ.app {w : World} {base : Nat} {v : Value} {l : List Int} {x : Int} (h : w.ownsRow base 3 1 v (l.length + 1) (l.map (Value.int .i64) ++ [.int .i64 x])) : OwnJ w base v (l ++ [x]) := by
  unfold OwnJ
  rw [List.length_append, List.map_append]
  exact h
theorem ownJ_shape {w : World} {base : Nat} {v : Value} {l : List Int} (h : OwnJ w base v l) : ∃ ua uc, v = .slice ua l.length uc := by
  rcases h.2 with ⟨rfl, h0⟩ | ⟨g, cap, cur, rfl, _⟩
  · exact ⟨_, _, by rw [h0]⟩
  · exact ⟨_, _, rfl⟩
theorem OwnJ.low {w : World} {b1 b2 : Nat} {v : Value} {l : List Int} (h : OwnJ w b1 v l) (hb : b2 ≤ b1) : OwnJ w b2 v l := by
  refine ⟨h.1, ?_⟩
  rcases h.2 with hn | ⟨g, cap, cur, rfl, hb', rest⟩
  · exact .inl hn
  · exact .inr ⟨g, cap, cur, rfl, Nat.le_trans hb hb', rest⟩
theorem cellJ {w : World} {u : Value} {T : TypeId} {m : Nat} (hm : w.heap.size = m) : ∀ j x, [u][j]? = some x → (w.alloc (.cells #[u] T)).cell? ((⟨m, 0, none⟩ : Addr).add j) = some x := by
  subst hm
  intro j x h
  cases j with
  | zero => simp at h; subst h; simp [Addr.add]
  | succ j => simp at h
theorem oneJ {x : Int} : ∀ u ∈ [Value.int .i64 x], u.oneCell' = true := by intro u hu; simp at hu; subst hu; rfl
theorem belowJ {W W2 w1 : World} {base : Nat} {v : Value} {l : List Int} {o : Obj} (hW : Below W.heap.size W W2) (h : OwnJ W2 base v l) (hb : W.heap.size ≤ base) (hg : (W2.alloc o).grownBy w1 v.ownBlock) : Below W.heap.size W w1 :=
  (hW.alloc hW.size _).grown hg (by have := hW.size; simp; omega) (fun k hk => by have := (World.ownsRow.lt h k hk).1; omega)
/-- The heads 1 to n. -/
def upL (n : Nat) : List Int := (List.range n).map fun i : Nat => (i : Int) + 1
theorem upL_len (n : Nat) : (upL n).length = n := by simp [upL]
theorem upL_succ (n : Nat) : upL (n + 1) = upL n ++ [(n : Int) + 1] := by simp [upL, List.range_succ]
theorem upL_at {n k : Nat} (h : k < (upL n).length) : (upL n)[k] = (k : Int) + 1 := by simp [upL]
def rowU (n k : Nat) : List Int := (List.range n).map fun i : Nat => if i < k then (i : Int) + 1 else 0
theorem rowU_len (n k : Nat) : (rowU n k).length = n := by simp [rowU]
theorem rowU_zero (n : Nat) : rowU n 0 = List.replicate n 0 := by
  apply List.ext_getElem (by simp [rowU])
  intro i h1 h2
  simp [rowU]
theorem rowU_all (n : Nat) : rowU n n = upL n := by
  unfold rowU upL
  exact List.map_congr_left fun i hi => by rw [if_pos (List.mem_range.1 hi)]
theorem rowU_set {n k : Nat} (_h : k < n) : ((rowU n k).map (Value.int .i64)).set k (.int .i64 ((k : Int) + 1)) = (rowU n (k + 1)).map (Value.int .i64) := by
  apply List.ext_getElem (by simp [rowU])
  intro i h1 h2
  rw [List.getElem_set]
  by_cases e : k = i
  · subst e; simp [rowU]
  · rw [if_neg e]
    have : i < k ↔ i < k + 1 := by omega
    simp only [rowU, List.getElem_map, List.getElem_range, this]
theorem rowU_at {n k : Nat} (h : k < n) : ((rowU n k).map (Value.int .i64))[k]? = some (.int .i64 0) := by simp [rowU, h]
theorem made_zero (n : Nat) : (madeCells (Value.int .i64 0).cells (n * 1)).toList = List.replicate n (Value.int .i64 0) := by
  apply List.ext_getElem (by simp [madeCells])
  intro i h1 h2
  simp [madeCells, Value.cells, Nat.mod_one]
set_option maxRecDepth 20000 in
set_option maxHeartbeats 4000000 in
theorem upto_any (n : Nat) (w : World) (hn : n ≤ 12) : Calls Try.prog 39 #[.int .i64 (n : Int)] w fun e w' => ∃ u, e = .returned u ∧ OwnJ w' w.heap.size u (upL n) ∧ Below w.heap.size w w' := by
  obtain ⟨i0, hi, hz0, hz1, hz2⟩ := infoJ
  have hn' : (0 : Int) ≤ (n : Int) := by omega
  have HN := hid hn
  clear hn
  go_enter Try.func39, Try.ntmps39
  go_wp2_with (at_make; refine wpList_make_full _ rfl _ _ 45 rfl w.heap.size 3 i0 (.int .i64 0) 1 Try.underlying45 hi hz0 hz1 _ _ _ _ n rfl rfl rfl rfl (by have := HN.out; rw [hz2]; omega) (by have := HN.out; unfold maxLen; omega) (Nat.le_refl _) ?_; intro w1 hown1 hgrow1; have HO := hid hown1; have HB := hid ((Below.refl w.heap.size w).grown hgrow1 (Nat.le_refl _) (fun j e => by cases e)); clear hown1 hgrow1)
  go_wp2
  go_loopw [9] (fun t wr => ∃ k : Nat, k ≤ n ∧ t = .int .i64 (k : Int) ∧ Hid (wr.ownsRow w.heap.size 3 1 (.slice (some ⟨w.heap.size, 0, none⟩) n n) n ((rowU n k).map (Value.int .i64))) ∧ Hid (Below w.heap.size w wr)) (fun t _ => n - (intOf t).toNat)
  case atStart =>
    refine ⟨0, Nat.zero_le _, rfl, ?_, HB⟩
    have h := HO.out
    rw [made_zero] at h
    rw [rowU_zero, List.map_replicate]
    exact h
  case round =>
    obtain ⟨k, hk, rfl, hO, hB⟩ := hrel
    by_cases hlt : k < n
    · have hlt' : (k : Int) < n := by omega
      have c0 := (hO.out.cellAt k (by omega)).trans (rowU_at hlt)
      have c1 := hO.out.frozenAt k
      have hw : IntKind.i64.wrap ((k : Int) + 1) = (k : Int) + 1 := IntWalk.i64_in _ ⟨by omega, by have := HN.out; omega⟩
      have HS := hid (show World.ownsRow _ _ _ _ _ _ _ from by have h := (hO.out.stored k (.int .i64 ((k : Int) + 1))).1; rw [rowU_set hlt] at h; exact h)
      have HB2 := hid (hB.out.setCell (p := ⟨w.heap.size, k, none⟩) (Nat.le_refl _) (.int .i64 ((k : Int) + 1)))
      have HLT := hid hlt
      clear hlt
      go_wp2
      go_roundw
      case rel => exact ⟨k + 1, HLT.out, by go_num, HS, HB2⟩
      case measure => have := HLT.out; simp [intOf]; omega
    · obtain rfl : k = n := by omega
      have HE : Hid (OwnJ wr w.heap.size (.slice (some ⟨w.heap.size, 0, none⟩) k k) (upL k)) := by
        have h := hO.out
        rw [rowU_all] at h
        show World.ownsRow _ _ _ _ _ _ _
        rw [upL_len]
        exact h
      go_wp2
      go_ret
      exact ⟨_, rfl, HE.out, hB.out⟩
/-- A head has a sheet. -/
def hasH (l : List Sh) (h : Int) : Bool := l.any fun x => decide (x.hd = h)
theorem hasH_take {l : List Sh} {k : Nat} {h : Int} (hk : k < l.length) : hasH (l.take (k + 1)) h = (hasH (l.take k) h || decide (l[k].hd = h)) := by
  unfold hasH
  rw [List.take_succ_eq_append_getElem hk, List.any_append]
  simp
theorem hasH_at {l : List Sh} {k : Nat} {h : Int} (hk : k < l.length) (g : l[k].hd = h) : hasH l h = true := by
  unfold hasH
  rw [List.any_eq_true]
  exact ⟨l[k], List.getElem_mem hk, by simp [g]⟩
/-- Those of the heads 1 to n that have sheets. -/
def hdsN (l : List Sh) (n : Nat) : List Int := (upL n).filter (hasH l)
theorem hdsN_yes {l : List Sh} {n : Nat} (h : hasH l ((n : Int) + 1) = true) : hdsN l (n + 1) = hdsN l n ++ [(n : Int) + 1] := by
  unfold hdsN
  rw [upL_succ, List.filter_append]
  simp [h]
theorem hdsN_no {l : List Sh} {n : Nat} (h : hasH l ((n : Int) + 1) = false) : hdsN l (n + 1) = hdsN l n := by
  unfold hdsN
  rw [upL_succ, List.filter_append]
  simp [h]
theorem hdsN_len (l : List Sh) (n : Nat) : (hdsN l n).length ≤ n := by
  have := List.length_filter_le (hasH l) (upL n)
  rw [upL_len] at this
  exact this
/-- What Heads answers. -/
def hdsB (l : List Sh) : List Int := if shsB l then hdsN l 12 else []
def HdsP (l : List Sh) (w : World) (e : Ending) (w' : World) : Prop := ∃ u, e = .returned u ∧ OwnJ w' w.heap.size u (hdsB l) ∧ Below w.heap.size w w'
end Go.Proofs.Ytjfakhfkbnnbcaa

/- Walk of the reference's Heads: contract. -/
namespace Go.Proofs.Ytjfakhfkbnnbcaa
open Go.RowKit

end Go.Proofs.Ytjfakhfkbnnbcaa

/- A look-up in a map of bools that the call itself made: the law at the operation. -/
namespace Go.Proofs.Ytjfakhfkbnnbcaa
open Go
open Go.Maps (Keyed)

theorem plainElem_bool_inv {H : Type} {P : Program} {e : TypeId} (he : P.underlying e = some .bool) {v : Value} {z : DataW H × List MemPlace} (h : plainElem P e v = some z) : ∃ x : Bool, v = .bool x ∧ z = (.lit (.bool x), []) := by
  unfold plainElem at h
  rw [he] at h
  cases v <;> simp at h
  exact ⟨_, rfl, h.symm⟩
theorem lookup_bool {H : Type} {P : Program} {w : World} {k e t : TypeId} {b n : Nat} {D : DataW H} (h : w.ownsMap P k (plainElem P e) b n D) (K : Keyed P k) (ht : P.underlying t = some (.map k e)) (he : P.underlying e = some .bool) (hz : (zeroValue e).run P w = .ok (.bool false) w)
    {key : Value} {kl : Lit} (hkey : keyOf P k key = some kl) : ∃ c : Bool, (Instr.lookup t (.map (some b)) key false).run P w = .ok (.bool c) w ∧ D.atKey kl (.lit (.bool false)) = .lit (.bool c) := by
  obtain ⟨v, ps, hrun, hv⟩ := h.lookup K ht hz (plainElem_bool he false) hkey
  obtain ⟨c, rfl, hc⟩ := plainElem_bool_inv he hv
  simp only [Prod.mk.injEq] at hc
  exact ⟨c, hrun, hc.1⟩
/-- 'm[k]' at elements that are bools: the walk goes on with some bool c, of which 'hat' says what it is. -/
theorem wpList_lookup_own_bool {H : Type} {P : Program} (w : World) {ops : Array Oper} {rest : List Oper} {o : Oper} {a : Act} {Q : Exit → Act → World → Prop}
    (hg : o.guard = none) (m x : Operand) (t : TypeId) (hop : o.op = Op.lookup t m x false)
    (k e : TypeId) (K : Keyed P k) (ht : P.underlying t = some (.map k e)) (he : P.underlying e = some .bool) (hz : (zeroValue e).run P w = .ok (.bool false) w) (b n : Nat) (D : DataW H)
    (hm : a.eval m = .map (some b)) (hown : w.ownsMap P k (plainElem P e) b n D) (key : Value) (kl : Lit) (hx : a.eval x = key) (hkey : keyOf P k key = some kl)
    (hK : ∀ c : Bool, D.atKey kl (.lit (.bool false)) = .lit (.bool c) → wpList P ops Q rest (a.put o.dst (.bool c)) w) :
    wpList P ops Q (o :: rest) a w := by
  refine wpList_plain hg fun K' hK' => ?_
  obtain ⟨c, hrun, hat⟩ := lookup_bool hown K ht he hz hkey
  unfold Oper.wp
  simp [execOp, hop, hm, hx, hrun, Result.andThen]
  exact hK' _ _ (hK c hat)
end Go.Proofs.Ytjfakhfkbnnbcaa

/- Walk of Heads of the code: contract. -/
namespace Go.Proofs.Ytjfakhfkbnnbcaa
open Go.RowKit Go.Maps

theorem law_intB : Keyed Try.prog 3 := int_keyed Try.underlying3
theorem zero_boolB (w : World) : (zeroValue 4).run Try.prog w = .ok (.bool false) w := by kernel_rfl
theorem key_intB {t : Int} (h1 : -9000000000000000000 ≤ t) (h2 : t ≤ 9000000000000000000) : keyOf Try.prog 3 (.int .i64 t) = some (.int .i64 t) := keyOf_int_mk Try.underlying3 (WalkArith.wf_i64 (by omega))
/-- A map of bools of the call's own. -/
def MapB (w : World) (b n : Nat) (f : Int → Bool) : Prop := ∃ D : DataW Unit, w.ownsMap Try.prog 3 (plainElem Try.prog 4) b n D ∧ ∀ h : Int, D.atKey (.int .i64 h) (.lit (.bool false)) = .lit (.bool (f h))
theorem mapB_new (w : World) : MapB (w.alloc (.map #[] 0)) w.heap.size 0 (fun _ => false) := ⟨.map [], World.ownsMap_made _ _ _ _, fun _ => rfl⟩
theorem MapB.keep {w w' : World} {b n : Nat} {f : Int → Bool} (h : MapB w b n f) (hb : Below w.heap.size w w') : MapB w' b n f := by
  obtain ⟨D, h1, h2⟩ := h
  exact ⟨D, h1.kept (row := none) ⟨hb.os, hb.tape, hb.output, hb.size, fun k hk _ => hb.block k hk⟩ (by simp), h2⟩
theorem MapB.lt {w : World} {b n : Nat} {f : Int → Bool} (h : MapB w b n f) : b < w.heap.size := by
  obtain ⟨D, h1, _⟩ := h
  exact h1.lt
theorem mapB_put {w w' : World} {b n : Nat} {f g : Int → Bool} {D : DataW Unit} {k : Int} {c : Bool} (h0 : w.ownsMap Try.prog 3 (plainElem Try.prog 4) b n D) (h2 : ∀ h : Int, D.atKey (.int .i64 h) (.lit (.bool false)) = .lit (.bool (f h)))
    (h : w'.ownsMap Try.prog 3 (plainElem Try.prog 4) b (n + 1) (D.put (.int .i64 k) (.lit (.bool c)))) (hg : ∀ h, g h = if h = k then c else f h) : MapB w' b (n + 1) g := by
  refine ⟨_, h, fun q => ?_⟩
  rw [hg q]
  by_cases e : q = k
  · subst e
    rw [if_pos rfl]
    exact atKey_put_same h0.isMap (by constructor) _ _
  · rw [if_neg e, atKey_put_other (by intro he; injection he with _ he; exact e he)]
    exact h2 q
theorem mapB_del {w w' : World} {b n : Nat} {f g : Int → Bool} {D : DataW Unit} {k : Int} (h2 : ∀ h : Int, D.atKey (.int .i64 h) (.lit (.bool false)) = .lit (.bool (f h)))
    (h : w'.ownsMap Try.prog 3 (plainElem Try.prog 4) b n (D.del (.int .i64 k))) (hg : ∀ h, g h = if h = k then false else f h) (_ : w.heap.size ≤ w'.heap.size) : MapB w' b n g := by
  refine ⟨_, h, fun q => ?_⟩
  rw [hg q]
  by_cases e : q = k
  · subst e
    rw [if_pos rfl]
    exact atKey_del_same _
  · rw [if_neg e, atKey_del_other (by intro he; injection he with _ he; exact e he)]
    exact h2 q
theorem OwnJ.turn {w w' : World} {base b : Nat} {v : Value} {l : List Int} (h : OwnJ w base v l) (hg : w.grownBy w' (some b)) (hb : b < base) : OwnJ w' base v l := by
  refine ⟨h.1, ?_⟩
  rcases h.2 with h2 | ⟨g, cap, cur, h1, h2, h3, h4⟩
  · exact .inl h2
  · refine .inr ⟨g, cap, cur, h1, h2, (hg.block g (Array.getElem?_eq_some_iff.1 h3).1 (fun e => ?_)).trans h3, h4⟩
    injection e with e
    omega
theorem OwnJ.keep {w w' : World} {base : Nat} {v : Value} {l : List Int} (h : OwnJ w base v l) (hb : Below w.heap.size w w') : OwnJ w' base v l := by
  refine ⟨h.1, ?_⟩
  rcases h.2 with h2 | ⟨g, cap, cur, h1, h2, h3, h4⟩
  · exact .inl h2
  · exact .inr ⟨g, cap, cur, h1, h2, (hb.block g (Array.getElem?_eq_some_iff.1 h3).1).trans h3, h4⟩
/-- The map behind the first k heads, behind the first k sheets. -/
def fillF (k : Nat) (h : Int) : Bool := decide (1 ≤ h) && decide (h ≤ (k : Int))
def leftF (l : List Sh) (k : Nat) (h : Int) : Bool := fillF 12 h && !hasH (l.take k) h
theorem fill_zero (h : Int) : fillF 0 h = false := by
  unfold fillF
  rw [Bool.and_eq_false_iff, decide_eq_false_iff_not, decide_eq_false_iff_not]
  omega
theorem fill_next (k : Nat) (h : Int) : fillF (k + 1) h = if h = (k : Int) + 1 then true else fillF k h := by
  unfold fillF
  by_cases e : h = (k : Int) + 1
  · rw [if_pos e]; simp; omega
  · rw [if_neg e]
    rw [Bool.eq_iff_iff]
    simp
    omega
theorem left_zero (l : List Sh) (h : Int) : leftF l 0 h = fillF 12 h := by simp [leftF, hasH]
theorem left_next {l : List Sh} {k : Nat} (hk : k < l.length) (h : Int) : leftF l (k + 1) h = if h = l[k].hd then false else leftF l k h := by
  unfold leftF
  rw [hasH_take hk]
  by_cases e : h = l[k].hd
  · rw [if_pos e]; simp [e]
  · rw [if_neg e, decide_eq_false (fun g => e g.symm), Bool.or_false]
theorem left_end {l : List Sh} {k : Nat} (hk : k < 12) : leftF l l.length ((k : Int) + 1) = !hasH l ((k : Int) + 1) := by
  unfold leftF fillF
  rw [List.take_length, decide_eq_true (by omega), decide_eq_true (by omega)]; rfl
end Go.Proofs.Ytjfakhfkbnnbcaa

/- Walk of Heads of the code: contract. -/
namespace Go.Proofs.Ytjfakhfkbnnbcaa
open Go.RowKit Go.Maps

theorem shs_heads {l : List Sh} (h : shsB l = true) : ∀ k (hk : k < l.length), 1 ≤ l[k].hd ∧ l[k].hd ≤ 12 := by
  intro k hk
  unfold shsB at h
  simp only [Bool.and_eq_true, decide_eq_true_iff] at h
  have h1 := allB_iff.1 h.2 k hk
  unfold oneS at h1
  simp only [Bool.and_eq_true] at h1
  have e : l.getD k shD = l[k] := by simp [List.getD, hk]
  rw [e] at h1
  have h2 := h1.1
  unfold shB at h2
  simp only [Bool.and_eq_true, inB_iff] at h2
  omega
end Go.Proofs.Ytjfakhfkbnnbcaa

/- Lists of pairs of ints: read, and of the call's own. -/
namespace Go.Proofs.Ytjfakhfkbnnbcaa
open Go.RowKit

/-- A pair. -/
structure Pr where
  x : Int
  y : Int
deriving DecidableEq
theorem Pr.ext_iff2 {p q : Pr} : p = q ↔ p.x = q.x ∧ p.y = q.y := by
  cases p; cases q; simp
def pvs : List Pr → List Value
  | [] => []
  | d :: l => .int .i64 d.x :: .int .i64 d.y :: pvs l
theorem pvs_len : ∀ l : List Pr, (pvs l).length = l.length * 2
  | [] => rfl
  | d :: l => by simp only [pvs, List.length_cons, pvs_len l]; omega
theorem pvs_app : ∀ l m : List Pr, pvs (l ++ m) = pvs l ++ pvs m
  | [], m => rfl
  | d :: l, m => by simp only [pvs, List.cons_append, pvs_app l m]
theorem pvs_at : ∀ (l : List Pr) (j : Nat) (h : j < l.length), (pvs l)[j * 2]? = some (.int .i64 l[j].x) ∧ (pvs l)[j * 2 + 1]? = some (.int .i64 l[j].y)
  | d :: l, 0, _ => by simp [pvs]
  | d :: l, j + 1, h => by
    have ih := pvs_at l j (by simpa using h)
    have e : (j + 1) * 2 = j * 2 + 1 + 1 := by omega
    rw [e]
    simpa [pvs] using ih
theorem pvs_last {l : List Pr} {d : Pr} : pvs (l ++ [d]) = pvs l ++ [.int .i64 d.x, .int .i64 d.y] := by rw [pvs_app]; rfl
theorem pvs_set1 {l : List Pr} {d : Pr} (v : Int) : (pvs (l ++ [d])).set (l.length * 2 + 1) (.int .i64 v) = pvs (l ++ [⟨d.x, v⟩]) := by
  rw [pvs_last, pvs_last, ← pvs_len l, List.set_append_right _ _ (by omega), Nat.add_sub_cancel_left]; rfl
/-- A list of pairs that is read, from any place of a row. -/
def RowX (w : World) (v : Value) (l : List Pr) : Prop := ∃ a b o cap, v = .slice a l.length cap ∧ l.length ≤ cap ∧ cap ≤ maxLen ∧ (l = [] ∨ a = some ⟨b, o, none⟩) ∧ ∀ k (h : k < l.length), w.cell? ⟨b, o + k * 2, none⟩ = some (.int .i64 l[k].x) ∧ w.cell? ⟨b, o + k * 2 + 1, none⟩ = some (.int .i64 l[k].y)
theorem RowX.keep {W w2 : World} {v : Value} {l : List Pr} (h : RowX W v l) (hb : Below W.heap.size W w2) : RowX w2 v l := by
  obtain ⟨a, b, o, cap, h1, h2, h3, h4, h5⟩ := h
  exact ⟨a, b, o, cap, h1, h2, h3, h4, fun k hk => ⟨keep_cell hb (h5 k hk).1, keep_cell hb (h5 k hk).2⟩⟩
theorem RowX.most {w : World} {v : Value} {l : List Pr} (h : RowX w v l) : l.length ≤ maxLen := by
  obtain ⟨a, b, o, cap, rfl, h2, h3, h4, h5⟩ := h; omega
theorem RowX.shape {w : World} {v : Value} {l : List Pr} (h : RowX w v l) : ∃ a cap, v = .slice a l.length cap := by
  obtain ⟨a, b, o, cap, rfl, h2, h3, h4, h5⟩ := h; exact ⟨_, _, rfl⟩
theorem rowX_nil (w : World) : RowX w (.slice none 0 0) [] := ⟨none, 0, 0, 0, rfl, Nat.le_refl _, by simp [maxLen], .inl rfl, fun k h => absurd h (Nat.not_lt_zero k)⟩
theorem RowX.get {w : World} {a : Option Addr} {n c k : Nat} {l : List Pr} (h : RowX w (.slice a n c) l) (hk : k < l.length) : ∃ b o, a = some ⟨b, o, none⟩ ∧ w.cell? ⟨b, o + k * 2, none⟩ = some (.int .i64 l[k].x) ∧ w.cell? ⟨b, o + k * 2 + 1, none⟩ = some (.int .i64 l[k].y) := by
  obtain ⟨a', b, o, cap, hv, h2, h3, h4, h5⟩ := h
  injection hv with e1 e2 e3
  subst e1
  rcases h4 with rfl | rfl
  · simp at hk
  · exact ⟨b, o, rfl, h5 k hk⟩
/-- A list of pairs of the call's own. -/
def OwnX (w : World) (base E : Nat) (v : Value) (l : List Pr) : Prop := w.ownsRow base E 2 v l.length (pvs l)
theorem OwnX.row {w : World} {base E : Nat} {v : Value} {l : List Pr} (h : OwnX w base E v l) : RowX w v l := by
  rcases h.2 with ⟨rfl, h0⟩ | ⟨g, cap, cur, rfl, _, hg, hcap, hmx, hcs, ht⟩
  · have : l = [] := List.length_eq_zero_iff.1 h0
    subst this
    exact rowX_nil w
  · refine ⟨some ⟨g, 0, none⟩, g, 0, cap, rfl, hcap, hmx, .inr rfl, fun k hk => ?_⟩
    obtain ⟨h1, h2⟩ := pvs_at l k hk
    rw [← ht] at h1 h2
    rw [List.getElem?_take_of_lt (by omega)] at h1 h2
    simp only [Nat.zero_add]
    refine ⟨?_, ?_⟩ <;> rw [cell_of_row w g _ cur _ _ hg]
    · simpa using h1
    · simpa using h2
theorem ownX_nil (w : World) (base E : Nat) : OwnX w base E (.slice none 0 0) [] := World.ownsRow_nil w base E 2
theorem ownX_shape {w : World} {base E : Nat} {v : Value} {l : List Pr} (h : OwnX w base E v l) : ∃ ua uc, v = .slice ua l.length uc := by
  rcases h.2 with ⟨rfl, h0⟩ | ⟨g, cap, cur, rfl, _⟩
  · exact ⟨_, _, by rw [h0]⟩
  · exact ⟨_, _, rfl⟩
theorem ownX_some {w : World} {base E : Nat} {v : Value} {l : List Pr} {d : Pr} (h : OwnX w base E v (l ++ [d])) : ∃ g uc, v = .slice (some ⟨g, 0, none⟩) (l.length + 1) uc ∧ base ≤ g := by
  rcases h.2 with ⟨rfl, h0⟩ | ⟨g, cap, cur, rfl, hb, _⟩
  · simp at h0
  · exact ⟨g, cap, by simp, hb⟩
theorem OwnX.app {w : World} {base E : Nat} {v : Value} {l : List Pr} {d : Pr} (h : w.ownsRow base E 2 v (l.length + 1) (pvs l ++ [.int .i64 d.x, .int .i64 d.y])) : OwnX w base E v (l ++ [d]) := by
  unfold OwnX
  rw [List.length_append, pvs_last]
  exact h
theorem OwnX.keep {W w2 : World} {base E : Nat} {v : Value} {l : List Pr} (h : OwnX W base E v l) (hb : Below W.heap.size W w2) : OwnX w2 base E v l := by
  refine ⟨h.1, ?_⟩
  rcases h.2 with hn | ⟨g, cap, cur, rfl, hb', hg, rest⟩
  · exact .inl hn
  · exact .inr ⟨g, cap, cur, rfl, hb', (hb.block _ (Array.getElem?_eq_some_iff.1 hg).1).trans hg, rest⟩
theorem cell_two_new {w : World} {u v : Value} {T : TypeId} {m : Nat} (hm : w.heap.size = m) : ∀ j y, [u, v][j]? = some y → (w.alloc (.cells #[u, v] T)).cell? ((⟨m, 0, none⟩ : Addr).add j) = some y := by
  subst hm
  intro j y h
  match j with
  | 0 => simp at h; subst h; simp [Addr.add]
  | 1 => simp at h; subst h; simp [Addr.add]
  | j + 2 => simp at h
theorem two_cell1 {x y : Int} : ∀ u ∈ [Value.int .i64 x, .int .i64 y], u.oneCell' = true := by intro u hu; simp at hu; rcases hu with rfl | rfl <;> rfl
theorem below_prs {W W2 w1 : World} {base E : Nat} {v : Value} {l : List Pr} {o : Obj} (hW : Below W.heap.size W W2) (h : OwnX W2 base E v l) (hb : W.heap.size ≤ base) (hg : (W2.alloc o).grownBy w1 v.ownBlock) : Below W.heap.size W w1 :=
  (hW.alloc hW.size _).grown hg (by have := hW.size; simp; omega) (fun k hk => by have := (World.ownsRow.lt h k hk).1; omega)
end Go.Proofs.Ytjfakhfkbnnbcaa
