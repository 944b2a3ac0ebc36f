/- Texts of this seat, one behind the other. -/
import Derived.Test.YtihbjimnjhfpeaaGreatG01
import Derived.Laws.OwnMore
import Derived.OwnWalk
import Derived.BigQuiet
import Derived.Test.YtihbjimnjhfpeaaGreatG05
import Derived.Shelf.Abstract
import Derived.Shelf.RegionOpen
import Derived.WalkKit
import Derived.OwnWalkIn
import Derived.TacticsInMore
import Derived.LoopNIn
import Derived.LoopIn
import Derived.Test.YtihbjimnjhfpeaaGreatG29
import Derived.Test.YtihbjimnjhfpeaaGreatG06
/- Rows of slices: own ones, turned round; walk of slices.Reverse: contract. -/
namespace Go.Proofs.YtihbjimnjhfpeaaGreat
open Go.RowKit

/-- A list with its first k and last k values exchanged. -/
def revK (xs : List Value) (k : Nat) : List Value := (List.range xs.length).map fun j => if j < k ∨ xs.length ≤ j + k then xs.getD (xs.length - 1 - j) undef else xs.getD j undef
theorem revK_len (xs : List Value) (k : Nat) : (revK xs k).length = xs.length := by simp [revK]
theorem revK_at {xs : List Value} {k j : Nat} (h : j < xs.length) : (revK xs k)[j]? = some (if j < k ∨ xs.length ≤ j + k then xs.getD (xs.length - 1 - j) undef else xs.getD j undef) := by simp [revK, h]
theorem revK_zero (xs : List Value) : revK xs 0 = xs := by
  apply List.ext_getElem (by simp [revK])
  intro j h1 h2
  have : ¬ (j < 0 ∨ xs.length ≤ j + 0) := by omega
  simp only [revK, List.getElem_map, List.getElem_range, if_neg this]
  simp [List.getD, h2]
theorem revK_end {xs : List Value} {k : Nat} (h : xs.length ≤ 2 * k + 1) : revK xs k = xs.reverse := by
  apply List.ext_getElem (by simp [revK])
  intro j h1 h2
  rw [List.length_reverse] at h2
  simp only [revK, List.getElem_map, List.getElem_range, List.getElem_reverse]
  by_cases g : j < k ∨ xs.length ≤ j + k
  · rw [if_pos g]
    simp [List.getD, show xs.length - 1 - j < xs.length by omega]
  · rw [if_neg g]
    have e : xs.length - 1 - j = j := by omega
    simp only [e]
    simp [List.getD, h2]
theorem revK_step {xs : List Value} {k : Nat} (h : 2 * k + 1 < xs.length) : ((revK xs k).set k (xs.getD (xs.length - 1 - k) undef)).set (xs.length - 1 - k) (xs.getD k undef) = revK xs (k + 1) := by
  apply List.ext_getElem (by simp [revK])
  intro j h1 h2
  have hj : j < xs.length := by simpa [revK] using h2
  rw [List.getElem_set]
  by_cases e1 : xs.length - 1 - k = j
  · rw [if_pos e1]
    have g : j < k + 1 ∨ xs.length ≤ j + (k + 1) := by omega
    have e2 : xs.length - 1 - j = k := by omega
    simp only [revK, List.getElem_map, List.getElem_range, if_pos g, e2]
  · rw [if_neg e1, List.getElem_set]
    by_cases e2 : k = j
    · subst e2
      have g : k < k + 1 ∨ xs.length ≤ k + (k + 1) := by omega
      simp only [if_true, revK, List.getElem_map, List.getElem_range, if_pos g]
    · rw [if_neg e2]
      simp only [revK, List.getElem_map, List.getElem_range]
      by_cases g : j < k ∨ xs.length ≤ j + k
      · have g2 : j < k + 1 ∨ xs.length ≤ j + (k + 1) := by omega
        rw [if_pos g, if_pos g2]
      · have g2 : ¬ (j < k + 1 ∨ xs.length ≤ j + (k + 1)) := by omega
        rw [if_neg g, if_neg g2]
/-- Slices of ints in a row of the call's own. -/
def OwnV (w : World) (base : Nat) (v : Value) (xs : List Value) : Prop := w.ownsRow base 28 1 v xs.length xs
theorem OwnV.keep {w w2 : World} {base : Nat} {v : Value} {xs : List Value} (h : OwnV w base v xs) (hb : Below w.heap.size w w2) : OwnV w2 base v xs := by
  refine ⟨h.1, ?_⟩
  rcases h.2 with h2 | ⟨g, cap, cur, h1, h2, h3, h4⟩
  · exact .inl h2
  · exact .inr ⟨g, cap, cur, h1, h2, (hb.block g (Array.getElem?_eq_some_iff.1 h3).1).trans h3, h4⟩
theorem ownV_some {w : World} {base : Nat} {v : Value} {xs : List Value} (h : OwnV w base v xs) (h0 : 0 < xs.length) : ∃ g cap, v = .slice (some ⟨g, 0, none⟩) xs.length cap ∧ base ≤ g ∧ g < w.heap.size := by
  rcases h.2 with ⟨rfl, h1⟩ | ⟨g, cap, cur, rfl, hb, hg, _⟩
  · omega
  · exact ⟨g, cap, rfl, hb, (Array.getElem?_eq_some_iff.1 hg).1⟩
end Go.Proofs.YtihbjimnjhfpeaaGreat

/- The iterator of slices.Chunk over ints: contract. -/
namespace Go.Proofs.YtihbjimnjhfpeaaGreat
open Go.RowKit

/-- What the iterator yields in round i. -/
def ckE (b o R i : Nat) : Array Value := #[.slice (some ⟨b, o + i * R, none⟩) R R]
/-- What the iterator stands on. -/
structure ItC (sb nb b o P cap R n0 : Nat) (w : World) : Prop where
  sp : w.cell? ⟨sb, 0, none⟩ = some (.slice (some ⟨b, o, none⟩) P cap)
  np : w.cell? ⟨nb, 0, none⟩ = some (.int .i64 (R : Int))
  lt : sb < n0 ∧ nb < n0
  le : n0 ≤ w.heap.size
/-- What a round that goes on keeps. -/
def KpC (n0 : Nat) (W W' : World) : Prop := W.heap.size ≤ W'.heap.size ∧ ∀ j, j < n0 → W'.heap[j]? = W.heap[j]?
theorem ItC.past {sb nb b o P cap R n0 : Nat} {w w' : World} (H : ItC sb nb b o P cap R n0 w) (h : KpC n0 w w') : ItC sb nb b o P cap R n0 w' :=
  ⟨(World.cell?_of_block (a := ⟨sb, 0, none⟩) (h.2 _ H.lt.1)).trans H.sp, (World.cell?_of_block (a := ⟨nb, 0, none⟩) (h.2 _ H.lt.2)).trans H.np, H.lt, Nat.le_trans H.le h.1⟩
theorem gbelowC {w w' : World} (h : Below w.heap.size w w') : w.grownBy w' none := ⟨h.os, h.tape, h.output, h.size, fun j hj _ => h.block j hj⟩
theorem range_at {L k : Nat} (h : k < L) : (List.range L)[k]? = some k := by simp [h]
theorem ck_rest (b o P cap I : Nat) (h1 : I ≤ P) (h2 : P ≤ cap) : ∃ ad, ∀ W : World, (Instr.sliceAt 28 (.slice (some ⟨b, o, none⟩) P cap) (some (.int .i64 (I : Int))) none none).run Tryz.prog W = .ok (.slice (some ad) (P - I) (cap - I)) W := by
  have e1 : (I : Int) ≤ (P : Int) := by omega
  by_cases hc : I = cap
  · refine ⟨⟨b, o, none⟩, fun W => ?_⟩
    subst hc
    simp [go_sem, Tryz.underlying28, e1]
  · refine ⟨⟨b, o + I, none⟩, fun W => ?_⟩
    have hc2 : ¬ cap = I := fun h => hc h.symm
    simp [go_sem, Tryz.underlying28, e1, hc2]
theorem ck_mid (b o P cap I R : Nat) (h0 : 0 < R) (h1 : I + R ≤ cap) (W : World) : (Instr.sliceAt 28 (.slice (some ⟨b, o, none⟩) P cap) (some (.int .i64 (I : Int))) (some (.int .i64 ((I : Int) + (R : Int)))) (some (.int .i64 ((I : Int) + (R : Int))))).run Tryz.prog W = .ok (.slice (some ⟨b, o + I, none⟩) R R) W := by
  obtain ⟨H, hH⟩ : ∃ H : Nat, H = I + R := ⟨_, rfl⟩
  have e2 : ((I : Int) + (R : Int)) = (H : Int) := by omega
  have e1 : (H : Int) ≤ (cap : Int) := by omega
  have e3 : (I : Int) ≤ (H : Int) := by omega
  have e4 : ¬ H = I := by omega
  have e5 : H - I = R := by omega
  rw [e2]
  clear e2 hH
  simp [go_sem, Tryz.underlying28, e1, e3, e4, e5]
end Go.Proofs.YtihbjimnjhfpeaaGreat

/- Ranges' marks at a function's end, and where a grown row lies, at any seat. -/
namespace Go.Proofs.YtihbjimnjhfpeaaGreat
open Go.RowKit Go.Shelf
attribute [local go_sem] Oper.semAt_some


/-- Marks of ranges that are over, none older than B. -/
structure Marks0 (B : Nat) (Ds : List Nat) (W : World) : Prop where
  nd : Ds.Nodup
  at_ : ∀ D ∈ Ds, B ≤ D ∧ W.heap[D]? = some (.deferred (some []))
theorem Marks0.nil (B : Nat) (W : World) : Marks0 B [] W := ⟨List.nodup_nil, fun _ h => absurd h List.not_mem_nil⟩
theorem Marks0.keep {B : Nat} {Ds : List Nat} {W W' : World} (h : Marks0 B Ds W) (hk : ∀ D, B ≤ D → W.heap[D]? = some (.deferred (some [])) → W'.heap[D]? = some (.deferred (some []))) : Marks0 B Ds W' :=
  ⟨h.nd, fun D hD => ⟨(h.at_ D hD).1, hk D (h.at_ D hD).1 (h.at_ D hD).2⟩⟩
theorem Marks0.put {B D : Nat} {Ds : List Nat} {W : World} (h : Marks0 B Ds W) (hD : B ≤ D) (hn : ∀ d ∈ Ds, d < D) (hW : W.heap[D]? = some (.deferred (some []))) : Marks0 B (D :: Ds) W :=
  ⟨List.nodup_cons.2 ⟨fun hm => absurd (hn D hm) (Nat.lt_irrefl D), h.nd⟩, fun d hd => by
    rcases List.mem_cons.1 hd with rfl | hd
    · exact ⟨hD, hW⟩
    · exact h.at_ d hd⟩
def markOf (D : Nat) : Deferred := { target := .collected D, args := #[] }
theorem leaves_marks {F : Fence} {n B : Nat} {P : Program} {fn : Func} {tmps : Array Value} {R : Ending → World → Prop} : ∀ (Ds : List Nat) (W : World), Marks0 B Ds W →
    (∀ W' : World, Below B W W' → (∀ (g : Nat) (cs : Array Value) (T : Nat) (fr : Nat × Nat), W.heap[g]? = some (Obj.cells cs T fr) → W'.heap[g]? = some (Obj.cells cs T fr)) → LeavesIn F n P fn tmps R [] .returning W') →
    LeavesInM F n P fn tmps R (Ds.map markOf) .returning W
  | [], W, _, hK => hK W (Below.refl _ _) (fun _ _ _ _ h => h)
  | D :: Ds, W, hM, hK => by
    obtain ⟨hn, hnd⟩ := List.nodup_cons.1 hM.nd
    obtain ⟨hB, hW⟩ := hM.at_ D List.mem_cons_self
    refine ⟨by simp, .inl ⟨D, _, rfl, run_takeDeferred hW, ?_⟩⟩
    refine leaves_marks Ds _ ⟨hnd, fun d hd => ⟨(hM.at_ d (List.mem_cons_of_mem _ hd)).1, (World.putObj_heap_other (by rintro rfl; exact hn hd)).trans (hM.at_ d (List.mem_cons_of_mem _ hd)).2⟩⟩ fun W' hb hc => hK W' ?_ ?_
    · exact (show Below B W (W.putObj D (.deferred none)) from ⟨rfl, rfl, rfl, by simp, fun k hk => World.putObj_heap_other (by omega)⟩).trans hb
    · intro g cs T fr hg
      refine hc g cs T fr ((World.putObj_heap_other ?_).trans hg)
      rintro rfl
      rw [hW] at hg
      cases hg


theorem run_append_where {P : Program} (w : World) (base : Nat) (t ty e : TypeId) (i : TypeInfo) (z : Value) (size bytes : Nat) (ht : P.underlying t = some (.slice e)) (hi : P.info? e = some i) (hz : i.zero = some z) (hsize : i.size = size) (hby : i.bytes = bytes) (hzs : z.cells.size = size) (hsz : 0 < size)
    (v : Value) (n : Nat) (xs : List Value) (hown : w.ownsRow base e size v n xs) (a : Addr) (m c : Nat) (news : List Value) (hl : news.length = m * size) (hnews : ∀ j u, news[j]? = some u → w.cell? (a.add j) = some u) (h1 : ∀ u ∈ news, u.oneCell' = true) (hm : 0 < m)
    (h63 : n + m ≤ maxLen) (hbytes : (n + m) * bytes ≤ 140737488355328) (hbase : base ≤ w.heap.size) :
    ∃ v' w', (Builtin.append_ #[t, t] ty #[v, .slice (some a) m c]).run P w = .ok v' w' ∧ w'.ownsRow base e size v' (n + m) (xs ++ news) ∧ w.grownBy w' v.ownBlock ∧ (v'.ownBlock = v.ownBlock ∨ v'.ownBlock = some w.heap.size) := by
  obtain ⟨v', w', hr, h2, h3, -⟩ := run_append_own (P := P) w base t ty e i z size bytes ht hi hz hsize hby hzs hsz v n xs hown a m c news hl hnews h1 h63 hbytes hbase
  refine ⟨v', w', hr, h2, h3, ?_⟩
  have hs63 : n + m ≤ 9223372036854775807 := by simp only [maxLen] at h63; omega
  rcases hown.2 with ⟨rfl, rfl⟩ | ⟨g, cap, cur, rfl, hbg, hg, hnc, hcm, hcs, htake⟩
  · subst hsize; subst hby
    have hr2 := run_append_nil (P := P) w t ty e i z ht hi hz a m c news hl hnews (by omega) (by omega) (by have hb := hbytes; simp only [Nat.zero_add] at hb; omega)
    rw [hr] at hr2
    cases hr2
    exact .inr rfl
  · by_cases hroom : n + m ≤ cap
    · obtain ⟨w2, hr2, -, -⟩ := run_append_fits (P := P) w base t ty e i size ht hi hsize g n cap xs hown a m c news hl hnews h1 hroom
      rw [hr] at hr2
      cases hr2
      exact .inl rfl
    · subst hsize; subst hby
      have hr2 := run_append_grow (P := P) w t ty e i z ht hi hz ⟨g, 0, none⟩ n cap xs hown.1 (hown.cells (g := g) rfl) a m c news hl hnews (by omega) (by omega) (growslice_fits (by omega) hbytes)
      rw [hr] at hr2
      cases hr2
      exact .inr rfl
theorem wpListIn_append_where {F : Fence} {n : Nat} {P : Program} (w : World) {ops : Array Oper} {rest : List Oper} {o : Oper} {a : Act} {Q : Exit → Act → World → Prop}
    (hg : o.guard = none) (s x : Operand) (t : TypeId) (hop : o.op = Op.call { callee := Callee.builtin Builtin.append, args := #[s, x], argTypes := #[t, t] })
    (base : Nat) (e : TypeId) (i : TypeInfo) (z : Value) (size bytes : Nat) (h1 : P.underlying t = some (.slice e)) (h2 : P.info? e = some i) (h3 : i.zero = some z) (h4 : i.size = size) (h5 : i.bytes = bytes) (h6 : z.cells.size = size) (h7 : 0 < size)
    (v : Value) (k : Nat) (xs : List Value) (hs : a.eval s = v) (hown : w.ownsRow base e size v k xs) (ad : Addr) (m c : Nat) (news : List Value) (hx : a.eval x = .slice (some ad) m c) (hn : news.length = m * size)
    (hc : ∀ j u, news[j]? = some u → w.cell? (ad.add j) = some u) (h1c : ∀ u ∈ news, u.oneCell' = true) (hm : 0 < m) (b1 : k + m ≤ maxLen) (b2 : (k + m) * bytes ≤ 140737488355328) (b3 : base ≤ w.heap.size)
    (hK : ∀ v' w', w'.ownsRow base e size v' (k + m) (xs ++ news) → w.grownBy w' v.ownBlock → (v'.ownBlock = v.ownBlock ∨ v'.ownBlock = some w.heap.size) → wpListIn F n P ops Q rest (a.put o.dst v') w') :
    wpListIn F n P ops Q (o :: rest) a w := by
  refine wpListIn_plain hg fun K hK' => ?_
  obtain ⟨v', w', hrun, r1, r2, r3⟩ := run_append_where (P := P) w base t o.type e i z size bytes h1 h2 h3 h4 h5 h6 h7 v k xs hown ad m c news hn hc h1c hm b1 b2 b3
  unfold Oper.wpIn
  refine ⟨by simp [Oper.about, hop, resolve, Target.leads, Sem.run_pure], ?_⟩
  rw [Oper.semAt_plain F _ _ (by rw [hop]; intro c hc'; cases hc')]
  simp only [execOp, hop, resolve, invoke, builtin, Sem.run_bind, Sem.run_pure, Result.andThen_ok, List.map_toArray, List.map_cons, List.map_nil, hs, hx, hrun]
  exact hK' _ _ (hK v' w' r1 r2 r3)
end Go.Proofs.YtihbjimnjhfpeaaGreat

/- Walk of first over a search's cooks: contract. -/
namespace Go.Proofs.YtihbjimnjhfpeaaGreat
open Go.RowKit Go.Shelf Go.Lib
attribute [local go_sem] Oper.semAt_some

theorem grown_low {w W W' : World} {row : Option Nat} (h : w.grownBy W row) (hb : Below w.heap.size W W') : w.grownBy W' row :=
  ⟨hb.os.trans h.os, hb.tape.trans h.tape, hb.output.trans h.output, Nat.le_trans h.size hb.size, fun k hk hne => (hb.block k hk).trans (h.block k hk hne)⟩
section
variable {W W' : World} {yb : Nat} {x : Ck}
theorem rowI_offK {row : Option Nat} {a : Option Addr} {n cap : Nat} {l : List Int} (h : RowI W (.slice a n cap) l) (hg : W.grownBy W' row) (ho : ∀ p, a = some p → some p.block ≠ row) : RowI W' (.slice a n cap) l := by
  rcases h with h | ⟨b, o, cap', hv, hm, hc⟩
  · exact .inl h
  · cases hv
    exact .inr ⟨b, o, cap, rfl, hm, fun k hk => Lt.grown_cell hg (World.block_lt_of_cell? W ⟨b, o + k, none⟩ (hc k hk)) (ho ⟨b, o, none⟩ rfl) (hc k hk)⟩
/-- A cook's rows stay where a block turns that is no block of ints and no older than yb. -/
theorem CkAt.grown {row : Option Nat} (h : CkAt yb x W) (hg : W.grownBy W' row) (hr : ∀ j, row = some j → yb ≤ j ∧ ¬ IntAt W j) : CkAt yb x W' := by
  have ho : ∀ a, Loc yb W a → ∀ p, a = some p → some p.block ≠ row := fun a ha p e e2 => by
    obtain ⟨h1, h2⟩ := hr _ e2.symm
    rcases ha p e with h | ⟨h, hi⟩
    · omega
    · exact h2 hi
  have hl : ∀ a, Loc yb W a → Loc yb W' a := fun a ha p e => by
    rcases ha p e with h | ⟨h, cs, fz, hi⟩
    · exact .inl h
    · exact .inr ⟨h, cs, fz, (hg.block _ (lt_of_block hi) (ho a ha p e)).trans hi⟩
  exact ⟨rowI_offK h.temps hg (ho _ h.oa), rowI_offK h.sums hg (ho _ h.ob), hl _ h.oa, hl _ h.ob⟩
theorem CkAt.cells (h : CkAt yb x W) (hc : ∀ (g : Nat) (cs : Array Value) (T : Nat) (fr : Nat × Nat), W.heap[g]? = some (Obj.cells cs T fr) → W'.heap[g]? = some (Obj.cells cs T fr)) : CkAt yb x W' := by
  have hrow : ∀ {v : Value} {l : List Int}, RowI W v l → RowI W' v l := fun {v l} h => by
    rcases h with h | ⟨b, o, cap, hv, hm, h⟩
    · exact .inl h
    · refine .inr ⟨b, o, cap, hv, hm, fun k hk => ?_⟩
      obtain ⟨cs, t, fz, hb⟩ := cells_of_cell (h k hk)
      exact (World.cell?_of_block (a := ⟨b, o + k, none⟩) ((hc _ _ _ _ hb).trans hb.symm)).trans (h k hk)
  have hl : ∀ a, Loc yb W a → Loc yb W' a := fun a ha p e => by
    rcases ha p e with h | ⟨h, cs, fz, hi⟩
    · exact .inl h
    · exact .inr ⟨h, cs, fz, hc _ _ _ _ hi⟩
  exact ⟨hrow h.temps, hrow h.sums, hl _ h.oa, hl _ h.ob⟩
theorem noInt_cook {j : Nat} {cs : Array Value} {fz : Nat × Nat} (h : W.heap[j]? = some (.cells cs 160 fz)) : ¬ IntAt W j := fun ⟨cs', fz', hi⟩ => by
  rw [h] at hi
  exact absurd (Obj.cells.inj (Option.some.inj hi)).2.1 (by decide)
theorem noInt_other {j : Nat} {o : Obj} (h : W.heap[j]? = some o) (hc : o.isCells = false) : ¬ IntAt W j := fun ⟨cs', fz', hi⟩ => by
  rw [h] at hi
  cases hi
  cases hc
theorem noInt_apart {j : Nat} {o : Obj} (h : W.heap[j]? = some o) (hc : Obj.apart 160 o) : ¬ IntAt W j := by
  rcases hc with hc | ⟨cs, rfl⟩
  · exact noInt_other h hc
  · exact noInt_cook h
end
/-- What least's last is behind k rounds that told no. -/
def LastC (c : Cn) (f : Int → Nat) (D : Dish) (bath : Int) (m0 more yb k : Nat) (W : World) : Prop := ∃ x, W.heap[yb]? = some (.cells (ckc x) 160 (0, 0)) ∧ XsC c f D bath m0 more yb (k - 1) x W
def zck : Array Value := #[.slice none 0 0, .bool false, .slice none 0 0, .int .i64 0]
/-- What first's rounds stand on. -/
structure FiB (c : Cn) (need : Int) (F : Nat) (lb : Array Value) (bath cold : Int) (most cooling : Nat) (I : World → Prop) (sbL yb : Nat) (Z : Array Value) (bo : Bool) (w W : World) : Prop where
  sL : W.heap[sbL]? = some (.cells #[.int .i64 (c.R : Int), .int .i64 (c.L : Int), .int .i64 c.A, .int .i64 c.B, .int .i64 c.K, .int .i64 c.A2, .int .i64 c.B2, .int .i64 need, .func (.func F) #[] lb, .int .i64 bath, .int .i64 (most : Nat), .int .i64 cold, .int .i64 (cooling : Nat)] 127 (0, 0))
  inv : I W
  b1 : W.heap[w.heap.size]? = some (.cells #[.func (.func 115) #[] #[.pointer (some ⟨sbL, 0, none⟩), .pointer (some ⟨yb, 0, none⟩)]] 162 (0, 0))
  b2 : W.heap[w.heap.size + 1]? = some (.cells Z 160 (0, 0))
  b3 : W.heap[w.heap.size + 1 + 1]? = some (.cells #[.bool bo] 4 (0, 0))
  gr : w.grownBy W (some yb)
section
variable {c : Cn} {need : Int} {F : Nat} {lb : Array Value} {bath cold : Int} {most cooling : Nat} {f : Int → Nat} {lo hi : Int} {mb B0 : Nat} {I : World → Prop} {sbL yb B : Nat} {Z : Array Value} {bo : Bool} {w W W' : World}
theorem FiB.grown {row : Option Nat} (hR : RateOk F lb f lo hi mb B0 I) (h : FiB c need F lb bath cold most cooling I sbL yb Z bo w W) (hg : W.grownBy W' row) (hB0 : B0 ≤ yb) (hs : sbL < w.heap.size) (hne : sbL ≠ yb) (hy : yb < w.heap.size) (hr : ∀ j, row = some j → j = yb ∨ w.heap.size + 1 + 1 < j) : FiB c need F lb bath cold most cooling I sbL yb Z bo w W' := by
  have hk : ∀ j o, W.heap[j]? = some o → j ≠ yb → j ≤ w.heap.size + 1 + 1 → W'.heap[j]? = some o := fun j o h1 h2 h3 => (hg.block j (lt_of_block h1) (fun e => by have := hr _ e.symm; omega)).trans h1
  exact ⟨hk _ _ h.sL hne (by omega), hR.keep _ _ _ h.inv hg (fun j e => by have := hr _ e; omega), hk _ _ h.b1 (by omega) (by omega), hk _ _ h.b2 (by omega) (by omega), hk _ _ h.b3 (by omega) (by omega),
    Lt.grown_more h.gr hg (fun j e => by have := hr _ e; omega)⟩
theorem FiB.told (h : FiB c need F lb bath cold most cooling I sbL yb Z bo w W) (hR : RateOk F lb f lo hi mb B0 I) (hB0 : B0 ≤ yb) (hs : sbL < w.heap.size) (hy : yb < w.heap.size) {cs : Array Value} {b' : Bool} (hW : (W.setRow (w.heap.size + 1) cs).setCell ⟨w.heap.size + 1 + 1, 0, none⟩ (.bool b') = W') :
    FiB c need F lb bath cold most cooling I sbL yb cs b' w W' ∧ (∀ j, j ≠ w.heap.size + 1 → j ≠ w.heap.size + 1 + 1 → W'.heap[j]? = W.heap[j]?) ∧ W'.heap.size = W.heap.size ∧ ∃ W1, W.grownBy W1 (some (w.heap.size + 1)) ∧ ¬ IntAt W (w.heap.size + 1) ∧ W1.grownBy W' (some (w.heap.size + 1 + 1)) ∧ ¬ IntAt W1 (w.heap.size + 1 + 1) := by
  have g1 := grownBy_setRow W (w.heap.size + 1) cs
  have e1 : ∀ j, j ≠ w.heap.size + 1 → (W.setRow (w.heap.size + 1) cs).heap[j]? = W.heap[j]? := fun j hj => setRow_other _ _ _ _ hj
  have k2 : (W.setRow (w.heap.size + 1) cs).heap[w.heap.size + 1]? = some (.cells cs 160 (0, 0)) := setRow_heap _ _ _ _ _ _ h.b2
  have k3 : (W.setRow (w.heap.size + 1) cs).heap[w.heap.size + 1 + 1]? = some (.cells #[.bool bo] 4 (0, 0)) := (e1 _ (by omega)).trans h.b3
  have hz : (W.setRow (w.heap.size + 1) cs).heap.size = W.heap.size := by simp
  generalize W.setRow (w.heap.size + 1) cs = W1 at *
  have g2 : W1.grownBy (W1.setCell ⟨w.heap.size + 1 + 1, 0, none⟩ (.bool b')) (some (w.heap.size + 1 + 1)) := ⟨rfl, rfl, rfl, by simp, fun k _ hk => heap_setCell_other _ _ _ _ (fun e => hk (by rw [e]))⟩
  have e2 : ∀ j, j ≠ w.heap.size + 1 + 1 → (W1.setCell ⟨w.heap.size + 1 + 1, 0, none⟩ (.bool b')).heap[j]? = W1.heap[j]? := fun j hj => heap_setCell_other _ _ _ _ (by exact hj)
  have k4 := heap_setCell_same W1 (w.heap.size + 1 + 1) 0 _ _ (.bool b') k3
  have hz2 : (W1.setCell ⟨w.heap.size + 1 + 1, 0, none⟩ (.bool b')).heap.size = W1.heap.size := by simp
  rw [hW] at g2 e2 k4 hz2
  have ni : ¬ IntAt W1 (w.heap.size + 1 + 1) := fun ⟨cs', fz', hi⟩ => by
    rw [k3] at hi
    exact absurd (Obj.cells.inj (Option.some.inj hi)).2.1 (by decide)
  refine ⟨⟨(e2 _ (by omega)).trans ((e1 _ (by omega)).trans h.sL), hR.keep _ _ _ (hR.keep _ _ _ h.inv g1 (fun j e => by cases e; omega)) g2 (fun j e => by cases e; omega), (e2 _ (by omega)).trans ((e1 _ (by omega)).trans h.b1), (e2 _ (by omega)).trans k2, k4,
    Lt.grown_more (Lt.grown_more h.gr g1 (fun j e => by cases e; exact .inr (by omega))) g2 (fun j e => by cases e; exact .inr (by omega))⟩, fun j h1 h2 => (e2 _ h2).trans (e1 _ h1), hz2.trans hz, W1, g1, noInt_cook h.b2, g2, ni⟩
end
end Go.Proofs.YtihbjimnjhfpeaaGreat
