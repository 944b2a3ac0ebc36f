/- Texts of this seat, one behind the other. -/
import Derived.Test.YtihbjimnjhfpeaaGreatG13
import Derived.Maps.AppendAt
/- Walks of Quarter of both, quarterAbove, Cut: contracts. -/
namespace Go.Proofs.YtihbjimnjhfpeaaGreat.Lt
open Go.RowKit Go.Lib Go.Maps

theorem q_pos {t : Int} (h : 0 ≤ t) : t.tdiv 250 = t / 250 ∧ t.tmod 250 = t % 250 := ⟨Int.tdiv_eq_ediv_of_nonneg h, Int.tmod_eq_emod_of_nonneg h⟩
theorem q_neg0 {t : Int} (hd : t % 250 = 0) : t.tdiv 250 = t / 250 ∧ t.tmod 250 = 0 := by
  have hdvd : (250 : Int) ∣ t := Int.dvd_of_emod_eq_zero hd
  rw [Int.tdiv_eq_ediv, Int.tmod_eq_emod, if_pos (.inr hdvd), if_pos (.inr hdvd)]
  omega
theorem q_neg1 {t : Int} (h : t < 0) (hd : t % 250 ≠ 0) : t.tdiv 250 = t / 250 + 1 ∧ t.tmod 250 = t % 250 - 250 := by
  have hn : ¬ (0 ≤ t ∨ (250 : Int) ∣ t) := by
    rintro (h1 | h1)
    · omega
    · exact hd (Int.emod_eq_zero_of_dvd h1)
  rw [Int.tdiv_eq_ediv, Int.tmod_eq_emod, if_neg hn, if_neg hn]
  exact ⟨rfl, rfl⟩

set_option maxHeartbeats 1000000 in
theorem lQuarter_any (t : Int) (w : World) (h1 : -9223372036854775808 ≤ t) (h2 : t ≤ 9223372036854775807) : Calls Tryz.prog 108 #[.int .i64 t] w fun e w' => e = .returned (.int .i64 (t / 250)) ∧ w = w' := by
  rcases Int.lt_or_le t 0 with h | h
  · by_cases hd : t % 250 = 0
    · obtain ⟨e1, e2⟩ := q_neg0 hd
      go_enter Tryz.func108, Tryz.ntmps108
      go_wp2
      go_ret
      exact ⟨rfl, rfl⟩
    · obtain ⟨e1, e2⟩ := q_neg1 h hd
      have d : decide (t % 250 - 250 < 0) = true := by simp; omega
      go_enter Tryz.func108, Tryz.ntmps108
      go_wp2
      go_ret
      exact ⟨ret_int (by omega), rfl⟩
  · obtain ⟨e1, e2⟩ := q_pos h
    have d : decide (t % 250 < 0) = false := by simp; omega
    go_enter Tryz.func108, Tryz.ntmps108
    go_wp2
    go_ret
    exact ⟨rfl, rfl⟩
set_option maxHeartbeats 1000000 in
theorem rQuarter_any (t : Int) (w : World) (h1 : -9223372036854775808 ≤ t) (h2 : t ≤ 9223372036854775807) : Calls Tryz.prog 171 #[.int .i64 t] w fun e w' => e = .returned (.int .i64 (t / 250)) ∧ w = w' := by
  rcases Int.lt_or_le t 0 with h | h
  · by_cases hd : t % 250 = 0
    · obtain ⟨e1, e2⟩ := q_neg0 hd
      go_enter Tryz.func171, Tryz.ntmps171
      go_wp2
      go_ret
      exact ⟨rfl, rfl⟩
    · obtain ⟨e1, e2⟩ := q_neg1 h hd
      have d : (t % 250 - 250 == 0) = false := by simp; omega
      go_enter Tryz.func171, Tryz.ntmps171
      go_wp2
      go_ret
      exact ⟨ret_int (by omega), rfl⟩
  · obtain ⟨e1, e2⟩ := q_pos h
    have d : decide (t < 0) = false := by simp; omega
    go_enter Tryz.func171, Tryz.ntmps171
    go_wp2
    go_ret
    exact ⟨rfl, rfl⟩
/-- The quarter that is not below. -/
def qUp (t : Int) : Int := if t % 250 = 0 then t / 250 else t / 250 + 1
/-- A sum, cut. -/
def cutN (a b : Nat) : Nat := min (a + b) 1000000000000000000
set_option maxHeartbeats 1000000 in
theorem cut_any (a b : Nat) (w : World) (h1 : a ≤ 1000000000000000000) (h2 : b ≤ 1000000000000000000) : Calls Tryz.prog 154 #[.int .i64 a, .int .i64 b] w fun e w' => e = .returned (.int .i64 (cutN a b : Nat)) ∧ w = w' := by
  by_cases h : a + b < 1000000000000000000
  · have hc : Hid (((cutN a b : Nat) : Int) = (a : Int) + b) := by unfold Hid cutN; omega
    have d1 : ¬ 1000000000000000000 ≤ (a : Int) := by omega
    have d2 : ¬ 1000000000000000000 ≤ (b : Int) := by omega
    have d3 : ¬ 1000000000000000000 ≤ (a : Int) + b := by omega
    go_enter Tryz.func154, Tryz.ntmps154
    go_wp2
    go_ret
    exact ⟨ret_int hc.out.symm, rfl⟩
  · have hc : Hid (cutN a b = 1000000000000000000) := by unfold Hid cutN; omega
    have d3 : 1000000000000000000 ≤ (a : Int) + b := by omega
    by_cases d1 : 1000000000000000000 ≤ (a : Int)
    · go_enter Tryz.func154, Tryz.ntmps154
      go_wp2
      go_ret
      exact ⟨by rw [hc.out]; rfl, rfl⟩
    by_cases d2 : 1000000000000000000 ≤ (b : Int)
    · go_enter Tryz.func154, Tryz.ntmps154
      go_wp2
      go_ret
      exact ⟨by rw [hc.out]; rfl, rfl⟩
    · go_enter Tryz.func154, Tryz.ntmps154
      go_wp2
      go_ret
      exact ⟨by rw [hc.out]; rfl, rfl⟩
end Go.Proofs.YtihbjimnjhfpeaaGreat.Lt

/- Walks of asked and checkTemps: contracts. -/
namespace Go.Proofs.YtihbjimnjhfpeaaGreat.Lt
open Go.RowKit Go.Lib Go.Maps

/-- A slice of ints that is read, from any place of a row. -/
def RowI (w : World) (v : Value) (l : List Int) : Prop := (∃ a cap, v = .slice a 0 cap ∧ l = []) ∨ ∃ b o cap, v = .slice (some ⟨b, o, none⟩) l.length cap ∧ l.length ≤ maxLen ∧ ∀ k (h : k < l.length), w.cell? ⟨b, o + k, none⟩ = some (.int .i64 l[k])
theorem RowI.keep {W w2 : World} {v : Value} {l : List Int} (h : RowI W v l) (hb : Below W.heap.size W w2) : RowI w2 v l := by
  rcases h with h | ⟨b, o, cap, hv, hm, hc⟩
  · exact .inl h
  · exact .inr ⟨b, o, cap, hv, hm, fun k hk => keep_cell hb (hc k hk)⟩
def okT (t : Int) : Bool := decide (-50000 ≤ t) && decide (t ≤ 200000)
def okL (l : List Int) : Bool := l.all okT
theorem okL_all {l : List Int} (h : okL l = true) (k : Nat) (hk : k < l.length) : okT l[k] = true := List.all_eq_true.1 h _ (List.getElem_mem hk)
theorem okL_end {l : List Int} {k : Nat} (h : ∀ j (hj : j < l.length), j < k → okT l[j] = true) (hk : k = l.length) : okL l = true := by
  subst hk
  refine List.all_eq_true.2 fun x hx => ?_
  obtain ⟨j, hj, rfl⟩ := List.getElem_of_mem hx
  exact h j hj hj
theorem okL_bad {l : List Int} {k : Nat} (hk : k < l.length) (h : okT l[k] = false) : okL l = false := by
  cases ho : okL l with
  | false => rfl
  | true => rw [okL_all ho k hk] at h; cases h
/-- The first error of temperatures. -/
def askE (v : Bool) (l : List Int) : Int := if v = false then 1 else if 10000 < l.length then 4 else if okL l then 0 else 7
end Go.Proofs.YtihbjimnjhfpeaaGreat.Lt

/- Walk of For: contract. -/
namespace Go.Proofs.YtihbjimnjhfpeaaGreat.Lt
open Go.RowKit Go.Lib Go.Maps

theorem blk_set {w : World} {b i : Nat} {cs : Array Value} {T : TypeId} {fz : Nat × Nat} {v : Value} (h : w.heap[b]? = some (.cells cs T fz)) : (w.setCell ⟨b, i, none⟩ v).heap[b]? = some (.cells (cs.setIfInBounds i v) T fz) := by
  obtain ⟨hlt, hk⟩ := Array.getElem?_eq_some_iff.1 h
  show (w.heap.modify b _)[b]? = _
  rw [Array.getElem?_eq_getElem (by rw [Array.size_modify]; exact hlt), Array.getElem_modify_self, hk]
  rfl
theorem blk_cell {w : World} {b i : Nat} {cs : Array Value} {T : TypeId} {fz : Nat × Nat} (h : w.heap[b]? = some (.cells cs T fz)) : w.cell? ⟨b, i, none⟩ = cs[i]? := by
  unfold World.cell?
  show (match w.heap[b]? with | some (.cells c _ _) => _ | _ => _) = _
  rw [h]
  rfl
theorem blk_free {w : World} {b i : Nat} {cs : Array Value} {T : TypeId} (h : w.heap[b]? = some (.cells cs T (0, 0))) : w.frozen? ⟨b, i, none⟩ = false := by
  unfold World.frozen?
  show (match w.heap[b]? with | some (.cells _ _ (lo, hi)) => (decide (lo ≤ i) && decide (i < hi)) | _ => false) = false
  rw [h]
  simp
def ivI (l : List Int) : List Value := l.map (Value.int .i64)
theorem ivI_append (a b : List Int) : ivI (a ++ b) = ivI a ++ ivI b := by simp [ivI]

/-- The kept rates of a killer at block b: rows of l1 and l2. -/
structure ForS (s : ByteArray) (r z d g : Int) (w : World) (b : Nat) (l1 l2 : List Int) (vD vU : Value) (wr : World) : Prop where
  blk : wr.heap[b]? = some (.cells #[.string s, .int .i64 r, .int .i64 z, .int .i64 d, .int .i64 g, vD, vU] 176 (0, 0))
  rowD : wr.ownsRow (b + 1) 3 1 vD l1.length (ivI l1)
  rowU : wr.ownsRow (b + 1) 3 1 vU l2.length (ivI l2)
  ne : vD.ownBlock = none ∨ vD.ownBlock ≠ vU.ownBlock
  low : Below w.heap.size w wr
  le : w.heap.size ≤ b
theorem ForS.cells {s : ByteArray} {r z d g : Int} {w : World} {b : Nat} {l1 l2 : List Int} {vD vU : Value} {wr : World} (h : ForS s r z d g w b l1 l2 vD vU wr) :
    wr.cell? ⟨b, 5, none⟩ = some vD ∧ wr.frozen? ⟨b, 5, none⟩ = false ∧ wr.cell? ⟨b, 6, none⟩ = some vU ∧ wr.frozen? ⟨b, 6, none⟩ = false ∧ b < wr.heap.size :=
  ⟨blk_cell h.blk, blk_free h.blk, blk_cell h.blk, blk_free h.blk, lt_of_block h.blk⟩
theorem fors_start {s : ByteArray} {r z d g : Int} {w : World} {o : Obj} : ForS s r z d g w (w.heap.size + 1) [] [] (.slice none 0 0) (.slice none 0 0) ((w.alloc o).alloc (.cells #[.string s, .int .i64 r, .int .i64 z, .int .i64 d, .int .i64 g, .slice none 0 0, .slice none 0 0] 176)) := by
  refine ⟨?_, World.ownsRow_nil _ _ _ _, World.ownsRow_nil _ _ _ _, .inl rfl, ((Below.refl _ _).alloc (Nat.le_refl _) _).alloc (by simp) _, by omega⟩
  have := heap_alloc_new (w.alloc o) (.cells #[.string s, .int .i64 r, .int .i64 z, .int .i64 d, .int .i64 g, .slice none 0 0, .slice none 0 0] 176)
  rw [show (w.alloc o).heap.size = w.heap.size + 1 by simp] at this
  exact this
/-- Behind the append to the first row, ahead of its store. -/
theorem ForS.midD {s : ByteArray} {r z d g : Int} {w : World} {b : Nat} {l1 l2 : List Int} {vD vU vD' : Value} {wr w1 : World} {o : Obj} {x : Int} (h : ForS s r z d g w b l1 l2 vD vU wr)
    (hr : w1.ownsRow (b + 1) 3 1 vD' (l1.length + 1) (ivI l1 ++ [.int .i64 x])) (hg : (wr.alloc o).grownBy w1 vD.ownBlock) (hn : vD'.ownBlock = vD.ownBlock ∨ vD'.ownBlock = some (wr.alloc o).heap.size) :
    w1.cell? ⟨b, 5, none⟩ = some vD ∧ w1.frozen? ⟨b, 5, none⟩ = false ∧ w1.cell? ⟨b, 6, none⟩ = some vU ∧ w1.frozen? ⟨b, 6, none⟩ = false ∧ b < w1.heap.size ∧ ForS s r z d g w b (l1 ++ [x]) l2 vD' vU (w1.setCell ⟨b, 5, none⟩ vD') := by
  have hg0 := World.grownBy_alloc wr o none
  have hblt := lt_of_block h.blk
  have hDb : vD.ownBlock ≠ some b := fun e => by have := (World.ownsRow.lt h.rowD b e).1; omega
  have hblk0 : (wr.alloc o).heap[b]? = some (.cells #[.string s, .int .i64 r, .int .i64 z, .int .i64 d, .int .i64 g, vD, vU] 176 (0, 0)) := (hg0.block b hblt (by simp)).trans h.blk
  have hblk : w1.heap[b]? = some (.cells #[.string s, .int .i64 r, .int .i64 z, .int .i64 d, .int .i64 g, vD, vU] 176 (0, 0)) := (hg.block b (Nat.lt_of_lt_of_le hblt hg0.size) (fun e => hDb e.symm)).trans hblk0
  have hD'b : vD'.ownBlock ≠ some b := fun e => by have := (World.ownsRow.lt hr b e).1; omega
  have hUb : vU.ownBlock ≠ some b := fun e => by have := (World.ownsRow.lt h.rowU b e).1; omega
  have hU1 : w1.ownsRow (b + 1) 3 1 vU l2.length (ivI l2) := World.ownsRow.kept (World.ownsRow.alloc h.rowU o) hg (by
    rcases h.ne with h1 | h1
    · rw [h1]; cases vU.ownBlock <;> simp
    · exact .inr fun e => h1 e.symm)
  have hlow : Below w.heap.size w w1 := (h.low.alloc h.low.size o).grown hg (by have := h.low.size; simp; omega) (fun k hk => by have := (World.ownsRow.lt h.rowD k hk).1; have := h.le; omega)
  refine ⟨blk_cell hblk, blk_free hblk, blk_cell hblk, blk_free hblk, lt_of_block hblk, blk_set hblk, ?_, ownsRow_setCell_other hU1 hUb _, ?_, hlow.setCell (show w.heap.size ≤ b from h.le) _, h.le⟩
  · rw [ivI_append, List.length_append]; exact ownsRow_setCell_other hr hD'b _
  · rcases hn with h1 | h1
    · rw [h1]; exact h.ne
    · refine .inr fun e => ?_
      rw [h1] at e
      have h2 := (World.ownsRow.lt h.rowU _ e.symm).2
      simp at h2
      omega
/-- Behind the append to the second row, ahead of its store. -/
theorem ForS.midU {s : ByteArray} {r z d g : Int} {w : World} {b : Nat} {l1 l2 : List Int} {vD vU vU' : Value} {wr w1 : World} {o : Obj} {x : Int} (h : ForS s r z d g w b l1 l2 vD vU wr)
    (hr : w1.ownsRow (b + 1) 3 1 vU' (l2.length + 1) (ivI l2 ++ [.int .i64 x])) (hg : (wr.alloc o).grownBy w1 vU.ownBlock) (hn : vU'.ownBlock = vU.ownBlock ∨ vU'.ownBlock = some (wr.alloc o).heap.size) :
    w1.cell? ⟨b, 6, none⟩ = some vU ∧ w1.frozen? ⟨b, 6, none⟩ = false ∧ b < w1.heap.size ∧ ForS s r z d g w b l1 (l2 ++ [x]) vD vU' (w1.setCell ⟨b, 6, none⟩ vU') := by
  have hg0 := World.grownBy_alloc wr o none
  have hblt := lt_of_block h.blk
  have hUb : vU.ownBlock ≠ some b := fun e => by have := (World.ownsRow.lt h.rowU b e).1; omega
  have hblk0 : (wr.alloc o).heap[b]? = some (.cells #[.string s, .int .i64 r, .int .i64 z, .int .i64 d, .int .i64 g, vD, vU] 176 (0, 0)) := (hg0.block b hblt (by simp)).trans h.blk
  have hblk : w1.heap[b]? = some (.cells #[.string s, .int .i64 r, .int .i64 z, .int .i64 d, .int .i64 g, vD, vU] 176 (0, 0)) := (hg.block b (Nat.lt_of_lt_of_le hblt hg0.size) (fun e => hUb e.symm)).trans hblk0
  have hU'b : vU'.ownBlock ≠ some b := fun e => by have := (World.ownsRow.lt hr b e).1; omega
  have hDb : vD.ownBlock ≠ some b := fun e => by have := (World.ownsRow.lt h.rowD b e).1; omega
  have hD1 : w1.ownsRow (b + 1) 3 1 vD l1.length (ivI l1) := World.ownsRow.kept (World.ownsRow.alloc h.rowD o) hg h.ne
  have hlow : Below w.heap.size w w1 := (h.low.alloc h.low.size o).grown hg (by have := h.low.size; simp; omega) (fun k hk => by have := (World.ownsRow.lt h.rowU k hk).1; have := h.le; omega)
  refine ⟨blk_cell hblk, blk_free hblk, lt_of_block hblk, blk_set hblk, ownsRow_setCell_other hD1 hDb _, ?_, ?_, hlow.setCell (show w.heap.size ≤ b from h.le) _, h.le⟩
  · rw [ivI_append, List.length_append]; exact ownsRow_setCell_other hr hU'b _
  · rcases hn with h1 | h1
    · rw [h1]; exact h.ne
    · cases hvd : vD.ownBlock with
      | none => exact .inl rfl
      | some j =>
        refine .inr fun e => ?_
        rw [h1] at e
        have h2 := (World.ownsRow.lt h.rowD _ hvd).2
        cases e
        simp at h2
        omega
theorem row_succ {W : World} {base : Nat} {e : TypeId} {size : Nat} {v : Value} {k : Nat} {xs : List Value} (h : W.ownsRow base e size v (k + 1) xs) : ∃ g cap, v = .slice (some ⟨g, 0, none⟩) (k + 1) cap := by
  rcases h.2 with ⟨_, h0⟩ | ⟨g, cap, _, rfl, _⟩
  · omega
  · exact ⟨g, cap, rfl⟩
theorem size_set (w : World) (a : Addr) (u : Value) : (w.setCell a u).heap.size = w.heap.size := by simp [World.setCell]
theorem cell_one_set {w : World} {a : Addr} {u' c : Value} {T : TypeId} : ∀ j u, [c][j]? = some u → ((w.setCell a u').alloc (.cells #[c] T)).cell? ((⟨w.heap.size, 0, none⟩ : Addr).add j) = some u := by
  have h := cell_one_at (w := w.setCell a u') (c := c) (T := T)
  rw [size_set] at h
  exact h
def negs (k : Nat) : List Int := List.replicate k (-1)
theorem negs_succ (k : Nat) : negs (k + 1) = negs k ++ [-1] := by unfold negs; rw [List.replicate_succ']
theorem negs_len (k : Nat) : (negs k).length = k := by simp [negs]

/-- What For hands back. -/
def ForP (s : ByteArray) (r z d g : Int) (N : Nat) (w : World) (e : Ending) (w' : World) : Prop := ∃ b vD vU, e = .returned (.pointer (some ⟨b, 0, none⟩)) ∧ ForS s r z d g w b (negs N) (negs N) vD vU w'
set_option maxRecDepth 6000 in
set_option maxHeartbeats 4000000 in
theorem for_any (s : ByteArray) (r z d g : Int) (w : World) (_hs : s.size ≤ maxLen) :
    Calls Tryz.prog 127 #[.agg #[.string s, .int .i64 r, .int .i64 z, .int .i64 d, .int .i64 g]] w (ForP s r z d g 1003 w) := by
  obtain ⟨i0, hi, hz0, hz1, hz2⟩ := info_parts info_int
  obtain ⟨N, hN⟩ : ∃ N, N = 1003 := ⟨_, rfl⟩
  have HN := hid hN
  rw [← hN]
  clear hN
  go_enter Tryz.func127, Tryz.ntmps127
  go_wp2
  have HS := hid (fors_start (s := s) (r := r) (z := z) (d := d) (g := g) (w := w) (o := .cells #[.string s, .int .i64 r, .int .i64 z, .int .i64 d, .int .i64 g] 25))
  go_loopw [4] (fun i wr => ∃ k : Nat, k ≤ N ∧ i = .int .i64 k ∧ ∃ vD vU, Hid (ForS s r z d g w (w.heap.size + 1) (negs k) (negs k) vD vU wr)) (fun i _ => N - (intOf i).toNat)
  case atStart => exact ⟨0, Nat.zero_le _, rfl, _, _, HS⟩
  case round =>
    obtain ⟨k, hk, rfl, vD, vU, hF⟩ := hrel
    clear HS
    by_cases hlt : k < N
    · have hlt' : (k : Int) < 1003 := by have := HN.out; omega
      obtain ⟨c5, f5, c6, f6, hb⟩ := hF.out.cells
      go_wp2_with (first
        | (at_builtin; refine wpList_append_own_at _ rfl _ _ 28 rfl (w.heap.size + 1 + 1) 3 i0 (.int .i64 0) 1 8 Tryz.underlying28 hi hz0 hz1 hz2 rfl (by decide) _ _ _ rfl (World.ownsRow.alloc hF.out.rowD _) ⟨wr.heap.size, 0, none⟩ 1 1 [.int .i64 (-1)] rfl rfl cell_one_at one_cell (by rw [negs_len]; unfold maxLen; omega) (by rw [negs_len]; omega) (by simp; omega) ?_; intro v1 w1 hown1 hgrow1 _ hat1; obtain ⟨g1, cap1, rfl⟩ := row_succ hown1; clear c5 f5 c6 f6; obtain ⟨c5, f5, c6, f6, hb1, hF1⟩ := hF.out.midD hown1 hgrow1 hat1; have HF1 := hid hF1; clear hF1 hown1 hgrow1 hat1)
        | (at_builtin; refine wpList_append_own_at _ rfl _ _ 28 rfl (w.heap.size + 1 + 1) 3 i0 (.int .i64 0) 1 8 Tryz.underlying28 hi hz0 hz1 hz2 rfl (by decide) _ _ _ rfl (World.ownsRow.alloc HF1.out.rowU _) ⟨_, 0, none⟩ 1 1 [.int .i64 (-1)] rfl rfl cell_one_set one_cell (by rw [negs_len]; unfold maxLen; omega) (by rw [negs_len]; omega) (by simp; omega) ?_; intro v2 w2 hown2 hgrow2 _ hat2; obtain ⟨g2, cap2, rfl⟩ := row_succ hown2; obtain ⟨c6, f6, hb3, hF2⟩ := HF1.out.midU hown2 hgrow2 hat2; have HF2 := hid hF2; clear hF2 hown2 hgrow2 hat2))
      go_roundw
      case rel => exact ⟨k + 1, by omega, by go_num, _, _, by rw [negs_succ]; exact HF2⟩
      case measure => simp [intOf]; omega
    · obtain rfl : k = N := by omega
      have hge : ¬ (k : Int) < 1003 := by have := HN.out; omega
      go_wp2
      go_ret
      exact ⟨_, vD, vU, rfl, hF.out⟩
end Go.Proofs.YtihbjimnjhfpeaaGreat.Lt

/- Walk of ask: contract. -/
namespace Go.Proofs.YtihbjimnjhfpeaaGreat.Lt
open Go.RowKit Go.Lib Go.Maps

section
variable {s : ByteArray} {r z d g : Int} {w wr w2 : World} {b gD gU cD cU n q : Nat} {l1 l2 : List Int} {vD vU : Value}
theorem ForS.below (h : ForS s r z d g w b l1 l2 vD vU wr) (hb : Below wr.heap.size wr w2) : ForS s r z d g w b l1 l2 vD vU w2 := by
  have hg : wr.grownBy w2 none := gbelow hb
  exact ⟨(hb.block b (lt_of_block h.blk)).trans h.blk, World.ownsRow.kept h.rowD hg (by cases vD.ownBlock <;> simp), World.ownsRow.kept h.rowU hg (by cases vU.ownBlock <;> simp), h.ne, h.low.trans (hb.mono h.low.size), h.le⟩
theorem ForS.cells7 (h : ForS s r z d g w b l1 l2 vD vU wr) :
    wr.cell? ⟨b, 0, none⟩ = some (.string s) ∧ wr.cell? ⟨b, 1, none⟩ = some (.int .i64 r) ∧ wr.cell? ⟨b, 2, none⟩ = some (.int .i64 z) ∧ wr.cell? ⟨b, 3, none⟩ = some (.int .i64 d) ∧ wr.cell? ⟨b, 4, none⟩ = some (.int .i64 g) ∧ wr.cell? ⟨b, 5, none⟩ = some vD ∧ wr.cell? ⟨b, 6, none⟩ = some vU :=
  ⟨blk_cell h.blk, blk_cell h.blk, blk_cell h.blk, blk_cell h.blk, blk_cell h.blk, blk_cell h.blk, blk_cell h.blk⟩
/-- The cells of the rows at one place. -/
theorem ForS.at (h : ForS s r z d g w b l1 l2 (.slice (some ⟨gD, 0, none⟩) n cD) (.slice (some ⟨gU, 0, none⟩) n cU) wr) (h1 : l1.length = n) (h2 : l2.length = n) (hq : q < n) :
    (∃ x, wr.cell? ⟨gD, q, none⟩ = some (.int .i64 x)) ∧ wr.frozen? ⟨gD, q, none⟩ = false ∧ (∃ x, wr.cell? ⟨gU, q, none⟩ = some (.int .i64 x)) ∧ wr.frozen? ⟨gU, q, none⟩ = false ∧ gD < wr.heap.size ∧ gU < wr.heap.size := by
  have rD := h.rowD
  have rU := h.rowU
  rw [h1] at rD
  rw [h2] at rU
  refine ⟨⟨l1[q]'(by omega), ?_⟩, World.ownsRow.frozenAt rD q, ⟨l2[q]'(by omega), ?_⟩, World.ownsRow.frozenAt rU q, (World.ownsRow.lt rD gD rfl).2, (World.ownsRow.lt rU gU rfl).2⟩
  · rw [World.ownsRow.cellAt rD q (by omega)]; simp [ivI, show q < l1.length by omega]
  · rw [World.ownsRow.cellAt rU q (by omega)]; simp [ivI, show q < l2.length by omega]
theorem ForS.set (h : ForS s r z d g w b l1 l2 (.slice (some ⟨gD, 0, none⟩) n cD) (.slice (some ⟨gU, 0, none⟩) n cU) wr) (h1 : l1.length = n) (h2 : l2.length = n) (x y : Int) :
    ForS s r z d g w b (l1.set q x) (l2.set q y) (.slice (some ⟨gD, 0, none⟩) n cD) (.slice (some ⟨gU, 0, none⟩) n cU) ((wr.setCell ⟨gD, q, none⟩ (.int .i64 x)).setCell ⟨gU, q, none⟩ (.int .i64 y)) := by
  have hD : b + 1 ≤ gD := (World.ownsRow.lt h.rowD gD rfl).1
  have hU : b + 1 ≤ gU := (World.ownsRow.lt h.rowU gU rfl).1
  have hle := h.le
  have hne : gD ≠ gU := by
    rcases h.ne with h3 | h3
    · cases h3
    · exact fun e => h3 (by rw [e]; rfl)
  have rD := h.rowD
  have rU := h.rowU
  rw [h1] at rD
  rw [h2] at rU
  have e1 : ivI (l1.set q x) = (ivI l1).set q (.int .i64 x) := by simp [ivI, List.map_set]
  have e2 : ivI (l2.set q y) = (ivI l2).set q (.int .i64 y) := by simp [ivI, List.map_set]
  refine ⟨?_, ?_, ?_, h.ne, (h.low.setCell (show w.heap.size ≤ gD by omega) _).setCell (show w.heap.size ≤ gU by omega) _, h.le⟩
  · rw [Below.heap_setCell _ _ _ _ (show b ≠ gU by omega), Below.heap_setCell _ _ _ _ (show b ≠ gD by omega)]; exact h.blk
  · rw [e1, List.length_set, h1]
    exact ownsRow_setCell_other (World.ownsRow.stored rD q (.int .i64 x)).1 (show Value.ownBlock (.slice (some ⟨gD, 0, none⟩) n cD) ≠ some gU from fun e => hne (by simpa [Value.ownBlock] using e)) _
  · rw [e2, List.length_set, h2]
    exact (World.ownsRow.stored (ownsRow_setCell_other rU (show Value.ownBlock (.slice (some ⟨gU, 0, none⟩) n cU) ≠ some gD from fun e => hne (by simpa [Value.ownBlock] using e.symm)) _) q (.int .i64 y)).1
end

/-- The rows of kept rates: not asked for, or the rate. -/
def RowsOk (r z : Int) (l1 l2 : List Int) : Prop := l1.length = 1003 ∧ l2.length = 1003 ∧ ∀ q : Nat, q < 1003 → l1[q]? = some (-1) ∨ (l1[q]? = some ((Pm.rateD r z ((q : Int) - 200) : Nat) : Int) ∧ l2[q]? = some ((Pm.rateU r z ((q : Int) - 200) : Nat) : Int))
theorem RowsOk.set {r z : Int} {l1 l2 : List Int} (h : RowsOk r z l1 l2) (q : Nat) : RowsOk r z (l1.set q ((Pm.rateD r z ((q : Int) - 200) : Nat) : Int)) (l2.set q ((Pm.rateU r z ((q : Int) - 200) : Nat) : Int)) := by
  obtain ⟨h1, h2, h3⟩ := h
  refine ⟨by rw [List.length_set]; exact h1, by rw [List.length_set]; exact h2, fun k hk => ?_⟩
  by_cases e : q = k
  · subst e
    exact .inr ⟨by rw [List.getElem?_set_self (by omega)], by rw [List.getElem?_set_self (by omega)]⟩
  · rw [List.getElem?_set_ne e, List.getElem?_set_ne e]; exact h3 k hk
def KnownAt (r z : Int) (l1 l2 : List Int) (q : Nat) : Prop := l1[q]? = some ((Pm.rateD r z ((q : Int) - 200) : Nat) : Int) ∧ l2[q]? = some ((Pm.rateU r z ((q : Int) - 200) : Nat) : Int)
theorem KnownAt.put {r z : Int} {l1 l2 : List Int} {q : Nat} (h1 : q < l1.length) (h2 : q < l2.length) :
    (∀ k, KnownAt r z l1 l2 k → KnownAt r z (l1.set q ((Pm.rateD r z ((q : Int) - 200) : Nat) : Int)) (l2.set q ((Pm.rateU r z ((q : Int) - 200) : Nat) : Int)) k) ∧
    (l1.set q ((Pm.rateD r z ((q : Int) - 200) : Nat) : Int))[q]? = some ((Pm.rateD r z ((q : Int) - 200) : Nat) : Int) ∧ (l2.set q ((Pm.rateU r z ((q : Int) - 200) : Nat) : Int))[q]? = some ((Pm.rateU r z ((q : Int) - 200) : Nat) : Int) := by
  refine ⟨fun k hk => ?_, List.getElem?_set_self h1, List.getElem?_set_self h2⟩
  by_cases e : q = k
  · subst e
    exact ⟨List.getElem?_set_self h1, List.getElem?_set_self h2⟩
  · unfold KnownAt
    rw [List.getElem?_set_ne e, List.getElem?_set_ne e]; exact hk
theorem rowsOk_start (r z : Int) : RowsOk r z (negs 1003) (negs 1003) := ⟨negs_len _, negs_len _, fun q hq => .inl (by unfold negs; rw [List.getElem?_replicate, if_pos hq])⟩

/-- The kept rates of a killer, at block b, rows at gD and gU. -/
def KeptS (s : ByteArray) (r z d g : Int) (w : World) (b gD gU : Nat) (wr : World) : Prop := ∃ l1 l2 cD cU, ForS s r z d g w b l1 l2 (.slice (some ⟨gD, 0, none⟩) 1003 cD) (.slice (some ⟨gU, 0, none⟩) 1003 cU) wr ∧ RowsOk r z l1 l2

/-- What a cell holds, whatever it is. -/
def cellV (w : World) (g q : Nat) : Value := (w.cell? ⟨g, q, none⟩).getD (.int .i64 0)
theorem cellV_of {w : World} {g q : Nat} {u : Value} (h : w.cell? ⟨g, q, none⟩ = some u) : w.cell? ⟨g, q, none⟩ = some (cellV w g q) := by unfold cellV; rw [h]; rfl
theorem cellV_set {w : World} {g q h k : Nat} {u : Value} (e : w.cell? ⟨g, q, none⟩ = some (cellV w g q)) : (w.setCell ⟨h, k, none⟩ u).cell? ⟨g, q, none⟩ = some (cellV (w.setCell ⟨h, k, none⟩ u) g q) := by
  by_cases he : (⟨h, k, none⟩ : Addr) = ⟨g, q, none⟩
  · exact cellV_of (u := u) (by rw [he]; exact World.cell?_setCell_same' _ _ _ (by rw [e]; rfl))
  · exact cellV_of (u := cellV w g q) (by rw [World.cell?_setCell_other _ _ _ _ he]; exact e)
/-- What a region of ask holds. -/
def AskS (s : ByteArray) (r z d g : Int) (b gD gU cD cU q : Nat) (w' : World) : Prop :=
  w'.cell? ⟨b, 0, none⟩ = some (.string s) ∧ w'.cell? ⟨b, 1, none⟩ = some (.int .i64 r) ∧ w'.cell? ⟨b, 2, none⟩ = some (.int .i64 z) ∧ w'.cell? ⟨b, 3, none⟩ = some (.int .i64 d) ∧ w'.cell? ⟨b, 4, none⟩ = some (.int .i64 g) ∧ w'.cell? ⟨b, 5, none⟩ = some (.slice (some ⟨gD, 0, none⟩) 1003 cD) ∧ w'.cell? ⟨b, 6, none⟩ = some (.slice (some ⟨gU, 0, none⟩) 1003 cU) ∧
  w'.cell? ⟨gD, q, none⟩ = some (cellV w' gD q) ∧ w'.frozen? ⟨gD, q, none⟩ = false ∧ w'.cell? ⟨gU, q, none⟩ = some (cellV w' gU q) ∧ w'.frozen? ⟨gU, q, none⟩ = false
theorem AskS.store {s : ByteArray} {r z d g : Int} {b gD gU cD cU q h k : Nat} {w' : World} {u : Value} (e : AskS s r z d g b gD gU cD cU q w') (hb : h ≠ b) : AskS s r z d g b gD gU cD cU q (w'.setCell ⟨h, k, none⟩ u) := by
  obtain ⟨h0, h1, h2, h3, h4, h5, h6, h7, h8, h9, h10⟩ := e
  have ho : ∀ i v, w'.cell? ⟨b, i, none⟩ = some v → (w'.setCell ⟨h, k, none⟩ u).cell? ⟨b, i, none⟩ = some v := fun i v e => by
    rw [World.cell?_setCell_other _ _ _ _ (fun e => hb (by cases e; rfl))]; exact e
  exact ⟨ho _ _ h0, ho _ _ h1, ho _ _ h2, ho _ _ h3, ho _ _ h4, ho _ _ h5, ho _ _ h6, cellV_set h7, (World.frozen?_setCell _ _ _ _).trans h8, cellV_set h9, (World.frozen?_setCell _ _ _ _).trans h10⟩
theorem ForS.askS {s : ByteArray} {r z d g : Int} {w wr : World} {b gD gU cD cU q : Nat} {l1 l2 : List Int} (h : ForS s r z d g w b l1 l2 (.slice (some ⟨gD, 0, none⟩) 1003 cD) (.slice (some ⟨gU, 0, none⟩) 1003 cU) wr) (h1 : l1.length = 1003) (h2 : l2.length = 1003) (hq : q < 1003) : AskS s r z d g b gD gU cD cU q wr := by
  obtain ⟨c0, c1, c2, c3, c4, c5, c6⟩ := h.cells7
  obtain ⟨⟨_, dD⟩, fD, ⟨_, dU⟩, fU, _, _⟩ := h.at h1 h2 hq
  exact ⟨c0, c1, c2, c3, c4, c5, c6, cellV_of dD, fD, cellV_of dU, fU⟩

/-- All blocks but two stay. -/
structure Still (gD gU : Nat) (w w' : World) : Prop where
  size : w.heap.size ≤ w'.heap.size
  block : ∀ j, j < w.heap.size → j ≠ gD → j ≠ gU → w'.heap[j]? = w.heap[j]?
theorem Still.refl (gD gU : Nat) (w : World) : Still gD gU w w := ⟨Nat.le_refl _, fun _ _ _ _ => rfl⟩
theorem Still.trans {gD gU : Nat} {a b c : World} (h : Still gD gU a b) (h' : Still gD gU b c) : Still gD gU a c :=
  ⟨Nat.le_trans h.size h'.size, fun j hj h1 h2 => (h'.block j (Nat.lt_of_lt_of_le hj h.size) h1 h2).trans (h.block j hj h1 h2)⟩
theorem Still.below {gD gU : Nat} {a b : World} (h : Below a.heap.size a b) : Still gD gU a b := ⟨h.size, fun j hj _ _ => h.block j hj⟩
theorem Still.setD {gD gU q : Nat} {a b : World} {u : Value} (h : Still gD gU a b) : Still gD gU a (b.setCell ⟨gD, q, none⟩ u) :=
  ⟨by rw [size_set]; exact h.size, fun j hj h1 h2 => (Below.heap_setCell b ⟨gD, q, none⟩ u j h1).trans (h.block j hj h1 h2)⟩
theorem Still.setU {gD gU q : Nat} {a b : World} {u : Value} (h : Still gD gU a b) : Still gD gU a (b.setCell ⟨gU, q, none⟩ u) :=
  ⟨by rw [size_set]; exact h.size, fun j hj h1 h2 => (Below.heap_setCell b ⟨gU, q, none⟩ u j h2).trans (h.block j hj h1 h2)⟩
/-- What ask hands back. -/
def AskP (s : ByteArray) (r : Int) (Z : Nat) (d g : Int) (w : World) (b gD gU cD cU : Nat) (l1 l2 : List Int) (q : Nat) (wr : World) (e : Ending) (w' : World) : Prop :=
  (∃ v, e = .returned v) ∧ Still gD gU wr w' ∧ ∃ m1 m2, ForS s r Z d g w b m1 m2 (.slice (some ⟨gD, 0, none⟩) 1003 cD) (.slice (some ⟨gU, 0, none⟩) 1003 cU) w' ∧ RowsOk r Z m1 m2 ∧ KnownAt r Z m1 m2 q ∧ ∀ k, KnownAt r Z l1 l2 k → KnownAt r Z m1 m2 k

set_option maxRecDepth 20000 in
set_option maxHeartbeats 4000000 in
theorem ask_new (s : ByteArray) (r d g : Int) (Z : Nat) (w : World) (b q gD gU cD cU : Nat) (l1 l2 : List Int) (wr : World) (r1 : -200 ≤ r) (r2 : r ≤ 800) (z1 : 1 ≤ Z) (z2 : Z ≤ 60)
    (hF : ForS s r Z d g w b l1 l2 (.slice (some ⟨gD, 0, none⟩) 1003 cD) (.slice (some ⟨gU, 0, none⟩) 1003 cU) wr) (hq : q < 1003) (hR : RowsOk r Z l1 l2) (hx : l1[q]? = some (-1)) :
    Calls Tryz.prog 172 #[.pointer (some ⟨b, 0, none⟩), .int .i64 q] wr (AskP s r Z d g w b gD gU cD cU l1 l2 q wr) := by
  have HF := hid hF
  have HR := hid hR
  have hD : b + 1 ≤ gD := (World.ownsRow.lt hF.rowD gD rfl).1
  have hU : b + 1 ≤ gU := (World.ownsRow.lt hF.rowU gU rfl).1
  have hne : gD ≠ gU := by
    rcases hF.ne with h3 | h3
    · cases h3
    · exact fun e => h3 (by rw [e]; rfl)
  have c5 := hF.cells7.2.2.2.2.2.1
  have cq : wr.cell? ⟨gD, q, none⟩ = some (.int .i64 (-1)) := by
    have h := hF.rowD
    rw [hR.1] at h
    rw [World.ownsRow.cellAt h q (by omega)]
    unfold ivI
    rw [List.getElem?_map, hx]; rfl
  have hqi : (q : Int) < 1003 := by omega
  have EW : Hid (IntKind.i64.wrap ((q : Int) - 200) = (q : Int) - 200) := by unfold Hid; exact wrap_i64 (by omega) (by omega)
  obtain ⟨x, hx'⟩ : ∃ x, x = Pm.rateD r Z ((q : Int) - 200) := ⟨_, rfl⟩
  obtain ⟨y, hy'⟩ : ∃ y, y = Pm.rateU r Z ((q : Int) - 200) := ⟨_, rfl⟩
  have HX := hid hx'; have HY := hid hy'
  clear hx' hy'
  clear hF hR hx
  go_enter Tryz.func172, Tryz.ntmps172
  go_wp2_with fail
  have HF0 := hid (HF.out.below (Below.refl _ _).drew)
  clear c5 cq
  have HA0 := hid (HF0.out.askS HR.out.1 HR.out.2.1 hq)
  have HAS : ∀ (w' : World) (h k : Nat) (u : Value), Hid (h ≠ b) → AskS s r Z d g b gD gU cD cU q w' → AskS s r Z d g b gD gU cD cU q (w'.setCell ⟨h, k, none⟩ u) := fun w' h k u hb e => e.store hb
  have HK := hid HAS; clear HAS
  have HbD : Hid (gD ≠ b) := by unfold Hid; omega
  have HbU : Hid (gU ≠ b) := by unfold Hid; omega
  go_region_held3 (fun w' => w'.cell? ⟨b, 0, none⟩ = some (.string s) ∧ w'.cell? ⟨b, 1, none⟩ = some (.int .i64 r) ∧ w'.cell? ⟨b, 2, none⟩ = some (.int .i64 Z) ∧ w'.cell? ⟨b, 3, none⟩ = some (.int .i64 d) ∧ w'.cell? ⟨b, 4, none⟩ = some (.int .i64 g) ∧ w'.cell? ⟨b, 5, none⟩ = some (.slice (some ⟨gD, 0, none⟩) 1003 cD) ∧ w'.cell? ⟨b, 6, none⟩ = some (.slice (some ⟨gU, 0, none⟩) 1003 cU) ∧
      w'.cell? ⟨gD, q, none⟩ = some (cellV w' gD q) ∧ w'.frozen? ⟨gD, q, none⟩ = false ∧ w'.cell? ⟨gU, q, none⟩ = some (cellV w' gU q) ∧ w'.frozen? ⟨gU, q, none⟩ = false)
    (first | exact HA0.out | exact (HF0.out.below hb2).askS HR.out.1 HR.out.2.1 hq | exact HK.out _ gD q _ HbD (by assumption) | exact HK.out _ gU q _ HbU (by assumption))
    (first | (go_at_call 181; rw [EW.out]; refine (rrates_any _ _ _ _ ((q : Int) - 200) Z _ r1 r2 z1 z2 (by omega) (by omega)).mono ?_; rintro e w2 ⟨rfl, hb2⟩; rw [← HX.out, ← HY.out]))
  have HF2 := hid (HF0.out.below hb2)
  have HST := hid (((Still.below (gD := gD) (gU := gU) ((Below.refl _ _).drew.trans (hb2.mono (Nat.le_refl _)))).setD (q := q) (u := .int .i64 (x : Int))).setU (q := q) (u := .int .i64 (y : Int)))
  have HFS := hid (HF2.out.set (q := q) HR.out.1 HR.out.2.1 x y)
  have HRS := HR.out.set q
  have HKN := KnownAt.put (r := r) (z := Z) (l1 := l1) (l2 := l2) (q := q) (by have := HR.out.1; omega) (by have := HR.out.2.1; omega)
  rw [← HX.out, ← HY.out] at HRS HKN
  have HKN' := hid HKN; have HRS' := hid HRS
  clear hb2 HKN HRS
  rename_i hq9
  clear hq9
  go_wp2
  go_end0
  exact ⟨⟨_, rfl⟩, HST.out, _, _, HFS.out, HRS'.out, by unfold KnownAt; rw [← HX.out, ← HY.out]; exact HKN'.out.2, HKN'.out.1⟩
set_option maxHeartbeats 1000000 in
theorem ask_old (s : ByteArray) (r d g : Int) (Z : Nat) (w : World) (b q gD gU cD cU : Nat) (l1 l2 : List Int) (wr : World)
    (hF : ForS s r Z d g w b l1 l2 (.slice (some ⟨gD, 0, none⟩) 1003 cD) (.slice (some ⟨gU, 0, none⟩) 1003 cU) wr) (hq : q < 1003) (hR : RowsOk r Z l1 l2) (hx : KnownAt r Z l1 l2 q) :
    Calls Tryz.prog 172 #[.pointer (some ⟨b, 0, none⟩), .int .i64 q] wr (AskP s r Z d g w b gD gU cD cU l1 l2 q wr) := by
  have HP := hid (show AskP s r Z d g w b gD gU cD cU l1 l2 q wr (.returned (.tuple #[])) wr from ⟨⟨_, rfl⟩, Still.refl _ _ _, l1, l2, hF, hR, hx, fun _ h => h⟩)
  have c5 := hF.cells7.2.2.2.2.2.1
  have cq : wr.cell? ⟨gD, q, none⟩ = some (.int .i64 ((Pm.rateD r Z ((q : Int) - 200) : Nat) : Int)) := by
    have h := hF.rowD
    rw [hR.1] at h
    rw [World.ownsRow.cellAt h q (by omega)]
    unfold ivI
    rw [List.getElem?_map, hx.1]; rfl
  have hqi : (q : Int) < 1003 := by omega
  clear hF hR hx
  generalize Pm.rateD r Z ((q : Int) - 200) = x at cq
  have hd : decide ((x : Int) < 0) = false := by simp
  go_enter Tryz.func172, Tryz.ntmps172
  go_wp2_with fail
  go_end0
  exact HP.out
theorem ask_any (s : ByteArray) (r d g : Int) (Z : Nat) (w : World) (b q gD gU cD cU : Nat) (l1 l2 : List Int) (wr : World) (r1 : -200 ≤ r) (r2 : r ≤ 800) (z1 : 1 ≤ Z) (z2 : Z ≤ 60)
    (hF : ForS s r Z d g w b l1 l2 (.slice (some ⟨gD, 0, none⟩) 1003 cD) (.slice (some ⟨gU, 0, none⟩) 1003 cU) wr) (hq : q < 1003) (hR : RowsOk r Z l1 l2) :
    Calls Tryz.prog 172 #[.pointer (some ⟨b, 0, none⟩), .int .i64 q] wr (AskP s r Z d g w b gD gU cD cU l1 l2 q wr) := by
  rcases hR.2.2 q hq with h | h
  · exact ask_new s r d g Z w b q gD gU cD cU l1 l2 wr r1 r2 z1 z2 hF hq hR h
  · exact ask_old s r d g Z w b q gD gU cD cU l1 l2 wr hF hq hR h
end Go.Proofs.YtihbjimnjhfpeaaGreat.Lt
