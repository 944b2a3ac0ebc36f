/- Texts of this seat, one behind the other. -/
import Derived.Test.YtedfajokiblfhaaGreatA5
import Derived.ProofKit
import Derived.OpenShut
import Derived.ChangeOld
import Derived.Lib.SmallJoins
import Derived.Deep.Fields
/- Walks of Step and of the law's awake: contracts. -/
namespace Go.Proofs.YtedfajokiblfhaaGreat
open Go.RowKit Go.Shelf

theorem one_at {W : World} {n : Nat} (t : Int) (T : TypeId) (h : W.heap.size = n) : RowI (W.alloc (.cells #[.int .i64 t] T)) (.slice (some ⟨n, 0, none⟩) 1 1) [t] := by
  subst h
  refine .inr ⟨W.heap.size, 0, 1, rfl, by simp [maxLen], fun k hk => ?_⟩
  obtain rfl : k = 0 := by simp at hk; omega
  exact cell_alloc_new W _ T (0, 0) 0
theorem res_set {w W7 : World} {A B : Array Value} {u v : Value} (h7 : R3 w W7 A B #[.slice none 0 0, .bool false]) :
    ((W7.setCell ⟨w.heap.size + 1 + 1, 0, none⟩ u).setCell ⟨w.heap.size + 1 + 1, 1, none⟩ v).cell? ⟨w.heap.size + 1 + 1, 0, none⟩ = some u ∧
    ((W7.setCell ⟨w.heap.size + 1 + 1, 0, none⟩ u).setCell ⟨w.heap.size + 1 + 1, 1, none⟩ v).cell? ⟨w.heap.size + 1 + 1, 1, none⟩ = some v ∧
    (∀ g, g ≠ w.heap.size + 1 + 1 → ((W7.setCell ⟨w.heap.size + 1 + 1, 0, none⟩ u).setCell ⟨w.heap.size + 1 + 1, 1, none⟩ v).heap[g]? = W7.heap[g]?) ∧
    Below w.heap.size w ((W7.setCell ⟨w.heap.size + 1 + 1, 0, none⟩ u).setCell ⟨w.heap.size + 1 + 1, 1, none⟩ v) := by
  have h1 := heap_setCell_same W7 (w.heap.size + 1 + 1) 0 _ _ u h7.res
  have h2 := heap_setCell_same _ (w.heap.size + 1 + 1) 1 _ _ v h1
  refine ⟨cell_of_row _ _ 0 _ _ _ h2, cell_of_row _ _ 1 _ _ _ h2, fun g hg => ?_, ?_⟩
  · rw [heap_setCell_other _ _ _ _ (by exact hg), heap_setCell_other _ _ _ _ (by exact hg)]
  · exact (h7.low.setCell (p := ⟨w.heap.size + 1 + 1, 0, none⟩) (by show w.heap.size ≤ w.heap.size + 1 + 1; omega) u).setCell (p := ⟨w.heap.size + 1 + 1, 1, none⟩) (by show w.heap.size ≤ w.heap.size + 1 + 1; omega) v

set_option maxRecDepth 20000 in
set_option maxHeartbeats 800000 in
theorem step_err (r l a b k a2 b2 : Int) (w : World) (v : Value) (T : List Int) (br : Bool) (bath : Int) (hl : RowI w v T) (hne : chkE (bothB r l a b k a2 b2 T br) [bath] ≠ 0) :
    Calls Tryz.prog 115 #[.agg #[.int .i64 r, .int .i64 l, .int .i64 a, .int .i64 b, .int .i64 k, .int .i64 a2, .int .i64 b2], .agg #[v, .bool br], .int .i64 bath] w fun e w' => e = .returned (.tuple #[.agg #[.slice none 0 0, .bool false], .int .i64 (chkE (bothB r l a b k a2 b2 T br) [bath])]) ∧ Below w.heap.size w w' := by
  have HNE := hid hne
  clear hne
  have HL := hid (fun w1 (g : Below w.heap.size w w1) => hl.keep g)
  obtain ⟨a0, cap, rfl⟩ := hl.shape
  clear hl
  have HS := hid (r3_start (w := w) (A := #[.int .i64 r, .int .i64 l, .int .i64 a, .int .i64 b, .int .i64 k, .int .i64 a2, .int .i64 b2]) (B := #[.slice a0 T.length cap, .bool br]) (R := #[.slice none 0 0, .bool false]))
  go_enter Tryz.func115, Tryz.ntmps115
  go_wp2_with (go_at_call 140; refine (run_err _ _ _ _ _ _ _ _ _ T _ _ [bath] (HL.out _ (HS.out.low.alloc HS.out.low.size _)) (one_at _ _ (by simp)) HNE.out).mono ?_; rintro e w1 ⟨rfl, hb⟩; have H1 := hid (HS.out.keep (balloc hb)); clear hb; have k0 := H1.out.cell.2.2.1 0; have k1 := H1.out.cell.2.2.1 1; have k2 := H1.out.cell.2.2.2 0; have k3 := H1.out.cell.2.2.2 1; simp only [List.getElem?_toArray, List.getElem?_cons_zero, List.getElem?_cons_succ] at k0 k1)
  obtain ⟨c6, c7, _, c9⟩ := res_set (u := .slice none 0 0) (v := .bool false) H1.out
  exact bodyPost_ret (v := .tuple #[.agg #[.slice none 0 0, .bool false], .int .i64 _]) (by simp [results, Tryz.results115, go_sem, c6, c7]) rfl ⟨rfl, c9⟩
set_option maxRecDepth 20000 in
set_option maxHeartbeats 800000 in
theorem step_ok (c : Cn) (x : Bd) (v : Value) (bath : Int) (w : World) (hv : c.V) (hb : bodyV c x.1 x.2 = true) (ho : okL [bath] = true) (hl : RowI w v x.1) :
    Calls Tryz.prog 115 #[.agg #[.int .i64 (c.R : Int), .int .i64 (c.L : Int), .int .i64 c.A, .int .i64 c.B, .int .i64 c.K, .int .i64 c.A2, .int .i64 c.B2], .agg #[v, .bool x.2], .int .i64 bath] w (RunP c x [bath] w) := by
  have HV := hid hv; have HBV := hid hb; have HO := hid ho
  have HL := hid (fun w1 (g : Below w.heap.size w w1) => hl.keep g)
  obtain ⟨a0, cap, rfl⟩ := hl.shape
  clear hl hv hb ho
  have HS := hid (r3_start (w := w) (A := #[.int .i64 (c.R : Int), .int .i64 (c.L : Int), .int .i64 c.A, .int .i64 c.B, .int .i64 c.K, .int .i64 c.A2, .int .i64 c.B2]) (B := #[.slice a0 x.1.length cap, .bool x.2]) (R := #[.slice none 0 0, .bool false]))
  go_enter Tryz.func115, Tryz.ntmps115
  go_wp2_with (go_at_call 140; refine (run_ok c x _ _ [bath] _ HV.out HBV.out HO.out (by simp) (HL.out _ (HS.out.low.alloc HS.out.low.size _)) (one_at _ _ (by simp))).mono ?_; rintro e w1 ⟨v1, rfl, ⟨g, rfl, hg1, hg2⟩, hb⟩; have H1 := hid (HS.out.keep (balloc hb)); have HG1 := hid hg1; have HG2 := hid hg2; clear hb hg1 hg2; have k0 := H1.out.cell.2.2.1 0; have k1 := H1.out.cell.2.2.1 1; have k2 := H1.out.cell.2.2.2 0; have k3 := H1.out.cell.2.2.2 1; simp only [List.getElem?_toArray, List.getElem?_cons_zero, List.getElem?_cons_succ] at k0 k1)
  obtain ⟨c6, c7, c8, c9⟩ := res_set (u := .slice (some ⟨g, 0, none⟩) (runS c x [bath]).1.length (runS c x [bath]).1.length) (v := .bool (runS c x [bath]).2) H1.out
  have hg1 := HG1.out
  simp only [World.size_alloc] at hg1
  refine bodyPost_ret (v := .tuple #[.agg #[.slice (some ⟨g, 0, none⟩) (runS c x [bath]).1.length (runS c x [bath]).1.length, .bool (runS c x [bath]).2], .int .i64 0]) (by simp [results, Tryz.results115, go_sem, c6, c7]) rfl ⟨_, rfl, ⟨g, rfl, by omega, ?_⟩, c9⟩
  rw [c8 g (by omega)]
  exact HG2.out

def c0 : Cn := ⟨1, 1, 100, 50, 0, 0, 0⟩
theorem awake_run : runS c0 ([20000], false) [120000] = ([50000], false) := by decide
end Go.Proofs.YtedfajokiblfhaaGreat

/- What the laws' rows share: arguments opened. -/
namespace Go.Proofs.YtedfajokiblfhaaGreat
open Go.ChangeShapes Go.WideShapes Go.ChangeAt Go.RowKit Go.Joins Go.Deep

theorem own : ownKnob Tryz.prog.godebug = none := by kernel_rfl
theorem laidOut : laidOutB Tryz.prog = true := by kernel_rfl
theorem cellsC : Tryz.prog.cellsOf 23 = 7 := by kernel_rfl
theorem cellsB : Tryz.prog.cellsOf 67 = 2 := by kernel_rfl
theorem cellsI : Tryz.prog.cellsOf 3 = 1 := by kernel_rfl

section
variable {H : Type} {enc : TypeId × Value → H} {P : Program} {w : World} {base : Nat} {spare : Nat → Bool} {held : Bool}
/-- A struct of seven fields by value. -/
theorem open_seven {r : Reach} {b0 : Nat} {t : TypeId} {f0 f1 f2 f3 f4 f5 f6 : Field} {v : Value} {d : DataW H} {p : List MemPlace} (hs : P.underlying t = some (.struct #[f0, f1, f2, f3, f4, f5, f6])) (hone : oneCellFields P #[f0, f1, f2, f3, f4, f5, f6] = true) (hC : P.cellsOf t = 7)
    (hv : Value.okWide P w r b0 t v) (h : DataW.Trod enc P w base spare held t v d p) :
    ∃ (v0 v1 v2 v3 v4 v5 v6 : Value) (y0 y1 y2 y3 y4 y5 y6 : DataW H × List MemPlace) (n : Nat), v = .agg #[v0, v1, v2, v3, v4, v5, v6] ∧
      DataW.trod enc P w base spare held n f0.type [v0] = some y0 ∧ DataW.trod enc P w base spare held n f1.type [v1] = some y1 ∧ DataW.trod enc P w base spare held n f2.type [v2] = some y2 ∧ DataW.trod enc P w base spare held n f3.type [v3] = some y3 ∧ DataW.trod enc P w base spare held n f4.type [v4] = some y4 ∧
      DataW.trod enc P w base spare held n f5.type [v5] = some y5 ∧ DataW.trod enc P w base spare held n f6.type [v6] = some y6 := by
  obtain ⟨cs, rfl, hsz⟩ := okWide_struct hs hv
  obtain ⟨l⟩ := cs
  match l, hsz.trans hC with
  | [c0, c1, c2, c3, c4, c5, c6], _ =>
    obtain ⟨fuel, hf⟩ := h
    obtain ⟨xs, n, _, hx, _, hlen, hg⟩ := DataW.trod_struct hs hf
    obtain ⟨o0, k0⟩ := hone_of hone 0 f0 rfl
    obtain ⟨o1, k1⟩ := hone_of hone 1 f1 rfl
    obtain ⟨o2, k2⟩ := hone_of hone 2 f2 rfl
    obtain ⟨o3, k3⟩ := hone_of hone 3 f3 rfl
    obtain ⟨o4, k4⟩ := hone_of hone 4 f4 rfl
    obtain ⟨o5, k5⟩ := hone_of hone 5 f5 rfl
    obtain ⟨o6, k6⟩ := hone_of hone 6 f6 rfl
    match xs, hlen with
    | [y0, y1, y2, y3, y4, y5, y6], _ =>
      exact ⟨c0, c1, c2, c3, c4, c5, c6, y0, y1, y2, y3, y4, y5, y6, n, rfl, by simpa [Value.cells, o0, k0] using hg 0 f0 rfl, by simpa [Value.cells, o1, k1] using hg 1 f1 rfl, by simpa [Value.cells, o2, k2] using hg 2 f2 rfl, by simpa [Value.cells, o3, k3] using hg 3 f3 rfl, by simpa [Value.cells, o4, k4] using hg 4 f4 rfl, by simpa [Value.cells, o5, k5] using hg 5 f5 rfl, by simpa [Value.cells, o6, k6] using hg 6 f6 rfl⟩
set_option maxRecDepth 100000 in
theorem open_can {r : Reach} {b0 : Nat} {v : Value} {d : DataW H} {p : List MemPlace} (hv : Value.okWide Tryz.prog w r b0 23 v) (h : DataW.Trod enc Tryz.prog w base spare held 23 v d p) :
    ∃ r l a b k a2 b2 : Int, v = .agg #[.int .i64 r, .int .i64 l, .int .i64 a, .int .i64 b, .int .i64 k, .int .i64 a2, .int .i64 b2] := by
  obtain ⟨v0, v1, v2, v3, v4, v5, v6, y0, y1, y2, y3, y4, y5, y6, n, rfl, h0, h1, h2, h3, h4, h5, h6⟩ := open_seven Tryz.underlying23 (by kernel_rfl) cellsC hv h
  obtain ⟨n0, e0, _⟩ := DataW.trod_int Tryz.underlying3 h0
  obtain ⟨n1, e1, _⟩ := DataW.trod_int Tryz.underlying3 h1
  obtain ⟨n2, e2, _⟩ := DataW.trod_int Tryz.underlying3 h2
  obtain ⟨n3, e3, _⟩ := DataW.trod_int Tryz.underlying3 h3
  obtain ⟨n4, e4, _⟩ := DataW.trod_int Tryz.underlying3 h4
  obtain ⟨n5, e5, _⟩ := DataW.trod_int Tryz.underlying3 h5
  obtain ⟨n6, e6, _⟩ := DataW.trod_int Tryz.underlying3 h6
  simp at e0 e1 e2 e3 e4 e5 e6
  subst e0 e1 e2 e3 e4 e5 e6
  exact ⟨n0, n1, n2, n3, n4, n5, n6, rfl⟩
theorem rowI_of_ints {v : Value} {n : Nat} {y : DataW H × List MemPlace} (h : DataW.trod enc Tryz.prog w base spare held n 28 [v] = some y) : ∃ l : List Int, RowI w v l := by
  rcases open_ints Tryz.underlying28 Tryz.underlying3 cellsI h with ⟨hcs, hx⟩ | ⟨a, len', cap', zs, hcs, _, hl, hm, hz, hx, hcell, hwz⟩
  · simp at hcs
    subst hcs
    exact ⟨[], .inl ⟨_, _, rfl, rfl⟩⟩
  · simp at hcs
    subst hcs
    have hz' : len' ≤ zs.length := by rw [hz]; split <;> omega
    clear hz
    by_cases hp : 0 < zs.length
    · obtain ⟨b, off, rfl, hc⟩ := ints_at hcell hp
      have ht : (zs.take len').length = len' := by rw [List.length_take]; omega
      refine ⟨zs.take len', .inr ⟨b, off, cap', by rw [ht], by rw [ht]; omega, fun k hk => ?_⟩⟩
      rw [ht] at hk
      rw [hc k (by omega), List.getElem_take]
      simp [List.getD, show k < zs.length by omega]
    · obtain rfl : len' = 0 := by omega
      exact ⟨[], .inl ⟨_, _, rfl, rfl⟩⟩
set_option maxRecDepth 100000 in
theorem open_body {r : Reach} {b0 : Nat} {v : Value} {d : DataW H} {p : List MemPlace} (hv : Value.okWide Tryz.prog w r b0 67 v) (h : DataW.Trod enc Tryz.prog w base spare held 67 v d p) :
    ∃ (u : Value) (l : List Int) (br : Bool), v = .agg #[u, .bool br] ∧ RowI w u l := by
  obtain ⟨c0, c1, y0, y1, m, rfl, _, _, hy0, hy1⟩ := open_agg2 Tryz.underlying67 (by kernel_rfl) cellsB hv h
  obtain ⟨l, hl⟩ := rowI_of_ints hy0
  obtain ⟨br, e1, _⟩ := DataW.trod_bool Tryz.underlying4 hy1
  simp at e1
  subst e1
  exact ⟨c0, l, br, rfl, hl⟩
/-- A struct Two by value: its thirteen cells. -/
def TwoV (r l a b k a2 b2 : Int) (u : Value) (br : Bool) (u2 : Value) (br2 : Bool) (v v2 : Value) : Value := .agg #[.int .i64 r, .int .i64 l, .int .i64 a, .int .i64 b, .int .i64 k, .int .i64 a2, .int .i64 b2, u, .bool br, u2, .bool br2, v, v2]
set_option maxRecDepth 100000 in
theorem trod_can {n : Nat} {c0 c1 c2 c3 c4 c5 c6 : Value} {y : DataW H × List MemPlace} (h : DataW.trod enc Tryz.prog w base spare held n 23 [c0, c1, c2, c3, c4, c5, c6] = some y) :
    ∃ r l a b k a2 b2 : Int, c0 = .int .i64 r ∧ c1 = .int .i64 l ∧ c2 = .int .i64 a ∧ c3 = .int .i64 b ∧ c4 = .int .i64 k ∧ c5 = .int .i64 a2 ∧ c6 = .int .i64 b2 := by
  obtain ⟨xs, m, _, hx, _, hlen, hg⟩ := DataW.trod_struct Tryz.underlying23 h
  match xs, hlen with
  | [y0, y1, y2, y3, y4, y5, y6], _ =>
    have g0 := hg 0 _ rfl; have g1 := hg 1 _ rfl; have g2 := hg 2 _ rfl; have g3 := hg 3 _ rfl; have g4 := hg 4 _ rfl; have g5 := hg 5 _ rfl; have g6 := hg 6 _ rfl
    simp [cellsI] at g0 g1 g2 g3 g4 g5 g6
    obtain ⟨n0, e0, _⟩ := DataW.trod_int Tryz.underlying3 g0
    obtain ⟨n1, e1, _⟩ := DataW.trod_int Tryz.underlying3 g1
    obtain ⟨n2, e2, _⟩ := DataW.trod_int Tryz.underlying3 g2
    obtain ⟨n3, e3, _⟩ := DataW.trod_int Tryz.underlying3 g3
    obtain ⟨n4, e4, _⟩ := DataW.trod_int Tryz.underlying3 g4
    obtain ⟨n5, e5, _⟩ := DataW.trod_int Tryz.underlying3 g5
    obtain ⟨n6, e6, _⟩ := DataW.trod_int Tryz.underlying3 g6
    simp at e0 e1 e2 e3 e4 e5 e6
    exact ⟨n0, n1, n2, n3, n4, n5, n6, e0, e1, e2, e3, e4, e5, e6⟩
theorem cellsS : Tryz.prog.cellsOf 28 = 1 := by kernel_rfl
theorem cellsBo : Tryz.prog.cellsOf 4 = 1 := by kernel_rfl
set_option maxRecDepth 100000 in
theorem trod_body {n : Nat} {c0 c1 : Value} {y : DataW H × List MemPlace} (h : DataW.trod enc Tryz.prog w base spare held n 67 [c0, c1] = some y) : ∃ (l : List Int) (br : Bool), c1 = .bool br ∧ RowI w c0 l := by
  obtain ⟨xs, m, _, hx, _, hlen, hg⟩ := DataW.trod_struct Tryz.underlying67 h
  match xs, hlen with
  | [y0, y1], _ =>
    have g0 := hg 0 _ rfl; have g1 := hg 1 _ rfl
    simp [cellsS, cellsBo] at g0 g1
    obtain ⟨l, hl⟩ := rowI_of_ints g0
    obtain ⟨br, e1, _⟩ := DataW.trod_bool Tryz.underlying4 g1
    simp at e1
    exact ⟨l, br, e1, hl⟩
end
end Go.Proofs.YtedfajokiblfhaaGreat

/- Walk of HeatBetween. -/
namespace Go.Proofs.YtedfajokiblfhaaGreat
open Go.RowKit


/-- The least and the greatest of a bath and the first k temperatures, or beyond them. -/
structure InR (lo hi bath : Int) (T : List Int) (k : Nat) : Prop where
  b1 : lo ≤ bath
  b2 : bath ≤ hi
  all : ∀ j (h : j < T.length), j < k → lo ≤ T[j] ∧ T[j] ≤ hi
  r1 : -50000 ≤ lo
  r2 : hi ≤ 200000
theorem InR.next {lo hi bath : Int} {T : List Int} {k : Nat} (h : InR lo hi bath T k) (hk : k < T.length) {lo' hi' : Int} (h1 : lo' ≤ lo) (h2 : hi ≤ hi') (h3 : lo' ≤ T[k]) (h4 : T[k] ≤ hi') (h5 : -50000 ≤ lo') (h6 : hi' ≤ 200000) : InR lo' hi' bath T (k + 1) :=
  ⟨by have := h.b1; omega, by have := h.b2; omega, fun j hj hjk => by
    rcases Nat.lt_or_ge j k with g | g
    · have := h.all j hj g; omega
    · obtain rfl : j = k := by omega
      exact ⟨h3, h4⟩, h5, h6⟩

theorem laid2 {w2 W3 : World} {d0 d1 : Value} {T : TypeId} (h : w2.alloc (.cells #[d0, d1] T) = W3) : Below w2.heap.size w2 W3 ∧ W3.cell? ⟨w2.heap.size, 0, none⟩ = some d0 ∧ W3.cell? ⟨w2.heap.size, 1, none⟩ = some d1 := by
  subst h
  exact ⟨(Below.refl _ _).alloc (Nat.le_refl _) _, cell_alloc_new w2 _ T (0, 0) 0, cell_alloc_new w2 _ T (0, 0) 1⟩
theorem runS_one (c : Cn) (x : Bd) (b : Int) : runS c x [b] = tickS c x b := rfl
theorem tickS_in {c : Cn} {x : Bd} {b lo hi : Int} (hc : c.Ok) (hx : Warm c x) (h1 : lo ≤ b) (h2 : b ≤ hi) (h : ∀ j (g : j < x.1.length), lo ≤ x.1[j] ∧ x.1[j] ≤ hi) : ∀ j (g : j < (tickS c x b).1.length), lo ≤ (tickS c x b).1[j] ∧ (tickS c x b).1[j] ≤ hi := by
  obtain ⟨a1, a2, a3⟩ := hc.ra x.2
  intro j g
  exact tickT_bd a1 a2 a3 hx.len (fun t ht => by obtain ⟨i, hi, rfl⟩ := List.getElem_of_mem ht; exact h i hi) ⟨h1, h2⟩ _ (List.getElem_mem g)

end Go.Proofs.YtedfajokiblfhaaGreat

/- Walks of SameInts, Same and Below of both: contracts. -/
namespace Go.Proofs.YtedfajokiblfhaaGreat
open Go.RowKit

/-- Whether a is nowhere above b. -/
def belowB : List Int → List Int → Bool
  | [], [] => true
  | a :: l, b :: m => !decide (a > b) && belowB l m
  | _, _ => false
theorem belowB_len : ∀ {l m : List Int}, l.length ≠ m.length → belowB l m = false
  | [], [], h => absurd rfl h
  | [], _ :: _, _ => rfl
  | _ :: _, [], _ => rfl
  | a :: l, b :: m, h => by simp [belowB, belowB_len (l := l) (m := m) (by simpa using h)]
theorem belowB_iff : ∀ {l m : List Int}, l.length = m.length → (belowB l m = true ↔ ∀ j (h : j < l.length) (h' : j < m.length), l[j] ≤ m[j])
  | [], [], _ => by simp [belowB]
  | [], _ :: _, h => by simp at h
  | _ :: _, [], h => by simp at h
  | a :: l, b :: m, h => by
    have hl : l.length = m.length := by simpa using h
    simp only [belowB, Bool.and_eq_true, belowB_iff hl]
    constructor
    · rintro ⟨h0, h1⟩ j hj hj'
      cases j with
      | zero => simpa using h0
      | succ j => simpa using h1 j (by simpa using hj) (by simpa using hj')
    · intro h0
      have h1 : a ≤ b := h0 0 (by simp) (by simp)
      exact ⟨by simpa using h1, fun j hj hj' => h0 (j + 1) (by simpa using hj) (by simpa using hj')⟩
theorem belowB_bad {l m : List Int} {k : Nat} (hk : k < l.length) (hk' : k < m.length) (h : l[k] > m[k]) : belowB l m = false := by
  by_cases hl : l.length = m.length
  · rw [Bool.eq_false_iff]
    intro h0
    have := (belowB_iff hl).1 h0 k hk hk'
    omega
  · exact belowB_len hl
theorem rows_eq {l m : List Int} (hl : l.length = m.length) (h : ∀ j (h : j < l.length) (h' : j < m.length), j < l.length → l[j] = m[j]) : decide (l = m) = true := by
  rw [decide_eq_true_iff]
  exact List.ext_getElem hl fun j h1 h2 => h j h1 h2 h1
theorem rows_ne {l m : List Int} {k : Nat} (hk : k < l.length) (hk' : k < m.length) (h : l[k] ≠ m[k]) : decide (l = m) = false := by
  rw [decide_eq_false_iff_not]
  rintro rfl
  exact h rfl
theorem RowI.most {w : World} {v : Value} {l : List Int} (h : RowI w v l) : l.length ≤ maxLen := by
  rcases h with ⟨_, _, _, rfl⟩ | ⟨_, _, _, _, h, _⟩
  · simp [maxLen]
  · exact h
theorem four_start {w : World} {c0 c1 d0 d1 : Value} {T T' : TypeId} {fz fz' : Nat × Nat} :
    (((w.alloc (.cells #[c0, c1] T fz)).alloc (.cells #[d0, d1] T' fz')).cell? ⟨w.heap.size, 0, none⟩ = some c0 ∧ ((w.alloc (.cells #[c0, c1] T fz)).alloc (.cells #[d0, d1] T' fz')).cell? ⟨w.heap.size, 1, none⟩ = some c1) ∧ (((w.alloc (.cells #[c0, c1] T fz)).alloc (.cells #[d0, d1] T' fz')).cell? ⟨w.heap.size + 1, 0, none⟩ = some d0 ∧ ((w.alloc (.cells #[c0, c1] T fz)).alloc (.cells #[d0, d1] T' fz')).cell? ⟨w.heap.size + 1, 1, none⟩ = some d1) ∧ Below w.heap.size w ((w.alloc (.cells #[c0, c1] T fz)).alloc (.cells #[d0, d1] T' fz')) := by
  have h := box2_start (w := w) (A := #[c0, c1]) (B := #[d0, d1]) (T := T) (T' := T') (fz := fz) (fz' := fz')
  exact ⟨⟨h.fst 0, h.fst 1⟩, ⟨h.snd 0, h.snd 1⟩, h.low⟩

set_option maxHeartbeats 2000000 in
theorem sameI_any (w : World) (v u : Value) (l m : List Int) (hl : RowI w v l) (hm : RowI w u m) :
    Calls Tryz.prog 13 #[v, u] w fun e w' => e = .returned (.bool (decide (l = m))) ∧ ∃ n, w' = w.drewN n := by
  have hM := hl.most
  unfold maxLen at hM
  obtain ⟨a, b, o, cap, rfl, ha, hc, _⟩ := hl.form
  obtain ⟨a', b', o', cap', rfl, ha', hc', _⟩ := hm.form
  have HA := hid ha
  have HA' := hid ha'
  have HC := hid hc
  have HC' := hid hc'
  clear ha ha' hc hc' hl hm
  by_cases hlen : l.length = m.length
  · have h2 : ((l.length : Int) != (m.length : Int)) = false := by simp; omega
    have HL := hid hlen
    clear hlen
    go_enter Tryz.func13, Tryz.ntmps13
    go_wp2
    go_loopw [5] (fun i wr => ∃ k : Nat, k ≤ l.length ∧ i = .int .i64 (k : Int) ∧ Hid (∀ j (h : j < l.length) (h' : j < m.length), j < k → l[j] = m[j]) ∧ ∃ n, wr = w.drewN n) (fun i _ => l.length - (intOf i).toNat)
    case atStart => exact ⟨0, Nat.zero_le _, rfl, fun j _ _ h => absurd h (Nat.not_lt_zero _), 0, rfl⟩
    case round =>
      obtain ⟨k, hk, rfl, hok, n, rfl⟩ := hrel
      by_cases hlt : k < l.length
      · have hlm : k < m.length := by have := HL.out; omega
        have ex := HC.out k hlt
        have ey := HC'.out k hlm
        rcases HA.out with h0 | rfl
        · exact absurd hlt (by rw [h0]; simp)
        rcases HA'.out with h0 | rfl
        · exact absurd hlm (by rw [h0]; simp)
        clear HA HA'
        by_cases he : l[k] = m[k]
        · have hst : Hid (∀ j (h : j < l.length) (h' : j < m.length), j < k + 1 → l[j] = m[j]) := fun j hj hj' h => by
            rcases Nat.lt_or_ge j k with h1 | h1
            · exact hok.out j hj hj' h1
            · obtain rfl : j = k := by omega
              exact he
          rw [← he] at ey
          generalize l[k] = x at ex ey
          clear he
          go_wp2
          go_quiet (fail)
          go_wp2
          go_roundw
          case rel => exact ⟨k + 1, by omega, by go_num, hst, by first | exact ⟨_, rfl⟩ | exact ⟨_, World.drewN_drewN _ _ _⟩⟩
          case measure => simp [intOf]; omega
        · have hE := hid (rows_ne hlt hlm he)
          have hne : (l[k] != m[k]) = true := by simpa using he
          generalize l[k] = x at ex hne
          generalize m[k] = y at ey hne
          clear he
          go_wp2
          go_quiet (fail)
          go_wp2
          go_ret
          exact ⟨ret_bool hE.out.symm, by first | exact ⟨_, rfl⟩ | exact ⟨_, World.drewN_drewN _ _ _⟩⟩
      · obtain rfl : k = l.length := by omega
        have hE := hid (rows_eq HL.out hok.out)
        go_wp2
        go_ret
        exact ⟨ret_bool hE.out.symm, n, rfl⟩
  · have h2 : ((l.length : Int) != (m.length : Int)) = true := by simp; omega
    have hE : Hid (decide (l = m) = false) := by rw [Hid, decide_eq_false_iff_not]; exact fun h => hlen (by rw [h])
    clear hlen
    go_enter Tryz.func13, Tryz.ntmps13
    go_wp2
    go_ret
    exact ⟨ret_bool hE.out.symm, by first | exact ⟨0, rfl⟩ | exact ⟨_, rfl⟩⟩



end Go.Proofs.YtedfajokiblfhaaGreat

/- What HeatHotter's walk stands on: a hotter body stays hotter; Run of anything; a box of a struct Two. -/
namespace Go.Proofs.YtedfajokiblfhaaGreat
open Go.RowKit

def leL (T U : List Int) : Prop := ∀ i (a : i < T.length) (c : i < U.length), T[i] ≤ U[i]
theorem brk_none (T : List Int) : brk 0 false T = false := by simp [brk]
theorem tickS_cold {c : Cn} {T : List Int} {b : Int} (hK : c.K = 0) : tickS c (T, false) b = (tickT c.R c.L (c.a false) (c.b false) T b, false) := by unfold tickS; rw [hK, brk_none]
theorem runS_le {c : Cn} (hc : c.Ok) (hK : c.K = 0) : ∀ (l m : List Int) (T U : List Int), l.length = m.length → leL l m → (∀ b ∈ l, -50000 ≤ b ∧ b ≤ 200000) → (∀ b ∈ m, -50000 ≤ b ∧ b ≤ 200000) → Warm c (T, false) → Warm c (U, false) → leL T U → leL (runS c (T, false) l).1 (runS c (U, false) m).1
  | [], [], T, U, _, _, _, _, _, _, h => h
  | [], _ :: _, _, _, hl, _, _, _, _, _, _ => by simp at hl
  | _ :: _, [], _, _, hl, _, _, _, _, _, _ => by simp at hl
  | b :: l, d :: m, T, U, hl, hle, hb, hd, hT, hU, h => by
    obtain ⟨a1, a2, a3⟩ := hc.ra false
    have hb0 := hb b (List.mem_cons_self)
    have hd0 := hd d (List.mem_cons_self)
    have hT' := hT.tick hc hb0.1 hb0.2
    have hU' := hU.tick hc hd0.1 hd0.2
    have hbd : b ≤ d := hle 0 (by simp) (by simp)
    have hle' : leL l m := fun i a c => hle (i + 1) (by simpa using a) (by simpa using c)
    have hs := tickT_le a1 a2 a3 hT.len hU.len h hbd
    rw [tickS_cold hK] at hT' hU'
    have := runS_le hc hK l m _ _ (by simpa using hl) hle' (fun x hx => hb x (List.mem_cons_of_mem _ hx)) (fun x hx => hd x (List.mem_cons_of_mem _ hx)) hT' hU' hs
    unfold runS at this ⊢
    rw [List.foldl_cons, List.foldl_cons, tickS_cold hK, tickS_cold hK]
    exact this
theorem RowN.rowI {w W : World} {v : Value} {T : List Int} (h : RowN w W v T) (hl : T.length ≤ 48) : RowI W v T := by
  obtain ⟨g, rfl, _, hg⟩ := h
  refine .inr ⟨g, 0, T.length, rfl, by unfold maxLen; omega, fun k hk => ?_⟩
  rw [Nat.zero_add, cell_of_row W g k _ _ _ hg]
  simp [hk]
/-- What Run hands back, whatever came in. -/
def RunAny (w : World) (e : Ending) (w' : World) : Prop := ∃ (v : Value) (br : Bool) (n : Int), e = .returned (.tuple #[.agg #[v, .bool br], .int .i64 n]) ∧ Below w.heap.size w w'
theorem run_any (r l a b k a2 b2 : Int) (w : World) (v : Value) (T : List Int) (br : Bool) (v2 : Value) (l2 : List Int) (hl : RowI w v T) (hl2 : RowI w v2 l2) :
    Calls Tryz.prog 140 #[.agg #[.int .i64 r, .int .i64 l, .int .i64 a, .int .i64 b, .int .i64 k, .int .i64 a2, .int .i64 b2], .agg #[v, .bool br], v2] w (RunAny w) := by
  rcases chkE_cases (bothB r l a b k a2 b2 T br) l2 with hne | ⟨_, hbb, ho, hlen⟩
  · exact (run_err r l a b k a2 b2 w v T br v2 l2 hl hl2 hne).mono fun e w' ⟨h, hb⟩ => ⟨_, _, _, h, hb⟩
  · unfold bothB at hbb
    rw [Bool.and_eq_true] at hbb
    obtain ⟨hcan, hbody⟩ := hbb
    obtain ⟨c, hcv, rfl, rfl, rfl, rfl, rfl, rfl, rfl⟩ := canB_cn hcan
    exact (run_ok c (T, br) v v2 l2 w hcv hbody ho hlen hl hl2).mono fun e w' ⟨u, h, _, hb⟩ => ⟨_, _, _, h, hb⟩
theorem Box1.thirteen {w w1 : World} {c0 c1 c2 c3 c4 c5 c6 c7 c8 c9 c10 c11 c12 : Value} (h : Box1 w w1 #[c0, c1, c2, c3, c4, c5, c6, c7, c8, c9, c10, c11, c12]) :
    w1.cell? ⟨w.heap.size, 0, none⟩ = some c0 ∧ w1.cell? ⟨w.heap.size, 1, none⟩ = some c1 ∧ w1.cell? ⟨w.heap.size, 2, none⟩ = some c2 ∧ w1.cell? ⟨w.heap.size, 3, none⟩ = some c3 ∧ w1.cell? ⟨w.heap.size, 4, none⟩ = some c4 ∧ w1.cell? ⟨w.heap.size, 5, none⟩ = some c5 ∧ w1.cell? ⟨w.heap.size, 6, none⟩ = some c6 ∧ w1.cell? ⟨w.heap.size, 7, none⟩ = some c7 ∧ w1.cell? ⟨w.heap.size, 8, none⟩ = some c8 ∧ w1.cell? ⟨w.heap.size, 9, none⟩ = some c9 ∧ w1.cell? ⟨w.heap.size, 10, none⟩ = some c10 ∧ w1.cell? ⟨w.heap.size, 11, none⟩ = some c11 ∧ w1.cell? ⟨w.heap.size, 12, none⟩ = some c12 :=
  ⟨h.fst 0, h.fst 1, h.fst 2, h.fst 3, h.fst 4, h.fst 5, h.fst 6, h.fst 7, h.fst 8, h.fst 9, h.fst 10, h.fst 11, h.fst 12⟩
end Go.Proofs.YtedfajokiblfhaaGreat

/- Walk of HeatHotter where it says nothing: its five early ways out. -/
namespace Go.Proofs.YtedfajokiblfhaaGreat
open Go.RowKit

/-- Run's error is chkE's, whatever comes back with it. -/
theorem run_code (r l a b k a2 b2 : Int) (w : World) (v : Value) (T : List Int) (br : Bool) (v2 : Value) (l2 : List Int) (hl : RowI w v T) (hl2 : RowI w v2 l2) :
    Calls Tryz.prog 140 #[.agg #[.int .i64 r, .int .i64 l, .int .i64 a, .int .i64 b, .int .i64 k, .int .i64 a2, .int .i64 b2], .agg #[v, .bool br], v2] w fun e w' => ∃ (u : Value) (bu : Bool), e = .returned (.tuple #[.agg #[u, .bool bu], .int .i64 (chkE (bothB r l a b k a2 b2 T br) l2)]) ∧ Below w.heap.size w w' := by
  rcases chkE_cases (bothB r l a b k a2 b2 T br) l2 with hne | ⟨h0, hbb, ho, hlen⟩
  · exact (run_err r l a b k a2 b2 w v T br v2 l2 hl hl2 hne).mono fun e w' ⟨h, hb⟩ => ⟨_, _, h, hb⟩
  · rw [h0]
    unfold bothB at hbb
    rw [Bool.and_eq_true] at hbb
    obtain ⟨hcan, hbody⟩ := hbb
    obtain ⟨c, hcv, rfl, rfl, rfl, rfl, rfl, rfl, rfl⟩ := canB_cn hcan
    exact (run_ok c (T, br) v v2 l2 w hcv hbody ho hlen hl hl2).mono fun e w' ⟨u, h, _, hb⟩ => ⟨_, _, h, hb⟩
end Go.Proofs.YtedfajokiblfhaaGreat

/- Walk of HeatHotter. -/
namespace Go.Proofs.YtedfajokiblfhaaGreat
open Go.RowKit

theorem run_shape (r l a b k a2 b2 : Int) (w : World) (v : Value) (T : List Int) (br : Bool) (v2 : Value) (l2 : List Int) (hl : RowI w v T) (hl2 : RowI w v2 l2) :
    Calls Tryz.prog 140 #[.agg #[.int .i64 r, .int .i64 l, .int .i64 a, .int .i64 b, .int .i64 k, .int .i64 a2, .int .i64 b2], .agg #[v, .bool br], v2] w fun e w' => ∃ (ua : Option Addr) (n cap : Nat) (bu : Bool), e = .returned (.tuple #[.agg #[.slice ua n cap, .bool bu], .int .i64 (chkE (bothB r l a b k a2 b2 T br) l2)]) ∧ Below w.heap.size w w' := by
  rcases chkE_cases (bothB r l a b k a2 b2 T br) l2 with hne | ⟨h0, hbb, ho, hlen⟩
  · exact (run_err r l a b k a2 b2 w v T br v2 l2 hl hl2 hne).mono fun e w' ⟨h, hb⟩ => ⟨_, _, _, _, h, hb⟩
  · rw [h0]
    unfold bothB at hbb
    rw [Bool.and_eq_true] at hbb
    obtain ⟨hcan, hbody⟩ := hbb
    obtain ⟨c, hcv, rfl, rfl, rfl, rfl, rfl, rfl, rfl⟩ := canB_cn hcan
    exact (run_ok c (T, br) v v2 l2 w hcv hbody ho hlen hl hl2).mono fun e w' ⟨u, h, ⟨g, hu, _⟩, hb⟩ => by subst hu; exact ⟨_, _, _, _, h, hb⟩
end Go.Proofs.YtedfajokiblfhaaGreat

/- One contract for Run, whatever comes in: what comes back is a plain function of what came in. -/
namespace Go.Proofs.YtedfajokiblfhaaGreat
open Go.RowKit

/-- The can of seven numbers. -/
def cnOf (r l a b k a2 b2 : Int) : Cn := ⟨r.toNat, l.toNat, a, b, k, a2, b2⟩
theorem cnOf_cn (c : Cn) : cnOf c.R c.L c.A c.B c.K c.A2 c.B2 = c := by simp [cnOf]
/-- What Run hands back: a body and an error. -/
def runO (r l a b k a2 b2 : Int) (x : Bd) (p : List Int) : Bd × Int :=
  if chkE (bothB r l a b k a2 b2 x.1 x.2) p = 0 then (runS (cnOf r l a b k a2 b2) x p, 0) else (([], false), chkE (bothB r l a b k a2 b2 x.1 x.2) p)
theorem runO_ok {r l a b k a2 b2 : Int} {x : Bd} {p : List Int} (h : chkE (bothB r l a b k a2 b2 x.1 x.2) p = 0) : runO r l a b k a2 b2 x p = (runS (cnOf r l a b k a2 b2) x p, 0) := by unfold runO; rw [if_pos h]
theorem runO_err {r l a b k a2 b2 : Int} {x : Bd} {p : List Int} (h : chkE (bothB r l a b k a2 b2 x.1 x.2) p ≠ 0) : runO r l a b k a2 b2 x p = (([], false), chkE (bothB r l a b k a2 b2 x.1 x.2) p) := by unfold runO; rw [if_neg h]
theorem runO_code (r l a b k a2 b2 : Int) (x : Bd) (p : List Int) : (runO r l a b k a2 b2 x p).2 = chkE (bothB r l a b k a2 b2 x.1 x.2) p := by
  by_cases h : chkE (bothB r l a b k a2 b2 x.1 x.2) p = 0
  · rw [runO_ok h, h]
  · rw [runO_err h]
/-- What comes back for O: a body that reads as it, and the error. -/
def OutB (O : Bd × Int) (w : World) (e : Ending) (w' : World) : Prop :=
  ∃ (ua : Option Addr) (cap : Nat), e = .returned (.tuple #[.agg #[.slice ua O.1.1.length cap, .bool O.1.2], .int .i64 O.2]) ∧ RowI w' (.slice ua O.1.1.length cap) O.1.1 ∧ Below w.heap.size w w'
theorem outB_nil {n : Int} {w : World} {e : Ending} {w' : World} (h : e = .returned (.tuple #[.agg #[.slice none 0 0, .bool false], .int .i64 n])) (hb : Below w.heap.size w w') : OutB (([], false), n) w e w' :=
  ⟨none, 0, h, .inl ⟨_, _, rfl, rfl⟩, hb⟩
/-- A body that is valid for a valid can. -/
theorem both_open {r l a b k a2 b2 : Int} {T : List Int} {br : Bool} (h : bothB r l a b k a2 b2 T br = true) : ∃ c : Cn, c.V ∧ (r = c.R ∧ l = c.L ∧ a = c.A ∧ b = c.B ∧ k = c.K ∧ a2 = c.A2 ∧ b2 = c.B2) ∧ bodyV c T br = true ∧ Warm c (T, br) := by
  unfold bothB at h
  rw [Bool.and_eq_true] at h
  obtain ⟨hcan, hbody⟩ := h
  obtain ⟨c, hcv, rfl, rfl, rfl, rfl, rfl, rfl, rfl⟩ := canB_cn hcan
  have hbv : bodyV c T br = true := hbody
  obtain ⟨h1, _, h3⟩ := bodyV_iff.1 hbv
  exact ⟨c, hcv, ⟨rfl, rfl, rfl, rfl, rfl, rfl, rfl⟩, hbv, ⟨h1, okL_bd h3⟩⟩
theorem run_all (r l a b k a2 b2 : Int) (w : World) (v : Value) (T : List Int) (br : Bool) (v2 : Value) (p : List Int) (hl : RowI w v T) (hl2 : RowI w v2 p) :
    Calls Tryz.prog 140 #[.agg #[.int .i64 r, .int .i64 l, .int .i64 a, .int .i64 b, .int .i64 k, .int .i64 a2, .int .i64 b2], .agg #[v, .bool br], v2] w (OutB (runO r l a b k a2 b2 (T, br) p) w) := by
  rcases chkE_cases (bothB r l a b k a2 b2 T br) p with hne | ⟨h0, hbb, ho, hlen⟩
  · rw [runO_err hne]
    exact (run_err r l a b k a2 b2 w v T br v2 p hl hl2 hne).mono fun e w' ⟨h, hb⟩ => outB_nil h hb
  · rw [runO_ok h0]
    obtain ⟨c, hcv, ⟨rfl, rfl, rfl, rfl, rfl, rfl, rfl⟩, hbv, hwm⟩ := both_open hbb
    rw [cnOf_cn]
    have hl48 : (runS c (T, br) p).1.length ≤ 48 := by have h1 := (hwm.run hcv.ok (okL_bd ho)).len; have := hcv.ok.p; unfold Cn.P at this; omega
    refine (run_ok c (T, br) v v2 p w hcv hbv ho hlen hl hl2).mono fun e w' ⟨u, h, hr, hb⟩ => ?_
    have hr' := hr.rowI hl48
    obtain ⟨g, rfl, _⟩ := hr
    exact ⟨_, _, h, hr', hb⟩
theorem step_all (r l a b k a2 b2 : Int) (w : World) (v : Value) (T : List Int) (br : Bool) (bath : Int) (hl : RowI w v T) :
    Calls Tryz.prog 115 #[.agg #[.int .i64 r, .int .i64 l, .int .i64 a, .int .i64 b, .int .i64 k, .int .i64 a2, .int .i64 b2], .agg #[v, .bool br], .int .i64 bath] w (OutB (runO r l a b k a2 b2 (T, br) [bath]) w) := by
  rcases chkE_cases (bothB r l a b k a2 b2 T br) [bath] with hne | ⟨h0, hbb, ho, hlen⟩
  · rw [runO_err hne]
    exact (step_err r l a b k a2 b2 w v T br bath hl hne).mono fun e w' ⟨h, hb⟩ => outB_nil h hb
  · rw [runO_ok h0]
    obtain ⟨c, hcv, ⟨rfl, rfl, rfl, rfl, rfl, rfl, rfl⟩, hbv, hwm⟩ := both_open hbb
    rw [cnOf_cn]
    have hl48 : (runS c (T, br) [bath]).1.length ≤ 48 := by have h1 := (hwm.run hcv.ok (okL_bd ho)).len; have := hcv.ok.p; unfold Cn.P at this; omega
    refine (step_ok c (T, br) v bath w hcv hbv ho hl).mono fun e w' ⟨u, h, hr, hb⟩ => ?_
    have hr' := hr.rowI hl48
    obtain ⟨g, rfl, _⟩ := hr
    exact ⟨_, _, h, hr', hb⟩

/-- A body stays valid for its can in ticks. -/
theorem runS_brk {c : Cn} (hK : c.K = 0) : ∀ (p : List Int) (x : Bd), x.2 = false → (runS c x p).2 = false
  | [], _, h => h
  | b :: p, x, h => runS_brk hK p (tickS c x b) (by simp [tickS, brk, h, hK])
theorem body_run {c : Cn} (hc : c.Ok) {x : Bd} {p : List Int} (hb : bodyV c x.1 x.2 = true) (ho : okL p = true) : bodyV c (runS c x p).1 (runS c x p).2 = true := by
  obtain ⟨h1, h2, h3⟩ := bodyV_iff.1 hb
  have hw : Warm c x := ⟨h1, okL_bd h3⟩
  have hr := hw.run hc (okL_bd ho)
  refine bodyV_iff.2 ⟨hr.len, ?_, okL_of hr.bd⟩
  rcases h2 with h2 | h2
  · by_cases hK : c.K = 0
    · exact .inl (runS_brk hK p x h2)
    · exact .inr hK
  · exact .inr h2
theorem okL_append (l m : List Int) : okL (l ++ m) = (okL l && okL m) := by unfold okL; exact List.all_append
/-- Ticks in two lists, one after the other. -/
theorem runO_cut {r l a b k a2 b2 : Int} {x : Bd} {p q : List Int} (hp : p.length ≤ 80) (hq : q.length ≤ 80) (h : (runO r l a b k a2 b2 x p).2 = 0) : runO r l a b k a2 b2 x (p ++ q) = runO r l a b k a2 b2 (runO r l a b k a2 b2 x p).1 q := by
  rw [runO_code] at h
  rcases chkE_cases (bothB r l a b k a2 b2 x.1 x.2) p with hne | ⟨_, hbb, ho, _⟩
  · exact absurd h hne
  · rw [runO_ok h]
    obtain ⟨c, hcv, ⟨rfl, rfl, rfl, rfl, rfl, rfl, rfl⟩, hbv, hwm⟩ := both_open hbb
    rw [cnOf_cn]
    have h2 : bothB c.R c.L c.A c.B c.K c.A2 c.B2 (runS c x p).1 (runS c x p).2 = true := by rw [bothB_cn c hcv]; exact body_run hcv.ok hbv ho
    have h3 : chkE (bothB c.R c.L c.A c.B c.K c.A2 c.B2 x.1 x.2) (p ++ q) = chkE (bothB c.R c.L c.A c.B c.K c.A2 c.B2 (runS c x p).1 (runS c x p).2) q := by
      rw [hbb, h2]
      unfold chkE
      rw [okL_append, ho, Bool.true_and, List.length_append, if_neg (show ¬ 2000 < p.length + q.length by omega), if_neg (show ¬ 2000 < q.length by omega)]
    unfold runO
    rw [h3, cnOf_cn, runS_append]
theorem runO_bad {r l a b k a2 b2 : Int} {x : Bd} {p q : List Int} (hp : p.length ≤ 80) (h : (runO r l a b k a2 b2 x p).2 ≠ 0) : (runO r l a b k a2 b2 x (p ++ q)).2 ≠ 0 := by
  rw [runO_code] at h ⊢
  cases hb : bothB r l a b k a2 b2 x.1 x.2 with
  | false => rw [chkE_no]; decide
  | true =>
    rw [hb] at h
    cases ho : okL p with
    | false => rw [chkE_bad (by rw [okL_append, ho]; rfl)]; decide
    | true => exact absurd (chkE_ok ho (by omega)) h
end Go.Proofs.YtedfajokiblfhaaGreat
