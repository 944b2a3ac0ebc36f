/- Texts of this seat, one behind the other. -/
import Derived.Test.YtihbjimnjhfpeaaGreatR16
import Derived.Test.YtihbjimnjhfpeaaGreatR05
import Derived.Laws.EntriesVeiled
import Derived.Test.YtihbjimnjhfpeaaGreatR07
/- Walk of meterDown: contract. -/
namespace Go.Proofs.YtihbjimnjhfpeaaGreat
open Go.RowKit Go.Lib Go.Maps

/-- Three boxes behind one another, whole. -/
structure B3 (w W : World) (T1 T2 T3 : TypeId) (A B R : Array Value) : Prop where
  one : W.heap[w.heap.size]? = some (.cells A T1 (0, 0))
  two : W.heap[w.heap.size + 1]? = some (.cells B T2 (0, 0))
  three : W.heap[w.heap.size + 1 + 1]? = some (.cells R T3 (0, 0))
  low : Below w.heap.size w W
theorem b3_start {w : World} {T1 T2 T3 : TypeId} {A B R : Array Value} : B3 w (((w.alloc (.cells A T1)).alloc (.cells B T2)).alloc (.cells R T3)) T1 T2 T3 A B R := by
  refine ⟨?_, ?_, ?_, (((Below.refl _ _).alloc (Nat.le_refl _) _).alloc (by simp) _).alloc (by simp; omega) _⟩
  · rw [Below.heap_alloc _ _ _ (by simp; omega), Below.heap_alloc _ _ _ (by simp)]
    exact heap_alloc_new w _
  · rw [Below.heap_alloc _ _ _ (by simp)]
    have := heap_alloc_new (w.alloc (.cells A T1)) (.cells B T2)
    rwa [World.size_alloc] at this
  · have := heap_alloc_new ((w.alloc (.cells A T1)).alloc (.cells B T2)) (.cells R T3)
    rwa [World.size_alloc, World.size_alloc] at this
theorem B3.keep {w w1 w2 : World} {T1 T2 T3 : TypeId} {A B R : Array Value} (h : B3 w w1 T1 T2 T3 A B R) (hb : Below w1.heap.size w1 w2) : B3 w w2 T1 T2 T3 A B R :=
  ⟨(hb.block _ (lt_of_block h.one)).trans h.one, (hb.block _ (lt_of_block h.two)).trans h.two, (hb.block _ (lt_of_block h.three)).trans h.three, bstep h.low h.low.size hb⟩
/-- What turned was another block, in new memory. -/
theorem B3.grown {w w1 w2 : World} {T1 T2 T3 : TypeId} {A B R : Array Value} {row : Option Nat} (h : B3 w w1 T1 T2 T3 A B R) (hg : w1.grownBy w2 row) (hr : ∀ j, row = some j → w.heap.size + 1 + 1 < j) : B3 w w2 T1 T2 T3 A B R := by
  have hne : ∀ i, i ≤ w.heap.size + 1 + 1 → some i ≠ row := fun i hi e => by have := hr _ e.symm; omega
  exact ⟨(hg.block _ (lt_of_block h.one) (hne _ (by omega))).trans h.one, (hg.block _ (lt_of_block h.two) (hne _ (by omega))).trans h.two, (hg.block _ (lt_of_block h.three) (hne _ (by omega))).trans h.three, h.low.grown hg h.low.size (fun j hj => by have := hr j hj; omega)⟩
theorem B3.lt {w W : World} {T1 T2 T3 : TypeId} {A B R : Array Value} (h : B3 w W T1 T2 T3 A B R) : w.heap.size + 1 + 1 < W.heap.size := lt_of_block h.three

/-- What a meter's rates stand on: the box of its map. -/
structure DnI (f : Int → Nat) (lo : Int) (n kb mb : Nat) (w : World) : Prop where
  box : w.heap[kb]? = some (.cells #[.map (some mb)] 121 (0, 0))
  map : MapT f lo n w mb
theorem DnI.kept {f : Int → Nat} {lo : Int} {n kb mb : Nat} {w w' : World} {row : Option Nat} (h : DnI f lo n kb mb w) (hg : w.grownBy w' row) (h1 : some kb ≠ row) (h2 : some mb ≠ row) : DnI f lo n kb mb w' :=
  ⟨(hg.block _ (lt_of_block h.box) h1).trans h.box, h.map.kept hg h2⟩
theorem DnI.keep {f : Int → Nat} {lo : Int} {n kb mb : Nat} {w w' : World} (h : DnI f lo n kb mb w) (hb : Below w.heap.size w w') : DnI f lo n kb mb w' :=
  h.kept (row := none) (gbelow hb) (by simp) (by simp)
/-- What meterDown hands back: a meter whose rates are f of the quarters from lo on, n of them. -/
def MeterP (c : Cn) (need : Int) (f : Int → Nat) (lo : Int) (n : Nat) (w : World) (e : Ending) (w' : World) : Prop :=
  ∃ kb mb, e = .returned (.agg #[.int .i64 (c.R : Int), .int .i64 (c.L : Int), .int .i64 c.A, .int .i64 c.B, .int .i64 c.K, .int .i64 c.A2, .int .i64 c.B2, .int .i64 need, .func (.func 113) #[] #[.pointer (some ⟨kb, 0, none⟩)]]) ∧
    DnI f lo n kb mb w' ∧ w.heap.size ≤ kb ∧ w.heap.size ≤ mb ∧ Below w.heap.size w w'

theorem set9 {W : World} {b : Nat} {T : TypeId} {x0 x1 x2 x3 x4 x5 x6 x7 x8 y0 y1 y2 y3 y4 y5 y6 y7 y8 : Value} (h : W.heap[b]? = some (.cells #[x0, x1, x2, x3, x4, x5, x6, x7, x8] T (0, 0))) :
    (((((((((W.setCell ⟨b, 0, none⟩ y0).setCell ⟨b, 1, none⟩ y1).setCell ⟨b, 2, none⟩ y2).setCell ⟨b, 3, none⟩ y3).setCell ⟨b, 4, none⟩ y4).setCell ⟨b, 5, none⟩ y5).setCell ⟨b, 6, none⟩ y6).setCell ⟨b, 7, none⟩ y7).setCell ⟨b, 8, none⟩ y8).heap[b]? = some (.cells #[y0, y1, y2, y3, y4, y5, y6, y7, y8] T (0, 0)) ∧ (∀ g, g ≠ b → (((((((((W.setCell ⟨b, 0, none⟩ y0).setCell ⟨b, 1, none⟩ y1).setCell ⟨b, 2, none⟩ y2).setCell ⟨b, 3, none⟩ y3).setCell ⟨b, 4, none⟩ y4).setCell ⟨b, 5, none⟩ y5).setCell ⟨b, 6, none⟩ y6).setCell ⟨b, 7, none⟩ y7).setCell ⟨b, 8, none⟩ y8).heap[g]? = W.heap[g]?) ∧ ∀ B, B ≤ b → Below B W (((((((((W.setCell ⟨b, 0, none⟩ y0).setCell ⟨b, 1, none⟩ y1).setCell ⟨b, 2, none⟩ y2).setCell ⟨b, 3, none⟩ y3).setCell ⟨b, 4, none⟩ y4).setCell ⟨b, 5, none⟩ y5).setCell ⟨b, 6, none⟩ y6).setCell ⟨b, 7, none⟩ y7).setCell ⟨b, 8, none⟩ y8) := by
  have h0 : (W.setCell ⟨b, 0, none⟩ y0).heap[b]? = some (.cells #[y0, x1, x2, x3, x4, x5, x6, x7, x8] T (0, 0)) := heap_setCell_same _ b 0 _ _ y0 h
  have h1 : ((W.setCell ⟨b, 0, none⟩ y0).setCell ⟨b, 1, none⟩ y1).heap[b]? = some (.cells #[y0, y1, x2, x3, x4, x5, x6, x7, x8] T (0, 0)) := heap_setCell_same _ b 1 _ _ y1 h0
  have h2 : (((W.setCell ⟨b, 0, none⟩ y0).setCell ⟨b, 1, none⟩ y1).setCell ⟨b, 2, none⟩ y2).heap[b]? = some (.cells #[y0, y1, y2, x3, x4, x5, x6, x7, x8] T (0, 0)) := heap_setCell_same _ b 2 _ _ y2 h1
  have h3 : ((((W.setCell ⟨b, 0, none⟩ y0).setCell ⟨b, 1, none⟩ y1).setCell ⟨b, 2, none⟩ y2).setCell ⟨b, 3, none⟩ y3).heap[b]? = some (.cells #[y0, y1, y2, y3, x4, x5, x6, x7, x8] T (0, 0)) := heap_setCell_same _ b 3 _ _ y3 h2
  have h4 : (((((W.setCell ⟨b, 0, none⟩ y0).setCell ⟨b, 1, none⟩ y1).setCell ⟨b, 2, none⟩ y2).setCell ⟨b, 3, none⟩ y3).setCell ⟨b, 4, none⟩ y4).heap[b]? = some (.cells #[y0, y1, y2, y3, y4, x5, x6, x7, x8] T (0, 0)) := heap_setCell_same _ b 4 _ _ y4 h3
  have h5 : ((((((W.setCell ⟨b, 0, none⟩ y0).setCell ⟨b, 1, none⟩ y1).setCell ⟨b, 2, none⟩ y2).setCell ⟨b, 3, none⟩ y3).setCell ⟨b, 4, none⟩ y4).setCell ⟨b, 5, none⟩ y5).heap[b]? = some (.cells #[y0, y1, y2, y3, y4, y5, x6, x7, x8] T (0, 0)) := heap_setCell_same _ b 5 _ _ y5 h4
  have h6 : (((((((W.setCell ⟨b, 0, none⟩ y0).setCell ⟨b, 1, none⟩ y1).setCell ⟨b, 2, none⟩ y2).setCell ⟨b, 3, none⟩ y3).setCell ⟨b, 4, none⟩ y4).setCell ⟨b, 5, none⟩ y5).setCell ⟨b, 6, none⟩ y6).heap[b]? = some (.cells #[y0, y1, y2, y3, y4, y5, y6, x7, x8] T (0, 0)) := heap_setCell_same _ b 6 _ _ y6 h5
  have h7 : ((((((((W.setCell ⟨b, 0, none⟩ y0).setCell ⟨b, 1, none⟩ y1).setCell ⟨b, 2, none⟩ y2).setCell ⟨b, 3, none⟩ y3).setCell ⟨b, 4, none⟩ y4).setCell ⟨b, 5, none⟩ y5).setCell ⟨b, 6, none⟩ y6).setCell ⟨b, 7, none⟩ y7).heap[b]? = some (.cells #[y0, y1, y2, y3, y4, y5, y6, y7, x8] T (0, 0)) := heap_setCell_same _ b 7 _ _ y7 h6
  have h8 : (((((((((W.setCell ⟨b, 0, none⟩ y0).setCell ⟨b, 1, none⟩ y1).setCell ⟨b, 2, none⟩ y2).setCell ⟨b, 3, none⟩ y3).setCell ⟨b, 4, none⟩ y4).setCell ⟨b, 5, none⟩ y5).setCell ⟨b, 6, none⟩ y6).setCell ⟨b, 7, none⟩ y7).setCell ⟨b, 8, none⟩ y8).heap[b]? = some (.cells #[y0, y1, y2, y3, y4, y5, y6, y7, y8] T (0, 0)) := heap_setCell_same _ b 8 _ _ y8 h7
  refine ⟨h8, fun g hg => ?_, fun B hB => ?_⟩
  · rw [heap_setCell_other _ _ _ _ (by exact hg), heap_setCell_other _ _ _ _ (by exact hg), heap_setCell_other _ _ _ _ (by exact hg), heap_setCell_other _ _ _ _ (by exact hg), heap_setCell_other _ _ _ _ (by exact hg), heap_setCell_other _ _ _ _ (by exact hg), heap_setCell_other _ _ _ _ (by exact hg), heap_setCell_other _ _ _ _ (by exact hg), heap_setCell_other _ _ _ _ (by exact hg)]
  · exact ((((((((((Below.refl _ W).setCell (p := ⟨b, 0, none⟩) (by exact hB) y0).setCell (p := ⟨b, 1, none⟩) (by exact hB) y1).setCell (p := ⟨b, 2, none⟩) (by exact hB) y2).setCell (p := ⟨b, 3, none⟩) (by exact hB) y3).setCell (p := ⟨b, 4, none⟩) (by exact hB) y4).setCell (p := ⟨b, 5, none⟩) (by exact hB) y5).setCell (p := ⟨b, 6, none⟩) (by exact hB) y6).setCell (p := ⟨b, 7, none⟩) (by exact hB) y7).setCell (p := ⟨b, 8, none⟩) (by exact hB) y8)
theorem run_makeMap_hint (W : World) (n : Int) : (Instr.makeMap 121 (some (.int .i64 n))).run Tryz.prog W = .ok (.map (some W.heap.size)) (W.alloc (.map #[] 0)) := by
  simp [Instr.makeMap, run_underlying Tryz.underlying121, asInt, asIntOf, Result.andThen]
/-- What meterDown works on behind k entries of its map at M, whose box is behind it. -/
structure MdL (c : Cn) (s : ByteArray) (r : Int) (Z : Nat) (d g : Int) (lo : Int) (N gb M : Nat) (w : World) (k : Nat) (W : World) : Prop where
  boxes : B3 w W 23 25 80 #[.int .i64 (c.R : Int), .int .i64 (c.L : Int), .int .i64 c.A, .int .i64 c.B, .int .i64 c.K, .int .i64 c.A2, .int .i64 c.B2] #[.string s, .int .i64 r, .int .i64 (Z : Int), .int .i64 d, .int .i64 g] #[.int .i64 0, .int .i64 0, .int .i64 0, .int .i64 0, .int .i64 0, .int .i64 0, .int .i64 0, .int .i64 0, .nilFunc]
  row : ∀ j, j < N → W.cell? ⟨gb, j, none⟩ = some (.int .i64 (Lt.Pm.rateD r Z (lo + (j : Nat)) : Nat))
  box : W.heap[M + 1]? = some (.cells #[.map (some M)] 121 (0, 0))
  map : MapT (Lt.Pm.rateD r Z) lo k W M
  lt : w.heap.size + 1 + 1 < M
  ne : gb ≠ M
theorem MdL.next {c : Cn} {s : ByteArray} {r d g lo : Int} {Z N gb M k k' : Nat} {w W W' : World} (h : MdL c s r Z d g lo N gb M w k W) (hg : W.grownBy W' (some M)) (hm : MapT (Lt.Pm.rateD r Z) lo k' W' M) : MdL c s r Z d g lo N gb M w k' W' := by
  have h1 := h.lt
  refine ⟨h.boxes.grown hg (fun j e => by cases e; exact h1), fun j hj => ?_, (hg.block _ (lt_of_block h.box) (by simp)).trans h.box, hm, h1, h.ne⟩
  exact Lt.grown_cell hg (World.block_lt_of_cell? W ⟨gb, j, none⟩ (h.row j hj)) (by simpa using h.ne) (h.row j hj)
theorem MdL.keep {c : Cn} {s : ByteArray} {r d g lo : Int} {Z N gb M k : Nat} {w W W' : World} (h : MdL c s r Z d g lo N gb M w k W) (hb : Below W.heap.size W W') : MdL c s r Z d g lo N gb M w k W' :=
  ⟨h.boxes.keep hb, fun j hj => keep_cell hb (h.row j hj), (hb.block _ (lt_of_block h.box)).trans h.box, h.map.kept (row := none) (gbelow hb) (by simp), h.lt, h.ne⟩
def RawMd (c : Cn) (s : ByteArray) (r : Int) (Z : Nat) (d g : Int) (lo : Int) (N gb M : Nat) (w : World) (k : Nat) (w1 : World) : Prop := w1.cell? ⟨w.heap.size, 0, none⟩ = some (.int .i64 (c.R : Int)) ∧ w1.cell? ⟨w.heap.size, 1, none⟩ = some (.int .i64 (c.L : Int)) ∧ w1.cell? ⟨w.heap.size, 2, none⟩ = some (.int .i64 c.A) ∧ w1.cell? ⟨w.heap.size, 3, none⟩ = some (.int .i64 c.B) ∧ w1.cell? ⟨w.heap.size, 4, none⟩ = some (.int .i64 c.K) ∧ w1.cell? ⟨w.heap.size, 5, none⟩ = some (.int .i64 c.A2) ∧ w1.cell? ⟨w.heap.size, 6, none⟩ = some (.int .i64 c.B2) ∧ w1.cell? ⟨w.heap.size + 1, 0, none⟩ = some (.string s) ∧ w1.cell? ⟨w.heap.size + 1, 1, none⟩ = some (.int .i64 r) ∧ w1.cell? ⟨w.heap.size + 1, 2, none⟩ = some (.int .i64 (Z : Int)) ∧ w1.cell? ⟨w.heap.size + 1, 3, none⟩ = some (.int .i64 d) ∧ w1.cell? ⟨w.heap.size + 1, 4, none⟩ = some (.int .i64 g) ∧ MdL c s r Z d g lo N gb M w k w1
theorem rawMd {c : Cn} {s : ByteArray} {r d g lo : Int} {Z N gb M k : Nat} {w W : World} (h : MdL c s r Z d g lo N gb M w k W) : RawMd c s r Z d g lo N gb M w k W := by
  have h1 := h.boxes.one; have h2 := h.boxes.two
  exact ⟨cell_of_row _ _ 0 _ _ _ h1, cell_of_row _ _ 1 _ _ _ h1, cell_of_row _ _ 2 _ _ _ h1, cell_of_row _ _ 3 _ _ _ h1, cell_of_row _ _ 4 _ _ _ h1, cell_of_row _ _ 5 _ _ _ h1, cell_of_row _ _ 6 _ _ _ h1, cell_of_row _ _ 0 _ _ _ h2, cell_of_row _ _ 1 _ _ _ h2, cell_of_row _ _ 2 _ _ _ h2, cell_of_row _ _ 3 _ _ _ h2, cell_of_row _ _ 4 _ _ _ h2, h⟩
theorem RawMd.md {c : Cn} {s : ByteArray} {r d g lo : Int} {Z N gb M k : Nat} {w W : World} (h : RawMd c s r Z d g lo N gb M w k W) : MdL c s r Z d g lo N gb M w k W := h.2.2.2.2.2.2.2.2.2.2.2.2

set_option maxRecDepth 100000 in
set_option maxHeartbeats 4000000 in
theorem meterDown_any (c : Cn) (s : ByteArray) (r d g : Int) (Z : Nat) (v : Value) (ts : List Int) (w : World) (hs : s.size ≤ maxLen) (hv : Lt.validB s.data.toList r Z d g = true) (hl : RowI w v ts) (h0 : 0 < ts.length) (hlen : ts.length ≤ 100000) (ho : okL ts = true) :
    Calls Tryz.prog 71 #[.agg #[.int .i64 (c.R : Int), .int .i64 (c.L : Int), .int .i64 c.A, .int .i64 c.B, .int .i64 c.K, .int .i64 c.A2, .int .i64 c.B2], .agg #[.string s, .int .i64 r, .int .i64 Z, .int .i64 d, .int .i64 g], v] w (MeterP c (g * (d * 1000000)) (Lt.Pm.rateD r Z) (minA ts / 250) ((maxA ts / 250 - minA ts / 250).toNat + 1) w) := by
  have HL := hid (fun w1 (g : Below w.heap.size w w1) => hl.keep g)
  obtain ⟨a0, cap, rfl⟩ := hl.shape
  have hmn := okL_bd ho _ (minA_mem h0)
  have hmx := okL_bd ho _ (maxA_mem h0)
  have hle := minA_le (maxA_mem h0)
  have HM := hid (fun W g1 => minA_any _ ts W (HL.out W g1) h0 hlen)
  have HX := hid (fun W g1 => maxA_any _ ts W (HL.out W g1) h0 hlen)
  generalize minA ts = mn at *
  generalize maxA ts = mx at *
  obtain ⟨lo, hlo⟩ : ∃ lo, lo = mn / 250 := ⟨_, rfl⟩
  obtain ⟨N, hN⟩ : ∃ N, N = (mx / 250 - mn / 250).toNat := ⟨_, rfl⟩
  have hhi : mx / 250 = lo + (N : Int) := by omega
  have hN1 : N ≤ 1000 := by omega
  have hlo1 : -200 ≤ lo := by omega
  have hlo2 : lo + (N : Int) ≤ 800 := by omega
  rw [← hN, ← hlo]
  have HLO := hid hlo; have HHI := hid hhi
  have hZ := (Lt.validB_iff.1 hv).2.2.1
  have HT := hid (fun W => Lt.lTable_ok s r d g lo Z N W hs hv (by omega) (by omega) hN1)
  have HND := hid (fun W => Lt.needs_yes s r Z d g W hs hv)
  have HRL := hid (fun q => Lt.Pm.rateD_le r Z q hZ.1)
  have HS := hid (b3_start (w := w) (T1 := 23) (T2 := 25) (T3 := 80) (A := #[.int .i64 (c.R : Int), .int .i64 (c.L : Int), .int .i64 c.A, .int .i64 c.B, .int .i64 c.K, .int .i64 c.A2, .int .i64 c.B2]) (B := #[.string s, .int .i64 r, .int .i64 (Z : Int), .int .i64 d, .int .i64 g]) (R := #[.int .i64 0, .int .i64 0, .int .i64 0, .int .i64 0, .int .i64 0, .int .i64 0, .int .i64 0, .int .i64 0, .nilFunc]))
  have hmk := run_makeMap_hint
  clear hl hlo hN hhi hle h0 hlen ho hv hZ hs
  go_enter Tryz.func71, Tryz.ntmps71
  go_wp2_with fail
  refine (HM.out _ HS.out.low).mono ?_
  rintro e w1 ⟨rfl, rfl⟩
  go_wp2_with fail
  refine (Lt.lQuarter_any mn _ (by omega) (by omega)).mono ?_
  rintro e w1 ⟨rfl, rfl⟩
  rw [← HLO.out]
  go_wp2_with fail
  refine (HX.out _ HS.out.low).mono ?_
  rintro e w1 ⟨rfl, rfl⟩
  go_wp2_with fail
  refine (Lt.lQuarter_any mx _ (by omega) (by omega)).mono ?_
  rintro e w1 ⟨rfl, rfl⟩
  rw [HHI.out]
  go_wp2_with fail
  refine (HT.out _).mono ?_
  rintro e w2 ⟨v2, rfl, hr2, hb2⟩
  obtain ⟨gb, cap2, rfl, hc2⟩ := Lt.RowR.shape hr2 (by intro e; have := Lt.ratesL_len r Z lo (N + 1); rw [e] at this; simp at this)
  rw [Lt.ratesL_len]
  have hrow : ∀ j, j < N + 1 → w2.cell? ⟨gb, j, none⟩ = some (.int .i64 (Lt.Pm.rateD r Z (lo + (j : Nat)) : Nat)) := fun j hj => by
    rw [hc2 j (by rw [Lt.ratesL_len]; exact hj), Lt.ratesL_get]
  have HB := hid (HS.out.keep hb2)
  clear hc2 hr2 hb2
  have hb4 := ((Below.refl _ w2).alloc (Nat.le_refl _) (.map #[] 0)).alloc (by simp) (.cells #[.map (some w2.heap.size)] 121)
  have HL0 : Hid (MdL c s r Z d g lo (N + 1) gb w2.heap.size w 0 ((w2.alloc (.map #[] 0)).alloc (.cells #[.map (some w2.heap.size)] 121))) := by
    refine ⟨HB.out.keep hb4, fun j hj => keep_cell hb4 (hrow j hj), ?_, (mapT_made _ lo w2).kept (row := none) (World.grownBy_alloc _ _ none) (by simp), HB.out.lt, fun e => ?_⟩
    · have := heap_alloc_new (w2.alloc (.map #[] 0)) (.cells #[.map (some w2.heap.size)] 121)
      rwa [World.size_alloc] at this
    · have := World.block_lt_of_cell? w2 ⟨gb, 0, none⟩ (hrow 0 (by omega))
      simp at this; omega
  clear hb4 hrow HB
  go_wp2_with fail
  generalize hM : w2.heap.size = M at HL0 ⊢
  clear hM
  go_loopw [32] (fun t wr => ∃ k : Nat, k ≤ N + 1 ∧ t = .int .i64 (k : Int) ∧ Hid (MdL c s r Z d g lo (N + 1) gb M w k wr)) (fun t _ => N + 1 - (intOf t).toNat)
  case atStart => exact ⟨0, Nat.zero_le _, rfl, HL0⟩
  case round =>
    obtain ⟨k, hk, rfl, hL⟩ := hrel
    have ck := cell_of_row _ _ 0 _ _ _ hL.out.box
    simp only [List.getElem?_toArray, List.getElem?_cons_zero] at ck
    by_cases hlt : k < N + 1
    · have hlt' : (k : Int) < ((N + 1 : Nat) : Int) := by omega
      have ex := hL.out.row k hlt
      have hx := HRL.out (lo + (k : Nat))
      obtain ⟨D, hown, hD, hj⟩ := hL.out.map
      have HPUT := hid (fun (w3 : World) h3 => mapT_put (w := w3) (b := M) hD hj h3)
      have HK := hid (Lt.key_int (t := lo + (k : Nat)) (by omega) (by omega))
      have HLT := hid hlt
      have HOWN := hid hown
      generalize Lt.Pm.rateD r (Z : Int) (lo + (k : Nat)) = x at ex hx HPUT
      clear hD hj hlt hown
      go_wp2_with (at_mapUpdate; refine wpList_mapUpdate_own _ rfl _ _ _ 121 rfl 3 3 Lt.law_int Tryz.underlying121 _ M k D rfl HOWN.out (by unfold maxLen; omega) _ _ _ rfl rfl HK.out _ [] (plainElem_int Tryz.underlying3 (WalkArith.wf_i64 (by omega))) ?_; intro w3 hown3 hgrow3; have HL3 := hid (hL.out.next hgrow3 (HPUT.out _ hown3)); clear hown3 hgrow3)
      go_roundw
      case rel => exact ⟨k + 1, HLT.out, by go_num, HL3⟩
      case measure => have := HLT.out; simp [intOf]; omega
    · obtain rfl : k = N + 1 := by omega
      clear ck hlt hk HRL HT HX HM HL hmk HLO HHI
      go_wp2_with fail
      refine wp_region_sink (S := RawMd c s r Z d g lo (N + 1) gb M w (N + 1)) 5 (by kernel_rfl) (by kernel_rfl) (by kernel_rfl) (by kernel_rfl) (rawMd (hL.out.keep (Below.refl _ wr).drew)) (fun hS0 => ?_)
      refine wpAnyH_take (i := 0) (v := ?_) rfl (by kernel_rfl) (by kernel_rfl) (by kernel_rfl) (fun _ _ _ h => h) (Or.inl ⟨by rfl, ?_⟩) hS0 ?_
      rotate_left
      · intro w' hSw
        obtain ⟨q0, q1, q2, q3, q4, q5, q6, p0, p1, p2, p3, p4, _⟩ := hSw
        go_simp
        try with_reducible rfl
      try simp only [Act.put]
      try simp only [List.setIfInBounds_toArray]
      try simp only [List.set_cons_zero, List.set_cons_succ]
      refine wpAnyH_take (i := 1) (v := ?_) rfl (by kernel_rfl) (by kernel_rfl) (by kernel_rfl) (fun _ _ _ h => h) (Or.inl ⟨by rfl, ?_⟩) hS0 ?_
      rotate_left
      · intro w' hSw
        obtain ⟨q0, q1, q2, q3, q4, q5, q6, p0, p1, p2, p3, p4, _⟩ := hSw
        go_simp
        try with_reducible rfl
      try simp only [Act.put]
      try simp only [List.setIfInBounds_toArray]
      try simp only [List.set_cons_zero, List.set_cons_succ]
      refine wpAnyH_take (i := 3) (v := ?_) rfl (by kernel_rfl) (by kernel_rfl) (by kernel_rfl) (fun _ _ _ h => h) (Or.inl ⟨by rfl, ?_⟩) hS0 ?_
      rotate_left
      · intro w' hSw
        obtain ⟨q0, q1, q2, q3, q4, q5, q6, p0, p1, p2, p3, p4, _⟩ := hSw
        go_simp
        try with_reducible rfl
      try simp only [Act.put]
      try simp only [List.setIfInBounds_toArray]
      try simp only [List.set_cons_zero, List.set_cons_succ]
      (refine wpAnyH_ready (rs := [2]) (by kernel_rfl) (by simp) ?_)
      refine AllReadyH.cons rfl (fun K hK => ?_) AllReadyH.nil
      go_simp
      refine (HND.out _).mono ?_
      rintro e w3 ⟨rfl, hb⟩
      (refine hK.out _ _ (rawMd (hS0.md.keep hb)) (fun hS1 => ?_); clear hK K)
      refine wpAnyH_take (i := 4) (v := ?_) rfl (by kernel_rfl) (by kernel_rfl) (by kernel_rfl) (fun _ _ _ h => h) (Or.inl ⟨by rfl, ?_⟩) hS1 ?_
      rotate_left
      · intro w' hSw
        obtain ⟨q0, q1, q2, q3, q4, q5, q6, p0, p1, p2, p3, p4, _⟩ := hSw
        go_simp
        try with_reducible rfl
      try simp only [Act.put]
      try simp only [List.setIfInBounds_toArray]
      try simp only [List.set_cons_zero, List.set_cons_succ]
      have HM3 := hid hS1.md
      have hb3 := HM3.out.boxes.three
      have hf : ∀ i, w3.frozen? ⟨w.heap.size + 1 + 1, i, none⟩ = false := fun i => frozen_of_row _ _ i _ _ hb3
      have h3z := HM3.out.boxes.lt
      have t0 := cell_of_row _ _ 0 _ _ _ hb3
      have f0 := hf 0
      have t1 := cell_of_row _ _ 1 _ _ _ hb3
      have f1 := hf 1
      have t2 := cell_of_row _ _ 2 _ _ _ hb3
      have f2 := hf 2
      have t3 := cell_of_row _ _ 3 _ _ _ hb3
      have f3 := hf 3
      have t4 := cell_of_row _ _ 4 _ _ _ hb3
      have f4 := hf 4
      have t5 := cell_of_row _ _ 5 _ _ _ hb3
      have f5 := hf 5
      have t6 := cell_of_row _ _ 6 _ _ _ hb3
      have f6 := hf 6
      have t7 := cell_of_row _ _ 7 _ _ _ hb3
      have f7 := hf 7
      have t8 := cell_of_row _ _ 8 _ _ _ hb3
      have f8 := hf 8
      simp only [List.getElem?_toArray, List.getElem?_cons_zero, List.getElem?_cons_succ] at t0 t1 t2 t3 t4 t5 t6 t7 t8
      clear hf
      have HST := hid (set9 (y0 := .int .i64 (c.R : Int)) (y1 := .int .i64 (c.L : Int)) (y2 := .int .i64 c.A) (y3 := .int .i64 c.B) (y4 := .int .i64 c.K) (y5 := .int .i64 c.A2) (y6 := .int .i64 c.B2) (y7 := .int .i64 (g * (d * 1000000))) (y8 := .func (.func 113) #[] #[.pointer (some ⟨M + 1, 0, none⟩)]) hb3)
      clear hb3
      refine wpAnyH_done (by kernel_rfl) ?_ _
      refine sink_last rfl (fun K hK => ?_)
      go_simp
      refine hK.out _ _ ?_
      clear hK K
      obtain ⟨W9, hW9⟩ : ∃ W9 : World, W9 = ((((((((w3.setCell ⟨w.heap.size + 1 + 1, 0, none⟩ (.int .i64 (c.R : Int))).setCell ⟨w.heap.size + 1 + 1, 1, none⟩ (.int .i64 (c.L : Int))).setCell ⟨w.heap.size + 1 + 1, 2, none⟩ (.int .i64 c.A)).setCell ⟨w.heap.size + 1 + 1, 3, none⟩ (.int .i64 c.B)).setCell ⟨w.heap.size + 1 + 1, 4, none⟩ (.int .i64 c.K)).setCell ⟨w.heap.size + 1 + 1, 5, none⟩ (.int .i64 c.A2)).setCell ⟨w.heap.size + 1 + 1, 6, none⟩ (.int .i64 c.B2)).setCell ⟨w.heap.size + 1 + 1, 7, none⟩ (.int .i64 (g * (d * 1000000)))).setCell ⟨w.heap.size + 1 + 1, 8, none⟩ (.func (.func 113) #[] #[.pointer (some ⟨M + 1, 0, none⟩)]) := ⟨_, rfl⟩
      rw [← hW9] at HST ⊢
      clear hW9
      obtain ⟨e1, e2, e3⟩ := HST.out
      have hb9 : Below w.heap.size w W9 := HM3.out.boxes.low.trans (e3 _ (by omega))
      have hdn : DnI (Lt.Pm.rateD r (Z : Int)) lo (N + 1) (M + 1) M W9 := by
        have hlt := HM3.out.lt
        refine ⟨(e2 _ (by omega)).trans HM3.out.box, ?_⟩
        obtain ⟨D, ⟨es, clock, h1, h2⟩, h3⟩ := HM3.out.map
        exact ⟨D, ⟨es, clock, (e2 _ (by omega)).trans h1, h2⟩, h3⟩
      have hsz : w.heap.size + 1 + 1 < M := HM3.out.lt
      have HE := hid (And.intro hdn (And.intro hsz hb9))
      have s0 := cell_of_row _ _ 0 _ _ _ e1
      have s1 := cell_of_row _ _ 1 _ _ _ e1
      have s2 := cell_of_row _ _ 2 _ _ _ e1
      have s3 := cell_of_row _ _ 3 _ _ _ e1
      have s4 := cell_of_row _ _ 4 _ _ _ e1
      have s5 := cell_of_row _ _ 5 _ _ _ e1
      have s6 := cell_of_row _ _ 6 _ _ _ e1
      have s7 := cell_of_row _ _ 7 _ _ _ e1
      have s8 := cell_of_row _ _ 8 _ _ _ e1
      simp only [List.getElem?_toArray, List.getElem?_cons_zero, List.getElem?_cons_succ] at s0 s1 s2 s3 s4 s5 s6 s7 s8
      clear HST e1 e2 e3 hb9 hdn hsz hS0 hS1 HM3 hL t0 t1 t2 t3 t4 t5 t6 t7 t8 f0 f1 f2 f3 f4 f5 f6 f7 f8
      go_wp2_with fail
      refine bodyPost_ret (v := .agg #[.int .i64 (c.R : Int), .int .i64 (c.L : Int), .int .i64 c.A, .int .i64 c.B, .int .i64 c.K, .int .i64 c.A2, .int .i64 c.B2, .int .i64 (g * (d * 1000000)), .func (.func 113) #[] #[.pointer (some ⟨M + 1, 0, none⟩)]]) ?_ rfl ?_
      · simp [results, Tryz.results71, go_sem, s0, s1, s2, s3, s4, s5, s6, s7, s8]
      · obtain ⟨hdn, hsz, hb9⟩ := HE.out
        exact ⟨M + 1, M, rfl, hdn, by omega, by omega, hb9⟩
end Go.Proofs.YtihbjimnjhfpeaaGreat

/- Walk of Even where no break is set: contract. -/
namespace Go.Proofs.YtihbjimnjhfpeaaGreat
open Go.RowKit

set_option maxRecDepth 100000 in
set_option maxHeartbeats 4000000 in
theorem even_zero (c : Cn) (t : Int) (w : World) (hv : c.V) (ho : okT t = true) (hk : decide (0 < c.K) = false) :
    Calls Tryz.prog 121 #[.agg #[.int .i64 (c.R : Int), .int .i64 (c.L : Int), .int .i64 c.A, .int .i64 c.B, .int .i64 c.K, .int .i64 c.A2, .int .i64 c.B2], .int .i64 t] w (OutB (evenO c.R c.L c.A c.B c.K c.A2 c.B2 t) w) := by
  rw [evenO_ok hv ho]
  have HS := hid (r2_start (w := w) (A := #[.int .i64 (c.R : Int), .int .i64 (c.L : Int), .int .i64 c.A, .int .i64 c.B, .int .i64 c.K, .int .i64 c.A2, .int .i64 c.B2]) (R := #[.slice none 0 0, .bool false]))
  have hp := hv.ok.p
  have HP := hid hp
  have HV := hid hv
  have HO := hid (show okL [t] = true by simp [okL, ho])
  have hc : canB (c.R : Int) c.L c.A c.B c.K c.A2 c.B2 = true := hv
  have HC := hid hc
  clear ho hv hc hp
  go_enter Tryz.func121, Tryz.ntmps121
  go_wp2_with fail
  refine (vcan_any _ _ _ _ _ _ _ _).mono ?_
  rintro e w1 ⟨rfl, hb⟩
  rw [HC.out]
  have H1 := hid (HS.out.keep hb)
  obtain ⟨k0, k1, k2, k3, k4, k5, k6, d0, d1, f0, f1, hz⟩ := H1.out.facts
  clear hb
  go_wp2_with (go_at_call 149; refine (temps_any _ _ [t] (one_at _ _ rfl)).mono ?_; rintro e w' ⟨rfl, rfl⟩; rw [HO.out])
  have hb2 := (Below.refl _ w1).alloc (Nat.le_refl _) (.cells #[.int .i64 t] 3)
  have H2 := hid (H1.out.keep hb2)
  clear k0 k1 k2 k3 k4 k5 k6 d0 d1 f0 f1 hz
  generalize World.alloc w1 _ = W2 at *
  refine wp_region_held_drew (S := fun w' => RawR c w w') (by kernel_rfl) (rawR (R2e.keep ⟨_, _, H2.out⟩ (Below.refl _ _).drew)) (fun hS0 => ?_)
  refine wpAnyH_take (i := 0) (v := ?_) rfl (by kernel_rfl) (by kernel_rfl) (by kernel_rfl) (fun _ _ _ h => h) (Or.inl ⟨by rfl, ?_⟩) hS0 ?_
  rotate_left
  · intro w' hSw
    obtain ⟨q0, q1, q2, q3, q4, q5, q6, _⟩ := hSw
    go_simp
    try with_reducible rfl
  try simp only [Act.put]
  try simp only [List.setIfInBounds_toArray]
  try simp only [List.set_cons_zero, List.set_cons_succ]
  refine wpAnyH_take (i := 2) (v := ?_) rfl (by kernel_rfl) (by kernel_rfl) (by kernel_rfl) (fun _ _ _ h => h) (Or.inl ⟨by rfl, ?_⟩) hS0 ?_
  rotate_left
  · intro w' hSw
    obtain ⟨q0, q1, q2, q3, q4, q5, q6, _⟩ := hSw
    go_simp
    try with_reducible rfl
  try simp only [Act.put]
  try simp only [List.setIfInBounds_toArray]
  try simp only [List.set_cons_zero, List.set_cons_succ]
  refine wpAnyH_take (i := 5) (v := ?_) rfl (by kernel_rfl) (by kernel_rfl) (by kernel_rfl) (fun _ _ _ h => h) (Or.inl ⟨by rfl, ?_⟩) hS0 ?_
  rotate_left
  · intro w' hSw
    obtain ⟨q0, q1, q2, q3, q4, q5, q6, _⟩ := hSw
    go_simp
    try with_reducible rfl
  try simp only [Act.put]
  try simp only [List.setIfInBounds_toArray]
  try simp only [List.set_cons_zero, List.set_cons_succ]
  refine wpAnyH_take (i := 6) (v := ?_) rfl (by kernel_rfl) (by kernel_rfl) (by kernel_rfl) (fun _ _ _ h => h) (Or.inl ⟨by rfl, ?_⟩) hS0 ?_
  rotate_left
  · intro w' hSw
    obtain ⟨q0, q1, q2, q3, q4, q5, q6, _⟩ := hSw
    go_simp
    try with_reducible rfl
  try simp only [Act.put]
  try simp only [List.setIfInBounds_toArray]
  try simp only [List.set_cons_zero, List.set_cons_succ]
  refine wpAnyH_take (i := 7) (v := ?_) rfl (by kernel_rfl) (by kernel_rfl) (by kernel_rfl) (fun _ _ _ h => h) (Or.inl ⟨by rfl, ?_⟩) hS0 ?_
  rotate_left
  · intro w' hSw
    obtain ⟨q0, q1, q2, q3, q4, q5, q6, _⟩ := hSw
    go_simp
    try with_reducible rfl
  try simp only [Act.put]
  try simp only [List.setIfInBounds_toArray]
  try simp only [List.set_cons_zero, List.set_cons_succ]
  refine wpAnyH_ready (rs := [1, 3]) (by kernel_rfl) (by simp) ?_
  refine AllReadyH.cons rfl (fun K hK => ?_) ?_
  · go_simp
    refine hK.out _ _ (rawR_keep hS0 ((Below.refl _ _).alloc (Nat.le_refl _) _)) (fun hS1 => ?_)
    clear hK K
    refine wpAnyH_ready (rs := [3]) (by kernel_rfl) (by simp) ?_
    refine AllReadyH.cons rfl (fun K hK => ?_) AllReadyH.nil
    go_simp
    refine (places_yes c _ HV.out).mono ?_
    rintro e w3 ⟨rfl, hb⟩
    have q0 : w3.cell? ⟨W2.heap.size, 0, none⟩ = some (.int .i64 t) := keep_cell hb (cell_alloc_new W2.drew _ _ _ 0)
    have HRW := hid q0
    clear q0
    go_wp2_with fail
    refine hK.out _ _ (rawR_keep hS1 hb) (fun hS3 => ?_)
    clear hK K
    refine wpAnyH_ready (rs := [4]) (by kernel_rfl) (by simp) ?_
    refine AllReadyH.cons rfl (fun K hK => ?_) AllReadyH.nil
    go_simp
    refine (repeat_any _ _ 0 1 c.P t (by exact HRW.out) HP.out.1 (by have := HP.out; omega)).mono ?_
    rintro e w5 ⟨g, rfl, hg1, hg2, hb⟩
    have HG := hid hg2
    have HGE := hid (Nat.lt_of_lt_of_le (by obtain ⟨_, _, h⟩ := hS3.r2; exact lt_of_block h.res) hg1)
    go_wp2_with fail
    refine hK.out _ _ (rawR_keep hS3 hb) (fun hS5 => ?_)
    clear hK K
    refine wpAnyH_take (i := 8) (v := ?_) rfl (by kernel_rfl) (by kernel_rfl) (by kernel_rfl) (fun _ _ _ h => h) (Or.inl ⟨by rfl, ?_⟩) hS5 ?_
    rotate_left
    · intro w' hSw
      obtain ⟨q0, q1, q2, q3, q4, q5, q6, _⟩ := hSw
      go_simp
      try with_reducible rfl
    try simp only [Act.put]
    try simp only [List.setIfInBounds_toArray]
    try simp only [List.set_cons_zero, List.set_cons_succ]
    refine wpAnyH_take (i := 9) (v := undef) rfl (by kernel_rfl) (by kernel_rfl) (by kernel_rfl) (fun _ _ _ h => h) (Or.inr ⟨by rfl, rfl⟩) hS5 ?_
    try simp only [Act.put]
    try simp only [List.setIfInBounds_toArray]
    try simp only [List.set_cons_zero, List.set_cons_succ]
    refine wpAnyH_take (i := 10) (v := undef) rfl (by kernel_rfl) (by kernel_rfl) (by kernel_rfl) (fun _ _ _ h => h) (Or.inr ⟨by rfl, rfl⟩) hS5 ?_
    try simp only [Act.put]
    try simp only [List.setIfInBounds_toArray]
    try simp only [List.set_cons_zero, List.set_cons_succ]
    refine wpAnyH_take (i := 11) (v := undef) rfl (by kernel_rfl) (by kernel_rfl) (by kernel_rfl) (fun _ _ _ h => h) (Or.inr ⟨by rfl, rfl⟩) hS5 ?_
    try simp only [Act.put]
    try simp only [List.setIfInBounds_toArray]
    try simp only [List.set_cons_zero, List.set_cons_succ]
    refine wpAnyH_take (i := 12) (v := undef) rfl (by kernel_rfl) (by kernel_rfl) (by kernel_rfl) (fun _ _ _ h => h) (Or.inr ⟨by rfl, rfl⟩) hS5 ?_
    try simp only [Act.put]
    try simp only [List.setIfInBounds_toArray]
    try simp only [List.set_cons_zero, List.set_cons_succ]
    refine wpAnyH_take (i := 13) (v := ?_) rfl (by kernel_rfl) (by kernel_rfl) (by kernel_rfl) (fun _ _ _ h => h) (Or.inl ⟨by rfl, ?_⟩) hS5 ?_
    rotate_left
    · intro w' hSw
      obtain ⟨q0, q1, q2, q3, q4, q5, q6, _⟩ := hSw
      go_simp
      try with_reducible rfl
    try simp only [Act.put]
    try simp only [List.setIfInBounds_toArray]
    try simp only [List.set_cons_zero, List.set_cons_succ]
    refine wpAnyH_take (i := 14) (v := ?_) rfl (by kernel_rfl) (by kernel_rfl) (by kernel_rfl) (fun _ _ _ h => h) (Or.inl ⟨by rfl, ?_⟩) hS5 ?_
    rotate_left
    · intro w' hSw
      obtain ⟨q0, q1, q2, q3, q4, q5, q6, _⟩ := hSw
      go_simp
      try with_reducible rfl
    try simp only [Act.put]
    try simp only [List.setIfInBounds_toArray]
    try simp only [List.set_cons_zero, List.set_cons_succ]
    have HH5 := RawR.r2 hS5
    obtain ⟨e0, e1, H5⟩ := HH5
    obtain ⟨_, _, _, _, _, _, _, d0, d1, f0, f1, hz5⟩ := H5.facts
    have HH5 := hid H5
    clear H5
    refine wpAnyH_ready (rs := [15]) (by kernel_rfl) (by simp) ?_
    refine AllReadyH.cons rfl (fun K hK => ?_) AllReadyH.nil
    go_simp
    refine hK.out _ _ (rawR (r2e_set (RawR.r2 hS5))) (fun hS6 => ?_)
    clear hK K
    refine wpAnyH_ready (rs := [16]) (by kernel_rfl) (by simp) ?_
    refine AllReadyH.cons rfl (fun K hK => ?_) AllReadyH.nil
    go_simp
    refine hK.out _ _ hS6 (fun hS7 => ?_)
    clear hK K
    refine wpAnyH_done (by kernel_rfl) ?_ _
    go_wp2_with fail
    obtain ⟨c6, c7, c9⟩ := HH5.out.set (u := .slice (some ⟨g, 0, none⟩) c.P c.P) (v := .bool (decide (0 < c.K) && decide (c.K ≤ t)))
    have hge : g ≠ w.heap.size + 1 := by have := HGE.out; omega
    have hri := rowI_far (m := w.heap.size + 1) (i := 0) (j := 1) (u := .slice (some ⟨g, 0, none⟩) c.P c.P) (v := .bool (decide (0 < c.K) && decide (c.K ≤ t))) (rowI_of_block (cap := c.P) HG.out (by rw [List.length_replicate]; have := HP.out; omega)) hge
    rw [List.length_replicate] at hri
    (try simp only [hk, Bool.false_and] at c6 c7 c9 hri ⊢)
    refine bodyPost_ret (v := .tuple #[.agg #[.slice (some ⟨g, 0, none⟩) c.P c.P, .bool _], .int .i64 0]) (by first | (simp [results, Tryz.results121, go_sem, c6, c7]; done) | (simp [results, Tryz.results121, go_sem, c6, c7]; rfl)) rfl ⟨some ⟨g, 0, none⟩, c.P, by dsimp only; rw [List.length_replicate], by dsimp only; rw [List.length_replicate]; exact hri, c9⟩
  · refine AllReadyH.cons rfl (fun K hK => ?_) AllReadyH.nil
    go_simp
    refine (places_yes c _ HV.out).mono ?_
    rintro e w3 ⟨rfl, hb⟩
    go_wp2_with fail
    refine hK.out _ _ (rawR_keep hS0 hb) (fun hS1 => ?_)
    clear hK K
    refine wpAnyH_ready (rs := [1]) (by kernel_rfl) (by simp) ?_
    refine AllReadyH.cons rfl (fun K hK => ?_) AllReadyH.nil
    go_simp
    refine hK.out _ _ (rawR_keep hS1 ((Below.refl _ _).alloc (Nat.le_refl _) _)) (fun hS3 => ?_)
    clear hK K
    refine wpAnyH_ready (rs := [4]) (by kernel_rfl) (by simp) ?_
    refine AllReadyH.cons rfl (fun K hK => ?_) AllReadyH.nil
    go_simp
    refine (repeat_any _ _ 0 1 c.P t (by exact cell_alloc_new _ _ _ _ 0) HP.out.1 (by have := HP.out; omega)).mono ?_
    rintro e w5 ⟨g, rfl, hg1, hg2, hb⟩
    have HG := hid hg2
    have HGE := hid (Nat.lt_of_lt_of_le (by obtain ⟨_, _, h⟩ := hS3.r2; exact lt_of_block h.res) hg1)
    go_wp2_with fail
    refine hK.out _ _ (rawR_keep hS3 hb) (fun hS5 => ?_)
    clear hK K
    refine wpAnyH_take (i := 8) (v := ?_) rfl (by kernel_rfl) (by kernel_rfl) (by kernel_rfl) (fun _ _ _ h => h) (Or.inl ⟨by rfl, ?_⟩) hS5 ?_
    rotate_left
    · intro w' hSw
      obtain ⟨q0, q1, q2, q3, q4, q5, q6, _⟩ := hSw
      go_simp
      try with_reducible rfl
    try simp only [Act.put]
    try simp only [List.setIfInBounds_toArray]
    try simp only [List.set_cons_zero, List.set_cons_succ]
    refine wpAnyH_take (i := 9) (v := undef) rfl (by kernel_rfl) (by kernel_rfl) (by kernel_rfl) (fun _ _ _ h => h) (Or.inr ⟨by rfl, rfl⟩) hS5 ?_
    try simp only [Act.put]
    try simp only [List.setIfInBounds_toArray]
    try simp only [List.set_cons_zero, List.set_cons_succ]
    refine wpAnyH_take (i := 10) (v := undef) rfl (by kernel_rfl) (by kernel_rfl) (by kernel_rfl) (fun _ _ _ h => h) (Or.inr ⟨by rfl, rfl⟩) hS5 ?_
    try simp only [Act.put]
    try simp only [List.setIfInBounds_toArray]
    try simp only [List.set_cons_zero, List.set_cons_succ]
    refine wpAnyH_take (i := 11) (v := undef) rfl (by kernel_rfl) (by kernel_rfl) (by kernel_rfl) (fun _ _ _ h => h) (Or.inr ⟨by rfl, rfl⟩) hS5 ?_
    try simp only [Act.put]
    try simp only [List.setIfInBounds_toArray]
    try simp only [List.set_cons_zero, List.set_cons_succ]
    refine wpAnyH_take (i := 12) (v := undef) rfl (by kernel_rfl) (by kernel_rfl) (by kernel_rfl) (fun _ _ _ h => h) (Or.inr ⟨by rfl, rfl⟩) hS5 ?_
    try simp only [Act.put]
    try simp only [List.setIfInBounds_toArray]
    try simp only [List.set_cons_zero, List.set_cons_succ]
    refine wpAnyH_take (i := 13) (v := ?_) rfl (by kernel_rfl) (by kernel_rfl) (by kernel_rfl) (fun _ _ _ h => h) (Or.inl ⟨by rfl, ?_⟩) hS5 ?_
    rotate_left
    · intro w' hSw
      obtain ⟨q0, q1, q2, q3, q4, q5, q6, _⟩ := hSw
      go_simp
      try with_reducible rfl
    try simp only [Act.put]
    try simp only [List.setIfInBounds_toArray]
    try simp only [List.set_cons_zero, List.set_cons_succ]
    refine wpAnyH_take (i := 14) (v := ?_) rfl (by kernel_rfl) (by kernel_rfl) (by kernel_rfl) (fun _ _ _ h => h) (Or.inl ⟨by rfl, ?_⟩) hS5 ?_
    rotate_left
    · intro w' hSw
      obtain ⟨q0, q1, q2, q3, q4, q5, q6, _⟩ := hSw
      go_simp
      try with_reducible rfl
    try simp only [Act.put]
    try simp only [List.setIfInBounds_toArray]
    try simp only [List.set_cons_zero, List.set_cons_succ]
    have HH5 := RawR.r2 hS5
    obtain ⟨e0, e1, H5⟩ := HH5
    obtain ⟨_, _, _, _, _, _, _, d0, d1, f0, f1, hz5⟩ := H5.facts
    have HH5 := hid H5
    clear H5
    refine wpAnyH_ready (rs := [15]) (by kernel_rfl) (by simp) ?_
    refine AllReadyH.cons rfl (fun K hK => ?_) AllReadyH.nil
    go_simp
    refine hK.out _ _ (rawR (r2e_set (RawR.r2 hS5))) (fun hS6 => ?_)
    clear hK K
    refine wpAnyH_ready (rs := [16]) (by kernel_rfl) (by simp) ?_
    refine AllReadyH.cons rfl (fun K hK => ?_) AllReadyH.nil
    go_simp
    refine hK.out _ _ hS6 (fun hS7 => ?_)
    clear hK K
    refine wpAnyH_done (by kernel_rfl) ?_ _
    go_wp2_with fail
    obtain ⟨c6, c7, c9⟩ := HH5.out.set (u := .slice (some ⟨g, 0, none⟩) c.P c.P) (v := .bool (decide (0 < c.K) && decide (c.K ≤ t)))
    have hge : g ≠ w.heap.size + 1 := by have := HGE.out; omega
    have hri := rowI_far (m := w.heap.size + 1) (i := 0) (j := 1) (u := .slice (some ⟨g, 0, none⟩) c.P c.P) (v := .bool (decide (0 < c.K) && decide (c.K ≤ t))) (rowI_of_block (cap := c.P) HG.out (by rw [List.length_replicate]; have := HP.out; omega)) hge
    rw [List.length_replicate] at hri
    (try simp only [hk, Bool.false_and] at c6 c7 c9 hri ⊢)
    refine bodyPost_ret (v := .tuple #[.agg #[.slice (some ⟨g, 0, none⟩) c.P c.P, .bool _], .int .i64 0]) (by first | (simp [results, Tryz.results121, go_sem, c6, c7]; done) | (simp [results, Tryz.results121, go_sem, c6, c7]; rfl)) rfl ⟨some ⟨g, 0, none⟩, c.P, by dsimp only; rw [List.length_replicate], by dsimp only; rw [List.length_replicate]; exact hri, c9⟩
end Go.Proofs.YtihbjimnjhfpeaaGreat
