/- Walk of Running of package lethal: contracts. -/
import Derived.Test.YtfngmpkceceomaaSq
import Derived.Maps.OwnIn
import Derived.RangeFuncBox
namespace Go.Proofs.Ytfngmpkceceomaa
open Go.RowKit Go.Lib Go.Maps Go.Shelf
attribute [local go_sem] Oper.semAt_some

/-- Every block of the n0 first stays, but two. -/
def KpX (n0 x0 y0 : Nat) (W W' : World) : Prop := W.heap.size ≤ W'.heap.size ∧ ∀ j, j < n0 → j ≠ x0 → j ≠ y0 → W'.heap[j]? = W.heap[j]?
theorem KpX.trans {n0 x0 y0 : Nat} {A B C : World} (h : KpX n0 x0 y0 A B) (k : KpX n0 x0 y0 B C) : KpX n0 x0 y0 A C := ⟨Nat.le_trans h.1 k.1, fun j h1 h2 h3 => (k.2 j h1 h2 h3).trans (h.2 j h1 h2 h3)⟩
theorem KpX.put {n0 x0 y0 l : Nat} {W : World} {o o' : Obj} (hl : n0 ≤ l) (_h : W.heap[l]? = some o) : KpX n0 x0 y0 W (W.putObj l o') :=
  ⟨by simp, fun j h1 _ _ => World.putObj_heap_other (by omega)⟩
theorem KpX.cell {n0 x0 y0 a i : Nat} {W W' : World} {v : Value} (h : KpX n0 x0 y0 W W') (ha : a < n0) (hne : a ≠ x0 ∧ a ≠ y0) (hc : W.cell? ⟨a, i, none⟩ = some v) : W'.cell? ⟨a, i, none⟩ = some v := by
  rw [World.cell?_of_block (a := ⟨a, i, none⟩) (h.2 a ha hne.1 hne.2)]; exact hc
theorem ItS.keepX {fn : Fn} {s : ByteArray} {r : Int} {Z : Nat} {d g : Int} {L mb tb rb : Nat} {a : Option Addr} {b o cap n0 k x0 y0 : Nat} {l : List Int} {w w' : World} (h : ItS fn s r Z d g L mb tb rb a b o cap n0 l k w) (hb : KpX n0 x0 y0 w w')
    (hx : (tb ≠ x0 ∧ tb ≠ y0) ∧ (rb ≠ x0 ∧ rb ≠ y0) ∧ (L ≠ x0 ∧ L ≠ y0) ∧ (mb ≠ x0 ∧ mb ≠ y0) ∧ (l ≠ [] → b ≠ x0 ∧ b ≠ y0)) : ItS fn s r Z d g L mb tb rb a b o cap n0 l k w' := by
  obtain ⟨x1, x2, x3, x4, x5⟩ := hx
  obtain ⟨⟨c0, c1, c2, c3, c4, c5, c6⟩, hne, D, ⟨es, clock, h1, h2⟩, hg⟩ := h.rds
  refine ⟨hb.cell h.lt.1 x1 h.temps, h.addr, hb.cell h.lt.2.1 x2 h.rate, fun j hj => ?_, ⟨⟨hb.cell h.lt.2.2.1 x3 c0, hb.cell h.lt.2.2.1 x3 c1, hb.cell h.lt.2.2.1 x3 c2, hb.cell h.lt.2.2.1 x3 c3, hb.cell h.lt.2.2.1 x3 c4, hb.cell h.lt.2.2.1 x3 c5, Nat.lt_of_lt_of_le c6 hb.1⟩, hne, D, ⟨es, clock, (hb.2 mb h.lt.2.2.2.1 x4.1 x4.2).trans h1, h2⟩, hg⟩, h.lt, Nat.le_trans h.le hb.1⟩
  have hl : l ≠ [] := by rintro rfl; exact absurd hj (Nat.not_lt_zero _)
  exact hb.cell (h.lt.2.2.2.2 hl) (x5 hl) (h.cells j hj)
theorem sums_start (fn : Fn) (s : ByteArray) (r d g : Int) (Z L mb : Nat) (a : Option Addr) (b o cap : Nat) (l : List Int) (w : World) (T2 T3 : TypeId)
    (ha : l = [] ∨ a = some ⟨b, o, none⟩) (hc : ∀ j (h : j < l.length), w.cell? ⟨b, o + j, none⟩ = some (.int .i64 l[j])) (hb : l ≠ [] → b < w.heap.size) (hS : RdS s r Z d g L mb 0 w) :
    ∃ W0, (w.alloc (.cells #[.slice a l.length cap] T2)).alloc (.cells #[.func fn #[] #[.pointer (some ⟨L, 0, none⟩)]] T3) = W0 ∧ W0.heap.size = w.heap.size + 2 ∧
      ItS fn s r Z d g L mb w.heap.size (w.heap.size + 1) a b o cap (w.heap.size + 2) l 0 W0 ∧ Below w.heap.size w W0 := by
  have hLlt : L < w.heap.size := hS.1.2.2.2.2.2.2
  have hmlt : mb < w.heap.size := hS.2.2.lt
  have hB : Below w.heap.size w ((w.alloc (.cells #[.slice a l.length cap] T2)).alloc (.cells #[.func fn #[] #[.pointer (some ⟨L, 0, none⟩)]] T3)) := ((Below.refl _ _).alloc (Nat.le_refl _) _).alloc (by simp) _
  have c1 := cell_alloc_new w #[.slice a l.length cap] T2 (0, 0) 0
  have c2 := cell_alloc_new (w.alloc (.cells #[.slice a l.length cap] T2)) #[.func fn #[] #[.pointer (some ⟨L, 0, none⟩)]] T3 (0, 0) 0
  rw [alloc_size] at c2
  exact ⟨_, rfl, by simp, ⟨keep_cell (Below.alloc (Below.refl _ _) (Nat.le_refl _) _) c1, ha, c2, fun j hj => keep_cell hB (hc j hj), hS.kept (row := none) (gbelow hB) (by simp) (by simp), ⟨by omega, by omega, by omega, by omega, fun h => by have := hb h; omega⟩, by simp⟩, hB⟩
theorem sumsX_seq (s : ByteArray) (r d g : Int) (Z L mb tb rb x0 y0 : Nat) (a : Option Addr) (b o cap n0 : Nat) (l : List Int) (w0 : World) (r1 : -200 ≤ r) (r2 : r ≤ 800) (z1 : 1 ≤ Z) (z2 : Z ≤ 60) (hlen : l.length ≤ 10000) (ho : okL l = true)
    (hI : ItS (.func 87) s r Z d g L mb tb rb a b o cap n0 l 0 w0) (hx : (tb ≠ x0 ∧ tb ≠ y0) ∧ (rb ≠ x0 ∧ rb ≠ y0) ∧ (L ≠ x0 ∧ L ≠ y0) ∧ (mb ≠ x0 ∧ mb ≠ y0) ∧ (l ≠ [] → b ≠ x0 ∧ b ≠ y0)) :
    SeqM Fence.wide 9 Try.prog 91 #[.pointer (some ⟨tb, 0, none⟩), .pointer (some ⟨rb, 0, none⟩)] encS (KpX n0 x0 y0) mb (seqS (dn r Z) l) w0 := fun l0 J Jx W hW hJ hJx hY h0 =>
  sums_down l0 s r d g Z L mb tb rb a b o cap n0 W.heap.size l J Jx r1 r2 z1 z2 (KpX n0 x0 y0) (fun k W W' h hk => h.keepX hk hx) hJ hY W (hI.past (hW.mono hI.le)) h0 hlen ho
theorem seqS_run (f : Int → Nat) (l : List Int) : (seqS f l).map (·.2) = runK f l l.length := by simp [seqS, runK]
theorem seqS_run_succ {f : Int → Nat} {l : List Int} {k : Nat} {x : Nat × Nat} (h : (seqS f l)[k]? = some x) : ((seqS f l).take (k + 1)).map (·.2) = ((seqS f l).take k).map (·.2) ++ [x.2] := by
  rw [List.take_add_one, h]; simp

/-- The list that Running makes: its row is the one made at first, or a new one. -/
def RunI (bx g n0 : Nat) (w : World) (l : List Nat) (W : World) : Prop :=
  ∃ v, W.heap[bx]? = some (.cells #[v] 32 (0, 0)) ∧ RowV W g v l ∧ (v.ownBlock = some g ∨ ∃ j, v.ownBlock = some j ∧ n0 ≤ j) ∧ Below w.heap.size w W ∧ n0 ≤ W.heap.size
theorem own_slice {W : World} {g : Nat} {v : Value} {l : List Nat} (h : RowV W g v l) (hv : v.ownBlock ≠ none) : ∃ j cap, v = .slice (some ⟨j, 0, none⟩) l.length cap ∧ g ≤ j := by
  rcases h.2 with ⟨rfl, _⟩ | ⟨j, cap, cur, rfl, hb, _⟩
  · exact absurd rfl hv
  · exact ⟨j, cap, rfl, hb⟩

theorem RowV.isCells {W : World} {g q : Nat} {v : Value} {l : List Nat} (h : RowV W g v l) (hv : v.ownBlock = some q) : ∃ cs, W.heap[q]? = some (.cells cs 3 (0, 0)) ∧ g ≤ q := by
  rcases h.2 with ⟨rfl, _⟩ | ⟨j, cap, cur, rfl, hb, hg, _⟩
  · cases hv
  · cases hv; exact ⟨_, hg, hb⟩
set_option maxHeartbeats 8000000 in
theorem lRunning_ok (s : ByteArray) (r d g : Int) (Z : Nat) (w : World) (hs : s.size ≤ maxLen) (v : Value) (l : List Int) (hl : RowI w v l) (hv : validB s.data.toList r Z d g = true) (ho : okL l = true) (hlen : l.length ≤ 10000) :
    Calls Try.prog 42 #[.agg #[.string s, .int .i64 r, .int .i64 Z, .int .i64 d, .int .i64 g], v] w (RunP (dn r Z) l w) := by
  obtain ⟨_, ⟨r1, r2⟩, ⟨z1, z2⟩, _, _⟩ := validB_iff.1 hv
  obtain ⟨i0, hi, hz0, hz1, hz2⟩ := info_parts info_int
  have HL := hid (RowI.keep hl (((Below.refl _ w).alloc (Nat.le_refl _) (.cells #[.string s, .int .i64 r, .int .i64 Z, .int .i64 d, .int .i64 g] 23))))
  obtain ⟨a, b, o, cap, rfl, ha, hc, hbl⟩ := hl.form
  have HA := hid (askE_ok (l := l) (by omega) ho)
  have HO := hid ho; have HAD := hid ha; have HC := hid hc; have HBL := hid hbl
  clear ho ha hc hbl hl
  refine (callsIn_wide (n := 10)).1 ?_
  refine callsIn_of_wp_marks Try.func42 rfl trivial ?_ rfl
  simp only [Try.ntmps42, List.size_toArray, List.length_cons, List.length_nil, Nat.reduceAdd, Nat.reduceSub, Array.replicate_succ, Array.replicate_zero, List.push_toArray, List.append_toArray, List.nil_append, List.cons_append]
  gi_wp2
  refine ⟨trivial, ?_⟩
  refine (callsIn_wide.2 (checkTemps_any _ _ _ _ _ _ hs _ l HL.out)).mono ?_
  rintro e w1 ⟨rfl, hb1⟩
  rw [hv, HA.out]
  obtain ⟨b0, b1, b2, b3, b4, hz, hB⟩ := box5_below hb1
  have hb1s := hid hz
  clear hb1
  gi_wp2_with (gi_at_make; refine wpListIn_make_own _ rfl _ _ 32 rfl w1.heap.size 3 i0 (.int .i64 0) 1 Try.underlying32 hi hz0 hz1 _ _ _ l.length rfl rfl (by omega) (by rw [hz2]; omega) (by unfold maxLen; omega) (by simp) ?_; intro w0 hown0 hgrow0; have hb0 := (Below.refl w1.heap.size w1).grown hgrow0 (Nat.le_refl _) (fun j e => by cases e); obtain ⟨b0, b1, b2, b3, b4, hz, hB⟩ := kbox_keep hb0 ⟨b0, b1, b2, b3, b4, hz, hB⟩; have HG := hid (And.intro hown0 (And.intro hgrow0.size hb0)); clear hown0 hgrow0 hb0)
  refine ⟨trivial, ?_⟩
  refine (callsIn_wide.2 (rateDown_any _ _ _ _ Z _ hs)).mono ?_
  rintro e w2 ⟨L, mb, rfl, hS, hmb, hLb, hb2⟩
  have HS := hid hS; have HM := hid (And.intro hmb hLb); have HB2 := hid hb2; have HB := hid hB
  clear hS hmb hLb hb2 hB b0 b1 b2 b3 b4 hz
  gi_wp2
  refine ⟨trivial, ?_⟩
  refine (callsIn_wide.2 (sums_make a l.length cap _ _ _)).mono ?_
  rintro e w3 ⟨rfl, rfl⟩
  gi_wp2
  have hB02 : Below w.heap.size w w2 := HB.out.trans ((balloc HB2.out).mono HB.out.size)
  obtain ⟨W0, hW0, hsz, hI, hbW⟩ := sums_start (.func 87) s r d g Z L mb a b o cap l w2 32 45 HAD.out (fun j h => keep_cell hB02 (HC.out j h)) (fun h => Nat.lt_of_lt_of_le (HBL.out h) hB02.size) HS.out
  rw [hW0]
  obtain ⟨hown0, hs10, hb10⟩ := HG.out
  obtain ⟨hm1, hm2⟩ := HM.out
  rw [alloc_size] at hm1 hm2
  have hs02 := HB2.out.size
  rw [alloc_size] at hs02
  have hg0 : w1.heap.size < w0.heap.size := (World.ownsRow.lt hown0 _ rfl).2
  have hbg : w.heap.size < w1.heap.size := by have := hb1s.out; omega
  have hbb : ∀ o', ((w0.alloc o').heap[w0.heap.size]? = some o') := fun o' => World.alloc_heap_new w0 o'
  have hbx : W0.heap[w0.heap.size]? = some (.cells #[.slice (some ⟨w1.heap.size, 0, none⟩) 0 l.length] 32 (0, 0)) :=
    (hbW.block _ (by omega)).trans ((HB2.out.block _ (by rw [alloc_size]; omega)).trans (hbb _))
  have hrow : RowV W0 w1.heap.size (.slice (some ⟨w1.heap.size, 0, none⟩) 0 l.length) [] :=
    RowV.keep (l := []) hown0 ((balloc HB2.out).trans (hbW.mono (by omega)))
  have hlow : Below w.heap.size w W0 := hB02.trans (hbW.mono hB02.size)
  refine range_map (F := Fence.wide) (n := 10) (mb := mb) (xs := seqS (dn r Z) l) (encs := encS) (Kp := KpX (w2.heap.size + 2) w0.heap.size w1.heap.size) (w0 := W0) rfl (by omega) (gf := 91) (lb := #[.pointer (some ⟨w2.heap.size, 0, none⟩), .pointer (some ⟨w2.heap.size + 1, 0, none⟩)]) rfl trivial (enters_of Try.func91 (by kernel_rfl) rfl)
    (sumsX_seq s r d g Z L mb _ _ w0.heap.size w1.heap.size a b o cap _ l W0 r1 r2 (by omega) (by omega) hlen HO.out hI ⟨by omega, by omega, by omega, by omega, fun h => by have := HBL.out h; omega⟩)
    (fun h k => h.trans k) (fun W l o o' hl h _ _ => KpX.put (by omega) h) (Below.refl _ _) (fun _ => rfl)
    (fun pre W => RunI w0.heap.size w1.heap.size (w2.heap.size + 2) w (pre.map (·.2)) W) (fun _ _ => False) ?hI ?hIx ⟨_, hbx, hrow, .inl rfl, hlow, by omega⟩
    (fun x => { tmps := #[.agg #[.string s, .int .i64 r, .int .i64 Z, .int .i64 d, .int .i64 g], .slice a l.length cap, .pointer (some ⟨w.heap.size, 0, none⟩), undef, .slice none 0 0, .int .i64 0, .int .i64 0, .pointer (some ⟨w0.heap.size, 0, none⟩), undef, .int .i64 (x.2 : Int),
      .agg #[.string s, .int .i64 r, .int .i64 Z, .int .i64 d, .int .i64 g], .slice a l.length cap, .int .i64 0, .int .i64 0, .bool false, undef, .slice a l.length cap, .int .i64 l.length, .slice (some ⟨w1.heap.size, 0, none⟩) 0 l.length, .slice a l.length cap,
      .agg #[.string s, .int .i64 r, .int .i64 Z, .int .i64 d, .int .i64 g], .func (.func 87) #[] #[.pointer (some ⟨L, 0, none⟩)], .func (.func 91) #[] #[.pointer (some ⟨w2.heap.size, 0, none⟩), .pointer (some ⟨w2.heap.size + 1, 0, none⟩)], .int .i64 (x.1 : Int), .int .i64 (x.2 : Int), undef, undef, undef, undef, undef], defers := [] }) ?assign ?body ?done ?stop
  case assign =>
    intro l x W K hK
    simp only [encS]
    gi_wp2
    exact hK
  case body =>
    rintro l' k x W hx ⟨v, hcell, hrow, hob, hlow, hn0⟩
    obtain ⟨j, cap', rfl, hj⟩ := own_slice hrow (by rcases hob with h | ⟨_, h, _⟩ <;> rw [h] <;> simp)
    have hjx : j = w1.heap.size ∨ w2.heap.size + 2 ≤ j := by
      rcases hob with h | ⟨q, h, hq⟩
      · cases h; exact .inl rfl
      · cases h; exact .inr hq
    have hn : (((seqS (dn r Z) l).take k).map (·.2)).length ≤ 10000 := by rw [List.length_map, List.length_take, seqS_len]; omega
    have hbl := lt_of_block hcell
    have hcs := seqS_run_succ hx
    generalize ((seqS (dn r Z) l).take k).map (·.2) = q at hcell hrow hn hcs ⊢
    have c0 := blk_cell (i := 0) hcell
    have f0 := blk_free (i := 0) hcell
    have HC := hid hcell; have HR := hid hrow; have HLW := hid hlow; have HJ := hid hjx; have HCS := hid hcs; have HX := hid hx
    clear hcell hrow hob hlow hjx hcs hx
    gi_wp2_with (gi_at_builtin; refine wpListIn_append_own_at _ rfl _ _ 32 rfl w1.heap.size 3 i0 (.int .i64 0) 1 8 Try.underlying32 hi hz0 hz1 hz2 rfl (by decide) _ _ _ rfl (World.ownsRow.alloc HR.out _) ⟨W.heap.size, 0, none⟩ 1 1 [.int .i64 (x.2 : Int)] rfl rfl cell_one_at one_cell (by unfold maxLen; omega) (by omega) (by simp; omega) ?_; intro v1 w4 hown4 hgrow4 _ hat4; obtain ⟨g4, cap4, rfl⟩ := ownsRow_succ hown4; have hb4 := (hgrow4.block w0.heap.size (by rw [alloc_size]; omega) (fun e => by have e' : w0.heap.size = j := Option.some.inj e; rcases HJ.out with h | h <;> omega)).trans ((Below.heap_alloc W _ _ hbl).trans HC.out); have c4 := blk_cell (i := 0) hb4; have f4 := blk_free (i := 0) hb4; have HB4 := hid hb4; have HG4 := hid hgrow4; have HO4 := hid hown4; have HA4 := hid hat4; clear hb4 hgrow4 hown4 hat4)
    have hs4 := HG4.out.size
    rw [alloc_size] at hs4
    have hlt4 := lt_of_block HB4.out
    have hrow4 : RowV w4 w1.heap.size (.slice (some ⟨g4, 0, none⟩) (q.length + 1) cap4) (q ++ [x.2]) := row_append rfl HO4.out
    have hg4 : g4 = w1.heap.size ∨ w2.heap.size + 2 ≤ g4 := by
      rcases HA4.out with h | h
      · cases h; exact HJ.out
      · have e : g4 = W.heap.size + 1 := by have := Option.some.inj h; rwa [alloc_size] at this
        rcases HJ.out with h1 | h1
        · exact .inr (by omega)
        · exact .inr (by omega)
    have hKp : KpX (w2.heap.size + 2) w0.heap.size w1.heap.size W (w4.setCell ⟨w0.heap.size, 0, none⟩ (.slice (some ⟨g4, 0, none⟩) (q.length + 1) cap4)) := by
      refine ⟨by rw [size_set]; omega, fun i h1 h2 h3 => ?_⟩
      rw [Below.heap_setCell _ _ _ _ (by exact h2)]
      refine (HG4.out.block i (by rw [alloc_size]; omega) (fun e => ?_)).trans (Below.heap_alloc W _ i (by omega))
      have e' : i = j := Option.some.inj e
      rcases HJ.out with h | h <;> omega
    have hrow5 : RowV (w4.setCell ⟨w0.heap.size, 0, none⟩ (.slice (some ⟨g4, 0, none⟩) (q.length + 1) cap4)) w1.heap.size (.slice (some ⟨g4, 0, none⟩) (q.length + 1) cap4) (q ++ [x.2]) :=
      World.ownsRow.kept hrow4 (grownBy_setCell' w4 w0.heap.size _) (.inr fun e => by have e' : g4 = w0.heap.size := Option.some.inj e; rcases hg4 with h | h <;> omega)
    have hlow5 : Below w.heap.size w (w4.setCell ⟨w0.heap.size, 0, none⟩ (.slice (some ⟨g4, 0, none⟩) (q.length + 1) cap4)) :=
      (((HLW.out.alloc HLW.out.size _).grown HG4.out (by have := HLW.out.size; rw [alloc_size]; omega) (fun i e => by have e' : j = i := Option.some.inj e; rcases HJ.out with h | h <;> omega)).grown (grownBy_setCell' w4 w0.heap.size _) (by have := HLW.out.size; omega) (fun i e => by have e' : w0.heap.size = i := Option.some.inj e; omega))
    refine ⟨?_, hKp, ?_⟩
    · refine (((KeepsOthers.alloc W _).trans (KeepsOthers.of_grownBy HG4.out fun i o' ej hi => ?_)).trans (KeepsOthers.setCell _ _ _)).from _
      obtain ⟨cs, hcs, _⟩ := RowV.isCells (g := w1.heap.size) (W := W.alloc _) (World.ownsRow.alloc HR.out _) ej
      rw [hcs] at hi; cases hi; rfl
    · rw [HCS.out]
      refine ⟨_, ?_, hrow5, ?_, hlow5, by rw [size_set]; omega⟩
      · exact blk_set HB4.out
      · rcases hg4 with h | h
        · exact .inl (by rw [h]; rfl)
        · exact .inr ⟨g4, rfl, h⟩
  case done =>
    rintro D W hD ⟨v, hcell, hrow, hob, hlow, hn0⟩ hK
    obtain ⟨j, cap', rfl, hj⟩ := own_slice hrow (by rcases hob with h | ⟨_, h, _⟩ <;> rw [h] <;> simp)
    rw [seqS_run] at hrow hcell
    have c0 := blk_cell (i := 0) hcell
    have f0 := blk_free (i := 0) hcell
    have hbl := lt_of_block hcell
    have HC := hid hcell; have HR := hid hrow; have HLW := hid hlow
    clear hcell hrow hob hlow
    gi_wp2
    refine ⟨by simp, .inl ⟨_, _, rfl, run_takeDeferred hK, ?_⟩⟩
    refine ⟨_, results_tmp2 rfl _ _ _, ?_⟩
    have hRK := seqS_run (dn r Z) l
    refine ⟨_, rfl, RowV.reads (base := w1.heap.size) (World.ownsRow.kept HR.out (grownBy_putObj' W D _) (.inr fun e => ?_)), HLW.out.grown (grownBy_putObj' W D _) HLW.out.size (fun j e => by cases e; omega)⟩
    obtain ⟨cs, hcs, _⟩ := HR.out.isCells e
    rw [hK] at hcs; cases hcs
  case stop => rintro D k W hD h; exact h.elim
  case hI =>
    rintro pre A B' row ⟨v, hcell, hrow, hob, hlow, hn0⟩ hgr hr
    have hne : ∀ j, row = some j → j ≠ w0.heap.size ∧ w.heap.size ≤ j ∧ some j ≠ v.ownBlock := by
      intro j e
      obtain ⟨h1, ob, h2, h3⟩ := hr j e
      have hc : A.heap[w0.heap.size]? = some _ := hcell
      refine ⟨fun e' => ?_, by rcases h1 with h | h <;> omega, fun e' => ?_⟩
      · rw [e', hc] at h2; cases h2; cases h3
      · obtain ⟨g', hg'⟩ := hrow.isCells (e'.symm)
        rw [hg'.1] at h2; cases h2; cases h3
    refine ⟨v, (hgr.block _ (lt_of_block hcell) (fun e => (hne _ e.symm).1 rfl)).trans hcell, World.ownsRow.kept hrow hgr (by cases hv : v.ownBlock with | none => exact .inl rfl | some q => exact .inr fun e => (hne _ e.symm).2.2 hv.symm), hob, hlow.grown hgr hlow.size (fun j e => (hne j e).2.1), Nat.le_trans hn0 hgr.size⟩
  case hIx => rintro pre A B' row h; exact h.elim
end Go.Proofs.Ytfngmpkceceomaa
