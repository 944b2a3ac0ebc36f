/- Walks of goodBy, Good and Faults: contracts. -/
import Derived.Test.YtlhjiikbehmamaaOh
namespace Go.Proofs.Ytlhjiikbehmamaa
open Go.RowKit

/-- What goodBy makes. -/
def GoodByP (n : Nm) (w : World) (e : Ending) (w' : World) : Prop := ∃ (g1 : Nat) (v : Value), e = .returned (.func (.func 54) #[] #[.pointer (some ⟨g1, 0, none⟩)]) ∧ w'.cell? ⟨g1, 0, none⟩ = some v ∧ FaultR n w' v ∧ Below w.heap.size w w'
set_option maxHeartbeats 2000000 in
theorem goodBy_any (n : Nm) (w : World) : Calls Try.prog 44 #[.agg #[.int .i64 n.bl, .int .i64 n.bh, .int .i64 n.cl, .int .i64 n.ch, .int .i64 n.pc, .int .i64 n.wr, .int .i64 n.tl, .int .i64 n.th, .int .i64 n.sl, .int .i64 n.sh]] w (GoodByP n w) := by
  have HX := hid (box1_start (w := w) (A := #[.int .i64 n.bl, .int .i64 n.bh, .int .i64 n.cl, .int .i64 n.ch, .int .i64 n.pc, .int .i64 n.wr, .int .i64 n.tl, .int .i64 n.th, .int .i64 n.sl, .int .i64 n.sh]) (T := 23) (fz := (0, 0)))
  have HBX := hid (fun w1 (g : Below (w.alloc (.cells #[.int .i64 n.bl, .int .i64 n.bh, .int .i64 n.cl, .int .i64 n.ch, .int .i64 n.pc, .int .i64 n.wr, .int .i64 n.tl, .int .i64 n.th, .int .i64 n.sl, .int .i64 n.sh] 23)).heap.size (w.alloc (.cells #[.int .i64 n.bl, .int .i64 n.bh, .int .i64 n.cl, .int .i64 n.ch, .int .i64 n.pc, .int .i64 n.wr, .int .i64 n.tl, .int .i64 n.th, .int .i64 n.sl, .int .i64 n.sh] 23)) w1) => box1_call g)
  go_enter Try.func44, Try.ntmps44
  go_wp2_with fail
  refine (faultsBy_any n _).mono ?_
  intro e w1 hf
  obtain ⟨v, rfl, hF, hb⟩ := faultR_of hf
  have HX1 := hid (HBX.out _ hb)
  have HK := hid (show Below w1.heap.size w1 (w1.alloc (.cells #[v] 65)) from (Below.refl _ _).alloc (Nat.le_refl _) _)
  have HF := hid (hF.keep HK.out)
  have HC := hid (cell_alloc_new w1 #[v] 65 (0, 0) 0)
  have HB := hid (bstep HX1.out.low HX1.out.low.size HK.out)
  obtain ⟨g, rfl, _⟩ := hF
  clear hf hb
  go_wp2_with fail
  go_ret
  exact ⟨_, _, rfl, HC.out, HF.out, HB.out⟩
def okG (n : Nm) (x : Sh) : Bool := nmB n && shB x
/-- A bool and an error. -/
def BoolP (b : Bool) (c : Int) (w : World) (e : Ending) (w' : World) : Prop := e = .returned (.tuple #[.bool b, .int .i64 c]) ∧ Below w.heap.size w w'
theorem sg_keep {w W w2 : World} {a b : Nat} {n : Nm} {x : Sh} (hb : Below W.heap.size W w2) (h : World.cell? (W) ⟨a, 0, none⟩ = some (.int .i64 n.bl) ∧ World.cell? (W) ⟨a, 1, none⟩ = some (.int .i64 n.bh) ∧ World.cell? (W) ⟨a, 2, none⟩ = some (.int .i64 n.cl) ∧ World.cell? (W) ⟨a, 3, none⟩ = some (.int .i64 n.ch) ∧ World.cell? (W) ⟨a, 4, none⟩ = some (.int .i64 n.pc) ∧ World.cell? (W) ⟨a, 5, none⟩ = some (.int .i64 n.wr) ∧ World.cell? (W) ⟨a, 6, none⟩ = some (.int .i64 n.tl) ∧ World.cell? (W) ⟨a, 7, none⟩ = some (.int .i64 n.th) ∧ World.cell? (W) ⟨a, 8, none⟩ = some (.int .i64 n.sl) ∧ World.cell? (W) ⟨a, 9, none⟩ = some (.int .i64 n.sh) ∧ World.cell? (W) ⟨b, 0, none⟩ = some (.int .i64 x.tk) ∧ World.cell? (W) ⟨b, 1, none⟩ = some (.int .i64 x.hd) ∧ World.cell? (W) ⟨b, 2, none⟩ = some (.int .i64 x.bh) ∧ World.cell? (W) ⟨b, 3, none⟩ = some (.int .i64 x.ch) ∧ World.cell? (W) ⟨b, 4, none⟩ = some (.int .i64 x.ht) ∧ World.cell? (W) ⟨b, 5, none⟩ = some (.int .i64 x.ep) ∧ World.cell? (W) ⟨b, 6, none⟩ = some (.int .i64 x.bp) ∧ World.cell? (W) ⟨b, 7, none⟩ = some (.int .i64 x.wr) ∧ World.cell? (W) ⟨b, 8, none⟩ = some (.int .i64 x.th) ∧ World.cell? (W) ⟨b, 9, none⟩ = some (.int .i64 x.cs) ∧ Below w.heap.size w (W)) : World.cell? (w2) ⟨a, 0, none⟩ = some (.int .i64 n.bl) ∧ World.cell? (w2) ⟨a, 1, none⟩ = some (.int .i64 n.bh) ∧ World.cell? (w2) ⟨a, 2, none⟩ = some (.int .i64 n.cl) ∧ World.cell? (w2) ⟨a, 3, none⟩ = some (.int .i64 n.ch) ∧ World.cell? (w2) ⟨a, 4, none⟩ = some (.int .i64 n.pc) ∧ World.cell? (w2) ⟨a, 5, none⟩ = some (.int .i64 n.wr) ∧ World.cell? (w2) ⟨a, 6, none⟩ = some (.int .i64 n.tl) ∧ World.cell? (w2) ⟨a, 7, none⟩ = some (.int .i64 n.th) ∧ World.cell? (w2) ⟨a, 8, none⟩ = some (.int .i64 n.sl) ∧ World.cell? (w2) ⟨a, 9, none⟩ = some (.int .i64 n.sh) ∧ World.cell? (w2) ⟨b, 0, none⟩ = some (.int .i64 x.tk) ∧ World.cell? (w2) ⟨b, 1, none⟩ = some (.int .i64 x.hd) ∧ World.cell? (w2) ⟨b, 2, none⟩ = some (.int .i64 x.bh) ∧ World.cell? (w2) ⟨b, 3, none⟩ = some (.int .i64 x.ch) ∧ World.cell? (w2) ⟨b, 4, none⟩ = some (.int .i64 x.ht) ∧ World.cell? (w2) ⟨b, 5, none⟩ = some (.int .i64 x.ep) ∧ World.cell? (w2) ⟨b, 6, none⟩ = some (.int .i64 x.bp) ∧ World.cell? (w2) ⟨b, 7, none⟩ = some (.int .i64 x.wr) ∧ World.cell? (w2) ⟨b, 8, none⟩ = some (.int .i64 x.th) ∧ World.cell? (w2) ⟨b, 9, none⟩ = some (.int .i64 x.cs) ∧ Below w.heap.size w (w2) :=
  ⟨keep_cell hb h.1, keep_cell hb h.2.1, keep_cell hb h.2.2.1, keep_cell hb h.2.2.2.1, keep_cell hb h.2.2.2.2.1, keep_cell hb h.2.2.2.2.2.1, keep_cell hb h.2.2.2.2.2.2.1, keep_cell hb h.2.2.2.2.2.2.2.1, keep_cell hb h.2.2.2.2.2.2.2.2.1, keep_cell hb h.2.2.2.2.2.2.2.2.2.1, keep_cell hb h.2.2.2.2.2.2.2.2.2.2.1, keep_cell hb h.2.2.2.2.2.2.2.2.2.2.2.1, keep_cell hb h.2.2.2.2.2.2.2.2.2.2.2.2.1, keep_cell hb h.2.2.2.2.2.2.2.2.2.2.2.2.2.1, keep_cell hb h.2.2.2.2.2.2.2.2.2.2.2.2.2.2.1, keep_cell hb h.2.2.2.2.2.2.2.2.2.2.2.2.2.2.2.1, keep_cell hb h.2.2.2.2.2.2.2.2.2.2.2.2.2.2.2.2.1, keep_cell hb h.2.2.2.2.2.2.2.2.2.2.2.2.2.2.2.2.2.1, keep_cell hb h.2.2.2.2.2.2.2.2.2.2.2.2.2.2.2.2.2.2.1, keep_cell hb h.2.2.2.2.2.2.2.2.2.2.2.2.2.2.2.2.2.2.2.1, bstep h.2.2.2.2.2.2.2.2.2.2.2.2.2.2.2.2.2.2.2.2 h.2.2.2.2.2.2.2.2.2.2.2.2.2.2.2.2.2.2.2.2.size hb⟩
theorem sg_new {w W : World} {n : Nm} {x : Sh} (h : Box2 w W #[.int .i64 n.bl, .int .i64 n.bh, .int .i64 n.cl, .int .i64 n.ch, .int .i64 n.pc, .int .i64 n.wr, .int .i64 n.tl, .int .i64 n.th, .int .i64 n.sl, .int .i64 n.sh] #[.int .i64 x.tk, .int .i64 x.hd, .int .i64 x.bh, .int .i64 x.ch, .int .i64 x.ht, .int .i64 x.ep, .int .i64 x.bp, .int .i64 x.wr, .int .i64 x.th, .int .i64 x.cs]) : World.cell? (W.drew) ⟨w.heap.size, 0, none⟩ = some (.int .i64 n.bl) ∧ World.cell? (W.drew) ⟨w.heap.size, 1, none⟩ = some (.int .i64 n.bh) ∧ World.cell? (W.drew) ⟨w.heap.size, 2, none⟩ = some (.int .i64 n.cl) ∧ World.cell? (W.drew) ⟨w.heap.size, 3, none⟩ = some (.int .i64 n.ch) ∧ World.cell? (W.drew) ⟨w.heap.size, 4, none⟩ = some (.int .i64 n.pc) ∧ World.cell? (W.drew) ⟨w.heap.size, 5, none⟩ = some (.int .i64 n.wr) ∧ World.cell? (W.drew) ⟨w.heap.size, 6, none⟩ = some (.int .i64 n.tl) ∧ World.cell? (W.drew) ⟨w.heap.size, 7, none⟩ = some (.int .i64 n.th) ∧ World.cell? (W.drew) ⟨w.heap.size, 8, none⟩ = some (.int .i64 n.sl) ∧ World.cell? (W.drew) ⟨w.heap.size, 9, none⟩ = some (.int .i64 n.sh) ∧ World.cell? (W.drew) ⟨w.heap.size + 1, 0, none⟩ = some (.int .i64 x.tk) ∧ World.cell? (W.drew) ⟨w.heap.size + 1, 1, none⟩ = some (.int .i64 x.hd) ∧ World.cell? (W.drew) ⟨w.heap.size + 1, 2, none⟩ = some (.int .i64 x.bh) ∧ World.cell? (W.drew) ⟨w.heap.size + 1, 3, none⟩ = some (.int .i64 x.ch) ∧ World.cell? (W.drew) ⟨w.heap.size + 1, 4, none⟩ = some (.int .i64 x.ht) ∧ World.cell? (W.drew) ⟨w.heap.size + 1, 5, none⟩ = some (.int .i64 x.ep) ∧ World.cell? (W.drew) ⟨w.heap.size + 1, 6, none⟩ = some (.int .i64 x.bp) ∧ World.cell? (W.drew) ⟨w.heap.size + 1, 7, none⟩ = some (.int .i64 x.wr) ∧ World.cell? (W.drew) ⟨w.heap.size + 1, 8, none⟩ = some (.int .i64 x.th) ∧ World.cell? (W.drew) ⟨w.heap.size + 1, 9, none⟩ = some (.int .i64 x.cs) ∧ Below w.heap.size w (W.drew) :=
  ⟨h.fst 0, h.fst 1, h.fst 2, h.fst 3, h.fst 4, h.fst 5, h.fst 6, h.fst 7, h.fst 8, h.fst 9, h.snd 0, h.snd 1, h.snd 2, h.snd 3, h.snd 4, h.snd 5, h.snd 6, h.snd 7, h.snd 8, h.snd 9, h.low.drew⟩
theorem sg_low {w W : World} {a b : Nat} {n : Nm} {x : Sh} (h : World.cell? (W) ⟨a, 0, none⟩ = some (.int .i64 n.bl) ∧ World.cell? (W) ⟨a, 1, none⟩ = some (.int .i64 n.bh) ∧ World.cell? (W) ⟨a, 2, none⟩ = some (.int .i64 n.cl) ∧ World.cell? (W) ⟨a, 3, none⟩ = some (.int .i64 n.ch) ∧ World.cell? (W) ⟨a, 4, none⟩ = some (.int .i64 n.pc) ∧ World.cell? (W) ⟨a, 5, none⟩ = some (.int .i64 n.wr) ∧ World.cell? (W) ⟨a, 6, none⟩ = some (.int .i64 n.tl) ∧ World.cell? (W) ⟨a, 7, none⟩ = some (.int .i64 n.th) ∧ World.cell? (W) ⟨a, 8, none⟩ = some (.int .i64 n.sl) ∧ World.cell? (W) ⟨a, 9, none⟩ = some (.int .i64 n.sh) ∧ World.cell? (W) ⟨b, 0, none⟩ = some (.int .i64 x.tk) ∧ World.cell? (W) ⟨b, 1, none⟩ = some (.int .i64 x.hd) ∧ World.cell? (W) ⟨b, 2, none⟩ = some (.int .i64 x.bh) ∧ World.cell? (W) ⟨b, 3, none⟩ = some (.int .i64 x.ch) ∧ World.cell? (W) ⟨b, 4, none⟩ = some (.int .i64 x.ht) ∧ World.cell? (W) ⟨b, 5, none⟩ = some (.int .i64 x.ep) ∧ World.cell? (W) ⟨b, 6, none⟩ = some (.int .i64 x.bp) ∧ World.cell? (W) ⟨b, 7, none⟩ = some (.int .i64 x.wr) ∧ World.cell? (W) ⟨b, 8, none⟩ = some (.int .i64 x.th) ∧ World.cell? (W) ⟨b, 9, none⟩ = some (.int .i64 x.cs) ∧ Below w.heap.size w (W)) : Below w.heap.size w W := h.2.2.2.2.2.2.2.2.2.2.2.2.2.2.2.2.2.2.2.2
theorem Box2.sheet {w w1 : World} {A : Array Value} {x : Sh} (h : Box2 w w1 A #[.int .i64 x.tk, .int .i64 x.hd, .int .i64 x.bh, .int .i64 x.ch, .int .i64 x.ht, .int .i64 x.ep, .int .i64 x.bp, .int .i64 x.wr, .int .i64 x.th, .int .i64 x.cs]) : BoxS w1 (w.heap.size + 1) x := ⟨h.snd 0, h.snd 1, h.snd 2, h.snd 3, h.snd 4, h.snd 5, h.snd 6, h.snd 7, h.snd 8, h.snd 9⟩
theorem Box2.norm {w w1 : World} {B : Array Value} {n : Nm} (h : Box2 w w1 #[.int .i64 n.bl, .int .i64 n.bh, .int .i64 n.cl, .int .i64 n.ch, .int .i64 n.pc, .int .i64 n.wr, .int .i64 n.tl, .int .i64 n.th, .int .i64 n.sl, .int .i64 n.sh] B) : World.cell? (w1) ⟨w.heap.size, 0, none⟩ = some (.int .i64 n.bl) ∧ World.cell? (w1) ⟨w.heap.size, 1, none⟩ = some (.int .i64 n.bh) ∧ World.cell? (w1) ⟨w.heap.size, 2, none⟩ = some (.int .i64 n.cl) ∧ World.cell? (w1) ⟨w.heap.size, 3, none⟩ = some (.int .i64 n.ch) ∧ World.cell? (w1) ⟨w.heap.size, 4, none⟩ = some (.int .i64 n.pc) ∧ World.cell? (w1) ⟨w.heap.size, 5, none⟩ = some (.int .i64 n.wr) ∧ World.cell? (w1) ⟨w.heap.size, 6, none⟩ = some (.int .i64 n.tl) ∧ World.cell? (w1) ⟨w.heap.size, 7, none⟩ = some (.int .i64 n.th) ∧ World.cell? (w1) ⟨w.heap.size, 8, none⟩ = some (.int .i64 n.sl) ∧ World.cell? (w1) ⟨w.heap.size, 9, none⟩ = some (.int .i64 n.sh) := ⟨h.fst 0, h.fst 1, h.fst 2, h.fst 3, h.fst 4, h.fst 5, h.fst 6, h.fst 7, h.fst 8, h.fst 9⟩
set_option maxRecDepth 20000 in
set_option maxHeartbeats 8000000 in
theorem kgood_at (n : Nm) (x : Sh) (w : World) (B : Bool) (C : Int) (hB : B = (okG n x && goodB n x)) (hC : C = if okG n x then 0 else 1) : Calls Try.prog 21 #[.agg #[.int .i64 n.bl, .int .i64 n.bh, .int .i64 n.cl, .int .i64 n.ch, .int .i64 n.pc, .int .i64 n.wr, .int .i64 n.tl, .int .i64 n.th, .int .i64 n.sl, .int .i64 n.sh], .agg #[.int .i64 x.tk, .int .i64 x.hd, .int .i64 x.bh, .int .i64 x.ch, .int .i64 x.ht, .int .i64 x.ep, .int .i64 x.bp, .int .i64 x.wr, .int .i64 x.th, .int .i64 x.cs]] w (BoolP B C w) := by
  have HB := hid hB
  have HC := hid hC
  clear hB hC
  have HX0 := hid (box2_start (w := w) (A := #[.int .i64 n.bl, .int .i64 n.bh, .int .i64 n.cl, .int .i64 n.ch, .int .i64 n.pc, .int .i64 n.wr, .int .i64 n.tl, .int .i64 n.th, .int .i64 n.sl, .int .i64 n.sh]) (B := #[.int .i64 x.tk, .int .i64 x.hd, .int .i64 x.bh, .int .i64 x.ch, .int .i64 x.ht, .int .i64 x.ep, .int .i64 x.bp, .int .i64 x.wr, .int .i64 x.th, .int .i64 x.cs]) (T := 23) (T' := 28) (fz := (0, 0)) (fz' := (0, 0)))
  have HBX := hid (fun w1 (g : Below ((w.alloc (.cells #[.int .i64 n.bl, .int .i64 n.bh, .int .i64 n.cl, .int .i64 n.ch, .int .i64 n.pc, .int .i64 n.wr, .int .i64 n.tl, .int .i64 n.th, .int .i64 n.sl, .int .i64 n.sh] 23)).alloc (.cells #[.int .i64 x.tk, .int .i64 x.hd, .int .i64 x.bh, .int .i64 x.ch, .int .i64 x.ht, .int .i64 x.ep, .int .i64 x.bp, .int .i64 x.wr, .int .i64 x.th, .int .i64 x.cs] 28)).heap.size ((w.alloc (.cells #[.int .i64 n.bl, .int .i64 n.bh, .int .i64 n.cl, .int .i64 n.ch, .int .i64 n.pc, .int .i64 n.wr, .int .i64 n.tl, .int .i64 n.th, .int .i64 n.sl, .int .i64 n.sh] 23)).alloc (.cells #[.int .i64 x.tk, .int .i64 x.hd, .int .i64 x.bh, .int .i64 x.ch, .int .i64 x.ht, .int .i64 x.ep, .int .i64 x.bp, .int .i64 x.wr, .int .i64 x.th, .int .i64 x.cs] 28)) w1) => HX0.out.keep g)
  cases hn : nmB n
  · have HN := hid hn
    have hE : okG n x = false := by unfold okG; rw [hn]; rfl
    obtain rfl : B = false := by rw [HB.out, hE]; rfl
    obtain rfl : C = 1 := by rw [HC.out, hE]; rfl
    clear hE
    clear hn
    go_enter Try.func21, Try.ntmps21
    go_wp2_with fail
    refine (knorm_any n _).mono ?_
    rintro e w1 ⟨rfl, hb⟩
    rw [HN.out]
    have HX1 := hid (HBX.out _ hb)
    clear hb
    go_wp2_with fail
    go_ret2
    exact ⟨rfl, HX1.out.low⟩
  have HN := hid hn
  clear hn
  cases hx : shB x
  · have HX := hid hx
    have hE : okG n x = false := by unfold okG; rw [HN.out, hx]; rfl
    obtain rfl : B = false := by rw [HB.out, hE]; rfl
    obtain rfl : C = 1 := by rw [HC.out, hE]; rfl
    clear hE
    clear hx
    go_enter Try.func21, Try.ntmps21
    go_wp2_with fail
    refine (knorm_any n _).mono ?_
    rintro e w1 ⟨rfl, hb⟩
    rw [HN.out]
    have HX1 := hid (HBX.out _ hb)
    obtain ⟨b0, b1, b2, b3, b4, b5, b6, b7, b8, b9⟩ := HX1.out.sheet
    clear hb
    go_wp2_with fail
    refine (ksheet_any x _).mono ?_
    rintro e w2 ⟨rfl, hb⟩
    rw [HX.out]
    have HX1 := hid (HX1.out.keep hb)
    clear hb b0 b1 b2 b3 b4 b5 b6 b7 b8 b9
    go_wp2_with fail
    go_ret2
    exact ⟨rfl, HX1.out.low⟩
  have HX := hid hx
  have hE : okG n x = true := by unfold okG; rw [HN.out, hx]; rfl
  have HG := hid (show B = goodB n x by rw [HB.out, hE]; rfl)
  obtain rfl : C = 0 := by rw [HC.out, hE]; rfl
  clear hE
  clear hx
  go_enter Try.func21, Try.ntmps21
  go_wp2_with fail
  refine (knorm_any n _).mono ?_
  rintro e w1 ⟨rfl, hb⟩
  rw [HN.out]
  have HX1 := hid (HBX.out _ hb)
  obtain ⟨b0, b1, b2, b3, b4, b5, b6, b7, b8, b9⟩ := HX1.out.sheet
  clear hb
  go_wp2_with fail
  refine (ksheet_any x _).mono ?_
  rintro e w2 ⟨rfl, hb⟩
  rw [HX.out]
  have HX2 := hid (HX1.out.keep hb)
  clear hb b0 b1 b2 b3 b4 b5 b6 b7 b8 b9 HX1
  go_wp2_with fail
  go_region_held3 (fun w' => World.cell? (w') ⟨w.heap.size, 0, none⟩ = some (.int .i64 n.bl) ∧ World.cell? (w') ⟨w.heap.size, 1, none⟩ = some (.int .i64 n.bh) ∧ World.cell? (w') ⟨w.heap.size, 2, none⟩ = some (.int .i64 n.cl) ∧ World.cell? (w') ⟨w.heap.size, 3, none⟩ = some (.int .i64 n.ch) ∧ World.cell? (w') ⟨w.heap.size, 4, none⟩ = some (.int .i64 n.pc) ∧ World.cell? (w') ⟨w.heap.size, 5, none⟩ = some (.int .i64 n.wr) ∧ World.cell? (w') ⟨w.heap.size, 6, none⟩ = some (.int .i64 n.tl) ∧ World.cell? (w') ⟨w.heap.size, 7, none⟩ = some (.int .i64 n.th) ∧ World.cell? (w') ⟨w.heap.size, 8, none⟩ = some (.int .i64 n.sl) ∧ World.cell? (w') ⟨w.heap.size, 9, none⟩ = some (.int .i64 n.sh) ∧ World.cell? (w') ⟨w.heap.size + 1, 0, none⟩ = some (.int .i64 x.tk) ∧ World.cell? (w') ⟨w.heap.size + 1, 1, none⟩ = some (.int .i64 x.hd) ∧ World.cell? (w') ⟨w.heap.size + 1, 2, none⟩ = some (.int .i64 x.bh) ∧ World.cell? (w') ⟨w.heap.size + 1, 3, none⟩ = some (.int .i64 x.ch) ∧ World.cell? (w') ⟨w.heap.size + 1, 4, none⟩ = some (.int .i64 x.ht) ∧ World.cell? (w') ⟨w.heap.size + 1, 5, none⟩ = some (.int .i64 x.ep) ∧ World.cell? (w') ⟨w.heap.size + 1, 6, none⟩ = some (.int .i64 x.bp) ∧ World.cell? (w') ⟨w.heap.size + 1, 7, none⟩ = some (.int .i64 x.wr) ∧ World.cell? (w') ⟨w.heap.size + 1, 8, none⟩ = some (.int .i64 x.th) ∧ World.cell? (w') ⟨w.heap.size + 1, 9, none⟩ = some (.int .i64 x.cs) ∧ Below w.heap.size w (w')) (first | exact sg_new HX2.out | assumption | exact sg_keep (by assumption) (by assumption)) (first
    | (go_at_call 44; refine (goodBy_any n _).mono ?_; rintro e w5 ⟨g1, v, rfl, hgc, hgF, hb⟩)
    | (go_at_call 54; refine (goodF_any n x _ _ _ HX.out (by assumption) (by assumption)).mono ?_; rintro e w6 ⟨rfl, hb⟩))
  rename_i hS
  have HB9 := hid (sg_low hS)
  clear hS
  go_wp2_with fail
  go_ret2
  exact ⟨by rw [HG.out]; rfl, HB9.out⟩
theorem kgood_any (n : Nm) (x : Sh) (w : World) : Calls Try.prog 21 #[.agg #[.int .i64 n.bl, .int .i64 n.bh, .int .i64 n.cl, .int .i64 n.ch, .int .i64 n.pc, .int .i64 n.wr, .int .i64 n.tl, .int .i64 n.th, .int .i64 n.sl, .int .i64 n.sh], .agg #[.int .i64 x.tk, .int .i64 x.hd, .int .i64 x.bh, .int .i64 x.ch, .int .i64 x.ht, .int .i64 x.ep, .int .i64 x.bp, .int .i64 x.wr, .int .i64 x.th, .int .i64 x.cs]] w (BoolP (okG n x && goodB n x) (if okG n x then 0 else 1) w) := kgood_at n x w _ _ rfl rfl
end Go.Proofs.Ytlhjiikbehmamaa
