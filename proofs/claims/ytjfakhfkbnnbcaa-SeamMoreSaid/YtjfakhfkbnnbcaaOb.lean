/- Walk of faultsBy: contract. -/
import Derived.Test.YtjfakhfkbnnbcaaP11
namespace Go.Proofs.Ytjfakhfkbnnbcaa
open Go.RowKit

theorem nbx_keep {w W w2 : World} {b : Nat} {n : Nm} (hb : Below W.heap.size W w2) (h : W.cell? ⟨b, 0, none⟩ = some (.int .i64 n.bl) ∧ W.cell? ⟨b, 1, none⟩ = some (.int .i64 n.bh) ∧ W.cell? ⟨b, 2, none⟩ = some (.int .i64 n.cl) ∧ W.cell? ⟨b, 3, none⟩ = some (.int .i64 n.ch) ∧ W.cell? ⟨b, 6, none⟩ = some (.int .i64 n.tl) ∧ W.cell? ⟨b, 7, none⟩ = some (.int .i64 n.th) ∧ W.cell? ⟨b, 8, none⟩ = some (.int .i64 n.sl) ∧ W.cell? ⟨b, 9, none⟩ = some (.int .i64 n.sh) ∧ Below w.heap.size w W) : w2.cell? ⟨b, 0, none⟩ = some (.int .i64 n.bl) ∧ w2.cell? ⟨b, 1, none⟩ = some (.int .i64 n.bh) ∧ w2.cell? ⟨b, 2, none⟩ = some (.int .i64 n.cl) ∧ w2.cell? ⟨b, 3, none⟩ = some (.int .i64 n.ch) ∧ w2.cell? ⟨b, 6, none⟩ = some (.int .i64 n.tl) ∧ w2.cell? ⟨b, 7, none⟩ = some (.int .i64 n.th) ∧ w2.cell? ⟨b, 8, none⟩ = some (.int .i64 n.sl) ∧ w2.cell? ⟨b, 9, none⟩ = some (.int .i64 n.sh) ∧ Below w.heap.size w w2 :=
  ⟨keep_cell hb h.1, keep_cell hb h.2.1, keep_cell hb h.2.2.1, keep_cell hb h.2.2.2.1, keep_cell hb h.2.2.2.2.1, keep_cell hb h.2.2.2.2.2.1, keep_cell hb h.2.2.2.2.2.2.1, keep_cell hb h.2.2.2.2.2.2.2.1, bstep h.2.2.2.2.2.2.2.2 h.2.2.2.2.2.2.2.2.size hb⟩
theorem nbx_start {w W0 : World} {n : Nm} (h : Box1 w W0 #[.int .i64 n.bl, .int .i64 n.bh, .int .i64 n.cl, .int .i64 n.ch, .int .i64 n.pc, .int .i64 n.wr, .int .i64 n.tl, .int .i64 n.th, .int .i64 n.sl, .int .i64 n.sh]) : World.cell? (W0.drew) ⟨w.heap.size, 0, none⟩ = some (.int .i64 n.bl) ∧ World.cell? (W0.drew) ⟨w.heap.size, 1, none⟩ = some (.int .i64 n.bh) ∧ World.cell? (W0.drew) ⟨w.heap.size, 2, none⟩ = some (.int .i64 n.cl) ∧ World.cell? (W0.drew) ⟨w.heap.size, 3, none⟩ = some (.int .i64 n.ch) ∧ World.cell? (W0.drew) ⟨w.heap.size, 6, none⟩ = some (.int .i64 n.tl) ∧ World.cell? (W0.drew) ⟨w.heap.size, 7, none⟩ = some (.int .i64 n.th) ∧ World.cell? (W0.drew) ⟨w.heap.size, 8, none⟩ = some (.int .i64 n.sl) ∧ World.cell? (W0.drew) ⟨w.heap.size, 9, none⟩ = some (.int .i64 n.sh) ∧ Below W0.heap.size W0 W0.drew :=
  ⟨h.fst 0, h.fst 1, h.fst 2, h.fst 3, h.fst 6, h.fst 7, h.fst 8, h.fst 9, (Below.refl _ _).drew⟩
/-- Below, where assumption does not find it. -/
structure LowS (W0 w : World) : Prop where
  out : Below W0.heap.size W0 w
/-- The twelve cells of the six faults. -/
def faultA (nb b0 b1 b4 b5 : Nat) : Array Value := #[.string ⟨#[98, 111, 100, 121]⟩, .func (.func 91) #[] #[.pointer (some ⟨b0 + 2, 0, none⟩), .pointer (some ⟨b0, 0, none⟩), .pointer (some ⟨b0 + 1, 0, none⟩)], .string ⟨#[99, 111, 118, 101, 114]⟩, .func (.func 91) #[] #[.pointer (some ⟨b1 + 2, 0, none⟩), .pointer (some ⟨b1, 0, none⟩), .pointer (some ⟨b1 + 1, 0, none⟩)], .string ⟨#[111, 118, 101, 114, 108, 97, 112]⟩, .func (.func 79) #[] #[.pointer (some ⟨nb, 0, none⟩)], .string ⟨#[119, 114, 105, 110, 107, 108, 101]⟩, .func (.func 80) #[] #[.pointer (some ⟨nb, 0, none⟩)], .string ⟨#[116, 104, 105, 99, 107, 110, 101, 115, 115]⟩, .func (.func 91) #[] #[.pointer (some ⟨b4 + 2, 0, none⟩), .pointer (some ⟨b4, 0, none⟩), .pointer (some ⟨b4 + 1, 0, none⟩)], .string ⟨#[99, 111, 117, 110, 116, 101, 114, 115, 105, 110, 107]⟩, .func (.func 91) #[] #[.pointer (some ⟨b5 + 2, 0, none⟩), .pointer (some ⟨b5, 0, none⟩), .pointer (some ⟨b5 + 1, 0, none⟩)]]
/-- The six faults and what they know. -/
def FaultsP (n : Nm) (w : World) (e : Ending) (w' : World) : Prop := ∃ g b0 b1 b4 b5 : Nat, e = .returned (.slice (some ⟨g, 0, none⟩) 6 6) ∧ (∀ i, w'.cell? ⟨g, i, none⟩ = (faultA w.heap.size b0 b1 b4 b5)[i]?) ∧ OutB w' b0 n.bl n.bh (.func (.func 77) #[] #[]) ∧ OutB w' b1 n.cl n.ch (.func (.func 78) #[] #[]) ∧ OutB w' b4 n.tl n.th (.func (.func 81) #[] #[]) ∧ OutB w' b5 n.sl n.sh (.func (.func 82) #[] #[]) ∧ Box1 w w' #[.int .i64 n.bl, .int .i64 n.bh, .int .i64 n.cl, .int .i64 n.ch, .int .i64 n.pc, .int .i64 n.wr, .int .i64 n.tl, .int .i64 n.th, .int .i64 n.sl, .int .i64 n.sh]
theorem faults_end {n : Nm} {w W0 W : World} {b0 b1 b4 b5 : Nat} (hx : Box1 w W0 #[.int .i64 n.bl, .int .i64 n.bh, .int .i64 n.cl, .int .i64 n.ch, .int .i64 n.pc, .int .i64 n.wr, .int .i64 n.tl, .int .i64 n.th, .int .i64 n.sl, .int .i64 n.sh]) (hb : Below W0.heap.size W0 W) (p0 : OutB W b0 n.bl n.bh (.func (.func 77) #[] #[])) (p1 : OutB W b1 n.cl n.ch (.func (.func 78) #[] #[])) (p4 : OutB W b4 n.tl n.th (.func (.func 81) #[] #[])) (p5 : OutB W b5 n.sl n.sh (.func (.func 82) #[] #[])) :
    FaultsP n w (.returned (.slice (some ⟨W.heap.size, 0, none⟩) 6 6)) (W.alloc (.cells (faultA w.heap.size b0 b1 b4 b5) 91)) := by
  have hk : Below W.heap.size W (W.alloc (.cells (faultA w.heap.size b0 b1 b4 b5) 91)) := (Below.refl _ _).alloc (Nat.le_refl _) _
  exact ⟨_, b0, b1, b4, b5, rfl, fun i => cell_alloc_new W _ _ _ i, p0.keep hk, p1.keep hk, p4.keep hk, p5.keep hk, hx.keep (bstep hb hb.size hk)⟩
set_option maxRecDepth 100000 in
set_option maxHeartbeats 32000000 in
theorem faultsBy_any (n : Nm) (w : World) : Calls Try.prog 58 #[.agg #[.int .i64 n.bl, .int .i64 n.bh, .int .i64 n.cl, .int .i64 n.ch, .int .i64 n.pc, .int .i64 n.wr, .int .i64 n.tl, .int .i64 n.th, .int .i64 n.sl, .int .i64 n.sh]] w (FaultsP n w) := by
  have HX := hid (box1_start (w := w) (A := #[.int .i64 n.bl, .int .i64 n.bh, .int .i64 n.cl, .int .i64 n.ch, .int .i64 n.pc, .int .i64 n.wr, .int .i64 n.tl, .int .i64 n.th, .int .i64 n.sl, .int .i64 n.sh]) (T := 23) (fz := (0, 0)))
  go_enter Try.func58, Try.ntmps58
  go_wp2
  generalize World.alloc w _ = W0 at *
  go_region_held3 (fun w' => World.cell? (w') ⟨w.heap.size, 0, none⟩ = some (.int .i64 n.bl) ∧ World.cell? (w') ⟨w.heap.size, 1, none⟩ = some (.int .i64 n.bh) ∧ World.cell? (w') ⟨w.heap.size, 2, none⟩ = some (.int .i64 n.cl) ∧ World.cell? (w') ⟨w.heap.size, 3, none⟩ = some (.int .i64 n.ch) ∧ World.cell? (w') ⟨w.heap.size, 6, none⟩ = some (.int .i64 n.tl) ∧ World.cell? (w') ⟨w.heap.size, 7, none⟩ = some (.int .i64 n.th) ∧ World.cell? (w') ⟨w.heap.size, 8, none⟩ = some (.int .i64 n.sl) ∧ World.cell? (w') ⟨w.heap.size, 9, none⟩ = some (.int .i64 n.sh) ∧ Below W0.heap.size W0 w') (first | exact nbx_start HX.out | assumption | exact nbx_keep (by assumption) (by assumption) | exact nbx_keep ((Below.refl _ _).alloc (Nat.le_refl _) _) (by assumption)) ((go_at_call 76; refine (outside_any _ _ _ _).mono ?_; rintro e w5 ⟨b, rfl, ho, hb⟩; (first | (have HL : LowS W0 w5 := ⟨bstep (LowS.out HL) (Below.size (LowS.out HL)) hb⟩) | (have HL : LowS W0 w5 := ⟨bstep (Below.drew (Below.refl W0.heap.size W0)) (Nat.le_refl _) hb⟩)); (try have P0 := OutB.keep P0 hb); (try have P1 := OutB.keep P1 hb); (try have P4 := OutB.keep P4 hb); (try have P5 := OutB.keep P5 hb); (first | (have P0 : OutB w5 b n.bl n.bh (.func (.func 77) #[] #[]) := ho) | (have P1 : OutB w5 b n.cl n.ch (.func (.func 78) #[] #[]) := ho) | (have P4 : OutB w5 b n.tl n.th (.func (.func 81) #[] #[]) := ho) | (have P5 : OutB w5 b n.sl n.sh (.func (.func 82) #[] #[]) := ho))))
  all_goals
    have hE := faults_end HX.out HL.out P0 P1 P4 P5
    have HE := hid hE
    clear hE
    go_wp2_with fail
    go_ret
    exact HE.out
end Go.Proofs.Ytjfakhfkbnnbcaa
