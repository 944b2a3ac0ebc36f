/- What Mended's walk wants besides. -/
import Derived.Test.YtedfajokiblfhaaPdl
namespace Go.Proofs.Ytedfajokiblfhaa
open Go.RowKit Go.Lib

theorem three_row {W : World} {n : Nat} (x y z : Int) (T : TypeId) (h : W.heap.size = n) : RowI (W.alloc (.cells #[.int .i64 x, .int .i64 y, .int .i64 z] T)) (.slice (some ⟨n, 0, none⟩) 3 3) [x, y, z] := by
  subst h
  refine .inr ⟨W.heap.size, 0, 3, rfl, by simp [maxLen], fun k hk => ?_⟩
  match k, hk with
  | 0, _ => exact cell_alloc_new _ _ _ _ 0
  | 1, _ => exact cell_alloc_new _ _ _ _ 1
  | 2, _ => exact cell_alloc_new _ _ _ _ 2
/-- The rate of meterDown, where the map stays as it is. -/
theorem rateOk_fix {g : Int → Nat} {lo tlo thi : Int} {n kb mb : Nat} {W1 : World} {ob : Obj} (hD : DnI g lo n kb mb W1) (_ : W1.heap[mb]? = some ob) (hq : ∀ t : Int, tlo ≤ t → t ≤ thi → lo ≤ t / 250 ∧ t / 250 < lo + n) (h1 : -50000 ≤ tlo) (h2 : thi ≤ 200000) (hg : ∀ q, g q ≤ 100000000000000000) :
    RateOk 64 #[.pointer (some ⟨kb, 0, none⟩)] (fun t => g (t / 250)) tlo thi mb W1.heap.size (fun W => (DnI g lo n kb mb W ∧ W1.heap.size ≤ W.heap.size) ∧ W.heap[mb]? = some ob) where
  enter := fun args W => enter_at Try.func64 (by kernel_rfl) (by kernel_rfl) args W
  call := fun W t hI a b => by
    obtain ⟨⟨hd, hs⟩, hm⟩ := hI
    obtain ⟨q1, q2⟩ := hq t a b
    refine (rate1_any g lo t n kb mb W (cell_of_row _ _ 0 _ _ _ hd.box) hd.map q1 q2 (by omega) (by omega)).mono ?_
    rintro e w' ⟨rfl, m, rfl⟩
    exact ⟨rfl, ⟨⟨⟨hd.box, hd.map⟩, hs⟩, hm⟩, ⟨rfl, rfl, rfl, Nat.le_refl _, fun _ _ _ => rfl⟩⟩
  keep := fun W W' row hI hg hr => by
    obtain ⟨⟨hd, hs⟩, hm⟩ := hI
    have hk := lt_of_block hD.box
    have hmm := hD.map.lt
    exact ⟨⟨hd.kept hg (fun e => by have := hr _ e.symm; omega) (fun e => by have := hr _ e.symm; omega), Nat.le_trans hs hg.size⟩, (hg.block _ (lt_of_block hm) (fun e => by have := hr _ e.symm; omega)).trans hm⟩
  isM := fun W hI => hI.1.1.map.isMap
  lt := hD.map.lt
  le := fun W hI => hI.1.2
  fle := fun t => hg _
/-- What Mended's last region reads. -/
def RawMe (c : Cn) (need : Int) (F : Nat) (lb : Array Value) (bath cold : Int) (most cooling : Nat) (m n : Nat) (X : World → Prop) (W : World) : Prop := (W.cell? ⟨m, 0, none⟩ = some (.int .i64 (c.R : Int)) ∧ W.cell? ⟨m, 1, none⟩ = some (.int .i64 (c.L : Int)) ∧ W.cell? ⟨m, 2, none⟩ = some (.int .i64 c.A) ∧ W.cell? ⟨m, 3, none⟩ = some (.int .i64 c.B) ∧ W.cell? ⟨m, 4, none⟩ = some (.int .i64 c.K) ∧ W.cell? ⟨m, 5, none⟩ = some (.int .i64 c.A2) ∧ W.cell? ⟨m, 6, none⟩ = some (.int .i64 c.B2) ∧ W.cell? ⟨m, 7, none⟩ = some (.int .i64 need) ∧ W.cell? ⟨m, 8, none⟩ = some (.func (.func F) #[] lb)) ∧ (W.cell? ⟨n, 0, none⟩ = some (.int .i64 (c.R : Int)) ∧ W.cell? ⟨n, 1, none⟩ = some (.int .i64 (c.L : Int)) ∧ W.cell? ⟨n, 2, none⟩ = some (.int .i64 c.A) ∧ W.cell? ⟨n, 3, none⟩ = some (.int .i64 c.B) ∧ W.cell? ⟨n, 4, none⟩ = some (.int .i64 c.K) ∧ W.cell? ⟨n, 5, none⟩ = some (.int .i64 c.A2) ∧ W.cell? ⟨n, 6, none⟩ = some (.int .i64 c.B2) ∧ W.cell? ⟨n, 7, none⟩ = some (.int .i64 need) ∧ W.cell? ⟨n, 8, none⟩ = some (.func (.func F) #[] lb) ∧ W.cell? ⟨n, 9, none⟩ = some (.int .i64 bath) ∧ W.cell? ⟨n, 10, none⟩ = some (.int .i64 (most : Nat)) ∧ W.cell? ⟨n, 11, none⟩ = some (.int .i64 cold) ∧ W.cell? ⟨n, 12, none⟩ = some (.int .i64 (cooling : Nat))) ∧ W.heap[m]? = some (.cells #[.int .i64 (c.R : Int), .int .i64 (c.L : Int), .int .i64 c.A, .int .i64 c.B, .int .i64 c.K, .int .i64 c.A2, .int .i64 c.B2, .int .i64 need, .func (.func F) #[] lb] 71 (0, 0)) ∧ W.heap[n]? = some (.cells #[.int .i64 (c.R : Int), .int .i64 (c.L : Int), .int .i64 c.A, .int .i64 c.B, .int .i64 c.K, .int .i64 c.A2, .int .i64 c.B2, .int .i64 need, .func (.func F) #[] lb, .int .i64 bath, .int .i64 (most : Nat), .int .i64 cold, .int .i64 (cooling : Nat)] 124 (0, 0)) ∧ X W
theorem rawMe {c : Cn} {need : Int} {F : Nat} {lb : Array Value} {bath cold : Int} {most cooling : Nat} {m n : Nat} {X : World → Prop} {W : World} (h1 : W.heap[m]? = some (.cells #[.int .i64 (c.R : Int), .int .i64 (c.L : Int), .int .i64 c.A, .int .i64 c.B, .int .i64 c.K, .int .i64 c.A2, .int .i64 c.B2, .int .i64 need, .func (.func F) #[] lb] 71 (0, 0))) (h2 : W.heap[n]? = some (.cells #[.int .i64 (c.R : Int), .int .i64 (c.L : Int), .int .i64 c.A, .int .i64 c.B, .int .i64 c.K, .int .i64 c.A2, .int .i64 c.B2, .int .i64 need, .func (.func F) #[] lb, .int .i64 bath, .int .i64 (most : Nat), .int .i64 cold, .int .i64 (cooling : Nat)] 124 (0, 0))) (hx : X W) : RawMe c need F lb bath cold most cooling m n X W :=
  ⟨⟨cell_of_row _ _ 0 _ _ _ h1, cell_of_row _ _ 1 _ _ _ h1, cell_of_row _ _ 2 _ _ _ h1, cell_of_row _ _ 3 _ _ _ h1, cell_of_row _ _ 4 _ _ _ h1, cell_of_row _ _ 5 _ _ _ h1, cell_of_row _ _ 6 _ _ _ h1, cell_of_row _ _ 7 _ _ _ h1, cell_of_row _ _ 8 _ _ _ h1⟩, ⟨cell_of_row _ _ 0 _ _ _ h2, cell_of_row _ _ 1 _ _ _ h2, cell_of_row _ _ 2 _ _ _ h2, cell_of_row _ _ 3 _ _ _ h2, cell_of_row _ _ 4 _ _ _ h2, cell_of_row _ _ 5 _ _ _ h2, cell_of_row _ _ 6 _ _ _ h2, cell_of_row _ _ 7 _ _ _ h2, cell_of_row _ _ 8 _ _ _ h2, cell_of_row _ _ 9 _ _ _ h2, cell_of_row _ _ 10 _ _ _ h2, cell_of_row _ _ 11 _ _ _ h2, cell_of_row _ _ 12 _ _ _ h2⟩, h1, h2, hx⟩
end Go.Proofs.Ytedfajokiblfhaa
