/- Texts of this seat, one behind the other. -/
import Derived.Test.YtihbjimnjhfpeaaGreatR05
/- Walks of SameInts, Same and Below of both: contracts. -/
namespace Go.Proofs.YtihbjimnjhfpeaaGreat
open Go.RowKit

/-- Whether a is nowhere above b. -/
def belowB : List Int → List Int → Bool
  | [], [] => true
  | a :: l, b :: m => !decide (a > b) && belowB l m
  | _, _ => false
theorem RowI.most {w : World} {v : Value} {l : List Int} (h : RowI w v l) : l.length ≤ maxLen := by
  rcases h with ⟨_, _, _, rfl⟩ | ⟨_, _, _, _, h, _⟩
  · simp [maxLen]
  · exact h
end Go.Proofs.YtihbjimnjhfpeaaGreat

/- What HeatHotter's walk stands on: a hotter body stays hotter; Run of anything; a box of a struct Two. -/
namespace Go.Proofs.YtihbjimnjhfpeaaGreat
open Go.RowKit

def leL (T U : List Int) : Prop := ∀ i (a : i < T.length) (c : i < U.length), T[i] ≤ U[i]
theorem brk_none (T : List Int) : brk 0 false T = false := by simp [brk]
theorem tickS_cold {c : Cn} {T : List Int} {b : Int} (hK : c.K = 0) : tickS c (T, false) b = (tickT c.R c.L (c.a false) (c.b false) T b, false) := by unfold tickS; rw [hK, brk_none]
theorem RowN.rowI {w W : World} {v : Value} {T : List Int} (h : RowN w W v T) (hl : T.length ≤ 48) : RowI W v T := by
  obtain ⟨g, rfl, _, hg⟩ := h
  refine .inr ⟨g, 0, T.length, rfl, by unfold maxLen; omega, fun k hk => ?_⟩
  rw [Nat.zero_add, cell_of_row W g k _ _ _ hg]
  simp [hk]
/-- What Run hands back, whatever came in. -/
def RunAny (w : World) (e : Ending) (w' : World) : Prop := ∃ (v : Value) (br : Bool) (n : Int), e = .returned (.tuple #[.agg #[v, .bool br], .int .i64 n]) ∧ Below w.heap.size w w'
theorem Box1.thirteen {w w1 : World} {c0 c1 c2 c3 c4 c5 c6 c7 c8 c9 c10 c11 c12 : Value} (h : Box1 w w1 #[c0, c1, c2, c3, c4, c5, c6, c7, c8, c9, c10, c11, c12]) :
    w1.cell? ⟨w.heap.size, 0, none⟩ = some c0 ∧ w1.cell? ⟨w.heap.size, 1, none⟩ = some c1 ∧ w1.cell? ⟨w.heap.size, 2, none⟩ = some c2 ∧ w1.cell? ⟨w.heap.size, 3, none⟩ = some c3 ∧ w1.cell? ⟨w.heap.size, 4, none⟩ = some c4 ∧ w1.cell? ⟨w.heap.size, 5, none⟩ = some c5 ∧ w1.cell? ⟨w.heap.size, 6, none⟩ = some c6 ∧ w1.cell? ⟨w.heap.size, 7, none⟩ = some c7 ∧ w1.cell? ⟨w.heap.size, 8, none⟩ = some c8 ∧ w1.cell? ⟨w.heap.size, 9, none⟩ = some c9 ∧ w1.cell? ⟨w.heap.size, 10, none⟩ = some c10 ∧ w1.cell? ⟨w.heap.size, 11, none⟩ = some c11 ∧ w1.cell? ⟨w.heap.size, 12, none⟩ = some c12 :=
  ⟨h.fst 0, h.fst 1, h.fst 2, h.fst 3, h.fst 4, h.fst 5, h.fst 6, h.fst 7, h.fst 8, h.fst 9, h.fst 10, h.fst 11, h.fst 12⟩
end Go.Proofs.YtihbjimnjhfpeaaGreat

/- Walk of HeatHotter where it says nothing: its five early ways out. -/
namespace Go.Proofs.YtihbjimnjhfpeaaGreat
open Go.RowKit

end Go.Proofs.YtihbjimnjhfpeaaGreat

/- Walk of HeatHotter. -/
namespace Go.Proofs.YtihbjimnjhfpeaaGreat
open Go.RowKit

end Go.Proofs.YtihbjimnjhfpeaaGreat

/- One contract for Run, whatever comes in: what comes back is a plain function of what came in. -/
namespace Go.Proofs.YtihbjimnjhfpeaaGreat
open Go.RowKit

/-- The can of seven numbers. -/
def cnOf (r l a b k a2 b2 : Int) : Cn := ⟨r.toNat, l.toNat, a, b, k, a2, b2⟩
theorem cnOf_cn (c : Cn) : cnOf c.R c.L c.A c.B c.K c.A2 c.B2 = c := by simp [cnOf]
/-- What Run hands back: a body and an error. -/
def runO (r l a b k a2 b2 : Int) (x : Bd) (p : List Int) : Bd × Int :=
  if chkE (bothB r l a b k a2 b2 x.1 x.2) p = 0 then (runS (cnOf r l a b k a2 b2) x p, 0) else (([], false), chkE (bothB r l a b k a2 b2 x.1 x.2) p)
/-- What comes back for O: a body that reads as it, and the error. -/
def OutB (O : Bd × Int) (w : World) (e : Ending) (w' : World) : Prop :=
  ∃ (ua : Option Addr) (cap : Nat), e = .returned (.tuple #[.agg #[.slice ua O.1.1.length cap, .bool O.1.2], .int .i64 O.2]) ∧ RowI w' (.slice ua O.1.1.length cap) O.1.1 ∧ Below w.heap.size w w'
theorem outB_nil {n : Int} {w : World} {e : Ending} {w' : World} (h : e = .returned (.tuple #[.agg #[.slice none 0 0, .bool false], .int .i64 n])) (hb : Below w.heap.size w w') : OutB (([], false), n) w e w' :=
  ⟨none, 0, h, .inl ⟨_, _, rfl, rfl⟩, hb⟩
/-- A body stays valid for its can in ticks. -/
theorem runS_brk {c : Cn} (hK : c.K = 0) : ∀ (p : List Int) (x : Bd), x.2 = false → (runS c x p).2 = false
  | [], _, h => h
  | b :: p, x, h => runS_brk hK p (tickS c x b) (by simp [tickS, brk, h, hK])
theorem body_run {c : Cn} (hc : c.Ok) {x : Bd} {p : List Int} (hb : bodyV c x.1 x.2 = true) (ho : okL p = true) : bodyV c (runS c x p).1 (runS c x p).2 = true := by
  obtain ⟨h1, h2, h3⟩ := bodyV_iff.1 hb
  have hw : Warm c x := ⟨h1, okL_bd h3⟩
  have hr := hw.run hc (okL_bd ho)
  refine bodyV_iff.2 ⟨hr.len, ?_, okL_of hr.bd⟩
  rcases h2 with h2 | h2
  · by_cases hK : c.K = 0
    · exact .inl (runS_brk hK p x h2)
    · exact .inr hK
  · exact .inr h2
end Go.Proofs.YtihbjimnjhfpeaaGreat
