/- Plain facts of sheets: validity, overlaps, per cents; division rounded down. -/
import Derived.Test.YtjfakhfkbnnbcaaVp
namespace Go.Proofs.Ytjfakhfkbnnbcaa
open Go.RowKit

/-- All numbers of a list lie between two. -/
def allW (lo hi : Int) (l : List Int) : Bool := l.all fun n => inB n lo hi
/-- A sheet. -/
structure Sh where
  tk : Int
  hd : Int
  bh : Int
  ch : Int
  ht : Int
  ep : Int
  bp : Int
  wr : Int
  th : Int
  cs : Int
def shB (x : Sh) : Bool := inB x.tk 0 100000000 && inB x.hd 1 12 && inB x.wr 0 100 && allW 1 1000 [x.ep, x.bp] && allW 0 20000 [x.bh, x.ch, x.ht, x.th, x.cs]
structure ShOk (x : Sh) : Prop where
  tk : 0 ≤ x.tk ∧ x.tk ≤ 100000000
  hd : 1 ≤ x.hd ∧ x.hd ≤ 12
  wr : 0 ≤ x.wr ∧ x.wr ≤ 100
  ep : 1 ≤ x.ep ∧ x.ep ≤ 1000
  bp : 1 ≤ x.bp ∧ x.bp ≤ 1000
  bh : 0 ≤ x.bh ∧ x.bh ≤ 20000
  ch : 0 ≤ x.ch ∧ x.ch ≤ 20000
  ht : 0 ≤ x.ht ∧ x.ht ≤ 20000
  th : 0 ≤ x.th ∧ x.th ≤ 20000
  cs : 0 ≤ x.cs ∧ x.cs ≤ 20000
theorem shB_iff {x : Sh} : shB x = true ↔ ShOk x := by
  constructor
  · intro h
    simp only [shB, allW, List.all_cons, List.all_nil, Bool.and_true, Bool.and_eq_true, inB_iff] at h
    obtain ⟨⟨⟨⟨h1, h2⟩, h3⟩, h4, h5⟩, h6, h7, h8, h9, h10⟩ := h
    exact ⟨h1, h2, h3, h4, h5, h6, h7, h8, h9, h10⟩
  · intro h
    simp only [shB, allW, List.all_cons, List.all_nil, Bool.and_true, Bool.and_eq_true, inB_iff]
    exact ⟨⟨⟨⟨h.tk, h.hd⟩, h.wr⟩, h.ep, h.bp⟩, h.bh, h.ch, h.ht, h.th, h.cs⟩
/-- Ten times the overlap, ten times the room. -/
def ovT (x : Sh) : Int := 10 * (x.bh + x.ch - x.ht) + 11 * x.ep
def roomT (x : Sh) : Int := 10 * x.ht - 11 * (2 * x.ep + x.bp)
def pctT (x : Sh) : Int := if roomT x ≤ 0 then 0 else 100 * ovT x / roomT x
theorem fl_neg {n b : Int} (hn : n < 0) (hb : 0 < b) : n ≤ n.tdiv b ∧ n.tdiv b ≤ 0 ∧ (n.tmod b < 0 → n.tdiv b - 1 = n / b) ∧ (¬ n.tmod b < 0 → n.tdiv b = n / b) := by
  have h1 := Int.tmod_add_mul_tdiv n b
  have h2 : -b < n.tmod b := by
    have := Int.tmod_lt_of_pos (-n) hb
    rw [Int.neg_tmod] at this
    omega
  have h3 : n.tmod b ≤ 0 := by
    have := Int.tmod_nonneg b (show 0 ≤ -n by omega)
    rw [Int.neg_tmod] at this
    omega
  have h4 : 0 ≤ (-n).tdiv b := Int.tdiv_nonneg (by omega) (by omega)
  have h5 : (-n).tdiv b ≤ -n := Int.tdiv_le_self (b := b) (by omega)
  rw [Int.neg_tdiv] at h4 h5
  refine ⟨by omega, by omega, fun h => ?_, fun h => ?_⟩
  · have := (Int.ediv_emod_unique (a := n) (r := b + n.tmod b) (q := n.tdiv b - 1) hb).2 ⟨by rw [Int.mul_sub]; omega, by omega, by omega⟩
    exact this.1.symm
  · have := (Int.ediv_emod_unique (a := n) (r := n.tmod b) (q := n.tdiv b) hb).2 ⟨h1, by omega, by omega⟩
    exact this.1.symm
theorem pct_mono {x y : Sh} (hr : roomT x = roomT y) (ho : ovT x ≤ ovT y) : pctT x ≤ pctT y := by
  unfold pctT
  rw [hr]
  by_cases h : roomT y ≤ 0
  · rw [if_pos h, if_pos h]; exact Int.le_refl _
  · rw [if_neg h, if_neg h]
    exact Int.ediv_le_ediv (by omega) (by omega)
end Go.Proofs.Ytjfakhfkbnnbcaa
