/- Least's closure: contract. -/
import Derived.Test.YtedfajokiblfhaaGreatE1
namespace Go.Proofs.YtedfajokiblfhaaGreat
open Go.RowKit Go.Lib

theorem cookL_len (t n cold cooling : Int) : (cookL t n cold cooling).length ≤ 2000 := by
  unfold cookL
  split
  · rename_i h
    unfold cookB at h
    rw [Bool.and_eq_true] at h
    obtain ⟨h1, h2, h3⟩ := ticksB_two.1 h.2
    rw [List.length_append, List.length_replicate, List.length_replicate]
    omega
  · simp
/-- The lethality with n ticks. -/
def withF (r l a b k a2 b2 : Int) (q : Kl) (t bath cold cooling n : Int) : Int := lowO (sumsO r l a b k a2 b2 q t (cookL bath n cold cooling))
/-- Least's six boxes. -/
structure LsB (r l a b k a2 b2 : Int) (q : Kl) (t bath cold cooling : Int) (n0 : Nat) (W : World) : Prop where
  can : W.heap[n0]? = some (.cells #[.int .i64 r, .int .i64 l, .int .i64 a, .int .i64 b, .int .i64 k, .int .i64 a2, .int .i64 b2] 23 (0, 0))
  kil : W.heap[n0 + 1]? = some (.cells #[.string q.s, .int .i64 q.r, .int .i64 q.z, .int .i64 q.d, .int .i64 q.g] 25 (0, 0))
  ini : W.heap[n0 + 1 + 1]? = some (.cells #[.int .i64 t] 3 (0, 0))
  bat : W.heap[n0 + 1 + 1 + 1]? = some (.cells #[.int .i64 bath] 3 (0, 0))
  col : W.heap[n0 + 1 + 1 + 1 + 1]? = some (.cells #[.int .i64 cold] 3 (0, 0))
  coo : W.heap[n0 + 1 + 1 + 1 + 1 + 1]? = some (.cells #[.int .i64 cooling] 3 (0, 0))
theorem LsB.keep {r l a b k a2 b2 : Int} {q : Kl} {t bath cold cooling : Int} {n0 : Nat} {W W' : World} (h : LsB r l a b k a2 b2 q t bath cold cooling n0 W) (hb : Below W.heap.size W W') : LsB r l a b k a2 b2 q t bath cold cooling n0 W' :=
  ⟨(hb.block _ (lt_of_block h.can)).trans h.can, (hb.block _ (lt_of_block h.kil)).trans h.kil, (hb.block _ (lt_of_block h.ini)).trans h.ini, (hb.block _ (lt_of_block h.bat)).trans h.bat, (hb.block _ (lt_of_block h.col)).trans h.col, (hb.block _ (lt_of_block h.coo)).trans h.coo⟩
set_option maxRecDepth 20000 in
set_option maxHeartbeats 4000000 in
theorem with_any (r l a b k a2 b2 : Int) (q : Kl) (t bath cold cooling n : Int) (n0 : Nat) (w : World) (hs : q.s.size ≤ maxLen) (hB : LsB r l a b k a2 b2 q t bath cold cooling n0 w) :
    Calls Tryz.prog 52 #[.int .i64 n, .pointer (some ⟨n0 + 1 + 1 + 1, 0, none⟩), .pointer (some ⟨n0 + 1 + 1 + 1 + 1, 0, none⟩), .pointer (some ⟨n0 + 1 + 1 + 1 + 1 + 1, 0, none⟩), .pointer (some ⟨n0, 0, none⟩), .pointer (some ⟨n0 + 1, 0, none⟩), .pointer (some ⟨n0 + 1 + 1, 0, none⟩)] w
      fun e w' => e = .returned (.int .i64 (withF r l a b k a2 b2 q t bath cold cooling n)) ∧ Below w.heap.size w w' := by
  have HC := hid (fun W => cook_any bath n cold cooling W)
  have HLE := hid (fun (W : World) (v : Value) (h : RowI W v (cookL bath n cold cooling)) => leth_any r l a b k a2 b2 W q t v (cookL bath n cold cooling) hs h (by have := cookL_len bath n cold cooling; unfold maxLen; omega))
  have HBB := hid hB
  have b0 := cell_of_row _ _ 0 _ _ _ hB.bat
  have c0 := cell_of_row _ _ 0 _ _ _ hB.col
  have o0 := cell_of_row _ _ 0 _ _ _ hB.coo
  simp only [List.getElem?_toArray, List.getElem?_cons_zero] at b0 c0 o0
  unfold withF
  generalize lowO (sumsO r l a b k a2 b2 q t (cookL bath n cold cooling)) = lw at *
  generalize slowO (sumsO r l a b k a2 b2 q t (cookL bath n cold cooling)) = sl at *
  generalize chk4 (canB r l a b k a2 b2) q.vB t (cookL bath n cold cooling) = ce at *
  clear hs hB
  go_enter Tryz.func52, Tryz.ntmps52
  go_wp2_with fail
  refine (HC.out _).mono ?_
  rintro e w1 ⟨v, rfl, hr, hb⟩
  have HB1 := hid (HBB.out.keep hb)
  have HR := hid hr
  have HW := hid hb
  clear hr hb b0 c0 o0
  have x0 := cell_of_row _ _ 0 _ _ _ HB1.out.can
  have x1 := cell_of_row _ _ 1 _ _ _ HB1.out.can
  have x2 := cell_of_row _ _ 2 _ _ _ HB1.out.can
  have x3 := cell_of_row _ _ 3 _ _ _ HB1.out.can
  have x4 := cell_of_row _ _ 4 _ _ _ HB1.out.can
  have x5 := cell_of_row _ _ 5 _ _ _ HB1.out.can
  have x6 := cell_of_row _ _ 6 _ _ _ HB1.out.can
  have y0 := cell_of_row _ _ 0 _ _ _ HB1.out.kil
  have y1 := cell_of_row _ _ 1 _ _ _ HB1.out.kil
  have y2 := cell_of_row _ _ 2 _ _ _ HB1.out.kil
  have y3 := cell_of_row _ _ 3 _ _ _ HB1.out.kil
  have y4 := cell_of_row _ _ 4 _ _ _ HB1.out.kil
  have i0 := cell_of_row _ _ 0 _ _ _ HB1.out.ini
  simp only [List.getElem?_toArray, List.getElem?_cons_zero, List.getElem?_cons_succ] at x0 x1 x2 x3 x4 x5 x6 y0 y1 y2 y3 y4 i0
  generalize (if cookB bath n cold cooling = true then (0 : Int) else 7) = ck at *
  go_wp2_with fail
  refine (HLE.out _ _ HR.out).mono ?_
  rintro e w2 ⟨rfl, hb2⟩
  have HW2 := hid (bstep HW.out HW.out.size hb2)
  clear hb2 x0 x1 x2 x3 x4 x5 x6 y0 y1 y2 y3 y4 i0
  go_wp2_with fail
  refine bodyPost_ret (v := .int .i64 lw) (by simp [results, Tryz.results52, go_sem]) rfl ⟨rfl, HW2.out⟩
end Go.Proofs.YtedfajokiblfhaaGreat
