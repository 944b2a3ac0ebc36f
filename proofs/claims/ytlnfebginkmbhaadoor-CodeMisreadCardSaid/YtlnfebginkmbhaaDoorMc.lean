/- Misread signs: two boxes of nine numbers compared; the library's sort. -/
import Derived.Test.YtlnfebginkmbhaaDoorMb
import Derived.Laws.StructEq
import Derived.Test.YtlnfebginkmbhaaDoorMs
namespace Go.Proofs.YtlnfebginkmbhaaDoor
open Go.RowKit

set_option maxRecDepth 100000 in
set_option maxHeartbeats 4000000 in
theorem eq9 (a b c d e f g h i a' b' c' d' e' f' g' h' i' : Int) (w : World) : (Op.equalIn 10000 59 (.agg #[.int .i64 a, .int .i64 b, .int .i64 c, .int .i64 d, .int .i64 e, .int .i64 f, .int .i64 g, .int .i64 h, .int .i64 i]) (.agg #[.int .i64 a', .int .i64 b', .int .i64 c', .int .i64 d', .int .i64 e', .int .i64 f', .int .i64 g', .int .i64 h', .int .i64 i'])).run Tryd.prog w =
    .ok (a == a' && (b == b' && (c == c' && (d == d' && (e == e' && (f == f' && (g == g' && (h == h' && i == i')))))))) w := by
  have u3 := Tryd.underlying3
  have a3 := Tryd.isAgg3
  have z3 := Tryd.sizeOf3
  rw [show (10000 : Nat) = 9999 + 1 from rfl, Op.equalIn]
  simp only [Sem.run_bind, run_underlying Tryd.underlying59, Result.andThen_ok]
  simp only [Std.Legacy.Range.forIn_eq_forIn_range', Std.Legacy.Range.size, Nat.sub_zero, Nat.add_sub_cancel, Nat.div_one, List.range'_succ, List.range'_zero, List.forIn_cons, List.forIn_nil]
  go_simp
  by_cases h1 : a = a'
  case neg => simp [h1]
  by_cases h2 : b = b'
  case neg => simp [h1, h2]
  by_cases h3 : c = c'
  case neg => simp [h1, h2, h3]
  by_cases h4 : d = d'
  case neg => simp [h1, h2, h3, h4]
  by_cases h5 : e = e'
  case neg => simp [h1, h2, h3, h4, h5]
  by_cases h6 : f = f'
  case neg => simp [h1, h2, h3, h4, h5, h6]
  by_cases h7 : g = g'
  case neg => simp [h1, h2, h3, h4, h5, h6, h7]
  by_cases h8 : h = h'
  case neg => simp [h1, h2, h3, h4, h5, h6, h7, h8]
  by_cases h9 : i = i' <;> simp [h1, h2, h3, h4, h5, h6, h7, h8, h9]
theorem neq9 {l m : List Int} (hl : l.length = 9) (hm : m.length = 9) (hne : l ≠ m) (w : World) : (binOp .neq 59 (.agg (cvs l)) (.agg (cvs m))).run Tryd.prog w = .ok (.bool true) w := by
  obtain ⟨a, b, c, d, e, f, g, h, i, rfl⟩ := nine_list hl
  obtain ⟨a', b', c', d', e', f', g', h', i', rfl⟩ := nine_list hm
  unfold cvs
  simp only [List.map_cons, List.map_nil]
  rw [run_neq_struct, eq9]
  have : (a == a' && (b == b' && (c == c' && (d == d' && (e == e' && (f == f' && (g == g' && (h == h' && i == i')))))))) = false := by
    rw [Bool.eq_false_iff]
    intro h0
    simp only [Bool.and_eq_true, beq_iff_eq] at h0
    obtain ⟨h1, h2, h3, h4, h5, h6, h7, h8, h9⟩ := h0
    subst h1 h2 h3 h4 h5 h6 h7 h8 h9
    exact hne rfl
  rw [this]
  rfl
open Go.Sort Go.RowKit in
theorem sortS_any (blk off cap : Nat) (ss : List (List UInt8)) (w : World) (hH : Holds encStr w blk off ss.toArray) (hblk : blk < w.heap.size) (hsz : ss.length < 4611686018427387904) :
    Calls Tryd.prog 58 #[.slice (some ⟨blk, off, none⟩) ss.length cap] w fun e w' =>
      e = .returned (.tuple #[]) ∧ ∃ n os, w' = grow (putRow encStr (Sort.ahead w n) blk off (ss.mergeSort fun x y => decide (x ≤ y)).toArray) os := Tryd.slices_Sort_string blk off cap ss w hH hblk hsz
end Go.Proofs.YtlnfebginkmbhaaDoor
