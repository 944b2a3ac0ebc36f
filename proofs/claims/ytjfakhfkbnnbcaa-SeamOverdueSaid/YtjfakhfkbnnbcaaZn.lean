/- Walk of the functions about the iterator over pairs: contracts. -/
import Derived.Test.YtjfakhfkbnnbcaaZm
namespace Go.Proofs.Ytjfakhfkbnnbcaa
open Go.RowKit Go.Shelf
attribute [local go_sem] Oper.semAt_some

theorem pairsf_any (a : Option Addr) (n cap : Nat) (v2 : Value) (h : Int) (w : World) : Calls Try.prog 67 #[.agg #[.slice a n cap, v2], .int .i64 h] w fun e w' => e = .returned (.func (.func 88) #[] #[.pointer (some ⟨w.heap.size + 1, 0, none⟩), .pointer (some ⟨w.heap.size, 0, none⟩)]) ∧ w' = (w.alloc (.cells #[.slice a n cap, v2] 61)).alloc (.cells #[.int .i64 h] 3) := by
  go_enter Try.func67, Try.ntmps67
  go_wp2
  go_ret
  exact ⟨rfl, rfl⟩
/-- The stretch that a pair of checks leaves overdue. -/
theorem overdue2_any (p q : Ck) (eb : Nat) (ev : Int) (w : World) (he : w.cell? ⟨eb, 0, none⟩ = some (.int .i64 ev)) (hp : -100000000 ≤ p.tk ∧ p.tk ≤ 100000001) (_ : -100000000 ≤ q.tk ∧ q.tk ≤ 100000001) (hev : -200000000 ≤ ev ∧ ev ≤ 200000000) :
    Calls Try.prog 48 #[.agg (ckA p), .agg (ckA q), .pointer (some ⟨eb, 0, none⟩)] w fun e w' => e = .returned (.agg #[.int .i64 (ovF ev (p, q)).x, .int .i64 (ovF ev (p, q)).y]) ∧ Below w.heap.size w w' := by
  have hb1 := (Below.refl w.heap.size w).alloc (Nat.le_refl _) (.cells (ckA p) 75)
  have hb2 := hb1.alloc hb1.size (.cells (ckA q) 75)
  have hb3 := hb2.alloc hb2.size (.cells #[.int .i64 0, .int .i64 0] 68)
  have h3 := keep_cell hb3 he
  have HB3 := hid hb3
  simp only [ckA] at h3
  clear hb1 hb2 hb3
  simp only [ckA]
  go_enter Try.func48, Try.ntmps48
  go_wp2
  refine bodyPost_ret (v := .agg #[.int .i64 (p.tk + ev), .int .i64 q.tk]) (by simp [results, Try.results48, go_sem]) rfl ⟨rfl, ?_⟩
  exact (((Below.refl _ _).alloc (Nat.le_refl _) _).alloc (by simp) _).alloc (by simp; omega) _
/-- The iterator over the pairs of a head, as a law for a range over it. -/
theorem pairs_seq (h : Int) (l : List Ck) (hb cb : Nat) (a : Option Addr) (ba o cap n0 x0 y0 : Nat) (hlen : l.length ≤ 10000) (hne : (hb ≠ x0 ∧ hb ≠ y0) ∧ (cb ≠ x0 ∧ cb ≠ y0) ∧ (l ≠ [] → ba ≠ x0 ∧ ba ≠ y0)) (w : World) (hI : ItP h l hb cb a ba o cap n0 w) :
    SeqG 75 Fence.wide 9 Try.prog 88 #[.pointer (some ⟨hb, 0, none⟩), .pointer (some ⟨cb, 0, none⟩)] encP (KpP n0 x0 y0) (prL h l) w := fun l0 J Jx W hW hJ _ hY h0 =>
  pairs_run l0 h l hb cb a ba o cap n0 x0 y0 W.heap.size J Jx hlen hne hJ hY W (hI.past hW.size (fun j hj => hW.block j (Nat.lt_of_lt_of_le hj hI.le))) (Nat.le_refl _) h0
end Go.Proofs.Ytjfakhfkbnnbcaa
