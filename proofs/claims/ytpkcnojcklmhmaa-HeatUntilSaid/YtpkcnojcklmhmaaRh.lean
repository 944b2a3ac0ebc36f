/- Walk of Until whatever comes in: contract. -/
import Derived.Test.YtpkcnojcklmhmaaRg
namespace Go.Proofs.Ytpkcnojcklmhmaa
open Go.RowKit Go.Shelf

set_option maxRecDepth 20000 in
set_option maxHeartbeats 4000000 in
theorem huntil_err (r l a b k a2 b2 : Int) (w : World) (v : Value) (T : List Int) (br : Bool) (bath t : Int) (hl : RowI w v T) (hne : chkE (bothB r l a b k a2 b2 T br) [bath, t] ≠ 0) :
    Calls Try.prog 25 #[.agg #[.int .i64 r, .int .i64 l, .int .i64 a, .int .i64 b, .int .i64 k, .int .i64 a2, .int .i64 b2], .agg #[v, .bool br], .int .i64 bath, .int .i64 t] w (PairU (0, chkE (bothB r l a b k a2 b2 T br) [bath, t]) w) := by
  obtain ⟨ce, hce⟩ : ∃ ce, ce = chkE (bothB r l a b k a2 b2 T br) [bath, t] := ⟨_, rfl⟩
  rw [← hce] at hne ⊢
  have HC := hid hce; clear hce
  have hb0 : (ce == 0) = false := by simpa using hne
  have hb1 : (ce != 0) = true := by simpa using hne
  have HL := hid (fun w1 (g : Below w.heap.size w w1) => hl.keep g)
  obtain ⟨a0, cap, rfl⟩ := hl.shape
  clear hl
  have HS := hid (u5_start (w := w) (A := #[.int .i64 r, .int .i64 l, .int .i64 a, .int .i64 b, .int .i64 k, .int .i64 a2, .int .i64 b2]) (B := #[.slice a0 T.length cap, .bool br]) (t := .int .i64 t) (p := .int .i64 0) (q := .int .i64 0))
  go_enter Try.func25, Try.ntmps25
  go_wp2_with (go_at_call 47; refine (check_any _ _ _ _ _ _ _ _ _ T _ _ [bath, t] (HL.out _ (HS.out.low.alloc HS.out.low.size _)) (two_at _ _ _ (by simp))).mono ?_; rintro e w1 ⟨rfl, hb⟩; rw [← HC.out]; have H1 := hid (HS.out.keep (balloc hb)); clear hb; obtain ⟨r0, r1, r2, r3⟩ := H1.out.res)
  have H2 := H1.out.set (.int .i64 0) (.int .i64 ce)
  obtain ⟨c6, c7, _, _⟩ := H2.res
  exact bodyPost_ret (v := .tuple #[.int .i64 0, .int .i64 ce]) (by simp [results, Try.results25, go_sem, c6, c7]) rfl ⟨rfl, H2.low⟩
theorem huntil_all (r l a b k a2 b2 : Int) (w : World) (v : Value) (T : List Int) (br : Bool) (bath t : Int) (hl : RowI w v T) :
    Calls Try.prog 25 #[.agg #[.int .i64 r, .int .i64 l, .int .i64 a, .int .i64 b, .int .i64 k, .int .i64 a2, .int .i64 b2], .agg #[v, .bool br], .int .i64 bath, .int .i64 t] w (PairU (untO r l a b k a2 b2 (T, br) bath t) w) := by
  cases hbb : bothB r l a b k a2 b2 T br
  · rw [untO_can (x := (T, br)) hbb]
    have h := huntil_err r l a b k a2 b2 w v T br bath t hl (by rw [hbb, chkE_no]; decide)
    rwa [hbb, chkE_no] at h
  cases ho : (okT bath && okT t)
  · rw [untO_far (x := (T, br)) hbb ho]
    have hk : okL [bath, t] = false := by unfold okL; simpa using ho
    have h := huntil_err r l a b k a2 b2 w v T br bath t hl (by rw [hbb, chkE_bad hk]; decide)
    rwa [hbb, chkE_bad hk] at h
  · obtain ⟨c, hcv, ⟨rfl, rfl, rfl, rfl, rfl, rfl, rfl⟩, hbv, hwm⟩ := both_open hbb
    rw [untO_ok (x := (T, br)) hbb ho]
    exact huntil_ok c (T, br) v bath t w hcv hbb ho hl
end Go.Proofs.Ytpkcnojcklmhmaa
