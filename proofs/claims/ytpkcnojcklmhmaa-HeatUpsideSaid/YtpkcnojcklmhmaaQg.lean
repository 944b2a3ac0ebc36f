/- slices.Collect over what Chunk yields; slices.Grow of nothing: contracts. -/
import Derived.Test.YtpkcnojcklmhmaaQf
import Derived.Lib.AppendZeros
namespace Go.Proofs.Ytpkcnojcklmhmaa
open Go.RowKit Go.Shelf Go.Lib

set_option maxHeartbeats 2000000 in
theorem collect_any (sb nb b o P cap R L : Nat) (w : World) (hR : 0 < R) (hP : P = L * R) (hcap : P ≤ cap) (hbig : P ≤ 1000000) (hL : L ≤ 1000) (hI : ItC sb nb b o P cap R w.heap.size w) :
    Calls Try.prog 67 #[.func (.func 93) #[] #[.pointer (some ⟨sb, 0, none⟩), .pointer (some ⟨nb, 0, none⟩)]] w fun e w' => ∃ v, e = .returned v ∧ OwnV w' (w.heap.size + 1) v ((List.range L).map (ckV b o R)) ∧ Below w.heap.size w w' := by
  have HA := hid (appendSeq_any sb nb b o P cap R L w hR hP hcap hbig hL hI)
  clear hR hP hcap hbig hL hI
  go_enter Try.func67, Try.ntmps67
  go_wp2_with fail
  refine HA.out.mono ?_
  rintro e w1 ⟨v, rfl, h1, h2⟩
  have H1 := hid h1
  have H2 := hid h2
  clear h1 h2
  go_wp2_with fail
  go_ret
  exact ⟨_, rfl, H1.out, H2.out⟩
theorem infoQ : (Try.prog.info? 3).map (fun i => (i.zero, i.size, i.bytes)) = some (some (.int .i64 0), 1, 8) := by kernel_rfl
set_option maxRecDepth 20000 in
set_option maxHeartbeats 2000000 in
theorem grow_any (n : Nat) (w : World) (h0 : 0 < n) (hm : n ≤ 1000000) :
    Calls Try.prog 94 #[.slice none 0 0, .int .i64 (n : Int)] w fun e w' => ∃ v, e = .returned v ∧ w'.ownsRow w.heap.size 3 1 v 0 [] ∧ Below w.heap.size w w' := by
  obtain ⟨i0, hi, hz0, hz1, hz2⟩ := info_parts infoQ
  have hr := fun W : World => run_append_nil_zeros (P := Try.prog) W 24 3 24 3 i0 _ .i64 .i64 Try.underlying24 Try.underlying3 hi hz0 n h0 (by rw [hz1]; omega) (by omega) (by rw [hz2]; omega)
  have h1 : ¬ (n : Int) < 0 := by omega
  have h2 : (0 : Int) < (n : Int) := by omega
  go_enter Try.func94, Try.ntmps94
  go_wp2_with (refine wpList_append_run _ rfl _ _ 24 3 rfl _ _ rfl rfl _ _ (hr _) ?_)
  go_ret
  have g1 := grownCap_ge w n 0 3
  have g2 := grownCap_le_maxLen w n 0 3 (by unfold maxLen; omega)
  refine ⟨_, rfl, ⟨rfl, .inr ⟨w.heap.size, _, _, rfl, Nat.le_refl _, (heap_alloc_new w _), Nat.zero_le _, g2, ?_, by simp⟩⟩, ((Below.refl _ w).alloc (Nat.le_refl _) _).drew⟩
  simp [size_zeroCells]
  omega
end Go.Proofs.Ytpkcnojcklmhmaa
