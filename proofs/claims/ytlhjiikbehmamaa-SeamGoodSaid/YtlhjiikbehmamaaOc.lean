/- Walks of the reference's floor, percent, Overlap, Percent; of Overlap and Percent of the code, whatever comes in: contracts. -/
import Derived.Test.YtlhjiikbehmamaaOa
namespace Go.Proofs.Ytlhjiikbehmamaa
open Go.RowKit

theorem fx_neg {n b : Int} (hn : n < 0) (hb : 0 < b) : (¬ n.tmod b = 0 → n.tdiv b - 1 = n / b) ∧ (n.tmod b = 0 → n.tdiv b = n / b) := by
  obtain ⟨_, _, h3, h4⟩ := fl_neg hn hb
  have h0 : n.tmod b ≤ 0 := by
    have := Int.tmod_nonneg b (show 0 ≤ -n by omega)
    rw [Int.neg_tmod] at this
    omega
  exact ⟨fun h => h3 (by omega), fun h => h4 (by omega)⟩
set_option maxHeartbeats 1000000 in
theorem kxfloor_any (n b : Int) (w : World) (hb : 1 ≤ b) (h1 : -1000000000000000 ≤ n) (h2 : n ≤ 1000000000000000) : Calls Try.prog 40 #[.int .i64 n, .int .i64 b] w fun e w' => e = .returned (.int .i64 (n / b)) ∧ w = w' := by
  by_cases hn : 0 ≤ n
  · have hm' : decide (n < 0) = false := decide_eq_false (by omega)
    go_enter Try.func40, Try.ntmps40
    go_wp2
    go_ret
    exact ⟨rfl, rfl⟩
  · have hn0 : n < 0 := by omega
    obtain ⟨f1, f2, _, _⟩ := fl_neg hn0 (show 0 < b by omega)
    obtain ⟨g3, g4⟩ := fx_neg hn0 (show 0 < b by omega)
    obtain ⟨q, hq⟩ : ∃ q, n.tdiv b = q := ⟨_, rfl⟩
    obtain ⟨r, hr⟩ : ∃ r, n.tmod b = r := ⟨_, rfl⟩
    rw [hq] at f1 f2 g3 g4
    rw [hr] at g3 g4
    have HF3 := hid g3
    have HF4 := hid g4
    clear g3 g4
    by_cases hr0 : r = 0
    · have HE := hid (HF4.out hr0)
      have hb0 : (r != 0) = false := by simpa using hr0
      clear hr0
      go_enter Try.func40, Try.ntmps40
      go_wp2
      go_ret
      exact ⟨ret_int HE.out, rfl⟩
    · have HE := hid (HF3.out hr0)
      have hb0 : (r != 0) = true := by simpa using hr0
      clear hr0
      go_enter Try.func40, Try.ntmps40
      go_wp2
      go_ret
      exact ⟨ret_int HE.out, rfl⟩
set_option maxHeartbeats 4000000 in
theorem kxpct_any (x : Sh) (w : World) (h : ShOk x) : Calls Try.prog 43 #[.agg #[.int .i64 x.tk, .int .i64 x.hd, .int .i64 x.bh, .int .i64 x.ch, .int .i64 x.ht, .int .i64 x.ep, .int .i64 x.bp, .int .i64 x.wr, .int .i64 x.th, .int .i64 x.cs]] w fun e w' => e = .returned (.int .i64 (pctT x)) ∧ Below w.heap.size w w' := by
  have HOK := hid h
  obtain ⟨_, _, _, ⟨e1, e2⟩, ⟨p1, p2⟩, ⟨h1, h2⟩, ⟨h3, h4⟩, ⟨h5, h6⟩, _, _⟩ := h
  have HO1 := hid (show -1000000 ≤ ovT x ∧ ovT x ≤ 1000000 by unfold ovT; omega)
  have HB := hid (boxS_below w x)
  have HBB := hid (fun W (g : Below (w.alloc (.cells #[.int .i64 x.tk, .int .i64 x.hd, .int .i64 x.bh, .int .i64 x.ch, .int .i64 x.ht, .int .i64 x.ep, .int .i64 x.bp, .int .i64 x.wr, .int .i64 x.th, .int .i64 x.cs] 28)).heap.size (w.alloc (.cells #[.int .i64 x.tk, .int .i64 x.hd, .int .i64 x.bh, .int .i64 x.ch, .int .i64 x.ht, .int .i64 x.ep, .int .i64 x.bp, .int .i64 x.wr, .int .i64 x.th, .int .i64 x.cs] 28)) W) => bstep (boxS_below w x) (boxS_below w x).size g)
  have HRT := hid (show roomT x = 10 * x.ht - 11 * (2 * x.ep + x.bp) from rfl)
  have HP := hid (show pctT x = if roomT x ≤ 0 then 0 else 100 * ovT x / roomT x from rfl)
  by_cases h0 : 10 * x.ht - 11 * (2 * x.ep + x.bp) ≤ 0
  · have HE := hid (show pctT x = 0 by rw [HP.out, HRT.out, if_pos h0])
    go_enter Try.func43, Try.ntmps43
    go_wp2_with fail
    go_ret
    exact ⟨ret_int HE.out.symm, HB.out⟩
  · have HE := hid (show pctT x = 100 * ovT x / (10 * x.ht - 11 * (2 * x.ep + x.bp)) by rw [HP.out, HRT.out, if_neg h0])
    obtain ⟨O, hO⟩ : ∃ O, O = ovT x := ⟨_, rfl⟩
    have HO := hid hO
    rw [← hO] at HO1 HE
    obtain ⟨o1, o2⟩ := HO1.out
    clear hO
    go_enter Try.func43, Try.ntmps43
    go_wp2_with fail
    refine (ktenth_any x _ HOK.out).mono ?_
    rintro e w1 ⟨rfl, hb⟩
    rw [← HO.out]
    have HB1 := hid (HBB.out _ hb)
    clear hb
    go_wp2_with fail
    refine (kxfloor_any (100 * O) _ _ (by omega) (by omega) (by omega)).mono ?_
    rintro e w2 ⟨rfl, rfl⟩
    go_wp2_with fail
    go_ret
    exact ⟨ret_int HE.out.symm, HB1.out⟩
end Go.Proofs.Ytlhjiikbehmamaa
