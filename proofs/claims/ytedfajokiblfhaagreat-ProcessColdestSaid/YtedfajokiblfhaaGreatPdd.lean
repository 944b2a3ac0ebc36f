/- Walk of the iterator over cooks: contract. -/
import Derived.Test.YtedfajokiblfhaaGreatPdc
namespace Go.Proofs.YtedfajokiblfhaaGreat
open Go.RowKit Go.Shelf Go.Lib
attribute [local go_sem] Oper.semAt_some

set_option maxRecDepth 100000 in
set_option maxHeartbeats 8000000 in
theorem cooks_run (l0 : Nat) (c : Cn) (need : Int) (F : Nat) (lb : Array Value) (bath cold : Int) (most cooling : Nat) (f : Int → Nat) (lo hi : Int) (mb B0 : Nat) (I : World → Prop) (x0 : Ck) (more N y0 fb sb qb n0 B : Nat) (J Jx : Nat → World → Prop) (hR : RateOk F lb f lo hi mb B0 I) (hF : Fix I mb) (hv : c.V) (hG : Good c x0.d) (hb : okT bath = true) (hbb : lo ≤ bath ∧ bath ≤ hi) (hbd : ∀ t ∈ x0.d.1.1, lo ≤ t ∧ t ≤ hi)
    (hm0 : x0.m ≤ 2000) (hmost : most ≤ 2000) (hmore : 1 ≤ more ∧ more ≤ 45) (hN : ∀ k, k < N ↔ x0.m + k * more ≤ most) (hB0 : B0 ≤ n0) (hy0 : y0 < n0)
    (hJ : AbN 127 B J) (hY : ∀ k x W1, k < N → XsC c f x0.d bath x0.m more y0 k x W1 → J k W1 → YieldAt Fence.wide 8 Tryz.prog l0 (encC x) W1 fun e W' =>
      (e = .returned (.bool true) ∧ J (k + 1) W' ∧ KpK I y0 W1 W') ∨ (e = .returned (.bool false) ∧ Jx (k + 1) W'))
    (W : World) (hI : ItK c need F lb bath cold most cooling I sb qb more n0 y0 W) (hfr : W.heap[fb]? = some (.cells (ckc x0) 127 (0, 0))) (hat : CkAt y0 x0 W) (hB : B ≤ W.heap.size) (h0 : J 0 W) :
    CallsIn Fence.wide 9 Tryz.prog 135 #[.func (.yield l0) #[] #[], .pointer (some ⟨fb, 0, none⟩), .pointer (some ⟨sb, 0, none⟩), .pointer (some ⟨qb, 0, none⟩)] W fun e W' => (∃ v, e = .returned v) ∧ (J N W' ∨ ∃ k, k ≤ N ∧ Jx k W') := by
  have HI := hid hI; have HY := hid hY; have HJ := hid hJ; have H0 := hid h0; have HRR := hid hR; have HFX := hid hF; have HFR := hid hfr; have HN := hid hN
  have HGD := hid (fun n => afN_good (f := f) n hv.ok hG hb)
  have HP := hid hv.ok.p
  have HLN := hid (fun n => (show (afN c f x0.d bath n).1.1.length = c.P ∧ (afN c f x0.d bath n).2.length = c.P from ⟨(bodyV_iff.1 (afN_good n hv.ok hG hb).body).1, (afN_good n hv.ok hG hb).len⟩))
  have HAF := hid (fun k (E : Dish) (hE : E = afN c f x0.d bath k) (ua ub : Option Addr) (uc ud : Nat) (W : World) (hIW : I W) (ht : RowI W (.slice ua E.1.1.length uc) E.1.1) (hs : RowI W (.slice ub E.2.length ud) (ivN E.2)) => mafterN_any c need bath F lb f lo hi mb B0 I E ua ub uc ud W hR hv (by rw [hE]; exact afN_good k hv.ok hG hb) hb hIW ht hs (by
      have := afN_bd (f := f) (k + 1) hv.ok hG hbb hbd
      rw [afN_succ] at this
      rw [hE]
      exact this))
  have HSU := hid (fun k => afN_succ c f x0.d bath k)
  have HZ := hid (afN_zero c f x0.d bath)
  have HAT := hid hat
  have hfl := lt_of_block hfr
  have hle := hI.le
  have p1 : 0 < x0.d.1.1.length := by have := (bodyV_iff.1 hG.body).1; have := hv.ok.p.1; omega
  have p2 : 0 < x0.d.2.length := by have := hG.len; have := hv.ok.p.1; omega
  have HPP := hid (And.intro p1 p2)
  clear hI hY hJ h0 hR hF hfr hN hv hG hb hbb hbd hat p1 p2
  refine callsIn_of_wp Tryz.func135 rfl trivial ?_ rfl
  simp only [Tryz.ntmps135, List.size_toArray, List.length_cons, List.length_nil, Nat.reduceAdd, Nat.reduceSub, Array.replicate_succ, Array.replicate_zero, List.push_toArray, List.append_toArray, List.nil_append, List.cons_append]
  gi_wp2_with (first
    | (refine wpListIn_load_whole rfl 127 _ rfl fb rfl 127 (ckc x0) (0, 0) _ HFR.out Tryz.underlying127 rfl (infoCk x0) ?_)
    | (refine wpListIn_store_whole rfl 127 _ _ rfl W.heap.size (ckc x0) rfl rfl 127 _ (heap_alloc_new W _) (infoCk x0) rfl (ckc_one x0) ?_; generalize hW : World.setRow _ _ _ = W2; have HS := hid (laid_row hW); clear hW))
  have HST : Hid (ItK c need F lb bath cold most cooling I sb qb more n0 y0 W2 ∧ CurC c f x0.d bath (0 * more) (x0.m + 0 * more) y0 W.heap.size x0 W2 ∧ J 0 W2 ∧ B ≤ W2.heap.size) := by
    obtain ⟨hs1, hs2⟩ := HS.out
    refine ⟨HI.out.keep HRR.out hs2, ⟨hs1, HAT.out.keep hs2, ?_, by omega, by omega⟩, HJ.out _ _ _ none H0.out (gbelow hs2) (fun j e => by cases e), Nat.le_trans hB hs2.size⟩
    rw [Nat.zero_mul, HZ.out]
  have hnb0 : n0 ≤ W.heap.size := hle
  clear HFR HS HI HAT H0 hfl
  go_simp
  gi_loopw [5] (fun v wr => ∃ k nb x, k ≤ N ∧ n0 ≤ nb ∧ B ≤ nb ∧ v = .pointer (some ⟨nb, 0, none⟩) ∧ Hid (ItK c need F lb bath cold most cooling I sb qb more n0 y0 wr ∧ CurC c f x0.d bath (k * more) (x0.m + k * more) y0 nb x wr ∧ J k wr ∧ B ≤ wr.heap.size)) (fun v wr => 10000 - mOf v wr)
  case atStart => exact ⟨0, W.heap.size, x0, Nat.zero_le _, hnb0, hB, rfl, HST⟩
  case round =>
    obtain ⟨k, nb, x, hk, hn, hBn, rfl, hR⟩ := hrel
    have hmm : x0.m + k * more ≤ 2045 := by
      rcases k with _ | k'
      · omega
      · have := (HN.out k').1 (by omega)
        rw [Nat.succ_mul]
        omega
    have HSM := hid (show x0.m + (k + 1) * more = x0.m + k * more + more by rw [Nat.succ_mul]; omega)
    have HSK := hid (show (k + 1) * more = k * more + more from Nat.succ_mul k more)
    have HNK := hid (HN.out k)
    obtain ⟨⟨m0, m1, m2, m3, m4, m5, m6, m7, m8⟩, ⟨s0, s1, s2, s3⟩, q0⟩ := hR.out.1.facts
    have t3 : wr.cell? ⟨nb, 3, none⟩ = some (.int .i64 ((x0.m + k * more : Nat) : Int)) := by
      have h := cell_of_row wr nb 3 _ _ _ hR.out.2.1.box
      have e := hR.out.2.1.tick
      simpa [ckc, e] using h
    have HMO := hid hR.out.2.1.mOf
    by_cases hlt : x0.m + k * more ≤ most
    · obtain ⟨fn, tmps, assign, body, hy, hYR⟩ := HY.out k x wr (HNK.out.2 hlt) ⟨hR.out.2.1.at', hR.out.2.1.dis, hR.out.2.1.tick⟩ hR.out.2.2.1
      simp only [encC] at hy
      have HKN := hid (HNK.out.2 hlt)
      generalize x0.m + k * more = m at *
      have hlt' : (m : Int) ≤ most := by omega
      have HYR := hid hYR
      have HBX := hid hR.out.2.1.box
      clear hYR hlt
      gi_wp2_with (refine wpListIn_load_whole rfl 127 _ rfl nb rfl 127 (ckc x) (0, 0) _ HBX.out Tryz.underlying127 rfl (infoCk x) ?_)
      refine HYR.out.mono ?_
      rintro e W3 (⟨rfl, hJ3, hk3⟩ | ⟨rfl, hJx3⟩)
      · have H3 : Hid (ItK c need F lb bath cold most cooling I sb qb more n0 y0 W3 ∧ CurC c f x0.d bath (k * more) m y0 nb x W3 ∧ J (k + 1) W3 ∧ B ≤ W3.heap.size) := ⟨hR.out.1.kp hk3, hR.out.2.1.kp hk3, hJ3, Nat.le_trans hR.out.2.2.2 hk3.size⟩
        clear hJ3 hk3 hR m0 m1 m2 m3 m4 m5 m6 m7 m8 s0 s1 s2 s3 q0 t3 HBX HYR hy
        have q0 := H3.out.1.facts.2.2
        gi_wp2
        gi_loopw [17] (fun i wr => ∃ j x, j ≤ more ∧ i = .int .i64 (j : Int) ∧ Hid (ItK c need F lb bath cold most cooling I sb qb more n0 y0 wr ∧ CurC c f x0.d bath (k * more + j) m y0 nb x wr ∧ J (k + 1) wr ∧ B ≤ wr.heap.size)) (fun i _ => more - (intOf i).toNat)
        case atStart => exact ⟨0, x, Nat.zero_le _, rfl, H3⟩
        case round =>
          clear q0 H3
          obtain ⟨j, x, hj, rfl, hR⟩ := hrel
          obtain ⟨⟨m0, m1, m2, m3, m4, m5, m6, m7, m8⟩, ⟨s0, s1, s2, s3⟩, q0⟩ := hR.out.1.facts
          have d0 := cell_of_row _ _ 0 _ _ _ hR.out.2.1.box
          have d1 := cell_of_row _ _ 1 _ _ _ hR.out.2.1.box
          have d2 := cell_of_row _ _ 2 _ _ _ hR.out.2.1.box
          have d3 := cell_of_row _ _ 3 _ _ _ hR.out.2.1.box
          simp only [ckc, List.getElem?_toArray, List.getElem?_cons_zero, List.getElem?_cons_succ] at d0 d1 d2 d3
          by_cases hjl : j < more
          · have hjl' : (j : Int) < more := by omega
            have hAF := hid (HAF.out (k * more + j) x.d hR.out.2.1.dis x.ua x.ub x.uc x.ud _ hR.out.1.inv hR.out.2.1.at'.temps hR.out.2.1.at'.sums)
            have hSU := hid (show dishT c f x.d bath = afN c f x0.d bath (k * more + j + 1) by rw [hR.out.2.1.dis, HSU.out])
            have HJL := hid hjl
            clear hjl
            gi_wp2
            refine ⟨trivial, ?_⟩
            refine (callsIn_wide.2 hAF.out).mono ?_
            rintro e W4 ⟨ua, ub, uc, ud, rfl, ht4, hs4, hi4, hg4, hna, hnb4⟩
            rw [hSU.out] at ht4 hs4 ⊢
            have hb4 := HFX.out.low hR.out.1.inv hi4 hg4
            have hnbl := lt_of_block hR.out.2.1.box
            have H4 : Hid (ItK c need F lb bath cold most cooling I sb qb more n0 y0 W4 ∧ CurC c f x0.d bath (k * more + j) m y0 nb x W4 ∧ J (k + 1) W4 ∧ B ≤ W4.heap.size) := ⟨hR.out.1.keep HRR.out hb4, hR.out.2.1.keep hb4, HJ.out _ _ _ none hR.out.2.2.1 (gbelow hb4) (fun j e => by cases e), Nat.le_trans hR.out.2.2.2 hb4.size⟩
            have HRO := hid (And.intro ht4 (And.intro hs4 (And.intro (show Loc y0 W4 ua from fun p e => .inr ⟨by have := (hna p e).1; omega, (hna p e).2⟩) (show Loc y0 W4 ub from fun p e => .inr ⟨by have := (hnb4 p e).1; omega, (hnb4 p e).2⟩))))
            clear m0 m1 m2 m3 m4 m5 m6 m7 m8 s0 s1 s2 s3 q0 d0 d1 d2 d3 ht4 hs4 hi4 hg4 hna hnb4 hb4 hnbl hR hAF
            have d0 := cell_of_row _ _ 0 _ _ _ H4.out.2.1.box
            have d1 := cell_of_row _ _ 1 _ _ _ H4.out.2.1.box
            have d2 := cell_of_row _ _ 2 _ _ _ H4.out.2.1.box
            simp only [ckc, List.getElem?_toArray, List.getElem?_cons_zero, List.getElem?_cons_succ] at d0 d1 d2
            have f0 := frozen_of_row _ _ 0 _ _ H4.out.2.1.box
            have f1 := frozen_of_row _ _ 1 _ _ H4.out.2.1.box
            have f2 := frozen_of_row _ _ 2 _ _ H4.out.2.1.box
            have hz := lt_of_block H4.out.2.1.box
            gi_wp2
            generalize hW : World.setCell _ ⟨nb, 2, none⟩ _ = W5
            obtain ⟨h5, e5, g5⟩ := H4.out.2.1.store rfl HRO.out.1 HRO.out.2.1 HRO.out.2.2.1 HRO.out.2.2.2 hW
            have H5 : Hid (ItK c need F lb bath cold most cooling I sb qb more n0 y0 W5 ∧ CurC c f x0.d bath (k * more + (j + 1)) m y0 nb _ W5 ∧ J (k + 1) W5 ∧ B ≤ W5.heap.size) := ⟨H4.out.1.turn HRR.out g5 hn hB0 e5, h5, HJ.out _ _ _ (some nb) H4.out.2.2.1 g5 (fun j e => by cases e; exact ⟨hBn, _, H4.out.2.1.box, .inr ⟨_, rfl⟩⟩), Nat.le_trans H4.out.2.2.2 g5.size⟩
            clear h5 e5 g5 hW d0 d1 d2 f0 f1 f2 hz H4
            go_roundw
            case rel => exact ⟨j + 1, _, HJL.out, by go_num, H5⟩
            case measure => have := HJL.out; simp [intOf]; omega
          · obtain rfl : j = more := by omega
            have f3 := frozen_of_row _ _ 3 _ _ hR.out.2.1.box
            have hz := lt_of_block hR.out.2.1.box
            have hxm := hR.out.2.1.tick
            rw [hxm] at d3
            clear hjl
            gi_wp2_with (first
              | (rw [← Int.natCast_add]; generalize hW : World.setCell _ ⟨nb, 3, none⟩ _ = W5; have H5 := hid (hR.out.2.1.count hW); clear hW; refine wpListIn_load_whole rfl 127 _ rfl nb rfl 127 (ckc ⟨x.d, m + j, x.ua, x.ub, x.uc, x.ud⟩) (0, 0) _ H5.out.1.box Tryz.underlying127 rfl (infoCk _) ?_)
              | (refine wpListIn_store_whole rfl 127 _ _ rfl W5.heap.size (ckc ⟨x.d, m + j, x.ua, x.ub, x.uc, x.ud⟩) rfl rfl 127 _ (heap_alloc_new W5 _) (infoCk _) rfl (ckc_one _) ?_; generalize hW : World.setRow _ _ _ = W6; have H6 := hid hW; clear hW))
            obtain ⟨h5, e5, g5⟩ := H5.out
            obtain ⟨h6, b6⟩ := h5.next H6.out
            have i6 := (hR.out.1.turn HRR.out g5 hn hB0 e5).keep HRR.out b6
            have j6 := HJ.out _ _ _ none (HJ.out _ _ _ (some nb) hR.out.2.2.1 g5 (fun j e => by cases e; exact ⟨hBn, _, hR.out.2.1.box, .inr ⟨_, rfl⟩⟩)) (gbelow b6) (fun j e => by cases e)
            have hz5 := g5.size
            have hz6 := b6.size
            have hle := hR.out.1.le
            have hbs := hR.out.2.2.2
            have hmo := h6.mOf
            have hmo0 := HMO.out
            rw [← HSK.out, ← HSM.out] at h6
            have H9 : Hid (ItK c need F lb bath cold most cooling I sb qb j n0 y0 W6 ∧ CurC c f x0.d bath ((k + 1) * j) (x0.m + (k + 1) * j) y0 W5.heap.size _ W6 ∧ J (k + 1) W6 ∧ B ≤ W6.heap.size) := ⟨i6, h6, j6, by omega⟩
            clear h5 e5 g5 h6 b6 i6 j6 H5 H6 hR HAF d0 d1 d2 d3 f3 hz hxm m0 m1 m2 m3 m4 m5 m6 m7 m8 s0 s1 s2 s3 q0
            go_simp
            go_roundw
            case rel => exact ⟨k + 1, HKN.out, W5.heap.size, by omega, by omega, rfl, _, H9⟩
            case measure => omega
      · have HX3 := hid hJx3
        clear hJx3
        gi_wp2
        refine bodyPost_ret (results_none rfl _ _ _) rfl ?_
        exact ⟨⟨_, rfl⟩, .inr ⟨k + 1, HKN.out, HX3.out⟩⟩
    · have hkN : k = N := by
        have := HNK.out.1
        by_cases e : k < N
        · exact absurd (this e) hlt
        · omega
      subst hkN
      have HJE := hid hR.out.2.2.1
      generalize x0.m + k * more = m at *
      have hlt' : ¬ (m : Int) ≤ most := by omega
      clear hlt
      gi_wp2
      go_end0
      exact ⟨⟨_, rfl⟩, .inl HJE.out⟩
end Go.Proofs.YtedfajokiblfhaaGreat
