/- Walk of the reference's Run: contract. -/
import Derived.Test.YtpkcnojcklmhmaaXf
namespace Go.Proofs.Ytpkcnojcklmhmaa
open Go.RowKit

theorem own_or (v : Value) : v.ownBlock = none ∨ v.ownBlock ≠ none := by cases v.ownBlock <;> simp
def lenV (v : Value) : Nat := match v with
  | .slice _ n _ => n
  | _ => 0
/-- The reference's boxes in its loop. -/
structure RuX (w : World) (J : Jb) (x : Ld) (k : Nat) (W : World) : Prop where
  ves : W.heap[w.heap.size]? = some (.cells J.wA 53 (0, 0))
  ld : W.heap[w.heap.size + 1]? = some (.cells (ldA (J.lds x k)) 57 (0, 0))
  res : W.heap[w.heap.size + 1 + 1]? = some (.cells (ldA ⟨0, 0, 0, 0, 0⟩) 57 (0, 0))
  low : Below w.heap.size w W
theorem RuX.grown {w W W' : World} {J : Jb} {x : Ld} {k : Nat} {row : Option Nat} (h : RuX w J x k W) (hg : W.grownBy W' row) (hr : ∀ j, row = some j → w.heap.size + 3 ≤ j) : RuX w J x k W' :=
  ⟨(hg.block _ (lt_at h.ves) (fun e => by have := hr _ e.symm; omega)).trans h.ves, (hg.block _ (lt_at h.ld) (fun e => by have := hr _ e.symm; omega)).trans h.ld, (hg.block _ (lt_at h.res) (fun e => by have := hr _ e.symm; omega)).trans h.res, h.low.grown hg h.low.size (fun j e => by have := hr j e; omega)⟩
theorem RuX.step {w W W' : World} {J : Jb} {x : Ld} {k : Nat} (h : RuX w J x k W) (hW : W.setRow (w.heap.size + 1) (ldA (J.lds x (k + 1))) = W') : RuX w J x (k + 1) W' := by
  obtain ⟨g1, g2, g3, g4⟩ := own_row hW h.ld
  exact ⟨(g4 _ (by omega)).trans h.ves, g1, (g4 _ (by omega)).trans h.res, h.low.grown g2 h.low.size (fun j e => by cases e; omega)⟩
set_option maxRecDepth 20000 in
set_option maxHeartbeats 4000000 in
theorem xrun_bad (J : Jb) (x : Ld) (u z : Value) (w : World) (hs : J.s.size ≤ maxLen) (hp : RowP w u J.m J.P) (hq : RowT w z J.n J.q) (hg : goodB J.s J.h J.c J.v J.p J.ch J.m J.P J.n J.q x = false) :
    Calls Try.prog 38 #[.agg J.wA, u, z, .agg (ldA x)] w (RunBad w) := by
  have HVAL := hid (fun w1 (h1 : RowP w1 u J.m J.P) (h2 : RowT w1 z J.n J.q) => xsound_any J.s J.h J.c J.v J.p J.ch u J.m J.P z J.n J.q x.tick x.step x.gone x.temp x.air w1 hs h1 h2)
  rw [show goodB J.s J.h J.c J.v J.p J.ch J.m J.P J.n J.q ⟨x.tick, x.step, x.gone, x.temp, x.air⟩ = false from hg] at HVAL
  have HP := hid (fun w1 (g : Below w.heap.size w w1) => RowT.keep hp g)
  have HQ := hid (fun w1 (g : Below w.heap.size w w1) => hq.keep g)
  obtain ⟨pa, pc, rfl⟩ := RowT.shape hp
  obtain ⟨qa, qc, rfl⟩ := hq.shape
  have HS := hid (ruB_start w J x)
  clear hp hq hg hs
  unfold Jb.wA ldA at HS ⊢
  go_enter Try.func38, Try.ntmps38
  go_wp2_with (first
    | (go_at_call 76; refine (HVAL.out _ (HP.out _ HS.out.low) (HQ.out _ HS.out.low)).mono ?_; rintro e w1 ⟨rfl, hb⟩; have H1 := hid (HS.out.keep hb); clear hb)
    | (refine wpList_store_row rfl 57 _ _ rfl (w.heap.size + 1 + 1) (ldA ⟨0, 0, 0, 0, 0⟩) rfl rfl 57 _ H1.out.res (infoLd _) (by rfl) (ldA_one _) ?_; generalize hW : World.setRow _ _ _ = W6; have H6 := hid (own_row hW H1.out.res); clear hW))
  have e0 := cell_of_row _ _ 0 _ _ _ H6.out.1; have e1 := cell_of_row _ _ 1 _ _ _ H6.out.1; have e2 := cell_of_row _ _ 2 _ _ _ H6.out.1; have e3 := cell_of_row _ _ 3 _ _ _ H6.out.1; have e4 := cell_of_row _ _ 4 _ _ _ H6.out.1
  simp only [ldA, List.getElem?_toArray, List.getElem?_cons_zero, List.getElem?_cons_succ] at e0 e1 e2 e3 e4
  refine bodyPost_ret (v := .tuple #[.agg (ldA ⟨0, 0, 0, 0, 0⟩), .slice none 0 0, .int .i64 1]) (by simp [ldA, results, Try.results38, go_sem, e0, e1, e2, e3, e4]) rfl ⟨rfl, ?_⟩
  exact H1.out.low.grown H6.out.2.1 H1.out.low.size (fun j e => by cases e; omega)
set_option maxRecDepth 20000 in
set_option maxHeartbeats 8000000 in
theorem xrun_job (J : Jb) (x : Ld) (u z : Value) (w : World) (K : Nat) (hs : J.s.size ≤ maxLen) (hp : RowP w u J.m J.P) (hq : RowT w z J.n J.q) (hg : goodB J.s J.h J.c J.v J.p J.ch J.m J.P J.n J.q x = true) (hK : J.Stops x K) :
    Calls Try.prog 38 #[.agg J.wA, u, z, .agg (ldA x)] w (RunK J x K w) := by
  obtain ⟨hJ, hx⟩ := Jb.ok_of hs hg
  have HVAL := hid (fun w1 (h1 : RowP w1 u J.m J.P) (h2 : RowT w1 z J.n J.q) => xsound_any J.s J.h J.c J.v J.p J.ch u J.m J.P z J.n J.q x.tick x.step x.gone x.temp x.air w1 hs h1 h2)
  rw [show goodB J.s J.h J.c J.v J.p J.ch J.m J.P J.n J.q ⟨x.tick, x.step, x.gone, x.temp, x.air⟩ = true from hg] at HVAL
  have HP := hid (fun w1 (g : Below w.heap.size w w1) => RowT.keep hp g)
  have HQ := hid (fun w1 (g : Below w.heap.size w w1) => hq.keep g)
  obtain ⟨pa, pc, rfl⟩ := RowT.shape hp
  obtain ⟨qa, qc, rfl⟩ := hq.shape
  have HJ := hid hJ; have HX := hid hx; have HKS := hid hK
  obtain ⟨i0, hi, hz0, hz1, hz2⟩ := infoRds
  have hmm := hJ.m
  have HS := hid (ruB_start w J x)
  clear hp hq hg hJ hx hK hs
  unfold Jb.wA ldA at HS ⊢
  go_enter Try.func38, Try.ntmps38
  go_wp2_with (go_at_call 76; refine (HVAL.out _ (HP.out _ HS.out.low) (HQ.out _ HS.out.low)).mono ?_; rintro e w1 ⟨rfl, hb⟩; have H1 := hid (HS.out.keep hb); clear hb HS)
  go_loopw [11] (fun s wr => ∃ k : Nat, k ≤ K ∧ ∃ (va : Option Addr) (vc : Nat), s = .slice va k vc ∧ Hid (RuX w J x k wr) ∧ Hid (wr.ownsRow (w.heap.size + 3) 74 4 (.slice va k vc) k (rdvs (J.rds x) k))) (fun s _ => K - lenV s)
  case atStart => exact ⟨0, Nat.zero_le _, none, 0, rfl, ⟨H1.out.ves, H1.out.ld, H1.out.res, H1.out.low⟩, World.ownsRow_nil _ _ _ _⟩
  case round =>
    obtain ⟨k, hk, va, vc, rfl, hR, HO⟩ := hrel
    have hk2 := HKS.out.le
    have HXK := hid (HX.out.lds HJ.out k (fun j hj => HKS.out.live j (by omega)))
    have HNX := hid (show J.lds x (k + 1) = J.next (J.lds x k) from rfl)
    have HRX := hid (show J.rds x k = J.read (J.lds x k) from rfl)
    have HLV := hid (fun h : k < K => HKS.out.live k h)
    obtain ⟨Y, hY⟩ : ∃ y, y = J.lds x k := ⟨_, rfl⟩
    have hld := hR.out.ld
    rw [← hY] at hld HXK HNX HRX HLV
    have HY := hid hY; have HLD := hid hld
    have y0 := cell_of_row _ _ 0 _ _ _ hld; have y1 := cell_of_row _ _ 1 _ _ _ hld
    simp only [ldA, List.getElem?_toArray, List.getElem?_cons_zero, List.getElem?_cons_succ] at y0 y1
    clear hY hld
    by_cases hlt : k < K
    · have HLI := hid (HLV.out hlt)
      obtain ⟨l1, l2⟩ := Jb.live_iff.1 HLI.out
      have l2' : (Y.tick == 100000000) = false := by simp; omega
      have l3' : ((k : Int) == 2000) = false := by simp; omega
      have hzw := hR.out.low.size
      have hzr := lt_at hR.out.res
      go_wp2_with (first
        | (refine wpList_load_row rfl 53 _ rfl w.heap.size rfl 53 J.wA (0, 0) _ hR.out.ves Try.underlying53 rfl (infoWs _) ?_)
        | (refine wpList_load_row rfl 57 _ rfl (w.heap.size + 1) rfl 57 (ldA Y) (0, 0) _ HLD.out Try.underlying57 rfl (infoLd _) ?_)
        | (go_at_call 77; refine (after_job J Y _ _ wr (HP.out _ hR.out.low) (HQ.out _ hR.out.low) HJ.out HXK.out HLI.out).mono ?_; rintro e W4 ⟨rfl, hb4⟩; have HB4 := hid hb4; clear hb4 y0 y1)
        | (refine wpList_store_row rfl 57 _ _ rfl W4.heap.size (ldA (J.next Y)) rfl rfl 57 _ ((Below.heap_alloc _ _ _ (by simp)).trans (heap_alloc_new W4 _)) (infoLd _) (by rfl) (ldA_one _) ?_)
        | (refine wpList_store_row rfl 74 _ _ rfl (W4.heap.size + 1) (rdA (J.read Y)) rfl rfl 74 _ ((setRow_other _ _ _ _ (by omega)).trans (heap_two W4 _ _)) (infoRd1 _) (by rfl) (rdA_one _) ?_; generalize hW : World.setRow (World.setRow _ _ _) _ _ = W5; have HS := hid (new_rows hW); clear hW; have H5 := hid ((hR.out.grown (gbelow HB4.out) (fun j e => by cases e)).grown (gbelow HS.out.2.2.1) (fun j e => by cases e)); have HO5 := hid ((HO.out.kept (gbelow HB4.out) (own_or _)).kept (gbelow HS.out.2.2.1) (own_or _)))
        | (refine wpList_load_row rfl 57 _ rfl W4.heap.size rfl 57 (ldA (J.next Y)) (0, 0) _ HS.out.1 Try.underlying57 rfl (infoLd _) ?_)
        | (refine wpList_store_row rfl 57 _ _ rfl (w.heap.size + 1) (ldA (J.next Y)) rfl rfl 57 _ H5.out.ld (infoLd _) (by rfl) (ldA_one _) ?_; generalize hW : World.setRow _ _ _ = W6; have H6 := hid (own_row hW H5.out.ld); rw [← HNX.out] at hW; have H7 := hid (H5.out.step hW); clear hW; have hz4 := HB4.out.size; have d0 := cell_of_row _ _ 0 _ _ _ ((H6.out.2.2.2 (W4.heap.size + 1) (by omega)).trans HS.out.2.1); have d1 := cell_of_row _ _ 1 _ _ _ ((H6.out.2.2.2 (W4.heap.size + 1) (by omega)).trans HS.out.2.1); have d2 := cell_of_row _ _ 2 _ _ _ ((H6.out.2.2.2 (W4.heap.size + 1) (by omega)).trans HS.out.2.1); have d3 := cell_of_row _ _ 3 _ _ _ ((H6.out.2.2.2 (W4.heap.size + 1) (by omega)).trans HS.out.2.1); simp only [rdA, List.getElem?_toArray, List.getElem?_cons_zero, List.getElem?_cons_succ] at d0 d1 d2 d3; have HO6 := hid (HO5.out.kept H6.out.2.1 (own_ne HO5.out (by omega))))
        | (at_builtin; refine wpList_append_own _ rfl _ _ 61 rfl (w.heap.size + 3) 74 i0 (.agg #[.int .i64 0, .int .i64 0, .int .i64 0, .int .i64 0]) 4 32 Try.underlying61 hi hz0 hz1 hz2 rfl (by decide) (.slice va k vc) k (rdvs (J.rds x) k) rfl (World.ownsRow.alloc HO6.out _) ⟨W6.heap.size, 0, none⟩ 1 1 (rdL (J.read Y)) rfl rfl (rd_new _ _) (rdL_one _) (by unfold maxLen; omega) (by omega) (by have := H6.out.2.2.1; have := HS.out.2.2.2; simp; omega) ?_; intro v8 w8 hown8 hgrow8 _; obtain ⟨va8, vc8, rfl⟩ := rd_shape hown8; have HO8 := hid hown8; have HG8 := hid hgrow8; clear hown8 hgrow8))
      go_roundw
      case rel =>
        have h8 := (H7.out.grown (World.grownBy_alloc _ _ none) (fun j e => by cases e)).grown HG8.out (fun j e => (World.ownsRow.lt HO6.out j e).1)
        exact ⟨k + 1, by omega, va8, vc8, rfl, h8, by have := HO8.out; rw [← HRX.out] at this; exact this⟩
      case measure => simp [lenV]; omega
    · obtain rfl : k = K := by omega
      have s0 := HXK.out.step
      have hzr := lt_at hR.out.res
      by_cases s1 : Y.step = (J.m : Int)
      · have HE := hid (Jb.end_done (J := J) (y := J.lds x k) (by rw [← HY.out]; exact s1) k)
        have s1' : ¬ Y.step < (J.m : Int) := by omega
        clear s1
        go_wp2_with (first
          | (refine wpList_load_row rfl 57 _ rfl (w.heap.size + 1) rfl 57 (ldA Y) (0, 0) _ HLD.out Try.underlying57 rfl (infoLd _) ?_)
          | (refine wpList_store_row rfl 57 _ _ rfl (w.heap.size + 1 + 1) (ldA Y) rfl rfl 57 _ hR.out.res (infoLd _) (by rfl) (ldA_one _) ?_; generalize hW : World.setRow _ _ _ = W6; have H6 := hid (own_row hW hR.out.res); clear hW))
        have e0 := cell_of_row _ _ 0 _ _ _ H6.out.1; have e1 := cell_of_row _ _ 1 _ _ _ H6.out.1; have e2 := cell_of_row _ _ 2 _ _ _ H6.out.1; have e3 := cell_of_row _ _ 3 _ _ _ H6.out.1; have e4 := cell_of_row _ _ 4 _ _ _ H6.out.1
        simp only [ldA, List.getElem?_toArray, List.getElem?_cons_zero, List.getElem?_cons_succ] at e0 e1 e2 e3 e4
        refine bodyPost_ret (v := .tuple #[.agg (ldA Y), .slice va k vc, .int .i64 0]) (by simp [ldA, results, Try.results38, go_sem, e0, e1, e2, e3, e4]) rfl ⟨_, by rw [HE.out.1, HE.out.2.1, HY.out], ?_, ?_⟩
        · rw [HE.out.2.2]; exact own_rowR (HO.out.kept H6.out.2.1 (own_ne HO.out (by omega)))
        · exact hR.out.low.grown H6.out.2.1 hR.out.low.size (fun j e => by cases e; omega)
      · have s1' : Y.step < (J.m : Int) := by omega
        by_cases s2 : Y.tick = 100000000
        · have HE := hid (Jb.end_late (J := J) (y := J.lds x k) (by rw [← HY.out]; exact s1) (by rw [← HY.out]; exact s2) k)
          have s2' : (Y.tick == 100000000) = true := by simpa using s2
          clear s1 s2
          go_wp2_with (refine wpList_store_row rfl 57 _ _ rfl (w.heap.size + 1 + 1) (ldA ⟨0, 0, 0, 0, 0⟩) rfl rfl 57 _ hR.out.res (infoLd _) (by rfl) (ldA_one _) ?_; generalize hW : World.setRow _ _ _ = W6; have H6 := hid (own_row hW hR.out.res); clear hW)
          have e0 := cell_of_row _ _ 0 _ _ _ H6.out.1; have e1 := cell_of_row _ _ 1 _ _ _ H6.out.1; have e2 := cell_of_row _ _ 2 _ _ _ H6.out.1; have e3 := cell_of_row _ _ 3 _ _ _ H6.out.1; have e4 := cell_of_row _ _ 4 _ _ _ H6.out.1
          simp only [ldA, List.getElem?_toArray, List.getElem?_cons_zero, List.getElem?_cons_succ] at e0 e1 e2 e3 e4
          refine bodyPost_ret (v := .tuple #[.agg (ldA ⟨0, 0, 0, 0, 0⟩), .slice none 0 0, .int .i64 7]) (by simp [ldA, results, Try.results38, go_sem, e0, e1, e2, e3, e4]) rfl ⟨_, by rw [HE.out.1, HE.out.2.1], by rw [HE.out.2.2]; exact rowR_nil _ _, ?_⟩
          exact hR.out.low.grown H6.out.2.1 hR.out.low.size (fun j e => by cases e; omega)
        · have HE := hid (Jb.end_none (J := J) (y := J.lds x k) (by rw [← HY.out]; exact s1) (by rw [← HY.out]; exact s2) k)
          have s2' : (Y.tick == 100000000) = false := by simpa using s2
          have hk0 : k = 2000 := by
            rcases HKS.out.end_ with h | h
            · exact h
            · rw [← HY.out] at h
              have := Jb.live_no.1 h
              have := HXK.out.tick
              omega
          have l3' : ((k : Int) == 2000) = true := by simp; omega
          clear s1 s2
          go_wp2_with (refine wpList_store_row rfl 57 _ _ rfl (w.heap.size + 1 + 1) (ldA ⟨0, 0, 0, 0, 0⟩) rfl rfl 57 _ hR.out.res (infoLd _) (by rfl) (ldA_one _) ?_; generalize hW : World.setRow _ _ _ = W6; have H6 := hid (own_row hW hR.out.res); clear hW)
          have e0 := cell_of_row _ _ 0 _ _ _ H6.out.1; have e1 := cell_of_row _ _ 1 _ _ _ H6.out.1; have e2 := cell_of_row _ _ 2 _ _ _ H6.out.1; have e3 := cell_of_row _ _ 3 _ _ _ H6.out.1; have e4 := cell_of_row _ _ 4 _ _ _ H6.out.1
          simp only [ldA, List.getElem?_toArray, List.getElem?_cons_zero, List.getElem?_cons_succ] at e0 e1 e2 e3 e4
          refine bodyPost_ret (v := .tuple #[.agg (ldA ⟨0, 0, 0, 0, 0⟩), .slice none 0 0, .int .i64 8]) (by simp [ldA, results, Try.results38, go_sem, e0, e1, e2, e3, e4]) rfl ⟨_, by rw [HE.out.1, HE.out.2.1], by rw [HE.out.2.2]; exact rowR_nil _ _, ?_⟩
          exact hR.out.low.grown H6.out.2.1 hR.out.low.size (fun j e => by cases e; omega)
end Go.Proofs.Ytpkcnojcklmhmaa
