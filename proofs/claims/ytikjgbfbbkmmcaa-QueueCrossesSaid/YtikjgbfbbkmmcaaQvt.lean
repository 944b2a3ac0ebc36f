/- Walk of reason: contract. -/
import Derived.Test.YtikjgbfbbkmmcaaQvr
import Derived.Test.YtikjgbfbbkmmcaaQvd
namespace Go.Proofs.Ytikjgbfbbkmmcaa
open Go.RowKit

theorem RowE.sst {w : World} {a : Option Addr} {n c k : Nat} {l : List Sst} (h : RowE encS w (.slice a n c) l) (hk : k < l.length) : ∃ b o, a = some ⟨b, o, none⟩ ∧ w.cell? ⟨b, o + k * 3, none⟩ = some (.int .i64 l[k].b) ∧ w.cell? ⟨b, o + k * 3 + 1, none⟩ = some (.int .i64 l[k].v) ∧ w.cell? ⟨b, o + k * 3 + 2, none⟩ = some (.int .i64 l[k].t) := by
  obtain ⟨b, o, rfl, hc⟩ := h.get hk
  exact ⟨b, o, rfl, hc 0 _ rfl, hc 1 _ rfl, hc 2 _ rfl⟩
set_option maxRecDepth 20000 in
set_option maxHeartbeats 4000000 in
theorem reason_any (v vx : Value) (l : List Bsk) (m : Nat) (p : Int) (n : Nat) (w : World) (hr : RowE encB w v l) (hx : RowE encS w vx (fcL (caQ l) m p (n + 1))) (hn : n < l.length) (hl : l.length ≤ 500) (hm : 0 < m) (h0 : ∀ i, 0 ≤ caQ l i) (hc : ∀ i, caQ l i ≤ caQ l (i + 1)) (hp : 0 ≤ p) :
    Calls Try.prog 58 #[v, vx, .int .i64 (m : Nat)] w fun e w' => (∃ f : Nat, e = .returned (.agg #[.int .i64 (f : Nat), .int .i64 (n : Nat)]) ∧ RsnP (caQ l) m p f n) ∧ Below w.heap.size w w' := by
  have HR := hid (fun w1 (g : Below w.heap.size w w1) => hr.keep g)
  have HX := hid (fun w1 (g : Below w.heap.size w w1) => hx.keep g)
  have HBK := hid (fun f (h : caQ l f < fcT (caQ l) m p f) => fcT_back hm h0 hc hp h)
  have HLB := hid (fun f => fcT_eq (c := caQ l) (m := m) (p := p) hm h0 hc hp f)
  have HCM := hid (fun f => fcS_came (caQ l) m p f)
  obtain ⟨va, vc, rfl⟩ := hr.shape
  obtain ⟨xa, xc, rfl⟩ := hx.shape
  have HLX := hid (fcL_len (caQ l) m p (n + 1))
  rw [HLX.out] at HX ⊢
  obtain ⟨q, hq⟩ : ∃ q, q = l.length := ⟨_, rfl⟩
  have HQ := hid hq
  rw [← hq] at HR hn hl ⊢
  have hn' : (n : Int) < q := by omega
  have e1 : ((n + 1 : Nat) : Int) - 1 = (n : Nat) := by omega
  have HB0 := hid ((Below.refl w.heap.size w).alloc (Nat.le_refl _) (.cells #[.int .i64 0, .int .i64 0] 32))
  clear hr hx hq h0 hc
  go_enter Try.func58, Try.ntmps58
  go_wp2
  go_loopw [8] (fun t wr => ∃ f k : Nat, t = .int .i64 (f : Int) ∧ f ≤ n ∧ Hid (n = f + k * m) ∧ Hid (fcT (caQ l) m p n = fcT (caQ l) m p f + (k : Int) * p) ∧ Hid (Below (w.heap.size + 1) (w.alloc (.cells #[.int .i64 0, .int .i64 0] 32)) wr)) (fun t _ => (intOf t).toNat)
  case atStart => exact ⟨n, 0, rfl, Nat.le_refl _, by simp [Hid], by simp [Hid], by rw [show w.heap.size + 1 = (w.alloc (.cells #[.int .i64 0, .int .i64 0] 32)).heap.size by simp]; exact Below.refl _ _⟩
  case round =>
    obtain ⟨f, k, rfl, hf, hk1, hk2, hB⟩ := hrel
    have HBW : Hid (Below w.heap.size w wr) := HB0.out.trans (hB.out.mono (by omega))
    have k1 : f < l.length := by rw [← HQ.out]; omega
    have k2 : f < (fcL (caQ l) m p (n + 1)).length := by rw [HLX.out]; omega
    have hf1 : (f : Int) < q := by omega
    have hf2 : (f : Int) < ((n + 1 : Nat) : Int) := by omega
    obtain ⟨b, o, hva, c0, c1, c2, c3⟩ := (HR.out _ HBW.out).bsk k1
    obtain ⟨b2, o2, hxa, d0, d1, d2⟩ := (HX.out _ HBW.out).sst k2
    subst hva hxa
    rw [← caQ_at k1] at c1
    rw [fcL_at] at d2
    dsimp only [fcK] at d2
    have hcm := HCM.out f
    rw [← HLB.out] at hcm
    have hbk := HBK.out f
    have HF := hid (fun g => HLB.out g)
    obtain ⟨C, hC⟩ : ∃ C, C = caQ l f := ⟨_, rfl⟩
    obtain ⟨T, hT⟩ : ∃ T, T = fcT (caQ l) m p f := ⟨_, rfl⟩
    rw [← hC] at c1 hcm hbk
    rw [← hT] at d2 hcm hbk hk2
    have HCC := hid hC; have HTT := hid hT
    clear hC hT c0 c2 c3 d0 d1 k1 k2
    by_cases hlt : C < T
    · obtain ⟨g1, g2⟩ := hbk hlt
      obtain ⟨f', hf'⟩ : ∃ f', f' = f - m := ⟨_, rfl⟩
      have e2 : (f : Int) - (m : Int) = (f' : Nat) := by omega
      have HG2 := hid g2; have HF' := hid hf'; have HG1 := hid g1
      clear hbk g2 hf' g1
      go_wp2
      go_quiet (fail)
      have HB2 := hid (bdrewN (n := nq) hB.out)
      go_wp2
      go_roundw
      case rel =>
        have h1 := hk1.out; have h2 := hk2.out; have h3 := HG2.out; have h4 := HF'.out; have h5 := HG1.out
        refine ⟨f', k + 1, rfl, by omega, ?_, ?_, HB2⟩
        · show n = f' + (k + 1) * m
          rw [Nat.succ_mul]; omega
        · show _ = _
          rw [h2, h3, ← h4, show ((k + 1 : Nat) : Int) * p = (k : Int) * p + p by rw [Int.natCast_add, Int.add_mul]; simp]
          omega
      case measure => have h4 := HF'.out; have h5 := HG1.out; simp [intOf]; omega
    · have HE : Hid (RsnP (caQ l) m p f n) := by
        have h1 := HCC.out; have h2 := HTT.out
        refine ⟨k, hk1.out, ?_, by omega⟩
        rw [hk2.out]; omega
      have hz : wr.heap[w.heap.size]? = some (.cells #[.int .i64 0, .int .i64 0] 32 (0, 0)) := (hB.out.block _ (by omega)).trans (heap_alloc_new w _)
      have hzl := (Array.getElem?_eq_some_iff.1 hz).1
      have z0 := cell_of_row _ _ 0 _ _ _ hz
      have z1 := cell_of_row _ _ 1 _ _ _ hz
      have f0 := frozen_of_row _ _ 0 _ _ hz
      have f1 := frozen_of_row _ _ 1 _ _ hz
      simp only [List.getElem?_toArray, List.getElem?_cons_zero, List.getElem?_cons_succ] at z0 z1
      clear hbk hz
      go_wp2
      go_quiet (fail)
      go_wp2
      refine bodyPost_ret (v := .agg #[.int .i64 (f : Nat), .int .i64 (n : Nat)]) (by simp [results, Try.results58, go_sem, z0, z1]) rfl ⟨⟨f, rfl, HE.out⟩, ?_⟩
      exact ((bdrewN (n := nq) HBW.out).setCell (p := ⟨w.heap.size, 0, none⟩) (Nat.le_refl _) _).setCell (p := ⟨w.heap.size, 1, none⟩) (Nat.le_refl _) _
end Go.Proofs.Ytikjgbfbbkmmcaa
