/- ProcessLonger: a Cook that comes in; the plain fact; the walk. -/
import Derived.Test.YtedfajokiblfhaaPds
namespace Go.Proofs.Ytedfajokiblfhaa
open Go.ChangeShapes Go.WideShapes Go.ChangeAt Go.RowKit Go.Joins Go.Deep Go.Lib

theorem cellsCk : Try.prog.cellsOf 36 = 3 := by kernel_rfl
section
variable {H : Type} {enc : TypeId × Value → H} {w : World} {base : Nat} {spare : Nat → Bool} {held : Bool}
set_option maxRecDepth 100000 in
theorem open_ck {rr : Reach} {b0 : Nat} {v : Value} {d : DataW H} {p : List MemPlace} (hv : Value.okWide Try.prog w rr b0 36 v) (h : DataW.Trod enc Try.prog w base spare held 36 v d p) :
    ∃ (bath cold cooling : Int), v = .agg #[.int .i64 bath, .int .i64 cold, .int .i64 cooling] ∧ (Lit.int .i64 bath).wf = true ∧ (Lit.int .i64 cold).wf = true ∧ (Lit.int .i64 cooling).wf = true := by
  obtain ⟨cs, rfl, hsz⟩ := okWide_struct Try.underlying36 hv
  obtain ⟨ls⟩ := cs
  match ls, hsz.trans cellsCk with
  | [c0, c1, c2], _ =>
    obtain ⟨fuel, hf⟩ := h
    obtain ⟨xs, n, _, hx, _, hlen, hg⟩ := DataW.trod_struct Try.underlying36 hf
    match xs, hlen with
    | [y0, y1, y2], _ =>
      have g0 := hg 0 _ rfl; have g1 := hg 1 _ rfl; have g2 := hg 2 _ rfl
      simp [Value.cells, cellsI] at g0 g1 g2
      obtain ⟨n0, e0, _, w0⟩ := DataW.trod_int Try.underlying3 g0
      obtain ⟨n1, e1, _, w1⟩ := DataW.trod_int Try.underlying3 g1
      obtain ⟨n2, e2, _, w2⟩ := DataW.trod_int Try.underlying3 g2
      simp at e0 e1 e2
      subst e0 e1 e2
      exact ⟨n0, n1, n2, rfl, w0, w1, w2⟩
end
theorem cookL_ok {bath n cold cooling : Int} : okL (cookL bath n cold cooling) = true := by
  unfold cookL
  split
  · rename_i h
    unfold cookB at h
    rw [Bool.and_eq_true] at h
    have h1 := h.1
    simp only [okL, List.all_cons, List.all_nil, Bool.and_true, Bool.and_eq_true] at h1
    unfold okL
    rw [List.all_append, Bool.and_eq_true]
    exact ⟨List.all_eq_true.2 fun x hx => by rw [List.eq_of_mem_replicate hx]; exact h1.1, List.all_eq_true.2 fun x hx => by rw [List.eq_of_mem_replicate hx]; exact h1.2⟩
  · rfl
theorem chk4_cook (vc vk : Bool) (t : Int) {l m : List Int} (h1 : okL l = true) (h2 : okL m = true) (h3 : l.length ≤ 2000) (h4 : m.length ≤ 2000) : chk4 vc vk t l = chk4 vc vk t m := by
  unfold chk4
  rw [h1, h2, if_neg (show ¬ 2000 < l.length by omega), if_neg (show ¬ 2000 < m.length by omega)]
theorem lowO_min {S : List Nat} (h : 0 < S.length) : lowO S = minA (ivN S) := by
  unfold lowO
  rw [if_neg (by rintro rfl; simp at h)]
/-- A tick more is never less lethal. -/
theorem longer_le {r l a b a2 b2 : Int} {q : Kl} {t bath n cold cooling : Int} (h1 : cookB bath n cold cooling = true) (h2 : cookB bath (n + 1) cold cooling = true) (ht : t ≤ bath) (hn : 0 ≤ n) :
    lowO (sumsO r l a b 0 a2 b2 q t (cookL bath n cold cooling)) ≤ lowO (sumsO r l a b 0 a2 b2 q t (cookL bath (n + 1) cold cooling)) := by
  have hch := chk4_cook (canB r l a b 0 a2 b2) q.vB t (cookL_ok (bath := bath) (n := n) (cold := cold) (cooling := cooling)) (cookL_ok (bath := bath) (n := n + 1) (cold := cold) (cooling := cooling)) (cookL_len _ _ _ _) (cookL_len _ _ _ _)
  by_cases hc : chk4 (canB r l a b 0 a2 b2) q.vB t (cookL bath n cold cooling) = 0
  · have hc2 := hch.symm.trans hc
    obtain ⟨e1, p1, _⟩ := sumsO_len hc
    obtain ⟨e2, _, _⟩ := sumsO_len hc2
    rw [lowO_min (by omega), lowO_min (by omega)]
    obtain ⟨hcan, hk, ho, hop, _⟩ := chk4_zero hc
    obtain ⟨c, hcv, rfl, rfl, rfl, rfl, hK, rfl, rfl⟩ := canB_cn hcan
    have hob : okT bath = true := by
      have := h1
      unfold cookB at this
      rw [Bool.and_eq_true] at this
      have := this.1
      simp only [okL, List.all_cons, List.all_nil, Bool.and_true, Bool.and_eq_true] at this
      exact this.1
    obtain ⟨Z, hz, hv⟩ := kl_of hk
    have hK0 : c.K = 0 := hK.symm
    have hcn : cnOf (c.R : Int) c.L c.A c.B 0 c.A2 c.B2 = c := by rw [hK]; exact cnOf_cn c
    have hL : cookL bath (n + 1) cold cooling = bath :: cookL bath n cold cooling := by
      unfold cookL
      rw [if_pos h1, if_pos h2, show (n + 1).toNat = n.toNat + 1 by omega, List.replicate_succ, List.cons_append]
    have hf : ∀ x y : Int, x ≤ y → Lt.Pm.rateD q.r q.z (x / 250) ≤ Lt.Pm.rateD q.r q.z (y / 250) := fun x y hxy => by
      have hz1 := (Lt.validB_iff.1 hv).2.2.1.1
      exact Lt.Pm.rateD_mono (by rw [hz]; exact hz1) (by omega)
    unfold sumsO
    rw [if_pos hc, if_pos hc2, hcn, hL]
    have h := LeD.run (f := fun x => Lt.Pm.rateD q.r q.z (x / 250)) hcv.ok hK0 hf (cookL bath n cold cooling) (cookL bath n cold cooling) _ _ rfl (fun i a c => Int.le_refl _) hop hop (dish0_tick (f := fun x => Lt.Pm.rateD q.r q.z (x / 250)) hcv.ok hK0 ho hob ht)
    exact h.low hcv.ok
  · rw [sumsO_no hc, sumsO_no (by rw [← hch]; exact hc)]
    exact Int.le_refl _

set_option maxRecDepth 20000 in
set_option maxHeartbeats 2000000 in
theorem small04_any (r l a b k a2 b2 : Int) (w : World) (a0 : Option Addr) (n cap : Nat) (hn : n ≤ maxLen) :
    Calls Try.prog 9 #[.agg #[.int .i64 r, .int .i64 l, .int .i64 a, .int .i64 b, .int .i64 k, .int .i64 a2, .int .i64 b2], .slice a0 n cap] w fun e w' => e = .returned (.bool (smallB r l n 80)) ∧ Below w.heap.size w w' := by
  unfold maxLen at hn
  cases h1 : decide (r ≤ 3)
  · have HE := hid (show smallB r l n 80 = false by unfold smallB; rw [h1]; rfl)
    go_enter Try.func9, Try.ntmps9
    go_wp2
    go_ret
    exact ⟨ret_bool HE.out.symm, (Below.refl _ _).alloc (Nat.le_refl _) _⟩
  cases h2 : decide (l ≤ 4)
  · have HE := hid (show smallB r l n 80 = false by unfold smallB; rw [h1, h2]; rfl)
    go_enter Try.func9, Try.ntmps9
    go_wp2
    go_ret
    exact ⟨ret_bool HE.out.symm, (Below.refl _ _).alloc (Nat.le_refl _) _⟩
  · have HE := hid (show smallB r l n 80 = decide ((n : Int) ≤ 80) by unfold smallB; rw [h1, h2]; simp; omega)
    go_enter Try.func9, Try.ntmps9
    go_wp2
    go_ret
    exact ⟨ret_bool HE.out.symm, (Below.refl _ _).alloc (Nat.le_refl _) _⟩
end Go.Proofs.Ytedfajokiblfhaa
