/- Walk of TopSterile. -/
import Derived.Test.YtedfajokiblfhaaC8
namespace Go.Proofs.Ytedfajokiblfhaa
open Go.RowKit Go.Lib

theorem lowO_bd {r l a b k a2 b2 : Int} {q : Kl} {t : Int} {p : List Int} (h : chk4 (canB r l a b k a2 b2) q.vB t p = 0) : 0 ≤ lowO (sumsO r l a b k a2 b2 q t p) ∧ lowO (sumsO r l a b k a2 b2 q t p) ≤ 1000000000000000000 := by
  obtain ⟨hc, hk, ho, hop, hlen⟩ := chk4_zero h
  obtain ⟨hl1, hl2, _⟩ := sumsO_len h
  have hG : ∀ s ∈ sumsO r l a b k a2 b2 q t p, s ≤ 1000000000000000000 := by
    obtain ⟨c, hcv, rfl, rfl, rfl, rfl, rfl, rfl, rfl⟩ := canB_cn hc
    unfold sumsO
    rw [if_pos h, cnOf_cn]
    exact ((dish0_good ho).run hcv.ok hop).le
  generalize sumsO r l a b k a2 b2 q t p = S at *
  have hne : S ≠ [] := fun e => by rw [e] at hl1; simp at hl1; omega
  unfold lowO
  rw [if_neg hne]
  obtain ⟨n, hn, e⟩ := List.mem_map.1 (show minA (ivN S) ∈ S.map fun (n : Nat) => (n : Int) from minA_mem (by show 0 < (ivN S).length; rw [ivN_len]; omega))
  have := hG n hn
  omega
theorem share_ge {f n : Int} (_h0 : 0 ≤ f) (hn : 0 < n) : decide (1000 ≤ f * 1000 / n) = decide (n ≤ f) := by
  rw [Bool.eq_iff_iff, decide_eq_true_iff, decide_eq_true_iff, Int.le_ediv_iff_mul_le hn]
  omega
set_option maxRecDepth 100000 in
set_option maxHeartbeats 4000000 in
theorem topster_walk (r l a b k a2 b2 : Int) (q : Kl) (t : Int) (v : Value) (p : List Int) (w : World) (hs : q.s.size ≤ maxLen) (_ht : (Lit.int .i64 t).wf = true) (hl : RowI w v p) :
    Calls Try.prog 7 #[.agg #[.int .i64 r, .int .i64 l, .int .i64 a, .int .i64 b, .int .i64 k, .int .i64 a2, .int .i64 b2, .string q.s, .int .i64 q.r, .int .i64 q.z, .int .i64 q.d, .int .i64 q.g, .int .i64 t], v] w fun e w' => e = .returned (.bool true) ∧ Below w.heap.size w w' := by
  have BX := hid (box1_start (w := w) (A := #[.int .i64 r, .int .i64 l, .int .i64 a, .int .i64 b, .int .i64 k, .int .i64 a2, .int .i64 b2, .string q.s, .int .i64 q.r, .int .i64 q.z, .int .i64 q.d, .int .i64 q.g, .int .i64 t]) (T := 27) (fz := (0, 0)))
  have HL := hid (fun w1 (g : Below w.heap.size w w1) => hl.keep g)
  have hpm := hl.most
  obtain ⟨a0, cap, rfl⟩ := hl.shape
  have HSM := hid (fun W => small4_any r l a b k a2 b2 W a0 p.length cap hpm)
  have HST := hid (fun W h => ster_any r l a b k a2 b2 W q t (.slice a0 p.length cap) p hs h hpm)
  have HLE := hid (fun W h => leth_any r l a b k a2 b2 W q t (.slice a0 p.length cap) p hs h hpm)
  have HRE := hid (fun W f => Lt.reached_any q.s q.r q.z q.d q.g W hs f)
  have HND := hid (fun (h : q.vB = true) (W : World) => Lt.needs_yes q.s q.r q.z q.d q.g W hs h)
  have HBD := hid (fun h => lowO_bd (r := r) (l := l) (a := a) (b := b) (k := k) (a2 := a2) (b2 := b2) (q := q) (t := t) (p := p) h)
  have HZ := hid (fun h => (chk4_zero (vc := canB r l a b k a2 b2) (vk := q.vB) (t := t) (l := p) h).2.1)
  generalize slowO (sumsO r l a b k a2 b2 q t p) = sl at *
  generalize lowO (sumsO r l a b k a2 b2 q t p) = lw at *
  generalize chk4 (canB r l a b k a2 b2) q.vB t p = ce at *
  clear hl hs
  go_enter Try.func7, Try.ntmps7
  go_wp2_with fail
  refine (HSM.out _).mono ?_
  rintro e w1 ⟨rfl, hb⟩
  cases hsm : smallB r l p.length 60
  · have BX := hid (BX.out.keep hb)
    clear hb
    go_wp2_with fail
    refine (awake4_any _).mono ?_
    rintro e w2 ⟨rfl, hb⟩
    have BX := hid (BX.out.keep hb)
    clear hb
    go_wp2_with fail
    go_ret
    exact ⟨rfl, BX.out.low⟩
  have BX := hid (BX.out.keep hb)
  clear hb hsm
  obtain ⟨t0, t1, t2, t3, t4, t5, t6, t7, t8, t9, t10, t11, t12⟩ := BX.out.thirteen
  have hz := BX.out.sz
  go_wp2_with fail
  refine (HST.out _ (HL.out _ BX.out.low)).mono ?_
  rintro e w3 ⟨rfl, hb⟩
  have BX := hid (BX.out.keep hb); clear hb t0 t1 t2 t3 t4 t5 t6 t7 t8 t9 t10 t11 t12; obtain ⟨t0, t1, t2, t3, t4, t5, t6, t7, t8, t9, t10, t11, t12⟩ := BX.out.thirteen; have hz := BX.out.sz
  go_wp2_with fail
  refine (HLE.out _ (HL.out _ BX.out.low)).mono ?_
  rintro e w4 ⟨rfl, hb⟩
  have BX := hid (BX.out.keep hb); clear hb t0 t1 t2 t3 t4 t5 t6 t7 t8 t9 t10 t11 t12; obtain ⟨t0, t1, t2, t3, t4, t5, t6, t7, t8, t9, t10, t11, t12⟩ := BX.out.thirteen; have hz := BX.out.sz
  by_cases hce : ce = 0
  case neg =>
    have hc1 : (ce != 0) = true := by simpa using hce
    have hc2 : (ce == ce) = true := by simp
    clear hce
    go_wp2_with fail
    refine (awake4_any _).mono ?_
    rintro e w2 ⟨rfl, hb⟩
    have BX := hid (BX.out.keep hb); clear hb t0 t1 t2 t3 t4 t5 t6 t7 t8 t9 t10 t11 t12; obtain ⟨t0, t1, t2, t3, t4, t5, t6, t7, t8, t9, t10, t11, t12⟩ := BX.out.thirteen; have hz := BX.out.sz
    go_wp2_with fail
    go_ret
    exact ⟨rfl, BX.out.low⟩
  obtain ⟨f1, f2⟩ := HBD.out hce
  have hv := HZ.out hce
  subst hce
  have hn := Lt.needs_bd (l := q.s.data.toList) (r := q.r) (z := q.z) (d := q.d) (g := q.g) hv
  have HSO := hid (show sterO q lw 0 = decide (q.g * (q.d * 1000000) ≤ lw) by unfold sterO; simp)
  have HF := hid (show (decide (0 ≤ lw) && decide (lw ≤ 1000000000000000000)) = true by simp; omega)
  have HN := hid (HND.out hv)
  have HSV := hid (show Lt.shareV (Lt.validB q.s.data.toList q.r q.z q.d q.g) lw (q.g * (q.d * 1000000)) = lw * 1000 / (q.g * (q.d * 1000000)) by rw [show Lt.validB q.s.data.toList q.r q.z q.d q.g = true from hv]; exact Lt.shareV_in _ _ HF.out)
  have HCF := hid (show Lt.chkF (Lt.validB q.s.data.toList q.r q.z q.d q.g) lw = 0 by rw [show Lt.validB q.s.data.toList q.r q.z q.d q.g = true from hv]; exact Lt.chkF_in _ HF.out)
  have HRE2 := hid (fun W => HRE.out W lw)
  rw [HSV.out, HCF.out] at HRE2
  have hsh := share_ge (f := lw) (n := q.g * (q.d * 1000000)) f1 (by omega)
  generalize q.g * (q.d * 1000000) = nd at *
  generalize lw * 1000 / nd = sh at *
  rw [HSO.out]
  clear HRE HSV HCF HF HND HBD HZ hv
  go_wp2_with fail
  refine (HRE2.out _).mono ?_
  rintro e w5 ⟨rfl, hb⟩
  have BX := hid (BX.out.keep hb); clear hb t0 t1 t2 t3 t4 t5 t6 t7 t8 t9 t10 t11 t12; obtain ⟨t0, t1, t2, t3, t4, t5, t6, t7, t8, t9, t10, t11, t12⟩ := BX.out.thirteen; have hz := BX.out.sz
  have hd2 : (decide (nd ≤ lw) == decide (1000 ≤ sh)) = true := by rw [hsh]; simp
  have hd3 : (decide (nd ≤ lw) == decide (nd ≤ lw)) = true := by simp
  clear hsh
  cases hdn : decide (nd ≤ lw)
  all_goals
    rw [hdn] at hd2 hd3
    go_wp2_with fail
    refine (HN.out _).mono ?_
    rintro e w6 ⟨rfl, hb⟩
    have BX := hid (BX.out.keep hb); clear hb t0 t1 t2 t3 t4 t5 t6 t7 t8 t9 t10 t11 t12; obtain ⟨t0, t1, t2, t3, t4, t5, t6, t7, t8, t9, t10, t11, t12⟩ := BX.out.thirteen; have hz := BX.out.sz
    go_wp2_with fail
    refine (awake4_any _).mono ?_
    rintro e w7 ⟨rfl, hb⟩
    have BX := hid (BX.out.keep hb); clear hb t0 t1 t2 t3 t4 t5 t6 t7 t8 t9 t10 t11 t12; obtain ⟨t0, t1, t2, t3, t4, t5, t6, t7, t8, t9, t10, t11, t12⟩ := BX.out.thirteen; have hz := BX.out.sz
    go_wp2_with fail
    go_ret
    exact ⟨rfl, BX.out.low⟩
end Go.Proofs.Ytedfajokiblfhaa
