/- Walk of TopCredits. -/
import Derived.Test.YtedfajokiblfhaaPcn
namespace Go.Proofs.Ytedfajokiblfhaa
open Go.RowKit Go.Lib

theorem cred_one' (r : Nat → Rt.Rd) (n : Nat) : Rt.credL r n 1 n = Rt.bathsL r n := by
  unfold Rt.credL Rt.bathsL
  exact List.map_congr_left fun i _ => by unfold Rt.credAt; rw [if_pos (Rt.mkB_mod (Nat.mod_one i))]
theorem crdE_one {vc vk : Bool} {t : Int} {n : Nat} (hn : n ≤ 60) : crdE vc vk t n 1 = chk4 vc vk t [] := by
  unfold crdE
  split
  · rename_i h
    rw [h]
    unfold Rt.markE
    rw [if_neg (by omega)]
    rfl
  · rfl
theorem crdL_one {r : Nat → Rt.Rd} {n : Nat} (hn : n ≤ 60) : crdL r n 1 = cutL (Rt.bathsL r n) := by
  unfold crdL Rt.credO
  rw [if_pos (by unfold Rt.markE; rw [if_neg (by omega)]; rfl)]
  show cutL (Rt.credL r n 1 n) = _
  rw [cred_one']
set_option maxRecDepth 100000 in
set_option maxHeartbeats 8000000 in
theorem topcr_walk (r l a b k a2 b2 : Int) (q : Kl) (t : Int) (v : Value) (n : Nat) (r' : Nat → Rt.Rd) (w : World) (hs : q.s.size ≤ maxLen) (_ht : (Lit.int .i64 t).wf = true) (hl : Rt.RowR w v n r') :
    Calls Try.prog 8 #[.agg #[.int .i64 r, .int .i64 l, .int .i64 a, .int .i64 b, .int .i64 k, .int .i64 a2, .int .i64 b2, .string q.s, .int .i64 q.r, .int .i64 q.z, .int .i64 q.d, .int .i64 q.g, .int .i64 t], v] w fun e w' => e = .returned (.bool true) ∧ Below w.heap.size w w' := by
  have BX := hid (box1_start (w := w) (A := #[.int .i64 r, .int .i64 l, .int .i64 a, .int .i64 b, .int .i64 k, .int .i64 a2, .int .i64 b2, .string q.s, .int .i64 q.r, .int .i64 q.z, .int .i64 q.d, .int .i64 q.g, .int .i64 t]) (T := 27) (fz := (0, 0)))
  have HL := hid (fun w1 (g : Below w.heap.size w w1) => hl.keep g)
  have hnm := hl.most
  have HNM := hid hnm
  obtain ⟨a0, cap, rfl⟩ := hl.shape
  unfold maxLen at hnm
  have HSM := hid (fun W => small4_any r l a b k a2 b2 W none 0 0 (by simp))
  have HCR := hid (fun W h => cred_any r l a b k a2 b2 W q t (.slice a0 n cap) n r' 1 hs h)
  have HLE := hid (fun (p : List Int) W u (h : RowI W u p) => leth_any r l a b k a2 b2 W q t u p hs h h.most)
  clear hl hs
  by_cases hn : n ≤ 60
  case neg =>
    have hn1 : decide (60 < (n : Int)) = true := by simp; omega
    clear HCR HLE
    go_enter Try.func8, Try.ntmps8
    go_wp2_with fail
    refine (HSM.out _).mono ?_
    rintro e w1 ⟨rfl, hb⟩
    cases hsm : smallB r l 0 60
    all_goals
      have BX := hid (BX.out.keep hb)
      clear hb
      go_wp2_with fail
      refine (awake4_any _).mono ?_
      rintro e w2 ⟨rfl, hb⟩
      have BX := hid (BX.out.keep hb)
      clear hb
      go_wp2_with fail
      go_ret
      exact ⟨rfl, BX.out.low⟩
  have hn1 : decide (60 < (n : Int)) = false := by simp; omega
  have HCC := hid (chk4_cut (vc := canB r l a b k a2 b2) (vk := q.vB) (t := t) (l := Rt.bathsL r' n) (by rw [Rt.bathsL_len]; omega))
  rw [crdE_one hn, crdL_one hn] at HCR
  have HBA := hid (fun W h => Rt.baths_any (.slice a0 n cap) n r' W h (by omega))
  have HBL := hid (show (Rt.bathsL r' n).length ≤ 100000 by rw [Rt.bathsL_len]; omega)
  have HC4 := hid (fun W u (h : RowI W u (Rt.bathsL r' n)) => cut4_any u (Rt.bathsL r' n) W h HBL.out)
  have HLC := hid (fun W u => HLE.out (cutL (Rt.bathsL r' n)) W u)
  rw [HCC.out] at HLC
  have HNL := hid (fun (h : chk4 (canB r l a b k a2 b2) q.vB t [] ≠ 0) => show lowO (sumsO r l a b k a2 b2 q t (cutL (Rt.bathsL r' n))) = 0 by rw [sumsO_no (by rw [HCC.out]; exact h)]; rfl)
  generalize slowO (sumsO r l a b k a2 b2 q t (cutL (Rt.bathsL r' n))) = sl at *
  generalize lowO (sumsO r l a b k a2 b2 q t (cutL (Rt.bathsL r' n))) = lw at *
  generalize chk4 (canB r l a b k a2 b2) q.vB t [] = ce at *
  have hif : (if ce = 0 then lw else 0) = lw := by
    by_cases h : ce = 0
    · rw [if_pos h]
    · rw [if_neg h, HNL.out h]
  rw [hif] at HCR
  have HCL := hid (show (cutL (Rt.bathsL r' n)).length ≤ 1000000 by rw [cutL_len]; have := HBL.out; omega)
  clear hif HNL HCC hn HLE
  go_enter Try.func8, Try.ntmps8
  go_wp2_with fail
  refine (HSM.out _).mono ?_
  rintro e w1 ⟨rfl, hb⟩
  cases hsm : smallB r l 0 60
  · have BX := hid (BX.out.keep hb)
    clear hb
    go_wp2_with fail
    refine (awake4_any _).mono ?_
    rintro e w2 ⟨rfl, hb⟩
    have BX := hid (BX.out.keep hb)
    clear hb
    go_wp2_with fail
    go_ret
    exact ⟨rfl, BX.out.low⟩
  have BX := hid (BX.out.keep hb)
  clear hb hsm
  obtain ⟨t0, t1, t2, t3, t4, t5, t6, t7, t8, t9, t10, t11, t12⟩ := BX.out.thirteen
  have hz := BX.out.sz
  go_wp2_with fail
  refine (HCR.out _ (HL.out _ BX.out.low)).mono ?_
  rintro e w3 ⟨rfl, hb⟩
  have BX := hid (BX.out.keep hb)
  clear hb t0 t1 t2 t3 t4 t5 t6 t7 t8 t9 t10 t11 t12 hz
  go_wp2_with fail
  have hmd : Hid (Below w3.heap.size w3 w3.drew) := (Below.refl _ w3).drew
  have BX := hid (BX.out.keep hmd.out)
  refine wp_region_held_drew (S := (fun w1 => w1.cell? ⟨w.heap.size, 0, none⟩ = some (.int .i64 r) ∧ w1.cell? ⟨w.heap.size, 1, none⟩ = some (.int .i64 l) ∧ w1.cell? ⟨w.heap.size, 2, none⟩ = some (.int .i64 a) ∧ w1.cell? ⟨w.heap.size, 3, none⟩ = some (.int .i64 b) ∧ w1.cell? ⟨w.heap.size, 4, none⟩ = some (.int .i64 k) ∧ w1.cell? ⟨w.heap.size, 5, none⟩ = some (.int .i64 a2) ∧ w1.cell? ⟨w.heap.size, 6, none⟩ = some (.int .i64 b2) ∧ w1.cell? ⟨w.heap.size, 7, none⟩ = some (.string q.s) ∧ w1.cell? ⟨w.heap.size, 8, none⟩ = some (.int .i64 q.r) ∧ w1.cell? ⟨w.heap.size, 9, none⟩ = some (.int .i64 q.z) ∧ w1.cell? ⟨w.heap.size, 10, none⟩ = some (.int .i64 q.d) ∧ w1.cell? ⟨w.heap.size, 11, none⟩ = some (.int .i64 q.g) ∧ w1.cell? ⟨w.heap.size, 12, none⟩ = some (.int .i64 t))) (by kernel_rfl) ⟨BX.out.fst 0, BX.out.fst 1, BX.out.fst 2, BX.out.fst 3, BX.out.fst 4, BX.out.fst 5, BX.out.fst 6, BX.out.fst 7, BX.out.fst 8, BX.out.fst 9, BX.out.fst 10, BX.out.fst 11, BX.out.fst 12⟩ (fun hS0 => ?_)
  generalize w3.drew = W0 at *
  clear hmd
  refine wpAnyH_take (i := 0) (v := ?_) rfl (by kernel_rfl) (by kernel_rfl) (by kernel_rfl) (fun _ _ _ h => h) (Or.inl ⟨by rfl, ?_⟩) hS0 ?_
  rotate_left
  · intro w' hSw
    obtain _ := hSw
    go_simp
    try with_reducible rfl
  try simp only [Act.put]
  try simp only [List.setIfInBounds_toArray]
  try simp only [List.set_cons_zero, List.set_cons_succ]
  refine wpAnyH_take (i := 1) (v := ?_) rfl (by kernel_rfl) (by kernel_rfl) (by kernel_rfl) (fun _ _ _ h => h) (Or.inl ⟨by rfl, ?_⟩) hS0 ?_
  rotate_left
  · intro w' hSw
    obtain ⟨q0, q1, q2, q3, q4, q5, q6, _⟩ := hSw
    go_simp
    try with_reducible rfl
  try simp only [Act.put]
  try simp only [List.setIfInBounds_toArray]
  try simp only [List.set_cons_zero, List.set_cons_succ]
  refine wpAnyH_take (i := 2) (v := ?_) rfl (by kernel_rfl) (by kernel_rfl) (by kernel_rfl) (fun _ _ _ h => h) (Or.inl ⟨by rfl, ?_⟩) hS0 ?_
  rotate_left
  · intro w' hSw
    obtain _ := hSw
    go_simp
    try with_reducible rfl
  try simp only [Act.put]
  try simp only [List.setIfInBounds_toArray]
  try simp only [List.set_cons_zero, List.set_cons_succ]
  refine wpAnyH_take (i := 3) (v := ?_) rfl (by kernel_rfl) (by kernel_rfl) (by kernel_rfl) (fun _ _ _ h => h) (Or.inl ⟨by rfl, ?_⟩) hS0 ?_
  rotate_left
  · intro w' hSw
    obtain ⟨_, _, _, _, _, _, _, q0, q1, q2, q3, q4, _⟩ := hSw
    go_simp
    try with_reducible rfl
  try simp only [Act.put]
  try simp only [List.setIfInBounds_toArray]
  try simp only [List.set_cons_zero, List.set_cons_succ]
  refine wpAnyH_take (i := 4) (v := ?_) rfl (by kernel_rfl) (by kernel_rfl) (by kernel_rfl) (fun _ _ _ h => h) (Or.inl ⟨by rfl, ?_⟩) hS0 ?_
  rotate_left
  · intro w' hSw
    obtain _ := hSw
    go_simp
    try with_reducible rfl
  try simp only [Act.put]
  try simp only [List.setIfInBounds_toArray]
  try simp only [List.set_cons_zero, List.set_cons_succ]
  refine wpAnyH_take (i := 5) (v := ?_) rfl (by kernel_rfl) (by kernel_rfl) (by kernel_rfl) (fun _ _ _ h => h) (Or.inl ⟨by rfl, ?_⟩) hS0 ?_
  rotate_left
  · intro w' hSw
    obtain ⟨_, _, _, _, _, _, _, _, _, _, _, _, q0⟩ := hSw
    go_simp
    try with_reducible rfl
  try simp only [Act.put]
  try simp only [List.setIfInBounds_toArray]
  try simp only [List.set_cons_zero, List.set_cons_succ]
  refine wpAnyH_take (i := 6) (v := ?_) rfl (by kernel_rfl) (by kernel_rfl) (by kernel_rfl) (fun _ _ _ h => h) (Or.inl ⟨by rfl, ?_⟩) hS0 ?_
  rotate_left
  · intro w' hSw
    obtain _ := hSw
    go_simp
    try with_reducible rfl
  try simp only [Act.put]
  try simp only [List.setIfInBounds_toArray]
  try simp only [List.set_cons_zero, List.set_cons_succ]
  (refine wpAnyH_ready (rs := [7]) (by kernel_rfl) (by simp) ?_)
  refine AllReadyH.cons rfl (fun K hK => ?_) AllReadyH.nil
  go_simp
  refine (HBA.out _ (HL.out _ BX.out.low)).mono ?_
  rintro x w4 ⟨u4, rfl, ho, hb⟩
  have HR4 := hid (ho.rowI (by have := HBL.out; omega))
  have BX := hid (BX.out.keep hb)
  clear ho hb
  refine hK.out _ _ ⟨BX.out.fst 0, BX.out.fst 1, BX.out.fst 2, BX.out.fst 3, BX.out.fst 4, BX.out.fst 5, BX.out.fst 6, BX.out.fst 7, BX.out.fst 8, BX.out.fst 9, BX.out.fst 10, BX.out.fst 11, BX.out.fst 12⟩ (fun hS1 => ?_)
  clear hK K hS0
  (refine wpAnyH_ready (rs := [8]) (by kernel_rfl) (by simp) ?_)
  refine AllReadyH.cons rfl (fun K hK => ?_) AllReadyH.nil
  go_simp
  refine (HC4.out _ _ HR4.out).mono ?_
  rintro x w5 ⟨u5, rfl, ho5, hb⟩
  have HR5 := hid (NewI.rowI ho5 HCL.out)
  have BX := hid (BX.out.keep hb)
  clear ho5 hb
  refine hK.out _ _ ⟨BX.out.fst 0, BX.out.fst 1, BX.out.fst 2, BX.out.fst 3, BX.out.fst 4, BX.out.fst 5, BX.out.fst 6, BX.out.fst 7, BX.out.fst 8, BX.out.fst 9, BX.out.fst 10, BX.out.fst 11, BX.out.fst 12⟩ (fun hS2 => ?_)
  clear hK K hS1
  (refine wpAnyH_ready (rs := [9]) (by kernel_rfl) (by simp) ?_)
  refine AllReadyH.cons rfl (fun K hK => ?_) AllReadyH.nil
  go_simp
  refine (HLC.out _ _ HR5.out).mono ?_
  rintro x w6 ⟨rfl, hb⟩
  have BX := hid (BX.out.keep hb)
  clear hb
  refine hK.out _ _ ⟨BX.out.fst 0, BX.out.fst 1, BX.out.fst 2, BX.out.fst 3, BX.out.fst 4, BX.out.fst 5, BX.out.fst 6, BX.out.fst 7, BX.out.fst 8, BX.out.fst 9, BX.out.fst 10, BX.out.fst 11, BX.out.fst 12⟩ (fun hS3 => ?_)
  clear hK K hS2
  refine wpAnyH_take (i := 10) (v := ?_) rfl (by kernel_rfl) (by kernel_rfl) (by kernel_rfl) (fun _ _ _ h => h) (Or.inl ⟨by rfl, ?_⟩) hS3 ?_
  rotate_left
  · intro w' hSw
    obtain _ := hSw
    go_simp
    try with_reducible rfl
  try simp only [Act.put]
  try simp only [List.setIfInBounds_toArray]
  try simp only [List.set_cons_zero, List.set_cons_succ]
  refine wpAnyH_take (i := 11) (v := ?_) rfl (by kernel_rfl) (by kernel_rfl) (by kernel_rfl) (fun _ _ _ h => h) (Or.inl ⟨by rfl, ?_⟩) hS3 ?_
  rotate_left
  · intro w' hSw
    obtain _ := hSw
    go_simp
    try with_reducible rfl
  try simp only [Act.put]
  try simp only [List.setIfInBounds_toArray]
  try simp only [List.set_cons_zero, List.set_cons_succ]
  refine wpAnyH_take (i := 12) (v := ?_) rfl (by kernel_rfl) (by kernel_rfl) (by kernel_rfl) (fun _ _ _ h => h) (Or.inl ⟨by rfl, ?_⟩) hS3 ?_
  rotate_left
  · intro w' hSw
    obtain _ := hSw
    go_simp
    try with_reducible rfl
  try simp only [Act.put]
  try simp only [List.setIfInBounds_toArray]
  try simp only [List.set_cons_zero, List.set_cons_succ]
  refine wpAnyH_take (i := 13) (v := ?_) rfl (by kernel_rfl) (by kernel_rfl) (by kernel_rfl) (fun _ _ _ h => h) (Or.inl ⟨by rfl, ?_⟩) hS3 ?_
  rotate_left
  · intro w' hSw
    obtain _ := hSw
    go_simp
    try with_reducible rfl
  try simp only [Act.put]
  try simp only [List.setIfInBounds_toArray]
  try simp only [List.set_cons_zero, List.set_cons_succ]
  refine wpAnyH_take (i := 14) (v := ?_) rfl (by kernel_rfl) (by kernel_rfl) (by kernel_rfl) (fun _ _ _ h => h) (Or.inl ⟨by rfl, ?_⟩) hS3 ?_
  rotate_left
  · intro w' hSw
    obtain _ := hSw
    go_simp
    try with_reducible rfl
  try simp only [Act.put]
  try simp only [List.setIfInBounds_toArray]
  try simp only [List.set_cons_zero, List.set_cons_succ]
  refine wpAnyH_take (i := 15) (v := ?_) rfl (by kernel_rfl) (by kernel_rfl) (by kernel_rfl) (fun _ _ _ h => h) (Or.inl ⟨by rfl, ?_⟩) hS3 ?_
  rotate_left
  · intro w' hSw
    obtain _ := hSw
    go_simp
    try with_reducible rfl
  try simp only [Act.put]
  try simp only [List.setIfInBounds_toArray]
  try simp only [List.set_cons_zero, List.set_cons_succ]
  refine wpAnyH_take (i := 16) (v := ?_) rfl (by kernel_rfl) (by kernel_rfl) (by kernel_rfl) (fun _ _ _ h => h) (Or.inl ⟨by rfl, ?_⟩) hS3 ?_
  rotate_left
  · intro w' hSw
    obtain _ := hSw
    go_simp
    try with_reducible rfl
  try simp only [Act.put]
  try simp only [List.setIfInBounds_toArray]
  try simp only [List.set_cons_zero, List.set_cons_succ]
  refine wpAnyH_done (by kernel_rfl) ?_ _
  have hc2 : (ce == ce) = true := by simp
  have hc3 : (lw == lw) = true := by simp
  go_wp2_with fail
  refine (awake4_any _).mono ?_
  rintro e w7 ⟨rfl, hb⟩
  have BX := hid (BX.out.keep hb)
  clear hb
  go_wp2_with fail
  go_ret
  exact ⟨rfl, BX.out.low⟩
end Go.Proofs.Ytedfajokiblfhaa
