/- Walk of Even where no break is set: contract. -/
import Derived.Test.YtihbjimnjhfpeaaG15
namespace Go.Proofs.Ytihbjimnjhfpeaa
open Go.RowKit

set_option maxRecDepth 100000 in
set_option maxHeartbeats 4000000 in
theorem even_zero (c : Cn) (t : Int) (w : World) (hv : c.V) (ho : okT t = true) (hk : decide (0 < c.K) = false) :
    Calls Try.prog 62 #[.agg #[.int .i64 (c.R : Int), .int .i64 (c.L : Int), .int .i64 c.A, .int .i64 c.B, .int .i64 c.K, .int .i64 c.A2, .int .i64 c.B2], .int .i64 t] w (OutB (evenO c.R c.L c.A c.B c.K c.A2 c.B2 t) w) := by
  rw [evenO_ok hv ho]
  have HS := hid (r2_start (w := w) (A := #[.int .i64 (c.R : Int), .int .i64 (c.L : Int), .int .i64 c.A, .int .i64 c.B, .int .i64 c.K, .int .i64 c.A2, .int .i64 c.B2]) (R := #[.slice none 0 0, .bool false]))
  have hp := hv.ok.p
  have HP := hid hp
  have HV := hid hv
  have HO := hid (show okL [t] = true by simp [okL, ho])
  have hc : canB (c.R : Int) c.L c.A c.B c.K c.A2 c.B2 = true := hv
  have HC := hid hc
  clear ho hv hc hp
  go_enter Try.func62, Try.ntmps62
  go_wp2_with fail
  refine (vcan_any _ _ _ _ _ _ _ _).mono ?_
  rintro e w1 ⟨rfl, hb⟩
  rw [HC.out]
  have H1 := hid (HS.out.keep hb)
  obtain ⟨k0, k1, k2, k3, k4, k5, k6, d0, d1, f0, f1, hz⟩ := H1.out.facts
  clear hb
  go_wp2_with (go_at_call 70; refine (temps_any _ _ [t] (one_at _ _ rfl)).mono ?_; rintro e w' ⟨rfl, rfl⟩; rw [HO.out])
  have hb2 := (Below.refl _ w1).alloc (Nat.le_refl _) (.cells #[.int .i64 t] 3)
  have H2 := hid (H1.out.keep hb2)
  clear k0 k1 k2 k3 k4 k5 k6 d0 d1 f0 f1 hz
  generalize World.alloc w1 _ = W2 at *
  refine wp_region_held_drew (S := fun w' => RawR c w w') (by kernel_rfl) (rawR (R2e.keep ⟨_, _, H2.out⟩ (Below.refl _ _).drew)) (fun hS0 => ?_)
  refine wpAnyH_take (i := 0) (v := ?_) rfl (by kernel_rfl) (by kernel_rfl) (by kernel_rfl) (fun _ _ _ h => h) (Or.inl ⟨by rfl, ?_⟩) hS0 ?_
  rotate_left
  · intro w' hSw
    obtain ⟨q0, q1, q2, q3, q4, q5, q6, _⟩ := hSw
    go_simp
    try with_reducible rfl
  try simp only [Act.put]
  try simp only [List.setIfInBounds_toArray]
  try simp only [List.set_cons_zero, List.set_cons_succ]
  refine wpAnyH_take (i := 2) (v := ?_) rfl (by kernel_rfl) (by kernel_rfl) (by kernel_rfl) (fun _ _ _ h => h) (Or.inl ⟨by rfl, ?_⟩) hS0 ?_
  rotate_left
  · intro w' hSw
    obtain ⟨q0, q1, q2, q3, q4, q5, q6, _⟩ := hSw
    go_simp
    try with_reducible rfl
  try simp only [Act.put]
  try simp only [List.setIfInBounds_toArray]
  try simp only [List.set_cons_zero, List.set_cons_succ]
  refine wpAnyH_take (i := 5) (v := ?_) rfl (by kernel_rfl) (by kernel_rfl) (by kernel_rfl) (fun _ _ _ h => h) (Or.inl ⟨by rfl, ?_⟩) hS0 ?_
  rotate_left
  · intro w' hSw
    obtain ⟨q0, q1, q2, q3, q4, q5, q6, _⟩ := hSw
    go_simp
    try with_reducible rfl
  try simp only [Act.put]
  try simp only [List.setIfInBounds_toArray]
  try simp only [List.set_cons_zero, List.set_cons_succ]
  refine wpAnyH_take (i := 6) (v := ?_) rfl (by kernel_rfl) (by kernel_rfl) (by kernel_rfl) (fun _ _ _ h => h) (Or.inl ⟨by rfl, ?_⟩) hS0 ?_
  rotate_left
  · intro w' hSw
    obtain ⟨q0, q1, q2, q3, q4, q5, q6, _⟩ := hSw
    go_simp
    try with_reducible rfl
  try simp only [Act.put]
  try simp only [List.setIfInBounds_toArray]
  try simp only [List.set_cons_zero, List.set_cons_succ]
  refine wpAnyH_take (i := 7) (v := ?_) rfl (by kernel_rfl) (by kernel_rfl) (by kernel_rfl) (fun _ _ _ h => h) (Or.inl ⟨by rfl, ?_⟩) hS0 ?_
  rotate_left
  · intro w' hSw
    obtain ⟨q0, q1, q2, q3, q4, q5, q6, _⟩ := hSw
    go_simp
    try with_reducible rfl
  try simp only [Act.put]
  try simp only [List.setIfInBounds_toArray]
  try simp only [List.set_cons_zero, List.set_cons_succ]
  refine wpAnyH_ready (rs := [1, 3]) (by kernel_rfl) (by simp) ?_
  refine AllReadyH.cons rfl (fun K hK => ?_) ?_
  · go_simp
    refine hK.out _ _ (rawR_keep hS0 ((Below.refl _ _).alloc (Nat.le_refl _) _)) (fun hS1 => ?_)
    clear hK K
    refine wpAnyH_ready (rs := [3]) (by kernel_rfl) (by simp) ?_
    refine AllReadyH.cons rfl (fun K hK => ?_) AllReadyH.nil
    go_simp
    refine (places_yes c _ HV.out).mono ?_
    rintro e w3 ⟨rfl, hb⟩
    have q0 : w3.cell? ⟨W2.heap.size, 0, none⟩ = some (.int .i64 t) := keep_cell hb (cell_alloc_new W2.drew _ _ _ 0)
    have HRW := hid q0
    clear q0
    go_wp2_with fail
    refine hK.out _ _ (rawR_keep hS1 hb) (fun hS3 => ?_)
    clear hK K
    refine wpAnyH_ready (rs := [4]) (by kernel_rfl) (by simp) ?_
    refine AllReadyH.cons rfl (fun K hK => ?_) AllReadyH.nil
    go_simp
    refine (repeat_any _ _ 0 1 c.P t (by exact HRW.out) HP.out.1 (by have := HP.out; omega)).mono ?_
    rintro e w5 ⟨g, rfl, hg1, hg2, hb⟩
    have HG := hid hg2
    have HGE := hid (Nat.lt_of_lt_of_le (by obtain ⟨_, _, h⟩ := hS3.r2; exact lt_of_block h.res) hg1)
    go_wp2_with fail
    refine hK.out _ _ (rawR_keep hS3 hb) (fun hS5 => ?_)
    clear hK K
    refine wpAnyH_take (i := 8) (v := ?_) rfl (by kernel_rfl) (by kernel_rfl) (by kernel_rfl) (fun _ _ _ h => h) (Or.inl ⟨by rfl, ?_⟩) hS5 ?_
    rotate_left
    · intro w' hSw
      obtain ⟨q0, q1, q2, q3, q4, q5, q6, _⟩ := hSw
      go_simp
      try with_reducible rfl
    try simp only [Act.put]
    try simp only [List.setIfInBounds_toArray]
    try simp only [List.set_cons_zero, List.set_cons_succ]
    refine wpAnyH_take (i := 9) (v := undef) rfl (by kernel_rfl) (by kernel_rfl) (by kernel_rfl) (fun _ _ _ h => h) (Or.inr ⟨by rfl, rfl⟩) hS5 ?_
    try simp only [Act.put]
    try simp only [List.setIfInBounds_toArray]
    try simp only [List.set_cons_zero, List.set_cons_succ]
    refine wpAnyH_take (i := 10) (v := undef) rfl (by kernel_rfl) (by kernel_rfl) (by kernel_rfl) (fun _ _ _ h => h) (Or.inr ⟨by rfl, rfl⟩) hS5 ?_
    try simp only [Act.put]
    try simp only [List.setIfInBounds_toArray]
    try simp only [List.set_cons_zero, List.set_cons_succ]
    refine wpAnyH_take (i := 11) (v := undef) rfl (by kernel_rfl) (by kernel_rfl) (by kernel_rfl) (fun _ _ _ h => h) (Or.inr ⟨by rfl, rfl⟩) hS5 ?_
    try simp only [Act.put]
    try simp only [List.setIfInBounds_toArray]
    try simp only [List.set_cons_zero, List.set_cons_succ]
    refine wpAnyH_take (i := 12) (v := undef) rfl (by kernel_rfl) (by kernel_rfl) (by kernel_rfl) (fun _ _ _ h => h) (Or.inr ⟨by rfl, rfl⟩) hS5 ?_
    try simp only [Act.put]
    try simp only [List.setIfInBounds_toArray]
    try simp only [List.set_cons_zero, List.set_cons_succ]
    refine wpAnyH_take (i := 13) (v := ?_) rfl (by kernel_rfl) (by kernel_rfl) (by kernel_rfl) (fun _ _ _ h => h) (Or.inl ⟨by rfl, ?_⟩) hS5 ?_
    rotate_left
    · intro w' hSw
      obtain ⟨q0, q1, q2, q3, q4, q5, q6, _⟩ := hSw
      go_simp
      try with_reducible rfl
    try simp only [Act.put]
    try simp only [List.setIfInBounds_toArray]
    try simp only [List.set_cons_zero, List.set_cons_succ]
    refine wpAnyH_take (i := 14) (v := ?_) rfl (by kernel_rfl) (by kernel_rfl) (by kernel_rfl) (fun _ _ _ h => h) (Or.inl ⟨by rfl, ?_⟩) hS5 ?_
    rotate_left
    · intro w' hSw
      obtain ⟨q0, q1, q2, q3, q4, q5, q6, _⟩ := hSw
      go_simp
      try with_reducible rfl
    try simp only [Act.put]
    try simp only [List.setIfInBounds_toArray]
    try simp only [List.set_cons_zero, List.set_cons_succ]
    have HH5 := RawR.r2 hS5
    obtain ⟨e0, e1, H5⟩ := HH5
    obtain ⟨_, _, _, _, _, _, _, d0, d1, f0, f1, hz5⟩ := H5.facts
    have HH5 := hid H5
    clear H5
    refine wpAnyH_ready (rs := [15]) (by kernel_rfl) (by simp) ?_
    refine AllReadyH.cons rfl (fun K hK => ?_) AllReadyH.nil
    go_simp
    refine hK.out _ _ (rawR (r2e_set (RawR.r2 hS5))) (fun hS6 => ?_)
    clear hK K
    refine wpAnyH_ready (rs := [16]) (by kernel_rfl) (by simp) ?_
    refine AllReadyH.cons rfl (fun K hK => ?_) AllReadyH.nil
    go_simp
    refine hK.out _ _ hS6 (fun hS7 => ?_)
    clear hK K
    refine wpAnyH_done (by kernel_rfl) ?_ _
    go_wp2_with fail
    obtain ⟨c6, c7, c9⟩ := HH5.out.set (u := .slice (some ⟨g, 0, none⟩) c.P c.P) (v := .bool (decide (0 < c.K) && decide (c.K ≤ t)))
    have hge : g ≠ w.heap.size + 1 := by have := HGE.out; omega
    have hri := rowI_far (m := w.heap.size + 1) (i := 0) (j := 1) (u := .slice (some ⟨g, 0, none⟩) c.P c.P) (v := .bool (decide (0 < c.K) && decide (c.K ≤ t))) (rowI_of_block (cap := c.P) HG.out (by rw [List.length_replicate]; have := HP.out; omega)) hge
    rw [List.length_replicate] at hri
    (try simp only [hk, Bool.false_and] at c6 c7 c9 hri ⊢)
    refine bodyPost_ret (v := .tuple #[.agg #[.slice (some ⟨g, 0, none⟩) c.P c.P, .bool _], .int .i64 0]) (by first | (simp [results, Try.results62, go_sem, c6, c7]; done) | (simp [results, Try.results62, go_sem, c6, c7]; rfl)) rfl ⟨some ⟨g, 0, none⟩, c.P, by dsimp only; rw [List.length_replicate], by dsimp only; rw [List.length_replicate]; exact hri, c9⟩
  · refine AllReadyH.cons rfl (fun K hK => ?_) AllReadyH.nil
    go_simp
    refine (places_yes c _ HV.out).mono ?_
    rintro e w3 ⟨rfl, hb⟩
    go_wp2_with fail
    refine hK.out _ _ (rawR_keep hS0 hb) (fun hS1 => ?_)
    clear hK K
    refine wpAnyH_ready (rs := [1]) (by kernel_rfl) (by simp) ?_
    refine AllReadyH.cons rfl (fun K hK => ?_) AllReadyH.nil
    go_simp
    refine hK.out _ _ (rawR_keep hS1 ((Below.refl _ _).alloc (Nat.le_refl _) _)) (fun hS3 => ?_)
    clear hK K
    refine wpAnyH_ready (rs := [4]) (by kernel_rfl) (by simp) ?_
    refine AllReadyH.cons rfl (fun K hK => ?_) AllReadyH.nil
    go_simp
    refine (repeat_any _ _ 0 1 c.P t (by exact cell_alloc_new _ _ _ _ 0) HP.out.1 (by have := HP.out; omega)).mono ?_
    rintro e w5 ⟨g, rfl, hg1, hg2, hb⟩
    have HG := hid hg2
    have HGE := hid (Nat.lt_of_lt_of_le (by obtain ⟨_, _, h⟩ := hS3.r2; exact lt_of_block h.res) hg1)
    go_wp2_with fail
    refine hK.out _ _ (rawR_keep hS3 hb) (fun hS5 => ?_)
    clear hK K
    refine wpAnyH_take (i := 8) (v := ?_) rfl (by kernel_rfl) (by kernel_rfl) (by kernel_rfl) (fun _ _ _ h => h) (Or.inl ⟨by rfl, ?_⟩) hS5 ?_
    rotate_left
    · intro w' hSw
      obtain ⟨q0, q1, q2, q3, q4, q5, q6, _⟩ := hSw
      go_simp
      try with_reducible rfl
    try simp only [Act.put]
    try simp only [List.setIfInBounds_toArray]
    try simp only [List.set_cons_zero, List.set_cons_succ]
    refine wpAnyH_take (i := 9) (v := undef) rfl (by kernel_rfl) (by kernel_rfl) (by kernel_rfl) (fun _ _ _ h => h) (Or.inr ⟨by rfl, rfl⟩) hS5 ?_
    try simp only [Act.put]
    try simp only [List.setIfInBounds_toArray]
    try simp only [List.set_cons_zero, List.set_cons_succ]
    refine wpAnyH_take (i := 10) (v := undef) rfl (by kernel_rfl) (by kernel_rfl) (by kernel_rfl) (fun _ _ _ h => h) (Or.inr ⟨by rfl, rfl⟩) hS5 ?_
    try simp only [Act.put]
    try simp only [List.setIfInBounds_toArray]
    try simp only [List.set_cons_zero, List.set_cons_succ]
    refine wpAnyH_take (i := 11) (v := undef) rfl (by kernel_rfl) (by kernel_rfl) (by kernel_rfl) (fun _ _ _ h => h) (Or.inr ⟨by rfl, rfl⟩) hS5 ?_
    try simp only [Act.put]
    try simp only [List.setIfInBounds_toArray]
    try simp only [List.set_cons_zero, List.set_cons_succ]
    refine wpAnyH_take (i := 12) (v := undef) rfl (by kernel_rfl) (by kernel_rfl) (by kernel_rfl) (fun _ _ _ h => h) (Or.inr ⟨by rfl, rfl⟩) hS5 ?_
    try simp only [Act.put]
    try simp only [List.setIfInBounds_toArray]
    try simp only [List.set_cons_zero, List.set_cons_succ]
    refine wpAnyH_take (i := 13) (v := ?_) rfl (by kernel_rfl) (by kernel_rfl) (by kernel_rfl) (fun _ _ _ h => h) (Or.inl ⟨by rfl, ?_⟩) hS5 ?_
    rotate_left
    · intro w' hSw
      obtain ⟨q0, q1, q2, q3, q4, q5, q6, _⟩ := hSw
      go_simp
      try with_reducible rfl
    try simp only [Act.put]
    try simp only [List.setIfInBounds_toArray]
    try simp only [List.set_cons_zero, List.set_cons_succ]
    refine wpAnyH_take (i := 14) (v := ?_) rfl (by kernel_rfl) (by kernel_rfl) (by kernel_rfl) (fun _ _ _ h => h) (Or.inl ⟨by rfl, ?_⟩) hS5 ?_
    rotate_left
    · intro w' hSw
      obtain ⟨q0, q1, q2, q3, q4, q5, q6, _⟩ := hSw
      go_simp
      try with_reducible rfl
    try simp only [Act.put]
    try simp only [List.setIfInBounds_toArray]
    try simp only [List.set_cons_zero, List.set_cons_succ]
    have HH5 := RawR.r2 hS5
    obtain ⟨e0, e1, H5⟩ := HH5
    obtain ⟨_, _, _, _, _, _, _, d0, d1, f0, f1, hz5⟩ := H5.facts
    have HH5 := hid H5
    clear H5
    refine wpAnyH_ready (rs := [15]) (by kernel_rfl) (by simp) ?_
    refine AllReadyH.cons rfl (fun K hK => ?_) AllReadyH.nil
    go_simp
    refine hK.out _ _ (rawR (r2e_set (RawR.r2 hS5))) (fun hS6 => ?_)
    clear hK K
    refine wpAnyH_ready (rs := [16]) (by kernel_rfl) (by simp) ?_
    refine AllReadyH.cons rfl (fun K hK => ?_) AllReadyH.nil
    go_simp
    refine hK.out _ _ hS6 (fun hS7 => ?_)
    clear hK K
    refine wpAnyH_done (by kernel_rfl) ?_ _
    go_wp2_with fail
    obtain ⟨c6, c7, c9⟩ := HH5.out.set (u := .slice (some ⟨g, 0, none⟩) c.P c.P) (v := .bool (decide (0 < c.K) && decide (c.K ≤ t)))
    have hge : g ≠ w.heap.size + 1 := by have := HGE.out; omega
    have hri := rowI_far (m := w.heap.size + 1) (i := 0) (j := 1) (u := .slice (some ⟨g, 0, none⟩) c.P c.P) (v := .bool (decide (0 < c.K) && decide (c.K ≤ t))) (rowI_of_block (cap := c.P) HG.out (by rw [List.length_replicate]; have := HP.out; omega)) hge
    rw [List.length_replicate] at hri
    (try simp only [hk, Bool.false_and] at c6 c7 c9 hri ⊢)
    refine bodyPost_ret (v := .tuple #[.agg #[.slice (some ⟨g, 0, none⟩) c.P c.P, .bool _], .int .i64 0]) (by first | (simp [results, Try.results62, go_sem, c6, c7]; done) | (simp [results, Try.results62, go_sem, c6, c7]; rfl)) rfl ⟨some ⟨g, 0, none⟩, c.P, by dsimp only; rw [List.length_replicate], by dsimp only; rw [List.length_replicate]; exact hri, c9⟩
end Go.Proofs.Ytihbjimnjhfpeaa
