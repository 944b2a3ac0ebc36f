/- Texts of this seat, one behind the other. -/
import Derived.Test.YtihbjimnjhfpeaaGreatG09
import Derived.Test.YtihbjimnjhfpeaaGreatG10
/- Walk of Even where no break is set: contract. -/
namespace Go.Proofs.YtihbjimnjhfpeaaGreat
open Go.RowKit

set_option maxRecDepth 100000 in
set_option maxHeartbeats 4000000 in
theorem even_zero (c : Cn) (t : Int) (w : World) (hv : c.V) (ho : okT t = true) (hk : decide (0 < c.K) = false) :
    Calls Tryz.prog 121 #[.agg #[.int .i64 (c.R : Int), .int .i64 (c.L : Int), .int .i64 c.A, .int .i64 c.B, .int .i64 c.K, .int .i64 c.A2, .int .i64 c.B2], .int .i64 t] w (OutB (evenO c.R c.L c.A c.B c.K c.A2 c.B2 t) w) := by
  rw [evenO_ok hv ho]
  have HS := hid (r2_start (w := w) (A := #[.int .i64 (c.R : Int), .int .i64 (c.L : Int), .int .i64 c.A, .int .i64 c.B, .int .i64 c.K, .int .i64 c.A2, .int .i64 c.B2]) (R := #[.slice none 0 0, .bool false]))
  have hp := hv.ok.p
  have HP := hid hp
  have HV := hid hv
  have HO := hid (show okL [t] = true by simp [okL, ho])
  have hc : canB (c.R : Int) c.L c.A c.B c.K c.A2 c.B2 = true := hv
  have HC := hid hc
  clear ho hv hc hp
  go_enter Tryz.func121, Tryz.ntmps121
  go_wp2_with fail
  refine (vcan_any _ _ _ _ _ _ _ _).mono ?_
  rintro e w1 ⟨rfl, hb⟩
  rw [HC.out]
  have H1 := hid (HS.out.keep hb)
  obtain ⟨k0, k1, k2, k3, k4, k5, k6, d0, d1, f0, f1, hz⟩ := H1.out.facts
  clear hb
  go_wp2_with (go_at_call 149; refine (temps_any _ _ [t] (one_at _ _ rfl)).mono ?_; rintro e w' ⟨rfl, rfl⟩; rw [HO.out])
  have hb2 := (Below.refl _ w1).alloc (Nat.le_refl _) (.cells #[.int .i64 t] 3)
  have H2 := hid (H1.out.keep hb2)
  clear k0 k1 k2 k3 k4 k5 k6 d0 d1 f0 f1 hz
  generalize World.alloc w1 _ = W2 at *
  refine wp_region_held_drew (S := fun w' => RawR c w w') (by kernel_rfl) (rawR (R2e.keep ⟨_, _, H2.out⟩ (Below.refl _ _).drew)) (fun hS0 => ?_)
  refine wpAnyH_take (i := 0) (v := ?_) rfl (by kernel_rfl) (by kernel_rfl) (by kernel_rfl) (fun _ _ _ h => h) (Or.inl ⟨by rfl, ?_⟩) hS0 ?_
  rotate_left
  · intro w' hSw
    obtain ⟨q0, q1, q2, q3, q4, q5, q6, _⟩ := hSw
    go_simp
    try with_reducible rfl
  try simp only [Act.put]
  try simp only [List.setIfInBounds_toArray]
  try simp only [List.set_cons_zero, List.set_cons_succ]
  refine wpAnyH_take (i := 2) (v := ?_) rfl (by kernel_rfl) (by kernel_rfl) (by kernel_rfl) (fun _ _ _ h => h) (Or.inl ⟨by rfl, ?_⟩) hS0 ?_
  rotate_left
  · intro w' hSw
    obtain ⟨q0, q1, q2, q3, q4, q5, q6, _⟩ := hSw
    go_simp
    try with_reducible rfl
  try simp only [Act.put]
  try simp only [List.setIfInBounds_toArray]
  try simp only [List.set_cons_zero, List.set_cons_succ]
  refine wpAnyH_take (i := 5) (v := ?_) rfl (by kernel_rfl) (by kernel_rfl) (by kernel_rfl) (fun _ _ _ h => h) (Or.inl ⟨by rfl, ?_⟩) hS0 ?_
  rotate_left
  · intro w' hSw
    obtain ⟨q0, q1, q2, q3, q4, q5, q6, _⟩ := hSw
    go_simp
    try with_reducible rfl
  try simp only [Act.put]
  try simp only [List.setIfInBounds_toArray]
  try simp only [List.set_cons_zero, List.set_cons_succ]
  refine wpAnyH_take (i := 6) (v := ?_) rfl (by kernel_rfl) (by kernel_rfl) (by kernel_rfl) (fun _ _ _ h => h) (Or.inl ⟨by rfl, ?_⟩) hS0 ?_
  rotate_left
  · intro w' hSw
    obtain ⟨q0, q1, q2, q3, q4, q5, q6, _⟩ := hSw
    go_simp
    try with_reducible rfl
  try simp only [Act.put]
  try simp only [List.setIfInBounds_toArray]
  try simp only [List.set_cons_zero, List.set_cons_succ]
  refine wpAnyH_take (i := 7) (v := ?_) rfl (by kernel_rfl) (by kernel_rfl) (by kernel_rfl) (fun _ _ _ h => h) (Or.inl ⟨by rfl, ?_⟩) hS0 ?_
  rotate_left
  · intro w' hSw
    obtain ⟨q0, q1, q2, q3, q4, q5, q6, _⟩ := hSw
    go_simp
    try with_reducible rfl
  try simp only [Act.put]
  try simp only [List.setIfInBounds_toArray]
  try simp only [List.set_cons_zero, List.set_cons_succ]
  refine wpAnyH_ready (rs := [1, 3]) (by kernel_rfl) (by simp) ?_
  refine AllReadyH.cons rfl (fun K hK => ?_) ?_
  · go_simp
    refine hK.out _ _ (rawR_keep hS0 ((Below.refl _ _).alloc (Nat.le_refl _) _)) (fun hS1 => ?_)
    clear hK K
    refine wpAnyH_ready (rs := [3]) (by kernel_rfl) (by simp) ?_
    refine AllReadyH.cons rfl (fun K hK => ?_) AllReadyH.nil
    go_simp
    refine (places_yes c _ HV.out).mono ?_
    rintro e w3 ⟨rfl, hb⟩
    have q0 : w3.cell? ⟨W2.heap.size, 0, none⟩ = some (.int .i64 t) := keep_cell hb (cell_alloc_new W2.drew _ _ _ 0)
    have HRW := hid q0
    clear q0
    go_wp2_with fail
    refine hK.out _ _ (rawR_keep hS1 hb) (fun hS3 => ?_)
    clear hK K
    refine wpAnyH_ready (rs := [4]) (by kernel_rfl) (by simp) ?_
    refine AllReadyH.cons rfl (fun K hK => ?_) AllReadyH.nil
    go_simp
    refine (repeat_any _ _ 0 1 c.P t (by exact HRW.out) HP.out.1 (by have := HP.out; omega)).mono ?_
    rintro e w5 ⟨g, rfl, hg1, hg2, hb⟩
    have HG := hid hg2
    have HGE := hid (Nat.lt_of_lt_of_le (by obtain ⟨_, _, h⟩ := hS3.r2; exact lt_of_block h.res) hg1)
    go_wp2_with fail
    refine hK.out _ _ (rawR_keep hS3 hb) (fun hS5 => ?_)
    clear hK K
    refine wpAnyH_take (i := 8) (v := ?_) rfl (by kernel_rfl) (by kernel_rfl) (by kernel_rfl) (fun _ _ _ h => h) (Or.inl ⟨by rfl, ?_⟩) hS5 ?_
    rotate_left
    · intro w' hSw
      obtain ⟨q0, q1, q2, q3, q4, q5, q6, _⟩ := hSw
      go_simp
      try with_reducible rfl
    try simp only [Act.put]
    try simp only [List.setIfInBounds_toArray]
    try simp only [List.set_cons_zero, List.set_cons_succ]
    refine wpAnyH_take (i := 9) (v := undef) rfl (by kernel_rfl) (by kernel_rfl) (by kernel_rfl) (fun _ _ _ h => h) (Or.inr ⟨by rfl, rfl⟩) hS5 ?_
    try simp only [Act.put]
    try simp only [List.setIfInBounds_toArray]
    try simp only [List.set_cons_zero, List.set_cons_succ]
    refine wpAnyH_take (i := 10) (v := undef) rfl (by kernel_rfl) (by kernel_rfl) (by kernel_rfl) (fun _ _ _ h => h) (Or.inr ⟨by rfl, rfl⟩) hS5 ?_
    try simp only [Act.put]
    try simp only [List.setIfInBounds_toArray]
    try simp only [List.set_cons_zero, List.set_cons_succ]
    refine wpAnyH_take (i := 11) (v := undef) rfl (by kernel_rfl) (by kernel_rfl) (by kernel_rfl) (fun _ _ _ h => h) (Or.inr ⟨by rfl, rfl⟩) hS5 ?_
    try simp only [Act.put]
    try simp only [List.setIfInBounds_toArray]
    try simp only [List.set_cons_zero, List.set_cons_succ]
    refine wpAnyH_take (i := 12) (v := undef) rfl (by kernel_rfl) (by kernel_rfl) (by kernel_rfl) (fun _ _ _ h => h) (Or.inr ⟨by rfl, rfl⟩) hS5 ?_
    try simp only [Act.put]
    try simp only [List.setIfInBounds_toArray]
    try simp only [List.set_cons_zero, List.set_cons_succ]
    refine wpAnyH_take (i := 13) (v := ?_) rfl (by kernel_rfl) (by kernel_rfl) (by kernel_rfl) (fun _ _ _ h => h) (Or.inl ⟨by rfl, ?_⟩) hS5 ?_
    rotate_left
    · intro w' hSw
      obtain ⟨q0, q1, q2, q3, q4, q5, q6, _⟩ := hSw
      go_simp
      try with_reducible rfl
    try simp only [Act.put]
    try simp only [List.setIfInBounds_toArray]
    try simp only [List.set_cons_zero, List.set_cons_succ]
    refine wpAnyH_take (i := 14) (v := ?_) rfl (by kernel_rfl) (by kernel_rfl) (by kernel_rfl) (fun _ _ _ h => h) (Or.inl ⟨by rfl, ?_⟩) hS5 ?_
    rotate_left
    · intro w' hSw
      obtain ⟨q0, q1, q2, q3, q4, q5, q6, _⟩ := hSw
      go_simp
      try with_reducible rfl
    try simp only [Act.put]
    try simp only [List.setIfInBounds_toArray]
    try simp only [List.set_cons_zero, List.set_cons_succ]
    have HH5 := RawR.r2 hS5
    obtain ⟨e0, e1, H5⟩ := HH5
    obtain ⟨_, _, _, _, _, _, _, d0, d1, f0, f1, hz5⟩ := H5.facts
    have HH5 := hid H5
    clear H5
    refine wpAnyH_ready (rs := [15]) (by kernel_rfl) (by simp) ?_
    refine AllReadyH.cons rfl (fun K hK => ?_) AllReadyH.nil
    go_simp
    refine hK.out _ _ (rawR (r2e_set (RawR.r2 hS5))) (fun hS6 => ?_)
    clear hK K
    refine wpAnyH_ready (rs := [16]) (by kernel_rfl) (by simp) ?_
    refine AllReadyH.cons rfl (fun K hK => ?_) AllReadyH.nil
    go_simp
    refine hK.out _ _ hS6 (fun hS7 => ?_)
    clear hK K
    refine wpAnyH_done (by kernel_rfl) ?_ _
    go_wp2_with fail
    obtain ⟨c6, c7, c9⟩ := HH5.out.set (u := .slice (some ⟨g, 0, none⟩) c.P c.P) (v := .bool (decide (0 < c.K) && decide (c.K ≤ t)))
    have hge : g ≠ w.heap.size + 1 := by have := HGE.out; omega
    have hri := rowI_far (m := w.heap.size + 1) (i := 0) (j := 1) (u := .slice (some ⟨g, 0, none⟩) c.P c.P) (v := .bool (decide (0 < c.K) && decide (c.K ≤ t))) (rowI_of_block (cap := c.P) HG.out (by rw [List.length_replicate]; have := HP.out; omega)) hge
    rw [List.length_replicate] at hri
    (try simp only [hk, Bool.false_and] at c6 c7 c9 hri ⊢)
    refine bodyPost_ret (v := .tuple #[.agg #[.slice (some ⟨g, 0, none⟩) c.P c.P, .bool _], .int .i64 0]) (by first | (simp [results, Tryz.results121, go_sem, c6, c7]; done) | (simp [results, Tryz.results121, go_sem, c6, c7]; rfl)) rfl ⟨some ⟨g, 0, none⟩, c.P, by dsimp only; rw [List.length_replicate], by dsimp only; rw [List.length_replicate]; exact hri, c9⟩
  · refine AllReadyH.cons rfl (fun K hK => ?_) AllReadyH.nil
    go_simp
    refine (places_yes c _ HV.out).mono ?_
    rintro e w3 ⟨rfl, hb⟩
    go_wp2_with fail
    refine hK.out _ _ (rawR_keep hS0 hb) (fun hS1 => ?_)
    clear hK K
    refine wpAnyH_ready (rs := [1]) (by kernel_rfl) (by simp) ?_
    refine AllReadyH.cons rfl (fun K hK => ?_) AllReadyH.nil
    go_simp
    refine hK.out _ _ (rawR_keep hS1 ((Below.refl _ _).alloc (Nat.le_refl _) _)) (fun hS3 => ?_)
    clear hK K
    refine wpAnyH_ready (rs := [4]) (by kernel_rfl) (by simp) ?_
    refine AllReadyH.cons rfl (fun K hK => ?_) AllReadyH.nil
    go_simp
    refine (repeat_any _ _ 0 1 c.P t (by exact cell_alloc_new _ _ _ _ 0) HP.out.1 (by have := HP.out; omega)).mono ?_
    rintro e w5 ⟨g, rfl, hg1, hg2, hb⟩
    have HG := hid hg2
    have HGE := hid (Nat.lt_of_lt_of_le (by obtain ⟨_, _, h⟩ := hS3.r2; exact lt_of_block h.res) hg1)
    go_wp2_with fail
    refine hK.out _ _ (rawR_keep hS3 hb) (fun hS5 => ?_)
    clear hK K
    refine wpAnyH_take (i := 8) (v := ?_) rfl (by kernel_rfl) (by kernel_rfl) (by kernel_rfl) (fun _ _ _ h => h) (Or.inl ⟨by rfl, ?_⟩) hS5 ?_
    rotate_left
    · intro w' hSw
      obtain ⟨q0, q1, q2, q3, q4, q5, q6, _⟩ := hSw
      go_simp
      try with_reducible rfl
    try simp only [Act.put]
    try simp only [List.setIfInBounds_toArray]
    try simp only [List.set_cons_zero, List.set_cons_succ]
    refine wpAnyH_take (i := 9) (v := undef) rfl (by kernel_rfl) (by kernel_rfl) (by kernel_rfl) (fun _ _ _ h => h) (Or.inr ⟨by rfl, rfl⟩) hS5 ?_
    try simp only [Act.put]
    try simp only [List.setIfInBounds_toArray]
    try simp only [List.set_cons_zero, List.set_cons_succ]
    refine wpAnyH_take (i := 10) (v := undef) rfl (by kernel_rfl) (by kernel_rfl) (by kernel_rfl) (fun _ _ _ h => h) (Or.inr ⟨by rfl, rfl⟩) hS5 ?_
    try simp only [Act.put]
    try simp only [List.setIfInBounds_toArray]
    try simp only [List.set_cons_zero, List.set_cons_succ]
    refine wpAnyH_take (i := 11) (v := undef) rfl (by kernel_rfl) (by kernel_rfl) (by kernel_rfl) (fun _ _ _ h => h) (Or.inr ⟨by rfl, rfl⟩) hS5 ?_
    try simp only [Act.put]
    try simp only [List.setIfInBounds_toArray]
    try simp only [List.set_cons_zero, List.set_cons_succ]
    refine wpAnyH_take (i := 12) (v := undef) rfl (by kernel_rfl) (by kernel_rfl) (by kernel_rfl) (fun _ _ _ h => h) (Or.inr ⟨by rfl, rfl⟩) hS5 ?_
    try simp only [Act.put]
    try simp only [List.setIfInBounds_toArray]
    try simp only [List.set_cons_zero, List.set_cons_succ]
    refine wpAnyH_take (i := 13) (v := ?_) rfl (by kernel_rfl) (by kernel_rfl) (by kernel_rfl) (fun _ _ _ h => h) (Or.inl ⟨by rfl, ?_⟩) hS5 ?_
    rotate_left
    · intro w' hSw
      obtain ⟨q0, q1, q2, q3, q4, q5, q6, _⟩ := hSw
      go_simp
      try with_reducible rfl
    try simp only [Act.put]
    try simp only [List.setIfInBounds_toArray]
    try simp only [List.set_cons_zero, List.set_cons_succ]
    refine wpAnyH_take (i := 14) (v := ?_) rfl (by kernel_rfl) (by kernel_rfl) (by kernel_rfl) (fun _ _ _ h => h) (Or.inl ⟨by rfl, ?_⟩) hS5 ?_
    rotate_left
    · intro w' hSw
      obtain ⟨q0, q1, q2, q3, q4, q5, q6, _⟩ := hSw
      go_simp
      try with_reducible rfl
    try simp only [Act.put]
    try simp only [List.setIfInBounds_toArray]
    try simp only [List.set_cons_zero, List.set_cons_succ]
    have HH5 := RawR.r2 hS5
    obtain ⟨e0, e1, H5⟩ := HH5
    obtain ⟨_, _, _, _, _, _, _, d0, d1, f0, f1, hz5⟩ := H5.facts
    have HH5 := hid H5
    clear H5
    refine wpAnyH_ready (rs := [15]) (by kernel_rfl) (by simp) ?_
    refine AllReadyH.cons rfl (fun K hK => ?_) AllReadyH.nil
    go_simp
    refine hK.out _ _ (rawR (r2e_set (RawR.r2 hS5))) (fun hS6 => ?_)
    clear hK K
    refine wpAnyH_ready (rs := [16]) (by kernel_rfl) (by simp) ?_
    refine AllReadyH.cons rfl (fun K hK => ?_) AllReadyH.nil
    go_simp
    refine hK.out _ _ hS6 (fun hS7 => ?_)
    clear hK K
    refine wpAnyH_done (by kernel_rfl) ?_ _
    go_wp2_with fail
    obtain ⟨c6, c7, c9⟩ := HH5.out.set (u := .slice (some ⟨g, 0, none⟩) c.P c.P) (v := .bool (decide (0 < c.K) && decide (c.K ≤ t)))
    have hge : g ≠ w.heap.size + 1 := by have := HGE.out; omega
    have hri := rowI_far (m := w.heap.size + 1) (i := 0) (j := 1) (u := .slice (some ⟨g, 0, none⟩) c.P c.P) (v := .bool (decide (0 < c.K) && decide (c.K ≤ t))) (rowI_of_block (cap := c.P) HG.out (by rw [List.length_replicate]; have := HP.out; omega)) hge
    rw [List.length_replicate] at hri
    (try simp only [hk, Bool.false_and] at c6 c7 c9 hri ⊢)
    refine bodyPost_ret (v := .tuple #[.agg #[.slice (some ⟨g, 0, none⟩) c.P c.P, .bool _], .int .i64 0]) (by first | (simp [results, Tryz.results121, go_sem, c6, c7]; done) | (simp [results, Tryz.results121, go_sem, c6, c7]; rfl)) rfl ⟨some ⟨g, 0, none⟩, c.P, by dsimp only; rw [List.length_replicate], by dsimp only; rw [List.length_replicate]; exact hri, c9⟩
end Go.Proofs.YtihbjimnjhfpeaaGreat

/- Walk of HeatEven. -/
namespace Go.Proofs.YtihbjimnjhfpeaaGreat
open Go.RowKit

theorem even_all (r l a b k a2 b2 : Int) (w : World) (t : Int) : Calls Tryz.prog 121 #[.agg #[.int .i64 r, .int .i64 l, .int .i64 a, .int .i64 b, .int .i64 k, .int .i64 a2, .int .i64 b2], .int .i64 t] w (OutB (evenO r l a b k a2 b2 t) w) := by
  by_cases hn : canB r l a b k a2 b2 = false ∨ okT t = false
  · exact even_no _ _ _ _ _ _ _ _ t hn
  · have hc : canB r l a b k a2 b2 = true := by cases h : canB r l a b k a2 b2 <;> simp_all
    have ho : okT t = true := by cases h : okT t <;> simp_all
    obtain ⟨c, hcv, rfl, rfl, rfl, rfl, rfl, rfl, rfl⟩ := canB_cn hc
    by_cases hk : 0 < c.K
    · exact even_yes c t w hcv ho hk
    · exact even_zero c t w hcv ho (by simpa using hk)

theorem runO_valid {c : Cn} {x : Bd} {p : List Int} (hv : c.V) (hb : bodyV c x.1 x.2 = true) (ho : okL p = true) (hl : p.length ≤ 2000) : runO c.R c.L c.A c.B c.K c.A2 c.B2 x p = (runS c x p, 0) := by
  have h : chkE (bothB c.R c.L c.A c.B c.K c.A2 c.B2 x.1 x.2) p = 0 := by rw [bothB_cn c hv]; rw [show bodyV c x.1 x.2 = true from hb]; exact chkE_ok ho (by omega)
  rw [runO_ok h, cnOf_cn]
theorem okL_one {t : Int} (h : okT t = true) : okL [t] = true := by simp [okL, h]
/-- The boxes of HeatEven: the can's, and at n7 and n9 the two bodies'. -/
structure EvB (w W : World) (n7 n9 : Nat) (A X Y : Array Value) : Prop where
  can : W.heap[w.heap.size]? = some (.cells A 23 (0, 0))
  x : W.heap[n7]? = some (.cells X 87 (0, 0))
  y : W.heap[n9]? = some (.cells Y 87 (0, 0))
  h7 : w.heap.size < n7
  h9 : n7 < n9
  low : Below w.heap.size w W
theorem EvB.keep {w W W2 : World} {n7 n9 : Nat} {A X Y : Array Value} (h : EvB w W n7 n9 A X Y) (hb : Below W.heap.size W W2) : EvB w W2 n7 n9 A X Y :=
  ⟨(hb.block _ (lt_of_block h.can)).trans h.can, (hb.block _ (lt_of_block h.x)).trans h.x, (hb.block _ (lt_of_block h.y)).trans h.y, h.h7, h.h9, bstep h.low h.low.size hb⟩
theorem EvB.facts {w W : World} {n7 n9 : Nat} {c0 c1 c2 c3 c4 c5 c6 d0 d1 e0 e1 : Value} (h : EvB w W n7 n9 #[c0, c1, c2, c3, c4, c5, c6] #[d0, d1] #[e0, e1]) :
    W.cell? ⟨w.heap.size, 0, none⟩ = some c0 ∧ W.cell? ⟨w.heap.size, 1, none⟩ = some c1 ∧ W.cell? ⟨w.heap.size, 2, none⟩ = some c2 ∧ W.cell? ⟨w.heap.size, 3, none⟩ = some c3 ∧ W.cell? ⟨w.heap.size, 4, none⟩ = some c4 ∧ W.cell? ⟨w.heap.size, 5, none⟩ = some c5 ∧ W.cell? ⟨w.heap.size, 6, none⟩ = some c6 ∧
    W.cell? ⟨n7, 0, none⟩ = some d0 ∧ W.cell? ⟨n7, 1, none⟩ = some d1 ∧ W.frozen? ⟨n7, 0, none⟩ = false ∧ W.frozen? ⟨n7, 1, none⟩ = false ∧
    W.cell? ⟨n9, 0, none⟩ = some e0 ∧ W.cell? ⟨n9, 1, none⟩ = some e1 ∧ W.frozen? ⟨n9, 0, none⟩ = false ∧ W.frozen? ⟨n9, 1, none⟩ = false ∧ n9 < W.heap.size :=
  ⟨cell_of_row _ _ 0 _ _ _ h.can, cell_of_row _ _ 1 _ _ _ h.can, cell_of_row _ _ 2 _ _ _ h.can, cell_of_row _ _ 3 _ _ _ h.can, cell_of_row _ _ 4 _ _ _ h.can, cell_of_row _ _ 5 _ _ _ h.can, cell_of_row _ _ 6 _ _ _ h.can,
    cell_of_row _ _ 0 _ _ _ h.x, cell_of_row _ _ 1 _ _ _ h.x, frozen_of_row _ _ 0 _ _ h.x, frozen_of_row _ _ 1 _ _ h.x, cell_of_row _ _ 0 _ _ _ h.y, cell_of_row _ _ 1 _ _ _ h.y, frozen_of_row _ _ 0 _ _ h.y, frozen_of_row _ _ 1 _ _ h.y, lt_of_block h.y⟩
theorem EvB.setY {w W : World} {n7 n9 : Nat} {A X : Array Value} {e0 e1 u v : Value} (h : EvB w W n7 n9 A X #[e0, e1]) : EvB w ((W.setCell ⟨n9, 0, none⟩ u).setCell ⟨n9, 1, none⟩ v) n7 n9 A X #[u, v] := by
  have h7 := h.h7; have h9 := h.h9
  have h1 := heap_setCell_same W n9 0 _ _ u h.y
  have h2 := heap_setCell_same _ n9 1 _ _ v h1
  exact ⟨(heap_setCell_other _ _ _ _ (show w.heap.size ≠ n9 by omega)).trans ((heap_setCell_other _ _ _ _ (show w.heap.size ≠ n9 by omega)).trans h.can), (heap_setCell_other _ _ _ _ (show n7 ≠ n9 by omega)).trans ((heap_setCell_other _ _ _ _ (show n7 ≠ n9 by omega)).trans h.x), h2, h7, h9,
    (h.low.setCell (p := ⟨n9, 0, none⟩) (by show w.heap.size ≤ n9; omega) u).setCell (p := ⟨n9, 1, none⟩) (by show w.heap.size ≤ n9; omega) v⟩
theorem EvB.setX {w W : World} {n7 n9 : Nat} {A Y : Array Value} {e0 e1 u v : Value} (h : EvB w W n7 n9 A #[e0, e1] Y) : EvB w ((W.setCell ⟨n7, 0, none⟩ u).setCell ⟨n7, 1, none⟩ v) n7 n9 A #[u, v] Y := by
  have h7 := h.h7; have h9 := h.h9
  have h1 := heap_setCell_same W n7 0 _ _ u h.x
  have h2 := heap_setCell_same _ n7 1 _ _ v h1
  exact ⟨(heap_setCell_other _ _ _ _ (show w.heap.size ≠ n7 by omega)).trans ((heap_setCell_other _ _ _ _ (show w.heap.size ≠ n7 by omega)).trans h.can), h2, (heap_setCell_other _ _ _ _ (show n9 ≠ n7 by omega)).trans ((heap_setCell_other _ _ _ _ (show n9 ≠ n7 by omega)).trans h.y), h7, h9,
    (h.low.setCell (p := ⟨n7, 0, none⟩) (by show w.heap.size ≤ n7; omega) u).setCell (p := ⟨n7, 1, none⟩) (by show w.heap.size ≤ n7; omega) v⟩
/-- A row of ints is none of the bodies' boxes. -/
theorem rowI_box {W : World} {n : Nat} {l : List Int} {z u v : Value} {a : Option Addr} {m c : Nat} {b : Bool} (h : W.heap[n]? = some (.cells #[.slice a m c, .bool b] 87 (0, 0))) (hr : RowI W z l) : RowI ((W.setCell ⟨n, 0, none⟩ u).setCell ⟨n, 1, none⟩ v) z l := by
  rcases hr with hr | ⟨b', o, cap, hz, hm, hc⟩
  · exact .inl hr
  · refine .inr ⟨b', o, cap, hz, hm, fun k hk => ?_⟩
    have hne : b' ≠ n := by
      rintro rfl
      have h1 := hc k hk
      rw [cell_of_row W _ (o + k) _ _ _ h] at h1
      match o + k, h1 with
      | 0, h1 => simp at h1
      | 1, h1 => simp at h1
      | j + 2, h1 => simp at h1
    rw [← hc k hk]
    exact World.cell?_of_block (a := ⟨b', o + k, none⟩) (by rw [heap_setCell_other _ _ _ _ hne, heap_setCell_other _ _ _ _ hne])

end Go.Proofs.YtihbjimnjhfpeaaGreat
