/- Walk of a tick of a step KVent. -/
import Derived.Test.YtpkcnojcklmhmaaVm
namespace Go.Proofs.Ytpkcnojcklmhmaa
open Go.RowKit

set_option maxRecDepth 20000 in
set_option maxHeartbeats 8000000 in
theorem tick_1 (s : ByteArray) (h c v p ch : Int) (u : Value) (m : Nat) (P : Nat → St) (z : Value) (n : Nat) (q : Nat → Tri) (t : Int) (st : Nat) (g tc ai : Int) (w : World) (hp : RowP w u m P) (hq : RowT w z n q) (hst : st < m)
    (h1 : 1 ≤ h) (h2 : h ≤ 1000) (c1 : 1 ≤ c) (c2 : c ≤ 1000) (tc1 : -50000 ≤ tc) (tc2 : tc ≤ 200000) (a1 : 0 ≤ aimK q t (P st).s n) (a2 : aimK q t (P st).s n ≤ 200000)
    (hk : (P st).k = 1) (v1 : 1 ≤ v) (v2 : v ≤ 1000) (p1 : 0 ≤ p) (p2 : p ≤ 50000) (ch1 : -5000 ≤ ch) (ch2 : ch ≤ 5000) (ai1 : 0 ≤ ai) (ai2 : ai ≤ 1000) (g1 : 0 ≤ g) (g2 : g ≤ 100000000) (t1 : 0 ≤ t) (t2 : t ≤ 100000000) :
    Calls Try.prog 95 #[.agg #[.string s, .int .i64 h, .int .i64 c, .int .i64 v, .int .i64 p, .int .i64 ch, u, z], .agg #[.int .i64 t, .int .i64 st, .int .i64 g, .int .i64 tc, .int .i64 ai]] w (TickP 1 (P st).s (P st).n v p ch t st g (tc + chN h c (aimK q t (P st).s n - tc)) ai w) := by
  have HQ := hid (fun w1 (g : Below w.heap.size w w1) => hq.keep g)
  have HP := hid (fun w1 (g : Below w.heap.size w w1) => RowT.keep hp g)
  have hnm := hq.most
  have hmm := RowT.most hp
  unfold maxLen at hnm hmm
  obtain ⟨qa, qc, rfl⟩ := hq.shape
  obtain ⟨pa, pc, rfl⟩ := RowT.shape hp
  clear hp hq
  obtain ⟨a', b', o', cap', hv, _, _, ha', hcell⟩ := HP.out w (Below.refl _ _)
  injection hv with hv1 hv2 hv3
  subst hv1 hv3
  rcases ha' with h0 | rfl
  · omega
  obtain ⟨e0, e1, e2⟩ := hcell st hst
  simp only at e0 e1 e2
  rw [hk] at e0
  clear hcell hv2
  have HST := hid hst
  have hst' : (st : Int) < m := by omega
  have hB4 := ((((Below.refl w.heap.size w).alloc (Nat.le_refl _) (.cells #[.string s, .int .i64 h, .int .i64 c, .int .i64 v, .int .i64 p, .int .i64 ch, .slice (some ⟨b', o', none⟩) m pc, .slice qa n qc] 117)).alloc (by simp) (.cells #[.int .i64 t, .int .i64 st, .int .i64 g, .int .i64 tc, .int .i64 ai] 57)).alloc (by simp <;> omega) (.cells #[.int .i64 0, .int .i64 0, .int .i64 0, .int .i64 0, .int .i64 0] 57)).alloc (by simp <;> omega) (.cells #[.int .i64 0, .int .i64 0, .int .i64 0, .int .i64 0] 74)
  have e0 := keep_cell hB4 e0
  have e1 := keep_cell hB4 e1
  have e2 := keep_cell hB4 e2
  clear hB4
  have HT := hid (tk_start (w := w) (A := #[.string s, .int .i64 h, .int .i64 c, .int .i64 v, .int .i64 p, .int .i64 ch, .slice (some ⟨b', o', none⟩) m pc, .slice qa n qc]) (B := #[.int .i64 t, .int .i64 st, .int .i64 g, .int .i64 tc, .int .i64 ai]) (R := #[.int .i64 0, .int .i64 0, .int .i64 0, .int .i64 0, .int .i64 0]) (Q := #[.int .i64 0, .int .i64 0, .int .i64 0, .int .i64 0]) (C := #[.int .i64 1, .int .i64 (P st).s, .int .i64 (P st).n]))
  go_enter Try.func95, Try.ntmps95
  go_upto_region 2 with (fail)
  generalize hW : World.alloc (World.alloc (World.alloc (World.alloc (World.alloc w _) _) _) _) _ = W0
  rw [hW] at HT
  clear hW e0 e1 e2
  obtain ⟨A, hA⟩ : ∃ A, A = aimK q t (P st).s n := ⟨_, rfl⟩
  rw [← hA] at a1 a2
  have HA := hid hA
  obtain ⟨d, hd⟩ : ∃ d, d = A - tc := ⟨_, rfl⟩
  have hw1 : IntKind.i64.wrap (A - tc) = d := by rw [hd]; exact IntWalk.i64_in _ (by omega)
  have hcb := chN_bd (h := h) (c := c) (d := d) (by omega) (by omega) h1 h2 c1 c2
  obtain ⟨X, hX⟩ : ∃ X, X = chN h c d := ⟨_, rfl⟩
  rw [← hX] at hcb
  obtain ⟨T2, hT2⟩ : ∃ T2, T2 = tc + X := ⟨_, rfl⟩
  have htb : -50000 ≤ T2 ∧ T2 ≤ 200000 := by rcases Int.le_total 0 d with h0 | h0 <;> (have := hcb.1; have := hcb.2; omega)
  have hw2 : IntKind.i64.wrap (tc + X) = T2 := by rw [hT2]; exact IntWalk.i64_in _ (by omega)
  have HX := hid hX
  have HD := hid hd
  have HT2 := hid hT2
  have HDB := hid (show -300000 ≤ d ∧ d ≤ 300000 by omega)
  have HHC := hid (And.intro (And.intro h1 h2) (And.intro c1 c2))
  clear hA hX hcb hd hT2 h1 h2 c1 c2
  refine wp_region_sink (S := RawF w (.string s) (.int .i64 h) (.int .i64 c) (.int .i64 v) (.int .i64 p) (.int .i64 ch) (.slice (some ⟨b', o', none⟩) m pc) (.slice qa n qc) (.int .i64 t) (.int .i64 st) (.int .i64 g) (.int .i64 tc) (.int .i64 ai) (.int .i64 1) (.int .i64 (P st).s) (.int .i64 (P st).n) #[.int .i64 0, .int .i64 0, .int .i64 0, .int .i64 0, .int .i64 0] #[.int .i64 0, .int .i64 0, .int .i64 0, .int .i64 0]) 12 (by kernel_rfl) (by kernel_rfl) (by kernel_rfl) (by kernel_rfl) (rawF HT.out.drew) (fun hS0 => ?_)
  refine wpAnyH_take (i := 0) (v := ?_) rfl (by kernel_rfl) (by kernel_rfl) (by kernel_rfl) (fun _ _ _ h => h) (Or.inl ⟨by rfl, ?_⟩) hS0 ?_
  rotate_left
  · intro w' hSw
    obtain ⟨q0, q1, q2, q3, q4, q5, q6, q7, x0, x1, x2, x3, x4, y0, y1, y2, f3, f4, _⟩ := hSw
    go_simp
    try with_reducible rfl
  try simp only [Act.put]
  try simp only [List.setIfInBounds_toArray]
  try simp only [List.set_cons_zero, List.set_cons_succ]
  refine wpAnyH_take (i := 1) (v := ?_) rfl (by kernel_rfl) (by kernel_rfl) (by kernel_rfl) (fun _ _ _ h => h) (Or.inl ⟨by rfl, ?_⟩) hS0 ?_
  rotate_left
  · intro w' hSw
    obtain ⟨q0, q1, q2, q3, q4, q5, q6, q7, x0, x1, x2, x3, x4, y0, y1, y2, f3, f4, _⟩ := hSw
    go_simp
    try with_reducible rfl
  try simp only [Act.put]
  try simp only [List.setIfInBounds_toArray]
  try simp only [List.set_cons_zero, List.set_cons_succ]
  refine wpAnyH_take (i := 2) (v := ?_) rfl (by kernel_rfl) (by kernel_rfl) (by kernel_rfl) (fun _ _ _ h => h) (Or.inl ⟨by rfl, ?_⟩) hS0 ?_
  rotate_left
  · intro w' hSw
    obtain ⟨q0, q1, q2, q3, q4, q5, q6, q7, x0, x1, x2, x3, x4, y0, y1, y2, f3, f4, _⟩ := hSw
    go_simp
    try with_reducible rfl
  try simp only [Act.put]
  try simp only [List.setIfInBounds_toArray]
  try simp only [List.set_cons_zero, List.set_cons_succ]
  refine wpAnyH_take (i := 3) (v := ?_) rfl (by kernel_rfl) (by kernel_rfl) (by kernel_rfl) (fun _ _ _ h => h) (Or.inl ⟨by rfl, ?_⟩) hS0 ?_
  rotate_left
  · intro w' hSw
    obtain ⟨q0, q1, q2, q3, q4, q5, q6, q7, x0, x1, x2, x3, x4, y0, y1, y2, f3, f4, _⟩ := hSw
    go_simp
    try with_reducible rfl
  try simp only [Act.put]
  try simp only [List.setIfInBounds_toArray]
  try simp only [List.set_cons_zero, List.set_cons_succ]
  refine wpAnyH_take (i := 4) (v := ?_) rfl (by kernel_rfl) (by kernel_rfl) (by kernel_rfl) (fun _ _ _ h => h) (Or.inl ⟨by rfl, ?_⟩) hS0 ?_
  rotate_left
  · intro w' hSw
    obtain ⟨q0, q1, q2, q3, q4, q5, q6, q7, x0, x1, x2, x3, x4, y0, y1, y2, f3, f4, _⟩ := hSw
    go_simp
    try with_reducible rfl
  try simp only [Act.put]
  try simp only [List.setIfInBounds_toArray]
  try simp only [List.set_cons_zero, List.set_cons_succ]
  refine wpAnyH_take (i := 6) (v := ?_) rfl (by kernel_rfl) (by kernel_rfl) (by kernel_rfl) (fun _ _ _ h => h) (Or.inl ⟨by rfl, ?_⟩) hS0 ?_
  rotate_left
  · intro w' hSw
    obtain ⟨q0, q1, q2, q3, q4, q5, q6, q7, x0, x1, x2, x3, x4, y0, y1, y2, f3, f4, _⟩ := hSw
    go_simp
    try with_reducible rfl
  try simp only [Act.put]
  try simp only [List.setIfInBounds_toArray]
  try simp only [List.set_cons_zero, List.set_cons_succ]
  refine wpAnyH_take (i := 7) (v := ?_) rfl (by kernel_rfl) (by kernel_rfl) (by kernel_rfl) (fun _ _ _ h => h) (Or.inl ⟨by rfl, ?_⟩) hS0 ?_
  rotate_left
  · intro w' hSw
    obtain ⟨q0, q1, q2, q3, q4, q5, q6, q7, x0, x1, x2, x3, x4, y0, y1, y2, f3, f4, _⟩ := hSw
    go_simp
    try with_reducible rfl
  try simp only [Act.put]
  try simp only [List.setIfInBounds_toArray]
  try simp only [List.set_cons_zero, List.set_cons_succ]
  (refine wpAnyH_ready (rs := [5]) (by kernel_rfl) (by simp) ?_)
  refine AllReadyH.cons rfl (fun K hK => ?_) AllReadyH.nil
  go_simp
  refine (aim_any _ _ _ _ _ _ _ _ _ _ _ _ _ _ _ _ _ _ (HP.out _ hS0.tk.low) (HQ.out _ hS0.tk.low) HST.out).mono ?_
  rintro e w3 ⟨rfl, hb⟩
  rw [← HA.out]
  go_wp2_with fail
  (refine hK.out _ _ (hS0.keep hb) (fun hS1 => ?_); clear hK K)
  refine wpAnyH_take (i := 8) (v := ?_) rfl (by kernel_rfl) (by kernel_rfl) (by kernel_rfl) (fun _ _ _ h => h) (Or.inl ⟨by rfl, ?_⟩) hS1 ?_
  rotate_left
  · intro w' hSw
    obtain ⟨q0, q1, q2, q3, q4, q5, q6, q7, x0, x1, x2, x3, x4, y0, y1, y2, f3, f4, _⟩ := hSw
    go_simp
    try with_reducible rfl
  try simp only [Act.put]
  try simp only [List.setIfInBounds_toArray]
  try simp only [List.set_cons_zero, List.set_cons_succ]
  (refine wpAnyH_ready (rs := [9]) (by kernel_rfl) (by simp) ?_)
  refine AllReadyH.cons rfl (fun K hK => ?_) AllReadyH.nil
  go_simp
  refine (change_any _ _ _ _ _ _ _ _ _ _ _ _ _ _ HDB.out.1 HDB.out.2 HHC.out.1.1 HHC.out.1.2 HHC.out.2.1 HHC.out.2.2).mono ?_
  rintro e w4 ⟨rfl, hb4⟩
  rw [← HX.out]
  go_wp2_with fail
  (refine hK.out _ _ (hS1.keep hb4) (fun hS2 => ?_); clear hK K)
  refine wpAnyH_take (i := 10) (v := ?_) rfl (by kernel_rfl) (by kernel_rfl) (by kernel_rfl) (fun _ _ _ h => h) (Or.inl ⟨by rfl, ?_⟩) hS2 ?_
  rotate_left
  · intro w' hSw
    obtain ⟨q0, q1, q2, q3, q4, q5, q6, q7, x0, x1, x2, x3, x4, y0, y1, y2, f3, f4, _⟩ := hSw
    go_simp
    try with_reducible rfl
  try simp only [Act.put]
  try simp only [List.setIfInBounds_toArray]
  try simp only [List.set_cons_zero, List.set_cons_succ]
  refine wpAnyH_take (i := 11) (v := ?_) rfl (by kernel_rfl) (by kernel_rfl) (by kernel_rfl) (fun _ _ _ h => h) (Or.inl ⟨by rfl, ?_⟩) hS2 ?_
  rotate_left
  · intro w' hSw
    obtain ⟨q0, q1, q2, q3, q4, q5, q6, q7, x0, x1, x2, x3, x4, y0, y1, y2, f3, f4, _⟩ := hSw
    go_simp
    try with_reducible rfl
  try simp only [Act.put]
  try simp only [List.setIfInBounds_toArray]
  try simp only [List.set_cons_zero, List.set_cons_succ]
  refine wpAnyH_done (by kernel_rfl) ?_ _
  have HS2 := hid hS2
  obtain ⟨q0, q1, q2, q3, q4, q5, q6, q7, x0, x1, x2, x3, x4, y0, y1, y2, f3, f4, _⟩ := hS2
  refine sink_last rfl (fun K hK => ?_)
  go_simp
  refine hK.out _ _ ?_
  clear hK K q0 q1 q2 q3 q4 q5 q6 q7 x0 x1 x2 x3 x4 y0 y1 y2 f3 f4 hw1 hw2
  have HT3 := hid (show Tk w _ #[.string s, .int .i64 h, .int .i64 c, .int .i64 v, .int .i64 p, .int .i64 ch, .slice (some ⟨b', o', none⟩) m pc, .slice qa n qc] #[.int .i64 t, .int .i64 st, .int .i64 g, .int .i64 T2, .int .i64 ai] #[.int .i64 0, .int .i64 0, .int .i64 0, .int .i64 0, .int .i64 0] #[.int .i64 0, .int .i64 0, .int .i64 0, .int .i64 0] #[.int .i64 1, .int .i64 (P st).s, .int .i64 (P st).n] from HS2.out.tk.setB 3 (.int .i64 T2))
  generalize World.setCell w4 _ _ = W5 at HT3 ⊢
  have HF3 := hid (rawF HT3.out)
  clear hS0 hS1 hb hb4 HS2 HT3 HT
  obtain ⟨q0, q1, q2, q3, q4, q5, q6, q7, x0, x1, x2, x3, x4, y0, y1, y2, f3, f4, _⟩ := HF3.out
  obtain ⟨U1, hU1⟩ : ∃ U, U = upN ai v := ⟨_, rfl⟩
  have hub := upN_bd (a := ai) (b := v) (m := 1000) ai1 ai2 (by omega) v2
  rw [← hU1] at hub
  obtain ⟨A2, hA2⟩ : ∃ A, A = ai - U1 := ⟨_, rfl⟩
  have hw3 : IntKind.i64.wrap (ai - U1) = A2 := by rw [hA2]; exact IntWalk.i64_in _ (by omega)
  have hab : 0 ≤ A2 ∧ A2 ≤ 1000 := by
    have : upN ai v ≤ ai := (upN_bd (m := ai) ai1 (Int.le_refl _) (by omega) v2).2
    omega
  have HU1 := hid hU1
  have HA2 := hid (show A2 = airN 1 v ai by unfold airN; rw [if_pos rfl, hA2, hU1])
  have HVB := hid (And.intro v1 v2)
  have HAB := hid (And.intro ai1 ai2)
  clear hU1 hA2
  go_upto_region 4 with (fail)
  refine wp_region_sink (S := RawF w (.string s) (.int .i64 h) (.int .i64 c) (.int .i64 v) (.int .i64 p) (.int .i64 ch) (.slice (some ⟨b', o', none⟩) m pc) (.slice qa n qc) (.int .i64 t) (.int .i64 st) (.int .i64 g) (.int .i64 T2) (.int .i64 ai) (.int .i64 1) (.int .i64 (P st).s) (.int .i64 (P st).n) #[.int .i64 0, .int .i64 0, .int .i64 0, .int .i64 0, .int .i64 0] #[.int .i64 0, .int .i64 0, .int .i64 0, .int .i64 0]) 10 (by kernel_rfl) (by kernel_rfl) (by kernel_rfl) (by kernel_rfl) (rawF HF3.out.tk.drew) (fun hS0 => ?_)
  clear q0 q1 q2 q3 q4 q5 q6 q7 x0 x1 x2 x3 x4 y0 y1 y2 f3 f4
  refine wpAnyH_take (i := 0) (v := ?_) rfl (by kernel_rfl) (by kernel_rfl) (by kernel_rfl) (fun _ _ _ h => h) (Or.inl ⟨by rfl, ?_⟩) hS0 ?_
  rotate_left
  · intro w' hSw
    obtain ⟨q0, q1, q2, q3, q4, q5, q6, q7, x0, x1, x2, x3, x4, y0, y1, y2, f3, f4, _⟩ := hSw
    go_simp
    try with_reducible rfl
  try simp only [Act.put]
  try simp only [List.setIfInBounds_toArray]
  try simp only [List.set_cons_zero, List.set_cons_succ]
  refine wpAnyH_take (i := 1) (v := ?_) rfl (by kernel_rfl) (by kernel_rfl) (by kernel_rfl) (fun _ _ _ h => h) (Or.inl ⟨by rfl, ?_⟩) hS0 ?_
  rotate_left
  · intro w' hSw
    obtain ⟨q0, q1, q2, q3, q4, q5, q6, q7, x0, x1, x2, x3, x4, y0, y1, y2, f3, f4, _⟩ := hSw
    go_simp
    try with_reducible rfl
  try simp only [Act.put]
  try simp only [List.setIfInBounds_toArray]
  try simp only [List.set_cons_zero, List.set_cons_succ]
  refine wpAnyH_take (i := 2) (v := ?_) rfl (by kernel_rfl) (by kernel_rfl) (by kernel_rfl) (fun _ _ _ h => h) (Or.inl ⟨by rfl, ?_⟩) hS0 ?_
  rotate_left
  · intro w' hSw
    obtain ⟨q0, q1, q2, q3, q4, q5, q6, q7, x0, x1, x2, x3, x4, y0, y1, y2, f3, f4, _⟩ := hSw
    go_simp
    try with_reducible rfl
  try simp only [Act.put]
  try simp only [List.setIfInBounds_toArray]
  try simp only [List.set_cons_zero, List.set_cons_succ]
  refine wpAnyH_take (i := 3) (v := ?_) rfl (by kernel_rfl) (by kernel_rfl) (by kernel_rfl) (fun _ _ _ h => h) (Or.inl ⟨by rfl, ?_⟩) hS0 ?_
  rotate_left
  · intro w' hSw
    obtain ⟨q0, q1, q2, q3, q4, q5, q6, q7, x0, x1, x2, x3, x4, y0, y1, y2, f3, f4, _⟩ := hSw
    go_simp
    try with_reducible rfl
  try simp only [Act.put]
  try simp only [List.setIfInBounds_toArray]
  try simp only [List.set_cons_zero, List.set_cons_succ]
  refine wpAnyH_take (i := 4) (v := ?_) rfl (by kernel_rfl) (by kernel_rfl) (by kernel_rfl) (fun _ _ _ h => h) (Or.inl ⟨by rfl, ?_⟩) hS0 ?_
  rotate_left
  · intro w' hSw
    obtain ⟨q0, q1, q2, q3, q4, q5, q6, q7, x0, x1, x2, x3, x4, y0, y1, y2, f3, f4, _⟩ := hSw
    go_simp
    try with_reducible rfl
  try simp only [Act.put]
  try simp only [List.setIfInBounds_toArray]
  try simp only [List.set_cons_zero, List.set_cons_succ]
  refine wpAnyH_take (i := 5) (v := ?_) rfl (by kernel_rfl) (by kernel_rfl) (by kernel_rfl) (fun _ _ _ h => h) (Or.inl ⟨by rfl, ?_⟩) hS0 ?_
  rotate_left
  · intro w' hSw
    obtain ⟨q0, q1, q2, q3, q4, q5, q6, q7, x0, x1, x2, x3, x4, y0, y1, y2, f3, f4, _⟩ := hSw
    go_simp
    try with_reducible rfl
  try simp only [Act.put]
  try simp only [List.setIfInBounds_toArray]
  try simp only [List.set_cons_zero, List.set_cons_succ]
  refine wpAnyH_take (i := 6) (v := ?_) rfl (by kernel_rfl) (by kernel_rfl) (by kernel_rfl) (fun _ _ _ h => h) (Or.inl ⟨by rfl, ?_⟩) hS0 ?_
  rotate_left
  · intro w' hSw
    obtain ⟨q0, q1, q2, q3, q4, q5, q6, q7, x0, x1, x2, x3, x4, y0, y1, y2, f3, f4, _⟩ := hSw
    go_simp
    try with_reducible rfl
  try simp only [Act.put]
  try simp only [List.setIfInBounds_toArray]
  try simp only [List.set_cons_zero, List.set_cons_succ]
  (refine wpAnyH_ready (rs := [7]) (by kernel_rfl) (by simp) ?_)
  refine AllReadyH.cons rfl (fun K hK => ?_) AllReadyH.nil
  go_simp
  refine (shareUp_any _ _ _ HAB.out.1 (by have := HAB.out.2; omega) (by have := HVB.out.1; omega) HVB.out.2).mono ?_
  rintro e w6 ⟨rfl, rfl⟩
  rw [← HU1.out]
  go_wp2_with fail
  (refine hK.out _ _ (hS0) (fun hS1 => ?_); clear hK K)
  refine wpAnyH_take (i := 8) (v := ?_) rfl (by kernel_rfl) (by kernel_rfl) (by kernel_rfl) (fun _ _ _ h => h) (Or.inl ⟨by rfl, ?_⟩) hS1 ?_
  rotate_left
  · intro w' hSw
    obtain ⟨q0, q1, q2, q3, q4, q5, q6, q7, x0, x1, x2, x3, x4, y0, y1, y2, f3, f4, _⟩ := hSw
    go_simp
    try with_reducible rfl
  try simp only [Act.put]
  try simp only [List.setIfInBounds_toArray]
  try simp only [List.set_cons_zero, List.set_cons_succ]
  refine wpAnyH_take (i := 9) (v := ?_) rfl (by kernel_rfl) (by kernel_rfl) (by kernel_rfl) (fun _ _ _ h => h) (Or.inl ⟨by rfl, ?_⟩) hS1 ?_
  rotate_left
  · intro w' hSw
    obtain ⟨q0, q1, q2, q3, q4, q5, q6, q7, x0, x1, x2, x3, x4, y0, y1, y2, f3, f4, _⟩ := hSw
    go_simp
    try with_reducible rfl
  try simp only [Act.put]
  try simp only [List.setIfInBounds_toArray]
  try simp only [List.set_cons_zero, List.set_cons_succ]
  refine wpAnyH_done (by kernel_rfl) ?_ _
  obtain ⟨q0, q1, q2, q3, q4, q5, q6, q7, x0, x1, x2, x3, x4, y0, y1, y2, f3, f4, _⟩ := hS0
  refine sink_last rfl (fun K hK => ?_)
  go_simp
  refine hK.out _ _ ?_
  clear hK K q0 q1 q2 q3 q4 q5 q6 q7 x0 x1 x2 x3 x4 y0 y1 y2 f3 f4 hw3
  have HT4 := hid (show Tk w _ #[.string s, .int .i64 h, .int .i64 c, .int .i64 v, .int .i64 p, .int .i64 ch, .slice (some ⟨b', o', none⟩) m pc, .slice qa n qc] #[.int .i64 t, .int .i64 st, .int .i64 g, .int .i64 T2, .int .i64 A2] #[.int .i64 0, .int .i64 0, .int .i64 0, .int .i64 0, .int .i64 0] #[.int .i64 0, .int .i64 0, .int .i64 0, .int .i64 0] #[.int .i64 1, .int .i64 (P st).s, .int .i64 (P st).n] from (HF3.out.tk.setB 4 (.int .i64 A2)).drew)
  generalize World.drew (World.setCell W5 _ _) = W6 at HT4 ⊢
  have HF4 := hid (rawF HT4.out)
  clear hS1 HT4 HF3
  obtain ⟨q0, q1, q2, q3, q4, q5, q6, q7, x0, x1, x2, x3, x4, y0, y1, y2, f3, f4, _⟩ := HF4.out
  obtain ⟨U2, hU2⟩ : ∃ U, U = upN p A2 := ⟨_, rfl⟩
  have hub2 := upN_bd (a := p) (b := A2) (m := 50000) p1 p2 hab.1 hab.2
  rw [← hU2] at hub2
  obtain ⟨C2, hC2⟩ : ∃ C, C = T2 + ch := ⟨_, rfl⟩
  obtain ⟨B2, hB2⟩ : ∃ B, B = T2 - U2 := ⟨_, rfl⟩
  have hw5 : IntKind.i64.wrap (T2 + ch) = C2 := by rw [hC2]; exact IntWalk.i64_in _ (by omega)
  have hw6 : IntKind.i64.wrap (T2 - U2) = B2 := by rw [hB2]; exact IntWalk.i64_in _ (by omega)
  have HU2 := hid hU2
  have HC2 := hid hC2
  have HB2 := hid hB2
  have HPB := hid (And.intro (And.intro p1 p2) hab)
  clear hU2 hC2 hB2 hub2
  go_upto_region 5 with (fail)
  go_cut [7] (fun s7 wx => ∃ b7 : Nat, s7 = .pointer (some ⟨b7, 0, none⟩) ∧ Hid (w.heap.size + 1 + 1 + 1 + 1 < b7 ∧ wx.heap[b7]? = some (.cells #[.int .i64 st, .int .i64 T2, .int .i64 C2, .int .i64 B2] 74 (0, 0))) ∧ Hid (Tk w wx #[.string s, .int .i64 h, .int .i64 c, .int .i64 v, .int .i64 p, .int .i64 ch, .slice (some ⟨b', o', none⟩) m pc, .slice qa n qc] #[.int .i64 t, .int .i64 st, .int .i64 g, .int .i64 T2, .int .i64 A2] #[.int .i64 0, .int .i64 0, .int .i64 0, .int .i64 0, .int .i64 0] #[.int .i64 0, .int .i64 0, .int .i64 0, .int .i64 0] #[.int .i64 1, .int .i64 (P st).s, .int .i64 (P st).n]))
  case first =>
    clear q0 q1 q2 q3 q4 q5 q6 q7 x0 x1 x2 x3 x4 y0 y1 y2 f3 f4
    have hlt5 := lt_blk HF4.out.tk.c
    refine wp_region_sink (S := RawF w (.string s) (.int .i64 h) (.int .i64 c) (.int .i64 v) (.int .i64 p) (.int .i64 ch) (.slice (some ⟨b', o', none⟩) m pc) (.slice qa n qc) (.int .i64 t) (.int .i64 st) (.int .i64 g) (.int .i64 T2) (.int .i64 A2) (.int .i64 1) (.int .i64 (P st).s) (.int .i64 (P st).n) #[.int .i64 0, .int .i64 0, .int .i64 0, .int .i64 0, .int .i64 0] #[.int .i64 0, .int .i64 0, .int .i64 0, .int .i64 0]) 21 (by kernel_rfl) (by kernel_rfl) (by kernel_rfl) (by kernel_rfl) (rawF HF4.out.tk.drew) (fun hS0 => ?_)
    refine wpAnyH_take (i := 0) (v := ?_) rfl (by kernel_rfl) (by kernel_rfl) (by kernel_rfl) (fun _ _ _ h => h) (Or.inl ⟨by rfl, ?_⟩) hS0 ?_
    rotate_left
    · intro w' hSw
      obtain ⟨q0, q1, q2, q3, q4, q5, q6, q7, x0, x1, x2, x3, x4, y0, y1, y2, f3, f4, _⟩ := hSw
      go_simp
      try with_reducible rfl
    try simp only [Act.put]
    try simp only [List.setIfInBounds_toArray]
    try simp only [List.set_cons_zero, List.set_cons_succ]
    refine wpAnyH_take (i := 1) (v := ?_) rfl (by kernel_rfl) (by kernel_rfl) (by kernel_rfl) (fun _ _ _ h => h) (Or.inl ⟨by rfl, ?_⟩) hS0 ?_
    rotate_left
    · intro w' hSw
      obtain ⟨q0, q1, q2, q3, q4, q5, q6, q7, x0, x1, x2, x3, x4, y0, y1, y2, f3, f4, _⟩ := hSw
      go_simp
      try with_reducible rfl
    try simp only [Act.put]
    try simp only [List.setIfInBounds_toArray]
    try simp only [List.set_cons_zero, List.set_cons_succ]
    refine wpAnyH_take (i := 2) (v := ?_) rfl (by kernel_rfl) (by kernel_rfl) (by kernel_rfl) (fun _ _ _ h => h) (Or.inl ⟨by rfl, ?_⟩) hS0 ?_
    rotate_left
    · intro w' hSw
      obtain ⟨q0, q1, q2, q3, q4, q5, q6, q7, x0, x1, x2, x3, x4, y0, y1, y2, f3, f4, _⟩ := hSw
      go_simp
      try with_reducible rfl
    try simp only [Act.put]
    try simp only [List.setIfInBounds_toArray]
    try simp only [List.set_cons_zero, List.set_cons_succ]
    refine wpAnyH_take (i := 3) (v := ?_) rfl (by kernel_rfl) (by kernel_rfl) (by kernel_rfl) (fun _ _ _ h => h) (Or.inl ⟨by rfl, ?_⟩) hS0 ?_
    rotate_left
    · intro w' hSw
      obtain ⟨q0, q1, q2, q3, q4, q5, q6, q7, x0, x1, x2, x3, x4, y0, y1, y2, f3, f4, _⟩ := hSw
      go_simp
      try with_reducible rfl
    try simp only [Act.put]
    try simp only [List.setIfInBounds_toArray]
    try simp only [List.set_cons_zero, List.set_cons_succ]
    refine wpAnyH_take (i := 4) (v := ?_) rfl (by kernel_rfl) (by kernel_rfl) (by kernel_rfl) (fun _ _ _ h => h) (Or.inl ⟨by rfl, ?_⟩) hS0 ?_
    rotate_left
    · intro w' hSw
      obtain ⟨q0, q1, q2, q3, q4, q5, q6, q7, x0, x1, x2, x3, x4, y0, y1, y2, f3, f4, _⟩ := hSw
      go_simp
      try with_reducible rfl
    try simp only [Act.put]
    try simp only [List.setIfInBounds_toArray]
    try simp only [List.set_cons_zero, List.set_cons_succ]
    refine wpAnyH_take (i := 5) (v := ?_) rfl (by kernel_rfl) (by kernel_rfl) (by kernel_rfl) (fun _ _ _ h => h) (Or.inl ⟨by rfl, ?_⟩) hS0 ?_
    rotate_left
    · intro w' hSw
      obtain ⟨q0, q1, q2, q3, q4, q5, q6, q7, x0, x1, x2, x3, x4, y0, y1, y2, f3, f4, _⟩ := hSw
      go_simp
      try with_reducible rfl
    try simp only [Act.put]
    try simp only [List.setIfInBounds_toArray]
    try simp only [List.set_cons_zero, List.set_cons_succ]
    refine wpAnyH_take (i := 6) (v := ?_) rfl (by kernel_rfl) (by kernel_rfl) (by kernel_rfl) (fun _ _ _ h => h) (Or.inl ⟨by rfl, ?_⟩) hS0 ?_
    rotate_left
    · intro w' hSw
      obtain ⟨q0, q1, q2, q3, q4, q5, q6, q7, x0, x1, x2, x3, x4, y0, y1, y2, f3, f4, _⟩ := hSw
      go_simp
      try with_reducible rfl
    try simp only [Act.put]
    try simp only [List.setIfInBounds_toArray]
    try simp only [List.set_cons_zero, List.set_cons_succ]
    refine wpAnyH_take (i := 7) (v := ?_) rfl (by kernel_rfl) (by kernel_rfl) (by kernel_rfl) (fun _ _ _ h => h) (Or.inl ⟨by rfl, ?_⟩) hS0 ?_
    rotate_left
    · intro w' hSw
      obtain ⟨q0, q1, q2, q3, q4, q5, q6, q7, x0, x1, x2, x3, x4, y0, y1, y2, f3, f4, _⟩ := hSw
      go_simp
      try with_reducible rfl
    try simp only [Act.put]
    try simp only [List.setIfInBounds_toArray]
    try simp only [List.set_cons_zero, List.set_cons_succ]
    refine wpAnyH_take (i := 8) (v := ?_) rfl (by kernel_rfl) (by kernel_rfl) (by kernel_rfl) (fun _ _ _ h => h) (Or.inl ⟨by rfl, ?_⟩) hS0 ?_
    rotate_left
    · intro w' hSw
      obtain ⟨q0, q1, q2, q3, q4, q5, q6, q7, x0, x1, x2, x3, x4, y0, y1, y2, f3, f4, _⟩ := hSw
      go_simp
      try with_reducible rfl
    try simp only [Act.put]
    try simp only [List.setIfInBounds_toArray]
    try simp only [List.set_cons_zero, List.set_cons_succ]
    refine wpAnyH_take (i := 9) (v := ?_) rfl (by kernel_rfl) (by kernel_rfl) (by kernel_rfl) (fun _ _ _ h => h) (Or.inl ⟨by rfl, ?_⟩) hS0 ?_
    rotate_left
    · intro w' hSw
      obtain ⟨q0, q1, q2, q3, q4, q5, q6, q7, x0, x1, x2, x3, x4, y0, y1, y2, f3, f4, _⟩ := hSw
      go_simp
      try with_reducible rfl
    try simp only [Act.put]
    try simp only [List.setIfInBounds_toArray]
    try simp only [List.set_cons_zero, List.set_cons_succ]
    refine wpAnyH_take (i := 10) (v := ?_) rfl (by kernel_rfl) (by kernel_rfl) (by kernel_rfl) (fun _ _ _ h => h) (Or.inl ⟨by rfl, ?_⟩) hS0 ?_
    rotate_left
    · intro w' hSw
      obtain ⟨q0, q1, q2, q3, q4, q5, q6, q7, x0, x1, x2, x3, x4, y0, y1, y2, f3, f4, _⟩ := hSw
      go_simp
      try with_reducible rfl
    try simp only [Act.put]
    try simp only [List.setIfInBounds_toArray]
    try simp only [List.set_cons_zero, List.set_cons_succ]
    refine wpAnyH_take (i := 11) (v := ?_) rfl (by kernel_rfl) (by kernel_rfl) (by kernel_rfl) (fun _ _ _ h => h) (Or.inl ⟨by rfl, ?_⟩) hS0 ?_
    rotate_left
    · intro w' hSw
      obtain ⟨q0, q1, q2, q3, q4, q5, q6, q7, x0, x1, x2, x3, x4, y0, y1, y2, f3, f4, _⟩ := hSw
      go_simp
      try with_reducible rfl
    try simp only [Act.put]
    try simp only [List.setIfInBounds_toArray]
    try simp only [List.set_cons_zero, List.set_cons_succ]
    refine wpAnyH_take (i := 12) (v := ?_) rfl (by kernel_rfl) (by kernel_rfl) (by kernel_rfl) (fun _ _ _ h => h) (Or.inl ⟨by rfl, ?_⟩) hS0 ?_
    rotate_left
    · intro w' hSw
      obtain ⟨q0, q1, q2, q3, q4, q5, q6, q7, x0, x1, x2, x3, x4, y0, y1, y2, f3, f4, _⟩ := hSw
      go_simp
      try with_reducible rfl
    try simp only [Act.put]
    try simp only [List.setIfInBounds_toArray]
    try simp only [List.set_cons_zero, List.set_cons_succ]
    refine wpAnyH_take (i := 13) (v := ?_) rfl (by kernel_rfl) (by kernel_rfl) (by kernel_rfl) (fun _ _ _ h => h) (Or.inl ⟨by rfl, ?_⟩) hS0 ?_
    rotate_left
    · intro w' hSw
      obtain ⟨q0, q1, q2, q3, q4, q5, q6, q7, x0, x1, x2, x3, x4, y0, y1, y2, f3, f4, _⟩ := hSw
      go_simp
      try with_reducible rfl
    try simp only [Act.put]
    try simp only [List.setIfInBounds_toArray]
    try simp only [List.set_cons_zero, List.set_cons_succ]
    refine wpAnyH_take (i := 14) (v := ?_) rfl (by kernel_rfl) (by kernel_rfl) (by kernel_rfl) (fun _ _ _ h => h) (Or.inl ⟨by rfl, ?_⟩) hS0 ?_
    rotate_left
    · intro w' hSw
      obtain ⟨q0, q1, q2, q3, q4, q5, q6, q7, x0, x1, x2, x3, x4, y0, y1, y2, f3, f4, _⟩ := hSw
      go_simp
      try with_reducible rfl
    try simp only [Act.put]
    try simp only [List.setIfInBounds_toArray]
    try simp only [List.set_cons_zero, List.set_cons_succ]
    refine wpAnyH_take (i := 15) (v := ?_) rfl (by kernel_rfl) (by kernel_rfl) (by kernel_rfl) (fun _ _ _ h => h) (Or.inl ⟨by rfl, ?_⟩) hS0 ?_
    rotate_left
    · intro w' hSw
      obtain ⟨q0, q1, q2, q3, q4, q5, q6, q7, x0, x1, x2, x3, x4, y0, y1, y2, f3, f4, _⟩ := hSw
      go_simp
      try with_reducible rfl
    try simp only [Act.put]
    try simp only [List.setIfInBounds_toArray]
    try simp only [List.set_cons_zero, List.set_cons_succ]
    refine wpAnyH_take (i := 16) (v := ?_) rfl (by kernel_rfl) (by kernel_rfl) (by kernel_rfl) (fun _ _ _ h => h) (Or.inl ⟨by rfl, ?_⟩) hS0 ?_
    rotate_left
    · intro w' hSw
      obtain ⟨q0, q1, q2, q3, q4, q5, q6, q7, x0, x1, x2, x3, x4, y0, y1, y2, f3, f4, _⟩ := hSw
      go_simp
      try with_reducible rfl
    try simp only [Act.put]
    try simp only [List.setIfInBounds_toArray]
    try simp only [List.set_cons_zero, List.set_cons_succ]
    (refine wpAnyH_ready (rs := [17, 20]) (by kernel_rfl) (by simp) ?_)
    refine AllReadyH.cons rfl (fun K hK => ?_) ?_
    · go_simp
      refine (shareUp_any _ _ _ HPB.out.1.1 HPB.out.1.2 HPB.out.2.1 HPB.out.2.2).mono ?_
      rintro e w6 ⟨rfl, rfl⟩
      rw [← HU2.out]
      go_wp2_with fail
      (refine hK.out _ _ (hS0) (fun hS1 => ?_); clear hK K)
      refine wpAnyH_take (i := 18) (v := ?_) rfl (by kernel_rfl) (by kernel_rfl) (by kernel_rfl) (fun _ _ _ h => h) (Or.inl ⟨by rfl, ?_⟩) hS1 ?_
      rotate_left
      · intro w' hSw
        obtain ⟨q0, q1, q2, q3, q4, q5, q6, q7, x0, x1, x2, x3, x4, y0, y1, y2, f3, f4, _⟩ := hSw
        go_simp
        try with_reducible rfl
      try simp only [Act.put]
      try simp only [List.setIfInBounds_toArray]
      try simp only [List.set_cons_zero, List.set_cons_succ]
      refine wpAnyH_take (i := 19) (v := ?_) rfl (by kernel_rfl) (by kernel_rfl) (by kernel_rfl) (fun _ _ _ h => h) (Or.inl ⟨by rfl, ?_⟩) hS1 ?_
      rotate_left
      · intro w' hSw
        obtain ⟨q0, q1, q2, q3, q4, q5, q6, q7, x0, x1, x2, x3, x4, y0, y1, y2, f3, f4, _⟩ := hSw
        go_simp
        try with_reducible rfl
      try simp only [Act.put]
      try simp only [List.setIfInBounds_toArray]
      try simp only [List.set_cons_zero, List.set_cons_succ]
      (refine wpAnyH_ready (rs := [20]) (by kernel_rfl) (by simp) ?_)
      refine AllReadyH.cons rfl (fun K hK => ?_) AllReadyH.nil
      go_simp
      (refine hK.out _ _ (hS1.keep ((Below.refl _ _).alloc (Nat.le_refl _) _)) (fun hS2 => ?_); clear hK K)
      refine wpAnyH_done (by kernel_rfl) ?_ _
      refine sink_last rfl (fun K hK => ?_)
      go_simp
      refine hK.out _ _ ?_
      clear hK K
      go_wp2_with fail
      go_meet
      exact ⟨_, rfl, hid ⟨hlt5, heap_alloc_new _ _⟩, hid (hS1.tk.keep ((Below.refl _ _).alloc (Nat.le_refl _) _))⟩
    · refine AllReadyH.cons rfl (fun K hK => ?_) AllReadyH.nil
      go_simp
      (refine hK.out _ _ (hS0.keep ((Below.refl _ _).alloc (Nat.le_refl _) _)) (fun hS1 => ?_); clear hK K)
      (refine wpAnyH_ready (rs := [17]) (by kernel_rfl) (by simp) ?_)
      refine AllReadyH.cons rfl (fun K hK => ?_) AllReadyH.nil
      go_simp
      refine (shareUp_any _ _ _ HPB.out.1.1 HPB.out.1.2 HPB.out.2.1 HPB.out.2.2).mono ?_
      rintro e w6 ⟨rfl, rfl⟩
      rw [← HU2.out]
      go_wp2_with fail
      (refine hK.out _ _ (hS1) (fun hS2 => ?_); clear hK K)
      refine wpAnyH_take (i := 18) (v := ?_) rfl (by kernel_rfl) (by kernel_rfl) (by kernel_rfl) (fun _ _ _ h => h) (Or.inl ⟨by rfl, ?_⟩) hS2 ?_
      rotate_left
      · intro w' hSw
        obtain ⟨q0, q1, q2, q3, q4, q5, q6, q7, x0, x1, x2, x3, x4, y0, y1, y2, f3, f4, _⟩ := hSw
        go_simp
        try with_reducible rfl
      try simp only [Act.put]
      try simp only [List.setIfInBounds_toArray]
      try simp only [List.set_cons_zero, List.set_cons_succ]
      refine wpAnyH_take (i := 19) (v := ?_) rfl (by kernel_rfl) (by kernel_rfl) (by kernel_rfl) (fun _ _ _ h => h) (Or.inl ⟨by rfl, ?_⟩) hS2 ?_
      rotate_left
      · intro w' hSw
        obtain ⟨q0, q1, q2, q3, q4, q5, q6, q7, x0, x1, x2, x3, x4, y0, y1, y2, f3, f4, _⟩ := hSw
        go_simp
        try with_reducible rfl
      try simp only [Act.put]
      try simp only [List.setIfInBounds_toArray]
      try simp only [List.set_cons_zero, List.set_cons_succ]
      refine wpAnyH_done (by kernel_rfl) ?_ _
      refine sink_last rfl (fun K hK => ?_)
      go_simp
      refine hK.out _ _ ?_
      clear hK K
      go_wp2_with fail
      go_meet
      exact ⟨_, rfl, hid ⟨hlt5, heap_alloc_new _ _⟩, hid (hS0.tk.keep ((Below.refl _ _).alloc (Nat.le_refl _) _))⟩
  case rest =>
    obtain ⟨b7, rfl, HB7, HT5⟩ := hcut
    clear q0 q1 q2 q3 q4 q5 q6 q7 x0 x1 x2 x3 x4 y0 y1 y2 f3 f4 HF4
    have HF5 := hid (rawF HT5.out)
    obtain ⟨q0, q1, q2, q3, q4, q5, q6, q7, x0, x1, x2, x3, x4, y0, y1, y2, f3, f4, _⟩ := HF5.out
    obtain ⟨ov, hov⟩ : ∃ b, b = ovB 1 (P st).s (P st).n T2 (g + 1) := ⟨_, rfl⟩
    have HOV := hid hov
    clear hov
    have hltb := lt_blk HT5.out.c
    have f0 := frozen_of_row _ _ 0 _ _ HT5.out.b
    have f2 := frozen_of_row _ _ 2 _ _ HT5.out.b
    go_upto_region 8 with (fail)
    have HT6 := hid (show Tk w _ #[.string s, .int .i64 h, .int .i64 c, .int .i64 v, .int .i64 p, .int .i64 ch, .slice (some ⟨b', o', none⟩) m pc, .slice qa n qc] #[.int .i64 (t + 1), .int .i64 st, .int .i64 (g + 1), .int .i64 T2, .int .i64 A2] #[.int .i64 0, .int .i64 0, .int .i64 0, .int .i64 0, .int .i64 0] #[.int .i64 0, .int .i64 0, .int .i64 0, .int .i64 0] #[.int .i64 1, .int .i64 (P st).s, .int .i64 (P st).n] from (HT5.out.setB 0 (.int .i64 (t + 1))).setB 2 (.int .i64 (g + 1)))
    have HB8 := hid (show ((wc.setCell ⟨w.heap.size + 1, 0, none⟩ (.int .i64 (t + 1))).setCell ⟨w.heap.size + 1, 2, none⟩ (.int .i64 (g + 1))).heap[b7]? = some (.cells #[.int .i64 st, .int .i64 T2, .int .i64 C2, .int .i64 B2] 74 (0, 0)) by
      have hne : b7 ≠ w.heap.size + 1 := by have := HB7.out.1; omega
      rw [heap_setCell_other _ _ _ _ (show b7 ≠ (⟨w.heap.size + 1, 2, none⟩ : Addr).block from hne), heap_setCell_other _ _ _ _ (show b7 ≠ (⟨w.heap.size + 1, 0, none⟩ : Addr).block from hne)]
      exact HB7.out.2)
    generalize World.setCell (World.setCell wc _ _) _ _ = W8 at HT6 HB8 ⊢
    clear q0 q1 q2 q3 q4 q5 q6 q7 x0 x1 x2 x3 x4 y0 y1 y2 f3 f4 f0 f2 hltb
    have HN7 := hid HB7.out.1
    clear HT5 HF5 HB7
    refine wp_region_held_drew (S := RawF w (.string s) (.int .i64 h) (.int .i64 c) (.int .i64 v) (.int .i64 p) (.int .i64 ch) (.slice (some ⟨b', o', none⟩) m pc) (.slice qa n qc) (.int .i64 (t + 1)) (.int .i64 st) (.int .i64 (g + 1)) (.int .i64 T2) (.int .i64 A2) (.int .i64 1) (.int .i64 (P st).s) (.int .i64 (P st).n) #[.int .i64 0, .int .i64 0, .int .i64 0, .int .i64 0, .int .i64 0] #[.int .i64 0, .int .i64 0, .int .i64 0, .int .i64 0]) (by kernel_rfl) (rawF HT6.out.drew) (fun hS0 => ?_)
    refine wpAnyH_take (i := 1) (v := ?_) rfl (by kernel_rfl) (by kernel_rfl) (by kernel_rfl) (fun _ _ _ h => h) (Or.inl ⟨by rfl, ?_⟩) hS0 ?_
    rotate_left
    · intro w' hSw
      obtain ⟨q0, q1, q2, q3, q4, q5, q6, q7, x0, x1, x2, x3, x4, y0, y1, y2, f3, f4, _⟩ := hSw
      go_simp
      try with_reducible rfl
    try simp only [Act.put]
    try simp only [List.setIfInBounds_toArray]
    try simp only [List.set_cons_zero, List.set_cons_succ]
    refine wpAnyH_take (i := 2) (v := ?_) rfl (by kernel_rfl) (by kernel_rfl) (by kernel_rfl) (fun _ _ _ h => h) (Or.inl ⟨by rfl, ?_⟩) hS0 ?_
    rotate_left
    · intro w' hSw
      obtain ⟨q0, q1, q2, q3, q4, q5, q6, q7, x0, x1, x2, x3, x4, y0, y1, y2, f3, f4, _⟩ := hSw
      go_simp
      try with_reducible rfl
    try simp only [Act.put]
    try simp only [List.setIfInBounds_toArray]
    try simp only [List.set_cons_zero, List.set_cons_succ]
    refine wpAnyH_take (i := 5) (v := ?_) rfl (by kernel_rfl) (by kernel_rfl) (by kernel_rfl) (fun _ _ _ h => h) (Or.inl ⟨by rfl, ?_⟩) hS0 ?_
    rotate_left
    · intro w' hSw
      obtain ⟨q0, q1, q2, q3, q4, q5, q6, q7, x0, x1, x2, x3, x4, y0, y1, y2, f3, f4, _⟩ := hSw
      go_simp
      try with_reducible rfl
    try simp only [Act.put]
    try simp only [List.setIfInBounds_toArray]
    try simp only [List.set_cons_zero, List.set_cons_succ]
    refine wpAnyH_take (i := 6) (v := ?_) rfl (by kernel_rfl) (by kernel_rfl) (by kernel_rfl) (fun _ _ _ h => h) (Or.inl ⟨by rfl, ?_⟩) hS0 ?_
    rotate_left
    · intro w' hSw
      obtain ⟨q0, q1, q2, q3, q4, q5, q6, q7, x0, x1, x2, x3, x4, y0, y1, y2, f3, f4, _⟩ := hSw
      go_simp
      try with_reducible rfl
    try simp only [Act.put]
    try simp only [List.setIfInBounds_toArray]
    try simp only [List.set_cons_zero, List.set_cons_succ]
    (refine wpAnyH_ready (rs := [0]) (by kernel_rfl) (by simp) ?_)
    refine AllReadyH.cons rfl (fun K hK => ?_) AllReadyH.nil
    go_simp
    refine (kinds_any _).mono ?_
    rintro e w2 ⟨hh, ll, rfl, gg1, gg2, hb⟩
    have kx := kind_at1 hh ll
    have ky := kind_over
    have HG := hid (And.intro gg1 gg2)
    have HB9 := hid ((hb.block b7 (lt_blk HB8.out)).trans HB8.out)
    clear gg1 gg2
    go_wp2_with fail
    (refine hK.out _ _ (hS0.keep hb) (fun hS1 => ?_); clear hK K)
    refine wpAnyH_take (i := 3) (v := ?_) rfl (by kernel_rfl) (by kernel_rfl) (by kernel_rfl) (fun _ _ _ h => h) (Or.inl ⟨by rfl, ?_⟩) hS1 ?_
    rotate_left
    · intro w' hSw
      obtain ⟨q0, q1, q2, q3, q4, q5, q6, q7, x0, x1, x2, x3, x4, y0, y1, y2, f3, f4, _⟩ := hSw
      go_simp
      try with_reducible rfl
    try simp only [Act.put]
    try simp only [List.setIfInBounds_toArray]
    try simp only [List.set_cons_zero, List.set_cons_succ]
    refine wpAnyH_take (i := 4) (v := ?_) rfl (by kernel_rfl) (by kernel_rfl) (by kernel_rfl) (fun _ _ _ h => h) (Or.inl ⟨by rfl, ?_⟩) hS1 ?_
    rotate_left
    · intro w' hSw
      obtain ⟨q0, q1, q2, q3, q4, q5, q6, q7, x0, x1, x2, x3, x4, y0, y1, y2, f3, f4, _⟩ := hSw
      go_simp
      try with_reducible rfl
    try simp only [Act.put]
    try simp only [List.setIfInBounds_toArray]
    try simp only [List.set_cons_zero, List.set_cons_succ]
    (refine wpAnyH_ready (rs := [7]) (by kernel_rfl) (by simp) ?_)
    refine AllReadyH.cons rfl (fun K hK => ?_) AllReadyH.nil
    go_simp
    refine (both_any _ _ _ _ _ _ _ _ _ _ _ HG.out.1 HG.out.2).mono ?_
    rintro e w10 ⟨rfl, hb10⟩
    rw [show (decide ((P st).s ≤ T2) && decide ((P st).n ≤ g + 1)) = ov from HOV.out.symm]
    have HB10 := hid ((hb10.block b7 (lt_blk HB9.out)).trans HB9.out)
    go_wp2_with fail
    (refine hK.out _ _ (hS1.keep hb10) (fun hS2 => ?_); clear hK K)
    refine wpAnyH_done (by kernel_rfl) ?_ _
    have HT10 := hid hS2.tk
    have HSIZE := hid (show w.heap.size + 1 + 1 + 1 + 1 < b7 from HN7.out)
    clear hS0 hS1 hS2 hb hb10 kx ky HG HB9 HB8 HT6
    cases ov
    · have HT11 := HT10
      have HB11 := HB10
      clear HT10 HB10
      go_upto_region 11 with (fail)
      have HF := hid (rawF HT11.out)
      obtain ⟨q0, q1, q2, q3, q4, q5, q6, q7, x0, x1, x2, x3, x4, y0, y1, y2, f3, f4, _⟩ := HF.out
      obtain ⟨⟨r0, r1, r2, r3, r4⟩, ⟨s0, s1, s2, s3⟩, fr, fs⟩ := tk_outs HT11.out
      have fr0 := fr 0; have fr1 := fr 1; have fr2 := fr 2; have fr3 := fr 3; have fr4 := fr 4
      have fs0 := fs 0; have fs1 := fs 1; have fs2 := fs 2; have fs3 := fs 3
      have j0 := cell_of_row _ _ 0 _ _ _ HB11.out
      have j1 := cell_of_row _ _ 1 _ _ _ HB11.out
      have j2 := cell_of_row _ _ 2 _ _ _ HB11.out
      have j3 := cell_of_row _ _ 3 _ _ _ HB11.out
      simp only [List.getElem?_toArray, List.getElem?_cons_zero, List.getElem?_cons_succ] at j0 j1 j2 j3
      clear fr fs HF
      have n1 : ¬ b7 = w.heap.size + 1 + 1 := by have := HSIZE.out; omega
      have n2 : ¬ w.heap.size + 1 + 1 = b7 := by have := HSIZE.out; omega
      have n3 : ¬ b7 = w.heap.size + 1 + 1 + 1 := by have := HSIZE.out; omega
      have n4 : ¬ w.heap.size + 1 + 1 + 1 = b7 := by have := HSIZE.out; omega
      go_region
      all_goals go_wp2_with fail
      obtain ⟨⟨k0, k1, k2, k3, k4⟩, ⟨l0, l1, l2, l3⟩, hl⟩ := tk_out (v0 := .int .i64 (t + 1)) (v1 := .int .i64 st) (v2 := .int .i64 (g + 1)) (v3 := .int .i64 T2) (v4 := .int .i64 A2) (u0 := .int .i64 st) (u1 := .int .i64 T2) (u2 := .int .i64 C2) (u3 := .int .i64 B2) HT11.out rfl
      unfold out9 at k0 k1 k2 k3 k4 l0 l1 l2 l3 hl
      have hT := hid (show T2 = tc + chN h c (aimK q t (P st).s n - tc) by rw [HT2.out, HX.out, HD.out, HA.out])
      clear r0 r1 r2 r3 r4 s0 s1 s2 s3 fr0 fr1 fr2 fr3 fr4 fs0 fs1 fs2 fs3 j0 j1 j2 j3 q0 q1 q2 q3 q4 q5 q6 q7 x0 x1 x2 x3 x4 y0 y1 y2 f3 f4 n1 n2 n3 n4
      refine bodyPost_ret (v := .tuple #[.agg #[.int .i64 (t + 1), .int .i64 st, .int .i64 (g + 1), .int .i64 T2, .int .i64 A2], .agg #[.int .i64 st, .int .i64 T2, .int .i64 C2, .int .i64 B2]]) (by simp [results, Try.results95, go_sem, k0, k1, k2, k3, k4, l0, l1, l2, l3]) rfl ⟨?_, hl.drew⟩
      rw [← hT.out, ← HA2.out, ← HOV.out, HB2.out, HU2.out, HC2.out]
      rfl
    · have f1 := frozen_of_row _ _ 1 _ _ HT10.out.b
      have f2 := frozen_of_row _ _ 2 _ _ HT10.out.b
      have HF := hid (rawF HT10.out)
      obtain ⟨q0, q1, q2, q3, q4, q5, q6, q7, x0, x1, x2, x3, x4, y0, y1, y2, f3, f4, _⟩ := HF.out
      have hstm : (st : Int) + 1 ≤ 9223372036854775807 := by omega
      go_upto_region 11 with (fail)
      have HT11 := hid (show Tk w _ #[.string s, .int .i64 h, .int .i64 c, .int .i64 v, .int .i64 p, .int .i64 ch, .slice (some ⟨b', o', none⟩) m pc, .slice qa n qc] #[.int .i64 (t + 1), .int .i64 (st + 1), .int .i64 0, .int .i64 T2, .int .i64 A2] #[.int .i64 0, .int .i64 0, .int .i64 0, .int .i64 0, .int .i64 0] #[.int .i64 0, .int .i64 0, .int .i64 0, .int .i64 0] #[.int .i64 1, .int .i64 (P st).s, .int .i64 (P st).n] from (HT10.out.setB 1 (.int .i64 (st + 1))).setB 2 (.int .i64 0))
      have HB11 := hid (show ((w10.setCell ⟨w.heap.size + 1, 1, none⟩ (.int .i64 (st + 1))).setCell ⟨w.heap.size + 1, 2, none⟩ (.int .i64 0)).heap[b7]? = some (.cells #[.int .i64 st, .int .i64 T2, .int .i64 C2, .int .i64 B2] 74 (0, 0)) by
        have hne : b7 ≠ w.heap.size + 1 := by have := HSIZE.out; omega
        rw [heap_setCell_other _ _ _ _ (show b7 ≠ (⟨w.heap.size + 1, 2, none⟩ : Addr).block from hne), heap_setCell_other _ _ _ _ (show b7 ≠ (⟨w.heap.size + 1, 1, none⟩ : Addr).block from hne)]
        exact HB10.out)
      clear q0 q1 q2 q3 q4 q5 q6 q7 x0 x1 x2 x3 x4 y0 y1 y2 f3 f4 f1 f2 HF HT10 HB10
      generalize World.setCell (World.setCell w10 _ _) _ _ = W11 at HT11 HB11 ⊢
      have HF := hid (rawF HT11.out)
      obtain ⟨q0, q1, q2, q3, q4, q5, q6, q7, x0, x1, x2, x3, x4, y0, y1, y2, f3, f4, _⟩ := HF.out
      obtain ⟨⟨r0, r1, r2, r3, r4⟩, ⟨s0, s1, s2, s3⟩, fr, fs⟩ := tk_outs HT11.out
      have fr0 := fr 0; have fr1 := fr 1; have fr2 := fr 2; have fr3 := fr 3; have fr4 := fr 4
      have fs0 := fs 0; have fs1 := fs 1; have fs2 := fs 2; have fs3 := fs 3
      have j0 := cell_of_row _ _ 0 _ _ _ HB11.out
      have j1 := cell_of_row _ _ 1 _ _ _ HB11.out
      have j2 := cell_of_row _ _ 2 _ _ _ HB11.out
      have j3 := cell_of_row _ _ 3 _ _ _ HB11.out
      simp only [List.getElem?_toArray, List.getElem?_cons_zero, List.getElem?_cons_succ] at j0 j1 j2 j3
      clear fr fs HF
      have n1 : ¬ b7 = w.heap.size + 1 + 1 := by have := HSIZE.out; omega
      have n2 : ¬ w.heap.size + 1 + 1 = b7 := by have := HSIZE.out; omega
      have n3 : ¬ b7 = w.heap.size + 1 + 1 + 1 := by have := HSIZE.out; omega
      have n4 : ¬ w.heap.size + 1 + 1 + 1 = b7 := by have := HSIZE.out; omega
      go_region
      all_goals go_wp2_with fail
      obtain ⟨⟨k0, k1, k2, k3, k4⟩, ⟨l0, l1, l2, l3⟩, hl⟩ := tk_out (v0 := .int .i64 (t + 1)) (v1 := .int .i64 ((st : Int) + 1)) (v2 := .int .i64 0) (v3 := .int .i64 T2) (v4 := .int .i64 A2) (u0 := .int .i64 st) (u1 := .int .i64 T2) (u2 := .int .i64 C2) (u3 := .int .i64 B2) HT11.out rfl
      unfold out9 at k0 k1 k2 k3 k4 l0 l1 l2 l3 hl
      have hT := hid (show T2 = tc + chN h c (aimK q t (P st).s n - tc) by rw [HT2.out, HX.out, HD.out, HA.out])
      clear r0 r1 r2 r3 r4 s0 s1 s2 s3 fr0 fr1 fr2 fr3 fr4 fs0 fs1 fs2 fs3 j0 j1 j2 j3 q0 q1 q2 q3 q4 q5 q6 q7 x0 x1 x2 x3 x4 y0 y1 y2 f3 f4 n1 n2 n3 n4
      refine bodyPost_ret (v := .tuple #[.agg #[.int .i64 (t + 1), .int .i64 ((st : Int) + 1), .int .i64 0, .int .i64 T2, .int .i64 A2], .agg #[.int .i64 st, .int .i64 T2, .int .i64 C2, .int .i64 B2]]) (by simp [results, Try.results95, go_sem, k0, k1, k2, k3, k4, l0, l1, l2, l3]) rfl ⟨?_, hl.drew⟩
      rw [← hT.out, ← HA2.out, ← HOV.out, HB2.out, HU2.out, HC2.out]
      rfl
end Go.Proofs.Ytpkcnojcklmhmaa
