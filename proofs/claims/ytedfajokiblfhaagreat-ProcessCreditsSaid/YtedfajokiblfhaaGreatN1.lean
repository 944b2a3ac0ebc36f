/- Texts of this seat, one behind the other. -/
import Derived.Test.YtedfajokiblfhaaGreatPcm
import Derived.Test.YtedfajokiblfhaaGreatV2
import Derived.Test.YtedfajokiblfhaaGreatPeg
/- Walks of cut, cut4, Credited: contracts. -/
namespace Go.Proofs.YtedfajokiblfhaaGreat
open Go.RowKit Go.Lib

def cutT (b : Int) : Int := if 200000 < (if b < -50000 then -50000 else b) then 200000 else (if b < -50000 then -50000 else b)
def cutL (l : List Int) : List Int := l.map cutT
theorem cutL_take (l : List Int) (k : Nat) (h : k < l.length) : cutL (l.take (k + 1)) = cutL (l.take k) ++ [cutT l[k]] := by
  unfold cutL
  rw [List.take_add_one, List.getElem?_eq_getElem h, List.map_append]
  rfl
theorem cutL_len (l : List Int) : (cutL l).length = l.length := by simp [cutL]
theorem cutT_ok (b : Int) : okT (cutT b) = true := by
  unfold cutT okT
  split <;> split <;> simp_all <;> omega
theorem cutL_ok (l : List Int) : okL (cutL l) = true := by
  unfold okL cutL
  rw [List.all_eq_true]
  intro x hx
  obtain ⟨b, _, rfl⟩ := List.mem_map.1 hx
  exact cutT_ok b
set_option maxRecDepth 20000 in
set_option maxHeartbeats 4000000 in
theorem cut_any (v : Value) (l : List Int) (w : World) (hl : RowI w v l) (hn : l.length ≤ 100000) :
    Calls Tryz.prog 66 #[v] w (NewI w (cutL l)) := by
  obtain ⟨a0, b', o', cap, rfl, ha, hc, _⟩ := hl.form
  have HC := hid (fun W (g : Below w.heap.size w W) j (hj : j < l.length) => keep_cell g (hc j hj))
  have HA := hid ha
  obtain ⟨i0, hi, hz0, hz1, hz2⟩ := info_parts infoQc
  clear hl ha hc
  go_enter Tryz.func66, Tryz.ntmps66
  go_wp2_with (at_make; refine wpList_make_own _ rfl _ _ 28 rfl w.heap.size 3 i0 (.int .i64 0) 1 Tryz.underlying28 hi hz0 hz1 _ _ _ l.length rfl rfl (by omega) (by rw [hz2]; omega) (by unfold maxLen; omega) (Nat.le_refl _) ?_; intro w0 hown0 hgrow0)
  have HR0 : Hid (w0.ownsRow w.heap.size 3 1 (.slice (some ⟨w.heap.size, 0, none⟩) 0 l.length) (ivs (cutL (l.take 0))).length (ivs (cutL (l.take 0)))) := hown0
  have HB0 := hid ((Below.refl _ w).grown hgrow0 (Nat.le_refl _) (fun j e => by cases e))
  clear hown0 hgrow0
  go_loopw [3, 11] (fun u t wr => ∃ k : Nat, k ≤ l.length ∧ t = .int .i64 (k : Int) ∧ Hid (wr.ownsRow w.heap.size 3 1 u (ivs (cutL (l.take k))).length (ivs (cutL (l.take k)))) ∧ Hid (Below w.heap.size w wr)) (fun _ t _ => l.length - (intOf t).toNat)
  case atStart => exact ⟨0, Nat.zero_le _, rfl, HR0, HB0⟩
  case round =>
    obtain ⟨k, hk, rfl, hO, hB⟩ := hrel
    obtain ⟨ua, uc, rfl⟩ := own_shapeP hO.out
    by_cases hlt : k < l.length
    · have hlt' : (k : Int) < l.length := by omega
      have haa : a0 = some ⟨b', o', none⟩ := HA.out.resolve_left (fun e => by rw [e] at hlt; simp at hlt)
      subst haa
      have ex := HC.out _ hB.out k hlt
      have HS := hid (cutL_take l k hlt)
      have HLN := hid (show (cutL (l.take k)).length ≤ 100000 by rw [cutL_len, List.length_take]; omega)
      have HLT := hid hlt
      have hct : Hid (cutT l[k] = if 200000 < (if l[k] < -50000 then -50000 else l[k]) then 200000 else (if l[k] < -50000 then -50000 else l[k])) := rfl
      generalize cutL (l.take k) = F at *
      generalize l[k] = x at *
      generalize hy : cutT x = y at *
      clear hlt hy
      go_wp2_with (at_builtin; (refine wpList_app rfl (.tmp 15) (.tmp 19) 28 rfl w.heap.size 3 i0 Tryz.underlying28 hi hz0 hz1 hz2 _ (ivs F) rfl (World.ownsRow.alloc hO.out _) _ [y] rfl (by rw [hct.out]; exact (one_row _ _ rfl).src) (by rw [ivs_len]; have := HLN.out; simp; omega) (by have := hB.out.size; simp; omega) ?_); intro v3 w6 hA1; have HB6 := hid (app_low (hB.out.alloc hB.out.size _) (World.ownsRow.alloc hO.out _) (Nat.le_refl _) hA1); have HO6 := hid (app_next hA1); obtain ⟨a3, c3, rfl⟩ := own_shapeP HO6.out; clear hA1)
      go_roundw
      case rel => exact ⟨k + 1, HLT.out, by go_num, by have h := HO6.out; rw [List.length_append, List.length_singleton] at h; rw [HS.out, ivs_len, List.length_append, List.length_singleton]; exact hid h, HB6⟩
      case measure => have := HLT.out; simp [intOf]; omega
    · obtain rfl : k = l.length := by omega
      rw [List.take_length] at hO ⊢
      go_wp2_with fail
      go_ret
      exact ⟨_, rfl, hO.out, hB.out⟩
theorem cutT_law (x : Int) : cutT x = if -50000 < (if 200000 < x then 200000 else x) then (if 200000 < x then 200000 else x) else -50000 := by
  unfold cutT
  split <;> split <;> split <;> omega

/-- What Credited hands back. -/
def crdL (r : Nat → Rt.Rd) (n : Nat) (e : Int) : List Int := cutL (Rt.credO r n e)
def crdE (vc vk : Bool) (t : Int) (n : Nat) (e : Int) : Int := if chk4 vc vk t [] = 0 then Rt.markE n e else chk4 vc vk t []
theorem chk4_cut {vc vk : Bool} {t : Int} {l : List Int} (h : l.length ≤ 2000) : chk4 vc vk t (cutL l) = chk4 vc vk t [] := by
  unfold chk4
  rw [cutL_ok, show okL [] = true from rfl, if_neg (show ¬ 2000 < (cutL l).length by rw [cutL_len]; omega), if_neg (show ¬ 2000 < ([] : List Int).length by simp)]
set_option maxRecDepth 100000 in
set_option maxHeartbeats 8000000 in
theorem cred_any (r l a b k a2 b2 : Int) (w : World) (q : Kl) (t : Int) (v : Value) (n : Nat) (r' : Nat → Rt.Rd) (e : Int) (hs : q.s.size ≤ maxLen) (hl : Rt.RowR w v n r') :
    Calls Tryz.prog 30 #[.agg #[.int .i64 r, .int .i64 l, .int .i64 a, .int .i64 b, .int .i64 k, .int .i64 a2, .int .i64 b2], .agg #[.string q.s, .int .i64 q.r, .int .i64 q.z, .int .i64 q.d, .int .i64 q.g], .int .i64 t, v, .int .i64 e] w fun x w' => x = .returned (.tuple #[.int .i64 (if crdE (canB r l a b k a2 b2) q.vB t n e = 0 then lowO (sumsO r l a b k a2 b2 q t (crdL r' n e)) else 0), .int .i64 (crdE (canB r l a b k a2 b2) q.vB t n e)]) ∧ Below w.heap.size w w' := by
  have HX := hid (box2_start (w := w) (A := #[.int .i64 r, .int .i64 l, .int .i64 a, .int .i64 b, .int .i64 k, .int .i64 a2, .int .i64 b2]) (B := #[.string q.s, .int .i64 q.r, .int .i64 q.z, .int .i64 q.d, .int .i64 q.g]) (T := 23) (T' := 25) (fz := (0, 0)) (fz' := (0, 0)))
  have HL := hid (fun w1 (g : Below w.heap.size w w1) => hl.keep g)
  obtain ⟨a0, cap, rfl⟩ := hl.shape
  have HC := hid (fun W => pcheck_any r l a b k a2 b2 W q t (.slice none 0 0) [] hs (.inl ⟨_, _, rfl, rfl⟩) (by simp))
  have HCR := hid (fun W h => Rt.credit_any (.slice a0 n cap) n e r' W h)
  have HLE := hid (fun W u (h : RowI W u (crdL r' n e)) => leth_any r l a b k a2 b2 W q t u (crdL r' n e) hs h h.most)
  have HZM := hid (fun h => (Rt.markE_zero (n := n) (e := e) h))
  have HCL := hid (fun (h : (Rt.credO r' n e).length ≤ 2000) => chk4_cut (vc := canB r l a b k a2 b2) (vk := q.vB) (t := t) h)
  generalize slowO (sumsO r l a b k a2 b2 q t (crdL r' n e)) = sl at *
  generalize lowO (sumsO r l a b k a2 b2 q t (crdL r' n e)) = lw at *
  clear hl
  by_cases hce : chk4 (canB r l a b k a2 b2) q.vB t [] = 0
  case neg =>
    have HE := hid (show crdE (canB r l a b k a2 b2) q.vB t n e = chk4 (canB r l a b k a2 b2) q.vB t [] by unfold crdE; rw [if_neg hce])
    generalize chk4 (canB r l a b k a2 b2) q.vB t [] = ce at *
    rw [HE.out, if_neg hce]
    have hc1 : (ce != 0) = true := by simpa using hce
    clear hce
    go_enter Tryz.func30, Tryz.ntmps30
    go_wp2_with fail
    refine (HC.out _).mono ?_
    rintro x w1 ⟨rfl, hb⟩
    have HX := hid (HX.out.keep hb)
    clear hb
    go_wp2_with fail
    go_ret2
    exact ⟨rfl, HX.out.low⟩
  have HE := hid (show crdE (canB r l a b k a2 b2) q.vB t n e = Rt.markE n e by unfold crdE; rw [if_pos hce])
  rw [hce] at HC
  rw [HE.out]
  by_cases hme : Rt.markE n e = 0
  case neg =>
    generalize Rt.markE n e = me at *
    rw [if_neg hme]
    have hc1 : (me != 0) = true := by simpa using hme
    clear hme hce
    go_enter Tryz.func30, Tryz.ntmps30
    go_wp2_with fail
    refine (HC.out _).mono ?_
    rintro x w1 ⟨rfl, hb⟩
    have HX := hid (HX.out.keep hb)
    clear hb
    go_wp2_with fail
    refine (HCR.out _ (HL.out _ HX.out.low)).mono ?_
    rintro x w2 ⟨u, rfl, hu, hb⟩
    have HX := hid (HX.out.keep hb)
    clear hb hu
    go_wp2_with fail
    go_ret2
    exact ⟨rfl, HX.out.low⟩
  rw [hme] at HCR ⊢
  rw [if_pos rfl]
  have hlc : (Rt.credO r' n e).length ≤ 2000 := by
    unfold Rt.credO
    rw [if_pos hme]
    unfold Rt.credL
    have := (HZM.out hme).1
    simp
    omega
  have hcc := HCL.out hlc
  rw [hce] at hcc
  rw [show cutL (Rt.credO r' n e) = crdL r' n e from rfl] at hcc
  rw [hcc] at HLE
  have HCU := hid (fun W u (h : RowI W u (Rt.credO r' n e)) => cut_any u (Rt.credO r' n e) W h (by omega))
  have HLN := hid (show (crdL r' n e).length ≤ 1000000 by unfold crdL; rw [cutL_len]; omega)
  clear hcc hlc hme hce HE HCL HZM
  go_enter Tryz.func30, Tryz.ntmps30
  go_wp2_with fail
  refine (HC.out _).mono ?_
  rintro x w1 ⟨rfl, hb⟩
  have HX := hid (HX.out.keep hb)
  clear hb
  go_wp2_with fail
  refine (HCR.out _ (HL.out _ HX.out.low)).mono ?_
  rintro x w2 ⟨u, rfl, hu, hb⟩
  have HX := hid (HX.out.keep hb)
  have HU := hid hu
  clear hb hu
  obtain ⟨ua, uc, rfl⟩ := HU.out.shape
  go_wp2_with fail
  have hmd : Hid (Below w2.heap.size w2 w2.drew) := (Below.refl _ w2).drew
  have HX := hid (HX.out.keep hmd.out)
  have HU := hid (HU.out.keep hmd.out)
  refine wp_region_held_drew (S := (fun w1 => w1.cell? ⟨w.heap.size, 0, none⟩ = some (.int .i64 r) ∧ w1.cell? ⟨w.heap.size, 1, none⟩ = some (.int .i64 l) ∧ w1.cell? ⟨w.heap.size, 2, none⟩ = some (.int .i64 a) ∧ w1.cell? ⟨w.heap.size, 3, none⟩ = some (.int .i64 b) ∧ w1.cell? ⟨w.heap.size, 4, none⟩ = some (.int .i64 k) ∧ w1.cell? ⟨w.heap.size, 5, none⟩ = some (.int .i64 a2) ∧ w1.cell? ⟨w.heap.size, 6, none⟩ = some (.int .i64 b2) ∧ w1.cell? ⟨w.heap.size + 1, 0, none⟩ = some (.string q.s) ∧ w1.cell? ⟨w.heap.size + 1, 1, none⟩ = some (.int .i64 q.r) ∧ w1.cell? ⟨w.heap.size + 1, 2, none⟩ = some (.int .i64 q.z) ∧ w1.cell? ⟨w.heap.size + 1, 3, none⟩ = some (.int .i64 q.d) ∧ w1.cell? ⟨w.heap.size + 1, 4, none⟩ = some (.int .i64 q.g))) (by kernel_rfl) ⟨HX.out.fst 0, HX.out.fst 1, HX.out.fst 2, HX.out.fst 3, HX.out.fst 4, HX.out.fst 5, HX.out.fst 6, HX.out.snd 0, HX.out.snd 1, HX.out.snd 2, HX.out.snd 3, HX.out.snd 4⟩ (fun hS0 => ?_)
  generalize w2.drew = W0 at *
  clear hmd
  refine wpAnyH_take (i := 0) (v := ?_) rfl (by kernel_rfl) (by kernel_rfl) (by kernel_rfl) (fun _ _ _ h => h) (Or.inl ⟨by rfl, ?_⟩) hS0 ?_
  rotate_left
  · intro w' hSw
    obtain ⟨q0, q1, q2, q3, q4, q5, q6, _⟩ := hSw
    go_simp
    try with_reducible rfl
  try simp only [Act.put]
  try simp only [List.setIfInBounds_toArray]
  try simp only [List.set_cons_zero, List.set_cons_succ]
  refine wpAnyH_take (i := 1) (v := ?_) rfl (by kernel_rfl) (by kernel_rfl) (by kernel_rfl) (fun _ _ _ h => h) (Or.inl ⟨by rfl, ?_⟩) hS0 ?_
  rotate_left
  · intro w' hSw
    obtain ⟨_, _, _, _, _, _, _, q0, q1, q2, q3, q4⟩ := hSw
    go_simp
    try with_reducible rfl
  try simp only [Act.put]
  try simp only [List.setIfInBounds_toArray]
  try simp only [List.set_cons_zero, List.set_cons_succ]
  refine wpAnyH_take (i := 2) (v := ?_) rfl (by kernel_rfl) (by kernel_rfl) (by kernel_rfl) (fun _ _ _ h => h) (Or.inl ⟨by rfl, ?_⟩) hS0 ?_
  rotate_left
  · intro w' hSw
    obtain _ := hSw
    go_simp
    try with_reducible rfl
  try simp only [Act.put]
  try simp only [List.setIfInBounds_toArray]
  try simp only [List.set_cons_zero, List.set_cons_succ]
  refine wpAnyH_take (i := 3) (v := ?_) rfl (by kernel_rfl) (by kernel_rfl) (by kernel_rfl) (fun _ _ _ h => h) (Or.inl ⟨by rfl, ?_⟩) hS0 ?_
  rotate_left
  · intro w' hSw
    obtain _ := hSw
    go_simp
    try with_reducible rfl
  try simp only [Act.put]
  try simp only [List.setIfInBounds_toArray]
  try simp only [List.set_cons_zero, List.set_cons_succ]
  (refine wpAnyH_ready (rs := [4]) (by kernel_rfl) (by simp) ?_)
  refine AllReadyH.cons rfl (fun K hK => ?_) AllReadyH.nil
  go_simp
  refine (HCU.out _ _ HU.out).mono ?_
  rintro x w5 ⟨u5, rfl, ho5, hb⟩
  have HR5 := hid (NewI.rowI ho5 HLN.out)
  have HX := hid (HX.out.keep hb)
  clear ho5 hb
  refine hK.out _ _ ⟨HX.out.fst 0, HX.out.fst 1, HX.out.fst 2, HX.out.fst 3, HX.out.fst 4, HX.out.fst 5, HX.out.fst 6, HX.out.snd 0, HX.out.snd 1, HX.out.snd 2, HX.out.snd 3, HX.out.snd 4⟩ (fun hS1 => ?_)
  clear hK K hS0
  (refine wpAnyH_ready (rs := [5]) (by kernel_rfl) (by simp) ?_)
  refine AllReadyH.cons rfl (fun K hK => ?_) AllReadyH.nil
  go_simp
  refine (HLE.out _ _ HR5.out).mono ?_
  rintro x w6 ⟨rfl, hb⟩
  have HX := hid (HX.out.keep hb)
  clear hb
  refine hK.out _ _ ⟨HX.out.fst 0, HX.out.fst 1, HX.out.fst 2, HX.out.fst 3, HX.out.fst 4, HX.out.fst 5, HX.out.fst 6, HX.out.snd 0, HX.out.snd 1, HX.out.snd 2, HX.out.snd 3, HX.out.snd 4⟩ (fun hS2 => ?_)
  clear hK K hS1
  refine wpAnyH_take (i := 6) (v := ?_) rfl (by kernel_rfl) (by kernel_rfl) (by kernel_rfl) (fun _ _ _ h => h) (Or.inl ⟨by rfl, ?_⟩) hS2 ?_
  rotate_left
  · intro w' hSw
    obtain _ := hSw
    go_simp
    try with_reducible rfl
  try simp only [Act.put]
  try simp only [List.setIfInBounds_toArray]
  try simp only [List.set_cons_zero, List.set_cons_succ]
  refine wpAnyH_take (i := 7) (v := ?_) rfl (by kernel_rfl) (by kernel_rfl) (by kernel_rfl) (fun _ _ _ h => h) (Or.inl ⟨by rfl, ?_⟩) hS2 ?_
  rotate_left
  · intro w' hSw
    obtain _ := hSw
    go_simp
    try with_reducible rfl
  try simp only [Act.put]
  try simp only [List.setIfInBounds_toArray]
  try simp only [List.set_cons_zero, List.set_cons_succ]
  refine wpAnyH_take (i := 8) (v := ?_) rfl (by kernel_rfl) (by kernel_rfl) (by kernel_rfl) (fun _ _ _ h => h) (Or.inl ⟨by rfl, ?_⟩) hS2 ?_
  rotate_left
  · intro w' hSw
    obtain _ := hSw
    go_simp
    try with_reducible rfl
  try simp only [Act.put]
  try simp only [List.setIfInBounds_toArray]
  try simp only [List.set_cons_zero, List.set_cons_succ]
  refine wpAnyH_take (i := 9) (v := ?_) rfl (by kernel_rfl) (by kernel_rfl) (by kernel_rfl) (fun _ _ _ h => h) (Or.inl ⟨by rfl, ?_⟩) hS2 ?_
  rotate_left
  · intro w' hSw
    obtain _ := hSw
    go_simp
    try with_reducible rfl
  try simp only [Act.put]
  try simp only [List.setIfInBounds_toArray]
  try simp only [List.set_cons_zero, List.set_cons_succ]
  refine wpAnyH_take (i := 10) (v := ?_) rfl (by kernel_rfl) (by kernel_rfl) (by kernel_rfl) (fun _ _ _ h => h) (Or.inl ⟨by rfl, ?_⟩) hS2 ?_
  rotate_left
  · intro w' hSw
    obtain _ := hSw
    go_simp
    try with_reducible rfl
  try simp only [Act.put]
  try simp only [List.setIfInBounds_toArray]
  try simp only [List.set_cons_zero, List.set_cons_succ]
  refine wpAnyH_take (i := 11) (v := ?_) rfl (by kernel_rfl) (by kernel_rfl) (by kernel_rfl) (fun _ _ _ h => h) (Or.inl ⟨by rfl, ?_⟩) hS2 ?_
  rotate_left
  · intro w' hSw
    obtain _ := hSw
    go_simp
    try with_reducible rfl
  try simp only [Act.put]
  try simp only [List.setIfInBounds_toArray]
  try simp only [List.set_cons_zero, List.set_cons_succ]
  refine wpAnyH_take (i := 12) (v := ?_) rfl (by kernel_rfl) (by kernel_rfl) (by kernel_rfl) (fun _ _ _ h => h) (Or.inl ⟨by rfl, ?_⟩) hS2 ?_
  rotate_left
  · intro w' hSw
    obtain _ := hSw
    go_simp
    try with_reducible rfl
  try simp only [Act.put]
  try simp only [List.setIfInBounds_toArray]
  try simp only [List.set_cons_zero, List.set_cons_succ]
  refine wpAnyH_done (by kernel_rfl) ?_ _
  go_wp2_with fail
  go_ret2
  exact ⟨rfl, HX.out.low⟩
end Go.Proofs.YtedfajokiblfhaaGreat

/- Walks of the reference's bounded, Credited: contracts. -/
namespace Go.Proofs.YtedfajokiblfhaaGreat
open Go.RowKit Go.Lib

theorem cutT_lo {x : Int} (h : x < -50000) : cutT x = -50000 := by unfold cutT; rw [if_pos h]; simp
theorem cutT_mid {x : Int} (h : ¬ x < -50000) (g : ¬ 200000 < x) : cutT x = x := by unfold cutT; rw [if_neg h, if_neg g]
theorem cutT_hi {x : Int} (h : ¬ x < -50000) (g : 200000 < x) : cutT x = 200000 := by unfold cutT; rw [if_neg h, if_pos g]
set_option maxRecDepth 20000 in
set_option maxHeartbeats 4000000 in
theorem xbounded_any (v : Value) (l : List Int) (w : World) (hl : RowI w v l) (hn : l.length ≤ 100000) :
    Calls Tryz.prog 67 #[v] w (NewI w (cutL l)) := by
  obtain ⟨a0, b', o', cap, rfl, ha, hc, _⟩ := hl.form
  have HC := hid (fun W (g : Below w.heap.size w W) j (hj : j < l.length) => keep_cell g (hc j hj))
  have HA := hid ha
  obtain ⟨i0, hi, hz0, hz1, hz2⟩ := info_parts infoQc
  clear hl ha hc
  have HR0 : Hid (w.ownsRow w.heap.size 3 1 (.slice none 0 0) (ivs (cutL (l.take 0))).length (ivs (cutL (l.take 0)))) := World.ownsRow_nil _ _ _ _
  have HB0 := hid (Below.refl w.heap.size w)
  go_enter Tryz.func67, Tryz.ntmps67
  go_wp2_with fail
  go_loopw [3, 4] (fun u t wr => ∃ k : Nat, k ≤ l.length ∧ t = .int .i64 (k : Int) ∧ Hid (wr.ownsRow w.heap.size 3 1 u (ivs (cutL (l.take k))).length (ivs (cutL (l.take k)))) ∧ Hid (Below w.heap.size w wr)) (fun _ t _ => l.length - (intOf t).toNat)
  case atStart => exact ⟨0, Nat.zero_le _, rfl, HR0, HB0⟩
  case round =>
    obtain ⟨k, hk, rfl, hO, hB⟩ := hrel
    obtain ⟨ua, uc, rfl⟩ := own_shapeP hO.out
    by_cases hlt : k < l.length
    · have hlt' : (k : Int) < l.length := by omega
      have haa : a0 = some ⟨b', o', none⟩ := HA.out.resolve_left (fun e => by rw [e] at hlt; simp at hlt)
      subst haa
      have ex := HC.out _ hB.out k hlt
      have HS := hid (cutL_take l k hlt)
      have HLN := hid (show (cutL (l.take k)).length ≤ 100000 by rw [cutL_len, List.length_take]; omega)
      have HLT := hid hlt
      generalize cutL (l.take k) = F at *
      generalize l[k] = x at *
      clear hlt
      by_cases c1 : x < -50000
      · rw [cutT_lo c1] at HS
        go_wp2_with (at_builtin; (refine wpList_app rfl (.tmp 20) (.tmp 22) 28 rfl w.heap.size 3 i0 Tryz.underlying28 hi hz0 hz1 hz2 _ (ivs F) rfl (World.ownsRow.alloc hO.out _) _ [(-50000 : Int)] rfl (by exact (one_row _ _ rfl).src) (by rw [ivs_len]; have := HLN.out; simp; omega) (by have := hB.out.size; simp; omega) ?_); intro v3 w6 hA1; have HB6 := hid (app_low (hB.out.alloc hB.out.size _) (World.ownsRow.alloc hO.out _) (Nat.le_refl _) hA1); have HO6 := hid (app_next hA1); obtain ⟨a3, c3, rfl⟩ := own_shapeP HO6.out; clear hA1)
        go_roundw
        case rel => exact ⟨k + 1, HLT.out, by go_num, by have h := HO6.out; rw [List.length_append, List.length_singleton] at h; rw [HS.out, ivs_len, List.length_append, List.length_singleton]; exact hid h, HB6⟩
        case measure => have := HLT.out; simp [intOf]; omega
      · by_cases c2 : 200000 < x
        · rw [cutT_hi c1 c2] at HS
          go_wp2_with (at_builtin; (refine wpList_app rfl (.tmp 20) (.tmp 22) 28 rfl w.heap.size 3 i0 Tryz.underlying28 hi hz0 hz1 hz2 _ (ivs F) rfl (World.ownsRow.alloc hO.out _) _ [(200000 : Int)] rfl (by exact (one_row _ _ rfl).src) (by rw [ivs_len]; have := HLN.out; simp; omega) (by have := hB.out.size; simp; omega) ?_); intro v3 w6 hA1; have HB6 := hid (app_low (hB.out.alloc hB.out.size _) (World.ownsRow.alloc hO.out _) (Nat.le_refl _) hA1); have HO6 := hid (app_next hA1); obtain ⟨a3, c3, rfl⟩ := own_shapeP HO6.out; clear hA1)
          go_roundw
          case rel => exact ⟨k + 1, HLT.out, by go_num, by have h := HO6.out; rw [List.length_append, List.length_singleton] at h; rw [HS.out, ivs_len, List.length_append, List.length_singleton]; exact hid h, HB6⟩
          case measure => have := HLT.out; simp [intOf]; omega
        · rw [cutT_mid c1 c2] at HS
          go_wp2_with (at_builtin; (refine wpList_app rfl (.tmp 20) (.tmp 22) 28 rfl w.heap.size 3 i0 Tryz.underlying28 hi hz0 hz1 hz2 _ (ivs F) rfl (World.ownsRow.alloc hO.out _) _ [(x : Int)] rfl (by exact (one_row _ _ rfl).src) (by rw [ivs_len]; have := HLN.out; simp; omega) (by have := hB.out.size; simp; omega) ?_); intro v3 w6 hA1; have HB6 := hid (app_low (hB.out.alloc hB.out.size _) (World.ownsRow.alloc hO.out _) (Nat.le_refl _) hA1); have HO6 := hid (app_next hA1); obtain ⟨a3, c3, rfl⟩ := own_shapeP HO6.out; clear hA1)
          go_roundw
          case rel => exact ⟨k + 1, HLT.out, by go_num, by have h := HO6.out; rw [List.length_append, List.length_singleton] at h; rw [HS.out, ivs_len, List.length_append, List.length_singleton]; exact hid h, HB6⟩
          case measure => have := HLT.out; simp [intOf]; omega
    · obtain rfl : k = l.length := by omega
      rw [List.take_length] at hO ⊢
      go_wp2_with fail
      go_ret
      exact ⟨_, rfl, hO.out, hB.out⟩
set_option maxRecDepth 100000 in
set_option maxHeartbeats 8000000 in
theorem xcred_any (r l a b k a2 b2 : Int) (w : World) (q : Kl) (t : Int) (v : Value) (n : Nat) (r' : Nat → Rt.Rd) (e : Int) (hs : q.s.size ≤ maxLen) (hl : Rt.RowR w v n r') :
    Calls Tryz.prog 31 #[.agg #[.int .i64 r, .int .i64 l, .int .i64 a, .int .i64 b, .int .i64 k, .int .i64 a2, .int .i64 b2], .agg #[.string q.s, .int .i64 q.r, .int .i64 q.z, .int .i64 q.d, .int .i64 q.g], .int .i64 t, v, .int .i64 e] w fun x w' => x = .returned (.tuple #[.int .i64 (if crdE (canB r l a b k a2 b2) q.vB t n e = 0 then lowO (sumsO r l a b k a2 b2 q t (crdL r' n e)) else 0), .int .i64 (crdE (canB r l a b k a2 b2) q.vB t n e)]) ∧ Below w.heap.size w w' := by
  have HX := hid (box2_start (w := w) (A := #[.int .i64 r, .int .i64 l, .int .i64 a, .int .i64 b, .int .i64 k, .int .i64 a2, .int .i64 b2]) (B := #[.string q.s, .int .i64 q.r, .int .i64 q.z, .int .i64 q.d, .int .i64 q.g]) (T := 23) (T' := 25) (fz := (0, 0)) (fz' := (0, 0)))
  have HL := hid (fun w1 (g : Below w.heap.size w w1) => hl.keep g)
  obtain ⟨a0, cap, rfl⟩ := hl.shape
  have HC := hid (fun W => xasked_any r l a b k a2 b2 W q t (.slice none 0 0) [] hs (.inl ⟨_, _, rfl, rfl⟩) (by simp))
  have HCR := hid (fun W h => Rt.xcredit_any (.slice a0 n cap) n e r' W h)
  have HZM := hid (fun h => (Rt.markE_zero (n := n) (e := e) h))
  have HCL := hid (fun (h : (Rt.credO r' n e).length ≤ 2000) => chk4_cut (vc := canB r l a b k a2 b2) (vk := q.vB) (t := t) h)
  have HS := hid hs
  clear hl hs
  by_cases hce : chk4 (canB r l a b k a2 b2) q.vB t [] = 0
  case neg =>
    have HE := hid (show crdE (canB r l a b k a2 b2) q.vB t n e = chk4 (canB r l a b k a2 b2) q.vB t [] by unfold crdE; rw [if_neg hce])
    generalize chk4 (canB r l a b k a2 b2) q.vB t [] = ce at *
    rw [HE.out, if_neg hce]
    have hc1 : (ce != 0) = true := by simpa using hce
    clear hce
    go_enter Tryz.func31, Tryz.ntmps31
    go_wp2_with fail
    refine (HC.out _).mono ?_
    rintro x w1 ⟨rfl, hb⟩
    have HX := hid (HX.out.keep hb)
    clear hb
    go_wp2_with fail
    go_ret2
    exact ⟨rfl, HX.out.low⟩
  have HE := hid (show crdE (canB r l a b k a2 b2) q.vB t n e = Rt.markE n e by unfold crdE; rw [if_pos hce])
  rw [hce] at HC
  rw [HE.out]
  by_cases hme : Rt.markE n e = 0
  case neg =>
    generalize Rt.markE n e = me at *
    rw [if_neg hme]
    have hc1 : (me != 0) = true := by simpa using hme
    clear hme hce
    go_enter Tryz.func31, Tryz.ntmps31
    go_wp2_with fail
    refine (HC.out _).mono ?_
    rintro x w1 ⟨rfl, hb⟩
    have HX := hid (HX.out.keep hb)
    clear hb
    go_wp2_with fail
    refine (HCR.out _ (HL.out _ HX.out.low)).mono ?_
    rintro x w2 ⟨u, rfl, hu, hb⟩
    have HX := hid (HX.out.keep hb)
    clear hb hu
    go_wp2_with fail
    go_ret2
    exact ⟨rfl, HX.out.low⟩
  rw [hme] at HCR ⊢
  rw [if_pos rfl]
  have hlc : (Rt.credO r' n e).length ≤ 2000 := by
    unfold Rt.credO
    rw [if_pos hme]
    unfold Rt.credL
    have := (HZM.out hme).1
    simp
    omega
  have hcc := HCL.out hlc
  rw [hce] at hcc
  rw [show cutL (Rt.credO r' n e) = crdL r' n e from rfl] at hcc
  obtain ⟨cn, Z, hcv, rfl, rfl, rfl, rfl, rfl, rfl, rfl, hz, hv, ho, hop, hlen⟩ := canB_open hcc
  have HSE := hid (sumsO_cn hz hcc)
  have HNE := hid (show sumsO cn.R cn.L cn.A cn.B cn.K cn.A2 cn.B2 q t (crdL r' n e) ≠ [] from fun h => by
    obtain ⟨h1, h2, _⟩ := sumsO_len hcc
    rw [h] at h1; simp at h1; omega)
  have HCU := hid (fun W u (h : RowI W u (Rt.credO r' n e)) => xbounded_any u (Rt.credO r' n e) W h (by omega))
  have HLN := hid (show (crdL r' n e).length ≤ 1000000 by unfold crdL; rw [cutL_len]; omega)
  have HBG := hid (fun W => xbegun_any cn q.s q.r q.d q.g t Z W HS.out hcv)
  have HTH := hid (fun (K : Kq) (hV : K.V) v xa xc da dc ua uc W hR hK h => xthrough_any cn K (rs0 cn t) v (crdL r' n e) xa xc da dc ua uc W hcv.ok hV (rs0_good ho) hop hR hK h (by omega))
  have HVV := hid hv
  have HGD := hid (fun K : Kq => (rs0_good ho).run (f := K.f) (g := K.u) hcv.ok hop)
  have HPB := hid hcv.ok.p
  have HLO := hid (show lowO (sumsO cn.R cn.L cn.A cn.B cn.K cn.A2 cn.B2 q t (crdL r' n e)) = minA (ivN (sumsO cn.R cn.L cn.A cn.B cn.K cn.A2 cn.B2 q t (crdL r' n e))) by unfold lowO; rw [if_neg HNE.out])
  rw [HLO.out, HSE.out]
  rw [hz]

  rw [hz] at HC HX
  clear hcc hlc hme hce HE HCL HZM hcv hv ho hop hlen HNE HLO hz
  go_enter Tryz.func31, Tryz.ntmps31
  go_wp2_with fail
  refine (HC.out _).mono ?_
  rintro x w1 ⟨rfl, hb⟩
  have HX := hid (HX.out.keep hb)
  clear hb
  go_wp2_with fail
  refine (HCR.out _ (HL.out _ HX.out.low)).mono ?_
  rintro x w2 ⟨u, rfl, hu, hb⟩
  have HX := hid (HX.out.keep hb)
  have HU := hid hu
  clear hb hu
  obtain ⟨ua0, uc0, rfl⟩ := HU.out.shape
  have t0 := HX.out.fst 0; have t1 := HX.out.fst 1; have t2 := HX.out.fst 2; have t3 := HX.out.fst 3; have t4 := HX.out.fst 4; have t5 := HX.out.fst 5; have t6 := HX.out.fst 6
  have x0 := HX.out.snd 0; have x1 := HX.out.snd 1; have x2 := HX.out.snd 2; have x3 := HX.out.snd 3; have x4 := HX.out.snd 4
  simp only [List.getElem?_toArray, List.getElem?_cons_zero, List.getElem?_cons_succ] at t0 t1 t2 t3 t4 t5 t6 x0 x1 x2 x3 x4
  go_wp2_with fail
  refine (HBG.out _).mono ?_
  rintro x w3 ⟨K, he, hwF, hb, hwb, xa, xc, da, dc, ua, uc, rfl, hrows, hk, hst⟩
  have HX3 := hid (HX.out.keep hb)
  have HU3 := hid (HU.out.keep hb)
  have hlt := Kq.lt hk
  have HK3 := hid (And.intro (show K.gD < w3.heap.size from hlt.2.1) (show K.gU < w3.heap.size from hlt.2.2.1))
  have HRW := hid hrows
  have HKK := hid hk
  have HEQ := hid he
  have HWF := hid hwF
  clear hb hwb hlt hrows hk hst he hwF t0 t1 t2 t3 t4 t5 t6 x0 x1 x2 x3 x4
  go_wp2_with fail
  refine (HCU.out _ _ HU3.out).mono ?_
  rintro x w4 ⟨u4, rfl, ho4, hb⟩
  have HX4 := hid (HX3.out.keep hb)
  have HK4 := hid (Kq.below HKK.out hb)
  have HR4 := hid (HRW.out.still (Lt.Still.below hb))
  obtain ⟨a4, c4, rfl⟩ := own_shapeP ho4
  have HB4 := hid (rowK_from (gD := K.gD) (gU := K.gU) (NewI.rowI ho4 HLN.out) (own_from ho4) HK3.out.1 HK3.out.2)
  clear hb ho4
  go_wp2_with fail
  refine (HTH.out K (kq_V HEQ.out HVV.out) _ xa xc da dc ua uc _ HR4.out HK4.out HB4.out).mono ?_
  rintro x w5 ⟨ya, yc, ea, ec, ga, gc, rfl, hr2, hk2, hs2⟩
  have hlow := Kq.low hk2
  rw [HWF.out] at hlow
  have HX5 := hid (HX.out.keep hlow)
  have HR5 := hid hr2
  have HSM := hid (rs_sums (c := cn) (t := t) (crdL r' n e) HEQ.out)
  clear hlow hr2 hk2 hs2
  have HLN5 := hid (show (rsR cn K.f K.u (rs0 cn t) (crdL r' n e)).d.length = cn.P from (HGD.out K).down.len)
  go_wp2_with fail
  refine (xslow_any cn K (rsR cn K.f K.u (rs0 cn t) (crdL r' n e)) ya yc ea ec ga gc _ HR5.out.td.row (by rw [HLN5.out]; exact HPB.out.1) (by rw [HLN5.out]; have := HPB.out.2; omega)).mono ?_
  rintro x w6 ⟨rfl, hb⟩
  have HX6 := hid (HX5.out.keep hb)
  clear hb
  rw [HSM.out]
  go_wp2_with fail
  go_ret2
  exact ⟨rfl, HX6.out.low⟩
end Go.Proofs.YtedfajokiblfhaaGreat
