/- Texts of this seat, one behind the other. -/
import Derived.Test.YtihbjimnjhfpeaaGreatG14
import Derived.Test.YtihbjimnjhfpeaaGreatG11
/- Walks of the rates of package lethal: down, up: contracts. -/
namespace Go.Proofs.YtihbjimnjhfpeaaGreat.Lt
open Go.RowKit Go.Lib Go.Maps

theorem kbox6_keep {b : Nat} {w W w2 : World} {c0 c1 c2 c3 c4 c5 : Value} (hb : Below W.heap.size W w2)
    (h : W.cell? ⟨b, 0, none⟩ = some c0 ∧ W.cell? ⟨b, 1, none⟩ = some c1 ∧ W.cell? ⟨b, 2, none⟩ = some c2 ∧ W.cell? ⟨b, 3, none⟩ = some c3 ∧ W.cell? ⟨b, 4, none⟩ = some c4 ∧ W.cell? ⟨b, 5, none⟩ = some c5 ∧ b < W.heap.size ∧ Below w.heap.size w W) :
    w2.cell? ⟨b, 0, none⟩ = some c0 ∧ w2.cell? ⟨b, 1, none⟩ = some c1 ∧ w2.cell? ⟨b, 2, none⟩ = some c2 ∧ w2.cell? ⟨b, 3, none⟩ = some c3 ∧ w2.cell? ⟨b, 4, none⟩ = some c4 ∧ w2.cell? ⟨b, 5, none⟩ = some c5 ∧ b < w2.heap.size ∧ Below w.heap.size w w2 := by
  obtain ⟨h0, h1, h2, h3, h4, h5, h6, h7⟩ := h
  exact ⟨keep_cell hb h0, keep_cell hb h1, keep_cell hb h2, keep_cell hb h3, keep_cell hb h4, keep_cell hb h5, Nat.lt_of_lt_of_le h6 hb.size, h7.trans (hb.mono h7.size)⟩
theorem box6_new {w : World} {c0 c1 c2 c3 c4 c5 : Value} {T : TypeId} :
    (w.alloc (.cells #[c0, c1, c2, c3, c4, c5] T)).drew.cell? ⟨w.heap.size, 0, none⟩ = some c0 ∧ (w.alloc (.cells #[c0, c1, c2, c3, c4, c5] T)).drew.cell? ⟨w.heap.size, 1, none⟩ = some c1 ∧ (w.alloc (.cells #[c0, c1, c2, c3, c4, c5] T)).drew.cell? ⟨w.heap.size, 2, none⟩ = some c2 ∧ (w.alloc (.cells #[c0, c1, c2, c3, c4, c5] T)).drew.cell? ⟨w.heap.size, 3, none⟩ = some c3 ∧ (w.alloc (.cells #[c0, c1, c2, c3, c4, c5] T)).drew.cell? ⟨w.heap.size, 4, none⟩ = some c4 ∧ (w.alloc (.cells #[c0, c1, c2, c3, c4, c5] T)).drew.cell? ⟨w.heap.size, 5, none⟩ = some c5 ∧ w.heap.size < (w.alloc (.cells #[c0, c1, c2, c3, c4, c5] T)).drew.heap.size ∧ Below w.heap.size w (w.alloc (.cells #[c0, c1, c2, c3, c4, c5] T)).drew := by
  obtain ⟨h0, h1, h2, h3, h4, h5, h6, h7⟩ := box6_below (Below.refl _ (w.alloc (.cells #[c0, c1, c2, c3, c4, c5] T)))
  exact ⟨h0, h1, h2, h3, h4, h5, h6, h7.drew⟩
theorem MapI.mono {r : Int} {Z : Nat} {w : World} {b n : Nat} (h : MapI r Z w b n) : MapI r Z w b (n + 1) := by
  obtain ⟨D, h1, h2⟩ := h
  exact ⟨D, h1.mono (Nat.le_succ _), h2⟩

set_option maxHeartbeats 2000000 in
theorem down_any (s : ByteArray) (r d g t : Int) (Z mb n : Nat) (w : World) (hr1 : -200 ≤ r) (hr2 : r ≤ 800) (hz1 : 1 ≤ Z) (hz2 : Z ≤ 60) (ht1 : -100000 ≤ t) (ht2 : t ≤ 100000) (hn : n ≤ 1000000000) (hM : MapI r Z w mb n) :
    Calls Tryz.prog 144 #[.agg #[.string s, .int .i64 r, .int .i64 Z, .int .i64 d, .int .i64 g, .map (some mb)], .int .i64 t] w (RateP (Pm.rateD r Z t) r Z mb n w) := by
  have hx1 := Pm.expo_le r Z t
  have hx2 : -200000 ≤ Pm.expo r Z t := by unfold Pm.expo; omega
  obtain ⟨E, hE⟩ : ∃ E, E = Pm.expo r Z t := ⟨_, rfl⟩
  have HE := hid hE
  rw [← hE] at hx1 hx2
  clear hE
  have HM := hid hM; clear hM
  by_cases h0 : E < 0
  · have hr := hid (Pm.rateD_neg (r := r) (z := Z) (t := t) (by rw [← HE.out]; exact h0))
    go_enter Tryz.func144, Tryz.ntmps144
    go_wp2
    go_region_held3 (fun w' => w'.cell? ⟨w.heap.size, 0, none⟩ = some (.string s) ∧ w'.cell? ⟨w.heap.size, 1, none⟩ = some (.int .i64 r) ∧ w'.cell? ⟨w.heap.size, 2, none⟩ = some (.int .i64 Z) ∧ w'.cell? ⟨w.heap.size, 3, none⟩ = some (.int .i64 d) ∧ w'.cell? ⟨w.heap.size, 4, none⟩ = some (.int .i64 g) ∧ w'.cell? ⟨w.heap.size, 5, none⟩ = some (.map (some mb)) ∧ w.heap.size < w'.heap.size ∧ Below w.heap.size w w') (first | exact box6_new | exact kbox6_keep (by assumption) (by assumption)) (first | (go_at_call 143; refine (exponent_any _ _ _ _ _ _ _ _ hr1 hr2 (by omega) (by omega) ht1 ht2).mono ?_; rintro e w1 ⟨rfl, hb⟩; rw [← HE.out]))
    rename_i hq
    obtain ⟨q0, q1, q2, q3, q4, q5, q6, q7⟩ := hq
    go_wp2
    go_ret
    exact ⟨ret_int (by rw [hr.out]; rfl), gbelow q7, (HM.out.below q7).mono⟩
  · obtain ⟨N, rfl⟩ := Int.eq_ofNat_of_zero_le (show 0 ≤ E by omega)
    have hN : (Pm.expo r Z t).toNat = N := by rw [← HE.out]; rfl
    have hneg : ¬ Pm.expo r Z t < 0 := by rw [← HE.out]; exact h0
    have HQ : Hid ((N : Int) / Z = ((N / Z : Nat) : Int)) := by unfold Hid; omega
    have HR : Hid ((N : Int) % Z = ((N % Z : Nat) : Int)) := by unfold Hid; omega
    have hq0 : 0 ≤ (N : Int) / Z := Int.ediv_nonneg (by omega) (by omega)
    have hm0 : 0 ≤ (N : Int) % Z := Int.emod_nonneg _ (by omega)
    have hd0 : decide ((N : Int) < 0) = false := by simp
    by_cases hp : N % Z = 0
    · have hv := hid (Pm.rateD_whole (r := r) (z := Z) (t := t) (by omega) hneg (by rw [hN]; exact hp))
      have hN16 : N / Z ≤ 16 := Nat.div_le_of_le_mul (by rw [Nat.mul_comm]; omega)
      have hpb : ((N : Int) % Z == 0) = true := by rw [HR.out, hp]; rfl
      have HNN := hid hN
      clear hN hneg hp
      go_enter Tryz.func144, Tryz.ntmps144
      go_wp2
      go_region_held3 (fun w' => w'.cell? ⟨w.heap.size, 0, none⟩ = some (.string s) ∧ w'.cell? ⟨w.heap.size, 1, none⟩ = some (.int .i64 r) ∧ w'.cell? ⟨w.heap.size, 2, none⟩ = some (.int .i64 Z) ∧ w'.cell? ⟨w.heap.size, 3, none⟩ = some (.int .i64 d) ∧ w'.cell? ⟨w.heap.size, 4, none⟩ = some (.int .i64 g) ∧ w'.cell? ⟨w.heap.size, 5, none⟩ = some (.map (some mb)) ∧ w.heap.size < w'.heap.size ∧ Below w.heap.size w w') (first | exact box6_new | exact kbox6_keep (by assumption) (by assumption)) (first | (go_at_call 143; refine (exponent_any _ _ _ _ _ _ _ _ hr1 hr2 (by omega) (by omega) ht1 ht2).mono ?_; rintro e w1 ⟨rfl, hb⟩; rw [← HE.out]))
      rename_i hq
      obtain ⟨q0, q1, q2, q3, q4, q5, q6, q7⟩ := hq
      have Q7 := hid q7; clear q7
      go_wp2
      go_quiet (fail)
      go_wp2_with (go_at_call 163; rw [HQ.out]; refine (tenTo_any (N / Z) _ (by omega)).mono ?_; rintro e w2 ⟨rfl, rfl⟩)
      go_ret
      refine ⟨ret_int ?_, gbelow (bdrewN Q7.out), (HM.out.below (bdrewN Q7.out)).mono⟩
      have := hv.out; rw [HNN.out, Int.toNat_natCast] at this
      rw [this]; rfl
    · have hv := hid (Pm.rateD_digits (r := r) (z := Z) (t := t) (by omega) hneg (by rw [hN]; exact hp))
      have hN15 : N / Z ≤ 15 := by have := hv.out.1; rwa [hN, Int.toNat_natCast] at this
      have hpb : ((N : Int) % Z == 0) = false := by rw [HR.out]; simp; omega
      have HNN := hid hN
      have hpz : N % Z < Z := Nat.mod_lt _ hz1
      have h15 : (15 : Int) - N / Z = ((15 - N / Z : Nat) : Int) := by rw [HQ.out]; omega
      have H15 := hid h15
      have hp10 := tenN_pos (15 - N / Z)
      clear hN hneg hp h15
      go_enter Tryz.func144, Tryz.ntmps144
      go_wp2
      go_region_held3 (fun w' => w'.cell? ⟨w.heap.size, 0, none⟩ = some (.string s) ∧ w'.cell? ⟨w.heap.size, 1, none⟩ = some (.int .i64 r) ∧ w'.cell? ⟨w.heap.size, 2, none⟩ = some (.int .i64 Z) ∧ w'.cell? ⟨w.heap.size, 3, none⟩ = some (.int .i64 d) ∧ w'.cell? ⟨w.heap.size, 4, none⟩ = some (.int .i64 g) ∧ w'.cell? ⟨w.heap.size, 5, none⟩ = some (.map (some mb)) ∧ w.heap.size < w'.heap.size ∧ Below w.heap.size w w') (first | exact box6_new | exact kbox6_keep (by assumption) (by assumption)) (first | (go_at_call 143; refine (exponent_any _ _ _ _ _ _ _ _ hr1 hr2 (by omega) (by omega) ht1 ht2).mono ?_; rintro e w1 ⟨rfl, hb⟩; rw [← HE.out]))
      rename_i hq
      obtain ⟨q0, q1, q2, q3, q4, q5, q6, q7⟩ := hq
      have Q7 := hid q7; clear q7
      go_wp2
      go_quiet (fail)
      have HM3 := hid (HM.out.below (bdrewN (n := nq) Q7.out))
      go_wp2_with (first
        | (go_at_call 164; rw [HR.out]; refine (digits_any _ _ _ _ Z (N % Z) mb n _ hr1 hr2 hz1 hz2 hpz hn HM3.out).mono ?_; rintro e w2 ⟨rfl, hg2, hM2⟩; have HG2 := hid hg2; have HM2 := hid hM2; clear hg2 hM2)
        | (go_at_call 163; rw [H15.out]; refine (tenTo_any (15 - N / Z) _ (by omega)).mono ?_; rintro e w3 ⟨rfl, rfl⟩))
      go_ret
      refine ⟨ret_int ?_, gtrans (gbelow (bdrewN Q7.out)) HG2.out, HM2.out⟩
      have := hv.out.2
      rw [HNN.out, Int.toNat_natCast] at this
      have hle := Pm.root_le16 (15 * Z + N % Z) Z hz1 (by omega)
      have hdv := Nat.div_le_self (Pm.rootN (15 * Z + N % Z) Z) (tenN (15 - N / Z))
      change _ = Pm.rootN (15 * Z + N % Z) Z / tenN (15 - N / Z) at this
      rw [this, ← Int.natCast_ediv]
      generalize Pm.rootN (15 * Z + N % Z) Z / tenN (15 - N / Z) = q at hdv ⊢
      exact IntWalk.wrap64_in _ ⟨by omega, by omega⟩

set_option maxHeartbeats 2000000 in
theorem up_any (s : ByteArray) (r d g t : Int) (Z mb n : Nat) (w : World) (hr1 : -200 ≤ r) (hr2 : r ≤ 800) (hz1 : 1 ≤ Z) (hz2 : Z ≤ 60) (ht1 : -100000 ≤ t) (ht2 : t ≤ 100000) (hn : n ≤ 1000000000) (hM : MapI r Z w mb n) :
    Calls Tryz.prog 111 #[.agg #[.string s, .int .i64 r, .int .i64 Z, .int .i64 d, .int .i64 g, .map (some mb)], .int .i64 t] w (RateP (Pm.rateU r Z t) r Z mb n w) := by
  have hx1 := Pm.expo_le r Z t
  have hx2 : -200000 ≤ Pm.expo r Z t := by unfold Pm.expo; omega
  have hu := Pm.rateU_eq r Z t
  have hdl := Pm.rateD_le r Z t (by omega)
  obtain ⟨E, hE⟩ : ∃ E, E = Pm.expo r Z t := ⟨_, rfl⟩
  have HE := hid hE
  rw [← hE] at hx1 hx2 hu
  have HU := hid hu
  clear hE hu
  have HM := hid hM; clear hM
  by_cases h0 : 0 ≤ E
  · obtain ⟨N, rfl⟩ := Int.eq_ofNat_of_zero_le h0
    have hd0 : decide (0 ≤ (N : Int)) = true := by simp
    have HR : Hid ((N : Int) % Z = ((N % Z : Nat) : Int)) := by unfold Hid; omega
    by_cases hp : N % Z = 0
    · have hpb : ((N : Int) % Z == 0) = true := by rw [HR.out, hp]; rfl
      have hv := HU.out
      rw [Int.toNat_natCast, Int.toNat_natCast, if_pos ⟨h0, hp⟩] at hv
      have HV := hid hv
      clear hv hp
      go_enter Tryz.func111, Tryz.ntmps111
      go_wp2_with (first
        | (go_at_call 143; refine (exponent_any _ _ _ _ _ _ _ _ hr1 hr2 (by omega) (by omega) ht1 ht2).mono ?_; rintro e w1 ⟨rfl, hb⟩; rw [← HE.out]; obtain ⟨b0, b1, b2, b3, b4, b5, hz, hB⟩ := box6_below hb; clear hb; have HM1 := hid (HM.out.below hB))
        | (go_at_call 144; refine (down_any _ _ _ _ _ Z mb n _ hr1 hr2 hz1 hz2 ht1 ht2 hn HM1.out).mono ?_; rintro e w2 ⟨rfl, hg2, hM2⟩; have HG2 := hid hg2; have HM2 := hid hM2; clear hg2 hM2))
      go_ret
      exact ⟨ret_int (by rw [HV.out]), gtrans (gbelow hB) HG2.out, HM2.out⟩
    · have hpb : ((N : Int) % Z == 0) = false := by rw [HR.out]; simp; omega
      have hv := HU.out
      rw [Int.toNat_natCast, Int.toNat_natCast, if_neg (fun h => hp h.2)] at hv
      have HV := hid hv
      clear hv hp
      go_enter Tryz.func111, Tryz.ntmps111
      go_wp2_with (first
        | (go_at_call 143; refine (exponent_any _ _ _ _ _ _ _ _ hr1 hr2 (by omega) (by omega) ht1 ht2).mono ?_; rintro e w1 ⟨rfl, hb⟩; rw [← HE.out]; obtain ⟨b0, b1, b2, b3, b4, b5, hz, hB⟩ := box6_below hb; clear hb; have HM1 := hid (HM.out.below hB))
        | (go_at_call 144; refine (down_any _ _ _ _ _ Z mb n _ hr1 hr2 hz1 hz2 ht1 ht2 hn HM1.out).mono ?_; rintro e w2 ⟨rfl, hg2, hM2⟩; have HG2 := hid hg2; have HM2 := hid hM2; clear hg2 hM2))
      go_ret
      exact ⟨ret_int (by rw [HV.out]; rfl), gtrans (gbelow hB) HG2.out, HM2.out⟩
  · have hd0 : decide (0 ≤ E) = false := by simp; omega
    have hv := HU.out
    rw [if_neg (fun h => h0 h.1)] at hv
    have HV := hid hv
    clear hv
    go_enter Tryz.func111, Tryz.ntmps111
    go_wp2_with (first
      | (go_at_call 143; refine (exponent_any _ _ _ _ _ _ _ _ hr1 hr2 (by omega) (by omega) ht1 ht2).mono ?_; rintro e w1 ⟨rfl, hb⟩; rw [← HE.out]; obtain ⟨b0, b1, b2, b3, b4, b5, hz, hB⟩ := box6_below hb; clear hb; have HM1 := hid (HM.out.below hB))
      | (go_at_call 144; refine (down_any _ _ _ _ _ Z mb n _ hr1 hr2 hz1 hz2 ht1 ht2 hn HM1.out).mono ?_; rintro e w2 ⟨rfl, hg2, hM2⟩; have HG2 := hid hg2; have HM2 := hid hM2; clear hg2 hM2))
    go_ret
    exact ⟨ret_int (by rw [HV.out]; rfl), gtrans (gbelow hB) HG2.out, HM2.out⟩

/-- A new killer's rates: the struct's box, and its empty map. -/
def RatesP (s : ByteArray) (r z d g : Int) (w : World) (e : Ending) (w' : World) : Prop := ∃ mb, e = .returned (.agg #[.string s, .int .i64 r, .int .i64 z, .int .i64 d, .int .i64 g, .map (some mb)]) ∧ w.heap.size ≤ mb ∧ Below w.heap.size w w' ∧ ∀ Z : Nat, MapI r Z w' mb 0

set_option maxHeartbeats 2000000 in
theorem ratesOf_any (s : ByteArray) (r z d g : Int) (w : World) (_hs : s.size ≤ maxLen) : Calls Tryz.prog 110 #[.agg #[.string s, .int .i64 r, .int .i64 z, .int .i64 d, .int .i64 g]] w (RatesP s r z d g w) := by
  have hmm := @run_makeMap Tryz.prog
  go_enter Tryz.func110, Tryz.ntmps110
  go_wp2
  refine bodyPost_ret (v := .agg #[.string s, .int .i64 r, .int .i64 z, .int .i64 d, .int .i64 g, .map (some (w.heap.size + 2))]) (by simp [results, Tryz.results110, go_sem]) rfl ?_
  refine ⟨_, rfl, by omega, (((Below.refl _ _).alloc (Nat.le_refl _) _).alloc (by simp) _).alloc (by simp; omega) _, fun Z => ⟨.map [], ?_, goodM_empty r Z⟩⟩
  have := World.ownsMap_made (H := Unit) ((w.alloc (.cells #[.string s, .int .i64 r, .int .i64 z, .int .i64 d, .int .i64 g] 25)).alloc (.cells #[.string s, .int .i64 r, .int .i64 z, .int .i64 d, .int .i64 g, .map (some (w.heap.size + 1 + 1))] 155)) Tryz.prog 3 (plainElem Tryz.prog 3)
  rw [two_size] at this
  exact this
end Go.Proofs.YtihbjimnjhfpeaaGreat.Lt

/- Walks of Reached and Reductions of both: contracts. -/
namespace Go.Proofs.YtihbjimnjhfpeaaGreat.Lt
open Go.RowKit

theorem chkF_no (f : Int) : chkF false f = 1 := rfl
theorem chkF_out (f : Int) (h : (decide (0 ≤ f) && decide (f ≤ 1000000000000000000)) = false) : chkF true f = 7 := by
  unfold chkF; simp at h; simp; omega
theorem chkF_in (f : Int) (h : (decide (0 ≤ f) && decide (f ≤ 1000000000000000000)) = true) : chkF true f = 0 := by
  unfold chkF; simp at h; simp; omega
def shareV (v : Bool) (f n : Int) : Int := if v && (decide (0 ≤ f) && decide (f ≤ 1000000000000000000)) then f * 1000 / n else 0
theorem shareV_no (f n : Int) : shareV false f n = 0 := rfl
theorem shareV_out (f n : Int) (h : (decide (0 ≤ f) && decide (f ≤ 1000000000000000000)) = false) : shareV true f n = 0 := by
  unfold shareV; rw [h]; rfl
theorem shareV_in (f n : Int) (h : (decide (0 ≤ f) && decide (f ≤ 1000000000000000000)) = true) : shareV true f n = f * 1000 / n := by
  unfold shareV; rw [h]; rfl
theorem third (v b : Bool) : v = false ∨ (v = true ∧ b = false) ∨ (v = true ∧ b = true) := by cases v <;> cases b <;> simp

set_option maxHeartbeats 1000000 in
theorem reached_any (s : ByteArray) (r z d g : Int) (w : World) (hs : s.size ≤ maxLen) (f : Int) :
    Calls Tryz.prog 60 #[.agg #[.string s, .int .i64 r, .int .i64 z, .int .i64 d, .int .i64 g], .int .i64 f] w fun e w' => e = .returned (.tuple #[.int .i64 (shareV (validB s.data.toList r z d g) f (g * (d * 1000000))), .int .i64 (chkF (validB s.data.toList r z d g) f)]) ∧ Below w.heap.size w w' := by
  rcases third (validB s.data.toList r z d g) (decide (0 ≤ f) && decide (f ≤ 1000000000000000000)) with hv | ⟨hv, hf⟩ | ⟨hv, hf⟩
  · have c1 := chkF_no f
    go_enter Tryz.func60, Tryz.ntmps60
    go_wp2_with (first | (go_at_call 97; refine (checkF_any _ _ _ _ _ _ hs _).mono ?_; rintro e w1 ⟨rfl, hb⟩; obtain ⟨b0, b1, b2, b3, b4, hz, hB⟩ := box5_below hb; clear hb))
    go_ret2
    exact ⟨by rw [hv, c1]; rfl, hB⟩
  · have c1 := chkF_out f hf
    have c2 := hid (shareV_out f (g * (d * 1000000)) hf)
    go_enter Tryz.func60, Tryz.ntmps60
    go_wp2_with (first | (go_at_call 97; refine (checkF_any _ _ _ _ _ _ hs _).mono ?_; rintro e w1 ⟨rfl, hb⟩; obtain ⟨b0, b1, b2, b3, b4, hz, hB⟩ := box5_below hb; clear hb))
    go_ret2
    exact ⟨by rw [hv, c1, c2.out]; rfl, hB⟩
  · have c1 := chkF_in f hf
    have c2 := hid (shareV_in f (g * (d * 1000000)) hf)
    obtain ⟨m1, m2⟩ := needs_bd hv
    have hf' : 0 ≤ f ∧ f ≤ 1000000000000000000 := by simpa using hf
    obtain ⟨f1, f2⟩ := hf'
    clear hf
    go_enter Tryz.func60, Tryz.ntmps60
    go_wp2_with (first | (go_at_call 97; refine (checkF_any _ _ _ _ _ _ hs _).mono ?_; rintro e w1 ⟨rfl, hb⟩; obtain ⟨b0, b1, b2, b3, b4, hz, hB⟩ := box5_below hb; clear hb) | (go_at_call 57; refine (needs_yes _ _ _ _ _ _ hs hv).mono ?_; rintro e w2 ⟨rfl, hb2⟩) | (go_at_call 98; refine (perMille_any _ _ _ f1 f2 m1 m2).mono ?_; rintro e w3 ⟨rfl, hb3⟩))
    go_ret2
    exact ⟨by rw [hv, c1, c2.out]; rfl, (hB.trans (hb2.mono (by omega))).trans (hb3.mono (Nat.le_trans (by omega) hb2.size))⟩


theorem div_mill (f n : Int) (m : Int) (h : m = n * 1000) : f * 1000 / m = f / n := by
  subst h
  rw [Int.mul_comm f, Int.mul_comm n]; exact Int.mul_ediv_mul_of_pos _ _ (by decide)


end Go.Proofs.YtihbjimnjhfpeaaGreat.Lt

/- Walks of checkTemperature, Rate, RateUp of package lethal: contracts. -/
namespace Go.Proofs.YtihbjimnjhfpeaaGreat.Lt
open Go.RowKit Go.Lib Go.Maps

def chkT (v : Bool) (t : Int) : Int := if v then (if -1000 ≤ t ∧ t ≤ 2000 then 0 else 7) else 1
theorem chkT_no (t : Int) : chkT false t = 1 := rfl
theorem chkT_out (t : Int) (h : (decide (-1000 ≤ t) && decide (t ≤ 2000)) = false) : chkT true t = 7 := by
  unfold chkT; simp at h; simp; omega
theorem chkT_in (t : Int) (h : (decide (-1000 ≤ t) && decide (t ≤ 2000)) = true) : chkT true t = 0 := by
  unfold chkT; simp at h; simp; omega

set_option maxHeartbeats 1000000 in
theorem checkT_any (s : ByteArray) (r z d g : Int) (w : World) (hs : s.size ≤ maxLen) (t : Int) :
    Calls Tryz.prog 109 #[.agg #[.string s, .int .i64 r, .int .i64 z, .int .i64 d, .int .i64 g], .int .i64 t] w fun e w' => e = .returned (.int .i64 (chkT (validB s.data.toList r z d g) t)) ∧ Below w.heap.size w w' := by
  rcases third (validB s.data.toList r z d g) (decide (-1000 ≤ t) && decide (t ≤ 2000)) with hv | ⟨hv, ht⟩ | ⟨hv, ht⟩
  · go_enter Tryz.func109, Tryz.ntmps109
    go_wp2_with (first | (go_at_call 65; refine (lvalid_any _ _ _ _ _ _ hs).mono ?_; rintro e w1 ⟨rfl, hb⟩; obtain ⟨b0, b1, b2, b3, b4, hz, hB⟩ := box5_below hb; clear hb) | (go_at_call 104; refine (within_any _ _ _ _).mono ?_; rintro e w' ⟨rfl, rfl⟩))
    go_ret
    exact ⟨by rw [hv]; rfl, hB⟩
  · have c := hid (chkT_out t ht)
    go_enter Tryz.func109, Tryz.ntmps109
    go_wp2_with (first | (go_at_call 65; refine (lvalid_any _ _ _ _ _ _ hs).mono ?_; rintro e w1 ⟨rfl, hb⟩; obtain ⟨b0, b1, b2, b3, b4, hz, hB⟩ := box5_below hb; clear hb) | (go_at_call 104; refine (within_any _ _ _ _).mono ?_; rintro e w' ⟨rfl, rfl⟩))
    go_ret
    exact ⟨by rw [hv, c.out]; rfl, hB⟩
  · have c := hid (chkT_in t ht)
    go_enter Tryz.func109, Tryz.ntmps109
    go_wp2_with (first | (go_at_call 65; refine (lvalid_any _ _ _ _ _ _ hs).mono ?_; rintro e w1 ⟨rfl, hb⟩; obtain ⟨b0, b1, b2, b3, b4, hz, hB⟩ := box5_below hb; clear hb) | (go_at_call 104; refine (within_any _ _ _ _).mono ?_; rintro e w' ⟨rfl, rfl⟩))
    go_ret
    exact ⟨by rw [hv, c.out]; rfl, hB⟩

/-- What Rate and RateUp answer: the rate where the killer and the temperature are good. -/
def rateA (v : Bool) (x : Nat) (t : Int) : Int := if v && (decide (-1000 ≤ t) && decide (t ≤ 2000)) then x else 0
theorem rateA_no (x : Nat) (t : Int) : rateA false x t = 0 := rfl
theorem rateA_out (x : Nat) (t : Int) (h : (decide (-1000 ≤ t) && decide (t ≤ 2000)) = false) : rateA true x t = 0 := by unfold rateA; rw [h]; rfl
theorem rateA_in (x : Nat) (t : Int) (h : (decide (-1000 ≤ t) && decide (t ≤ 2000)) = true) : rateA true x t = x := by unfold rateA; rw [h]; rfl


set_option maxHeartbeats 2000000 in
theorem lRateUp_any (s : ByteArray) (r z d g : Int) (w : World) (hs : s.size ≤ maxLen) (t : Int) :
    Calls Tryz.prog 69 #[.agg #[.string s, .int .i64 r, .int .i64 z, .int .i64 d, .int .i64 g], .int .i64 t] w fun e w' => e = .returned (.tuple #[.int .i64 (rateA (validB s.data.toList r z d g) (Pm.rateU r z t) t), .int .i64 (chkT (validB s.data.toList r z d g) t)]) ∧ Below w.heap.size w w' := by
  rcases third (validB s.data.toList r z d g) (decide (-1000 ≤ t) && decide (t ≤ 2000)) with hv | ⟨hv, ht⟩ | ⟨hv, ht⟩
  · have c := hid (chkT_no t)
    go_enter Tryz.func69, Tryz.ntmps69
    go_wp2_with (first | (go_at_call 109; refine (checkT_any _ _ _ _ _ _ hs t).mono ?_; rintro e w1 ⟨rfl, hb⟩; rw [hv, c.out]; obtain ⟨b0, b1, b2, b3, b4, hz, hB⟩ := box5_below hb; clear hb))
    go_ret2
    exact ⟨by rw [hv, c.out]; rfl, hB⟩
  · have c := hid (chkT_out t ht)
    have c2 := hid (rateA_out (Pm.rateU r z t) t ht)
    go_enter Tryz.func69, Tryz.ntmps69
    go_wp2_with (first | (go_at_call 109; refine (checkT_any _ _ _ _ _ _ hs t).mono ?_; rintro e w1 ⟨rfl, hb⟩; rw [hv, c.out]; obtain ⟨b0, b1, b2, b3, b4, hz, hB⟩ := box5_below hb; clear hb))
    go_ret2
    exact ⟨by rw [hv, c.out, c2.out]; rfl, hB⟩
  · have c := hid (chkT_in t ht)
    have c2 := hid (rateA_in (Pm.rateU r z t) t ht)
    obtain ⟨_, ⟨r1, r2⟩, ⟨z1, z2⟩, _, _⟩ := validB_iff.1 hv
    obtain ⟨Z, rfl⟩ := Int.eq_ofNat_of_zero_le (show 0 ≤ z by omega)
    have ht' : -1000 ≤ t ∧ t ≤ 2000 := by simpa using ht
    obtain ⟨t1, t2⟩ := ht'
    go_enter Tryz.func69, Tryz.ntmps69
    go_wp2_with (first
      | (go_at_call 109; refine (checkT_any _ _ _ _ _ _ hs t).mono ?_; rintro e w1 ⟨rfl, hb⟩; rw [hv, c.out]; obtain ⟨b0, b1, b2, b3, b4, hz, hB⟩ := box5_below hb; clear hb)
      | (go_at_call 110; refine (ratesOf_any _ _ _ _ _ _ hs).mono ?_; rintro e w2 ⟨mb, rfl, hmb, hb2, hM⟩; have HM := hid (hM Z); have HB2 := hid hb2; clear hM)
      | (go_at_call 111; refine (up_any _ _ _ _ t Z mb 0 _ r1 r2 (by omega) (by omega) (by omega) (by omega) (by omega) HM.out).mono ?_; rintro e w3 ⟨rfl, hg3, _⟩))
    go_ret2
    exact ⟨by rw [hv, c.out, c2.out]; rfl, (hB.trans (HB2.out.mono (by omega))).grown hg3 (Nat.le_trans (Nat.le_of_lt hz) HB2.out.size) (fun k hk => by cases hk; omega)⟩
end Go.Proofs.YtihbjimnjhfpeaaGreat.Lt

/- Walks of the reference's Root, rates, told, Rate and RateUp: contracts. -/
namespace Go.Proofs.YtihbjimnjhfpeaaGreat.Lt
open Go.RowKit Go.Lib



set_option maxHeartbeats 2000000 in
theorem rrates_any (s : ByteArray) (r d g t : Int) (Z : Nat) (w : World) (hr1 : -200 ≤ r) (hr2 : r ≤ 800) (hz1 : 1 ≤ Z) (hz2 : Z ≤ 60) (ht1 : -100000 ≤ t) (ht2 : t ≤ 100000) :
    Calls Tryz.prog 181 #[.agg #[.string s, .int .i64 r, .int .i64 Z, .int .i64 d, .int .i64 g], .int .i64 t] w fun e w' => e = .returned (.tuple #[.int .i64 (Pm.rateD r Z t : Nat), .int .i64 (Pm.rateU r Z t : Nat)]) ∧ Below w.heap.size w w' := by
  have hu := Pm.rateU_eq r Z t
  have hle := Pm.expo_le r Z t
  obtain ⟨E, hE⟩ : ∃ E, E = Pm.expo r Z t := ⟨_, rfl⟩
  have hE' := hE
  rw [← hE] at hu hle
  unfold Pm.expo at hE'
  have HE := hid hE
  clear hE
  by_cases h0 : E < 0
  · have hD := hid (Pm.rateD_neg (r := r) (z := Z) (t := t) (by rw [← HE.out]; exact h0))
    have hU : Hid (Pm.rateU r Z t = 1) := by unfold Hid; rw [hu, if_neg (fun h => absurd h.1 (by omega)), hD.out]
    clear hu
    by_cases hc : t - r ≤ 10 * Z
    · have hx : ¬ (10 * (Z : Int) < t - r) := by omega
      have hEE : E = 6 * Z + (t - r) := by omega
      subst hEE
      go_enter Tryz.func181, Tryz.ntmps181
      go_wp2
      go_ret2
      exact ⟨by rw [hD.out, hU.out]; rfl, (Below.refl _ _).alloc (Nat.le_refl _) _⟩
    · exact absurd h0 (by omega)
  · obtain ⟨N, rfl⟩ := Int.eq_ofNat_of_zero_le (show 0 ≤ E by omega)
    have hD : Hid (Pm.rateD r Z t = Pm.rootN N Z) := by
      unfold Hid
      rw [Pm.rateD_pos (by rw [← HE.out]; exact h0), ← HE.out]; simp
    have hN : N ≤ 16 * Z := by omega
    have hrle := Pm.root_le16 N Z hz1 hN
    by_cases hp : N % Z = 0
    · have hU : Hid (Pm.rateU r Z t = Pm.rootN N Z) := by
        unfold Hid
        rw [hu, if_pos ⟨by omega, by simpa using hp⟩, hD.out]
      have hb := decide_eq_true hp
      clear hu hp
      by_cases hc : t - r ≤ 10 * Z
      · have hEE : Hid (6 * (Z : Int) + (t - r) = N) := by unfold Hid; omega
        have hge : 0 ≤ 6 * (Z : Int) + (t - r) := by omega
        clear hE'
        go_enter Tryz.func181, Tryz.ntmps181
        go_wp2_with (go_at_call 188; rw [hEE.out]; refine (rroot_any N Z _ hz1 hz2 hN).mono ?_; rintro r w1 ⟨rfl, hb1⟩)
        go_ret2
        exact ⟨by rw [hD.out, hU.out]; rfl, balloc hb1⟩
      · have hEE : Hid (6 * (Z : Int) + 10 * Z = N) := by unfold Hid; omega
        clear hE'
        go_enter Tryz.func181, Tryz.ntmps181
        go_wp2_with (go_at_call 188; rw [hEE.out]; refine (rroot_any N Z _ hz1 hz2 hN).mono ?_; rintro r w1 ⟨rfl, hb1⟩)
        go_ret2
        exact ⟨by rw [hD.out, hU.out]; rfl, balloc hb1⟩
    · have hU : Hid (Pm.rateU r Z t = Pm.rootN N Z + 1) := by
        unfold Hid
        rw [hu, if_neg (fun h => hp (by simpa using h.2)), hD.out]
      have hb := decide_eq_false hp
      clear hu hp
      by_cases hc : t - r ≤ 10 * Z
      · have hEE : Hid (6 * (Z : Int) + (t - r) = N) := by unfold Hid; omega
        have hge : 0 ≤ 6 * (Z : Int) + (t - r) := by omega
        clear hE'
        go_enter Tryz.func181, Tryz.ntmps181
        go_wp2_with (go_at_call 188; rw [hEE.out]; refine (rroot_any N Z _ hz1 hz2 hN).mono ?_; rintro r w1 ⟨rfl, hb1⟩)
        go_ret2
        exact ⟨by rw [hD.out, hU.out]; rfl, balloc hb1⟩
      · have hEE : Hid (6 * (Z : Int) + 10 * Z = N) := by unfold Hid; omega
        clear hE'
        go_enter Tryz.func181, Tryz.ntmps181
        go_wp2_with (go_at_call 188; rw [hEE.out]; refine (rroot_any N Z _ hz1 hz2 hN).mono ?_; rintro r w1 ⟨rfl, hb1⟩)
        go_ret2
        exact ⟨by rw [hD.out, hU.out]; rfl, balloc hb1⟩


end Go.Proofs.YtihbjimnjhfpeaaGreat.Lt
