/- Texts of this seat, one behind the other. -/
import Derived.Test.YtedfajokiblfhaaGreatPdp
import Derived.Test.YtedfajokiblfhaaGreatPeg
/- Walk of Proved: contract. -/
namespace Go.Proofs.YtedfajokiblfhaaGreat
open Go.RowKit Go.Lib

/-- A can is sterile with n ticks of a cook. -/
def sterP (r l a b k a2 b2 : Int) (q : Kl) (t bath cold cooling n : Int) : Bool := cookB bath n cold cooling && sterO q (lowO (sumsO r l a b k a2 b2 q t (cookL bath n cold cooling))) (chk4 (canB r l a b k a2 b2) q.vB t (cookL bath n cold cooling))
def provO (T : Int → Bool) (n : Int) : Bool := T n && (decide (n = 0) || !T (n - 1))
theorem sterP_range {r l a b k a2 b2 : Int} {q : Kl} {t bath cold cooling n : Int} (h : sterP r l a b k a2 b2 q t bath cold cooling n = true) : 0 ≤ n ∧ n ≤ 2000 := by
  unfold sterP cookB at h
  rw [Bool.and_eq_true, Bool.and_eq_true] at h
  obtain ⟨h1, h2, h3⟩ := ticksB_two.1 h.1.2
  omega
set_option maxRecDepth 20000 in
set_option maxHeartbeats 4000000 in
theorem pst_any (r l a b k a2 b2 : Int) (q : Kl) (t bath cold cooling n : Int) (n0 : Nat) (w : World) (hs : q.s.size ≤ maxLen) (hB : LsB r l a b k a2 b2 q t bath cold cooling n0 w) :
    Calls Tryz.prog 56 #[.int .i64 n, .pointer (some ⟨n0 + 1 + 1 + 1, 0, none⟩), .pointer (some ⟨n0 + 1 + 1 + 1 + 1, 0, none⟩), .pointer (some ⟨n0 + 1 + 1 + 1 + 1 + 1, 0, none⟩), .pointer (some ⟨n0, 0, none⟩), .pointer (some ⟨n0 + 1, 0, none⟩), .pointer (some ⟨n0 + 1 + 1, 0, none⟩)] w
      fun e w' => e = .returned (.bool (sterP r l a b k a2 b2 q t bath cold cooling n)) ∧ Below w.heap.size w w' := by
  have HC := hid (fun W => cook_any bath n cold cooling W)
  have HLE := hid (fun (W : World) (v : Value) (h : RowI W v (cookL bath n cold cooling)) => ster_any r l a b k a2 b2 W q t v (cookL bath n cold cooling) hs h (by have := cookL_len bath n cold cooling; unfold maxLen; omega))
  have HBB := hid hB
  have b0 := cell_of_row _ _ 0 _ _ _ hB.bat
  have c0 := cell_of_row _ _ 0 _ _ _ hB.col
  have o0 := cell_of_row _ _ 0 _ _ _ hB.coo
  simp only [List.getElem?_toArray, List.getElem?_cons_zero] at b0 c0 o0
  unfold sterP
  generalize sterO q (lowO (sumsO r l a b k a2 b2 q t (cookL bath n cold cooling))) (chk4 (canB r l a b k a2 b2) q.vB t (cookL bath n cold cooling)) = so at *
  generalize chk4 (canB r l a b k a2 b2) q.vB t (cookL bath n cold cooling) = ce at *
  clear hs hB
  go_enter Tryz.func56, Tryz.ntmps56
  go_wp2_with fail
  refine (HC.out _).mono ?_
  rintro e w1 ⟨v, rfl, hr, hb⟩
  have HB1 := hid (HBB.out.keep hb)
  have HR := hid hr
  have HW := hid hb
  clear hr hb b0 c0 o0
  have x0 := cell_of_row _ _ 0 _ _ _ HB1.out.can
  have x1 := cell_of_row _ _ 1 _ _ _ HB1.out.can
  have x2 := cell_of_row _ _ 2 _ _ _ HB1.out.can
  have x3 := cell_of_row _ _ 3 _ _ _ HB1.out.can
  have x4 := cell_of_row _ _ 4 _ _ _ HB1.out.can
  have x5 := cell_of_row _ _ 5 _ _ _ HB1.out.can
  have x6 := cell_of_row _ _ 6 _ _ _ HB1.out.can
  have y0 := cell_of_row _ _ 0 _ _ _ HB1.out.kil
  have y1 := cell_of_row _ _ 1 _ _ _ HB1.out.kil
  have y2 := cell_of_row _ _ 2 _ _ _ HB1.out.kil
  have y3 := cell_of_row _ _ 3 _ _ _ HB1.out.kil
  have y4 := cell_of_row _ _ 4 _ _ _ HB1.out.kil
  have i0 := cell_of_row _ _ 0 _ _ _ HB1.out.ini
  simp only [List.getElem?_toArray, List.getElem?_cons_zero, List.getElem?_cons_succ] at x0 x1 x2 x3 x4 x5 x6 y0 y1 y2 y3 y4 i0
  cases hck : cookB bath n cold cooling
  · go_wp2_with fail
    refine bodyPost_ret (v := .bool false) (by simp [results, Tryz.results56, go_sem]) rfl ⟨by rw [hck]; rfl, HW.out⟩
  · go_wp2_with fail
    refine (HLE.out _ _ HR.out).mono ?_
    rintro e w2 ⟨rfl, hb2⟩
    have HW2 := hid (bstep HW.out HW.out.size hb2)
    clear hb2 x0 x1 x2 x3 x4 x5 x6 y0 y1 y2 y3 y4 i0
    go_wp2_with fail
    refine bodyPost_ret (v := .bool so) (by simp [results, Tryz.results56, go_sem]) rfl ⟨by rw [hck]; simp, HW2.out⟩
set_option maxRecDepth 20000 in
set_option maxHeartbeats 4000000 in
theorem proved_any (r l a b k a2 b2 : Int) (w : World) (q : Kl) (t bath cold cooling n : Int) (hs : q.s.size ≤ maxLen) :
    Calls Tryz.prog 25 #[.agg #[.int .i64 r, .int .i64 l, .int .i64 a, .int .i64 b, .int .i64 k, .int .i64 a2, .int .i64 b2], .agg #[.string q.s, .int .i64 q.r, .int .i64 q.z, .int .i64 q.d, .int .i64 q.g], .int .i64 t, .int .i64 bath, .int .i64 cold, .int .i64 cooling, .int .i64 n] w fun e w' => e = .returned (.bool (provO (sterP r l a b k a2 b2 q t bath cold cooling) n)) ∧ Below w.heap.size w w' := by
  have HB := hid (lsB_start r l a b k a2 b2 q t bath cold cooling w)
  have HWF := hid (fun (n : Int) (W : World) (h : LsB r l a b k a2 b2 q t bath cold cooling w.heap.size W) => pst_any r l a b k a2 b2 q t bath cold cooling n w.heap.size W hs h)
  have HRG := hid (fun n h => sterP_range (r := r) (l := l) (a := a) (b := b) (k := k) (a2 := a2) (b2 := b2) (q := q) (t := t) (bath := bath) (cold := cold) (cooling := cooling) (n := n) h)
  generalize sterP r l a b k a2 b2 q t bath cold cooling = T at *
  have heq := enter_at Tryz.func56 (by kernel_rfl) (by kernel_rfl)
  clear hs
  go_enter Tryz.func25, Tryz.ntmps25
  go_wp2_with fail
  refine (HWF.out _ _ HB.out.1).mono ?_
  rintro e w1 ⟨rfl, hb⟩
  have HL1 := hid (HB.out.2.trans (hb.mono HB.out.2.size))
  have HB1 := hid (HB.out.1.keep hb)
  clear hb HB
  cases h1 : T n
  · have HE := hid (show provO T n = false by unfold provO; rw [h1]; rfl)
    go_wp2_with fail
    refine bodyPost_ret (v := .bool false) (by simp [results, Tryz.results25, go_sem]) rfl ⟨by rw [HE.out], HL1.out⟩
  by_cases h0 : n = 0
  · have HE := hid (show provO T n = true by unfold provO; rw [h1, decide_eq_true h0]; rfl)
    subst h0
    go_wp2_with fail
    refine bodyPost_ret (v := .bool true) (by simp [results, Tryz.results25, go_sem]) rfl ⟨by rw [HE.out], HL1.out⟩
  · have HE := hid (show provO T n = !T (n - 1) by unfold provO; rw [h1, decide_eq_false h0]; rfl)
    obtain ⟨g1, g2⟩ := HRG.out n h1
    go_wp2_with fail
    refine (HWF.out _ _ HB1.out).mono ?_
    rintro e w2 ⟨rfl, hb⟩
    have HL2 := hid (bstep HL1.out HL1.out.size hb)
    clear hb
    go_wp2_with fail
    refine bodyPost_ret (v := .bool (!T (n - 1))) (by simp [results, Tryz.results25, go_sem, h0]) rfl ⟨by rw [HE.out], HL2.out⟩
end Go.Proofs.YtedfajokiblfhaaGreat

/- Walks of the reference's repeated, Cook, leastError, enoughTicks, Proved: contracts. -/
namespace Go.Proofs.YtedfajokiblfhaaGreat
open Go.RowKit Go.Lib

set_option maxHeartbeats 1000000 in
theorem xin_any (n lo hi : Int) (w : World) : Calls Tryz.prog 58 #[.int .i64 n, .int .i64 lo, .int .i64 hi] w fun e w' => e = .returned (.bool (decide (lo ≤ n) && decide (n ≤ hi))) ∧ w = w' := by
  cases h : decide (lo ≤ n)
  · have h' : ¬ lo ≤ n := by simpa using h
    go_enter Tryz.func58, Tryz.ntmps58
    go_wp2
    go_ret
    exact ⟨rfl, rfl⟩
  · have h' : lo ≤ n := by simpa using h
    go_enter Tryz.func58, Tryz.ntmps58
    go_wp2
    go_ret
    exact ⟨rfl, rfl⟩
set_option maxRecDepth 20000 in
set_option maxHeartbeats 4000000 in
theorem xrep_any (t : Int) (n : Nat) (w : World) (hn : n ≤ 2000) : Calls Tryz.prog 96 #[.int .i64 t, .int .i64 n] w (NewI w (List.replicate n t)) := by
  obtain ⟨i0, hi, hz0, hz1, hz2⟩ := info_parts infoQc
  have HR0 : Hid (w.ownsRow w.heap.size 3 1 (.slice none 0 0) (ivs (List.replicate 0 t)).length (ivs (List.replicate 0 t))) := World.ownsRow_nil _ _ _ _
  have HB0 := hid (Below.refl w.heap.size w)
  go_enter Tryz.func96, Tryz.ntmps96
  go_wp2_with fail
  go_loopw [5, 6] (fun u i wr => ∃ k : Nat, k ≤ n ∧ i = .int .i64 (k : Int) ∧ Hid (wr.ownsRow w.heap.size 3 1 u (ivs (List.replicate k t)).length (ivs (List.replicate k t))) ∧ Hid (Below w.heap.size w wr)) (fun _ i _ => n - (intOf i).toNat)
  case atStart => exact ⟨0, Nat.zero_le _, rfl, HR0, HB0⟩
  case round =>
    obtain ⟨k, hk, rfl, hO, hB⟩ := hrel
    obtain ⟨ua, uc, rfl⟩ := own_shapeP hO.out
    by_cases hlt : k < n
    · have hlt' : (k : Int) < n := by omega
      have HS := hid (List.replicate_succ' (n := k) (a := t))
      have HLN := hid (show (List.replicate k t).length ≤ 100000 by rw [List.length_replicate]; omega)
      have HLT := hid hlt
      generalize List.replicate k t = F at *
      clear hlt
      go_wp2_with (at_builtin; (refine wpList_app rfl (.tmp 12) (.tmp 14) 28 rfl w.heap.size 3 i0 Tryz.underlying28 hi hz0 hz1 hz2 _ (ivs F) rfl (World.ownsRow.alloc hO.out _) _ [t] rfl (by exact (one_row _ _ rfl).src) (by rw [ivs_len]; have := HLN.out; simp; omega) (by have := hB.out.size; simp; omega) ?_); intro v3 w6 hA1; have HB6 := hid (app_low (hB.out.alloc hB.out.size _) (World.ownsRow.alloc hO.out _) (Nat.le_refl _) hA1); have HO6 := hid (app_next hA1); obtain ⟨a3, c3, rfl⟩ := own_shapeP HO6.out; clear hA1)
      go_roundw
      case rel => exact ⟨k + 1, HLT.out, by go_num, by have h := HO6.out; rw [List.length_append, List.length_singleton] at h; rw [HS.out, ivs_len, List.length_append, List.length_singleton]; exact hid h, HB6⟩
      case measure => have := HLT.out; simp [intOf]; omega
    · obtain rfl : k = n := by omega
      go_wp2_with fail
      go_ret
      exact ⟨_, rfl, hO.out, hB.out⟩
/-- The first error of a least cook. -/
def leE (vc vk : Bool) (t bath cold cooling : Int) : Int := if (vc && vk) = false then 1 else if (((okT t && okT bath) && okT cold) && tick1 cooling) = false then 7 else 0
theorem tick1_in (x : Int) : (decide (0 ≤ x) && decide (x ≤ 2000)) = tick1 x := rfl
theorem okT_in (x : Int) : (decide (-50000 ≤ x) && decide (x ≤ 200000)) = okT x := rfl
set_option maxRecDepth 20000 in
set_option maxHeartbeats 4000000 in
theorem xlerr_any (r l a b k a2 b2 : Int) (w : World) (q : Kl) (t bath cold cooling : Int) (hs : q.s.size ≤ maxLen) :
    Calls Tryz.prog 54 #[.agg #[.int .i64 r, .int .i64 l, .int .i64 a, .int .i64 b, .int .i64 k, .int .i64 a2, .int .i64 b2], .agg #[.string q.s, .int .i64 q.r, .int .i64 q.z, .int .i64 q.d, .int .i64 q.g], .int .i64 t, .int .i64 bath, .int .i64 cold, .int .i64 cooling] w fun e w' => e = .returned (.int .i64 (leE (canB r l a b k a2 b2) q.vB t bath cold cooling)) ∧ Below w.heap.size w w' := by
  have HX := hid (box2_start (w := w) (A := #[.int .i64 r, .int .i64 l, .int .i64 a, .int .i64 b, .int .i64 k, .int .i64 a2, .int .i64 b2]) (B := #[.string q.s, .int .i64 q.r, .int .i64 q.z, .int .i64 q.d, .int .i64 q.g]) (T := 23) (T' := 25) (fz := (0, 0)) (fz' := (0, 0)))
  have HV := hid (fun W => rvcan_any r l a b k a2 b2 W)
  have HQ : Hid (∀ W, Calls Tryz.prog 57 #[.agg #[.string q.s, .int .i64 q.r, .int .i64 q.z, .int .i64 q.d, .int .i64 q.g]] W fun e w' => e = .returned (.bool q.vB) ∧ Below W.heap.size W w') := fun W => Lt.rvalid_any q.s q.r q.z q.d q.g W hs
  clear hs
  unfold leE
  cases h1 : canB r l a b k a2 b2
  · rw [h1] at HV
    go_enter Tryz.func54, Tryz.ntmps54
    go_wp2_with fail
    refine (HV.out _).mono ?_
    rintro e w1 ⟨rfl, hb⟩
    have HX := hid (HX.out.keep hb)
    clear hb
    go_wp2_with fail
    go_ret
    exact ⟨rfl, HX.out.low⟩
  rw [h1] at HV
  cases h2 : q.vB
  · rw [h2] at HQ
    go_enter Tryz.func54, Tryz.ntmps54
    go_wp2_with fail
    refine (HV.out _).mono ?_
    rintro e w1 ⟨rfl, hb⟩
    have HX := hid (HX.out.keep hb)
    clear hb
    have x0 := HX.out.snd 0; have x1 := HX.out.snd 1; have x2 := HX.out.snd 2; have x3 := HX.out.snd 3; have x4 := HX.out.snd 4
    simp only [List.getElem?_toArray, List.getElem?_cons_zero, List.getElem?_cons_succ] at x0 x1 x2 x3 x4
    go_wp2_with fail
    refine (HQ.out _).mono ?_
    rintro e w2 ⟨rfl, hb⟩
    have HX := hid (HX.out.keep hb)
    clear hb x0 x1 x2 x3 x4
    go_wp2_with fail
    go_ret
    exact ⟨rfl, HX.out.low⟩
  rw [h2] at HQ
  have HW1 : Hid (∀ W, Calls Tryz.prog 76 #[.int .i64 t] W fun e w' => e = .returned (.bool (okT t)) ∧ W = w') := fun W => warm_any t W
  have HW2 : Hid (∀ W, Calls Tryz.prog 76 #[.int .i64 bath] W fun e w' => e = .returned (.bool (okT bath)) ∧ W = w') := fun W => warm_any bath W
  have HW3 : Hid (∀ W, Calls Tryz.prog 76 #[.int .i64 cold] W fun e w' => e = .returned (.bool (okT cold)) ∧ W = w') := fun W => warm_any cold W
  have HW4 : Hid (∀ W, Calls Tryz.prog 58 #[.int .i64 cooling, .int .i64 0, .int .i64 2000] W fun e w' => e = .returned (.bool (tick1 cooling)) ∧ W = w') := fun W => xin_any cooling 0 2000 W
  generalize okT t = b1 at *
  generalize okT bath = b2' at *
  generalize okT cold = b3 at *
  generalize tick1 cooling = b4 at *
  go_enter Tryz.func54, Tryz.ntmps54
  go_wp2_with fail
  refine (HV.out _).mono ?_
  rintro e w1 ⟨rfl, hb⟩
  have HX := hid (HX.out.keep hb)
  clear hb
  have x0 := HX.out.snd 0; have x1 := HX.out.snd 1; have x2 := HX.out.snd 2; have x3 := HX.out.snd 3; have x4 := HX.out.snd 4
  simp only [List.getElem?_toArray, List.getElem?_cons_zero, List.getElem?_cons_succ] at x0 x1 x2 x3 x4
  go_wp2_with fail
  refine (HQ.out _).mono ?_
  rintro e w2 ⟨rfl, hb⟩
  have HX := hid (HX.out.keep hb)
  clear hb x0 x1 x2 x3 x4
  go_wp2_with fail
  refine (HW1.out _).mono ?_
  rintro e w3 ⟨rfl, rfl⟩
  cases b1
  · go_wp2_with fail
    go_ret
    exact ⟨rfl, HX.out.low⟩
  go_wp2_with fail
  refine (HW2.out _).mono ?_
  rintro e w3 ⟨rfl, rfl⟩
  cases b2'
  · go_wp2_with fail
    go_ret
    exact ⟨rfl, HX.out.low⟩
  go_wp2_with fail
  refine (HW3.out _).mono ?_
  rintro e w3 ⟨rfl, rfl⟩
  cases b3
  · go_wp2_with fail
    go_ret
    exact ⟨rfl, HX.out.low⟩
  go_wp2_with fail
  refine (HW4.out _).mono ?_
  rintro e w3 ⟨rfl, rfl⟩
  cases b4
  · go_wp2_with fail
    go_ret
    exact ⟨rfl, HX.out.low⟩
  · go_wp2_with fail
    go_ret
    exact ⟨rfl, HX.out.low⟩
end Go.Proofs.YtedfajokiblfhaaGreat

/- Walks of the reference's Cook, enoughTicks, Proved: contracts. -/
namespace Go.Proofs.YtedfajokiblfhaaGreat
open Go.RowKit Go.Lib

theorem cookB_eq (t n cold cooling : Int) : cookB t n cold cooling = ((((okT t && okT cold) && tick1 n) && tick1 cooling) && !decide (2000 < n + cooling)) := by
  unfold cookB
  rw [Bool.eq_iff_iff]
  simp only [okL, List.all_cons, List.all_nil, Bool.and_true, Bool.and_eq_true, ticksB_two, tick1, decide_eq_true_eq, Bool.not_eq_true', decide_eq_false_iff_not]
  cases okT t <;> cases okT cold <;> simp <;> omega
theorem own_kept2 {w w' : World} {base e n : Nat} {v : Value} {xs : List Value} (h : w.ownsRow base e 1 v n xs) (hb : Below w.heap.size w w') : w'.ownsRow base e 1 v n xs := own_kept h hb
set_option maxRecDepth 20000 in
set_option maxHeartbeats 4000000 in
theorem xcook_any (t n cold cooling : Int) (w : World) : Calls Tryz.prog 99 #[.int .i64 t, .int .i64 n, .int .i64 cold, .int .i64 cooling] w (CookP t n cold cooling w) := by
  have HQ := hid (cookB_eq t n cold cooling)
  have HW1 : Hid (∀ W, Calls Tryz.prog 76 #[.int .i64 t] W fun e w' => e = .returned (.bool (okT t)) ∧ W = w') := fun W => warm_any t W
  have HW2 : Hid (∀ W, Calls Tryz.prog 76 #[.int .i64 cold] W fun e w' => e = .returned (.bool (okT cold)) ∧ W = w') := fun W => warm_any cold W
  have HW3 : Hid (∀ W, Calls Tryz.prog 58 #[.int .i64 n, .int .i64 0, .int .i64 2000] W fun e w' => e = .returned (.bool (tick1 n)) ∧ W = w') := fun W => xin_any n 0 2000 W
  have HW4 : Hid (∀ W, Calls Tryz.prog 58 #[.int .i64 cooling, .int .i64 0, .int .i64 2000] W fun e w' => e = .returned (.bool (tick1 cooling)) ∧ W = w') := fun W => xin_any cooling 0 2000 W
  have HNO : Hid (cookB t n cold cooling = false → CookP t n cold cooling w (.returned (.tuple #[.slice none 0 0, .int .i64 7])) w) := fun h => by
    refine ⟨.slice none 0 0, by rw [h]; rfl, ?_, Below.refl _ _⟩
    unfold cookL
    rw [h]
    exact .inl ⟨none, 0, rfl, rfl⟩
  obtain ⟨b1, hb1⟩ : ∃ B, B = okT t := ⟨_, rfl⟩
  obtain ⟨b2, hb2⟩ : ∃ B, B = okT cold := ⟨_, rfl⟩
  obtain ⟨b3, hb3⟩ : ∃ B, B = tick1 n := ⟨_, rfl⟩
  obtain ⟨b4, hb4⟩ : ∃ B, B = tick1 cooling := ⟨_, rfl⟩
  have HT3 := hid (show b3 = true → 0 ≤ n ∧ n ≤ 2000 by rw [hb3]; simp [tick1])
  have HT4 := hid (show b4 = true → 0 ≤ cooling ∧ cooling ≤ 2000 by rw [hb4]; simp [tick1])
  rw [← hb1] at HW1 HQ
  rw [← hb2] at HW2 HQ
  rw [← hb3] at HW3 HQ
  rw [← hb4] at HW4 HQ
  clear hb1 hb2 hb3 hb4
  go_enter Tryz.func99, Tryz.ntmps99
  go_wp2_with fail
  refine (HW1.out _).mono ?_
  rintro e w3 ⟨rfl, rfl⟩
  cases b1
  · go_wp2_with fail
    refine bodyPost_ret (v := .tuple #[.slice none 0 0, .int .i64 7]) (by simp [results, Tryz.results99, go_sem]) rfl (HNO.out (by rw [HQ.out]; rfl))
  go_wp2_with fail
  refine (HW2.out _).mono ?_
  rintro e w3 ⟨rfl, rfl⟩
  cases b2
  · go_wp2_with fail
    refine bodyPost_ret (v := .tuple #[.slice none 0 0, .int .i64 7]) (by simp [results, Tryz.results99, go_sem]) rfl (HNO.out (by rw [HQ.out]; rfl))
  go_wp2_with fail
  refine (HW3.out _).mono ?_
  rintro e w3 ⟨rfl, rfl⟩
  cases b3
  · go_wp2_with fail
    refine bodyPost_ret (v := .tuple #[.slice none 0 0, .int .i64 7]) (by simp [results, Tryz.results99, go_sem]) rfl (HNO.out (by rw [HQ.out]; rfl))
  go_wp2_with fail
  refine (HW4.out _).mono ?_
  rintro e w3 ⟨rfl, rfl⟩
  cases b4
  · go_wp2_with fail
    refine bodyPost_ret (v := .tuple #[.slice none 0 0, .int .i64 7]) (by simp [results, Tryz.results99, go_sem]) rfl (HNO.out (by rw [HQ.out]; rfl))
  obtain ⟨n1, n2⟩ := HT3.out (by trivial)
  obtain ⟨m1, m2⟩ := HT4.out (by trivial)
  cases h5 : decide (2000 < n + cooling)
  case true =>
    rw [h5] at HQ
    go_wp2_with fail
    refine bodyPost_ret (v := .tuple #[.slice none 0 0, .int .i64 7]) (by simp [results, Tryz.results99, go_sem]) rfl (HNO.out (by rw [HQ.out]; rfl))
  have HYES : Hid (cookB t n cold cooling = true) := by refine hid ?_; rw [HQ.out, h5]; rfl
  have h5' : ¬ 2000 < n + cooling := by simpa using h5
  have HCL := hid (show cookL t n cold cooling = List.replicate n.toNat t ++ List.replicate cooling.toNat cold by unfold cookL; rw [if_pos HYES.out])
  clear HQ HNO HT3 HT4 HW1 HW2 HW3 HW4
  obtain ⟨n', rfl⟩ := Int.eq_ofNat_of_zero_le n1
  obtain ⟨m', rfl⟩ := Int.eq_ofNat_of_zero_le m1
  rw [Int.toNat_natCast, Int.toNat_natCast] at HCL
  have HB := hid (show n' ≤ 2000 ∧ m' ≤ 2000 ∧ n' + m' ≤ 2000 by omega)
  obtain ⟨i0, hi, hz0, hz1, hz2⟩ := info_parts infoQc
  have HR1 := hid (fun W => xrep_any t n' W HB.out.1)
  have HR2 := hid (fun W => xrep_any cold m' W HB.out.2.1)
  have HLN := hid (show (List.replicate n' t).length = n' ∧ (List.replicate m' cold).length = m' by simp)
  generalize List.replicate n' t = F1 at *
  generalize List.replicate m' cold = F2 at *
  go_wp2_with fail
  refine (HR1.out _).mono ?_
  rintro e w1 ⟨v1, rfl, ho1, hb1⟩
  have HO1 := hid ho1
  have HB1 := hid hb1
  obtain ⟨a1, c1, rfl⟩ := own_shapeP ho1
  clear ho1 hb1
  go_wp2_with fail
  refine (HR2.out _).mono ?_
  rintro e w2 ⟨v2, rfl, ho2, hb2⟩
  have HO2 := hid (own_kept2 HO1.out hb2)
  have HB2 := hid (bstep HB1.out HB1.out.size hb2)
  have HI2 := hid (NewI.rowI ho2 (by rw [HLN.out.2]; have := HB.out; omega))
  obtain ⟨a2, c2, rfl⟩ := own_shapeP ho2
  clear ho2 hb2
  go_wp2_with (at_builtin; (refine wpList_app rfl (.tmp 36) (.tmp 39) 28 rfl w.heap.size 3 i0 Tryz.underlying28 hi hz0 hz1 hz2 _ (ivs F1) rfl HO2.out _ F2 rfl HI2.out.src (by rw [ivs_len, HLN.out.1, HLN.out.2]; have := HB.out; omega) HB2.out.size ?_); intro v3 w6 hA1; have HB6 := hid (app_low HB2.out HO2.out (Nat.le_refl _) hA1); have HO6 := hid (app_next hA1); obtain ⟨a3, c3, rfl⟩ := own_shapeP HO6.out; clear hA1)
  refine bodyPost_ret (v := .tuple #[.slice a3 (F1 ++ F2).length c3, .int .i64 0]) (by simp [results, Tryz.results99, go_sem]) rfl ?_
  refine ⟨_, by rw [HYES.out]; rfl, ?_, HB6.out⟩
  rw [HCL.out]
  exact own_rowI HO6.out (by rw [List.length_append, HLN.out.1, HLN.out.2]; have := HB.out; omega)
set_option maxRecDepth 20000 in
set_option maxHeartbeats 4000000 in
theorem xenough_any (r l a b k a2 b2 : Int) (w : World) (q : Kl) (t bath cold cooling n : Int) (hs : q.s.size ≤ maxLen) :
    Calls Tryz.prog 59 #[.agg #[.int .i64 r, .int .i64 l, .int .i64 a, .int .i64 b, .int .i64 k, .int .i64 a2, .int .i64 b2], .agg #[.string q.s, .int .i64 q.r, .int .i64 q.z, .int .i64 q.d, .int .i64 q.g], .int .i64 t, .int .i64 bath, .int .i64 cold, .int .i64 cooling, .int .i64 n] w fun e w' => e = .returned (.bool (sterO q (lowO (sumsO r l a b k a2 b2 q t (cookL bath n cold cooling))) (chk4 (canB r l a b k a2 b2) q.vB t (cookL bath n cold cooling)))) ∧ Below w.heap.size w w' := by
  have HX := hid (box2_start (w := w) (A := #[.int .i64 r, .int .i64 l, .int .i64 a, .int .i64 b, .int .i64 k, .int .i64 a2, .int .i64 b2]) (B := #[.string q.s, .int .i64 q.r, .int .i64 q.z, .int .i64 q.d, .int .i64 q.g]) (T := 23) (T' := 25) (fz := (0, 0)) (fz' := (0, 0)))
  have HC := hid (fun W => xcook_any bath n cold cooling W)
  have HST := hid (fun (W : World) (v : Value) (h : RowI W v (cookL bath n cold cooling)) => xster_any r l a b k a2 b2 W q t v (cookL bath n cold cooling) hs h (by have := cookL_len bath n cold cooling; unfold maxLen; omega))
  generalize sterO q (lowO (sumsO r l a b k a2 b2 q t (cookL bath n cold cooling))) (chk4 (canB r l a b k a2 b2) q.vB t (cookL bath n cold cooling)) = so at *
  generalize chk4 (canB r l a b k a2 b2) q.vB t (cookL bath n cold cooling) = ce at *
  clear hs
  go_enter Tryz.func59, Tryz.ntmps59
  go_wp2_with fail
  refine (HC.out _).mono ?_
  rintro e w1 ⟨v, rfl, hr, hb⟩
  have HX := hid (HX.out.keep hb)
  have HR := hid hr
  clear hr hb
  generalize (if cookB bath n cold cooling = true then (0 : Int) else 7) = ck at *
  have t0 := HX.out.fst 0; have t1 := HX.out.fst 1; have t2 := HX.out.fst 2; have t3 := HX.out.fst 3; have t4 := HX.out.fst 4; have t5 := HX.out.fst 5; have t6 := HX.out.fst 6
  have x0 := HX.out.snd 0; have x1 := HX.out.snd 1; have x2 := HX.out.snd 2; have x3 := HX.out.snd 3; have x4 := HX.out.snd 4
  simp only [List.getElem?_toArray, List.getElem?_cons_zero, List.getElem?_cons_succ] at t0 t1 t2 t3 t4 t5 t6 x0 x1 x2 x3 x4
  go_wp2_with fail
  refine (HST.out _ _ HR.out).mono ?_
  rintro e w2 ⟨rfl, hb⟩
  have HX := hid (HX.out.keep hb)
  clear hb
  go_wp2_with fail
  go_ret
  exact ⟨rfl, HX.out.low⟩
end Go.Proofs.YtedfajokiblfhaaGreat

/- Walk of the reference's Proved: contract. -/
namespace Go.Proofs.YtedfajokiblfhaaGreat
open Go.RowKit Go.Lib

theorem cookB_le {t bath n cold cooling : Int} (h : (((okT t && okT bath) && okT cold) && tick1 cooling) = true) : cookB bath n cold cooling = (decide (0 ≤ n) && decide (n ≤ 2000 - cooling)) := by
  rw [cookB_eq]
  simp only [Bool.and_eq_true] at h
  obtain ⟨⟨⟨_, h2⟩, h3⟩, h4⟩ := h
  rw [h2, h3, h4]
  unfold tick1 at h4 ⊢
  simp only [Bool.and_eq_true, decide_eq_true_eq] at h4
  rw [Bool.eq_iff_iff]
  simp only [Bool.and_eq_true, decide_eq_true_eq, Bool.not_eq_true', decide_eq_false_iff_not, true_and, and_true]
  omega
theorem sterP_err {r l a b k a2 b2 : Int} {q : Kl} {t bath cold cooling : Int} (h : leE (canB r l a b k a2 b2) q.vB t bath cold cooling ≠ 0) (n : Int) : sterP r l a b k a2 b2 q t bath cold cooling n = false := by
  unfold sterP sterO
  unfold leE at h
  split at h
  · rename_i h1
    rw [chk4_no (by rw [Bool.and_comm]; exact h1)]
    simp
  · split at h
    · rename_i h1 h2
      by_cases ho : okT t = true
      · have hc : cookB bath n cold cooling = false := by
          rw [cookB_eq]
          cases hb : okT bath
          · rfl
          cases hk : okT cold
          · rfl
          rw [ho, hb, hk] at h2
          simp only [Bool.true_and] at h2
          rw [h2]
          simp
        rw [hc]; rfl
      · rw [chk4_far (by rw [Bool.and_comm]; simpa using h1) (by simp at ho; rw [ho]; rfl)]
        simp
    · exact absurd rfl h
theorem leE_zero {vc vk : Bool} {t bath cold cooling : Int} (h : leE vc vk t bath cold cooling = 0) : (((okT t && okT bath) && okT cold) && tick1 cooling) = true := by
  unfold leE at h
  split at h
  · cases h
  · split at h
    · cases h
    · rename_i h2
      cases hx : (((okT t && okT bath) && okT cold) && tick1 cooling) with
      | true => rfl
      | false => exact absurd hx h2
set_option maxRecDepth 20000 in
set_option maxHeartbeats 4000000 in
theorem xproved_any (r l a b k a2 b2 : Int) (w : World) (q : Kl) (t bath cold cooling n : Int) (hs : q.s.size ≤ maxLen) :
    Calls Tryz.prog 27 #[.agg #[.int .i64 r, .int .i64 l, .int .i64 a, .int .i64 b, .int .i64 k, .int .i64 a2, .int .i64 b2], .agg #[.string q.s, .int .i64 q.r, .int .i64 q.z, .int .i64 q.d, .int .i64 q.g], .int .i64 t, .int .i64 bath, .int .i64 cold, .int .i64 cooling, .int .i64 n] w fun e w' => e = .returned (.bool (provO (sterP r l a b k a2 b2 q t bath cold cooling) n)) ∧ Below w.heap.size w w' := by
  have HX := hid (box2_start (w := w) (A := #[.int .i64 r, .int .i64 l, .int .i64 a, .int .i64 b, .int .i64 k, .int .i64 a2, .int .i64 b2]) (B := #[.string q.s, .int .i64 q.r, .int .i64 q.z, .int .i64 q.d, .int .i64 q.g]) (T := 23) (T' := 25) (fz := (0, 0)) (fz' := (0, 0)))
  have HE := hid (fun W => xlerr_any r l a b k a2 b2 W q t bath cold cooling hs)
  have HEN := hid (fun n W => xenough_any r l a b k a2 b2 W q t bath cold cooling n hs)
  have HER := hid (fun h n => sterP_err (r := r) (l := l) (a := a) (b := b) (k := k) (a2 := a2) (b2 := b2) (q := q) (t := t) (bath := bath) (cold := cold) (cooling := cooling) h n)
  have HZ := hid (fun h => leE_zero (vc := canB r l a b k a2 b2) (vk := q.vB) (t := t) (bath := bath) (cold := cold) (cooling := cooling) h)
  have HSP := hid (fun n => show sterP r l a b k a2 b2 q t bath cold cooling n = (cookB bath n cold cooling && sterO q (lowO (sumsO r l a b k a2 b2 q t (cookL bath n cold cooling))) (chk4 (canB r l a b k a2 b2) q.vB t (cookL bath n cold cooling))) from rfl)
  generalize leE (canB r l a b k a2 b2) q.vB t bath cold cooling = le at *
  obtain ⟨en, hen⟩ : ∃ en : Int → Bool, en = fun n => sterO q (lowO (sumsO r l a b k a2 b2 q t (cookL bath n cold cooling))) (chk4 (canB r l a b k a2 b2) q.vB t (cookL bath n cold cooling)) := ⟨_, rfl⟩
  have HEN : Hid (∀ (n : Int) (W : World), Calls Tryz.prog 59 #[.agg #[.int .i64 r, .int .i64 l, .int .i64 a, .int .i64 b, .int .i64 k, .int .i64 a2, .int .i64 b2], .agg #[.string q.s, .int .i64 q.r, .int .i64 q.z, .int .i64 q.d, .int .i64 q.g], .int .i64 t, .int .i64 bath, .int .i64 cold, .int .i64 cooling, .int .i64 n] W fun e w' => e = .returned (.bool (en n)) ∧ Below W.heap.size W w') := by rw [hen]; exact HEN
  have HSP : Hid (∀ n, sterP r l a b k a2 b2 q t bath cold cooling n = (cookB bath n cold cooling && en n)) := by rw [hen]; exact HSP
  clear hen
  generalize sterP r l a b k a2 b2 q t bath cold cooling = T at *
  clear hs
  go_enter Tryz.func27, Tryz.ntmps27
  go_wp2_with fail
  refine (HE.out _).mono ?_
  rintro e w1 ⟨rfl, hb⟩
  have HX := hid (HX.out.keep hb)
  clear hb
  by_cases hle : le = 0
  case neg =>
    have HF := hid (show provO T n = false by unfold provO; rw [HER.out hle n]; rfl)
    have hl1 : (le != 0) = true := by simpa using hle
    clear hle
    go_wp2_with fail
    refine bodyPost_ret (v := .bool false) (by simp [results, Tryz.results27, go_sem]) rfl ⟨by rw [HF.out], HX.out.low⟩
  have hz := HZ.out hle
  have hcool : 0 ≤ cooling ∧ cooling ≤ 2000 := by
    simp only [Bool.and_eq_true, tick1, decide_eq_true_eq] at hz
    exact hz.2
  have HCB := hid (fun n => cookB_le (t := t) (bath := bath) (n := n) (cold := cold) (cooling := cooling) hz)
  have HIN := hid (fun W => xin_any n 0 (2000 - cooling) W)
  obtain ⟨hc1, hc2⟩ := hcool
  subst hle
  clear hz HZ HER
  go_wp2_with fail
  refine (HIN.out _).mono ?_
  rintro e w2 ⟨rfl, rfl⟩
  cases hin : (decide (0 ≤ n) && decide (n ≤ 2000 - cooling))
  · have HF := hid (show provO T n = false by unfold provO; rw [HSP.out n, HCB.out n, hin]; rfl)
    go_wp2_with fail
    refine bodyPost_ret (v := .bool false) (by simp [results, Tryz.results27, go_sem]) rfl ⟨by rw [HF.out], HX.out.low⟩
  have hn : 0 ≤ n ∧ n ≤ 2000 - cooling := by simpa using hin
  obtain ⟨hn1, hn2⟩ := hn
  have HTN := hid (show T n = en n by rw [HSP.out n, HCB.out n, hin]; rfl)
  have HTM := hid (show n ≠ 0 → T (n - 1) = en (n - 1) from fun h => by rw [HSP.out (n - 1), HCB.out (n - 1), show (decide (0 ≤ n - 1) && decide (n - 1 ≤ 2000 - cooling)) = true by simp; omega]; rfl)
  clear hin
  have t0 := HX.out.fst 0; have t1 := HX.out.fst 1; have t2 := HX.out.fst 2; have t3 := HX.out.fst 3; have t4 := HX.out.fst 4; have t5 := HX.out.fst 5; have t6 := HX.out.fst 6
  have x0 := HX.out.snd 0; have x1 := HX.out.snd 1; have x2 := HX.out.snd 2; have x3 := HX.out.snd 3; have x4 := HX.out.snd 4
  simp only [List.getElem?_toArray, List.getElem?_cons_zero, List.getElem?_cons_succ] at t0 t1 t2 t3 t4 t5 t6 x0 x1 x2 x3 x4
  go_wp2_with fail
  refine (HEN.out n _).mono ?_
  rintro e w3 ⟨rfl, hb⟩
  have HX := hid (HX.out.keep hb)
  clear hb t0 t1 t2 t3 t4 t5 t6 x0 x1 x2 x3 x4
  cases hen : en n
  · have HF := hid (show provO T n = false by unfold provO; rw [HTN.out, hen]; rfl)
    go_wp2_with fail
    refine bodyPost_ret (v := .bool false) (by simp [results, Tryz.results27, go_sem]) rfl ⟨by rw [HF.out], HX.out.low⟩
  by_cases h0 : n = 0
  · have HF := hid (show provO T n = true by unfold provO; rw [HTN.out, hen, decide_eq_true h0]; rfl)
    subst h0
    go_wp2_with fail
    refine bodyPost_ret (v := .bool true) (by simp [results, Tryz.results27, go_sem]) rfl ⟨by rw [HF.out], HX.out.low⟩
  · have HF := hid (show provO T n = !en (n - 1) by unfold provO; rw [HTN.out, hen, decide_eq_false h0, HTM.out h0]; rfl)
    have t0 := HX.out.fst 0; have t1 := HX.out.fst 1; have t2 := HX.out.fst 2; have t3 := HX.out.fst 3; have t4 := HX.out.fst 4; have t5 := HX.out.fst 5; have t6 := HX.out.fst 6
    have x0 := HX.out.snd 0; have x1 := HX.out.snd 1; have x2 := HX.out.snd 2; have x3 := HX.out.snd 3; have x4 := HX.out.snd 4
    simp only [List.getElem?_toArray, List.getElem?_cons_zero, List.getElem?_cons_succ] at t0 t1 t2 t3 t4 t5 t6 x0 x1 x2 x3 x4
    go_wp2_with fail
    refine (HEN.out (n - 1) _).mono ?_
    rintro e w4 ⟨rfl, hb⟩
    have HX := hid (HX.out.keep hb)
    clear hb t0 t1 t2 t3 t4 t5 t6 x0 x1 x2 x3 x4
    go_wp2_with fail
    refine bodyPost_ret (v := .bool (!en (n - 1))) (by simp [results, Tryz.results27, go_sem, h0]) rfl ⟨by rw [HF.out], HX.out.low⟩
end Go.Proofs.YtedfajokiblfhaaGreat
