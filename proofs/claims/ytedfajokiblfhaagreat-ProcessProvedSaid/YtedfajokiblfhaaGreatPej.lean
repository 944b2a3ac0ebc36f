/- Walks of the reference's repeated, Cook, leastError, enoughTicks, Proved: contracts. -/
import Derived.Test.YtedfajokiblfhaaGreatPeg
import Derived.Test.YtedfajokiblfhaaGreatPei
namespace Go.Proofs.YtedfajokiblfhaaGreat
open Go.RowKit Go.Lib

set_option maxHeartbeats 1000000 in
theorem xin_any (n lo hi : Int) (w : World) : Calls Tryz.prog 58 #[.int .i64 n, .int .i64 lo, .int .i64 hi] w fun e w' => e = .returned (.bool (decide (lo ≤ n) && decide (n ≤ hi))) ∧ w = w' := by
  cases h : decide (lo ≤ n)
  · have h' : ¬ lo ≤ n := by simpa using h
    go_enter Tryz.func58, Tryz.ntmps58
    go_wp2
    go_ret
    exact ⟨rfl, rfl⟩
  · have h' : lo ≤ n := by simpa using h
    go_enter Tryz.func58, Tryz.ntmps58
    go_wp2
    go_ret
    exact ⟨rfl, rfl⟩
set_option maxRecDepth 20000 in
set_option maxHeartbeats 4000000 in
theorem xrep_any (t : Int) (n : Nat) (w : World) (hn : n ≤ 2000) : Calls Tryz.prog 96 #[.int .i64 t, .int .i64 n] w (NewI w (List.replicate n t)) := by
  obtain ⟨i0, hi, hz0, hz1, hz2⟩ := info_parts infoQc
  have HR0 : Hid (w.ownsRow w.heap.size 3 1 (.slice none 0 0) (ivs (List.replicate 0 t)).length (ivs (List.replicate 0 t))) := World.ownsRow_nil _ _ _ _
  have HB0 := hid (Below.refl w.heap.size w)
  go_enter Tryz.func96, Tryz.ntmps96
  go_wp2_with fail
  go_loopw [5, 6] (fun u i wr => ∃ k : Nat, k ≤ n ∧ i = .int .i64 (k : Int) ∧ Hid (wr.ownsRow w.heap.size 3 1 u (ivs (List.replicate k t)).length (ivs (List.replicate k t))) ∧ Hid (Below w.heap.size w wr)) (fun _ i _ => n - (intOf i).toNat)
  case atStart => exact ⟨0, Nat.zero_le _, rfl, HR0, HB0⟩
  case round =>
    obtain ⟨k, hk, rfl, hO, hB⟩ := hrel
    obtain ⟨ua, uc, rfl⟩ := own_shapeP hO.out
    by_cases hlt : k < n
    · have hlt' : (k : Int) < n := by omega
      have HS := hid (List.replicate_succ' (n := k) (a := t))
      have HLN := hid (show (List.replicate k t).length ≤ 100000 by rw [List.length_replicate]; omega)
      have HLT := hid hlt
      generalize List.replicate k t = F at *
      clear hlt
      go_wp2_with (at_builtin; (refine wpList_app rfl (.tmp 12) (.tmp 14) 28 rfl w.heap.size 3 i0 Tryz.underlying28 hi hz0 hz1 hz2 _ (ivs F) rfl (World.ownsRow.alloc hO.out _) _ [t] rfl (by exact (one_row _ _ rfl).src) (by rw [ivs_len]; have := HLN.out; simp; omega) (by have := hB.out.size; simp; omega) ?_); intro v3 w6 hA1; have HB6 := hid (app_low (hB.out.alloc hB.out.size _) (World.ownsRow.alloc hO.out _) (Nat.le_refl _) hA1); have HO6 := hid (app_next hA1); obtain ⟨a3, c3, rfl⟩ := own_shapeP HO6.out; clear hA1)
      go_roundw
      case rel => exact ⟨k + 1, HLT.out, by go_num, by have h := HO6.out; rw [List.length_append, List.length_singleton] at h; rw [HS.out, ivs_len, List.length_append, List.length_singleton]; exact hid h, HB6⟩
      case measure => have := HLT.out; simp [intOf]; omega
    · obtain rfl : k = n := by omega
      go_wp2_with fail
      go_ret
      exact ⟨_, rfl, hO.out, hB.out⟩
/-- The first error of a least cook. -/
def leE (vc vk : Bool) (t bath cold cooling : Int) : Int := if (vc && vk) = false then 1 else if (((okT t && okT bath) && okT cold) && tick1 cooling) = false then 7 else 0
theorem tick1_in (x : Int) : (decide (0 ≤ x) && decide (x ≤ 2000)) = tick1 x := rfl
theorem okT_in (x : Int) : (decide (-50000 ≤ x) && decide (x ≤ 200000)) = okT x := rfl
set_option maxRecDepth 20000 in
set_option maxHeartbeats 4000000 in
theorem xlerr_any (r l a b k a2 b2 : Int) (w : World) (q : Kl) (t bath cold cooling : Int) (hs : q.s.size ≤ maxLen) :
    Calls Tryz.prog 54 #[.agg #[.int .i64 r, .int .i64 l, .int .i64 a, .int .i64 b, .int .i64 k, .int .i64 a2, .int .i64 b2], .agg #[.string q.s, .int .i64 q.r, .int .i64 q.z, .int .i64 q.d, .int .i64 q.g], .int .i64 t, .int .i64 bath, .int .i64 cold, .int .i64 cooling] w fun e w' => e = .returned (.int .i64 (leE (canB r l a b k a2 b2) q.vB t bath cold cooling)) ∧ Below w.heap.size w w' := by
  have HX := hid (box2_start (w := w) (A := #[.int .i64 r, .int .i64 l, .int .i64 a, .int .i64 b, .int .i64 k, .int .i64 a2, .int .i64 b2]) (B := #[.string q.s, .int .i64 q.r, .int .i64 q.z, .int .i64 q.d, .int .i64 q.g]) (T := 23) (T' := 25) (fz := (0, 0)) (fz' := (0, 0)))
  have HV := hid (fun W => rvcan_any r l a b k a2 b2 W)
  have HQ : Hid (∀ W, Calls Tryz.prog 57 #[.agg #[.string q.s, .int .i64 q.r, .int .i64 q.z, .int .i64 q.d, .int .i64 q.g]] W fun e w' => e = .returned (.bool q.vB) ∧ Below W.heap.size W w') := fun W => Lt.rvalid_any q.s q.r q.z q.d q.g W hs
  clear hs
  unfold leE
  cases h1 : canB r l a b k a2 b2
  · rw [h1] at HV
    go_enter Tryz.func54, Tryz.ntmps54
    go_wp2_with fail
    refine (HV.out _).mono ?_
    rintro e w1 ⟨rfl, hb⟩
    have HX := hid (HX.out.keep hb)
    clear hb
    go_wp2_with fail
    go_ret
    exact ⟨rfl, HX.out.low⟩
  rw [h1] at HV
  cases h2 : q.vB
  · rw [h2] at HQ
    go_enter Tryz.func54, Tryz.ntmps54
    go_wp2_with fail
    refine (HV.out _).mono ?_
    rintro e w1 ⟨rfl, hb⟩
    have HX := hid (HX.out.keep hb)
    clear hb
    have x0 := HX.out.snd 0; have x1 := HX.out.snd 1; have x2 := HX.out.snd 2; have x3 := HX.out.snd 3; have x4 := HX.out.snd 4
    simp only [List.getElem?_toArray, List.getElem?_cons_zero, List.getElem?_cons_succ] at x0 x1 x2 x3 x4
    go_wp2_with fail
    refine (HQ.out _).mono ?_
    rintro e w2 ⟨rfl, hb⟩
    have HX := hid (HX.out.keep hb)
    clear hb x0 x1 x2 x3 x4
    go_wp2_with fail
    go_ret
    exact ⟨rfl, HX.out.low⟩
  rw [h2] at HQ
  have HW1 : Hid (∀ W, Calls Tryz.prog 76 #[.int .i64 t] W fun e w' => e = .returned (.bool (okT t)) ∧ W = w') := fun W => warm_any t W
  have HW2 : Hid (∀ W, Calls Tryz.prog 76 #[.int .i64 bath] W fun e w' => e = .returned (.bool (okT bath)) ∧ W = w') := fun W => warm_any bath W
  have HW3 : Hid (∀ W, Calls Tryz.prog 76 #[.int .i64 cold] W fun e w' => e = .returned (.bool (okT cold)) ∧ W = w') := fun W => warm_any cold W
  have HW4 : Hid (∀ W, Calls Tryz.prog 58 #[.int .i64 cooling, .int .i64 0, .int .i64 2000] W fun e w' => e = .returned (.bool (tick1 cooling)) ∧ W = w') := fun W => xin_any cooling 0 2000 W
  generalize okT t = b1 at *
  generalize okT bath = b2' at *
  generalize okT cold = b3 at *
  generalize tick1 cooling = b4 at *
  go_enter Tryz.func54, Tryz.ntmps54
  go_wp2_with fail
  refine (HV.out _).mono ?_
  rintro e w1 ⟨rfl, hb⟩
  have HX := hid (HX.out.keep hb)
  clear hb
  have x0 := HX.out.snd 0; have x1 := HX.out.snd 1; have x2 := HX.out.snd 2; have x3 := HX.out.snd 3; have x4 := HX.out.snd 4
  simp only [List.getElem?_toArray, List.getElem?_cons_zero, List.getElem?_cons_succ] at x0 x1 x2 x3 x4
  go_wp2_with fail
  refine (HQ.out _).mono ?_
  rintro e w2 ⟨rfl, hb⟩
  have HX := hid (HX.out.keep hb)
  clear hb x0 x1 x2 x3 x4
  go_wp2_with fail
  refine (HW1.out _).mono ?_
  rintro e w3 ⟨rfl, rfl⟩
  cases b1
  · go_wp2_with fail
    go_ret
    exact ⟨rfl, HX.out.low⟩
  go_wp2_with fail
  refine (HW2.out _).mono ?_
  rintro e w3 ⟨rfl, rfl⟩
  cases b2'
  · go_wp2_with fail
    go_ret
    exact ⟨rfl, HX.out.low⟩
  go_wp2_with fail
  refine (HW3.out _).mono ?_
  rintro e w3 ⟨rfl, rfl⟩
  cases b3
  · go_wp2_with fail
    go_ret
    exact ⟨rfl, HX.out.low⟩
  go_wp2_with fail
  refine (HW4.out _).mono ?_
  rintro e w3 ⟨rfl, rfl⟩
  cases b4
  · go_wp2_with fail
    go_ret
    exact ⟨rfl, HX.out.low⟩
  · go_wp2_with fail
    go_ret
    exact ⟨rfl, HX.out.low⟩
end Go.Proofs.YtedfajokiblfhaaGreat
