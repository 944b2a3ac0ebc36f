/- Norms: plain facts; walks of ValidNorm of both: contracts. -/
import Derived.Test.YtjfakhfkbnnbcaaKd
import Derived.Laws.Tables
import Derived.IntWalk
namespace Go.Proofs.Ytjfakhfkbnnbcaa
open Go.RowKit

/-- A norm. -/
structure Nm where
  bl : Int
  bh : Int
  cl : Int
  ch : Int
  pc : Int
  wr : Int
  tl : Int
  th : Int
  sl : Int
  sh : Int
def prX (n : Nm) : Nat → Int
  | 0 => n.bl
  | 1 => n.cl
  | 2 => n.tl
  | _ => n.sl
def prY (n : Nm) : Nat → Int
  | 0 => n.bh
  | 1 => n.ch
  | 2 => n.th
  | _ => n.sh
def prB (n : Nm) (k : Nat) : Bool := inB (prX n k) 0 20000 && inB (prY n k) (prX n k) 20000
def nmB (n : Nm) : Bool := allB 4 (prB n) && (inB n.pc 0 100 && inB n.wr 0 100)
theorem prB_code (n : Nm) (k : Nat) : prB n k = (!decide (prY n k < prX n k) && allW 0 20000 [prX n k, prY n k]) := by
  unfold prB allW
  rw [Bool.eq_iff_iff]
  simp only [Bool.and_eq_true, Bool.not_eq_true', decide_eq_false_iff_not, List.all_cons, List.all_nil, Bool.and_true, inB_iff]
  omega
theorem nm_bad {n : Nm} {k : Nat} (hk : k < 4) (h : prB n k = false) : nmB n = false := by unfold nmB; rw [allB_bad hk h]; rfl
theorem nm_end {n : Nm} (h : ∀ j, j < 4 → prB n j = true) : nmB n = (inB n.pc 0 100 && inB n.wr 0 100) := by unfold nmB; rw [allB_end h]; rfl
theorem nm_end2 {n : Nm} (h : ∀ j, j < 4 → prB n j = true) : nmB n = allW 0 100 [n.pc, n.wr] := by rw [nm_end h]; simp [allW]
theorem info_p2 : (Try.prog.info? 84).map (·.size) = some 2 := by kernel_rfl
theorem ixN (n : Nm) (k : Nat) (hk : k < 4) (w : World) : Sem.run Try.prog (Instr.index 85 (.agg #[.int .i64 n.bl, .int .i64 n.bh, .int .i64 n.cl, .int .i64 n.ch, .int .i64 n.tl, .int .i64 n.th, .int .i64 n.sl, .int .i64 n.sh]) (.int .i64 (k : Int))) w = .ok (.agg #[.int .i64 (prX n k), .int .i64 (prY n k)]) w := by
  obtain ⟨i0, hi, hs⟩ : ∃ i, Try.prog.info? 84 = some i ∧ i.size = 2 := by
    have h1 := info_p2
    cases h2 : Try.prog.info? 84 with
    | none => rw [h2] at h1; cases h1
    | some i => rw [h2] at h1; exact ⟨i, rfl, Option.some.inj h1⟩
  rcases (show k = 0 ∨ k = 1 ∨ k = 2 ∨ k = 3 by omega) with rfl | rfl | rfl | rfl
  · simp [Instr.index, run_underlying Try.underlying85, asIntOf, sizeOf, typeInfo, hi, hs, go_sem, prX, prY]
  · simp [Instr.index, run_underlying Try.underlying85, asIntOf, sizeOf, typeInfo, hi, hs, go_sem, prX, prY]
  · simp [Instr.index, run_underlying Try.underlying85, asIntOf, sizeOf, typeInfo, hi, hs, go_sem, prX, prY]
  · simp [Instr.index, run_underlying Try.underlying85, asIntOf, sizeOf, typeInfo, hi, hs, go_sem, prX, prY]
theorem kxwithin_q (a b c : Int) (B : Bool) (w : World) (h : inB a b c = B) : Calls Try.prog 42 #[.int .i64 a, .int .i64 b, .int .i64 c] w fun e w' => e = .returned (.bool B) ∧ w' = w := by
  rw [← h]
  exact (kxwithin_any a b c w).mono fun _ _ ⟨h1, h2⟩ => ⟨h1, h2.symm⟩
/-- A box of a norm. -/
def BoxN (W : World) (b : Nat) (n : Nm) : Prop := ∀ i, W.cell? ⟨b, i, none⟩ = (#[.int .i64 n.bl, .int .i64 n.bh, .int .i64 n.cl, .int .i64 n.ch, .int .i64 n.pc, .int .i64 n.wr, .int .i64 n.tl, .int .i64 n.th, .int .i64 n.sl, .int .i64 n.sh] : Array Value)[i]?
theorem BoxN.keep {W w2 : World} {b : Nat} {n : Nm} (h : BoxN W b n) (hb : Below W.heap.size W w2) : BoxN w2 b n := fun i => ((bcell hb).1 b i (World.block_lt_of_cell? W ⟨b, 0, none⟩ (h 0))).trans (h i)
set_option maxRecDepth 20000 in
set_option maxHeartbeats 4000000 in
theorem knorm_any (n : Nm) (w : World) : Calls Try.prog 27 #[.agg #[.int .i64 n.bl, .int .i64 n.bh, .int .i64 n.cl, .int .i64 n.ch, .int .i64 n.pc, .int .i64 n.wr, .int .i64 n.tl, .int .i64 n.th, .int .i64 n.sl, .int .i64 n.sh]] w fun e w' => e = .returned (.bool (nmB n)) ∧ Below w.heap.size w w' := by
  have HBX := hid (box2_start (w := w) (A := #[.int .i64 n.bl, .int .i64 n.bh, .int .i64 n.cl, .int .i64 n.ch, .int .i64 n.pc, .int .i64 n.wr, .int .i64 n.tl, .int .i64 n.th, .int .i64 n.sl, .int .i64 n.sh]) (B := #[.int .i64 n.bl, .int .i64 n.bh, .int .i64 n.cl, .int .i64 n.ch, .int .i64 n.tl, .int .i64 n.th, .int .i64 n.sl, .int .i64 n.sh]) (T := 23) (T' := 85) (fz := (0, 0)) (fz' := (0, 0)))
  go_enter Try.func27, Try.ntmps27
  go_wp2
  generalize World.alloc (World.alloc w _) _ = W at *
  go_loopw [28] (fun t wr => ∃ k : Nat, k ≤ 4 ∧ t = .int .i64 (k : Int) ∧ Hid (∀ j, j < k → prB n j = true) ∧ Hid (Box2 w wr #[.int .i64 n.bl, .int .i64 n.bh, .int .i64 n.cl, .int .i64 n.ch, .int .i64 n.pc, .int .i64 n.wr, .int .i64 n.tl, .int .i64 n.th, .int .i64 n.sl, .int .i64 n.sh] #[.int .i64 n.bl, .int .i64 n.bh, .int .i64 n.cl, .int .i64 n.ch, .int .i64 n.tl, .int .i64 n.th, .int .i64 n.sl, .int .i64 n.sh])) (fun t _ => 4 - (intOf t).toNat)
  case atStart => exact ⟨0, Nat.zero_le _, rfl, fun j h => absurd h (Nat.not_lt_zero j), HBX⟩
  case round =>
    obtain ⟨k, hk, rfl, hok, hbx⟩ := hrel
    by_cases hlt : k < 4
    · have hlt' : (k : Int) < 4 := by omega
      have hix := ixN n k hlt
      have HP := hid (prB_code n k)
      have HST := hid (fun h => all_step (p := prB n) (k := k) hok.out h)
      have HBAD := hid (fun h => nm_bad (n := n) hlt h)
      obtain ⟨a, ha⟩ : ∃ a, a = prX n k := ⟨_, rfl⟩
      obtain ⟨b, hb⟩ : ∃ b, b = prY n k := ⟨_, rfl⟩
      rw [← ha, ← hb] at hix HP
      have HLT := hid hlt
      have HBK := hid (fun w2 (g : Below wr.heap.size wr w2) => hbx.out.keep g)
      have HB1 := hid (show Below wr.heap.size wr (wr.alloc (.cells #[.int .i64 a, .int .i64 b] 84)) from (Below.refl _ _).alloc (Nat.le_refl _) _)
      clear ha hb hlt
      by_cases hab : b < a
      · have HE := hid (HBAD.out (by rw [HP.out, decide_eq_true hab]; rfl))
        go_wp2_with fail
        go_ret
        exact ⟨ret_bool HE.out.symm, (HBK.out _ HB1.out).low⟩
      · have HB2 := hid (bstep HB1.out HB1.out.size ((Below.refl _ _).alloc (Nat.le_refl _) (.cells #[.int .i64 a, .int .i64 b] 3)))
        cases hW : allW 0 20000 [a, b]
        · have HE := hid (HBAD.out (by rw [HP.out, decide_eq_false hab, hW]; rfl))
          have HW := hid hW
          clear hW
          go_wp2_with (go_at_call 56; refine (allw_any _ _ _ [a, b] _ (rowI_two (by simp))).mono ?_; rintro e w3 ⟨rfl, rfl⟩; rw [HW.out])
          go_ret
          exact ⟨ret_bool HE.out.symm, (HBK.out _ HB2.out).low⟩
        · have HE := hid (HST.out (by rw [HP.out, decide_eq_false hab, hW]; rfl))
          have HW := hid hW
          clear hW
          go_wp2_with (go_at_call 56; refine (allw_any _ _ _ [a, b] _ (rowI_two (by simp))).mono ?_; rintro e w3 ⟨rfl, rfl⟩; rw [HW.out])
          have HX2 := hid (HBK.out _ HB2.out)
          go_roundw
          case rel => exact ⟨k + 1, HLT.out, by go_num, HE, HX2⟩
          case measure => have := HLT.out; simp [intOf]; omega
    · obtain rfl : k = 4 := by omega
      have HE := hid (nm_end2 hok.out)
      obtain ⟨p4, p5⟩ := show wr.cell? ⟨w.heap.size, 4, none⟩ = some (.int .i64 n.pc) ∧ wr.cell? ⟨w.heap.size, 5, none⟩ = some (.int .i64 n.wr) from ⟨hbx.out.fst 4, hbx.out.fst 5⟩
      have HB2 := hid (hbx.out.low.alloc hbx.out.low.size (.cells #[.int .i64 n.pc, .int .i64 n.wr] 3))
      obtain ⟨B, hB⟩ : ∃ B, B = allW 0 100 [n.pc, n.wr] := ⟨_, rfl⟩
      have HBB := hid hB
      rw [← hB] at HE
      clear hB
      go_wp2_with (go_at_call 56; refine (allw_any _ _ _ [n.pc, n.wr] _ (rowI_two rfl)).mono ?_; rintro e w3 ⟨rfl, rfl⟩; rw [← HBB.out])
      go_ret
      exact ⟨ret_bool HE.out.symm, HB2.out⟩
set_option maxRecDepth 20000 in
set_option maxHeartbeats 8000000 in
theorem kxnorm_any (n : Nm) (w : World) : Calls Try.prog 34 #[.agg #[.int .i64 n.bl, .int .i64 n.bh, .int .i64 n.cl, .int .i64 n.ch, .int .i64 n.pc, .int .i64 n.wr, .int .i64 n.tl, .int .i64 n.th, .int .i64 n.sl, .int .i64 n.sh]] w fun e w' => e = .returned (.bool (nmB n)) ∧ Below w.heap.size w w' := by
  have HBX := hid (box2_start (w := w) (A := #[.int .i64 n.bl, .int .i64 n.bh, .int .i64 n.cl, .int .i64 n.ch, .int .i64 n.pc, .int .i64 n.wr, .int .i64 n.tl, .int .i64 n.th, .int .i64 n.sl, .int .i64 n.sh]) (B := #[.int .i64 n.bl, .int .i64 n.bh, .int .i64 n.cl, .int .i64 n.ch, .int .i64 n.tl, .int .i64 n.th, .int .i64 n.sl, .int .i64 n.sh]) (T := 23) (T' := 84) (fz := (0, 0)) (fz' := (0, 0)))
  go_enter Try.func34, Try.ntmps34
  go_wp2
  generalize World.alloc (World.alloc w _) _ = W at *
  go_loopw [4] (fun t wr => ∃ k : Nat, k ≤ 4 ∧ t = .int .i64 (k : Int) ∧ Hid (∀ j, j < k → prB n j = true) ∧ Hid (Box2 w wr #[.int .i64 n.bl, .int .i64 n.bh, .int .i64 n.cl, .int .i64 n.ch, .int .i64 n.pc, .int .i64 n.wr, .int .i64 n.tl, .int .i64 n.th, .int .i64 n.sl, .int .i64 n.sh] #[.int .i64 n.bl, .int .i64 n.bh, .int .i64 n.cl, .int .i64 n.ch, .int .i64 n.tl, .int .i64 n.th, .int .i64 n.sl, .int .i64 n.sh])) (fun t _ => 4 - (intOf t).toNat)
  case atStart => exact ⟨0, Nat.zero_le _, rfl, fun j h => absurd h (Nat.not_lt_zero j), HBX⟩
  case round =>
    obtain ⟨k, hk, rfl, hok, hbx⟩ := hrel
    by_cases hlt : k < 4
    · have hlt' : (k : Int) < 4 := by omega
      have HP := hid (show prB n k = (inB (prX n k) 0 20000 && inB (prY n k) (prX n k) 20000) from rfl)
      have HST := hid (fun h => all_step (p := prB n) (k := k) hok.out h)
      have HBAD := hid (fun h => nm_bad (n := n) hlt h)
      have hc0 : wr.cell? ⟨w.heap.size + 1, k * 2, none⟩ = some (.int .i64 (prX n k)) := by
        rw [hbx.out.snd]
        rcases (show k = 0 ∨ k = 1 ∨ k = 2 ∨ k = 3 by omega) with rfl | rfl | rfl | rfl <;> rfl
      have hc1 : wr.cell? ⟨w.heap.size + 1, k * 2 + 1, none⟩ = some (.int .i64 (prY n k)) := by
        rw [hbx.out.snd]
        rcases (show k = 0 ∨ k = 1 ∨ k = 2 ∨ k = 3 by omega) with rfl | rfl | rfl | rfl <;> rfl
      obtain ⟨a, ha⟩ : ∃ a, a = prX n k := ⟨_, rfl⟩
      obtain ⟨b, hb⟩ : ∃ b, b = prY n k := ⟨_, rfl⟩
      rw [← ha] at hc0
      rw [← hb] at hc1
      rw [← ha, ← hb] at HP
      have HLT := hid hlt
      have HBK := hid (fun w2 (g : Below wr.heap.size wr w2) => hbx.out.keep g)
      clear ha hb hlt
      cases h1 : inB a 0 20000
      · have HE := hid (HBAD.out (by rw [HP.out, h1]; rfl))
        have H1 := hid h1
        clear h1
        go_wp2
        go_quiet ((go_at_call 42; exact Calls.quiet_of_same (kxwithin_q _ _ _ _ _ H1.out)))
        have HB2 := hid (HBK.out _ (bdrewN (n := nq) (Below.refl _ _)))
        go_wp2
        go_ret
        exact ⟨ret_bool HE.out.symm, HB2.out.low⟩
      · have H1 := hid h1
        clear h1
        cases h2 : inB b a 20000
        · have HE := hid (HBAD.out (by rw [HP.out, H1.out, h2]; rfl))
          have H2 := hid h2
          clear h2
          go_wp2
          go_quiet ((go_at_call 42; first | exact Calls.quiet_of_same (kxwithin_q _ _ _ _ _ H1.out) | exact Calls.quiet_of_same (kxwithin_q _ _ _ _ _ H2.out)))
          have HB2 := hid (HBK.out _ (bdrewN (n := nq) (Below.refl _ _)))
          go_wp2
          go_ret
          exact ⟨ret_bool HE.out.symm, HB2.out.low⟩
        · have HE := hid (HST.out (by rw [HP.out, H1.out, h2]; rfl))
          have H2 := hid h2
          clear h2
          go_wp2
          go_quiet ((go_at_call 42; first | exact Calls.quiet_of_same (kxwithin_q _ _ _ _ _ H1.out) | exact Calls.quiet_of_same (kxwithin_q _ _ _ _ _ H2.out)))
          have HB2 := hid (HBK.out _ (bdrewN (n := nq) (Below.refl _ _)))
          go_wp2
          go_roundw
          case rel => exact ⟨k + 1, HLT.out, by go_num, HE, HB2⟩
          case measure => have := HLT.out; simp [intOf]; omega
    · obtain rfl : k = 4 := by omega
      have HE := hid (nm_end hok.out)
      obtain ⟨p4, p5⟩ := show wr.cell? ⟨w.heap.size, 4, none⟩ = some (.int .i64 n.pc) ∧ wr.cell? ⟨w.heap.size, 5, none⟩ = some (.int .i64 n.wr) from ⟨hbx.out.fst 4, hbx.out.fst 5⟩
      cases h1 : inB n.pc 0 100
      · have HE2 := hid (show nmB n = false by rw [HE.out, h1]; rfl)
        go_wp2_with (go_at_call 42; refine (kxwithin_any _ _ _ _).mono ?_; rintro e w' ⟨rfl, rfl⟩)
        go_ret
        exact ⟨ret_bool HE2.out.symm, hbx.out.low⟩
      · have HE2 := hid (show nmB n = inB n.wr 0 100 by rw [HE.out, h1]; rfl)
        go_wp2_with (go_at_call 42; refine (kxwithin_any _ _ _ _).mono ?_; rintro e w' ⟨rfl, rfl⟩)
        go_ret
        exact ⟨ret_bool HE2.out.symm, hbx.out.low⟩
end Go.Proofs.Ytjfakhfkbnnbcaa
