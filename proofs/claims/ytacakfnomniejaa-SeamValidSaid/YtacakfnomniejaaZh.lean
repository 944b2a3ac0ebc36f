/- Walk of SeamValid. -/
import Derived.Test.YtacakfnomniejaaZf
import Derived.Test.YtacakfnomniejaaZg
import Derived.Test.YtacakfnomniejaaOa
namespace Go.Proofs.Ytacakfnomniejaa
open Go.RowKit

theorem nv_new {w W : World} {n : Nm} (h : Hid (Box1 w W #[.int .i64 n.bl, .int .i64 n.bh, .int .i64 n.cl, .int .i64 n.ch, .int .i64 n.pc, .int .i64 n.wr, .int .i64 n.tl, .int .i64 n.th, .int .i64 n.sl, .int .i64 n.sh])) (g : Hid (Below w.heap.size w W)) : World.cell? (W.drew) ⟨w.heap.size, 0, none⟩ = some (.int .i64 n.bl) ∧ World.cell? (W.drew) ⟨w.heap.size, 1, none⟩ = some (.int .i64 n.bh) ∧ World.cell? (W.drew) ⟨w.heap.size, 2, none⟩ = some (.int .i64 n.cl) ∧ World.cell? (W.drew) ⟨w.heap.size, 3, none⟩ = some (.int .i64 n.ch) ∧ World.cell? (W.drew) ⟨w.heap.size, 4, none⟩ = some (.int .i64 n.pc) ∧ World.cell? (W.drew) ⟨w.heap.size, 5, none⟩ = some (.int .i64 n.wr) ∧ World.cell? (W.drew) ⟨w.heap.size, 6, none⟩ = some (.int .i64 n.tl) ∧ World.cell? (W.drew) ⟨w.heap.size, 7, none⟩ = some (.int .i64 n.th) ∧ World.cell? (W.drew) ⟨w.heap.size, 8, none⟩ = some (.int .i64 n.sl) ∧ World.cell? (W.drew) ⟨w.heap.size, 9, none⟩ = some (.int .i64 n.sh) ∧ Hid (Below w.heap.size w (W.drew)) := ⟨h.out.fst 0, h.out.fst 1, h.out.fst 2, h.out.fst 3, h.out.fst 4, h.out.fst 5, h.out.fst 6, h.out.fst 7, h.out.fst 8, h.out.fst 9, hid g.out.drew⟩
theorem nv_keep {w W w2 : World} {n : Nm} (hb : Below W.heap.size W w2) (h : World.cell? (W) ⟨w.heap.size, 0, none⟩ = some (.int .i64 n.bl) ∧ World.cell? (W) ⟨w.heap.size, 1, none⟩ = some (.int .i64 n.bh) ∧ World.cell? (W) ⟨w.heap.size, 2, none⟩ = some (.int .i64 n.cl) ∧ World.cell? (W) ⟨w.heap.size, 3, none⟩ = some (.int .i64 n.ch) ∧ World.cell? (W) ⟨w.heap.size, 4, none⟩ = some (.int .i64 n.pc) ∧ World.cell? (W) ⟨w.heap.size, 5, none⟩ = some (.int .i64 n.wr) ∧ World.cell? (W) ⟨w.heap.size, 6, none⟩ = some (.int .i64 n.tl) ∧ World.cell? (W) ⟨w.heap.size, 7, none⟩ = some (.int .i64 n.th) ∧ World.cell? (W) ⟨w.heap.size, 8, none⟩ = some (.int .i64 n.sl) ∧ World.cell? (W) ⟨w.heap.size, 9, none⟩ = some (.int .i64 n.sh) ∧ Hid (Below w.heap.size w (W))) : World.cell? (w2) ⟨w.heap.size, 0, none⟩ = some (.int .i64 n.bl) ∧ World.cell? (w2) ⟨w.heap.size, 1, none⟩ = some (.int .i64 n.bh) ∧ World.cell? (w2) ⟨w.heap.size, 2, none⟩ = some (.int .i64 n.cl) ∧ World.cell? (w2) ⟨w.heap.size, 3, none⟩ = some (.int .i64 n.ch) ∧ World.cell? (w2) ⟨w.heap.size, 4, none⟩ = some (.int .i64 n.pc) ∧ World.cell? (w2) ⟨w.heap.size, 5, none⟩ = some (.int .i64 n.wr) ∧ World.cell? (w2) ⟨w.heap.size, 6, none⟩ = some (.int .i64 n.tl) ∧ World.cell? (w2) ⟨w.heap.size, 7, none⟩ = some (.int .i64 n.th) ∧ World.cell? (w2) ⟨w.heap.size, 8, none⟩ = some (.int .i64 n.sl) ∧ World.cell? (w2) ⟨w.heap.size, 9, none⟩ = some (.int .i64 n.sh) ∧ Hid (Below w.heap.size w (w2)) := ⟨keep_cell hb h.1, keep_cell hb h.2.1, keep_cell hb h.2.2.1, keep_cell hb h.2.2.2.1, keep_cell hb h.2.2.2.2.1, keep_cell hb h.2.2.2.2.2.1, keep_cell hb h.2.2.2.2.2.2.1, keep_cell hb h.2.2.2.2.2.2.2.1, keep_cell hb h.2.2.2.2.2.2.2.2.1, keep_cell hb h.2.2.2.2.2.2.2.2.2.1, hid (bstep h.2.2.2.2.2.2.2.2.2.2.out h.2.2.2.2.2.2.2.2.2.2.out.size hb)⟩
theorem nv_low {w W : World} {n : Nm} (h : World.cell? (W) ⟨w.heap.size, 0, none⟩ = some (.int .i64 n.bl) ∧ World.cell? (W) ⟨w.heap.size, 1, none⟩ = some (.int .i64 n.bh) ∧ World.cell? (W) ⟨w.heap.size, 2, none⟩ = some (.int .i64 n.cl) ∧ World.cell? (W) ⟨w.heap.size, 3, none⟩ = some (.int .i64 n.ch) ∧ World.cell? (W) ⟨w.heap.size, 4, none⟩ = some (.int .i64 n.pc) ∧ World.cell? (W) ⟨w.heap.size, 5, none⟩ = some (.int .i64 n.wr) ∧ World.cell? (W) ⟨w.heap.size, 6, none⟩ = some (.int .i64 n.tl) ∧ World.cell? (W) ⟨w.heap.size, 7, none⟩ = some (.int .i64 n.th) ∧ World.cell? (W) ⟨w.heap.size, 8, none⟩ = some (.int .i64 n.sl) ∧ World.cell? (W) ⟨w.heap.size, 9, none⟩ = some (.int .i64 n.sh) ∧ Hid (Below w.heap.size w (W))) : Below w.heap.size w W := h.2.2.2.2.2.2.2.2.2.2.out
theorem same_hds {w : World} {u1 u2 : Value} {l : List Int} (h1 : RowI w u1 l) (h2 : RowI w u2 l) : Calls Try.prog 16 #[u1, u2] w fun e w' => e = .returned (.bool true) ∧ Below w.heap.size w w' :=
  (sameI_any w u1 u2 l l h1 h2).mono fun _ _ ⟨he, n, hn⟩ => ⟨by rw [he, decide_eq_true rfl], by rw [hn]; exact bdrewN (n := n) (Below.refl _ _)⟩
set_option maxRecDepth 20000 in
set_option maxHeartbeats 16000000 in
theorem valid_walk (n : Nm) (v : Value) (l : List Sh) (w : World) (hr : RowH w v l) : Calls Try.prog 3 #[.agg #[.int .i64 n.bl, .int .i64 n.bh, .int .i64 n.cl, .int .i64 n.ch, .int .i64 n.pc, .int .i64 n.wr, .int .i64 n.tl, .int .i64 n.th, .int .i64 n.sl, .int .i64 n.sh], v] w fun e w' => e = .returned (.bool true) ∧ Below w.heap.size w w' := by
  have HR := hid (fun w1 (g : Below w.heap.size w w1) => hr.keep g)
  have hm := hr.most
  unfold maxLen at hm
  clear hr
  have HBX := hid (box1_start (w := w) (A := #[.int .i64 n.bl, .int .i64 n.bh, .int .i64 n.cl, .int .i64 n.ch, .int .i64 n.pc, .int .i64 n.wr, .int .i64 n.tl, .int .i64 n.th, .int .i64 n.sl, .int .i64 n.sh]) (T := 23) (fz := (0, 0)))
  have HB0 := hid ((Below.refl w.heap.size w).alloc (Nat.le_refl _) (.cells #[.int .i64 n.bl, .int .i64 n.bh, .int .i64 n.cl, .int .i64 n.ch, .int .i64 n.pc, .int .i64 n.wr, .int .i64 n.tl, .int .i64 n.th, .int .i64 n.sl, .int .i64 n.sh] 23))
  obtain ⟨va, vc, rfl⟩ := (HR.out _ (Below.refl _ _)).shape
  obtain ⟨m, hn⟩ : ∃ m, m = l.length := ⟨_, rfl⟩
  have HN := hid hn
  rw [← hn] at hm HR ⊢
  clear hn
  by_cases h5 : m ≤ 520
  case neg =>
    have h5' : (520 : Int) < m := by omega
    clear h5
    go_enter Try.func3, Try.ntmps3
    go_wp2_with fail
    refine (kawake_any _).mono ?_
    rintro e w2 ⟨rfl, hb⟩
    have HB2 := hid (bstep HB0.out HB0.out.size hb)
    clear hb
    go_wp2_with fail
    go_ret
    exact ⟨rfl, HB2.out⟩
  have h5' : ¬ (520 : Int) < m := by omega
  go_enter Try.func3, Try.ntmps3
  go_wp2
  go_loopw [5] (fun t wr => ∃ k : Nat, k ≤ m ∧ k ≤ 5 ∧ t = .int .i64 (k : Int) ∧ Hid (Box1 w wr #[.int .i64 n.bl, .int .i64 n.bh, .int .i64 n.cl, .int .i64 n.ch, .int .i64 n.pc, .int .i64 n.wr, .int .i64 n.tl, .int .i64 n.th, .int .i64 n.sl, .int .i64 n.sh]) ∧ Hid (Below w.heap.size w wr)) (fun t _ => 5 - (intOf t).toNat)
  case atStart => exact ⟨0, Nat.zero_le _, Nat.zero_le _, rfl, HBX, HB0⟩
  case round =>
    clear HBX HB0
    obtain ⟨k, hk, hk5, rfl, HBX, HB⟩ := hrel
    by_cases hlt : k < m ∧ k < 5
    · have hlt1 : (k : Int) < m := by omega
      have hlt2 : (k : Int) < 5 := by omega
      have HLT := hid hlt
      have hkl : k < l.length := by rw [← HN.out]; exact hlt.1
      obtain ⟨b, o, hva, hat⟩ := (HR.out _ HB.out).get (by omega)
      subst hva
      have hq := fun p : LowBy wr => (hat k hkl).keep p.low
      generalize l[k] = x at *
      obtain ⟨q0, q1, q2, q3, q4, q5, q6, q7, q8, q9⟩ : _ ∧ _ ∧ _ ∧ _ ∧ _ ∧ _ ∧ _ ∧ _ ∧ _ ∧ _ := ⟨fun p => (hq p).1, fun p => (hq p).2.1, fun p => (hq p).2.2.1, fun p => (hq p).2.2.2.1, fun p => (hq p).2.2.2.2.1, fun p => (hq p).2.2.2.2.2.1, fun p => (hq p).2.2.2.2.2.2.1, fun p => (hq p).2.2.2.2.2.2.2.1, fun p => (hq p).2.2.2.2.2.2.2.2.1, fun p => (hq p).2.2.2.2.2.2.2.2.2⟩
      have hcs := fun p : LowBy wr => low_of (ksheet_any x p.W)
      have hcx := fun p : LowBy wr => low_of (kxsheet_any x p.W)
      generalize shB x = B at hcs hcx
      have hBB : (B != B) = false := by simp
      clear hlt hkl hat hq hk hk5
      go_wp2
      refine wp_region_low (by kernel_rfl) (by kernel_rfl) (fun R hR => ?_)
      repeat (refine low_step (by assumption) ?_; intro R hR K hK; go_simp; first | (refine hK _ ?_; clear hK K) | (apply Exists.intro; refine ⟨fun _ => ?_, hK _ ?_⟩; (first | (go_at_call 10; exact hcs _) | (go_at_call 11; exact hcx _)); clear hK K))
      refine low_nil (by assumption) ?_; intro _ hw'; obtain ⟨⟨wq, hlow⟩, hw''⟩ := hw'; subst hw''; have HLOW := hid hlow; clear hlow; (try simp only)
      have HB2 := hid (bstep HB.out HB.out.size HLOW.out)
      have HBX2 := hid (HBX.out.keep HLOW.out)
      go_wp2
      go_roundw
      case rel => exact ⟨k + 1, by have := HLT.out; omega, by have := HLT.out; omega, by go_num, HBX2, HB2⟩
      case measure => have := HLT.out; simp [intOf]; omega
    · have HCS := hid (fun W (g : Below w.heap.size w W) => ksheets_any _ l W (HR.out W g))
      have HCX := hid (fun W (g : Below w.heap.size w W) => kxsheets_any _ l W (HR.out W g))
      have HCH := hid (fun W (g : Below w.heap.size w W) => kheads_any _ l W (HR.out W g))
      have HCY := hid (fun W (g : Below w.heap.size w W) => kxheads_any _ l W (HR.out W g))
      have HCN := hid (fun W => knorm_any n W)
      have HCM := hid (fun W => kxnorm_any n W)
      generalize shsB l = B at HCS HCX
      generalize nmB n = D at HCN HCM
      have hB1 : (B == B) = true := by simp
      have hD1 : (D == D) = true := by simp
      rcases (show k = m ∨ (k < m ∧ k = 5) by omega) with h0 | ⟨h0, h1⟩
      · have e1 : ¬ (k : Int) < m := by omega
        clear hlt hk hk5 h0
        go_wp2
        go_region_held3 (fun w' => World.cell? (w') ⟨w.heap.size, 0, none⟩ = some (.int .i64 n.bl) ∧ World.cell? (w') ⟨w.heap.size, 1, none⟩ = some (.int .i64 n.bh) ∧ World.cell? (w') ⟨w.heap.size, 2, none⟩ = some (.int .i64 n.cl) ∧ World.cell? (w') ⟨w.heap.size, 3, none⟩ = some (.int .i64 n.ch) ∧ World.cell? (w') ⟨w.heap.size, 4, none⟩ = some (.int .i64 n.pc) ∧ World.cell? (w') ⟨w.heap.size, 5, none⟩ = some (.int .i64 n.wr) ∧ World.cell? (w') ⟨w.heap.size, 6, none⟩ = some (.int .i64 n.tl) ∧ World.cell? (w') ⟨w.heap.size, 7, none⟩ = some (.int .i64 n.th) ∧ World.cell? (w') ⟨w.heap.size, 8, none⟩ = some (.int .i64 n.sl) ∧ World.cell? (w') ⟨w.heap.size, 9, none⟩ = some (.int .i64 n.sh) ∧ Hid (Below w.heap.size w (w'))) (first | exact nv_new HBX HB | exact nv_keep (by assumption) (by assumption))
          ((first
            | (go_at_call 12; refine Calls.mono (HCS.out _ (nv_low (by assumption))) ?_; rintro e wk ⟨rfl, hb⟩)
            | (go_at_call 13; refine Calls.mono (HCX.out _ (nv_low (by assumption))) ?_; rintro e wk ⟨rfl, hb⟩)
            | (go_at_call 14; refine Calls.mono (HCN.out _) ?_; rintro e wk ⟨rfl, hb⟩)
            | (go_at_call 15; refine Calls.mono (HCM.out _) ?_; rintro e wk ⟨rfl, hb⟩)
            | (go_at_call 17; refine Calls.mono (HCH.out _ (nv_low (by assumption))) ?_; rintro e wk ⟨u1, rfl, hu1, hb⟩; have HU1 := hid hu1.rowI; clear hu1)
            | (go_at_call 18; refine Calls.mono (HCY.out _ (nv_low (by assumption))) ?_; rintro e wk ⟨u2, rfl, hu2, hb⟩; have HU2 := hid hu2.rowI; have HU3 := hid (HU1.out.keep hb); clear hu2)
            | (go_at_call 16; refine Calls.mono (same_hds HU3.out HU2.out) ?_; rintro e wk ⟨rfl, hb⟩)
            | (go_at_call 9; refine Calls.mono (kawake_any _) ?_; rintro e wk ⟨rfl, hb⟩)))
        all_goals
          go_wp2
          go_ret
          exact ⟨rfl, nv_low (by assumption)⟩
      · have e1 : (k : Int) < m := by omega
        have e2 : ¬ (k : Int) < 5 := by omega
        clear hlt hk hk5 h0 h1
        go_wp2
        go_region_held3 (fun w' => World.cell? (w') ⟨w.heap.size, 0, none⟩ = some (.int .i64 n.bl) ∧ World.cell? (w') ⟨w.heap.size, 1, none⟩ = some (.int .i64 n.bh) ∧ World.cell? (w') ⟨w.heap.size, 2, none⟩ = some (.int .i64 n.cl) ∧ World.cell? (w') ⟨w.heap.size, 3, none⟩ = some (.int .i64 n.ch) ∧ World.cell? (w') ⟨w.heap.size, 4, none⟩ = some (.int .i64 n.pc) ∧ World.cell? (w') ⟨w.heap.size, 5, none⟩ = some (.int .i64 n.wr) ∧ World.cell? (w') ⟨w.heap.size, 6, none⟩ = some (.int .i64 n.tl) ∧ World.cell? (w') ⟨w.heap.size, 7, none⟩ = some (.int .i64 n.th) ∧ World.cell? (w') ⟨w.heap.size, 8, none⟩ = some (.int .i64 n.sl) ∧ World.cell? (w') ⟨w.heap.size, 9, none⟩ = some (.int .i64 n.sh) ∧ Hid (Below w.heap.size w (w'))) (first | exact nv_new HBX HB | exact nv_keep (by assumption) (by assumption))
          ((first
            | (go_at_call 12; refine Calls.mono (HCS.out _ (nv_low (by assumption))) ?_; rintro e wk ⟨rfl, hb⟩)
            | (go_at_call 13; refine Calls.mono (HCX.out _ (nv_low (by assumption))) ?_; rintro e wk ⟨rfl, hb⟩)
            | (go_at_call 14; refine Calls.mono (HCN.out _) ?_; rintro e wk ⟨rfl, hb⟩)
            | (go_at_call 15; refine Calls.mono (HCM.out _) ?_; rintro e wk ⟨rfl, hb⟩)
            | (go_at_call 17; refine Calls.mono (HCH.out _ (nv_low (by assumption))) ?_; rintro e wk ⟨u1, rfl, hu1, hb⟩; have HU1 := hid hu1.rowI; clear hu1)
            | (go_at_call 18; refine Calls.mono (HCY.out _ (nv_low (by assumption))) ?_; rintro e wk ⟨u2, rfl, hu2, hb⟩; have HU2 := hid hu2.rowI; have HU3 := hid (HU1.out.keep hb); clear hu2)
            | (go_at_call 16; refine Calls.mono (same_hds HU3.out HU2.out) ?_; rintro e wk ⟨rfl, hb⟩)
            | (go_at_call 9; refine Calls.mono (kawake_any _) ?_; rintro e wk ⟨rfl, hb⟩)))
        all_goals
          go_wp2
          go_ret
          exact ⟨rfl, nv_low (by assumption)⟩
end Go.Proofs.Ytacakfnomniejaa
