/- Walk of signalled: contract. -/
import Derived.Test.YtlhjiikbehmamaaDoorNa
import Derived.IntWalk
namespace Go.Proofs.YtlhjiikbehmamaaDoor
open Go.RowKit

set_option maxRecDepth 20000 in
set_option maxHeartbeats 4000000 in
theorem sgn_any (M S L e : Int) (c d : Nat) (v : Value) (l : List Int) (w : World) (hr : RowQ w v l) (hn : l.length ≤ 10000) (hc : 1 ≤ c) (hc2 : c ≤ 100) (_ : d ≤ 100) (hL : IntKind.i64.wrap (e * S) = L) (hL0 : 0 ≤ L) (hL1 : L ≤ 4000000000)
    (hM0 : -1000000000 ≤ M) (hM1 : M ≤ 1000000000) (hb : ∀ x ∈ l, -1000000000 ≤ x ∧ x ≤ 1000000000) :
    Calls Tryd.prog 14 #[.agg #[.int .i64 M, .int .i64 S], v, .agg #[.int .i64 c, .int .i64 d, .int .i64 e]] w fun e w' => e = .returned (.bool (sgB M L l c d)) ∧ Below w.heap.size w w' := by
  have HR := hid (fun w1 (g : Below w.heap.size w w1) => hr.keep g)
  have HBX := hid (box2_start (w := w) (A := #[.int .i64 M, .int .i64 S]) (B := #[.int .i64 c, .int .i64 d, .int .i64 e]) (T := 23) (T' := 41) (fz := (0, 0)) (fz' := (0, 0)))
  obtain ⟨va, b0, o0, vc, hv, _⟩ := hr
  obtain ⟨n, hn'⟩ : ∃ n, n = l.length := ⟨_, rfl⟩
  rw [← hn'] at hn hv
  have HN := hid hn'
  subst hv
  have HBD := hid hb
  clear hb hn'
  by_cases h1 : n < c
  · have HE := hid (sgB_short (M := M) (L := L) (d := d) (show l.length < c by rw [← HN.out]; exact h1))
    have h1' : (n : Int) < c := by omega
    go_enter Tryd.func14, Tryd.ntmps14
    go_wp2
    go_quiet (fail)
    go_wp2
    go_ret
    exact ⟨ret_bool HE.out.symm, bdrewN HBX.out.low⟩
  · obtain ⟨q, hq⟩ : ∃ q, q = n - c := ⟨_, rfl⟩
    have h1' : ¬ ((n : Int) < c) := by omega
    have hqn : (n : Int) - c = q := by omega
    have hlt0 : q < n := by omega
    obtain ⟨D, hD⟩ : ∃ D, D = l.drop q := ⟨_, rfl⟩
    have HE := hid (sgB_long (M := M) (L := L) (d := d) (show c ≤ l.length by rw [← HN.out]; omega))
    rw [← HN.out, ← hq, ← hD] at HE
    have HDL := hid (show D.length = c by rw [hD, List.length_drop, ← HN.out]; omega)
    have HBD2 := hid (show ∀ x ∈ D, -1000000000 ≤ x ∧ x ≤ 1000000000 from fun x hx => HBD.out x (by rw [hD] at hx; exact List.mem_of_mem_drop hx))
    have HBB := hid HBX.out.low
    obtain ⟨b, o, ha, _, hs⟩ := (HR.out w (Below.refl _ _)).back hlt0
    subst ha
    have HCL := hid (fun (w1 : World) (g : Below w.heap.size w w1) k (hk : k < D.length) => show w1.cell? ⟨b, o + q + k, none⟩ = some (.int .i64 D[k]) by
      obtain ⟨b', o', ha', hcc, _⟩ := (HR.out w1 g).back hlt0
      injection ha' with ha'
      injection ha' with e1 e2
      subst e1 e2
      subst hD
      exact hcc k hk)
    have hnq : n - q = c := by omega
    rw [hnq] at hs
    have HQ := hid hq
    have HNQ := hid hnq
    clear hD hq hnq
    go_enter Tryd.func14, Tryd.ntmps14
    go_wp2
    go_quiet (fail)
    go_wp2
    have HBX2 := hid (box2_start (w := w) (A := #[.int .i64 M, .int .i64 S]) (B := #[.int .i64 c, .int .i64 d, .int .i64 e]) (T := 23) (T' := 41) (fz := (0, 0)) (fz' := (0, 0)) |>.keep (w2 := ((w.alloc (.cells #[.int .i64 M, .int .i64 S] 23)).alloc (.cells #[.int .i64 c, .int .i64 d, .int .i64 e] 41)).drewN nq) (bdrewN (Below.refl _ _)))
    have HBW := hid HBX2.out.low
    generalize World.drewN (World.alloc (World.alloc w _) _) nq = W at *
    have hm0 : W.cell? ⟨w.heap.size, 0, none⟩ = some (.int .i64 M) := HBX2.out.fst 0
    have HCW := hid (HCL.out W HBW.out)
    clear HBX2 HBX HCL HBB HR
    go_loop [10, 11, 34] (fun h g t => ∃ k : Nat, k ≤ c ∧ t = .int .i64 (k : Int) ∧ h = .int .i64 (hiN M L (D.take k) : Nat) ∧ g = .int .i64 (loN M L (D.take k) : Nat)) (fun _ _ t => c - (intOf t).toNat)
    case atStart => exact ⟨0, Nat.zero_le _, rfl, rfl, rfl⟩
    case round =>
      obtain ⟨k, hk, rfl, rfl, rfl⟩ := hrel
      by_cases hlt : k < c
      · have hlt' : (k : Int) < c := by omega
        have hkD : k < D.length := by rw [HDL.out]; exact hlt
        have hcell := HCW.out k hkD
        obtain ⟨x0, x1⟩ := HBD2.out _ (List.getElem_mem hkD)
        have HS1 := hid (hiN_snoc (M := M) (L := L) hkD)
        have HS2 := hid (loN_snoc (M := M) (L := L) hkD)
        have hl1 := hiN_le M L (D.take k)
        have hl2 := loN_le M L (D.take k)
        rw [List.length_take] at hl1 hl2
        obtain ⟨h, hh⟩ : ∃ h, h = hiN M L (D.take k) := ⟨_, rfl⟩
        obtain ⟨g, hg⟩ : ∃ g, g = loN M L (D.take k) := ⟨_, rfl⟩
        rw [← hh] at hl1 HS1 ⊢
        rw [← hg] at hl2 HS2 ⊢
        generalize D[k] = x at *
        have HLT := hid hlt
        clear hlt hkD hh hg
        rcases (show (L < x - M ∧ ¬ L < M - x) ∨ (¬ L < x - M ∧ L < M - x) ∨ (¬ L < x - M ∧ ¬ L < M - x) by omega) with ⟨t1, t2⟩ | ⟨t1, t2⟩ | ⟨t1, t2⟩
        all_goals
          have HT1 := hid t1
          have HT2 := hid t2
          go_wp2
          go_round
          case rel => exact ⟨k + 1, HLT.out, by go_num, by rw [HS1.out]; first | rw [if_pos HT1.out] | (rw [if_neg HT1.out]; go_num), by rw [HS2.out]; first | rw [if_pos HT2.out] | (rw [if_neg HT2.out]; go_num)⟩
          case measure => have := HLT.out; simp [intOf]; omega
      · obtain rfl : k = c := by omega
        have hfull : D.take k = D := List.take_of_length_le (by rw [HDL.out]; exact Nat.le_refl _)
        rw [hfull]
        have hl1 := hiN_le M L D
        have hl2 := loN_le M L D
        rw [HDL.out] at hl1 hl2
        obtain ⟨h, hh⟩ : ∃ h, h = hiN M L D := ⟨_, rfl⟩
        obtain ⟨g, hg⟩ : ∃ g, g = loN M L D := ⟨_, rfl⟩
        rw [← hh, ← hg] at HE
        rw [← hh] at hl1 ⊢
        rw [← hg] at hl2 ⊢
        clear hh hg hfull
        rcases (show (h < g ∨ g < h ∨ h = g) by omega) with hhg | hhg | rfl
        · have HE2 := hid (show sgB M L l k d = decide (d ≤ g) by rw [HE.out, Nat.max_eq_right (Nat.le_of_lt hhg)])
          go_wp2
          go_ret
          exact ⟨ret_bool HE2.out.symm, HBW.out⟩
        · have HE2 := hid (show sgB M L l k d = decide (d ≤ h) by rw [HE.out, Nat.max_eq_left (Nat.le_of_lt hhg)])
          go_wp2
          go_ret
          exact ⟨ret_bool HE2.out.symm, HBW.out⟩
        · have HE2 := hid (show sgB M L l k d = decide (d ≤ h) by rw [HE.out, Nat.max_self])
          go_wp2
          go_ret
          exact ⟨ret_bool HE2.out.symm, HBW.out⟩
end Go.Proofs.YtlhjiikbehmamaaDoor
