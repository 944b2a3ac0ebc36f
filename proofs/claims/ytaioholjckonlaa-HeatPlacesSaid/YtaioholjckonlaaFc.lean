/- Walks of Hottest of the reference and of Centre of both: contracts. -/
import Derived.Test.YtaioholjckonlaaFb
namespace Go.Proofs.Ytaioholjckonlaa
open Go.RowKit

set_option maxRecDepth 20000 in
set_option maxHeartbeats 4000000 in
theorem rhottest_any (r l a b k a2 b2 : Int) (w : World) (v : Value) (T : List Int) (br : Bool) (hl : RowI w v T) : Calls Try.prog 38 #[.agg #[.int .i64 r, .int .i64 l, .int .i64 a, .int .i64 b, .int .i64 k, .int .i64 a2, .int .i64 b2], .agg #[v, .bool br]] w (BestP gtB (bothB r l a b k a2 b2 T br) T w) := by
  have HL := hid (fun w1 (g : Below w.heap.size w w1) => hl.keep g)
  cases hbb : bothB r l a b k a2 b2 T br
  · obtain ⟨a0, cap, rfl⟩ := hl.shape
    clear hl
    have BX := hid (box2_start (w := w) (A := #[.int .i64 r, .int .i64 l, .int .i64 a, .int .i64 b, .int .i64 k, .int .i64 a2, .int .i64 b2]) (B := #[.slice a0 T.length cap, .bool br]) (T := 23) (T' := 26) (fz := (0, 0)) (fz' := (0, 0)))
    go_enter Try.func38, Try.ntmps38
    go_wp2_with fail
    refine (rvboth_any _ _ _ _ _ _ _ _ _ T _ (HL.out _ BX.out.low)).mono ?_
    rintro e w1 ⟨rfl, hb⟩
    rw [hbb]
    have BX := hid (BX.out.keep hb); obtain ⟨b0, b1, b2', b3, b4, b5, b6⟩ := BX.out.can; obtain ⟨x0, x1⟩ := BX.out.body; have hz := BX.out.sz; clear hb
    go_wp2_with fail
    go_ret3
    exact ⟨rfl, BX.out.low⟩
  · have h0 : 0 < T.length := by obtain ⟨c, hcv, _, hbv, _⟩ := both_open hbb; have := (bodyV_iff.1 hbv).1; have := hcv.ok.p; omega
    have h48 : T.length ≤ 48 := by obtain ⟨c, hcv, _, hbv, _⟩ := both_open hbb; have := (bodyV_iff.1 hbv).1; have := hcv.ok.p; omega
    obtain ⟨bb, o, cap, rfl, hc⟩ := hl.some h0
    have HC := hid (fun w1 (g : Below w.heap.size w w1) j h => keep_cell g (hc j h))
    have HBB := hid hbb
    clear hc hl hbb
    have BX := hid (box2_start (w := w) (A := #[.int .i64 r, .int .i64 l, .int .i64 a, .int .i64 b, .int .i64 k, .int .i64 a2, .int .i64 b2]) (B := #[.slice (some ⟨bb, o, none⟩) T.length cap, .bool br]) (T := 23) (T' := 26) (fz := (0, 0)) (fz' := (0, 0)))
    go_enter Try.func38, Try.ntmps38
    go_wp2_with fail
    refine (rvboth_any _ _ _ _ _ _ _ _ _ T _ (HL.out _ BX.out.low)).mono ?_
    rintro e w1 ⟨rfl, hb⟩
    rw [HBB.out]
    have BX := hid (BX.out.keep hb); obtain ⟨b0, b1, b2', b3, b4, b5, b6⟩ := BX.out.can; obtain ⟨x0, x1⟩ := BX.out.body; have hz := BX.out.sz; clear hb
    go_wp2_with fail
    go_loopw [7, 8] (fun p i wr => ∃ k' j : Nat, k' ≤ T.length ∧ j < T.length ∧ p = .int .i64 (j : Int) ∧ i = .int .i64 (k' : Int) ∧ Hid ((bestT gtB T k').1 = j) ∧ Hid (Box2 w wr #[.int .i64 r, .int .i64 l, .int .i64 a, .int .i64 b, .int .i64 k, .int .i64 a2, .int .i64 b2] #[.slice (some ⟨bb, o, none⟩) T.length cap, .bool br])) (fun _ i _ => T.length - (intOf i).toNat)
    case atStart => exact ⟨0, 0, Nat.zero_le _, h0, rfl, rfl, rfl, BX⟩
    case round =>
      obtain ⟨k', j, hk, hj, rfl, rfl, HB, BX⟩ := hrel
      clear b0 b1 b2' b3 b4 b5 b6 x0 x1
      obtain ⟨x0, x1⟩ := BX.out.body
      have ey := HC.out _ BX.out.low j hj
      by_cases hlt : k' < T.length
      · have ex := HC.out _ BX.out.low k' hlt
        have HST := hid (bestT_step hj hlt HB.out)
        by_cases he : T[j] < T[k']
        · have hb : gtB T[k'] T[j] = true := by simpa [gtB] using he
          rw [hb] at HST
          generalize T[k'] = s at ex he
          generalize T[j] = q at ey he
          clear hb
          go_wp2
          go_quiet (fail)
          go_wp2
          go_roundw
          case rel => exact ⟨k' + 1, k', by omega, hlt, rfl, by go_num, HST, hid (BX.out.keep (bdrewN (Below.refl _ _)))⟩
          case measure => simp [intOf]; omega
        · have hb : gtB T[k'] T[j] = false := by simpa [gtB] using he
          rw [hb] at HST
          generalize T[k'] = s at ex he
          generalize T[j] = q at ey he
          clear hb
          go_wp2
          go_quiet (fail)
          go_wp2
          go_roundw
          case rel => exact ⟨k' + 1, j, by omega, hj, rfl, by go_num, HST, hid (BX.out.keep (bdrewN (Below.refl _ _)))⟩
          case measure => simp [intOf]; omega
      · obtain rfl : k' = T.length := by omega
        have HV := hid (bestT_of hj (Nat.le_refl _) HB.out)
        generalize T[j] = q at ey HV
        go_wp2
        go_quiet (fail)
        go_wp2
        go_ret3
        refine ⟨?_, bdrewN BX.out.low⟩
        rw [show bestP gtB true T = ((bestT gtB T T.length).1 : Nat) from rfl, show bestV gtB true T = (bestT gtB T T.length).2 from rfl, show bestE true = 0 from rfl, HB.out, HV.out]
        rfl

/-- The centre's temperature. -/
def cenV (l r : Int) (v : Bool) (T : List Int) : Int := if v then T.getD (l / 2 * r).toNat 0 else 0
/-- Two numbers come back. -/
def PairP (t n : Int) (w : World) (e : Ending) (w' : World) : Prop := e = .returned (.tuple #[.int .i64 t, .int .i64 n]) ∧ Below w.heap.size w w'
theorem cen_at {c : Cn} (hc : c.Ok) : 0 ≤ (c.L : Int) / 2 * c.R ∧ (c.L : Int) / 2 * c.R < c.P := by
  have h1 := hc.r1; have h3 := hc.l1
  refine ⟨Int.mul_nonneg (by omega) (by omega), ?_⟩
  rw [c.P_int, Int.mul_comm (c.R : Int)]
  exact Int.mul_lt_mul_of_pos_right (by omega) (by omega)
set_option maxRecDepth 20000 in
set_option maxHeartbeats 2000000 in
theorem hcentre_any (r l a b k a2 b2 : Int) (w : World) (v : Value) (T : List Int) (br : Bool) (hl : RowI w v T) : Calls Try.prog 39 #[.agg #[.int .i64 r, .int .i64 l, .int .i64 a, .int .i64 b, .int .i64 k, .int .i64 a2, .int .i64 b2], .agg #[v, .bool br]] w (PairP (cenV l r (bothB r l a b k a2 b2 T br) T) (bestE (bothB r l a b k a2 b2 T br)) w) := by
  have HL := hid (fun w1 (g : Below w.heap.size w w1) => hl.keep g)
  cases hbb : bothB r l a b k a2 b2 T br
  · obtain ⟨a0, cap, rfl⟩ := hl.shape
    clear hl
    have BX := hid (box2_start (w := w) (A := #[.int .i64 r, .int .i64 l, .int .i64 a, .int .i64 b, .int .i64 k, .int .i64 a2, .int .i64 b2]) (B := #[.slice a0 T.length cap, .bool br]) (T := 23) (T' := 26) (fz := (0, 0)) (fz' := (0, 0)))
    go_enter Try.func39, Try.ntmps39
    go_wp2_with fail
    refine (vboth_any _ _ _ _ _ _ _ _ _ T _ (HL.out _ BX.out.low)).mono ?_
    rintro e w1 ⟨rfl, hb⟩
    rw [hbb]
    have BX := hid (BX.out.keep hb); obtain ⟨b0, b1, b2', b3, b4, b5, b6⟩ := BX.out.can; obtain ⟨x0, x1⟩ := BX.out.body; have hz := BX.out.sz; clear hb
    go_wp2_with fail
    go_ret2
    exact ⟨rfl, BX.out.low⟩
  · have HBB := hid hbb
    obtain ⟨c, hcv, ⟨rfl, rfl, rfl, rfl, rfl, rfl, rfl⟩, hbv, _⟩ := both_open hbb
    have hlen := (bodyV_iff.1 hbv).1
    have hp := hcv.ok.p
    obtain ⟨m1, m2⟩ := cen_at hcv.ok
    have h0 : 0 < T.length := by omega
    have hL := hcv.ok.l2
    obtain ⟨bb, o, cap, rfl, hc⟩ := hl.some h0
    have hcast : (c.L : Int) / 2 * c.R = ((c.L / 2 * c.R : Nat) : Int) := by rw [Int.natCast_mul]; rfl
    have hidx : c.L / 2 * c.R < T.length := by rw [hcast] at m2; omega
    have hx := hc _ hidx
    have HV := hid (show cenV c.L c.R true T = T[c.L / 2 * c.R] by unfold cenV; rw [hcast, Int.toNat_natCast, if_pos rfl]; exact getD_at hidx)
    have HC := hid (fun w1 (g : Below w.heap.size w w1) => keep_cell g hx)
    have m3 : (c.L : Int) / 2 * c.R < T.length := by omega
    have m4 : (T.length : Int) ≤ 48 := by omega
    clear hc hl hbb hbv hx hlen hp hcast
    have BX := hid (box2_start (w := w) (A := #[.int .i64 (c.R : Int), .int .i64 (c.L : Int), .int .i64 c.A, .int .i64 c.B, .int .i64 c.K, .int .i64 c.A2, .int .i64 c.B2]) (B := #[.slice (some ⟨bb, o, none⟩) T.length cap, .bool br]) (T := 23) (T' := 26) (fz := (0, 0)) (fz' := (0, 0)))
    go_enter Try.func39, Try.ntmps39
    go_wp2_with fail
    refine (vboth_any _ _ _ _ _ _ _ _ _ T _ (HL.out _ BX.out.low)).mono ?_
    rintro e w1 ⟨rfl, hb⟩
    rw [HBB.out]
    have BX := hid (BX.out.keep hb); obtain ⟨b0, b1, b2', b3, b4, b5, b6⟩ := BX.out.can; obtain ⟨x0, x1⟩ := BX.out.body; have hz := BX.out.sz; clear hb
    have ex := HC.out _ BX.out.low
    generalize T[c.L / 2 * c.R] = q at ex HV
    go_wp2_with fail
    go_ret2
    exact ⟨by rw [HV.out]; rfl, BX.out.low⟩
set_option maxRecDepth 20000 in
set_option maxHeartbeats 2000000 in
theorem rcentre_any (r l a b k a2 b2 : Int) (w : World) (v : Value) (T : List Int) (br : Bool) (hl : RowI w v T) : Calls Try.prog 40 #[.agg #[.int .i64 r, .int .i64 l, .int .i64 a, .int .i64 b, .int .i64 k, .int .i64 a2, .int .i64 b2], .agg #[v, .bool br]] w (PairP (cenV l r (bothB r l a b k a2 b2 T br) T) (bestE (bothB r l a b k a2 b2 T br)) w) := by
  have HL := hid (fun w1 (g : Below w.heap.size w w1) => hl.keep g)
  cases hbb : bothB r l a b k a2 b2 T br
  · obtain ⟨a0, cap, rfl⟩ := hl.shape
    clear hl
    have BX := hid (box2_start (w := w) (A := #[.int .i64 r, .int .i64 l, .int .i64 a, .int .i64 b, .int .i64 k, .int .i64 a2, .int .i64 b2]) (B := #[.slice a0 T.length cap, .bool br]) (T := 23) (T' := 26) (fz := (0, 0)) (fz' := (0, 0)))
    go_enter Try.func40, Try.ntmps40
    go_wp2_with fail
    refine (rvboth_any _ _ _ _ _ _ _ _ _ T _ (HL.out _ BX.out.low)).mono ?_
    rintro e w1 ⟨rfl, hb⟩
    rw [hbb]
    have BX := hid (BX.out.keep hb); obtain ⟨b0, b1, b2', b3, b4, b5, b6⟩ := BX.out.can; obtain ⟨x0, x1⟩ := BX.out.body; have hz := BX.out.sz; clear hb
    go_wp2_with fail
    go_ret2
    exact ⟨rfl, BX.out.low⟩
  · have HBB := hid hbb
    obtain ⟨c, hcv, ⟨rfl, rfl, rfl, rfl, rfl, rfl, rfl⟩, hbv, _⟩ := both_open hbb
    have hlen := (bodyV_iff.1 hbv).1
    have hp := hcv.ok.p
    obtain ⟨m1, m2⟩ := cen_at hcv.ok
    have h0 : 0 < T.length := by omega
    have hL := hcv.ok.l2
    obtain ⟨bb, o, cap, rfl, hc⟩ := hl.some h0
    have hcast : (c.L : Int) / 2 * c.R = ((c.L / 2 * c.R : Nat) : Int) := by rw [Int.natCast_mul]; rfl
    have hidx : c.L / 2 * c.R < T.length := by rw [hcast] at m2; omega
    have hx := hc _ hidx
    have HV := hid (show cenV c.L c.R true T = T[c.L / 2 * c.R] by unfold cenV; rw [hcast, Int.toNat_natCast, if_pos rfl]; exact getD_at hidx)
    have HC := hid (fun w1 (g : Below w.heap.size w w1) => keep_cell g hx)
    have m3 : (c.L : Int) / 2 * c.R < T.length := by omega
    have m4 : (T.length : Int) ≤ 48 := by omega
    clear hc hl hbb hbv hx hlen hp hcast
    have BX := hid (box2_start (w := w) (A := #[.int .i64 (c.R : Int), .int .i64 (c.L : Int), .int .i64 c.A, .int .i64 c.B, .int .i64 c.K, .int .i64 c.A2, .int .i64 c.B2]) (B := #[.slice (some ⟨bb, o, none⟩) T.length cap, .bool br]) (T := 23) (T' := 26) (fz := (0, 0)) (fz' := (0, 0)))
    go_enter Try.func40, Try.ntmps40
    go_wp2_with fail
    refine (rvboth_any _ _ _ _ _ _ _ _ _ T _ (HL.out _ BX.out.low)).mono ?_
    rintro e w1 ⟨rfl, hb⟩
    rw [HBB.out]
    have BX := hid (BX.out.keep hb); obtain ⟨b0, b1, b2', b3, b4, b5, b6⟩ := BX.out.can; obtain ⟨x0, x1⟩ := BX.out.body; have hz := BX.out.sz; clear hb
    have ex := HC.out _ BX.out.low
    generalize T[c.L / 2 * c.R] = q at ex HV
    go_wp2_with fail
    go_ret2
    exact ⟨by rw [HV.out]; rfl, BX.out.low⟩
end Go.Proofs.Ytaioholjckonlaa
