/- Texts of this seat, one behind the other. -/
import Derived.Test.YtihbjimnjhfpeaaGreatG32
import Derived.Test.YtihbjimnjhfpeaaGreatPdn
import Derived.Test.YtihbjimnjhfpeaaGreatG27
/- Least's closure: contract. -/
namespace Go.Proofs.YtihbjimnjhfpeaaGreat
open Go.RowKit Go.Lib

theorem cookL_len (t n cold cooling : Int) : (cookL t n cold cooling).length ≤ 2000 := by
  unfold cookL
  split
  · rename_i h
    unfold cookB at h
    rw [Bool.and_eq_true] at h
    obtain ⟨h1, h2, h3⟩ := ticksB_two.1 h.2
    rw [List.length_append, List.length_replicate, List.length_replicate]
    omega
  · simp
/-- The lethality with n ticks. -/
def withF (r l a b k a2 b2 : Int) (q : Kl) (t bath cold cooling n : Int) : Int := lowO (sumsO r l a b k a2 b2 q t (cookL bath n cold cooling))
/-- Least's six boxes. -/
structure LsB (r l a b k a2 b2 : Int) (q : Kl) (t bath cold cooling : Int) (n0 : Nat) (W : World) : Prop where
  can : W.heap[n0]? = some (.cells #[.int .i64 r, .int .i64 l, .int .i64 a, .int .i64 b, .int .i64 k, .int .i64 a2, .int .i64 b2] 23 (0, 0))
  kil : W.heap[n0 + 1]? = some (.cells #[.string q.s, .int .i64 q.r, .int .i64 q.z, .int .i64 q.d, .int .i64 q.g] 25 (0, 0))
  ini : W.heap[n0 + 1 + 1]? = some (.cells #[.int .i64 t] 3 (0, 0))
  bat : W.heap[n0 + 1 + 1 + 1]? = some (.cells #[.int .i64 bath] 3 (0, 0))
  col : W.heap[n0 + 1 + 1 + 1 + 1]? = some (.cells #[.int .i64 cold] 3 (0, 0))
  coo : W.heap[n0 + 1 + 1 + 1 + 1 + 1]? = some (.cells #[.int .i64 cooling] 3 (0, 0))
theorem LsB.keep {r l a b k a2 b2 : Int} {q : Kl} {t bath cold cooling : Int} {n0 : Nat} {W W' : World} (h : LsB r l a b k a2 b2 q t bath cold cooling n0 W) (hb : Below W.heap.size W W') : LsB r l a b k a2 b2 q t bath cold cooling n0 W' :=
  ⟨(hb.block _ (lt_of_block h.can)).trans h.can, (hb.block _ (lt_of_block h.kil)).trans h.kil, (hb.block _ (lt_of_block h.ini)).trans h.ini, (hb.block _ (lt_of_block h.bat)).trans h.bat, (hb.block _ (lt_of_block h.col)).trans h.col, (hb.block _ (lt_of_block h.coo)).trans h.coo⟩
set_option maxRecDepth 20000 in
set_option maxHeartbeats 4000000 in
theorem with_any (r l a b k a2 b2 : Int) (q : Kl) (t bath cold cooling n : Int) (n0 : Nat) (w : World) (hs : q.s.size ≤ maxLen) (hB : LsB r l a b k a2 b2 q t bath cold cooling n0 w) :
    Calls Tryz.prog 64 #[.int .i64 n, .pointer (some ⟨n0 + 1 + 1 + 1, 0, none⟩), .pointer (some ⟨n0 + 1 + 1 + 1 + 1, 0, none⟩), .pointer (some ⟨n0 + 1 + 1 + 1 + 1 + 1, 0, none⟩), .pointer (some ⟨n0, 0, none⟩), .pointer (some ⟨n0 + 1, 0, none⟩), .pointer (some ⟨n0 + 1 + 1, 0, none⟩)] w
      fun e w' => e = .returned (.int .i64 (withF r l a b k a2 b2 q t bath cold cooling n)) ∧ Below w.heap.size w w' := by
  have HC := hid (fun W => cook_any bath n cold cooling W)
  have HLE := hid (fun (W : World) (v : Value) (h : RowI W v (cookL bath n cold cooling)) => leth_any r l a b k a2 b2 W q t v (cookL bath n cold cooling) hs h (by have := cookL_len bath n cold cooling; unfold maxLen; omega))
  have HBB := hid hB
  have b0 := cell_of_row _ _ 0 _ _ _ hB.bat
  have c0 := cell_of_row _ _ 0 _ _ _ hB.col
  have o0 := cell_of_row _ _ 0 _ _ _ hB.coo
  simp only [List.getElem?_toArray, List.getElem?_cons_zero] at b0 c0 o0
  unfold withF
  generalize lowO (sumsO r l a b k a2 b2 q t (cookL bath n cold cooling)) = lw at *
  generalize slowO (sumsO r l a b k a2 b2 q t (cookL bath n cold cooling)) = sl at *
  generalize chk4 (canB r l a b k a2 b2) q.vB t (cookL bath n cold cooling) = ce at *
  clear hs hB
  go_enter Tryz.func64, Tryz.ntmps64
  go_wp2_with fail
  refine (HC.out _).mono ?_
  rintro e w1 ⟨v, rfl, hr, hb⟩
  have HB1 := hid (HBB.out.keep hb)
  have HR := hid hr
  have HW := hid hb
  clear hr hb b0 c0 o0
  have x0 := cell_of_row _ _ 0 _ _ _ HB1.out.can
  have x1 := cell_of_row _ _ 1 _ _ _ HB1.out.can
  have x2 := cell_of_row _ _ 2 _ _ _ HB1.out.can
  have x3 := cell_of_row _ _ 3 _ _ _ HB1.out.can
  have x4 := cell_of_row _ _ 4 _ _ _ HB1.out.can
  have x5 := cell_of_row _ _ 5 _ _ _ HB1.out.can
  have x6 := cell_of_row _ _ 6 _ _ _ HB1.out.can
  have y0 := cell_of_row _ _ 0 _ _ _ HB1.out.kil
  have y1 := cell_of_row _ _ 1 _ _ _ HB1.out.kil
  have y2 := cell_of_row _ _ 2 _ _ _ HB1.out.kil
  have y3 := cell_of_row _ _ 3 _ _ _ HB1.out.kil
  have y4 := cell_of_row _ _ 4 _ _ _ HB1.out.kil
  have i0 := cell_of_row _ _ 0 _ _ _ HB1.out.ini
  simp only [List.getElem?_toArray, List.getElem?_cons_zero, List.getElem?_cons_succ] at x0 x1 x2 x3 x4 x5 x6 y0 y1 y2 y3 y4 i0
  generalize (if cookB bath n cold cooling = true then (0 : Int) else 7) = ck at *
  go_wp2_with fail
  refine (HLE.out _ _ HR.out).mono ?_
  rintro e w2 ⟨rfl, hb2⟩
  have HW2 := hid (bstep HW.out HW.out.size hb2)
  clear hb2 x0 x1 x2 x3 x4 x5 x6 y0 y1 y2 y3 y4 i0
  go_wp2_with fail
  refine bodyPost_ret (v := .int .i64 lw) (by simp [results, Tryz.results64, go_sem]) rfl ⟨rfl, HW2.out⟩
end Go.Proofs.YtihbjimnjhfpeaaGreat

/- Least where it looks: contract. -/
namespace Go.Proofs.YtihbjimnjhfpeaaGreat
open Go.RowKit Go.Lib

theorem lsB_start (r l a b k a2 b2 : Int) (q : Kl) (t bath cold cooling : Int) (w : World) :
    LsB r l a b k a2 b2 q t bath cold cooling w.heap.size ((((((w.alloc (.cells #[.int .i64 r, .int .i64 l, .int .i64 a, .int .i64 b, .int .i64 k, .int .i64 a2, .int .i64 b2] 23)).alloc (.cells #[.string q.s, .int .i64 q.r, .int .i64 q.z, .int .i64 q.d, .int .i64 q.g] 25)).alloc (.cells #[.int .i64 t] 3)).alloc (.cells #[.int .i64 bath] 3)).alloc (.cells #[.int .i64 cold] 3)).alloc (.cells #[.int .i64 cooling] 3)) ∧
    Below w.heap.size w ((((((w.alloc (.cells #[.int .i64 r, .int .i64 l, .int .i64 a, .int .i64 b, .int .i64 k, .int .i64 a2, .int .i64 b2] 23)).alloc (.cells #[.string q.s, .int .i64 q.r, .int .i64 q.z, .int .i64 q.d, .int .i64 q.g] 25)).alloc (.cells #[.int .i64 t] 3)).alloc (.cells #[.int .i64 bath] 3)).alloc (.cells #[.int .i64 cold] 3)).alloc (.cells #[.int .i64 cooling] 3)) := by
  have h := b3_start (w := w) (T1 := 23) (T2 := 25) (T3 := 3) (A := #[.int .i64 r, .int .i64 l, .int .i64 a, .int .i64 b, .int .i64 k, .int .i64 a2, .int .i64 b2]) (B := #[.string q.s, .int .i64 q.r, .int .i64 q.z, .int .i64 q.d, .int .i64 q.g]) (R := #[.int .i64 t])
  have hz : (((w.alloc (.cells #[.int .i64 r, .int .i64 l, .int .i64 a, .int .i64 b, .int .i64 k, .int .i64 a2, .int .i64 b2] 23)).alloc (.cells #[.string q.s, .int .i64 q.r, .int .i64 q.z, .int .i64 q.d, .int .i64 q.g] 25)).alloc (.cells #[.int .i64 t] 3)).heap.size = w.heap.size + 1 + 1 + 1 := by simp
  generalize ((w.alloc (.cells #[.int .i64 r, .int .i64 l, .int .i64 a, .int .i64 b, .int .i64 k, .int .i64 a2, .int .i64 b2] 23)).alloc (.cells #[.string q.s, .int .i64 q.r, .int .i64 q.z, .int .i64 q.d, .int .i64 q.g] 25)).alloc (.cells #[.int .i64 t] 3) = W at *
  have g := b3_start (w := W) (T1 := 3) (T2 := 3) (T3 := 3) (A := #[.int .i64 bath]) (B := #[.int .i64 cold]) (R := #[.int .i64 cooling])
  have g1 := g.one
  have g2 := g.two
  have g3 := g.three
  have hb := g.low
  rw [hz] at g1 g2 g3
  exact ⟨⟨(hb.block _ (lt_of_block h.one)).trans h.one, (hb.block _ (lt_of_block h.two)).trans h.two, (hb.block _ (lt_of_block h.three)).trans h.three, g1, g2, g3⟩, h.low.trans (hb.mono h.low.size)⟩
/-- What Least tells. -/
def LeastP (T : Nat → Bool) (G : Int → Int) (most : Nat) (w : World) (e : Ending) (w' : World) : Prop :=
  Below w.heap.size w w' ∧ ((∃ n : Nat, n ≤ most ∧ T n = true ∧ (∀ j, j < n → T j = false) ∧ e = .returned (.tuple #[.int .i64 (n : Nat), .int .i64 (G n), .int .i64 (if n = 0 then -1 else G ((n : Int) - 1)), .int .i64 0])) ∨ ((∀ j, j ≤ most → T j = false) ∧ e = .returned (.tuple #[.int .i64 0, .int .i64 0, .int .i64 0, .int .i64 8])))
set_option maxRecDepth 20000 in
set_option maxHeartbeats 8000000 in
theorem least_ok (c : Cn) (q : Kl) (t bath cold : Int) (cooling most : Nat) (Z : Nat) (w : World) (hz : q.z = Z) (hs : q.s.size ≤ maxLen) (hcv : c.V) (hv : Lt.validB q.s.data.toList q.r Z q.d q.g = true) (ho : okT t = true) (hob : okT bath = true) (hoc : okT cold = true) (hmost : most + cooling = 2000)
    (hmono : risB c (dish0 c t) bath cold = true → ∀ j n, j ≤ n → n ≤ most → tstC c (fun x => Lt.Pm.rateD q.r q.z (x / 250)) (dish0 c t) (q.g * (q.d * 1000000)) bath cold cooling j = true → tstC c (fun x => Lt.Pm.rateD q.r q.z (x / 250)) (dish0 c t) (q.g * (q.d * 1000000)) bath cold cooling n = true) :
    Calls Tryz.prog 26 #[.agg #[.int .i64 (c.R : Int), .int .i64 (c.L : Int), .int .i64 c.A, .int .i64 c.B, .int .i64 c.K, .int .i64 c.A2, .int .i64 c.B2], .agg #[.string q.s, .int .i64 q.r, .int .i64 q.z, .int .i64 q.d, .int .i64 q.g], .int .i64 t, .int .i64 bath, .int .i64 cold, .int .i64 (cooling : Nat)] w (LeastP (tstC c (fun x => Lt.Pm.rateD q.r q.z (x / 250)) (dish0 c t) (q.g * (q.d * 1000000)) bath cold cooling) (withF c.R c.L c.A c.B c.K c.A2 c.B2 q t bath cold cooling) most w) := by
  have HM := hid (fun W => mended_ok c q.s q.r q.d q.g t bath cold cooling most Z (.slice none 0 0) [] W hs hcv hv ho hob hoc rfl (by simpa using hmost) (.inl ⟨none, 0, rfl, rfl⟩) (fun D hD hr => by
    subst hD
    rw [← hz]
    exact hmono hr))
  rw [← hz] at HM
  simp only [dishR_nil] at HM
  have HWF := hid (fun (n : Int) (W : World) (h : LsB c.R c.L c.A c.B c.K c.A2 c.B2 q t bath cold cooling w.heap.size W) => with_any c.R c.L c.A c.B c.K c.A2 c.B2 q t bath cold cooling n w.heap.size W hs h)
  have HB := hid (lsB_start c.R c.L c.A c.B c.K c.A2 c.B2 q t bath cold cooling w)
  generalize withF c.R c.L c.A c.B c.K c.A2 c.B2 q t bath cold cooling = G at *
  generalize tstC c (fun x => Lt.Pm.rateD q.r q.z (x / 250)) (dish0 c t) (q.g * (q.d * 1000000)) bath cold cooling = T at *
  clear hz hs hcv hv ho hob hoc hmono
  have x0 := cell_of_row _ _ 0 _ _ _ HB.out.1.can
  have x1 := cell_of_row _ _ 1 _ _ _ HB.out.1.can
  have x2 := cell_of_row _ _ 2 _ _ _ HB.out.1.can
  have x3 := cell_of_row _ _ 3 _ _ _ HB.out.1.can
  have x4 := cell_of_row _ _ 4 _ _ _ HB.out.1.can
  have x5 := cell_of_row _ _ 5 _ _ _ HB.out.1.can
  have x6 := cell_of_row _ _ 6 _ _ _ HB.out.1.can
  have y0 := cell_of_row _ _ 0 _ _ _ HB.out.1.kil
  have y1 := cell_of_row _ _ 1 _ _ _ HB.out.1.kil
  have y2 := cell_of_row _ _ 2 _ _ _ HB.out.1.kil
  have y3 := cell_of_row _ _ 3 _ _ _ HB.out.1.kil
  have y4 := cell_of_row _ _ 4 _ _ _ HB.out.1.kil
  have i0 := cell_of_row _ _ 0 _ _ _ HB.out.1.ini
  have b0 := cell_of_row _ _ 0 _ _ _ HB.out.1.bat
  have c0 := cell_of_row _ _ 0 _ _ _ HB.out.1.col
  have o0 := cell_of_row _ _ 0 _ _ _ HB.out.1.coo
  simp only [List.getElem?_toArray, List.getElem?_cons_zero, List.getElem?_cons_succ] at x0 x1 x2 x3 x4 x5 x6 y0 y1 y2 y3 y4 i0 b0 c0 o0
  go_enter Tryz.func26, Tryz.ntmps26
  go_wp2_with fail
  refine (HM.out _).mono ?_
  rintro e w2 ⟨hb2, ⟨n, hn1, hn2, hn3, rfl⟩ | ⟨hn1, rfl⟩⟩
  · have HB2 := hid (HB.out.1.keep hb2)
    have HL2 := hid (HB.out.2.trans (hb2.mono HB.out.2.size))
    have HN := hid (And.intro hn1 (And.intro hn2 hn3))
    have heq := enter_at Tryz.func64 (by kernel_rfl) (by kernel_rfl)
    clear hb2 hn2 hn3 x0 x1 x2 x3 x4 x5 x6 y0 y1 y2 y3 y4 i0 b0 c0 o0 HB
    by_cases h0 : n = 0
    · subst h0
      go_wp2_with fail
      refine (HWF.out _ _ HB2.out).mono ?_
      rintro e w3 ⟨rfl, hb3⟩
      have HL3 := hid (bstep HL2.out HL2.out.size hb3)
      clear hb3
      go_wp2_with fail
      refine bodyPost_ret (v := .tuple #[.int .i64 0, .int .i64 (G 0), .int .i64 (-1), .int .i64 0]) (by simp [results, Tryz.results26, go_sem]) rfl ⟨HL3.out, .inl ⟨0, HN.out.1, HN.out.2.1, HN.out.2.2, rfl⟩⟩
    · have h0' : ¬ (n : Int) = 0 := by omega
      have HE := hid (show (if n = 0 then (-1 : Int) else G ((n : Int) - 1)) = G ((n : Int) - 1) from if_neg h0)
      have hn2000 : n ≤ 2000 := by omega
      clear h0
      go_wp2_with fail
      refine (HWF.out _ _ HB2.out).mono ?_
      rintro e w3 ⟨rfl, hb3⟩
      have HL3 := hid (bstep HL2.out HL2.out.size hb3)
      have HB3 := hid (HB2.out.keep hb3)
      clear hb3
      go_wp2_with fail
      refine (HWF.out _ _ HB3.out).mono ?_
      rintro e w4 ⟨rfl, hb4⟩
      have HL4 := hid (bstep HL3.out HL3.out.size hb4)
      clear hb4
      go_wp2_with fail
      refine bodyPost_ret (v := .tuple #[.int .i64 (n : Nat), .int .i64 (G n), .int .i64 (G ((n : Int) - 1)), .int .i64 0]) (by simp [results, Tryz.results26, go_sem]) rfl ⟨HL4.out, .inl ⟨n, HN.out.1, HN.out.2.1, HN.out.2.2, by rw [HE.out]⟩⟩
  · have HL2 := hid (HB.out.2.trans (hb2.mono HB.out.2.size))
    have HN := hid hn1
    clear hb2 hn1 x0 x1 x2 x3 x4 x5 x6 y0 y1 y2 y3 y4 i0 b0 c0 o0 HB
    go_wp2_with fail
    refine bodyPost_ret (v := .tuple #[.int .i64 0, .int .i64 0, .int .i64 0, .int .i64 8]) (by simp [results, Tryz.results26, go_sem]) rfl ⟨HL2.out, .inr ⟨HN.out, rfl⟩⟩
end Go.Proofs.YtihbjimnjhfpeaaGreat

/- Walk of Proved: contract. -/
namespace Go.Proofs.YtihbjimnjhfpeaaGreat
open Go.RowKit Go.Lib

/-- A can is sterile with n ticks of a cook. -/
def sterP (r l a b k a2 b2 : Int) (q : Kl) (t bath cold cooling n : Int) : Bool := cookB bath n cold cooling && sterO q (lowO (sumsO r l a b k a2 b2 q t (cookL bath n cold cooling))) (chk4 (canB r l a b k a2 b2) q.vB t (cookL bath n cold cooling))
def provO (T : Int → Bool) (n : Int) : Bool := T n && (decide (n = 0) || !T (n - 1))
theorem sterP_range {r l a b k a2 b2 : Int} {q : Kl} {t bath cold cooling n : Int} (h : sterP r l a b k a2 b2 q t bath cold cooling n = true) : 0 ≤ n ∧ n ≤ 2000 := by
  unfold sterP cookB at h
  rw [Bool.and_eq_true, Bool.and_eq_true] at h
  obtain ⟨h1, h2, h3⟩ := ticksB_two.1 h.1.2
  omega
end Go.Proofs.YtihbjimnjhfpeaaGreat

/- Walks of the reference's repeated, Cook, leastError, enoughTicks, Proved: contracts. -/
namespace Go.Proofs.YtihbjimnjhfpeaaGreat
open Go.RowKit Go.Lib

set_option maxHeartbeats 1000000 in
theorem xin_any (n lo hi : Int) (w : World) : Calls Tryz.prog 48 #[.int .i64 n, .int .i64 lo, .int .i64 hi] w fun e w' => e = .returned (.bool (decide (lo ≤ n) && decide (n ≤ hi))) ∧ w = w' := by
  cases h : decide (lo ≤ n)
  · have h' : ¬ lo ≤ n := by simpa using h
    go_enter Tryz.func48, Tryz.ntmps48
    go_wp2
    go_ret
    exact ⟨rfl, rfl⟩
  · have h' : lo ≤ n := by simpa using h
    go_enter Tryz.func48, Tryz.ntmps48
    go_wp2
    go_ret
    exact ⟨rfl, rfl⟩
set_option maxRecDepth 20000 in
set_option maxHeartbeats 4000000 in
theorem xrep_any (t : Int) (n : Nat) (w : World) (hn : n ≤ 2000) : Calls Tryz.prog 79 #[.int .i64 t, .int .i64 n] w (NewI w (List.replicate n t)) := by
  obtain ⟨i0, hi, hz0, hz1, hz2⟩ := info_parts infoQc
  have HR0 : Hid (w.ownsRow w.heap.size 3 1 (.slice none 0 0) (ivs (List.replicate 0 t)).length (ivs (List.replicate 0 t))) := World.ownsRow_nil _ _ _ _
  have HB0 := hid (Below.refl w.heap.size w)
  go_enter Tryz.func79, Tryz.ntmps79
  go_wp2_with fail
  go_loopw [5, 6] (fun u i wr => ∃ k : Nat, k ≤ n ∧ i = .int .i64 (k : Int) ∧ Hid (wr.ownsRow w.heap.size 3 1 u (ivs (List.replicate k t)).length (ivs (List.replicate k t))) ∧ Hid (Below w.heap.size w wr)) (fun _ i _ => n - (intOf i).toNat)
  case atStart => exact ⟨0, Nat.zero_le _, rfl, HR0, HB0⟩
  case round =>
    obtain ⟨k, hk, rfl, hO, hB⟩ := hrel
    obtain ⟨ua, uc, rfl⟩ := own_shapeP hO.out
    by_cases hlt : k < n
    · have hlt' : (k : Int) < n := by omega
      have HS := hid (List.replicate_succ' (n := k) (a := t))
      have HLN := hid (show (List.replicate k t).length ≤ 100000 by rw [List.length_replicate]; omega)
      have HLT := hid hlt
      generalize List.replicate k t = F at *
      clear hlt
      go_wp2_with (at_builtin; (refine wpList_app rfl (.tmp 12) (.tmp 14) 28 rfl w.heap.size 3 i0 Tryz.underlying28 hi hz0 hz1 hz2 _ (ivs F) rfl (World.ownsRow.alloc hO.out _) _ [t] rfl (by exact (one_row _ _ rfl).src) (by rw [ivs_len]; have := HLN.out; simp; omega) (by have := hB.out.size; simp; omega) ?_); intro v3 w6 hA1; have HB6 := hid (app_low (hB.out.alloc hB.out.size _) (World.ownsRow.alloc hO.out _) (Nat.le_refl _) hA1); have HO6 := hid (app_next hA1); obtain ⟨a3, c3, rfl⟩ := own_shapeP HO6.out; clear hA1)
      go_roundw
      case rel => exact ⟨k + 1, HLT.out, by go_num, by have h := HO6.out; rw [List.length_append, List.length_singleton] at h; rw [HS.out, ivs_len, List.length_append, List.length_singleton]; exact hid h, HB6⟩
      case measure => have := HLT.out; simp [intOf]; omega
    · obtain rfl : k = n := by omega
      go_wp2_with fail
      go_ret
      exact ⟨_, rfl, hO.out, hB.out⟩
/-- The first error of a least cook. -/
def leE (vc vk : Bool) (t bath cold cooling : Int) : Int := if (vc && vk) = false then 1 else if (((okT t && okT bath) && okT cold) && tick1 cooling) = false then 7 else 0
theorem tick1_in (x : Int) : (decide (0 ≤ x) && decide (x ≤ 2000)) = tick1 x := rfl
theorem okT_in (x : Int) : (decide (-50000 ≤ x) && decide (x ≤ 200000)) = okT x := rfl
set_option maxRecDepth 20000 in
set_option maxHeartbeats 4000000 in
theorem xlerr_any (r l a b k a2 b2 : Int) (w : World) (q : Kl) (t bath cold cooling : Int) (hs : q.s.size ≤ maxLen) :
    Calls Tryz.prog 35 #[.agg #[.int .i64 r, .int .i64 l, .int .i64 a, .int .i64 b, .int .i64 k, .int .i64 a2, .int .i64 b2], .agg #[.string q.s, .int .i64 q.r, .int .i64 q.z, .int .i64 q.d, .int .i64 q.g], .int .i64 t, .int .i64 bath, .int .i64 cold, .int .i64 cooling] w fun e w' => e = .returned (.int .i64 (leE (canB r l a b k a2 b2) q.vB t bath cold cooling)) ∧ Below w.heap.size w w' := by
  have HX := hid (box2_start (w := w) (A := #[.int .i64 r, .int .i64 l, .int .i64 a, .int .i64 b, .int .i64 k, .int .i64 a2, .int .i64 b2]) (B := #[.string q.s, .int .i64 q.r, .int .i64 q.z, .int .i64 q.d, .int .i64 q.g]) (T := 23) (T' := 25) (fz := (0, 0)) (fz' := (0, 0)))
  have HV := hid (fun W => rvcan_any r l a b k a2 b2 W)
  have HQ : Hid (∀ W, Calls Tryz.prog 18 #[.agg #[.string q.s, .int .i64 q.r, .int .i64 q.z, .int .i64 q.d, .int .i64 q.g]] W fun e w' => e = .returned (.bool q.vB) ∧ Below W.heap.size W w') := fun W => Lt.rvalid_any q.s q.r q.z q.d q.g W hs
  clear hs
  unfold leE
  cases h1 : canB r l a b k a2 b2
  · rw [h1] at HV
    go_enter Tryz.func35, Tryz.ntmps35
    go_wp2_with fail
    refine (HV.out _).mono ?_
    rintro e w1 ⟨rfl, hb⟩
    have HX := hid (HX.out.keep hb)
    clear hb
    go_wp2_with fail
    go_ret
    exact ⟨rfl, HX.out.low⟩
  rw [h1] at HV
  cases h2 : q.vB
  · rw [h2] at HQ
    go_enter Tryz.func35, Tryz.ntmps35
    go_wp2_with fail
    refine (HV.out _).mono ?_
    rintro e w1 ⟨rfl, hb⟩
    have HX := hid (HX.out.keep hb)
    clear hb
    have x0 := HX.out.snd 0; have x1 := HX.out.snd 1; have x2 := HX.out.snd 2; have x3 := HX.out.snd 3; have x4 := HX.out.snd 4
    simp only [List.getElem?_toArray, List.getElem?_cons_zero, List.getElem?_cons_succ] at x0 x1 x2 x3 x4
    go_wp2_with fail
    refine (HQ.out _).mono ?_
    rintro e w2 ⟨rfl, hb⟩
    have HX := hid (HX.out.keep hb)
    clear hb x0 x1 x2 x3 x4
    go_wp2_with fail
    go_ret
    exact ⟨rfl, HX.out.low⟩
  rw [h2] at HQ
  have HW1 : Hid (∀ W, Calls Tryz.prog 36 #[.int .i64 t] W fun e w' => e = .returned (.bool (okT t)) ∧ W = w') := fun W => warm_any t W
  have HW2 : Hid (∀ W, Calls Tryz.prog 36 #[.int .i64 bath] W fun e w' => e = .returned (.bool (okT bath)) ∧ W = w') := fun W => warm_any bath W
  have HW3 : Hid (∀ W, Calls Tryz.prog 36 #[.int .i64 cold] W fun e w' => e = .returned (.bool (okT cold)) ∧ W = w') := fun W => warm_any cold W
  have HW4 : Hid (∀ W, Calls Tryz.prog 48 #[.int .i64 cooling, .int .i64 0, .int .i64 2000] W fun e w' => e = .returned (.bool (tick1 cooling)) ∧ W = w') := fun W => xin_any cooling 0 2000 W
  generalize okT t = b1 at *
  generalize okT bath = b2' at *
  generalize okT cold = b3 at *
  generalize tick1 cooling = b4 at *
  go_enter Tryz.func35, Tryz.ntmps35
  go_wp2_with fail
  refine (HV.out _).mono ?_
  rintro e w1 ⟨rfl, hb⟩
  have HX := hid (HX.out.keep hb)
  clear hb
  have x0 := HX.out.snd 0; have x1 := HX.out.snd 1; have x2 := HX.out.snd 2; have x3 := HX.out.snd 3; have x4 := HX.out.snd 4
  simp only [List.getElem?_toArray, List.getElem?_cons_zero, List.getElem?_cons_succ] at x0 x1 x2 x3 x4
  go_wp2_with fail
  refine (HQ.out _).mono ?_
  rintro e w2 ⟨rfl, hb⟩
  have HX := hid (HX.out.keep hb)
  clear hb x0 x1 x2 x3 x4
  go_wp2_with fail
  refine (HW1.out _).mono ?_
  rintro e w3 ⟨rfl, rfl⟩
  cases b1
  · go_wp2_with fail
    go_ret
    exact ⟨rfl, HX.out.low⟩
  go_wp2_with fail
  refine (HW2.out _).mono ?_
  rintro e w3 ⟨rfl, rfl⟩
  cases b2'
  · go_wp2_with fail
    go_ret
    exact ⟨rfl, HX.out.low⟩
  go_wp2_with fail
  refine (HW3.out _).mono ?_
  rintro e w3 ⟨rfl, rfl⟩
  cases b3
  · go_wp2_with fail
    go_ret
    exact ⟨rfl, HX.out.low⟩
  go_wp2_with fail
  refine (HW4.out _).mono ?_
  rintro e w3 ⟨rfl, rfl⟩
  cases b4
  · go_wp2_with fail
    go_ret
    exact ⟨rfl, HX.out.low⟩
  · go_wp2_with fail
    go_ret
    exact ⟨rfl, HX.out.low⟩
end Go.Proofs.YtihbjimnjhfpeaaGreat

/- Walk of the reference's first: contract. -/
namespace Go.Proofs.YtihbjimnjhfpeaaGreat
open Go.RowKit Go.Lib

/-- A run's box alone. -/
structure OnL (K : Kq) (n : Nat) (A : Array Value) (w W : World) : Prop where
  kept : K.at W
  still : Lt.Still K.gD K.gU w W
  box : W.heap[n]? = some (.cells A 136 (0, 0))
theorem OnL.below {K : Kq} {n : Nat} {A : Array Value} {w W W' : World} (h : OnL K n A w W) (hb : Below W.heap.size W W') : OnL K n A w W' :=
  ⟨Kq.below h.kept hb, h.still.trans (Lt.Still.below hb), (hb.block _ (lt_of_block h.box)).trans h.box⟩
theorem OnL.at {K : Kq} {n : Nat} {A : Array Value} {w W W' : World} (h : OnL K n A w W) (hn : K.gD < n ∧ K.gU < n) (hk : K.at W') (hs : Lt.Still K.gD K.gU W W') : OnL K n A w W' :=
  ⟨hk, h.still.trans hs, (hs.block _ (lt_of_block h.box) (by omega) (by omega)).trans h.box⟩
theorem onL_start {K : Kq} {w : World} {A : Array Value} (hK : K.at w) : OnL K w.heap.size A w (w.alloc (.cells A 136)) := by
  have hb : Below w.heap.size w (w.alloc (.cells A 136)) := (Below.refl _ _).alloc (Nat.le_refl _) _
  exact ⟨Kq.below hK hb, Lt.Still.below hb, heap_alloc_new w _⟩
theorem OnL.lay0 {K : Kq} {n : Nat} {A cs : Array Value} {w W W' : World} (h : OnL K n A w W) (hn : K.gD < n ∧ K.gU < n) (hw : w.heap.size ≤ n) (hW : W.setRow n cs = W') :
    OnL K n cs w W' ∧ (∀ g, g ≠ n → W'.heap[g]? = W.heap[g]?) ∧ W.heap.size ≤ W'.heap.size := by
  subst hW
  have ho : ∀ g, g ≠ n → (W.setRow n cs).heap[g]? = W.heap[g]? := fun g hg => setRow_other _ _ _ _ hg
  have hg : W.grownBy (W.setRow n cs) (some n) := ⟨rfl, rfl, rfl, by simp, fun k _ hk => ho k (fun e => hk (by rw [e]))⟩
  exact ⟨⟨Kq.grown (base := n) h.kept hg (fun j e => by cases e; exact Nat.le_refl _) hn, ⟨Nat.le_trans h.still.size hg.size, fun j hj h1 h2 => (ho j (by omega)).trans (h.still.block j hj h1 h2)⟩, setRow_heap _ _ _ _ _ _ h.box⟩, ho, hg.size⟩
theorem OnL.x13 {c : Cn} {K : Kq} {n : Nat} {vx vd vu : Value} {br : Bool} {k : Nat} {w W : World} (h : OnL K n (rnA c K vx br vd vu k) w W) :
    W.cell? ⟨n, 0, none⟩ = some (.int .i64 (c.R : Int)) ∧ W.cell? ⟨n, 1, none⟩ = some (.int .i64 (c.L : Int)) ∧ W.cell? ⟨n, 2, none⟩ = some (.int .i64 c.A) ∧ W.cell? ⟨n, 3, none⟩ = some (.int .i64 c.B) ∧ W.cell? ⟨n, 4, none⟩ = some (.int .i64 c.K) ∧ W.cell? ⟨n, 5, none⟩ = some (.int .i64 c.A2) ∧ W.cell? ⟨n, 6, none⟩ = some (.int .i64 c.B2) ∧
    W.cell? ⟨n, 7, none⟩ = some vx ∧ W.cell? ⟨n, 8, none⟩ = some (.bool br) ∧ W.cell? ⟨n, 9, none⟩ = some (.pointer (some ⟨K.b, 0, none⟩)) ∧ W.cell? ⟨n, 10, none⟩ = some vd ∧ W.cell? ⟨n, 11, none⟩ = some vu ∧ W.cell? ⟨n, 12, none⟩ = some (.int .i64 (k : Nat)) :=
  ⟨cell_of_row _ _ 0 _ _ _ h.box, cell_of_row _ _ 1 _ _ _ h.box, cell_of_row _ _ 2 _ _ _ h.box, cell_of_row _ _ 3 _ _ _ h.box, cell_of_row _ _ 4 _ _ _ h.box, cell_of_row _ _ 5 _ _ _ h.box, cell_of_row _ _ 6 _ _ _ h.box, cell_of_row _ _ 7 _ _ _ h.box, cell_of_row _ _ 8 _ _ _ h.box, cell_of_row _ _ 9 _ _ _ h.box, cell_of_row _ _ 10 _ _ _ h.box, cell_of_row _ _ 11 _ _ _ h.box, cell_of_row _ _ 12 _ _ _ h.box⟩
def RowsQ (gD gU n : Nat) (W : World) (S : Rs) (xa : Option Addr) (xc : Nat) (da : Option Addr) (dc : Nat) (ua : Option Addr) (uc : Nat) : Prop :=
  ∀ W', (∀ g, g ≠ n → W'.heap[g]? = W.heap[g]?) → W.heap.size ≤ W'.heap.size → RowsK gD gU W' S xa xc da dc ua uc
theorem RowsK.offQ {gD gU n : Nat} {W : World} {S : Rs} {xa da ua : Option Addr} {xc dc uc : Nat} (h : RowsK gD gU W S xa xc da dc ua uc) (hf : RowsF (n + 1) xa da ua) (hD : gD < n) (hU : gU < n) : RowsQ gD gU n W S xa xc da dc ua uc :=
  fun _ hs _ => h.same hf (fun g hg => hs g (by omega)) (by omega) (by omega)
theorem RowsK.startQ {gD gU : Nat} {w W : World} {S : Rs} {xa da ua : Option Addr} {xc dc uc : Nat} (h : RowsK gD gU w S xa xc da dc ua uc) (hs : Lt.Still gD gU w W) : RowsQ gD gU w.heap.size W S xa xc da dc ua uc :=
  fun _ h1 h2 => h.still ⟨Nat.le_trans hs.size h2, fun j hj a b => (h1 j (by omega)).trans (hs.block j hj a b)⟩
/-- The killer of kept rates. -/
theorem Kq.kil {K : Kq} {W : World} (h : K.at W) : W.cell? ⟨K.b, 0, none⟩ = some (.string K.s) ∧ W.cell? ⟨K.b, 1, none⟩ = some (.int .i64 K.r) ∧ W.cell? ⟨K.b, 2, none⟩ = some (.int .i64 (K.Z : Int)) ∧ W.cell? ⟨K.b, 3, none⟩ = some (.int .i64 K.d) ∧ W.cell? ⟨K.b, 4, none⟩ = some (.int .i64 K.g) := by
  obtain ⟨_, _, _, _, hF, _⟩ := h
  obtain ⟨c0, c1, c2, c3, c4, _, _⟩ := hF.cells7
  exact ⟨c0, c1, c2, c3, c4⟩
/-- The lethality with n ticks in a bath, and a cooling behind them. -/
def lowF (c : Cn) (f g : Int → Nat) (S : Rs) (bath cold : Int) (cooling n : Nat) : Int := minA (ivN (rsR c f g (rsR c f g S (List.replicate n bath)) (List.replicate cooling cold)).d)
/-- What first tells. -/
def FirP (F : Nat → Int) (need : Int) (most : Nat) (K : Kq) (w : World) (e : Ending) (w' : World) : Prop :=
  (K.at w' ∧ Lt.Still K.gD K.gU w w') ∧ ((∃ n : Nat, n ≤ most ∧ need ≤ F n ∧ (∀ j, j < n → F j < need) ∧ e = .returned (.tuple #[.int .i64 (n : Nat), .int .i64 (F n), .int .i64 (if n = 0 then -1 else F (n - 1)), .bool true])) ∨ ((∀ j, j ≤ most → F j < need) ∧ e = .returned (.tuple #[.int .i64 0, .int .i64 0, .int .i64 0, .bool false])))
theorem rsR_rep (c : Cn) (f g : Int → Nat) (S : Rs) (b : Int) (n : Nat) : rsR c f g S (List.replicate (n + 1) b) = rsT c f g (rsR c f g S (List.replicate n b)) b := by
  rw [List.replicate_succ', rsR_append]
  rfl
theorem rep_ok {n : Nat} {t : Int} (h : okT t = true) : okL (List.replicate n t) = true := by simp [okL, h]
/-- What a round of first stands on. -/
def RawU (c : Cn) (K : Kq) (n : Nat) (xa : Option Addr) (xn xc : Nat) (br : Bool) (da : Option Addr) (dn dc : Nat) (ua : Option Addr) (un uc : Nat) (sk : Nat) (w W : World) : Prop :=
  (W.cell? ⟨n, 0, none⟩ = some (.int .i64 (c.R : Int)) ∧ W.cell? ⟨n, 1, none⟩ = some (.int .i64 (c.L : Int)) ∧ W.cell? ⟨n, 2, none⟩ = some (.int .i64 c.A) ∧ W.cell? ⟨n, 3, none⟩ = some (.int .i64 c.B) ∧ W.cell? ⟨n, 4, none⟩ = some (.int .i64 c.K) ∧ W.cell? ⟨n, 5, none⟩ = some (.int .i64 c.A2) ∧ W.cell? ⟨n, 6, none⟩ = some (.int .i64 c.B2) ∧
    W.cell? ⟨n, 7, none⟩ = some (.slice xa xn xc) ∧ W.cell? ⟨n, 8, none⟩ = some (.bool br) ∧ W.cell? ⟨n, 9, none⟩ = some (.pointer (some ⟨K.b, 0, none⟩)) ∧ W.cell? ⟨n, 10, none⟩ = some (.slice da dn dc) ∧ W.cell? ⟨n, 11, none⟩ = some (.slice ua un uc) ∧ W.cell? ⟨n, 12, none⟩ = some (.int .i64 (sk : Nat))) ∧
  OnL K n (rnA c K (.slice xa xn xc) br (.slice da dn dc) (.slice ua un uc) sk) w W
set_option maxRecDepth 100000 in
set_option maxHeartbeats 8000000 in
theorem xfirst_any (c : Cn) (K : Kq) (S : Rs) (bath cold : Int) (cooling most : Nat) (xa : Option Addr) (xc : Nat) (da : Option Addr) (dc : Nat) (ua : Option Addr) (uc : Nat) (w : World) (hc : c.Ok) (hV : K.V) (hvb : Lt.validB K.s.data.toList K.r K.Z K.d K.g = true) (hsz : K.s.size ≤ maxLen) (hG : GoodR c S) (hb : okT bath = true) (hco : okT cold = true) (hn2 : cooling ≤ 2000) (hm2 : most ≤ 2000) (hR : RowsK K.gD K.gU w S xa xc da dc ua uc) (hK : K.at w) :
    Calls Tryz.prog 77 #[.agg #[.int .i64 (c.R : Int), .int .i64 (c.L : Int), .int .i64 c.A, .int .i64 c.B, .int .i64 c.K, .int .i64 c.A2, .int .i64 c.B2, .slice xa S.x.1.length xc, .bool S.x.2, .pointer (some ⟨K.b, 0, none⟩), .slice da S.d.length dc, .slice ua S.u.length uc, .int .i64 (S.k : Nat)], .int .i64 bath, .int .i64 cold, .int .i64 (cooling : Nat), .int .i64 (most : Nat)] w (FirP (lowF c K.f K.u S bath cold cooling) (K.g * (K.d * 1000000)) most K w) := by
  have HN := hid (Kq.lt hK)
  have hn : Hid (K.gD < w.heap.size ∧ K.gU < w.heap.size) := ⟨HN.out.2.1, HN.out.2.2.1⟩
  have HT := hid (onL_start (A := #[.int .i64 (c.R : Int), .int .i64 (c.L : Int), .int .i64 c.A, .int .i64 c.B, .int .i64 c.K, .int .i64 c.A2, .int .i64 c.B2, .slice xa S.x.1.length xc, .bool S.x.2, .pointer (some ⟨K.b, 0, none⟩), .slice da S.d.length dc, .slice ua S.u.length uc, .int .i64 (S.k : Nat)]) hK)
  have HR := hid (hR.startQ HT.out.still)
  have HRP := hid (fun W => xrep_any cold cooling W hn2)
  have HND := hid (fun W => Lt.rneeds_yes K.s K.r K.Z K.d K.g W hsz hvb)
  have HPB := hid hc.p
  have HFD := hid (fun n => show lowF c K.f K.u S bath cold cooling n = minA (ivN (rsR c K.f K.u (rsR c K.f K.u S (List.replicate n bath)) (List.replicate cooling cold)).d) from rfl)
  generalize K.g * (K.d * 1000000) = need at *
  generalize lowF c K.f K.u S bath cold cooling = F at *
  clear hR hK hsz
  go_enter Tryz.func77, Tryz.ntmps77
  go_wp2_with fail
  go_loopw [14, 15] (fun bf i wr => ∃ j : Nat, j ≤ most + 1 ∧ i = .int .i64 (j : Int) ∧ (∃ bv : Int, bf = .int .i64 bv ∧ Hid (bv = if j = 0 then -1 else F (j - 1))) ∧ Hid (∀ i, i < j → F i < need) ∧ ∃ S' xa xc da dc ua uc, Hid (S' = rsR c K.f K.u S (List.replicate j bath)) ∧ Hid (OnL K w.heap.size (rnA c K (.slice xa S'.x.1.length xc) S'.x.2 (.slice da S'.d.length dc) (.slice ua S'.u.length uc) S'.k) w wr) ∧ Hid (RowsQ K.gD K.gU w.heap.size wr S' xa xc da dc ua uc)) (fun _ i _ => most + 1 - (intOf i).toNat)
  case atStart => exact ⟨0, Nat.zero_le _, rfl, ⟨-1, rfl, rfl⟩, fun i hi => by omega, S, xa, xc, da, dc, ua, uc, rfl, HT, HR⟩
  case round =>
    obtain ⟨j, hj, rfl, ⟨bv, rfl, HBV⟩, HAL, S', ya, yc, ea, ec, ga, gc, HS, HTr, HRo⟩ := hrel
    have HRr := hid (HRo.out wr (fun _ _ => rfl) (Nat.le_refl _))
    by_cases hlt : j ≤ most
    · have hlt' : (j : Int) ≤ most := by omega
      have HGk : Hid (GoodR c S') := by refine hid ?_; rw [HS.out]; exact hG.run hc (rep_ok hb)
      have HFJ : Hid (F j = minA (ivN (rsR c K.f K.u S' (List.replicate cooling cold)).d)) := by refine hid ?_; rw [HFD.out, HS.out]
      have HSU : Hid (rsT c K.f K.u S' bath = rsR c K.f K.u S (List.replicate (j + 1) bath)) := by
        refine hid ?_
        rw [HS.out]; exact (rsR_rep c K.f K.u S bath j).symm
      have HTH := hid (fun W v h1 h2 h3 => xthrough_any c K S' v (List.replicate cooling cold) ya yc ea ec ga gc W hc hV HGk.out (rep_ok hco) h1 h2 h3 (by simp; omega))
      have HTK := hid (fun W h1 h2 => xtick_any c K S' bath ya yc ea ec ga gc W hc hV HGk.out hb h1 h2)
      have HGE := hid (HGk.out.run (f := K.f) (g := K.u) hc (rep_ok (n := cooling) hco))
      have HLR := hid (show (List.replicate cooling cold).length ≤ 1000000 by simp; omega)
      have HTD := hid (HTr.out.below (Below.refl _ wr).drew)
      have HRD := hid (HRr.out.still (Lt.Still.below (Below.refl _ wr).drew))
      have HRK := hid (fun (W : World) (a : Option Addr) (n cap : Nat) (l : List Int) (h : RowI W (.slice a n cap) l) (ha : ∀ ad, a = some ad → wr.heap.size ≤ ad.block) => rowK_from (gD := K.gD) (gU := K.gU) h ha (by have h1 := hn.out.1; have h2 := HTr.out.still.size; omega) (by have h1 := hn.out.2; have h2 := HTr.out.still.size; omega))
      generalize List.replicate cooling cold = CL at *
      have HLT := hid hlt
      clear hlt
      go_wp2_with fail
      refine wp_region_held_drew (S := RawU c K w.heap.size ya S'.x.1.length yc S'.x.2 ea S'.d.length ec ga S'.u.length gc S'.k w) (by kernel_rfl) ⟨HTD.out.x13, HTD.out⟩ (fun hS0 => ?_)
      refine wpAnyH_take (i := 0) (v := ?_) rfl (by kernel_rfl) (by kernel_rfl) (by kernel_rfl) (fun _ _ _ h => h) (Or.inl ⟨by rfl, ?_⟩) hS0 ?_
      rotate_left
      · intro w' hSw
        obtain ⟨⟨q0, q1, q2, q3, q4, q5, q6, q7, q8, q9, q10, q11, q12⟩, _⟩ := hSw
        go_simp
        try with_reducible rfl
      try simp only [Act.put]
      try simp only [List.setIfInBounds_toArray]
      try simp only [List.set_cons_zero, List.set_cons_succ]
      refine wpAnyH_take (i := 1) (v := ?_) rfl (by kernel_rfl) (by kernel_rfl) (by kernel_rfl) (fun _ _ _ h => h) (Or.inl ⟨by rfl, ?_⟩) hS0 ?_
      rotate_left
      · intro w' hSw
        obtain _ := hSw
        go_simp
        try with_reducible rfl
      try simp only [Act.put]
      try simp only [List.setIfInBounds_toArray]
      try simp only [List.set_cons_zero, List.set_cons_succ]
      refine wpAnyH_take (i := 2) (v := ?_) rfl (by kernel_rfl) (by kernel_rfl) (by kernel_rfl) (fun _ _ _ h => h) (Or.inl ⟨by rfl, ?_⟩) hS0 ?_
      rotate_left
      · intro w' hSw
        obtain _ := hSw
        go_simp
        try with_reducible rfl
      try simp only [Act.put]
      try simp only [List.setIfInBounds_toArray]
      try simp only [List.set_cons_zero, List.set_cons_succ]
      (refine wpAnyH_ready (rs := [3]) (by kernel_rfl) (by simp) ?_)
      refine AllReadyH.cons rfl (fun K hK => ?_) AllReadyH.nil
      go_simp
      refine (HRP.out _).mono ?_
      rintro e w5 ⟨v5, rfl, ho5, hb5⟩
      have HT5 := hid (HTD.out.below hb5)
      have HR5 := hid (HRD.out.still (Lt.Still.below hb5))
      obtain ⟨a5, c5, rfl⟩ := own_shapeP ho5
      have HB5 := hid (HRK.out _ _ _ _ _ (NewI.rowI ho5 HLR.out) (own_from ho5))
      clear ho5 hb5
      (refine hK.out _ _ (⟨HT5.out.x13, HT5.out⟩) (fun hS1 => ?_); clear hK K)
      clear hS0
      (refine wpAnyH_ready (rs := [4]) (by kernel_rfl) (by simp) ?_)
      refine AllReadyH.cons rfl (fun K hK => ?_) AllReadyH.nil
      go_simp
      refine (HTH.out _ _ HR5.out HT5.out.kept HB5.out).mono ?_
      rintro e w6 ⟨za, zc, fa, fc, ha, hac, rfl, hr6, hk6, hs6⟩
      have HT6 := hid (HT5.out.at hn.out hk6 hs6)
      have HR6 := hid hr6
      have HRr6 := hid (HR5.out.still hs6)
      clear hr6 hk6 hs6
      (refine hK.out _ _ (⟨HT6.out.x13, HT6.out⟩) (fun hS2 => ?_); clear hK K)
      clear hS1
      have HLE := hid (show (rsR c K.f K.u S' CL).d.length = c.P from HGE.out.down.len)
      have HXS := hid (fun W h => xslow_any c K (rsR c K.f K.u S' CL) za zc fa fc ha hac W h (by rw [HLE.out]; exact HPB.out.1) (by rw [HLE.out]; have := HPB.out.2; omega))
      rw [← HFJ.out] at HXS
      (refine wpAnyH_ready (rs := [5]) (by kernel_rfl) (by simp) ?_)
      refine AllReadyH.cons rfl (fun K hK => ?_) AllReadyH.nil
      go_simp
      refine (HXS.out _ HR6.out.td.row).mono ?_
      rintro e w7 ⟨rfl, hb7⟩
      have HT7 := hid (HT6.out.below hb7)
      have HR7 := hid (HRr6.out.still (Lt.Still.below hb7))
      clear hb7
      (refine hK.out _ _ (⟨HT7.out.x13, HT7.out⟩) (fun hS3 => ?_); clear hK K)
      clear hS2
      refine wpAnyH_take (i := 6) (v := ?_) rfl (by kernel_rfl) (by kernel_rfl) (by kernel_rfl) (fun _ _ _ h => h) (Or.inl ⟨by rfl, ?_⟩) hS3 ?_
      rotate_left
      · intro w' hSw
        obtain _ := hSw
        go_simp
        try with_reducible rfl
      try simp only [Act.put]
      try simp only [List.setIfInBounds_toArray]
      try simp only [List.set_cons_zero, List.set_cons_succ]
      refine wpAnyH_take (i := 7) (v := ?_) rfl (by kernel_rfl) (by kernel_rfl) (by kernel_rfl) (fun _ _ _ h => h) (Or.inl ⟨by rfl, ?_⟩) hS3 ?_
      rotate_left
      · intro w' hSw
        obtain _ := hSw
        go_simp
        try with_reducible rfl
      try simp only [Act.put]
      try simp only [List.setIfInBounds_toArray]
      try simp only [List.set_cons_zero, List.set_cons_succ]
      refine wpAnyH_take (i := 8) (v := ?_) rfl (by kernel_rfl) (by kernel_rfl) (by kernel_rfl) (fun _ _ _ h => h) (Or.inl ⟨by rfl, ?_⟩) hS3 ?_
      rotate_left
      · intro w' hSw
        obtain _ := hSw
        go_simp
        try with_reducible rfl
      try simp only [Act.put]
      try simp only [List.setIfInBounds_toArray]
      try simp only [List.set_cons_zero, List.set_cons_succ]
      refine wpAnyH_take (i := 9) (v := ?_) rfl (by kernel_rfl) (by kernel_rfl) (by kernel_rfl) (fun _ _ _ h => h) (Or.inl ⟨by rfl, ?_⟩) hS3 ?_
      rotate_left
      · intro w' hSw
        obtain _ := hSw
        go_simp
        try with_reducible rfl
      try simp only [Act.put]
      try simp only [List.setIfInBounds_toArray]
      try simp only [List.set_cons_zero, List.set_cons_succ]
      refine wpAnyH_take (i := 10) (v := ?_) rfl (by kernel_rfl) (by kernel_rfl) (by kernel_rfl) (fun _ _ _ h => h) (Or.inl ⟨by rfl, ?_⟩) hS3 ?_
      rotate_left
      · intro w' hSw
        obtain _ := hSw
        go_simp
        try with_reducible rfl
      try simp only [Act.put]
      try simp only [List.setIfInBounds_toArray]
      try simp only [List.set_cons_zero, List.set_cons_succ]
      refine wpAnyH_done (by kernel_rfl) ?_ _
      generalize idxA (ivN (rsR c K.f K.u S' CL).d) (F j) = sl at *
      obtain ⟨fj, hfj⟩ : ∃ x, x = F j := ⟨_, rfl⟩
      rw [← hfj]
      have HFE := hid hfj
      clear hS3 hfj
      have x9 := HT7.out.x13.2.2.2.2.2.2.2.2.2.1
      obtain ⟨k0, k1, k2, k3, k4⟩ := Kq.kil HT7.out.kept
      go_wp2_with fail
      refine (HND.out _).mono ?_
      rintro e w8 ⟨rfl, hb8⟩
      have HT8 := hid (HT7.out.below hb8)
      have HR8 := hid (HR7.out.still (Lt.Still.below hb8))
      clear hb8 x9 k0 k1 k2 k3 k4
      by_cases he : need ≤ fj
      · go_wp2_with fail
        refine bodyPost_ret (v := .tuple #[.int .i64 (j : Nat), .int .i64 fj, .int .i64 bv, .bool true]) (by simp [results, Tryz.results77, go_sem]) rfl ⟨⟨HT8.out.kept, HT8.out.still⟩, .inl ⟨j, HLT.out, by rw [← HFE.out]; exact he, HAL.out, ?_⟩⟩
        rw [HBV.out, HFE.out]
      · obtain ⟨q0, q1, q2, q3, q4, q5, q6, q7, q8, q9, q10, q11, q12⟩ := HT8.out.x13
        go_wp2_with fail
        refine (HTK.out _ HR8.out HT8.out.kept).mono ?_
        rintro e w9 ⟨ya9, yc9, ea9, ec9, ga9, gc9, rfl, hr9, hf9, hk9, hs9⟩
        have HT9 := hid (HT8.out.at hn.out hk9 hs9)
        have HF9 := hid (show RowsF (w.heap.size + 1) ya9 ea9 ga9 from ⟨fun ad h => by have h1 := hf9.fx ad h; have h2 := lt_of_block HT8.out.box; omega, fun ad h => by have h1 := hf9.fd ad h; have h2 := lt_of_block HT8.out.box; omega, fun ad h => by have h1 := hf9.fu ad h; have h2 := lt_of_block HT8.out.box; omega⟩)
        have HR9 := hid hr9
        clear hr9 hf9 hk9 hs9 q0 q1 q2 q3 q4 q5 q6 q7 q8 q9 q10 q11 q12
        have HA2 := hid (show ∀ i, i < j + 1 → F i < need from fun i hi => by
          rcases Nat.lt_or_ge i j with h1 | h1
          · exact HAL.out i h1
          · obtain rfl : i = j := by omega
            rw [← HFE.out]; omega)
        go_wp2_with (refine wpList_store_row rfl 136 _ _ rfl w.heap.size _ rfl rfl 136 _ HT9.out.box infoRn rfl rnA_one ?_; generalize hW : World.setRow _ _ _ = W5; have HE := hid (HT9.out.lay0 hn.out (Nat.le_refl _) hW); clear hW)
        have hnn := hn.out
        have HR10 := hid ((HR9.out.same (base := w.heap.size + 1) HF9.out (fun g hg => HE.out.2.1 g (by omega)) (by omega) (by omega)).offQ (n := w.heap.size) HF9.out hnn.1 hnn.2)
        have HLTT := HLT.out
        clear hnn
        go_roundw
        case rel => exact ⟨j + 1, by omega, by go_num, ⟨fj, rfl, by refine hid ?_; rw [if_neg (by omega), Nat.add_sub_cancel]; exact HFE.out⟩, HA2, rsT c K.f K.u S' bath, ya9, yc9, ea9, ec9, ga9, gc9, HSU.out, HE.out.1, HR10⟩
        case measure => simp [intOf]; omega
    · obtain rfl : j = most + 1 := by omega
      go_wp2_with fail
      refine bodyPost_ret (v := .tuple #[.int .i64 0, .int .i64 0, .int .i64 0, .bool false]) (by simp [results, Tryz.results77, go_sem]) rfl ⟨⟨HTr.out.kept, HTr.out.still⟩, .inr ⟨fun i hi => HAL.out i (by omega), rfl⟩⟩
end Go.Proofs.YtihbjimnjhfpeaaGreat
