/- Texts of this seat, one behind the other. -/
import Derived.Test.YtihbjimnjhfpeaaG39
import Derived.Test.YtihbjimnjhfpeaaPdn
import Derived.Test.YtihbjimnjhfpeaaG06
/- Least's closure: contract. -/
namespace Go.Proofs.Ytihbjimnjhfpeaa
open Go.RowKit Go.Lib

theorem cookL_len (t n cold cooling : Int) : (cookL t n cold cooling).length ≤ 2000 := by
  unfold cookL
  split
  · rename_i h
    unfold cookB at h
    rw [Bool.and_eq_true] at h
    obtain ⟨h1, h2, h3⟩ := ticksB_two.1 h.2
    rw [List.length_append, List.length_replicate, List.length_replicate]
    omega
  · simp
/-- The lethality with n ticks. -/
def withF (r l a b k a2 b2 : Int) (q : Kl) (t bath cold cooling n : Int) : Int := lowO (sumsO r l a b k a2 b2 q t (cookL bath n cold cooling))
/-- Least's six boxes. -/
structure LsB (r l a b k a2 b2 : Int) (q : Kl) (t bath cold cooling : Int) (n0 : Nat) (W : World) : Prop where
  can : W.heap[n0]? = some (.cells #[.int .i64 r, .int .i64 l, .int .i64 a, .int .i64 b, .int .i64 k, .int .i64 a2, .int .i64 b2] 31 (0, 0))
  kil : W.heap[n0 + 1]? = some (.cells #[.string q.s, .int .i64 q.r, .int .i64 q.z, .int .i64 q.d, .int .i64 q.g] 33 (0, 0))
  ini : W.heap[n0 + 1 + 1]? = some (.cells #[.int .i64 t] 3 (0, 0))
  bat : W.heap[n0 + 1 + 1 + 1]? = some (.cells #[.int .i64 bath] 3 (0, 0))
  col : W.heap[n0 + 1 + 1 + 1 + 1]? = some (.cells #[.int .i64 cold] 3 (0, 0))
  coo : W.heap[n0 + 1 + 1 + 1 + 1 + 1]? = some (.cells #[.int .i64 cooling] 3 (0, 0))
theorem LsB.keep {r l a b k a2 b2 : Int} {q : Kl} {t bath cold cooling : Int} {n0 : Nat} {W W' : World} (h : LsB r l a b k a2 b2 q t bath cold cooling n0 W) (hb : Below W.heap.size W W') : LsB r l a b k a2 b2 q t bath cold cooling n0 W' :=
  ⟨(hb.block _ (lt_of_block h.can)).trans h.can, (hb.block _ (lt_of_block h.kil)).trans h.kil, (hb.block _ (lt_of_block h.ini)).trans h.ini, (hb.block _ (lt_of_block h.bat)).trans h.bat, (hb.block _ (lt_of_block h.col)).trans h.col, (hb.block _ (lt_of_block h.coo)).trans h.coo⟩
set_option maxRecDepth 20000 in
set_option maxHeartbeats 4000000 in
theorem with_any (r l a b k a2 b2 : Int) (q : Kl) (t bath cold cooling n : Int) (n0 : Nat) (w : World) (hs : q.s.size ≤ maxLen) (hB : LsB r l a b k a2 b2 q t bath cold cooling n0 w) :
    Calls Try.prog 18 #[.int .i64 n, .pointer (some ⟨n0 + 1 + 1 + 1, 0, none⟩), .pointer (some ⟨n0 + 1 + 1 + 1 + 1, 0, none⟩), .pointer (some ⟨n0 + 1 + 1 + 1 + 1 + 1, 0, none⟩), .pointer (some ⟨n0, 0, none⟩), .pointer (some ⟨n0 + 1, 0, none⟩), .pointer (some ⟨n0 + 1 + 1, 0, none⟩)] w
      fun e w' => e = .returned (.int .i64 (withF r l a b k a2 b2 q t bath cold cooling n)) ∧ Below w.heap.size w w' := by
  have HC := hid (fun W => cook_any bath n cold cooling W)
  have HLE := hid (fun (W : World) (v : Value) (h : RowI W v (cookL bath n cold cooling)) => leth_any r l a b k a2 b2 W q t v (cookL bath n cold cooling) hs h (by have := cookL_len bath n cold cooling; unfold maxLen; omega))
  have HBB := hid hB
  have b0 := cell_of_row _ _ 0 _ _ _ hB.bat
  have c0 := cell_of_row _ _ 0 _ _ _ hB.col
  have o0 := cell_of_row _ _ 0 _ _ _ hB.coo
  simp only [List.getElem?_toArray, List.getElem?_cons_zero] at b0 c0 o0
  unfold withF
  generalize lowO (sumsO r l a b k a2 b2 q t (cookL bath n cold cooling)) = lw at *
  generalize slowO (sumsO r l a b k a2 b2 q t (cookL bath n cold cooling)) = sl at *
  generalize chk4 (canB r l a b k a2 b2) q.vB t (cookL bath n cold cooling) = ce at *
  clear hs hB
  go_enter Try.func18, Try.ntmps18
  go_wp2_with fail
  refine (HC.out _).mono ?_
  rintro e w1 ⟨v, rfl, hr, hb⟩
  have HB1 := hid (HBB.out.keep hb)
  have HR := hid hr
  have HW := hid hb
  clear hr hb b0 c0 o0
  have x0 := cell_of_row _ _ 0 _ _ _ HB1.out.can
  have x1 := cell_of_row _ _ 1 _ _ _ HB1.out.can
  have x2 := cell_of_row _ _ 2 _ _ _ HB1.out.can
  have x3 := cell_of_row _ _ 3 _ _ _ HB1.out.can
  have x4 := cell_of_row _ _ 4 _ _ _ HB1.out.can
  have x5 := cell_of_row _ _ 5 _ _ _ HB1.out.can
  have x6 := cell_of_row _ _ 6 _ _ _ HB1.out.can
  have y0 := cell_of_row _ _ 0 _ _ _ HB1.out.kil
  have y1 := cell_of_row _ _ 1 _ _ _ HB1.out.kil
  have y2 := cell_of_row _ _ 2 _ _ _ HB1.out.kil
  have y3 := cell_of_row _ _ 3 _ _ _ HB1.out.kil
  have y4 := cell_of_row _ _ 4 _ _ _ HB1.out.kil
  have i0 := cell_of_row _ _ 0 _ _ _ HB1.out.ini
  simp only [List.getElem?_toArray, List.getElem?_cons_zero, List.getElem?_cons_succ] at x0 x1 x2 x3 x4 x5 x6 y0 y1 y2 y3 y4 i0
  generalize (if cookB bath n cold cooling = true then (0 : Int) else 7) = ck at *
  go_wp2_with fail
  refine (HLE.out _ _ HR.out).mono ?_
  rintro e w2 ⟨rfl, hb2⟩
  have HW2 := hid (bstep HW.out HW.out.size hb2)
  clear hb2 x0 x1 x2 x3 x4 x5 x6 y0 y1 y2 y3 y4 i0
  go_wp2_with fail
  refine bodyPost_ret (v := .int .i64 lw) (by simp [results, Try.results18, go_sem]) rfl ⟨rfl, HW2.out⟩
end Go.Proofs.Ytihbjimnjhfpeaa

/- Least where it looks: contract. -/
namespace Go.Proofs.Ytihbjimnjhfpeaa
open Go.RowKit Go.Lib

theorem lsB_start (r l a b k a2 b2 : Int) (q : Kl) (t bath cold cooling : Int) (w : World) :
    LsB r l a b k a2 b2 q t bath cold cooling w.heap.size ((((((w.alloc (.cells #[.int .i64 r, .int .i64 l, .int .i64 a, .int .i64 b, .int .i64 k, .int .i64 a2, .int .i64 b2] 31)).alloc (.cells #[.string q.s, .int .i64 q.r, .int .i64 q.z, .int .i64 q.d, .int .i64 q.g] 33)).alloc (.cells #[.int .i64 t] 3)).alloc (.cells #[.int .i64 bath] 3)).alloc (.cells #[.int .i64 cold] 3)).alloc (.cells #[.int .i64 cooling] 3)) ∧
    Below w.heap.size w ((((((w.alloc (.cells #[.int .i64 r, .int .i64 l, .int .i64 a, .int .i64 b, .int .i64 k, .int .i64 a2, .int .i64 b2] 31)).alloc (.cells #[.string q.s, .int .i64 q.r, .int .i64 q.z, .int .i64 q.d, .int .i64 q.g] 33)).alloc (.cells #[.int .i64 t] 3)).alloc (.cells #[.int .i64 bath] 3)).alloc (.cells #[.int .i64 cold] 3)).alloc (.cells #[.int .i64 cooling] 3)) := by
  have h := b3_start (w := w) (T1 := 31) (T2 := 33) (T3 := 3) (A := #[.int .i64 r, .int .i64 l, .int .i64 a, .int .i64 b, .int .i64 k, .int .i64 a2, .int .i64 b2]) (B := #[.string q.s, .int .i64 q.r, .int .i64 q.z, .int .i64 q.d, .int .i64 q.g]) (R := #[.int .i64 t])
  have hz : (((w.alloc (.cells #[.int .i64 r, .int .i64 l, .int .i64 a, .int .i64 b, .int .i64 k, .int .i64 a2, .int .i64 b2] 31)).alloc (.cells #[.string q.s, .int .i64 q.r, .int .i64 q.z, .int .i64 q.d, .int .i64 q.g] 33)).alloc (.cells #[.int .i64 t] 3)).heap.size = w.heap.size + 1 + 1 + 1 := by simp
  generalize ((w.alloc (.cells #[.int .i64 r, .int .i64 l, .int .i64 a, .int .i64 b, .int .i64 k, .int .i64 a2, .int .i64 b2] 31)).alloc (.cells #[.string q.s, .int .i64 q.r, .int .i64 q.z, .int .i64 q.d, .int .i64 q.g] 33)).alloc (.cells #[.int .i64 t] 3) = W at *
  have g := b3_start (w := W) (T1 := 3) (T2 := 3) (T3 := 3) (A := #[.int .i64 bath]) (B := #[.int .i64 cold]) (R := #[.int .i64 cooling])
  have g1 := g.one
  have g2 := g.two
  have g3 := g.three
  have hb := g.low
  rw [hz] at g1 g2 g3
  exact ⟨⟨(hb.block _ (lt_of_block h.one)).trans h.one, (hb.block _ (lt_of_block h.two)).trans h.two, (hb.block _ (lt_of_block h.three)).trans h.three, g1, g2, g3⟩, h.low.trans (hb.mono h.low.size)⟩
/-- What Least tells. -/
def LeastP (T : Nat → Bool) (G : Int → Int) (most : Nat) (w : World) (e : Ending) (w' : World) : Prop :=
  Below w.heap.size w w' ∧ ((∃ n : Nat, n ≤ most ∧ T n = true ∧ (∀ j, j < n → T j = false) ∧ e = .returned (.tuple #[.int .i64 (n : Nat), .int .i64 (G n), .int .i64 (if n = 0 then -1 else G ((n : Int) - 1)), .int .i64 0])) ∨ ((∀ j, j ≤ most → T j = false) ∧ e = .returned (.tuple #[.int .i64 0, .int .i64 0, .int .i64 0, .int .i64 8])))
set_option maxRecDepth 20000 in
set_option maxHeartbeats 8000000 in
theorem least_ok (c : Cn) (q : Kl) (t bath cold : Int) (cooling most : Nat) (Z : Nat) (w : World) (hz : q.z = Z) (hs : q.s.size ≤ maxLen) (hcv : c.V) (hv : Lt.validB q.s.data.toList q.r Z q.d q.g = true) (ho : okT t = true) (hob : okT bath = true) (hoc : okT cold = true) (hmost : most + cooling = 2000)
    (hmono : risB c (dish0 c t) bath cold = true → ∀ j n, j ≤ n → n ≤ most → tstC c (fun x => Lt.Pm.rateD q.r q.z (x / 250)) (dish0 c t) (q.g * (q.d * 1000000)) bath cold cooling j = true → tstC c (fun x => Lt.Pm.rateD q.r q.z (x / 250)) (dish0 c t) (q.g * (q.d * 1000000)) bath cold cooling n = true) :
    Calls Try.prog 9 #[.agg #[.int .i64 (c.R : Int), .int .i64 (c.L : Int), .int .i64 c.A, .int .i64 c.B, .int .i64 c.K, .int .i64 c.A2, .int .i64 c.B2], .agg #[.string q.s, .int .i64 q.r, .int .i64 q.z, .int .i64 q.d, .int .i64 q.g], .int .i64 t, .int .i64 bath, .int .i64 cold, .int .i64 (cooling : Nat)] w (LeastP (tstC c (fun x => Lt.Pm.rateD q.r q.z (x / 250)) (dish0 c t) (q.g * (q.d * 1000000)) bath cold cooling) (withF c.R c.L c.A c.B c.K c.A2 c.B2 q t bath cold cooling) most w) := by
  have HM := hid (fun W => mended_ok c q.s q.r q.d q.g t bath cold cooling most Z (.slice none 0 0) [] W hs hcv hv ho hob hoc rfl (by simpa using hmost) (.inl ⟨none, 0, rfl, rfl⟩) (fun D hD hr => by
    subst hD
    rw [← hz]
    exact hmono hr))
  rw [← hz] at HM
  simp only [dishR_nil] at HM
  have HWF := hid (fun (n : Int) (W : World) (h : LsB c.R c.L c.A c.B c.K c.A2 c.B2 q t bath cold cooling w.heap.size W) => with_any c.R c.L c.A c.B c.K c.A2 c.B2 q t bath cold cooling n w.heap.size W hs h)
  have HB := hid (lsB_start c.R c.L c.A c.B c.K c.A2 c.B2 q t bath cold cooling w)
  generalize withF c.R c.L c.A c.B c.K c.A2 c.B2 q t bath cold cooling = G at *
  generalize tstC c (fun x => Lt.Pm.rateD q.r q.z (x / 250)) (dish0 c t) (q.g * (q.d * 1000000)) bath cold cooling = T at *
  clear hz hs hcv hv ho hob hoc hmono
  have x0 := cell_of_row _ _ 0 _ _ _ HB.out.1.can
  have x1 := cell_of_row _ _ 1 _ _ _ HB.out.1.can
  have x2 := cell_of_row _ _ 2 _ _ _ HB.out.1.can
  have x3 := cell_of_row _ _ 3 _ _ _ HB.out.1.can
  have x4 := cell_of_row _ _ 4 _ _ _ HB.out.1.can
  have x5 := cell_of_row _ _ 5 _ _ _ HB.out.1.can
  have x6 := cell_of_row _ _ 6 _ _ _ HB.out.1.can
  have y0 := cell_of_row _ _ 0 _ _ _ HB.out.1.kil
  have y1 := cell_of_row _ _ 1 _ _ _ HB.out.1.kil
  have y2 := cell_of_row _ _ 2 _ _ _ HB.out.1.kil
  have y3 := cell_of_row _ _ 3 _ _ _ HB.out.1.kil
  have y4 := cell_of_row _ _ 4 _ _ _ HB.out.1.kil
  have i0 := cell_of_row _ _ 0 _ _ _ HB.out.1.ini
  have b0 := cell_of_row _ _ 0 _ _ _ HB.out.1.bat
  have c0 := cell_of_row _ _ 0 _ _ _ HB.out.1.col
  have o0 := cell_of_row _ _ 0 _ _ _ HB.out.1.coo
  simp only [List.getElem?_toArray, List.getElem?_cons_zero, List.getElem?_cons_succ] at x0 x1 x2 x3 x4 x5 x6 y0 y1 y2 y3 y4 i0 b0 c0 o0
  go_enter Try.func9, Try.ntmps9
  go_wp2_with fail
  refine (HM.out _).mono ?_
  rintro e w2 ⟨hb2, ⟨n, hn1, hn2, hn3, rfl⟩ | ⟨hn1, rfl⟩⟩
  · have HB2 := hid (HB.out.1.keep hb2)
    have HL2 := hid (HB.out.2.trans (hb2.mono HB.out.2.size))
    have HN := hid (And.intro hn1 (And.intro hn2 hn3))
    have heq := enter_at Try.func18 (by kernel_rfl) (by kernel_rfl)
    clear hb2 hn2 hn3 x0 x1 x2 x3 x4 x5 x6 y0 y1 y2 y3 y4 i0 b0 c0 o0 HB
    by_cases h0 : n = 0
    · subst h0
      go_wp2_with fail
      refine (HWF.out _ _ HB2.out).mono ?_
      rintro e w3 ⟨rfl, hb3⟩
      have HL3 := hid (bstep HL2.out HL2.out.size hb3)
      clear hb3
      go_wp2_with fail
      refine bodyPost_ret (v := .tuple #[.int .i64 0, .int .i64 (G 0), .int .i64 (-1), .int .i64 0]) (by simp [results, Try.results9, go_sem]) rfl ⟨HL3.out, .inl ⟨0, HN.out.1, HN.out.2.1, HN.out.2.2, rfl⟩⟩
    · have h0' : ¬ (n : Int) = 0 := by omega
      have HE := hid (show (if n = 0 then (-1 : Int) else G ((n : Int) - 1)) = G ((n : Int) - 1) from if_neg h0)
      have hn2000 : n ≤ 2000 := by omega
      clear h0
      go_wp2_with fail
      refine (HWF.out _ _ HB2.out).mono ?_
      rintro e w3 ⟨rfl, hb3⟩
      have HL3 := hid (bstep HL2.out HL2.out.size hb3)
      have HB3 := hid (HB2.out.keep hb3)
      clear hb3
      go_wp2_with fail
      refine (HWF.out _ _ HB3.out).mono ?_
      rintro e w4 ⟨rfl, hb4⟩
      have HL4 := hid (bstep HL3.out HL3.out.size hb4)
      clear hb4
      go_wp2_with fail
      refine bodyPost_ret (v := .tuple #[.int .i64 (n : Nat), .int .i64 (G n), .int .i64 (G ((n : Int) - 1)), .int .i64 0]) (by simp [results, Try.results9, go_sem]) rfl ⟨HL4.out, .inl ⟨n, HN.out.1, HN.out.2.1, HN.out.2.2, by rw [HE.out]⟩⟩
  · have HL2 := hid (HB.out.2.trans (hb2.mono HB.out.2.size))
    have HN := hid hn1
    clear hb2 hn1 x0 x1 x2 x3 x4 x5 x6 y0 y1 y2 y3 y4 i0 b0 c0 o0 HB
    go_wp2_with fail
    refine bodyPost_ret (v := .tuple #[.int .i64 0, .int .i64 0, .int .i64 0, .int .i64 8]) (by simp [results, Try.results9, go_sem]) rfl ⟨HL2.out, .inr ⟨HN.out, rfl⟩⟩
end Go.Proofs.Ytihbjimnjhfpeaa

/- law04's awake: contract. -/
namespace Go.Proofs.Ytihbjimnjhfpeaa
open Go.RowKit Go.Lib

def cn0 : Cn := ⟨1, 1, 100, 50, 0, 0, 0⟩
theorem cn0_V : cn0.V := by unfold Cn.V; decide
def fk0 : Int → Nat := fun x => Lt.Pm.rateD kl0.r kl0.z (x / 250)
theorem fk0_at : fk0 121000 = 1000000 := aw4_rate
theorem aw_af (n : Nat) (hn : n ≤ 2000) : afN cn0 fk0 (dish0 cn0 121000) 121000 n = (evB cn0 121000, [n * 1000000]) := by
  induction n with
  | zero => rw [afN_zero]; rfl
  | succ n ih =>
    rw [afN_succ, ih (by omega)]
    have he := tickS_even cn0_V.ok 121000
    show (tickS cn0 (evB cn0 121000) 121000, addD fk0 [n * 1000000] (tickS cn0 (evB cn0 121000) 121000).1) = _
    rw [he]
    show (evB cn0 121000, [Lt.cutN (n * 1000000) (fk0 121000)]) = _
    rw [fk0_at]
    have : Lt.cutN (n * 1000000) 1000000 = (n + 1) * 1000000 := by unfold Lt.cutN; omega
    rw [this]
theorem minA_one (x : Int) : minA [x] = x := by
  have := minA_mem (ds := [x]) (by simp)
  simpa using this
theorem aw_tst (n : Nat) (hn : n ≤ 2000) : tstC cn0 fk0 (dish0 cn0 121000) 156000000 121000 0 0 n = decide (156 ≤ n) := by
  unfold tstC enD
  rw [afN_zero, aw_af n hn]
  show decide (156000000 ≤ minA [((n * 1000000 : Nat) : Int)]) = _
  rw [minA_one]
  by_cases h : 156 ≤ n
  · rw [decide_eq_true h, decide_eq_true (by omega)]
  · rw [decide_eq_false h, decide_eq_false (by omega)]
theorem aw_with (n : Nat) (hn : n ≤ 2000) : withF 1 1 100 50 0 0 0 kl0 121000 121000 0 0 (n : Int) = n * 1000000 := by
  have hck : cookB 121000 (n : Int) 0 0 = true := by
    unfold cookB
    rw [ticksB_two.2 ⟨by omega, by omega, by omega⟩]
    rfl
  have hL : cookL 121000 (n : Int) 0 0 = List.replicate n 121000 := by
    unfold cookL
    rw [if_pos hck, Int.toNat_natCast]
    simp
  have hch : chk4 (canB 1 1 100 50 0 0 0) kl0.vB 121000 (List.replicate n 121000) = 0 := by
    refine chk4_ok (by decide +kernel) ?_ (by rw [List.length_replicate]; omega)
    have : okL (List.replicate n 121000) = true := List.all_eq_true.2 fun x hx => by rw [List.eq_of_mem_replicate hx]; rfl
    rw [this]; rfl
  unfold withF
  rw [hL]
  have e0 : cnOf 1 1 100 50 0 0 0 = cn0 := rfl
  have hs : sumsO 1 1 100 50 0 0 0 kl0 121000 (List.replicate n 121000) = [n * 1000000] := by
    unfold sumsO
    rw [if_pos hch, e0]
    exact congrArg Prod.snd (aw_af n hn)
  rw [hs]
  unfold lowO
  rw [if_neg (by simp)]
  show minA [((n * 1000000 : Nat) : Int)] = _
  rw [minA_one]
  omega
theorem aw_least (W : World) : Calls Try.prog 9 #[.agg #[.int .i64 1, .int .i64 1, .int .i64 100, .int .i64 50, .int .i64 0, .int .i64 0, .int .i64 0], .agg #[.string ⟨#[97]⟩, .int .i64 484, .int .i64 40, .int .i64 13, .int .i64 12], .int .i64 121000, .int .i64 121000, .int .i64 0, .int .i64 0] W
    fun e w' => e = .returned (.tuple #[.int .i64 156, .int .i64 156000000, .int .i64 155000000, .int .i64 0]) ∧ Below W.heap.size W w' := by
  have hG : Good cn0 (dish0 cn0 121000) := dish0_good (by decide)
  have h := least_ok cn0 kl0 121000 121000 0 0 2000 40 W rfl (by decide) cn0_V (by decide +kernel) (by decide) (by decide) (by decide) (by omega) (fun _ j n hj hn hT => by
    have h1 := aw_tst j (by omega)
    have h2 := aw_tst n hn
    have hT' : tstC cn0 fk0 (dish0 cn0 121000) 156000000 121000 0 0 j = true := hT
    show tstC cn0 fk0 (dish0 cn0 121000) 156000000 121000 0 0 n = true
    rw [h1] at hT'
    rw [h2]
    rw [decide_eq_true_eq] at hT' ⊢
    omega)
  refine Calls.mono h ?_
  rintro e w' ⟨hb, ⟨n, hn, h1, h2, rfl⟩ | ⟨h1, rfl⟩⟩
  · have h1' : tstC cn0 fk0 (dish0 cn0 121000) 156000000 121000 0 0 n = true := h1
    rw [aw_tst n hn, decide_eq_true_eq] at h1'
    have hn2 : n = 156 := by
      by_cases h : n ≤ 156
      · omega
      · have h3 : tstC cn0 fk0 (dish0 cn0 121000) 156000000 121000 0 0 156 = false := h2 156 (by omega)
        rw [aw_tst 156 (by omega)] at h3
        cases h3
    subst hn2
    refine ⟨?_, hb⟩
    have w1 := aw_with 156 (by omega)
    have w2 := aw_with 155 (by omega)
    have w1' : withF (cn0.R : Int) cn0.L cn0.A cn0.B cn0.K cn0.A2 cn0.B2 kl0 121000 121000 0 (0 : Nat) (156 : Nat) = 156000000 := w1
    have w2' : withF (cn0.R : Int) cn0.L cn0.A cn0.B cn0.K cn0.A2 cn0.B2 kl0 121000 121000 0 (0 : Nat) (((156 : Nat) : Int) - 1) = 155000000 := w2
    rw [w1', if_neg (by decide), w2']
    rfl
  · have h3 : tstC cn0 fk0 (dish0 cn0 121000) 156000000 121000 0 0 156 = false := h1 156 (by omega)
    rw [aw_tst 156 (by omega)] at h3
    cases h3
set_option maxRecDepth 20000 in
set_option maxHeartbeats 4000000 in
theorem lawake_any (w : World) : Calls Try.prog 4 #[] w fun e w' => e = .returned (.bool true) ∧ Below w.heap.size w w' := by
  have HL := hid aw_least
  go_enter Try.func4, Try.ntmps4
  have HX := hid (box2_start (w := w) (A := #[.int .i64 1, .int .i64 1, .int .i64 100, .int .i64 50, .int .i64 0, .int .i64 0, .int .i64 0]) (B := #[.string ⟨#[97]⟩, .int .i64 484, .int .i64 40, .int .i64 13, .int .i64 12]) (T := 31) (T' := 33) (fz := (0, 0)) (fz' := (0, 0)))
  go_wp2_with fail
  refine (HL.out _).mono ?_
  rintro e w1 ⟨rfl, hb⟩
  have HX := hid (HX.out.keep hb)
  clear hb
  go_wp2_with fail
  go_ret
  exact ⟨rfl, HX.out.low⟩
end Go.Proofs.Ytihbjimnjhfpeaa

/- Walk of ProcessSchedules. -/
namespace Go.Proofs.Ytihbjimnjhfpeaa
open Go.RowKit Go.Lib

set_option maxRecDepth 20000 in
set_option maxHeartbeats 8000000 in
theorem psched_walk (v : Value) (l : List Sch) (p : ByteArray) (ax ay : Int) (w : World) (hr : RowE w v l) (_hs : p.size ≤ maxLen) (_wa : (Lit.int .i64 ax).wf = true) (_wb : (Lit.int .i64 ay).wf = true) :
    Calls Try.prog 3 #[v, .string p, .agg #[.int .i64 ax, .int .i64 ay]] w fun e w' => e = .returned (.bool true) ∧ Below w.heap.size w w' := by
  have BX := hid (box1_start (w := w) (A := #[.int .i64 ax, .int .i64 ay]) (T := 23) (fz := (0, 0)))
  have HL := hid (fun w1 (g : Below w.heap.size w w1) => hr.keep g)
  have hm := hr.most
  unfold maxLen at hm
  obtain ⟨va, vc, rfl⟩ := hr.shape
  have HPL := hid (fun W h => plook_any (.slice va l.length vc) l p ax ay W h)
  have HXL := hid (fun W h => xlook_any (.slice va l.length vc) l p ax ay W h)
  have HPV := hid (fun W h => pvschs_any (.slice va l.length vc) l W h)
  have HXV := hid (fun W h => xvschs_any (.slice va l.length vc) l W h)
  generalize lkV l p ax ay = lv at *
  generalize lkE l p ax ay = le at *
  generalize schsB l = sb at *
  clear hr
  by_cases h5 : 100 < l.length
  · have h5' : (100 : Int) < l.length := by omega
    go_enter Try.func3, Try.ntmps3
    go_wp2_with fail
    refine (lawake_any _).mono ?_
    rintro e w1 ⟨rfl, hb⟩
    have BX := hid (BX.out.keep hb)
    clear hb
    go_wp2_with fail
    go_ret
    exact ⟨rfl, BX.out.low⟩
  have h5' : ¬ (100 : Int) < l.length := by omega
  go_enter Try.func3, Try.ntmps3
  go_wp2_with fail
  refine (HPL.out _ (HL.out _ BX.out.low)).mono ?_
  rintro e w1 ⟨rfl, hb⟩
  have BX := hid (BX.out.keep hb)
  clear hb
  have t0 := BX.out.fst 0; have t1 := BX.out.fst 1
  simp only [List.getElem?_toArray, List.getElem?_cons_zero, List.getElem?_cons_succ] at t0 t1
  go_wp2_with fail
  refine (HXL.out _ (HL.out _ BX.out.low)).mono ?_
  rintro e w2 ⟨rfl, hb⟩
  have BX := hid (BX.out.keep hb)
  clear hb t0 t1
  go_wp2_with fail
  refine (HPV.out _ (HL.out _ BX.out.low)).mono ?_
  rintro e w3 ⟨rfl, hb⟩
  have BX := hid (BX.out.keep hb)
  clear hb
  go_wp2_with fail
  refine (HXV.out _ (HL.out _ BX.out.low)).mono ?_
  rintro e w4 ⟨rfl, hb⟩
  have BX := hid (BX.out.keep hb)
  clear hb
  go_wp2_with fail
  refine (lawake_any _).mono ?_
  rintro e w5 ⟨rfl, hb⟩
  have BX := hid (BX.out.keep hb)
  clear hb
  go_wp2_with fail
  go_ret
  exact ⟨rfl, BX.out.low⟩
end Go.Proofs.Ytihbjimnjhfpeaa
