/- Texts of this seat, one behind the other. -/
import Derived.Test.YtihbjimnjhfpeaaGreatR43
import Derived.Test.YtihbjimnjhfpeaaGreatR38
/- Least where it looks: contract. -/
namespace Go.Proofs.YtihbjimnjhfpeaaGreat
open Go.RowKit Go.Lib

theorem lsB_start (r l a b k a2 b2 : Int) (q : Kl) (t bath cold cooling : Int) (w : World) :
    LsB r l a b k a2 b2 q t bath cold cooling w.heap.size ((((((w.alloc (.cells #[.int .i64 r, .int .i64 l, .int .i64 a, .int .i64 b, .int .i64 k, .int .i64 a2, .int .i64 b2] 23)).alloc (.cells #[.string q.s, .int .i64 q.r, .int .i64 q.z, .int .i64 q.d, .int .i64 q.g] 25)).alloc (.cells #[.int .i64 t] 3)).alloc (.cells #[.int .i64 bath] 3)).alloc (.cells #[.int .i64 cold] 3)).alloc (.cells #[.int .i64 cooling] 3)) ∧
    Below w.heap.size w ((((((w.alloc (.cells #[.int .i64 r, .int .i64 l, .int .i64 a, .int .i64 b, .int .i64 k, .int .i64 a2, .int .i64 b2] 23)).alloc (.cells #[.string q.s, .int .i64 q.r, .int .i64 q.z, .int .i64 q.d, .int .i64 q.g] 25)).alloc (.cells #[.int .i64 t] 3)).alloc (.cells #[.int .i64 bath] 3)).alloc (.cells #[.int .i64 cold] 3)).alloc (.cells #[.int .i64 cooling] 3)) := by
  have h := b3_start (w := w) (T1 := 23) (T2 := 25) (T3 := 3) (A := #[.int .i64 r, .int .i64 l, .int .i64 a, .int .i64 b, .int .i64 k, .int .i64 a2, .int .i64 b2]) (B := #[.string q.s, .int .i64 q.r, .int .i64 q.z, .int .i64 q.d, .int .i64 q.g]) (R := #[.int .i64 t])
  have hz : (((w.alloc (.cells #[.int .i64 r, .int .i64 l, .int .i64 a, .int .i64 b, .int .i64 k, .int .i64 a2, .int .i64 b2] 23)).alloc (.cells #[.string q.s, .int .i64 q.r, .int .i64 q.z, .int .i64 q.d, .int .i64 q.g] 25)).alloc (.cells #[.int .i64 t] 3)).heap.size = w.heap.size + 1 + 1 + 1 := by simp
  generalize ((w.alloc (.cells #[.int .i64 r, .int .i64 l, .int .i64 a, .int .i64 b, .int .i64 k, .int .i64 a2, .int .i64 b2] 23)).alloc (.cells #[.string q.s, .int .i64 q.r, .int .i64 q.z, .int .i64 q.d, .int .i64 q.g] 25)).alloc (.cells #[.int .i64 t] 3) = W at *
  have g := b3_start (w := W) (T1 := 3) (T2 := 3) (T3 := 3) (A := #[.int .i64 bath]) (B := #[.int .i64 cold]) (R := #[.int .i64 cooling])
  have g1 := g.one
  have g2 := g.two
  have g3 := g.three
  have hb := g.low
  rw [hz] at g1 g2 g3
  exact ⟨⟨(hb.block _ (lt_of_block h.one)).trans h.one, (hb.block _ (lt_of_block h.two)).trans h.two, (hb.block _ (lt_of_block h.three)).trans h.three, g1, g2, g3⟩, h.low.trans (hb.mono h.low.size)⟩
/-- What Least tells. -/
def LeastP (T : Nat → Bool) (G : Int → Int) (most : Nat) (w : World) (e : Ending) (w' : World) : Prop :=
  Below w.heap.size w w' ∧ ((∃ n : Nat, n ≤ most ∧ T n = true ∧ (∀ j, j < n → T j = false) ∧ e = .returned (.tuple #[.int .i64 (n : Nat), .int .i64 (G n), .int .i64 (if n = 0 then -1 else G ((n : Int) - 1)), .int .i64 0])) ∨ ((∀ j, j ≤ most → T j = false) ∧ e = .returned (.tuple #[.int .i64 0, .int .i64 0, .int .i64 0, .int .i64 8])))
set_option maxRecDepth 20000 in
set_option maxHeartbeats 8000000 in
theorem least_ok (c : Cn) (q : Kl) (t bath cold : Int) (cooling most : Nat) (Z : Nat) (w : World) (hz : q.z = Z) (hs : q.s.size ≤ maxLen) (hcv : c.V) (hv : Lt.validB q.s.data.toList q.r Z q.d q.g = true) (ho : okT t = true) (hob : okT bath = true) (hoc : okT cold = true) (hmost : most + cooling = 2000)
    (hmono : risB c (dish0 c t) bath cold = true → ∀ j n, j ≤ n → n ≤ most → tstC c (fun x => Lt.Pm.rateD q.r q.z (x / 250)) (dish0 c t) (q.g * (q.d * 1000000)) bath cold cooling j = true → tstC c (fun x => Lt.Pm.rateD q.r q.z (x / 250)) (dish0 c t) (q.g * (q.d * 1000000)) bath cold cooling n = true) :
    Calls Tryz.prog 26 #[.agg #[.int .i64 (c.R : Int), .int .i64 (c.L : Int), .int .i64 c.A, .int .i64 c.B, .int .i64 c.K, .int .i64 c.A2, .int .i64 c.B2], .agg #[.string q.s, .int .i64 q.r, .int .i64 q.z, .int .i64 q.d, .int .i64 q.g], .int .i64 t, .int .i64 bath, .int .i64 cold, .int .i64 (cooling : Nat)] w (LeastP (tstC c (fun x => Lt.Pm.rateD q.r q.z (x / 250)) (dish0 c t) (q.g * (q.d * 1000000)) bath cold cooling) (withF c.R c.L c.A c.B c.K c.A2 c.B2 q t bath cold cooling) most w) := by
  have HM := hid (fun W => mended_ok c q.s q.r q.d q.g t bath cold cooling most Z (.slice none 0 0) [] W hs hcv hv ho hob hoc rfl (by simpa using hmost) (.inl ⟨none, 0, rfl, rfl⟩) (fun D hD hr => by
    subst hD
    rw [← hz]
    exact hmono hr))
  rw [← hz] at HM
  simp only [dishR_nil] at HM
  have HWF := hid (fun (n : Int) (W : World) (h : LsB c.R c.L c.A c.B c.K c.A2 c.B2 q t bath cold cooling w.heap.size W) => with_any c.R c.L c.A c.B c.K c.A2 c.B2 q t bath cold cooling n w.heap.size W hs h)
  have HB := hid (lsB_start c.R c.L c.A c.B c.K c.A2 c.B2 q t bath cold cooling w)
  generalize withF c.R c.L c.A c.B c.K c.A2 c.B2 q t bath cold cooling = G at *
  generalize tstC c (fun x => Lt.Pm.rateD q.r q.z (x / 250)) (dish0 c t) (q.g * (q.d * 1000000)) bath cold cooling = T at *
  clear hz hs hcv hv ho hob hoc hmono
  have x0 := cell_of_row _ _ 0 _ _ _ HB.out.1.can
  have x1 := cell_of_row _ _ 1 _ _ _ HB.out.1.can
  have x2 := cell_of_row _ _ 2 _ _ _ HB.out.1.can
  have x3 := cell_of_row _ _ 3 _ _ _ HB.out.1.can
  have x4 := cell_of_row _ _ 4 _ _ _ HB.out.1.can
  have x5 := cell_of_row _ _ 5 _ _ _ HB.out.1.can
  have x6 := cell_of_row _ _ 6 _ _ _ HB.out.1.can
  have y0 := cell_of_row _ _ 0 _ _ _ HB.out.1.kil
  have y1 := cell_of_row _ _ 1 _ _ _ HB.out.1.kil
  have y2 := cell_of_row _ _ 2 _ _ _ HB.out.1.kil
  have y3 := cell_of_row _ _ 3 _ _ _ HB.out.1.kil
  have y4 := cell_of_row _ _ 4 _ _ _ HB.out.1.kil
  have i0 := cell_of_row _ _ 0 _ _ _ HB.out.1.ini
  have b0 := cell_of_row _ _ 0 _ _ _ HB.out.1.bat
  have c0 := cell_of_row _ _ 0 _ _ _ HB.out.1.col
  have o0 := cell_of_row _ _ 0 _ _ _ HB.out.1.coo
  simp only [List.getElem?_toArray, List.getElem?_cons_zero, List.getElem?_cons_succ] at x0 x1 x2 x3 x4 x5 x6 y0 y1 y2 y3 y4 i0 b0 c0 o0
  go_enter Tryz.func26, Tryz.ntmps26
  go_wp2_with fail
  refine (HM.out _).mono ?_
  rintro e w2 ⟨hb2, ⟨n, hn1, hn2, hn3, rfl⟩ | ⟨hn1, rfl⟩⟩
  · have HB2 := hid (HB.out.1.keep hb2)
    have HL2 := hid (HB.out.2.trans (hb2.mono HB.out.2.size))
    have HN := hid (And.intro hn1 (And.intro hn2 hn3))
    have heq := enter_at Tryz.func64 (by kernel_rfl) (by kernel_rfl)
    clear hb2 hn2 hn3 x0 x1 x2 x3 x4 x5 x6 y0 y1 y2 y3 y4 i0 b0 c0 o0 HB
    by_cases h0 : n = 0
    · subst h0
      go_wp2_with fail
      refine (HWF.out _ _ HB2.out).mono ?_
      rintro e w3 ⟨rfl, hb3⟩
      have HL3 := hid (bstep HL2.out HL2.out.size hb3)
      clear hb3
      go_wp2_with fail
      refine bodyPost_ret (v := .tuple #[.int .i64 0, .int .i64 (G 0), .int .i64 (-1), .int .i64 0]) (by simp [results, Tryz.results26, go_sem]) rfl ⟨HL3.out, .inl ⟨0, HN.out.1, HN.out.2.1, HN.out.2.2, rfl⟩⟩
    · have h0' : ¬ (n : Int) = 0 := by omega
      have HE := hid (show (if n = 0 then (-1 : Int) else G ((n : Int) - 1)) = G ((n : Int) - 1) from if_neg h0)
      have hn2000 : n ≤ 2000 := by omega
      clear h0
      go_wp2_with fail
      refine (HWF.out _ _ HB2.out).mono ?_
      rintro e w3 ⟨rfl, hb3⟩
      have HL3 := hid (bstep HL2.out HL2.out.size hb3)
      have HB3 := hid (HB2.out.keep hb3)
      clear hb3
      go_wp2_with fail
      refine (HWF.out _ _ HB3.out).mono ?_
      rintro e w4 ⟨rfl, hb4⟩
      have HL4 := hid (bstep HL3.out HL3.out.size hb4)
      clear hb4
      go_wp2_with fail
      refine bodyPost_ret (v := .tuple #[.int .i64 (n : Nat), .int .i64 (G n), .int .i64 (G ((n : Int) - 1)), .int .i64 0]) (by simp [results, Tryz.results26, go_sem]) rfl ⟨HL4.out, .inl ⟨n, HN.out.1, HN.out.2.1, HN.out.2.2, by rw [HE.out]⟩⟩
  · have HL2 := hid (HB.out.2.trans (hb2.mono HB.out.2.size))
    have HN := hid hn1
    clear hb2 hn1 x0 x1 x2 x3 x4 x5 x6 y0 y1 y2 y3 y4 i0 b0 c0 o0 HB
    go_wp2_with fail
    refine bodyPost_ret (v := .tuple #[.int .i64 0, .int .i64 0, .int .i64 0, .int .i64 8]) (by simp [results, Tryz.results26, go_sem]) rfl ⟨HL2.out, .inr ⟨HN.out, rfl⟩⟩
end Go.Proofs.YtihbjimnjhfpeaaGreat

/- law04's awake: contract. -/
namespace Go.Proofs.YtihbjimnjhfpeaaGreat
open Go.RowKit Go.Lib

def cn0 : Cn := ⟨1, 1, 100, 50, 0, 0, 0⟩
theorem cn0_V : cn0.V := by unfold Cn.V; decide
def fk0 : Int → Nat := fun x => Lt.Pm.rateD kl0.r kl0.z (x / 250)
theorem fk0_at : fk0 121000 = 1000000 := aw4_rate
theorem aw_af (n : Nat) (hn : n ≤ 2000) : afN cn0 fk0 (dish0 cn0 121000) 121000 n = (evB cn0 121000, [n * 1000000]) := by
  induction n with
  | zero => rw [afN_zero]; rfl
  | succ n ih =>
    rw [afN_succ, ih (by omega)]
    have he := tickS_even cn0_V.ok 121000
    show (tickS cn0 (evB cn0 121000) 121000, addD fk0 [n * 1000000] (tickS cn0 (evB cn0 121000) 121000).1) = _
    rw [he]
    show (evB cn0 121000, [Lt.cutN (n * 1000000) (fk0 121000)]) = _
    rw [fk0_at]
    have : Lt.cutN (n * 1000000) 1000000 = (n + 1) * 1000000 := by unfold Lt.cutN; omega
    rw [this]
theorem minA_one (x : Int) : minA [x] = x := by
  have := minA_mem (ds := [x]) (by simp)
  simpa using this
theorem aw_tst (n : Nat) (hn : n ≤ 2000) : tstC cn0 fk0 (dish0 cn0 121000) 156000000 121000 0 0 n = decide (156 ≤ n) := by
  unfold tstC enD
  rw [afN_zero, aw_af n hn]
  show decide (156000000 ≤ minA [((n * 1000000 : Nat) : Int)]) = _
  rw [minA_one]
  by_cases h : 156 ≤ n
  · rw [decide_eq_true h, decide_eq_true (by omega)]
  · rw [decide_eq_false h, decide_eq_false (by omega)]
theorem aw_with (n : Nat) (hn : n ≤ 2000) : withF 1 1 100 50 0 0 0 kl0 121000 121000 0 0 (n : Int) = n * 1000000 := by
  have hck : cookB 121000 (n : Int) 0 0 = true := by
    unfold cookB
    rw [ticksB_two.2 ⟨by omega, by omega, by omega⟩]
    rfl
  have hL : cookL 121000 (n : Int) 0 0 = List.replicate n 121000 := by
    unfold cookL
    rw [if_pos hck, Int.toNat_natCast]
    simp
  have hch : chk4 (canB 1 1 100 50 0 0 0) kl0.vB 121000 (List.replicate n 121000) = 0 := by
    refine chk4_ok (by decide +kernel) ?_ (by rw [List.length_replicate]; omega)
    have : okL (List.replicate n 121000) = true := List.all_eq_true.2 fun x hx => by rw [List.eq_of_mem_replicate hx]; rfl
    rw [this]; rfl
  unfold withF
  rw [hL]
  have e0 : cnOf 1 1 100 50 0 0 0 = cn0 := rfl
  have hs : sumsO 1 1 100 50 0 0 0 kl0 121000 (List.replicate n 121000) = [n * 1000000] := by
    unfold sumsO
    rw [if_pos hch, e0]
    exact congrArg Prod.snd (aw_af n hn)
  rw [hs]
  unfold lowO
  rw [if_neg (by simp)]
  show minA [((n * 1000000 : Nat) : Int)] = _
  rw [minA_one]
  omega
theorem aw_least (W : World) : Calls Tryz.prog 26 #[.agg #[.int .i64 1, .int .i64 1, .int .i64 100, .int .i64 50, .int .i64 0, .int .i64 0, .int .i64 0], .agg #[.string ⟨#[97]⟩, .int .i64 484, .int .i64 40, .int .i64 13, .int .i64 12], .int .i64 121000, .int .i64 121000, .int .i64 0, .int .i64 0] W
    fun e w' => e = .returned (.tuple #[.int .i64 156, .int .i64 156000000, .int .i64 155000000, .int .i64 0]) ∧ Below W.heap.size W w' := by
  have hG : Good cn0 (dish0 cn0 121000) := dish0_good (by decide)
  have h := least_ok cn0 kl0 121000 121000 0 0 2000 40 W rfl (by decide) cn0_V (by decide +kernel) (by decide) (by decide) (by decide) (by omega) (fun _ j n hj hn hT => by
    have h1 := aw_tst j (by omega)
    have h2 := aw_tst n hn
    have hT' : tstC cn0 fk0 (dish0 cn0 121000) 156000000 121000 0 0 j = true := hT
    show tstC cn0 fk0 (dish0 cn0 121000) 156000000 121000 0 0 n = true
    rw [h1] at hT'
    rw [h2]
    rw [decide_eq_true_eq] at hT' ⊢
    omega)
  refine Calls.mono h ?_
  rintro e w' ⟨hb, ⟨n, hn, h1, h2, rfl⟩ | ⟨h1, rfl⟩⟩
  · have h1' : tstC cn0 fk0 (dish0 cn0 121000) 156000000 121000 0 0 n = true := h1
    rw [aw_tst n hn, decide_eq_true_eq] at h1'
    have hn2 : n = 156 := by
      by_cases h : n ≤ 156
      · omega
      · have h3 : tstC cn0 fk0 (dish0 cn0 121000) 156000000 121000 0 0 156 = false := h2 156 (by omega)
        rw [aw_tst 156 (by omega)] at h3
        cases h3
    subst hn2
    refine ⟨?_, hb⟩
    have w1 := aw_with 156 (by omega)
    have w2 := aw_with 155 (by omega)
    have w1' : withF (cn0.R : Int) cn0.L cn0.A cn0.B cn0.K cn0.A2 cn0.B2 kl0 121000 121000 0 (0 : Nat) (156 : Nat) = 156000000 := w1
    have w2' : withF (cn0.R : Int) cn0.L cn0.A cn0.B cn0.K cn0.A2 cn0.B2 kl0 121000 121000 0 (0 : Nat) (((156 : Nat) : Int) - 1) = 155000000 := w2
    rw [w1', if_neg (by decide), w2']
    rfl
  · have h3 : tstC cn0 fk0 (dish0 cn0 121000) 156000000 121000 0 0 156 = false := h1 156 (by omega)
    rw [aw_tst 156 (by omega)] at h3
    cases h3
set_option maxRecDepth 20000 in
set_option maxHeartbeats 4000000 in
theorem lawake_any (w : World) : Calls Tryz.prog 8 #[] w fun e w' => e = .returned (.bool true) ∧ Below w.heap.size w w' := by
  have HL := hid aw_least
  go_enter Tryz.func8, Tryz.ntmps8
  have HX := hid (box2_start (w := w) (A := #[.int .i64 1, .int .i64 1, .int .i64 100, .int .i64 50, .int .i64 0, .int .i64 0, .int .i64 0]) (B := #[.string ⟨#[97]⟩, .int .i64 484, .int .i64 40, .int .i64 13, .int .i64 12]) (T := 23) (T' := 25) (fz := (0, 0)) (fz' := (0, 0)))
  go_wp2_with fail
  refine (HL.out _).mono ?_
  rintro e w1 ⟨rfl, hb⟩
  have HX := hid (HX.out.keep hb)
  clear hb
  go_wp2_with fail
  go_ret
  exact ⟨rfl, HX.out.low⟩
end Go.Proofs.YtihbjimnjhfpeaaGreat

/- ProcessLonger: a Cook that comes in; the plain fact; the walk. -/
namespace Go.Proofs.YtihbjimnjhfpeaaGreat
open Go.ChangeShapes Go.WideShapes Go.ChangeAt Go.RowKit Go.Joins Go.Deep Go.Lib

section
variable {H : Type} {enc : TypeId × Value → H} {w : World} {base : Nat} {spare : Nat → Bool} {held : Bool}
end
set_option maxRecDepth 20000 in
set_option maxHeartbeats 2000000 in
theorem small04_any (r l a b k a2 b2 : Int) (w : World) (a0 : Option Addr) (n cap : Nat) (hn : n ≤ maxLen) :
    Calls Tryz.prog 7 #[.agg #[.int .i64 r, .int .i64 l, .int .i64 a, .int .i64 b, .int .i64 k, .int .i64 a2, .int .i64 b2], .slice a0 n cap] w fun e w' => e = .returned (.bool (smallB r l n 80)) ∧ Below w.heap.size w w' := by
  unfold maxLen at hn
  cases h1 : decide (r ≤ 3)
  · have HE := hid (show smallB r l n 80 = false by unfold smallB; rw [h1]; rfl)
    go_enter Tryz.func7, Tryz.ntmps7
    go_wp2
    go_ret
    exact ⟨ret_bool HE.out.symm, (Below.refl _ _).alloc (Nat.le_refl _) _⟩
  cases h2 : decide (l ≤ 4)
  · have HE := hid (show smallB r l n 80 = false by unfold smallB; rw [h1, h2]; rfl)
    go_enter Tryz.func7, Tryz.ntmps7
    go_wp2
    go_ret
    exact ⟨ret_bool HE.out.symm, (Below.refl _ _).alloc (Nat.le_refl _) _⟩
  · have HE := hid (show smallB r l n 80 = decide ((n : Int) ≤ 80) by unfold smallB; rw [h1, h2]; simp; omega)
    go_enter Tryz.func7, Tryz.ntmps7
    go_wp2
    go_ret
    exact ⟨ret_bool HE.out.symm, (Below.refl _ _).alloc (Nat.le_refl _) _⟩
end Go.Proofs.YtihbjimnjhfpeaaGreat

/- A Case that comes in. -/
namespace Go.Proofs.YtihbjimnjhfpeaaGreat
open Go.ChangeShapes Go.WideShapes Go.ChangeAt Go.RowKit Go.Joins Go.Deep Go.Lib

theorem cellsCs : Tryz.prog.cellsOf 42 = 13 := by kernel_rfl
theorem cellsP1 : Tryz.prog.cellsOf 39 = 1 := by kernel_rfl
theorem cellsR1 : Tryz.prog.cellsOf 40 = 1 := by kernel_rfl
section
variable {H : Type} {enc : TypeId × Value → H} {w : World} {base : Nat} {spare : Nat → Bool} {held : Bool}
set_option maxRecDepth 100000 in
theorem trod_sched {n : Nat} {c0 c1 c2 c3 c4 : Value} {y : DataW H × List MemPlace} (h : DataW.trod enc Tryz.prog w base spare held n 38 [c0, c1, c2, c3, c4] = some y) :
    ∃ s : Sch, c0 = .string s.pr ∧ c1 = .int .i64 s.it ∧ c2 = .int .i64 s.tm ∧ c3 = .int .i64 s.tk ∧ c4 = .int .i64 s.fl ∧ s.pr.size ≤ maxLen := by
  obtain ⟨xs, m, _, hx, _, hlen, hg⟩ := DataW.trod_struct Tryz.underlying38 h
  match xs, hlen with
  | [y0, y1, y2, y3, y4], _ =>
    have g0 := hg 0 _ rfl; have g1 := hg 1 _ rfl; have g2 := hg 2 _ rfl; have g3 := hg 3 _ rfl; have g4 := hg 4 _ rfl
    simp [cellsI, cellsSt] at g0 g1 g2 g3 g4
    obtain ⟨s, e0, _, ws⟩ := DataW.trod_string Tryz.underlying9 g0
    obtain ⟨n1, e1, _⟩ := DataW.trod_int Tryz.underlying3 g1
    obtain ⟨n2, e2, _⟩ := DataW.trod_int Tryz.underlying3 g2
    obtain ⟨n3, e3, _⟩ := DataW.trod_int Tryz.underlying3 g3
    obtain ⟨n4, e4, _⟩ := DataW.trod_int Tryz.underlying3 g4
    simp at e0 e1 e2 e3 e4
    exact ⟨⟨s, n1, n2, n3, n4⟩, e0, e1, e2, e3, e4, ws⟩
set_option maxRecDepth 100000 in
theorem open_case {rr : Reach} {b0 : Nat} {v : Value} {d : DataW H} {p : List MemPlace} (hv : Value.okWide Tryz.prog w rr b0 42 v) (h : DataW.Trod enc Tryz.prog w base spare held 42 v d p) :
    ∃ (s : Sch) (pv : Value) (m : Nat) (st : Nat → Rt.St) (rv : Value) (n : Nat) (rd : Nat → Rt.Rd) (fi : Int) (x : Kl), v = .agg #[.string s.pr, .int .i64 s.it, .int .i64 s.tm, .int .i64 s.tk, .int .i64 s.fl, pv, rv, .int .i64 fi, .string x.s, .int .i64 x.r, .int .i64 x.z, .int .i64 x.d, .int .i64 x.g] ∧ s.pr.size ≤ maxLen ∧ Rt.RowP w pv m st ∧ Rt.RowR w rv n rd ∧ x.s.size ≤ maxLen := by
  obtain ⟨cs, rfl, hsz⟩ := okWide_struct Tryz.underlying42 hv
  obtain ⟨ls⟩ := cs
  match ls, hsz.trans cellsCs with
  | [c0, c1, c2, c3, c4, c5, c6, c7, c8, c9, c10, c11, c12], _ =>
    obtain ⟨fuel, hf⟩ := h
    obtain ⟨xs, n, _, hx, _, hlen, hg⟩ := DataW.trod_struct Tryz.underlying42 hf
    match xs, hlen with
    | [y0, y1, y2, y3, y4], _ =>
      have g0 := hg 0 _ rfl; have g1 := hg 1 _ rfl; have g2 := hg 2 _ rfl; have g3 := hg 3 _ rfl; have g4 := hg 4 _ rfl
      simp [Value.cells, cellsE, cellsP1, cellsR1, cellsKl, cellsI] at g0 g1 g2 g3 g4
      obtain ⟨s, rfl, rfl, rfl, rfl, rfl, ws⟩ := trod_sched g0
      obtain ⟨m, P, hP⟩ := Rt.rowP_of g1
      obtain ⟨n1, R, hR⟩ := Rt.rowR_of g2
      obtain ⟨n3, e3, _⟩ := DataW.trod_int Tryz.underlying3 g3
      obtain ⟨q, rfl, rfl, rfl, rfl, rfl, wx⟩ := trod_killer g4
      simp at e3
      subst e3
      exact ⟨s, _, m, P, _, n1, R, n3, q, rfl, ws, hP, hR, wx⟩
end
theorem vent_ex (m : Nat) (p : Nat → Rt.St) (n : Nat) (r : Nat → Rt.Rd) : ∃ b c, Rt.VentV m p n r b c := by
  cases h : Rt.recB m p n r
  · exact ⟨false, 1, .inl ⟨h, rfl, rfl⟩⟩
  · by_cases g : ∀ i, i < m → Rt.VentOk p n r i
    · exact ⟨true, 0, .inr (.inl ⟨h, rfl, rfl, g⟩)⟩
    · refine ⟨false, 0, .inr (.inr ⟨h, rfl, rfl, ?_⟩)⟩
      obtain ⟨i, hi⟩ := Classical.not_forall.1 g
      exact ⟨i, by by_cases hm : i < m; exact hm; exact absurd (fun h => absurd h hm) hi, fun h => hi fun _ => h⟩
end Go.Proofs.YtihbjimnjhfpeaaGreat

/- Walk of ProcessReleases. -/
namespace Go.Proofs.YtihbjimnjhfpeaaGreat
open Go.RowKit Go.Lib

theorem rel_two {wb vb : Bool} {hi : Int} {F : Bool} (hF : F = ((vb && wb) && decide (hi < 0))) (h : F = false) (v1 v2 v3 : Int) : verV (unpV wb vb hi) v1 v2 v3 = 2 := by
  have : unpV wb vb hi = 2 := by
    unfold unpV
    rw [if_neg]
    rw [hF] at h
    cases vb <;> cases wb <;> simp_all
  rw [this]
  rfl
theorem rel_zero {wb vb : Bool} {hi : Int} {F : Bool} (hF : F = ((vb && wb) && decide (hi < 0))) (h : F = true) : unpV wb vb hi = 0 := by
  unfold unpV
  rw [if_pos]
  rw [hF] at h
  cases vb <;> cases wb <;> simp_all
/-- What the walk is told of the verdict. -/
theorem rel_facts {s : Sch} {t fi : Int} {wb vb so F M : Bool} {hi sp nd : Int} {d ck : Nat} (hF : F = ((vb && wb) && decide (hi < 0))) (hM : M = (((decide (s.it ≤ t) && decide (fi ≤ s.fl)) && decide (d = 0)) && decide (s.tk ≤ (ck : Int)))) {jv : Int} (hj : jv = verV (unpV wb vb hi) (schV s t fi d ck) (steV so) (unsV sp nd)) :
    (F = false → jv = 2) ∧ (F = true → M = true → jv = 1) ∧ (F = true → jv ≠ 2) ∧ (F = true → M = false → jv = 1 → so = true) := by
  have hs : schV s t fi d ck = if M = true then 1 else 0 := by
    unfold schV Sch.fit
    rw [hM]
  refine ⟨fun h => hj.trans (rel_two hF h _ _ _), fun h g => ?_, fun h => ?_, fun h g e => ?_⟩
  · rw [hj, rel_zero hF h, hs, g]; rfl
  · rw [hj, rel_zero hF h, hs]
    unfold verV steV unsV
    cases M <;> cases so <;> simp <;> split <;> simp
  · rw [hj, rel_zero hF h, hs, g] at e
    cases so
    · exfalso
      revert e
      unfold verV steV unsV
      simp
      split <;> simp
    · rfl
theorem cut_same {l : List Int} (h : okL l = true) : cutL l = l := by
  unfold cutL
  have h2 : ∀ x ∈ l, cutT x = id x := fun x hx => by
    have h1 := List.all_eq_true.1 h x hx
    simp only [okT, Bool.and_eq_true, decide_eq_true_eq] at h1
    unfold cutT
    rw [if_neg (show ¬ x < -50000 by omega), if_neg (show ¬ 200000 < x by omega)]
    rfl
  rw [List.map_congr_left h2, List.map_id]
theorem vent_err {m : Nat} {p : Nat → Rt.St} {n : Nat} {r : Nat → Rt.Rd} {b : Bool} {c : Int} (h : Rt.VentV m p n r b c) (g : Rt.recB m p n r = true) : c = 0 := by
  rcases h with ⟨h1, _⟩ | ⟨_, h2, _⟩ | ⟨_, h2, _⟩
  · rw [g] at h1; cases h1
  · exact h2
  · exact h2
theorem baths_ok {r : Nat → Rt.Rd} {n : Nat} (h : ∀ j, j < n → okT (r j).b = true) : okL (Rt.bathsL r n) = true := by
  refine List.all_eq_true.2 fun x hx => ?_
  unfold Rt.bathsL at hx
  obtain ⟨j, hj, rfl⟩ := List.mem_map.1 hx
  exact h j (List.mem_range.1 hj)
set_option maxRecDepth 100000 in
set_option maxHeartbeats 16000000 in
theorem preleases_err (r l a b k a2 b2 : Int) (q : Kl) (t : Int) (s : Sch) (pa : Option Addr) (m pc : Nat) (st : Nat → Rt.St) (va : Option Addr) (n vc : Nat) (rd : Nat → Rt.Rd) (fi : Int) (x : Kl) (y : Kl) (w : World) (hs : q.s.size ≤ maxLen) (hsp : s.pr.size ≤ maxLen) (hp : Rt.RowP w (.slice pa m pc) m st) (hr : Rt.RowR w (.slice va n vc) n rd) (hx : x.s.size ≤ maxLen) (_hy : y.s.size ≤ maxLen) (hje : judE s (Rt.recB m st n rd) ((q.vB && x.vB) && canB r l a b k a2 b2) t fi ≠ 0) :
    Calls Tryz.prog 5 #[.agg #[.int .i64 r, .int .i64 l, .int .i64 a, .int .i64 b, .int .i64 k, .int .i64 a2, .int .i64 b2, .string q.s, .int .i64 q.r, .int .i64 q.z, .int .i64 q.d, .int .i64 q.g, .int .i64 t], .agg #[.string s.pr, .int .i64 s.it, .int .i64 s.tm, .int .i64 s.tk, .int .i64 s.fl, .slice pa m pc, .slice va n vc, .int .i64 fi, .string x.s, .int .i64 x.r, .int .i64 x.z, .int .i64 x.d, .int .i64 x.g], .agg #[.string y.s, .int .i64 y.r, .int .i64 y.z, .int .i64 y.d, .int .i64 y.g]] w fun e w' => e = .returned (.bool true) ∧ Below w.heap.size w w' := by
  have hn := hr.most
  have hm := Rt.RowT.most hp
  unfold maxLen at hn hm
  have HX := hid (b3_start (w := w) (T1 := 27) (T2 := 42) (T3 := 25) (A := #[.int .i64 r, .int .i64 l, .int .i64 a, .int .i64 b, .int .i64 k, .int .i64 a2, .int .i64 b2, .string q.s, .int .i64 q.r, .int .i64 q.z, .int .i64 q.d, .int .i64 q.g, .int .i64 t]) (B := #[.string s.pr, .int .i64 s.it, .int .i64 s.tm, .int .i64 s.tk, .int .i64 s.fl, .slice pa m pc, .slice va n vc, .int .i64 fi, .string x.s, .int .i64 x.r, .int .i64 x.z, .int .i64 x.d, .int .i64 x.g]) (R := #[.string y.s, .int .i64 y.r, .int .i64 y.z, .int .i64 y.d, .int .i64 y.g]))
  have HSM := hid (fun W => small04_any r l a b k a2 b2 W none 0 0 (by decide))
  have HP := hid (fun w1 (g : Below w.heap.size w w1) => (show Rt.RowP w1 (.slice pa m pc) m st from Rt.RowT.keep hp g))
  have HR := hid (fun w1 (g : Below w.heap.size w w1) => hr.keep g)
  have HJ := hid (fun W hp hr => judge_err s pa m pc st va n vc rd t fi r l a b k a2 b2 q x W hp hr hsp hs hx hje)
  obtain ⟨je, hj⟩ : ∃ z, z = judE s (Rt.recB m st n rd) ((q.vB && x.vB) && canB r l a b k a2 b2) t fi := ⟨_, rfl⟩
  rw [← hj] at HJ hje
  have hc1 : (je != 0) = true := by simpa using hje
  clear hs hx hsp hp hr _hy hj hje
  go_enter Tryz.func5, Tryz.ntmps5
  have t0 := HX.out.can 0; have t1 := HX.out.can 1; have t2 := HX.out.can 2; have t3 := HX.out.can 3; have t4 := HX.out.can 4; have t5 := HX.out.can 5; have t6 := HX.out.can 6; have t7 := HX.out.can 7; have t8 := HX.out.can 8; have t9 := HX.out.can 9; have t10 := HX.out.can 10; have t11 := HX.out.can 11; have t12 := HX.out.can 12; have c0 := HX.out.kil 0; have c1 := HX.out.kil 1; have c2 := HX.out.kil 2; have c3 := HX.out.kil 3; have c4 := HX.out.kil 4; have c5 := HX.out.kil 5; have c6 := HX.out.kil 6; have c7 := HX.out.kil 7; have c8 := HX.out.kil 8; have c9 := HX.out.kil 9; have c10 := HX.out.kil 10; have c11 := HX.out.kil 11; have c12 := HX.out.kil 12; have d0 := HX.out.spo 0; have d1 := HX.out.spo 1; have d2 := HX.out.spo 2; have d3 := HX.out.spo 3; have d4 := HX.out.spo 4
  simp only [List.getElem?_toArray, List.getElem?_cons_zero, List.getElem?_cons_succ] at t0 t1 t2 t3 t4 t5 t6 t7 t8 t9 t10 t11 t12 c0 c1 c2 c3 c4 c5 c6 c7 c8 c9 c10 c11 c12 d0 d1 d2 d3 d4
  go_wp2_with fail
  refine (HSM.out _).mono ?_
  rintro e w1 ⟨rfl, hb⟩
  have HX := hid (HX.out.keep hb)
  clear hb t0 t1 t2 t3 t4 t5 t6 t7 t8 t9 t10 t11 t12 c0 c1 c2 c3 c4 c5 c6 c7 c8 c9 c10 c11 c12 d0 d1 d2 d3 d4
  have t0 := HX.out.can 0; have t1 := HX.out.can 1; have t2 := HX.out.can 2; have t3 := HX.out.can 3; have t4 := HX.out.can 4; have t5 := HX.out.can 5; have t6 := HX.out.can 6; have t7 := HX.out.can 7; have t8 := HX.out.can 8; have t9 := HX.out.can 9; have t10 := HX.out.can 10; have t11 := HX.out.can 11; have t12 := HX.out.can 12; have c0 := HX.out.kil 0; have c1 := HX.out.kil 1; have c2 := HX.out.kil 2; have c3 := HX.out.kil 3; have c4 := HX.out.kil 4; have c5 := HX.out.kil 5; have c6 := HX.out.kil 6; have c7 := HX.out.kil 7; have c8 := HX.out.kil 8; have c9 := HX.out.kil 9; have c10 := HX.out.kil 10; have c11 := HX.out.kil 11; have c12 := HX.out.kil 12; have d0 := HX.out.spo 0; have d1 := HX.out.spo 1; have d2 := HX.out.spo 2; have d3 := HX.out.spo 3; have d4 := HX.out.spo 4
  simp only [List.getElem?_toArray, List.getElem?_cons_zero, List.getElem?_cons_succ] at t0 t1 t2 t3 t4 t5 t6 t7 t8 t9 t10 t11 t12 c0 c1 c2 c3 c4 c5 c6 c7 c8 c9 c10 c11 c12 d0 d1 d2 d3 d4
  cases hsm : smallB r l 0 80
  · skip
    go_wp2_with fail
    refine (lawake_any _).mono ?_
    rintro e w19 ⟨rfl, hb⟩
    have HX := hid (HX.out.keep hb)
    clear hb
    go_wp2_with fail
    go_ret
    exact ⟨rfl, HX.out.low⟩
  by_cases h1 : m ≤ 40
  case neg =>
    have h1' : decide (40 < (m : Int)) = true := by simp; omega
    go_wp2_with fail
    refine (lawake_any _).mono ?_
    rintro e w19 ⟨rfl, hb⟩
    have HX := hid (HX.out.keep hb)
    clear hb
    go_wp2_with fail
    go_ret
    exact ⟨rfl, HX.out.low⟩
  have h1' : decide (40 < (m : Int)) = false := by simp; omega
  by_cases h3 : n ≤ 80
  case neg =>
    have h3' : decide (80 < (n : Int)) = true := by simp; omega
    go_wp2_with fail
    refine (lawake_any _).mono ?_
    rintro e w19 ⟨rfl, hb⟩
    have HX := hid (HX.out.keep hb)
    clear hb
    go_wp2_with fail
    go_ret
    exact ⟨rfl, HX.out.low⟩
  have h3' : decide (80 < (n : Int)) = false := by simp; omega
  go_wp2_with fail
  refine (HJ.out _ (HP.out _ HX.out.low) (HR.out _ HX.out.low)).mono ?_
  rintro e w2 ⟨rfl, hb⟩
  have HX := hid (HX.out.keep hb)
  clear hb t0 t1 t2 t3 t4 t5 t6 t7 t8 t9 t10 t11 t12 c0 c1 c2 c3 c4 c5 c6 c7 c8 c9 c10 c11 c12 d0 d1 d2 d3 d4
  go_wp2_with fail
  refine (lawake_any _).mono ?_
  rintro e w19 ⟨rfl, hb⟩
  have HX := hid (HX.out.keep hb)
  clear hb
  go_wp2_with fail
  go_ret
  exact ⟨rfl, HX.out.low⟩
end Go.Proofs.YtihbjimnjhfpeaaGreat
