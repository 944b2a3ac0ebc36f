/- Texts of this seat, one behind the other. -/
import Derived.Test.YtedfajokiblfhaaGreatPdp
/- law04's awake: contract. -/
namespace Go.Proofs.YtedfajokiblfhaaGreat
open Go.RowKit Go.Lib

def cn0 : Cn := ⟨1, 1, 100, 50, 0, 0, 0⟩
theorem cn0_V : cn0.V := by unfold Cn.V; decide
def fk0 : Int → Nat := fun x => Lt.Pm.rateD kl0.r kl0.z (x / 250)
theorem fk0_at : fk0 121000 = 1000000 := aw4_rate
theorem aw_af (n : Nat) (hn : n ≤ 2000) : afN cn0 fk0 (dish0 cn0 121000) 121000 n = (evB cn0 121000, [n * 1000000]) := by
  induction n with
  | zero => rw [afN_zero]; rfl
  | succ n ih =>
    rw [afN_succ, ih (by omega)]
    have he := tickS_even cn0_V.ok 121000
    show (tickS cn0 (evB cn0 121000) 121000, addD fk0 [n * 1000000] (tickS cn0 (evB cn0 121000) 121000).1) = _
    rw [he]
    show (evB cn0 121000, [Lt.cutN (n * 1000000) (fk0 121000)]) = _
    rw [fk0_at]
    have : Lt.cutN (n * 1000000) 1000000 = (n + 1) * 1000000 := by unfold Lt.cutN; omega
    rw [this]
theorem minA_one (x : Int) : minA [x] = x := by
  have := minA_mem (ds := [x]) (by simp)
  simpa using this
theorem aw_tst (n : Nat) (hn : n ≤ 2000) : tstC cn0 fk0 (dish0 cn0 121000) 156000000 121000 0 0 n = decide (156 ≤ n) := by
  unfold tstC enD
  rw [afN_zero, aw_af n hn]
  show decide (156000000 ≤ minA [((n * 1000000 : Nat) : Int)]) = _
  rw [minA_one]
  by_cases h : 156 ≤ n
  · rw [decide_eq_true h, decide_eq_true (by omega)]
  · rw [decide_eq_false h, decide_eq_false (by omega)]
theorem aw_with (n : Nat) (hn : n ≤ 2000) : withF 1 1 100 50 0 0 0 kl0 121000 121000 0 0 (n : Int) = n * 1000000 := by
  have hck : cookB 121000 (n : Int) 0 0 = true := by
    unfold cookB
    rw [ticksB_two.2 ⟨by omega, by omega, by omega⟩]
    rfl
  have hL : cookL 121000 (n : Int) 0 0 = List.replicate n 121000 := by
    unfold cookL
    rw [if_pos hck, Int.toNat_natCast]
    simp
  have hch : chk4 (canB 1 1 100 50 0 0 0) kl0.vB 121000 (List.replicate n 121000) = 0 := by
    refine chk4_ok (by decide +kernel) ?_ (by rw [List.length_replicate]; omega)
    have : okL (List.replicate n 121000) = true := List.all_eq_true.2 fun x hx => by rw [List.eq_of_mem_replicate hx]; rfl
    rw [this]; rfl
  unfold withF
  rw [hL]
  have e0 : cnOf 1 1 100 50 0 0 0 = cn0 := rfl
  have hs : sumsO 1 1 100 50 0 0 0 kl0 121000 (List.replicate n 121000) = [n * 1000000] := by
    unfold sumsO
    rw [if_pos hch, e0]
    exact congrArg Prod.snd (aw_af n hn)
  rw [hs]
  unfold lowO
  rw [if_neg (by simp)]
  show minA [((n * 1000000 : Nat) : Int)] = _
  rw [minA_one]
  omega
theorem aw_least (W : World) : Calls Tryz.prog 23 #[.agg #[.int .i64 1, .int .i64 1, .int .i64 100, .int .i64 50, .int .i64 0, .int .i64 0, .int .i64 0], .agg #[.string ⟨#[97]⟩, .int .i64 484, .int .i64 40, .int .i64 13, .int .i64 12], .int .i64 121000, .int .i64 121000, .int .i64 0, .int .i64 0] W
    fun e w' => e = .returned (.tuple #[.int .i64 156, .int .i64 156000000, .int .i64 155000000, .int .i64 0]) ∧ Below W.heap.size W w' := by
  have hG : Good cn0 (dish0 cn0 121000) := dish0_good (by decide)
  have h := least_ok cn0 kl0 121000 121000 0 0 2000 40 W rfl (by decide) cn0_V (by decide +kernel) (by decide) (by decide) (by decide) (by omega) (fun _ j n hj hn hT => by
    have h1 := aw_tst j (by omega)
    have h2 := aw_tst n hn
    have hT' : tstC cn0 fk0 (dish0 cn0 121000) 156000000 121000 0 0 j = true := hT
    show tstC cn0 fk0 (dish0 cn0 121000) 156000000 121000 0 0 n = true
    rw [h1] at hT'
    rw [h2]
    rw [decide_eq_true_eq] at hT' ⊢
    omega)
  refine Calls.mono h ?_
  rintro e w' ⟨hb, ⟨n, hn, h1, h2, rfl⟩ | ⟨h1, rfl⟩⟩
  · have h1' : tstC cn0 fk0 (dish0 cn0 121000) 156000000 121000 0 0 n = true := h1
    rw [aw_tst n hn, decide_eq_true_eq] at h1'
    have hn2 : n = 156 := by
      by_cases h : n ≤ 156
      · omega
      · have h3 : tstC cn0 fk0 (dish0 cn0 121000) 156000000 121000 0 0 156 = false := h2 156 (by omega)
        rw [aw_tst 156 (by omega)] at h3
        cases h3
    subst hn2
    refine ⟨?_, hb⟩
    have w1 := aw_with 156 (by omega)
    have w2 := aw_with 155 (by omega)
    have w1' : withF (cn0.R : Int) cn0.L cn0.A cn0.B cn0.K cn0.A2 cn0.B2 kl0 121000 121000 0 (0 : Nat) (156 : Nat) = 156000000 := w1
    have w2' : withF (cn0.R : Int) cn0.L cn0.A cn0.B cn0.K cn0.A2 cn0.B2 kl0 121000 121000 0 (0 : Nat) (((156 : Nat) : Int) - 1) = 155000000 := w2
    rw [w1', if_neg (by decide), w2']
    rfl
  · have h3 : tstC cn0 fk0 (dish0 cn0 121000) 156000000 121000 0 0 156 = false := h1 156 (by omega)
    rw [aw_tst 156 (by omega)] at h3
    cases h3
set_option maxRecDepth 20000 in
set_option maxHeartbeats 4000000 in
theorem lawake_any (w : World) : Calls Tryz.prog 10 #[] w fun e w' => e = .returned (.bool true) ∧ Below w.heap.size w w' := by
  have HL := hid aw_least
  go_enter Tryz.func10, Tryz.ntmps10
  have HX := hid (box2_start (w := w) (A := #[.int .i64 1, .int .i64 1, .int .i64 100, .int .i64 50, .int .i64 0, .int .i64 0, .int .i64 0]) (B := #[.string ⟨#[97]⟩, .int .i64 484, .int .i64 40, .int .i64 13, .int .i64 12]) (T := 23) (T' := 25) (fz := (0, 0)) (fz' := (0, 0)))
  go_wp2_with fail
  refine (HL.out _).mono ?_
  rintro e w1 ⟨rfl, hb⟩
  have HX := hid (HX.out.keep hb)
  clear hb
  go_wp2_with fail
  go_ret
  exact ⟨rfl, HX.out.low⟩
end Go.Proofs.YtedfajokiblfhaaGreat

/- ProcessLonger: a Cook that comes in; the plain fact; the walk. -/
namespace Go.Proofs.YtedfajokiblfhaaGreat
open Go.ChangeShapes Go.WideShapes Go.ChangeAt Go.RowKit Go.Joins Go.Deep Go.Lib

theorem cellsCk : Tryz.prog.cellsOf 44 = 3 := by kernel_rfl
section
variable {H : Type} {enc : TypeId × Value → H} {w : World} {base : Nat} {spare : Nat → Bool} {held : Bool}
set_option maxRecDepth 100000 in
theorem open_ck {rr : Reach} {b0 : Nat} {v : Value} {d : DataW H} {p : List MemPlace} (hv : Value.okWide Tryz.prog w rr b0 44 v) (h : DataW.Trod enc Tryz.prog w base spare held 44 v d p) :
    ∃ (bath cold cooling : Int), v = .agg #[.int .i64 bath, .int .i64 cold, .int .i64 cooling] ∧ (Lit.int .i64 bath).wf = true ∧ (Lit.int .i64 cold).wf = true ∧ (Lit.int .i64 cooling).wf = true := by
  obtain ⟨cs, rfl, hsz⟩ := okWide_struct Tryz.underlying44 hv
  obtain ⟨ls⟩ := cs
  match ls, hsz.trans cellsCk with
  | [c0, c1, c2], _ =>
    obtain ⟨fuel, hf⟩ := h
    obtain ⟨xs, n, _, hx, _, hlen, hg⟩ := DataW.trod_struct Tryz.underlying44 hf
    match xs, hlen with
    | [y0, y1, y2], _ =>
      have g0 := hg 0 _ rfl; have g1 := hg 1 _ rfl; have g2 := hg 2 _ rfl
      simp [Value.cells, cellsI] at g0 g1 g2
      obtain ⟨n0, e0, _, w0⟩ := DataW.trod_int Tryz.underlying3 g0
      obtain ⟨n1, e1, _, w1⟩ := DataW.trod_int Tryz.underlying3 g1
      obtain ⟨n2, e2, _, w2⟩ := DataW.trod_int Tryz.underlying3 g2
      simp at e0 e1 e2
      subst e0 e1 e2
      exact ⟨n0, n1, n2, rfl, w0, w1, w2⟩
end
theorem cookL_ok {bath n cold cooling : Int} : okL (cookL bath n cold cooling) = true := by
  unfold cookL
  split
  · rename_i h
    unfold cookB at h
    rw [Bool.and_eq_true] at h
    have h1 := h.1
    simp only [okL, List.all_cons, List.all_nil, Bool.and_true, Bool.and_eq_true] at h1
    unfold okL
    rw [List.all_append, Bool.and_eq_true]
    exact ⟨List.all_eq_true.2 fun x hx => by rw [List.eq_of_mem_replicate hx]; exact h1.1, List.all_eq_true.2 fun x hx => by rw [List.eq_of_mem_replicate hx]; exact h1.2⟩
  · rfl
theorem chk4_cook (vc vk : Bool) (t : Int) {l m : List Int} (h1 : okL l = true) (h2 : okL m = true) (h3 : l.length ≤ 2000) (h4 : m.length ≤ 2000) : chk4 vc vk t l = chk4 vc vk t m := by
  unfold chk4
  rw [h1, h2, if_neg (show ¬ 2000 < l.length by omega), if_neg (show ¬ 2000 < m.length by omega)]
theorem lowO_min {S : List Nat} (h : 0 < S.length) : lowO S = minA (ivN S) := by
  unfold lowO
  rw [if_neg (by rintro rfl; simp at h)]
/-- A tick more is never less lethal. -/
theorem longer_le {r l a b a2 b2 : Int} {q : Kl} {t bath n cold cooling : Int} (h1 : cookB bath n cold cooling = true) (h2 : cookB bath (n + 1) cold cooling = true) (ht : t ≤ bath) (hn : 0 ≤ n) :
    lowO (sumsO r l a b 0 a2 b2 q t (cookL bath n cold cooling)) ≤ lowO (sumsO r l a b 0 a2 b2 q t (cookL bath (n + 1) cold cooling)) := by
  have hch := chk4_cook (canB r l a b 0 a2 b2) q.vB t (cookL_ok (bath := bath) (n := n) (cold := cold) (cooling := cooling)) (cookL_ok (bath := bath) (n := n + 1) (cold := cold) (cooling := cooling)) (cookL_len _ _ _ _) (cookL_len _ _ _ _)
  by_cases hc : chk4 (canB r l a b 0 a2 b2) q.vB t (cookL bath n cold cooling) = 0
  · have hc2 := hch.symm.trans hc
    obtain ⟨e1, p1, _⟩ := sumsO_len hc
    obtain ⟨e2, _, _⟩ := sumsO_len hc2
    rw [lowO_min (by omega), lowO_min (by omega)]
    obtain ⟨hcan, hk, ho, hop, _⟩ := chk4_zero hc
    obtain ⟨c, hcv, rfl, rfl, rfl, rfl, hK, rfl, rfl⟩ := canB_cn hcan
    have hob : okT bath = true := by
      have := h1
      unfold cookB at this
      rw [Bool.and_eq_true] at this
      have := this.1
      simp only [okL, List.all_cons, List.all_nil, Bool.and_true, Bool.and_eq_true] at this
      exact this.1
    obtain ⟨Z, hz, hv⟩ := kl_of hk
    have hK0 : c.K = 0 := hK.symm
    have hcn : cnOf (c.R : Int) c.L c.A c.B 0 c.A2 c.B2 = c := by rw [hK]; exact cnOf_cn c
    have hL : cookL bath (n + 1) cold cooling = bath :: cookL bath n cold cooling := by
      unfold cookL
      rw [if_pos h1, if_pos h2, show (n + 1).toNat = n.toNat + 1 by omega, List.replicate_succ, List.cons_append]
    have hf : ∀ x y : Int, x ≤ y → Lt.Pm.rateD q.r q.z (x / 250) ≤ Lt.Pm.rateD q.r q.z (y / 250) := fun x y hxy => by
      have hz1 := (Lt.validB_iff.1 hv).2.2.1.1
      exact Lt.Pm.rateD_mono (by rw [hz]; exact hz1) (by omega)
    unfold sumsO
    rw [if_pos hc, if_pos hc2, hcn, hL]
    have h := LeD.run (f := fun x => Lt.Pm.rateD q.r q.z (x / 250)) hcv.ok hK0 hf (cookL bath n cold cooling) (cookL bath n cold cooling) _ _ rfl (fun i a c => Int.le_refl _) hop hop (dish0_tick (f := fun x => Lt.Pm.rateD q.r q.z (x / 250)) hcv.ok hK0 ho hob ht)
    exact h.low hcv.ok
  · rw [sumsO_no hc, sumsO_no (by rw [← hch]; exact hc)]
    exact Int.le_refl _

set_option maxRecDepth 20000 in
set_option maxHeartbeats 2000000 in
theorem small04_any (r l a b k a2 b2 : Int) (w : World) (a0 : Option Addr) (n cap : Nat) (hn : n ≤ maxLen) :
    Calls Tryz.prog 9 #[.agg #[.int .i64 r, .int .i64 l, .int .i64 a, .int .i64 b, .int .i64 k, .int .i64 a2, .int .i64 b2], .slice a0 n cap] w fun e w' => e = .returned (.bool (smallB r l n 80)) ∧ Below w.heap.size w w' := by
  unfold maxLen at hn
  cases h1 : decide (r ≤ 3)
  · have HE := hid (show smallB r l n 80 = false by unfold smallB; rw [h1]; rfl)
    go_enter Tryz.func9, Tryz.ntmps9
    go_wp2
    go_ret
    exact ⟨ret_bool HE.out.symm, (Below.refl _ _).alloc (Nat.le_refl _) _⟩
  cases h2 : decide (l ≤ 4)
  · have HE := hid (show smallB r l n 80 = false by unfold smallB; rw [h1, h2]; rfl)
    go_enter Tryz.func9, Tryz.ntmps9
    go_wp2
    go_ret
    exact ⟨ret_bool HE.out.symm, (Below.refl _ _).alloc (Nat.le_refl _) _⟩
  · have HE := hid (show smallB r l n 80 = decide ((n : Int) ≤ 80) by unfold smallB; rw [h1, h2]; simp; omega)
    go_enter Tryz.func9, Tryz.ntmps9
    go_wp2
    go_ret
    exact ⟨ret_bool HE.out.symm, (Below.refl _ _).alloc (Nat.le_refl _) _⟩
end Go.Proofs.YtedfajokiblfhaaGreat
