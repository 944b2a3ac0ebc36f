/- law04's awake: contract. -/
import Derived.Test.YtedfajokiblfhaaPdp
namespace Go.Proofs.Ytedfajokiblfhaa
open Go.RowKit Go.Lib

def cn0 : Cn := ⟨1, 1, 100, 50, 0, 0, 0⟩
theorem cn0_V : cn0.V := by unfold Cn.V; decide
def fk0 : Int → Nat := fun x => Lt.Pm.rateD kl0.r kl0.z (x / 250)
theorem fk0_at : fk0 121000 = 1000000 := aw4_rate
theorem aw_af (n : Nat) (hn : n ≤ 2000) : afN cn0 fk0 (dish0 cn0 121000) 121000 n = (evB cn0 121000, [n * 1000000]) := by
  induction n with
  | zero => rw [afN_zero]; rfl
  | succ n ih =>
    rw [afN_succ, ih (by omega)]
    have he := tickS_even cn0_V.ok 121000
    show (tickS cn0 (evB cn0 121000) 121000, addD fk0 [n * 1000000] (tickS cn0 (evB cn0 121000) 121000).1) = _
    rw [he]
    show (evB cn0 121000, [Lt.cutN (n * 1000000) (fk0 121000)]) = _
    rw [fk0_at]
    have : Lt.cutN (n * 1000000) 1000000 = (n + 1) * 1000000 := by unfold Lt.cutN; omega
    rw [this]
theorem minA_one (x : Int) : minA [x] = x := by
  have := minA_mem (ds := [x]) (by simp)
  simpa using this
theorem aw_tst (n : Nat) (hn : n ≤ 2000) : tstC cn0 fk0 (dish0 cn0 121000) 156000000 121000 0 0 n = decide (156 ≤ n) := by
  unfold tstC enD
  rw [afN_zero, aw_af n hn]
  show decide (156000000 ≤ minA [((n * 1000000 : Nat) : Int)]) = _
  rw [minA_one]
  by_cases h : 156 ≤ n
  · rw [decide_eq_true h, decide_eq_true (by omega)]
  · rw [decide_eq_false h, decide_eq_false (by omega)]
theorem aw_with (n : Nat) (hn : n ≤ 2000) : withF 1 1 100 50 0 0 0 kl0 121000 121000 0 0 (n : Int) = n * 1000000 := by
  have hck : cookB 121000 (n : Int) 0 0 = true := by
    unfold cookB
    rw [ticksB_two.2 ⟨by omega, by omega, by omega⟩]
    rfl
  have hL : cookL 121000 (n : Int) 0 0 = List.replicate n 121000 := by
    unfold cookL
    rw [if_pos hck, Int.toNat_natCast]
    simp
  have hch : chk4 (canB 1 1 100 50 0 0 0) kl0.vB 121000 (List.replicate n 121000) = 0 := by
    refine chk4_ok (by decide +kernel) ?_ (by rw [List.length_replicate]; omega)
    have : okL (List.replicate n 121000) = true := List.all_eq_true.2 fun x hx => by rw [List.eq_of_mem_replicate hx]; rfl
    rw [this]; rfl
  unfold withF
  rw [hL]
  have e0 : cnOf 1 1 100 50 0 0 0 = cn0 := rfl
  have hs : sumsO 1 1 100 50 0 0 0 kl0 121000 (List.replicate n 121000) = [n * 1000000] := by
    unfold sumsO
    rw [if_pos hch, e0]
    exact congrArg Prod.snd (aw_af n hn)
  rw [hs]
  unfold lowO
  rw [if_neg (by simp)]
  show minA [((n * 1000000 : Nat) : Int)] = _
  rw [minA_one]
  omega
theorem aw_least (W : World) : Calls Try.prog 28 #[.agg #[.int .i64 1, .int .i64 1, .int .i64 100, .int .i64 50, .int .i64 0, .int .i64 0, .int .i64 0], .agg #[.string ⟨#[97]⟩, .int .i64 484, .int .i64 40, .int .i64 13, .int .i64 12], .int .i64 121000, .int .i64 121000, .int .i64 0, .int .i64 0] W
    fun e w' => e = .returned (.tuple #[.int .i64 156, .int .i64 156000000, .int .i64 155000000, .int .i64 0]) ∧ Below W.heap.size W w' := by
  have hG : Good cn0 (dish0 cn0 121000) := dish0_good (by decide)
  have h := least_ok cn0 kl0 121000 121000 0 0 2000 40 W rfl (by decide) cn0_V (by decide +kernel) (by decide) (by decide) (by decide) (by omega) (fun _ j n hj hn hT => by
    have h1 := aw_tst j (by omega)
    have h2 := aw_tst n hn
    have hT' : tstC cn0 fk0 (dish0 cn0 121000) 156000000 121000 0 0 j = true := hT
    show tstC cn0 fk0 (dish0 cn0 121000) 156000000 121000 0 0 n = true
    rw [h1] at hT'
    rw [h2]
    rw [decide_eq_true_eq] at hT' ⊢
    omega)
  refine Calls.mono h ?_
  rintro e w' ⟨hb, ⟨n, hn, h1, h2, rfl⟩ | ⟨h1, rfl⟩⟩
  · have h1' : tstC cn0 fk0 (dish0 cn0 121000) 156000000 121000 0 0 n = true := h1
    rw [aw_tst n hn, decide_eq_true_eq] at h1'
    have hn2 : n = 156 := by
      by_cases h : n ≤ 156
      · omega
      · have h3 : tstC cn0 fk0 (dish0 cn0 121000) 156000000 121000 0 0 156 = false := h2 156 (by omega)
        rw [aw_tst 156 (by omega)] at h3
        cases h3
    subst hn2
    refine ⟨?_, hb⟩
    have w1 := aw_with 156 (by omega)
    have w2 := aw_with 155 (by omega)
    have w1' : withF (cn0.R : Int) cn0.L cn0.A cn0.B cn0.K cn0.A2 cn0.B2 kl0 121000 121000 0 (0 : Nat) (156 : Nat) = 156000000 := w1
    have w2' : withF (cn0.R : Int) cn0.L cn0.A cn0.B cn0.K cn0.A2 cn0.B2 kl0 121000 121000 0 (0 : Nat) (((156 : Nat) : Int) - 1) = 155000000 := w2
    rw [w1', if_neg (by decide), w2']
    rfl
  · have h3 : tstC cn0 fk0 (dish0 cn0 121000) 156000000 121000 0 0 156 = false := h1 156 (by omega)
    rw [aw_tst 156 (by omega)] at h3
    cases h3
set_option maxRecDepth 20000 in
set_option maxHeartbeats 4000000 in
theorem lawake_any (w : World) : Calls Try.prog 10 #[] w fun e w' => e = .returned (.bool true) ∧ Below w.heap.size w w' := by
  have HL := hid aw_least
  go_enter Try.func10, Try.ntmps10
  have HX := hid (box2_start (w := w) (A := #[.int .i64 1, .int .i64 1, .int .i64 100, .int .i64 50, .int .i64 0, .int .i64 0, .int .i64 0]) (B := #[.string ⟨#[97]⟩, .int .i64 484, .int .i64 40, .int .i64 13, .int .i64 12]) (T := 23) (T' := 25) (fz := (0, 0)) (fz' := (0, 0)))
  go_wp2_with fail
  refine (HL.out _).mono ?_
  rintro e w1 ⟨rfl, hb⟩
  have HX := hid (HX.out.keep hb)
  clear hb
  go_wp2_with fail
  go_ret
  exact ⟨rfl, HX.out.low⟩
end Go.Proofs.Ytedfajokiblfhaa
