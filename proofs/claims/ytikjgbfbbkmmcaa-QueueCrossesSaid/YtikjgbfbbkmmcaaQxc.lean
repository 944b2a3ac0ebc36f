/- The reference's Clean, Wrong, Inside: contracts. -/
import Derived.Test.YtikjgbfbbkmmcaaQxb
import Derived.Test.YtikjgbfbbkmmcaaQwd
namespace Go.Proofs.Ytikjgbfbbkmmcaa
open Go.RowKit

/-- What Inside says. -/
def insE (l : List Int) : Int := if (crsK l l.length).isSome then 0 else 9
def IdP (l : List Int) (w : World) (e : Ending) (w' : World) : Prop := ∃ u, e = .returned (.tuple #[u, .int .i64 (insE l)]) ∧ RowE encI w' u ((crsK l l.length).getD []) ∧ Below w.heap.size w w'
theorem idp_none {l : List Int} (h : crsK l l.length = none) {w w' : World} (hb : Below w.heap.size w w') : IdP l w (.returned (.tuple #[.slice none 0 0, .int .i64 9])) w' := by
  refine ⟨.slice none 0 0, ?_, ?_, hb⟩
  · unfold insE; rw [h]; rfl
  · rw [h]; exact rowE_nil _ _ _ _ (by unfold maxLen; omega)
theorem idp_some {l s : List Int} (h : crsK l l.length = some s) {w w' : World} {u : Value} (hu : RowE encI w' u s) (hb : Below w.heap.size w w') : IdP l w (.returned (.tuple #[u, .int .i64 0])) w' := by
  refine ⟨u, ?_, ?_, hb⟩
  · unfold insE; rw [h]; rfl
  · rw [h]; exact hu
set_option maxRecDepth 20000 in
theorem xclean_any (v : Value) (l : List Int) (w : World) (hr : RowI w v l) (hb : ∀ x ∈ l, -9223372036854775808 ≤ x ∧ x ≤ 9223372036854775807) (hf : l.length ≤ 100) : Calls Try.prog 33 #[v] w fun e w' => e = .returned (.bool (clnQ l)) ∧ Below w.heap.size w w' := by
  have HI := hid (xinside_any v l l.length w hr hb hf (Nat.le_refl _))
  obtain ⟨va, vc, rfl⟩ := hr.shape
  cases hc : crsK l l.length with
  | none =>
    have HE := hid (show clnQ l = false by unfold clnQ; rw [hc]; rfl)
    unfold InsP at HI
    rw [hc] at HI
    generalize l.length = n at *
    clear hr hb hc
    go_enter Try.func33, Try.ntmps33
    go_wp2_with fail
    refine HI.out.mono ?_
    rintro e w1 ⟨u, rfl, hu, hb1⟩
    have HB1 := hid hb1
    clear hu hb1 HI
    go_wp2
    go_ret
    exact ⟨ret_bool HE.out.symm, HB1.out⟩
  | some s =>
    have HE := hid (show clnQ l = ((s.length : Int) == 0) by
      unfold clnQ
      rw [hc]
      cases s with
      | nil => simp
      | cons a s => simp; omega)
    unfold InsP at HI
    rw [hc] at HI
    generalize l.length = n at *
    clear hr hb hc
    go_enter Try.func33, Try.ntmps33
    go_wp2_with fail
    refine HI.out.mono ?_
    rintro e w1 ⟨u, rfl, hu, hb1⟩
    have HB1 := hid hb1
    obtain ⟨ua, uc, rfl⟩ := hu.shape
    simp only [Option.getD_some, Option.isSome_some]
    clear hu hb1 HI
    go_wp2
    go_ret
    exact ⟨ret_bool HE.out.symm, HB1.out⟩
set_option maxRecDepth 20000 in
set_option maxHeartbeats 4000000 in
theorem xwrong_any (v : Value) (l : List Int) (w : World) (hr : RowI w v l) (hb : ∀ x ∈ l, -9223372036854775808 ≤ x ∧ x ≤ 9223372036854775807) (hf : l.length ≤ 100) : Calls Try.prog 35 #[v] w fun e w' => e = .returned (.int .i64 (wrgK l)) ∧ Below w.heap.size w w' := by
  have HI := hid (fun (w1 : World) (g : Below w.heap.size w w1) (m : Nat) (hm : m ≤ l.length) => xinside_any v l m w1 (hr.keep g) hb hf hm)
  have HWA := hid (fun (k : Nat) (s : List Int) => wrgK_at (l := l) (k := k) (s := s))
  have HWN := hid (fun (s : List Int) => wrgK_no (l := l) (s := s))
  obtain ⟨va, vc, rfl⟩ := hr.shape
  obtain ⟨n, hn⟩ : ∃ n, n = l.length := ⟨_, rfl⟩
  rw [← hn] at hf HI HWA HWN ⊢
  clear hr hb hn
  go_enter Try.func35, Try.ntmps35
  go_wp2
  go_loopw [3] (fun t wr => ∃ (k : Nat) (s : List Int), k ≤ n ∧ t = .int .i64 ((k : Int) + 1) ∧ Hid (crsK l k = some s) ∧ Hid (Below w.heap.size w wr)) (fun t _ => n + 1 - (intOf t).toNat)
  case atStart => exact ⟨0, [], Nat.zero_le _, rfl, rfl, Below.refl _ _⟩
  case round =>
    obtain ⟨k, s, hk, rfl, hC, hB⟩ := hrel
    by_cases hlt : k < n
    · have hlt' : (k : Int) + 1 ≤ n := by omega
      have HLT := hid hlt
      have HX := hid (HI.out _ hB.out (k + 1) hlt)
      rw [show ((k + 1 : Nat) : Int) = (k : Int) + 1 by omega] at HX
      cases hc : crsK l (k + 1) with
      | none =>
        have HE := hid (HWA.out k s hlt hC.out hc)
        unfold InsP at HX
        rw [hc] at HX
        clear hc hlt hk
        go_wp2_with fail
        refine HX.out.mono ?_
        rintro e w1 ⟨u, rfl, hu, hb1⟩
        have HB1 := hid (bstep hB.out hB.out.size hb1)
        clear hu hb1 HX
        go_wp2
        go_ret
        exact ⟨by rw [HE.out]; go_num, HB1.out⟩
      | some s2 =>
        have HC2 := hid hc
        unfold InsP at HX
        rw [hc] at HX
        clear hc hlt hk
        go_wp2_with fail
        refine HX.out.mono ?_
        rintro e w1 ⟨u, rfl, hu, hb1⟩
        have HB1 := hid (bstep hB.out hB.out.size hb1)
        clear hu hb1 HX
        go_wp2
        go_roundw
        case rel => exact ⟨k + 1, s2, HLT.out, by go_num, HC2, HB1⟩
        case measure => have := HLT.out; simp [intOf]; omega
    · obtain rfl : n = k := by omega
      have hlt' : ¬ (n : Int) + 1 ≤ n := by omega
      have HE := hid (HWN.out s hC.out)
      clear hlt hk
      go_wp2
      go_ret
      exact ⟨by rw [HE.out]; rfl, hB.out⟩
set_option maxRecDepth 20000 in
theorem xinsides_any (v : Value) (l : List Int) (w : World) (hr : RowI w v l) (hb : ∀ x ∈ l, -9223372036854775808 ≤ x ∧ x ≤ 9223372036854775807) (hf : l.length ≤ 100) : Calls Try.prog 30 #[v] w (IdP l w) := by
  have HI := hid (xinside_any v l l.length w hr hb hf (Nat.le_refl _))
  obtain ⟨va, vc, rfl⟩ := hr.shape
  cases hc : crsK l l.length with
  | none =>
    have HE := hid (fun (w' : World) => idp_none hc (w := w) (w' := w'))
    unfold InsP at HI
    rw [hc] at HI
    generalize l.length = n at *
    clear hr hb hc
    go_enter Try.func30, Try.ntmps30
    go_wp2_with fail
    refine HI.out.mono ?_
    rintro e w1 ⟨u, rfl, hu, hb1⟩
    have HB1 := hid hb1
    clear hu hb1 HI
    go_wp2
    go_ret2
    exact HE.out _ HB1.out
  | some s =>
    have HE := hid (fun (w' : World) (u : Value) => idp_some hc (w := w) (w' := w') (u := u))
    unfold InsP at HI
    rw [hc] at HI
    generalize l.length = n at *
    clear hr hb hc
    go_enter Try.func30, Try.ntmps30
    go_wp2_with fail
    refine HI.out.mono ?_
    rintro e w1 ⟨u, rfl, hu, hb1⟩
    have HB1 := hid hb1
    have HU := hid hu
    clear hu hb1 HI
    go_wp2
    go_ret2
    exact HE.out _ _ HU.out HB1.out
end Go.Proofs.Ytikjgbfbbkmmcaa
