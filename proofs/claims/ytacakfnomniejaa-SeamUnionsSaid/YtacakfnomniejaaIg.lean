/- Walk of the law's raw: contract. -/
import Derived.Test.YtacakfnomniejaaIf
import Derived.BigRegion
namespace Go.Proofs.Ytacakfnomniejaa
open Go.RowKit

/-- A stretch near enough. -/
def okP (p : Pr) : Bool := decide (max p.x p.y ≤ 1000000000000000) && decide (-1000000000000000 ≤ min p.x p.y)
def rawB (l : List Pr) : Bool := decide (l.length ≤ 300) && l.all okP
theorem rawB_bad {l : List Pr} {k : Nat} (h : k < l.length) (g : okP l[k] = false) : rawB l = false := by
  unfold rawB
  rw [Bool.and_eq_false_iff]
  right
  rw [List.all_eq_false]
  exact ⟨l[k], List.getElem_mem h, by rw [g]; simp⟩
theorem rawB_end {l : List Pr} (h : (l.take l.length).all okP = true) : rawB l = decide (l.length ≤ 300) := by
  unfold rawB
  rw [List.take_length] at h
  rw [h, Bool.and_true]
theorem all_take {l : List Pr} {k : Nat} (h : k < l.length) (g : (l.take k).all okP = true) (g2 : okP l[k] = true) : (l.take (k + 1)).all okP = true := by
  rw [List.take_succ_eq_append_getElem h, List.all_append, g]
  simp [g2]
theorem rawB_iff {l : List Pr} : rawB l = true ↔ l.length ≤ 300 ∧ RawL l := by
  unfold rawB RawL
  simp only [Bool.and_eq_true, decide_eq_true_iff, List.all_eq_true, okP]
  constructor
  · rintro ⟨h1, h2⟩
    refine ⟨h1, fun p hp => ?_⟩
    have := h2 p hp
    omega
  · rintro ⟨h1, h2⟩
    refine ⟨h1, fun p hp => ?_⟩
    have := h2 p hp
    omega
set_option maxRecDepth 20000 in
set_option maxHeartbeats 4000000 in
theorem raw_any (v : Value) (l : List Pr) (w : World) (hr : RowX w v l) : Calls Try.prog 30 #[v] w fun e w' => e = .returned (.bool (rawB l)) ∧ Below w.heap.size w w' := by
  have HR := hid (fun w1 (g : Below w.heap.size w w1) => hr.keep g)
  have hm := hr.most
  unfold maxLen at hm
  obtain ⟨va, vc, rfl⟩ := hr.shape
  obtain ⟨n, hn⟩ : ∃ n, n = l.length := ⟨_, rfl⟩
  have HN := hid hn
  rw [← hn] at hm HR ⊢
  clear hr hn
  go_enter Try.func30, Try.ntmps30
  go_wp2
  go_loopw [3] (fun q wr => ∃ k : Nat, k ≤ n ∧ q = .int .i64 (k : Int) ∧ Hid ((l.take k).all okP = true) ∧ Hid (Below w.heap.size w wr)) (fun q _ => n - (intOf q).toNat)
  case atStart => exact ⟨0, Nat.zero_le _, rfl, rfl, Below.refl _ _⟩
  case round =>
    obtain ⟨k, hk, rfl, hok, hB⟩ := hrel
    by_cases hlt : k < n
    · have hlt' : (k : Int) < n := by omega
      have hkl : k < l.length := by rw [← HN.out]; exact hlt
      obtain ⟨b, o, hva, c0, c1⟩ := (HR.out _ hB.out).get hkl
      subst hva
      have HY := hid (fun h => rawB_bad hkl h)
      have HT := hid (fun h => all_take hkl hok.out h)
      generalize l[k] = p at *
      obtain ⟨px, py⟩ := p
      simp only at c0 c1
      have HLT := hid hlt
      clear hlt hkl
      have HOK := hid (show okP ⟨px, py⟩ = (decide (max px py ≤ 1000000000000000) && decide (-1000000000000000 ≤ min px py)) from rfl)
      by_cases h1 : max px py ≤ 1000000000000000
      · by_cases h2 : -1000000000000000 ≤ min px py
        · have HE := hid (HT.out (by rw [HOK.out, decide_eq_true h1, decide_eq_true h2]; rfl))
          have g1 : decide (1000000000000000 < max px py) = false := decide_eq_false (by omega)
          have g2 : decide (min px py < -1000000000000000) = false := decide_eq_false (by omega)
          clear h1 h2
          go_wp2
          go_quiet (fail)
          have HB2 := hid (bdrewN (n := nq) hB.out)
          go_wp2
          go_roundw
          case rel => exact ⟨k + 1, HLT.out, by go_num, HE, HB2⟩
          case measure => have := HLT.out; simp [intOf]; omega
        · have HE := hid (HY.out (by rw [HOK.out, decide_eq_false h2, Bool.and_false]))
          have g1 : decide (1000000000000000 < max px py) = false := decide_eq_false (by omega)
          have g2 : decide (min px py < -1000000000000000) = true := decide_eq_true (by omega)
          clear h1 h2
          go_wp2
          go_quiet (fail)
          have HB2 := hid (bdrewN (n := nq) hB.out)
          go_wp2
          go_ret
          exact ⟨ret_bool HE.out.symm, HB2.out⟩
      · have HE := hid (HY.out (by rw [HOK.out, decide_eq_false h1, Bool.false_and]))
        have g1 : decide (1000000000000000 < max px py) = true := decide_eq_true (by omega)
        clear h1
        go_wp2
        go_quiet (fail)
        have HB2 := hid (bdrewN (n := nq) hB.out)
        go_wp2
        go_ret
        exact ⟨ret_bool HE.out.symm, HB2.out⟩
    · obtain rfl : k = n := by omega
      have HE := hid (rawB_end (l := l) (by rw [← HN.out]; exact hok.out))
      have HL := hid (show decide ((k : Int) ≤ 300) = decide (l.length ≤ 300) by rw [HN.out]; exact decide_eq_decide.2 (by omega))
      go_wp2
      go_ret
      exact ⟨ret_bool (by rw [HE.out, ← HL.out]), hB.out⟩
end Go.Proofs.Ytacakfnomniejaa
