/- Plain facts: what is read of a printed code. -/
import Derived.Test.YtmhkgpcnefcjaaaDoorCe
namespace Go.Proofs.YtmhkgpcnefcjaaaDoor
open Go.RowKit

theorem srch_some {D u n : Int} : ∀ {k : Nat} {z : Int}, srch D u n k = some z → ∃ j : Nat, j < k ∧ z = 2000 + (j : Int) ∧ okY D u n z = true ∧ ∀ i : Nat, j < i → i < k → okY D u n (2000 + (i : Int)) = false
  | 0, _, h => by cases h
  | k + 1, z, h => by
    by_cases g : okY D u n (2000 + (k : Int)) = true
    · simp only [srch, g, if_true, Option.some.injEq] at h
      subst h
      exact ⟨k, by omega, rfl, g, fun i h1 h2 => by omega⟩
    · simp only [srch, g] at h
      obtain ⟨j, h1, h2, h3, h4⟩ := srch_some (k := k) h
      refine ⟨j, by omega, h2, h3, fun i h5 h6 => ?_⟩
      by_cases e : i = k
      · subst e; simpa using g
      · exact h4 i h5 (by omega)
theorem srch_none {D u n : Int} : ∀ {k : Nat}, srch D u n k = none → ∀ i : Nat, i < k → okY D u n (2000 + (i : Int)) = false
  | 0, _, _, h => by omega
  | k + 1, h, i, hi => by
    by_cases g : okY D u n (2000 + (k : Int)) = true
    · simp [srch, g] at h
    · simp only [srch, g] at h
      by_cases e : i = k
      · subst e; simpa using g
      · exact srch_none (k := k) h i (by omega)
theorem okY_iff {D u n z : Int} : okY D u n z = true ↔ z % 10 = D ∧ u < ylen z ∧ soY z + u ≤ n := by
  unfold okY; simp [and_assoc]
theorem soY_ten {y z : Int} (h : 2000 ≤ y) (hz : y + 10 ≤ z) : soY y + 3651 ≤ soY z := by
  have h1 := soY_le (y := y + 10) (z := z) (by omega) hz
  have h2 : soY y + 3651 ≤ soY (y + 10) := by unfold soY; omega
  omega
/-- What is read of the code of a day dy of the year y, near a day n of the year y0. -/
theorem latest_facts {dy y n y0 : Int} (hy : IsYear dy y) (h0 : IsYear n y0) (R : Option Int) (hR : srch (y % 10) (dy - soY y) n (y0 - 1999).toNat = R) :
    (dy ≤ n → n < dy + 3651 → R = some y) ∧ (R = none → n < dy) ∧ (∀ z, R = some z → z % 10 = y % 10 ∧ IsYear (soY z + (dy - soY y)) z ∧ soY z + (dy - soY y) ≤ n) := by
  obtain ⟨y1, y2, y3, y4⟩ := hy
  obtain ⟨n1, n2, n3, n4⟩ := h0
  have hs := soY_succ y1
  have hyy : dy ≤ n → y ≤ y0 := fun hd => by
    by_cases g : y ≤ y0
    · exact g
    · have := soY_le (y := y0 + 1) (z := y) (by omega) (by omega)
      omega
  have hok : dy ≤ n → okY (y % 10) (dy - soY y) n y = true := fun hd => okY_iff.2 ⟨rfl, by omega, by omega⟩
  have hnn : R = none → n < dy := fun hr => by
    by_cases g : n < dy
    · exact g
    · have hd : dy ≤ n := by omega
      have h1 := srch_none (hR.trans hr) (y - 2000).toNat (by have := hyy hd; omega)
      have e : 2000 + (((y - 2000).toNat : Nat) : Int) = y := by omega
      rw [e, hok hd] at h1
      cases h1
  refine ⟨fun hd hl => ?_, hnn, fun z hz => ?_⟩
  · cases hr : R with
    | none => have := hnn hr; omega
    | some z =>
      obtain ⟨j, hj, ez, hz, hlast⟩ := srch_some (hR.trans hr)
      obtain ⟨q1, q2, q3⟩ := okY_iff.1 hz
      have hyle := hyy hd
      have hge : y ≤ z := by
        by_cases g : y ≤ z
        · exact g
        · have h1 := hlast (y - 2000).toNat (by omega) (by omega)
          have e : 2000 + (((y - 2000).toNat : Nat) : Int) = y := by omega
          rw [e, hok hd] at h1
          cases h1
      by_cases e : z = y
      · rw [e]
      · exfalso
        have := soY_ten y1 (z := z) (by omega)
        omega
  · obtain ⟨j, hj, ez, hzk, _⟩ := srch_some (hR.trans hz)
    obtain ⟨q1, q2, q3⟩ := okY_iff.1 hzk
    have z1 : 2000 ≤ z := by omega
    have hsz := soY_succ z1
    exact ⟨q1, ⟨z1, by omega, by omega, by omega⟩, q3⟩
theorem one_byte {s : ByteArray} (h : s.size = 1) : ∃ c, s = ⟨#[c]⟩ := by
  obtain ⟨⟨l⟩⟩ := s
  match l, h with
  | [c], _ => exact ⟨c, rfl⟩
theorem two_bytes {s : ByteArray} (h : s.size = 2) : ∃ c d, s = ⟨#[c, d]⟩ := by
  obtain ⟨⟨l⟩⟩ := s
  match l, h with
  | [c, d], _ => exact ⟨c, d, rfl⟩
theorem least_b (p : Nat → Bool) : ∀ N : Nat, (∃ v, v < N ∧ p v = true) → ∃ v, v < N ∧ (∀ j < v, p j = false) ∧ p v = true
  | 0, ⟨_, h, _⟩ => by omega
  | N + 1, ⟨v, h, hv⟩ => by
    by_cases g : ∃ v, v < N ∧ p v = true
    · obtain ⟨u, h1, h2, h3⟩ := least_b p N g
      exact ⟨u, by omega, h2, h3⟩
    · have e : v = N := by
        by_cases e : v = N
        · exact e
        · exact absurd ⟨v, by omega, hv⟩ g
      subst e
      refine ⟨v, by omega, fun j hj => ?_, hv⟩
      cases hp : p j
      · rfl
      · exact absurd ⟨j, hj, hp⟩ g
theorem mv_lt {l : List Int} (hl : l.length = 9) : mv l 8 < 31 ∧ soundB (l.set 8 (mv l 8 : Int)) = true := by
  obtain ⟨u, h1, h2, h3⟩ := least_b (fun v => soundB (l.set 8 (v : Int))) 31 (mend_ex hl (p := 8) (by omega))
  rw [mv_of h1 h2 h3]
  exact ⟨h1, h3⟩
/-- A printed code: its signs, and what they say. -/
theorem code_facts (pl pr ln : ByteArray) (dy pe : Int) (y : Int) (h : stampB pl pr ln dy pe = true) (hy : IsYear dy y) :
    nineB (printS pl pr ln dy pe y) = true ∧ soundS (printS pl pr ln dy pe y) = true ∧ (vals (printS pl pr ln dy pe y)).getD 3 0 = y % 10 ∧
    31 * (vals (printS pl pr ln dy pe y)).getD 4 0 + (vals (printS pl pr ln dy pe y)).getD 5 0 = dy - soY y ∧ (vals (printS pl pr ln dy pe y)).getD 7 0 = pe ∧
    (printS pl pr ln dy pe y).extract 0 1 = pl ∧ (printS pl pr ln dy pe y).extract 1 3 = pr ∧ (printS pl pr ln dy pe y).extract 6 7 = ln := by
  have h9 := pre_ok h hy
  obtain ⟨q1, q2, q3, _, q5⟩ := (stampB_iff ..).1 h
  have hb := year_bd hy
  have y1 := hy.1
  obtain ⟨s1, _⟩ := speltB_iff.1 q1
  obtain ⟨s2, _⟩ := speltB_iff.1 q2
  obtain ⟨s3, _⟩ := speltB_iff.1 q3
  have hpl : pl.size = 1 := by omega
  have hpr : pr.size = 2 := by omega
  have hln : ln.size = 1 := by omega
  have hl9 : (vals (preT pl pr ln (y % 10) ((dy - soY y) / 31) ((dy - soY y) % 31) pe)).length = 9 := by rw [vals_len]; exact (nineB_iff.1 h9).1
  obtain ⟨hv1, hv2⟩ := mv_lt hl9
  have hv : 0 ≤ (mv (vals (preT pl pr ln (y % 10) ((dy - soY y) / 31) ((dy - soY y) % 31) pe)) 8 : Int) ∧ (mv (vals (preT pl pr ln (y % 10) ((dy - soY y) / 31) ((dy - soY y) % 31) pe)) 8 : Int) ≤ 30 := by omega
  have hP : printS pl pr ln dy pe y = P8 pl pr ln (y % 10) ((dy - soY y) / 31) ((dy - soY y) % 31) pe ++ ⟨#[sgn (mv (vals (preT pl pr ln (y % 10) ((dy - soY y) / 31) ((dy - soY y) % 31) pe)) 8 : Int)]⟩ := by
    unfold printS mend
    exact txt_p8 hpl hpr hln hv h9
  have hN := nine_p8 hpl hpr hln hv h9
  have hS := sound_p8 hpl hpr hln hv h9
  rw [hv2] at hS
  rw [hP]
  have hZ : 0 ≤ y % 10 ∧ y % 10 ≤ 30 := by omega
  have hA : 0 ≤ (dy - soY y) / 31 ∧ (dy - soY y) / 31 ≤ 30 := by omega
  have hB : 0 ≤ (dy - soY y) % 31 ∧ (dy - soY y) % 31 ≤ 30 := by omega
  have hAB : 31 * ((dy - soY y) / 31) + (dy - soY y) % 31 = dy - soY y := by omega
  refine ⟨hN, hS, ?_⟩
  clear hN hS hP hv1 hv2 hl9 h9 h
  generalize (mv (vals (preT pl pr ln (y % 10) ((dy - soY y) / 31) ((dy - soY y) % 31) pe)) 8 : Int) = v at hv ⊢
  generalize (dy - soY y) / 31 = A at *
  generalize (dy - soY y) % 31 = B at *
  generalize y % 10 = Z at *
  obtain ⟨c0, rfl⟩ := one_byte hpl
  obtain ⟨c1, c2, rfl⟩ := two_bytes hpr
  obtain ⟨c6, rfl⟩ := one_byte hln
  have hE : P8 ⟨#[c0]⟩ ⟨#[c1, c2]⟩ ⟨#[c6]⟩ Z A B pe ++ ⟨#[sgn v]⟩ = ⟨#[c0, c1, c2, sgn Z, sgn A, sgn B, c6, sgn pe, sgn v]⟩ := rfl
  rw [hE]
  have hV : vals ⟨#[c0, c1, c2, sgn Z, sgn A, sgn B, c6, sgn pe, sgn v]⟩ = [valB c0, valB c1, valB c2, valB (sgn Z), valB (sgn A), valB (sgn B), valB c6, valB (sgn pe), valB (sgn v)] := rfl
  rw [hV, valB_sgn hZ, valB_sgn hA, valB_sgn hB, valB_sgn q5]
  exact ⟨rfl, hAB, rfl, rfl, rfl, rfl⟩
end Go.Proofs.YtmhkgpcnefcjaaaDoor
