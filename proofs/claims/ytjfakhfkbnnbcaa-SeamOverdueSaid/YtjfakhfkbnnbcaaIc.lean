/- Walks of slices.Clone over stretches, Union, Length: contracts. -/
import Derived.Test.YtjfakhfkbnnbcaaIb
import Derived.Laws.AppendOwn
namespace Go.Proofs.Ytjfakhfkbnnbcaa
open Go.RowKit

theorem infoX : (Try.prog.info? 68).map (fun i => (i.zero, i.size, i.bytes)) = some (some (.agg #[.int .i64 0, .int .i64 0]), 2, 16) := by kernel_rfl
theorem infoX_parts : ∃ i, Try.prog.info? 68 = some i ∧ i.zero = some (.agg #[.int .i64 0, .int .i64 0]) ∧ i.size = 2 ∧ i.bytes = 16 := by
  have h := infoX
  cases ho : Try.prog.info? 68 with
  | none => rw [ho] at h; cases h
  | some i =>
    rw [ho] at h
    simp only [Option.map_some, Option.some.injEq, Prod.mk.injEq] at h
    exact ⟨i, rfl, h.1, h.2.1, h.2.2⟩
theorem pvs_one : ∀ (l : List Pr), ∀ u ∈ pvs l, u.oneCell' = true
  | [], u, h => by cases h
  | p :: l, u, h => by
    rcases List.mem_cons.1 h with rfl | h
    · rfl
    · rcases List.mem_cons.1 h with rfl | h
      · rfl
      · exact pvs_one l u h
theorem RowX.cells {w : World} {b o n c : Nat} {l : List Pr} (h : RowX w (.slice (some ⟨b, o, none⟩) n c) l) : ∀ j u, (pvs l)[j]? = some u → w.cell? ((⟨b, o, none⟩ : Addr).add j) = some u := by
  intro j u hu
  have hj : j < l.length * 2 := by have := (List.getElem?_eq_some_iff.1 hu).1; rwa [pvs_len] at this
  have hl : 0 < l.length := by omega
  obtain ⟨a', b', o', cap, hv, h2, h3, h4, h5⟩ := h
  injection hv with e1 e2 e3
  subst e1
  have hne : l ≠ [] := by rintro rfl; simp at hl
  rcases h4 with h4 | h4
  · exact absurd h4 hne
  · injection h4 with h4
    injection h4 with e4 e5
    subst e4 e5
    have hadd : (⟨b, o, none⟩ : Addr).add j = ⟨b, o + j, none⟩ := by unfold Addr.add; split <;> simp_all
    have hk : j / 2 < l.length := by omega
    obtain ⟨c1, c2⟩ := h5 (j / 2) hk
    obtain ⟨p1, p2⟩ := pvs_at l (j / 2) hk
    rw [hadd, ← hu]
    rcases (show j % 2 = 0 ∨ j % 2 = 1 by omega) with g | g
    · rw [show j / 2 * 2 = j by omega] at c1 p1
      rw [c1, p1]
    · rw [Nat.add_assoc, show j / 2 * 2 + 1 = j by omega] at c2
      rw [show j / 2 * 2 + 1 = j by omega] at p2
      rw [c2, p2]
theorem own_empty {W : World} {E n : Nat} {cs : Array Value} (h : cs.size = 0) : (W.alloc (.cells cs E)).ownsRow W.heap.size E n (.slice (some ⟨W.heap.size, 0, none⟩) 0 0) 0 [] :=
  ⟨by simp, .inr ⟨W.heap.size, 0, cs, rfl, Nat.le_refl _, heap_alloc_new W _, Nat.le_refl _, by simp [maxLen], by simpa using h, by simp⟩⟩
set_option maxRecDepth 20000 in
set_option maxHeartbeats 2000000 in
theorem clone_any (v : Value) (l : List Pr) (w : World) (hr : RowX w v l) (hf : l.length ≤ 1000000) : Calls Try.prog 63 #[v] w fun e w' => ∃ u, e = .returned u ∧ OwnX w' w.heap.size 68 u l ∧ Below w.heap.size w w' := by
  obtain ⟨i0, hi, hz0, hz1, hz2⟩ := infoX_parts
  have HR := hid hr
  obtain ⟨va, vc, rfl⟩ := hr.shape
  have hEQ : ∀ (a : Option Addr) (n c : Nat) (w : World), (binOp .eql 28 (.slice a n c) (.slice none 0 0)).run Try.prog w = .ok (.bool a.isNone) w := fun a n c w => Go.Lib.run_eql_slice_nil w _ _ a n c 0 0 Try.underlying28
  rcases va with _ | ⟨b, o, z⟩
  · have hl : l = [] := by
      rcases l with _ | ⟨p, l⟩
      · rfl
      · obtain ⟨b, o, h, _⟩ := hr.get (k := 0) (by simp)
        cases h
    clear hr
    subst hl
    clear hf HR hi hz0 hz1 hz2
    rw [List.length_nil]
    go_enter Try.func63, Try.ntmps63
    go_wp2
    go_ret
    exact ⟨_, rfl, ownX_nil _ _ _, Below.refl _ _⟩
  · have HS : ∀ j u, (pvs l)[j]? = some u → w.cell? ((⟨b, o, z⟩ : Addr).add j) = some u := by
      intro j u hu
      have hl : 0 < l.length := by
        have := (List.getElem?_eq_some_iff.1 hu).1
        rw [pvs_len] at this
        omega
      obtain ⟨b', o', h, _⟩ := hr.get (k := 0) hl
      injection h with h
      injection h with h1 h2 h3
      subst h1 h2 h3
      exact hr.cells j u hu
    have HS := hid HS
    clear hr
    have HA := hid (own_empty (W := w) (E := 68) (n := 2) (cs := #[]) rfl)
    have HB := hid ((Below.refl w.heap.size w).alloc (Nat.le_refl _) (.cells #[] 68))
    have HC := hid (show ∀ j u, (pvs l)[j]? = some u → (w.alloc (.cells #[] 68)).cell? ((⟨b, o, z⟩ : Addr).add j) = some u from fun j u hu => by
      have h := HS.out j u hu
      exact (HB.out.cell (World.block_lt_of_cell? w _ h)).trans h)
    have HF := hid hf
    clear hf
    go_enter Try.func63, Try.ntmps63
    go_wp2_with (at_builtin; refine wpList_append_own _ rfl _ _ 28 rfl w.heap.size 68 i0 (.agg #[.int .i64 0, .int .i64 0]) 2 16 Try.underlying28 hi hz0 hz1 hz2 rfl (by decide) _ _ _ rfl HA.out ⟨b, o, z⟩ l.length vc (pvs l) rfl (pvs_len l) HC.out (pvs_one l) (by have := HF.out; unfold maxLen; omega) (by have := HF.out; omega) (by simp) ?_; intro v1 w3 hown3 hgrow3 _)
    have HO : Hid (OwnX w3 w.heap.size 68 v1 l) := by
      show OwnX _ _ _ _ _
      unfold OwnX
      rw [Nat.zero_add, List.nil_append] at hown3
      exact hown3
    have HW := hid (HB.out.grown hgrow3 (by simp) (fun k hk => by cases hk; exact Nat.le_refl _))
    clear hown3 hgrow3
    go_wp2
    go_ret
    exact ⟨_, rfl, HO.out, HW.out⟩
end Go.Proofs.Ytjfakhfkbnnbcaa
