/- Walks of Clone, SortFunc, Equal over baskets, inOrder: contracts. -/
import Derived.Test.YtikjgbfbbkmmcaaQvp
import Derived.Test.YtikjgbfbbkmmcaaQvs
import Derived.Shelf.SlSortCmp.NoneTotal
import Derived.Maps.AppendAt
import Derived.Laws.StructEq
import Derived.Laws.AppendOwn
namespace Go.Proofs.Ytikjgbfbbkmmcaa
open Go.RowKit

section
variable {α : Type} {C : Enc α}
theorem evs_one : ∀ (l : List α), ∀ u ∈ evs C l, u.oneCell' = true
  | [], u, h => by cases h
  | p :: l, u, h => by
    rcases List.mem_append.1 h with h | h
    · exact C.one p u h
    · exact evs_one l u h
theorem evs_getD [Inhabited α] (h0 : 0 < C.n) {l : List α} {j : Nat} (h : j < l.length * C.n) : (evs C l)[j]? = some ((C.cs l.toArray[j / C.n]!)[j % C.n]!) := by
  have hk : j / C.n < l.length := Nat.div_lt_of_lt_mul (by rw [Nat.mul_comm]; exact h)
  have hr : j % C.n < (C.cs l[j / C.n]).length := by rw [C.len]; exact Nat.mod_lt _ h0
  have e : l.toArray[j / C.n]! = l[j / C.n] := by rw [getElem!_pos _ _ (by simpa using hk)]; simp
  have h1 := evs_at C l (j / C.n) hk (j % C.n) _ (List.getElem?_eq_getElem hr)
  rw [Nat.mul_comm, Nat.div_add_mod] at h1
  rw [h1, e, getElem!_pos (C.cs l[j / C.n]) (j % C.n) hr]
theorem RowE.cells [Inhabited α] (h0 : 0 < C.n) {w : World} {b o n c : Nat} {l : List α} (h : RowE C w (.slice (some ⟨b, o, none⟩) n c) l) : ∀ j u, (evs C l)[j]? = some u → w.cell? ((⟨b, o, none⟩ : Addr).add j) = some u := by
  intro j u hu
  have hj : j < l.length * C.n := by have := (List.getElem?_eq_some_iff.1 hu).1; rwa [evs_len] at this
  have hk : j / C.n < l.length := Nat.div_lt_of_lt_mul (by rw [Nat.mul_comm]; exact hj)
  have hr : j % C.n < (C.cs l[j / C.n]).length := by rw [C.len]; exact Nat.mod_lt _ h0
  obtain ⟨b', o', hv, h5⟩ := h.get hk
  cases hv
  have h1 := evs_at C l (j / C.n) hk (j % C.n) _ (List.getElem?_eq_getElem hr)
  rw [Nat.mul_comm, Nat.div_add_mod] at h1
  rw [h1] at hu
  have hadd : (⟨b, o, none⟩ : Addr).add j = ⟨b, o + j, none⟩ := by unfold Addr.add; split <;> simp_all
  rw [hadd, ← hu]
  have h6 := h5 (j % C.n) _ (List.getElem?_eq_getElem hr)
  rwa [Nat.add_assoc, Nat.mul_comm, Nat.div_add_mod] at h6
theorem OwnE.holds [Inhabited α] (h0 : 0 < C.n) {w : World} {base E g cap : Nat} {l : List α} (h : OwnE C w base E (.slice (some ⟨g, 0, none⟩) l.length cap) l) : Go.Sort.HoldsK C.cs C.n w g 0 l.toArray := by
  intro j hj
  have hj' : j < l.length * C.n := by simpa using hj
  unfold OwnE at h
  refine ⟨?_, ?_⟩
  · rw [Nat.zero_add, h.cellAt j (by omega), evs_getD h0 hj', Go.Sort.get_flatK _ _ _ _ (by simpa using hj')]; rfl
  · rw [Nat.zero_add]; exact h.frozenAt j
theorem holds_rowE [Inhabited α] (h0 : 0 < C.n) {W : World} {g cap : Nat} {l : List α} (h : Go.Sort.HoldsK C.cs C.n W g 0 l.toArray) (h1 : l.length ≤ cap) (h2 : cap ≤ maxLen) : RowE C W (.slice (some ⟨g, 0, none⟩) l.length cap) l := by
  refine ⟨some ⟨g, 0, none⟩, g, 0, cap, rfl, h1, h2, .inr rfl, fun k hk r x hx => ?_⟩
  have hr : r < C.n := by have := (List.getElem?_eq_some_iff.1 hx).1; rwa [C.len] at this
  have hlt : k * C.n + r < l.length * C.n := by
    have : (k + 1) * C.n ≤ l.length * C.n := Nat.mul_le_mul_right _ hk
    rw [Nat.succ_mul] at this
    omega
  have h3 := (h (k * C.n + r) (by simpa using hlt)).1
  rw [Go.Sort.get_flatK _ _ _ _ (by simpa using hlt), Nat.zero_add] at h3
  have h4 := evs_getD h0 (l := l) hlt
  rw [evs_at C l k hk r x hx] at h4
  rw [Nat.zero_add]
  exact h3.trans h4.symm
theorem below_sortE [Inhabited α] {w W : World} {n g : Nat} {d : Array α} {os : Array Obj} (h : Below w.heap.size w W) (hg : w.heap.size ≤ g) : Below w.heap.size w (sortWorldK C.cs C.n W g 0 n d os) := by
  unfold sortWorldK Go.Sort.putRowK
  refine ⟨h.os, h.tape, h.output, ?_, fun k hk => ?_⟩
  · rw [Go.Sort.size_grow, Go.Sort.size_putRow, Go.Sort.heap_ahead]
    exact Nat.le_trans h.size (Nat.le_add_right _ _)
  · have hk2 : k < W.heap.size := Nat.lt_of_lt_of_le hk h.size
    rw [Go.Sort.heap_grow_old _ _ (by rw [Go.Sort.size_putRow, Go.Sort.heap_ahead]; exact hk2)]
    unfold Go.Sort.putRow Go.Sort.mapBlock
    simp only [Go.Sort.heap_ahead, Array.getElem?_modify]
    rw [if_neg (by omega)]
    exact h.block k hk
theorem holds_sortE [Inhabited α] {W : World} {n g : Nat} {l ss : List α} {os : Array Obj} (h : Go.Sort.HoldsK C.cs C.n W g 0 l.toArray) (hs : ss.length = l.length) (hg : g < W.heap.size) : Go.Sort.HoldsK C.cs C.n (sortWorldK C.cs C.n W g 0 n ss.toArray os) g 0 ss.toArray := by
  unfold sortWorldK Go.Sort.putRowK Go.Sort.HoldsK
  exact Go.Sort.holds_grow _ _ _ _ _ _ (by rw [Go.Sort.size_putRow, Go.Sort.heap_ahead]; exact hg) (Go.Sort.holds_putRow _ _ _ _ (Go.Sort.flatK C.cs C.n l.toArray) _ (Go.Sort.holds_ahead _ _ _ _ _ _ h) (by simp [hs]))
theorem own_emptyE {W : World} {E n : Nat} {cs : Array Value} (h : cs.size = 0) : (W.alloc (.cells cs E)).ownsRow W.heap.size E n (.slice (some ⟨W.heap.size, 0, none⟩) 0 0) 0 [] :=
  ⟨by simp, .inr ⟨W.heap.size, 0, cs, rfl, Nat.le_refl _, heap_alloc_new W _, Nat.le_refl _, by simp [maxLen], by simpa using h, by simp⟩⟩
end
theorem infoBsk : ∃ i, Try.prog.info? 55 = some i ∧ i.zero = some (.agg #[.int .i64 0, .int .i64 0, .string ⟨#[]⟩, .int .i64 0]) ∧ i.size = 4 ∧ i.bytes = 40 := by
  have h : (Try.prog.info? 55).map (fun i => (i.zero, i.size, i.bytes)) = some (some (.agg #[.int .i64 0, .int .i64 0, .string ⟨#[]⟩, .int .i64 0]), 4, 40) := by kernel_rfl
  cases ho : Try.prog.info? 55 with
  | none => rw [ho] at h; cases h
  | some i =>
    rw [ho] at h
    simp only [Option.map_some, Option.some.injEq, Prod.mk.injEq] at h
    exact ⟨i, rfl, h.1, h.2.1, h.2.2⟩
set_option maxRecDepth 20000 in
set_option maxHeartbeats 2000000 in
theorem cloneB_any (v : Value) (l : List Bsk) (w : World) (hr : RowE encB w v l) (hf : l.length ≤ 1000000) : Calls Try.prog 67 #[v] w fun e w' => ∃ u, e = .returned u ∧ OwnE encB w' w.heap.size 55 u l ∧ Below w.heap.size w w' := by
  obtain ⟨i0, hi, hz0, hz1, hz2⟩ := infoBsk
  obtain ⟨va, vc, rfl⟩ := hr.shape
  have hEQ : ∀ (a : Option Addr) (n c : Nat) (w : World), (binOp .eql 22 (.slice a n c) (.slice none 0 0)).run Try.prog w = .ok (.bool a.isNone) w := fun a n c w => Go.Lib.run_eql_slice_nil w _ _ a n c 0 0 Try.underlying22
  rcases va with _ | ⟨b, o, z⟩
  · have hl : l = [] := by
      rcases l with _ | ⟨p, l⟩
      · rfl
      · obtain ⟨b, o, h, _⟩ := hr.get (k := 0) (by simp)
        cases h
    clear hr
    subst hl
    clear hf hi hz0 hz1 hz2
    rw [List.length_nil]
    go_enter Try.func67, Try.ntmps67
    go_wp2
    go_ret
    exact ⟨_, rfl, ownE_nil _ _ _ _, Below.refl _ _⟩
  · have HS : ∀ j u, (evs encB l)[j]? = some u → w.cell? ((⟨b, o, z⟩ : Addr).add j) = some u := by
      intro j u hu
      have hl : 0 < l.length := by
        have := (List.getElem?_eq_some_iff.1 hu).1
        rw [evs_len] at this
        exact Nat.pos_of_ne_zero (fun e => by rw [e] at this; simp at this)
      obtain ⟨b', o', h, _⟩ := hr.get (k := 0) hl
      injection h with h
      injection h with h1 h2 h3
      subst h1 h2 h3
      exact hr.cells (by decide) j u hu
    have HS := hid HS
    clear hr
    have HA := hid (own_emptyE (W := w) (E := 55) (n := 4) (cs := #[]) rfl)
    have HB := hid ((Below.refl w.heap.size w).alloc (Nat.le_refl _) (.cells #[] 55))
    have HC := hid (show ∀ j u, (evs encB l)[j]? = some u → (w.alloc (.cells #[] 55)).cell? ((⟨b, o, z⟩ : Addr).add j) = some u from fun j u hu => by
      have h := HS.out j u hu
      exact (HB.out.cell (World.block_lt_of_cell? w _ h)).trans h)
    have HF := hid hf
    clear hf
    go_enter Try.func67, Try.ntmps67
    go_wp2_with (at_builtin; refine wpList_append_own _ rfl _ _ 22 rfl w.heap.size 55 i0 (.agg #[.int .i64 0, .int .i64 0, .string ⟨#[]⟩, .int .i64 0]) 4 40 Try.underlying22 hi hz0 hz1 hz2 rfl (by decide) _ _ _ rfl HA.out ⟨b, o, z⟩ l.length vc (evs encB l) rfl (evs_len encB l) HC.out (evs_one l) (by have := HF.out; unfold maxLen; omega) (by have := HF.out; omega) (by simp) ?_; intro v1 w3 hown3 hgrow3 _)
    have HO : Hid (OwnE encB w3 w.heap.size 55 v1 l) := by
      show OwnE _ _ _ _ _ _
      unfold OwnE
      rw [Nat.zero_add, List.nil_append] at hown3
      exact hown3
    have HW := hid (HB.out.grown hgrow3 (by simp) (fun k hk => by cases hk; exact Nat.le_refl _))
    clear hown3 hgrow3
    go_wp2
    go_ret
    exact ⟨_, rfl, HO.out, HW.out⟩
/-- The sort's test. -/
def cmpK (p q : Bsk) : Int := orI (cmpI p.ca q.ca) (cmpI p.nu q.nu)
theorem lt_cmpK (p q : Bsk) : ltOf cmpK p q = befK p q := by
  unfold ltOf cmpK orI cmpI befK
  rw [Bool.eq_iff_iff]
  simp only [decide_eq_true_iff, Bool.or_eq_true, Bool.and_eq_true]
  (repeat' split) <;> omega
theorem swo_cmpK : Go.Sort.SWO (ltOf cmpK) where
  irrefl x := by rw [lt_cmpK]; simp [befK]
  trans x y z h1 h2 := by rw [lt_cmpK] at *; exact befK_trans h1 h2
  ntrans x y z h1 h2 := by
    rw [lt_cmpK] at *
    simp only [befK, Bool.or_eq_false_iff, Bool.and_eq_false_iff, decide_eq_false_iff_not] at *
    omega
set_option maxRecDepth 20000 in
set_option maxHeartbeats 4000000 in
theorem io1_any (p q : Bsk) (w : World) : Calls Try.prog 69 #[bskV p, bskV q] w fun e w' => e = .returned (.int .i64 (cmpK p q)) ∧ ∃ n os, w' = Go.Sort.grow (w.drewN n) os := by
  obtain ⟨pn, pc, pp, pk⟩ := p
  obtain ⟨qn, qc, qp, qk⟩ := q
  dsimp only [bskV]
  have HX := hid (box2_start (w := w) (A := #[.int .i64 pn, .int .i64 pc, .string pp, .int .i64 pk]) (B := #[.int .i64 qn, .int .i64 qc, .string qp, .int .i64 qk]) (T := 55) (T' := 55) (fz := (0, 0)) (fz' := (0, 0)))
  obtain ⟨c, hc⟩ : ∃ c, cmpI pc qc = c := ⟨_, rfl⟩
  obtain ⟨d, hd⟩ : ∃ d, cmpI pn qn = d := ⟨_, rfl⟩
  have HQ1 := hid (fun W => cmp_q _ _ _ hc W)
  have HQ2 := hid (fun W => cmp_q _ _ _ hd W)
  have HE := hid (show orI c d = cmpK ⟨pn, pc, pp, pk⟩ ⟨qn, qc, qp, qk⟩ by unfold cmpK; rw [hc, hd])
  have HGR := hid (show ∃ os, ((w.alloc (.cells #[.int .i64 pn, .int .i64 pc, .string pp, .int .i64 pk] 55)).alloc (.cells #[.int .i64 qn, .int .i64 qc, .string qp, .int .i64 qk] 55)).drew.alloc (.cells #[.int .i64 c, .int .i64 d] 3) = Go.Sort.grow (w.drewN 1) os from ⟨_, by rw [show ((w.alloc (.cells #[.int .i64 pn, .int .i64 pc, .string pp, .int .i64 pk] 55)).alloc (.cells #[.int .i64 qn, .int .i64 qc, .string qp, .int .i64 qk] 55)).drew = ((w.drewN 1).alloc (.cells #[.int .i64 pn, .int .i64 pc, .string pp, .int .i64 pk] 55)).alloc (.cells #[.int .i64 qn, .int .i64 qc, .string qp, .int .i64 qk] 55) from rfl, Go.Sort.alloc_eq_grow, Go.Sort.alloc_eq_grow, Go.Sort.alloc_eq_grow, Go.Sort.grow_grow, Go.Sort.grow_grow]⟩)
  clear hc hd
  go_enter Try.func69, Try.ntmps69
  go_wp2
  obtain ⟨p0, p1⟩ := show ((w.alloc (.cells #[.int .i64 pn, .int .i64 pc, .string pp, .int .i64 pk] 55)).alloc (.cells #[.int .i64 qn, .int .i64 qc, .string qp, .int .i64 qk] 55)).cell? ⟨w.heap.size, 1, none⟩ = some (.int .i64 pc) ∧ ((w.alloc (.cells #[.int .i64 pn, .int .i64 pc, .string pp, .int .i64 pk] 55)).alloc (.cells #[.int .i64 qn, .int .i64 qc, .string qp, .int .i64 qk] 55)).cell? ⟨w.heap.size, 0, none⟩ = some (.int .i64 pn) from ⟨HX.out.fst 1, HX.out.fst 0⟩
  obtain ⟨q0, q1⟩ := show ((w.alloc (.cells #[.int .i64 pn, .int .i64 pc, .string pp, .int .i64 pk] 55)).alloc (.cells #[.int .i64 qn, .int .i64 qc, .string qp, .int .i64 qk] 55)).cell? ⟨w.heap.size + 1, 1, none⟩ = some (.int .i64 qc) ∧ ((w.alloc (.cells #[.int .i64 pn, .int .i64 pc, .string pp, .int .i64 pk] 55)).alloc (.cells #[.int .i64 qn, .int .i64 qc, .string qp, .int .i64 qk] 55)).cell? ⟨w.heap.size + 1, 0, none⟩ = some (.int .i64 qn) from ⟨HX.out.snd 1, HX.out.snd 0⟩
  generalize World.alloc (World.alloc w _) _ = W at *
  refine wp_region_still_tail 10 (by kernel_rfl) (by kernel_rfl) ?_
  simp only [List.take_succ_cons, List.take_zero, List.drop_succ_cons, List.drop_zero]
  iterate 4 still_step
  still_call (HQ1.out _)
  iterate 4 still_step
  still_call (HQ2.out _)
  refine wpStill_nil ?_
  have HRW := hid (rowI_two (w := W.drew) (x := c) (y := d) (T := 3) rfl)
  go_wp2_with fail
  refine (or_any c d _ _ HRW.out).mono ?_
  rintro e w3 ⟨rfl, rfl⟩
  go_wp2_with fail
  go_ret
  exact ⟨ret_int HE.out, 1, HGR.out⟩
end Go.Proofs.Ytikjgbfbbkmmcaa
