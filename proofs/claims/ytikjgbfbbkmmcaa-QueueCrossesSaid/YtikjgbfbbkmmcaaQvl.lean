/- Walks of put, take, poolOf: contracts. -/
import Derived.Test.YtikjgbfbbkmmcaaQvk
namespace Go.Proofs.Ytikjgbfbbkmmcaa
open Go.RowKit

set_option maxRecDepth 20000 in
set_option maxHeartbeats 4000000 in
theorem put_any (pb base : Nat) (l : List Pr) (d : Pr) (w : World) (hP : HpAt pb base l w) (hm : l.length ≤ 900) :
    Calls Try.prog 81 #[.pointer (some ⟨pb, 0, none⟩), .agg #[.int .i64 d.x, .int .i64 d.y]] w fun e w' => e = .returned (.tuple #[]) ∧ HpAt pb base (d :: l) w' ∧ Tn TV pb w w' := by
  have hba : Below w.heap.size w (w.alloc (.cells #[.int .i64 d.x, .int .i64 d.y] 99)) := (Below.refl _ _).alloc (Nat.le_refl _) _
  have HC := hid (hpush_any pb base l d _ (hP.keep hba) hm)
  have HT : Hid (Tn TV pb w (w.alloc (.cells #[.int .i64 d.x, .int .i64 d.y] 99))) := Tn.lay hba
  clear hP hba
  go_enter Try.func81, Try.ntmps81
  go_wp2_with fail
  refine HC.out.mono ?_
  rintro e w1 ⟨rfl, h1, h2⟩
  have HR := hid (And.intro h1 (HT.out.trans h2))
  clear h1 h2 HC HT
  go_wp2
  go_end0
  exact ⟨rfl, HR.out⟩
/-- What is left when a vessel is taken. -/
def rest (F : List Int) : List Pr := (pzl F).eraseIdx (argM F)
theorem rest_perm {F : List Int} (hF : F ≠ []) : (pzl F).Perm ((⟨argM F, F.getD (argM F) 0⟩ : Pr) :: rest F) := by
  have hv := argM_lt hF
  have hl : argM F < (pzl F).length := by rw [pzl_len]; exact hv
  have h := eraseP_perm hl
  have e : (pzl F)[argM F] = ⟨argM F, F.getD (argM F) 0⟩ := by
    have := pzl_at hv
    rw [List.getElem?_eq_getElem hl] at this
    exact Option.some.inj this
  rw [e] at h
  exact h
theorem rest_put {F : List Int} (hF : F ≠ []) (y : Int) : ((⟨argM F, y⟩ : Pr) :: rest F).Perm (pzl (F.set (argM F) y)) := pzl_put (argM_lt hF) (rest_perm hF).symm
theorem rest_len {F : List Int} (hF : F ≠ []) : (rest F).length + 1 = F.length := by
  have h := (rest_perm hF).length_eq
  rw [pzl_len] at h
  simpa using h.symm
theorem take_end {pb base rb : Nat} {l : List Pr} {w w1 : World} {z0 z1 : Value} (h : HpAt pb base l w1) (h4 : ∀ v, w1.cell? ⟨pb, 0, none⟩ = some v → v.ownBlock ≠ some rb) (h3 : w1.heap[rb]? = some (.cells #[z0, z1] 99 (0, 0))) (ht : Tn TV pb w w1) (hne : pb ≠ rb) (hle : pb ≤ rb) (x y : Value) :
    HpAt pb base l ((w1.setCell ⟨rb, 0, none⟩ x).setCell ⟨rb, 1, none⟩ y) ∧ Tn TV pb w ((w1.setCell ⟨rb, 0, none⟩ x).setCell ⟨rb, 1, none⟩ y) := by
  obtain ⟨m, k1, k2, ⟨v, k3, k4⟩, k5, k6⟩ := h
  have hg : w1.grownBy ((w1.setCell ⟨rb, 0, none⟩ x).setCell ⟨rb, 1, none⟩ y) (some rb) := ⟨rfl, rfl, rfl, by simp, fun k _ hk => by
    have hk : k ≠ rb := fun e => hk (by rw [e])
    rw [heap_setCell_other _ _ _ _ (by exact hk), heap_setCell_other _ _ _ _ (by exact hk)]⟩
  have hv := cell_of_row _ _ 0 _ _ _ k3
  simp only [List.getElem?_toArray, List.getElem?_cons_zero] at hv
  refine ⟨⟨m, k1, k2, ⟨v, (hg.block _ (Array.getElem?_eq_some_iff.1 k3).1 (fun e => hne (Option.some.inj e))).trans k3, k4.turn hg (h4 v hv)⟩, Nat.le_trans k5 hg.size, k6⟩, ht.trans (Tn.step hg (fun j e => by cases e; exact ⟨hle, _, h3, .inr ⟨_, _, .inr rfl, rfl⟩⟩))⟩
set_option maxRecDepth 20000 in
set_option maxHeartbeats 4000000 in
theorem take_any (pb base : Nat) (F : List Int) (w : World) (hP : HpAt pb base (pzl F) w) (hF : F ≠ []) (hm : F.length ≤ 900) :
    Calls Try.prog 80 #[.pointer (some ⟨pb, 0, none⟩)] w fun e w' => e = .returned (.agg #[.int .i64 (argM F), .int .i64 (F.getD (argM F) 0)]) ∧ HpAt pb base (rest F) w' ∧ Tn TV pb w w' := by
  have hba : Below w.heap.size w (w.alloc (.cells #[.int .i64 0, .int .i64 0] 99)) := (Below.refl _ _).alloc (Nat.le_refl _) _
  have hne : pzl F ≠ [] := fun e => by have := pzl_len F; rw [e] at this; exact hF (List.length_eq_zero_iff.1 this.symm)
  have HC := hid (hpop_any pb base w.heap.size (pzl F) ⟨argM F, F.getD (argM F) 0⟩ (rest F) _ (hP.keep hba) (by rw [pzl_len]; exact hm) hne ⟨by simp, by obtain ⟨m, _, _, h3, _⟩ := hP; exact Nat.ne_of_gt h3.lt, fun g cap m hpo e => by
    obtain ⟨m0, _, _, ⟨v, h1, h2⟩, _⟩ := hP
    have hx := (hba.block _ (Array.getElem?_eq_some_iff.1 h1).1).trans h1
    rw [hpo.box] at hx
    cases hx
    have := (World.ownsRow.lt h2 g rfl).2
    omega⟩ (fun m h1 h2 => ⟨pzl_top hF h1 h2, fun t' ht => List.Perm.cons_inv (ht.trans (rest_perm hF))⟩))
  have HT : Hid (Tn TV pb w (w.alloc (.cells #[.int .i64 0, .int .i64 0] 99))) := Tn.lay hba
  have hpb : pb < w.heap.size := by obtain ⟨m, _, _, h3, _⟩ := hP; exact h3.lt
  generalize (argM F : Int) = x at *
  generalize F.getD (argM F) 0 = y at *
  have ta := ta_ves x y
  clear hP hba hne
  go_enter Try.func80, Try.ntmps80
  go_wp2_with fail
  refine HC.out.mono ?_
  rintro e w1 ⟨rfl, h1, h2, h3, h4⟩
  rw [heap_alloc_new] at h3
  have HR := hid (take_end h1 h4 h3 (HT.out.trans h2) (Nat.ne_of_lt hpb) (Nat.le_of_lt hpb) (.int .i64 x) (.int .i64 y))
  have c0 := cell_of_row _ _ 0 _ _ _ h3
  have c1 := cell_of_row _ _ 1 _ _ _ h3
  have f0 := frozen_of_row _ _ 0 _ _ h3
  have f1 := frozen_of_row _ _ 1 _ _ h3
  simp only [List.getElem?_toArray, List.getElem?_cons_zero, List.getElem?_cons_succ] at c0 c1
  clear h1 h2 h3 h4 HC HT
  go_wp2
  refine bodyPost_ret (v := .agg #[.int .i64 x, .int .i64 y]) (by simp [results, Try.results80, go_sem, c0, c1]) rfl ⟨rfl, HR.out⟩
set_option maxRecDepth 20000 in
set_option maxHeartbeats 4000000 in
theorem poolOf_any (m : Nat) (w : World) (hm : m ≤ 12) :
    Calls Try.prog 79 #[.int .i64 (m : Nat)] w fun e w' => e = .returned (.pointer (some ⟨w.heap.size, 0, none⟩)) ∧ HpAt w.heap.size (w.heap.size + 1) (pzl (List.replicate m 0)) w' ∧ Below w.heap.size w w' := by
  have hba : Below w.heap.size w (w.alloc (.cells #[.slice none 0 0] 111)) := (Below.refl _ _).alloc (Nat.le_refl _) _
  have H0 : Hid (HpAt w.heap.size (w.heap.size + 1) (pzl (List.replicate 0 0)) (w.alloc (.cells #[.slice none 0 0] 111)) ∧ Below w.heap.size w (w.alloc (.cells #[.slice none 0 0] 111))) :=
    ⟨⟨[], List.Perm.refl _, fun i _ h => absurd h (Nat.not_lt_zero _), ⟨_, heap_alloc_new w _, ownE_nil _ _ _ _⟩, by simp, Nat.lt_succ_self _⟩, hba⟩
  clear hba
  go_enter Try.func79, Try.ntmps79
  go_wp2
  go_loopw [8] (fun i wr => ∃ k : Nat, i = .int .i64 (k : Int) ∧ k ≤ m ∧ Hid (HpAt w.heap.size (w.heap.size + 1) (pzl (List.replicate k 0)) wr ∧ Below w.heap.size w wr)) (fun i _ => m - (intOf i).toNat)
  case atStart => exact ⟨0, rfl, Nat.zero_le _, H0⟩
  case round =>
    clear H0
    obtain ⟨k, rfl, hk, hR⟩ := hrel
    by_cases hlt : k < m
    · have hlt' : (k : Int) < m := by omega
      have HC := hid (put_any w.heap.size (w.heap.size + 1) (pzl (List.replicate k 0)) ⟨k, 0⟩ wr hR.out.1 (by rw [pzl_len, List.length_replicate]; omega))
      have HLT := hid hlt
      clear hlt
      go_wp2_with fail
      refine HC.out.mono ?_
      rintro e w1 ⟨rfl, h1, h2⟩
      have HN : Hid (HpAt w.heap.size (w.heap.size + 1) (pzl (List.replicate (k + 1) 0)) w1 ∧ Below w.heap.size w w1) := ⟨h1.perm pzl_snoc, h2.below hR.out.2 (Nat.le_refl _)⟩
      clear h1 h2 HC
      go_wp2
      go_roundw
      case rel => exact ⟨k + 1, by go_num, HLT.out, HN⟩
      case measure => have := HLT.out; simp [intOf]; omega
    · obtain rfl : k = m := by omega
      clear hlt
      go_wp2
      go_ret
      exact ⟨rfl, hR.out⟩
end Go.Proofs.Ytikjgbfbbkmmcaa
