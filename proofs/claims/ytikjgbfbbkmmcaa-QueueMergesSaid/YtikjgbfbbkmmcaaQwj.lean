/- Walk of queue's Merge: contract. -/
import Derived.Test.YtikjgbfbbkmmcaaQwi
namespace Go.Proofs.Ytikjgbfbbkmmcaa
open Go.RowKit

/-- What Merge says of two lists. -/
def mrgE (a b : List Bsk) : Int := if bskQ a = false then 1 else if bskQ b = false then 1 else if dstQ (a ++ b) = false then 6 else if 500 < a.length + b.length then 4 else 0
def mrgL (a b : List Bsk) : List Bsk := if mrgE a b = 0 then mrgK a b else []
theorem dstQ_iff {l : List Bsk} : dstQ l = true ↔ l.Pairwise fun x y => x.nu ≠ y.nu := by unfold dstQ; rw [decide_eq_true_iff]
theorem dst_comm (a b : List Bsk) : dstQ (a ++ b) = dstQ (b ++ a) := by
  rw [Bool.eq_iff_iff, dstQ_iff, dstQ_iff]
  exact List.perm_append_comm.pairwise_iff fun h e => h e.symm
theorem dst_two {a b : List Bsk} (h : dstQ (a ++ b) = true) : ∀ x ∈ a, ∀ y ∈ b, x.nu ≠ y.nu := (List.pairwise_append.1 (dstQ_iff.1 h)).2.2
theorem mrgE_comm (a b : List Bsk) : mrgE a b = mrgE b a := by
  unfold mrgE
  rw [dst_comm a b, Nat.add_comm a.length b.length]
  cases bskQ a <;> cases bskQ b <;> simp
theorem mrgE_zero {a b : List Bsk} (h : mrgE a b = 0) : bskQ a = true ∧ bskQ b = true ∧ dstQ (a ++ b) = true := by
  unfold mrgE at h
  cases h1 : bskQ a
  · rw [if_pos h1] at h; cases h
  rw [if_neg (by rw [h1]; decide)] at h
  cases h2 : bskQ b
  · rw [if_pos h2] at h; cases h
  rw [if_neg (by rw [h2]; decide)] at h
  cases h3 : dstQ (a ++ b)
  · rw [if_pos h3] at h; cases h
  exact ⟨rfl, rfl, rfl⟩
theorem mrgK_sorted {a b l : List Bsk} (h1 : bskQ a = true) (h2 : bskQ b = true) (h3 : dstQ (a ++ b) = true) (hp : l.Perm (a ++ b)) (ha : l.Pairwise fun x y => ¬ befK y x = true) : l = mrgK a b := by
  refine mrgK_uniq (bskQ_iff.1 h1).2.2.2 (bskQ_iff.1 h2).2.2.2 (dst_two h3) (asc_of_le ha ((hp.pairwise_iff (fun h e => h e.symm)).2 (dstQ_iff.1 h3))) fun x => ?_
  rw [hp.mem_iff, List.mem_append]
theorem mrgK_comm {a b : List Bsk} (h1 : bskQ a = true) (h2 : bskQ b = true) (h3 : dstQ (a ++ b) = true) : mrgK a b = mrgK b a := by
  refine mrgK_uniq (bskQ_iff.1 h2).2.2.2 (bskQ_iff.1 h1).2.2.2 (fun x hx y hy e => dst_two h3 y hy x hx e.symm) (mrgK_asc (bskQ_iff.1 h1).2.2.2 (bskQ_iff.1 h2).2.2.2 (dst_two h3)) fun x => ?_
  rw [mrgK_mem, or_comm]
theorem mrgL_comm (a b : List Bsk) : mrgL a b = mrgL b a := by
  unfold mrgL
  rw [mrgE_comm b a]
  split
  · rename_i h
    obtain ⟨h1, h2, h3⟩ := mrgE_zero h
    exact mrgK_comm h1 h2 h3
  · rfl
theorem mrgK_len (a b : List Bsk) : (mrgK a b).length = a.length + b.length := by
  fun_induction mrgK a b with
  | case1 b => simp
  | case2 x a => simp
  | case3 x a y b h ih => rw [List.length_cons, ih]; simp only [List.length_cons]; omega
  | case4 x a y b h ih => rw [List.length_cons, ih]; simp only [List.length_cons]; omega
/-- What Merge leaves. -/
def MrgP (a b : List Bsk) (w : World) (e : Ending) (w' : World) : Prop := ∃ u, e = .returned (.tuple #[u, .int .i64 (mrgE a b)]) ∧ RowE encB w' u (mrgL a b) ∧ Below w.heap.size w w'
theorem mrg_none {a b : List Bsk} {w w' : World} {E : Int} (h : mrgE a b = E) (h0 : E ≠ 0) (hb : Below w.heap.size w w') : MrgP a b w (.returned (.tuple #[.slice none 0 0, .int .i64 E])) w' := by
  subst h
  refine ⟨_, rfl, ?_, hb⟩
  unfold mrgL
  rw [if_neg h0]
  exact rowE_nil _ _ _ _ (by unfold maxLen; omega)
def two {α : Type} (x y : α) (j : Nat) : α := match j with | 0 => x | _ => y
set_option maxRecDepth 20000 in
set_option maxHeartbeats 4000000 in
theorem merge_any (va vb : Value) (a b : List Bsk) (w : World) (ha : RowE encB w va a) (hb : RowE encB w vb b) (hsa : ∀ x ∈ a, x.pr.size ≤ maxLen) (hsb : ∀ x ∈ b, x.pr.size ≤ maxLen) : Calls Try.prog 10 #[va, vb] w (MrgP a b w) := by
  have HA := hid (fun w1 (g : Below w.heap.size w w1) => valid_any _ a w1 (ha.keep g) hsa)
  have HB := hid (fun w1 (g : Below w.heap.size w w1) => valid_any _ b w1 (hb.keep g) hsb)
  have HKA := hid (fun w1 (g : Below w.heap.size w w1) => ha.keep g)
  have HKB := hid (fun w1 (g : Below w.heap.size w w1) => hb.keep g)
  obtain ⟨aa, ac, rfl⟩ := ha.shape
  obtain ⟨ba, bc, rfl⟩ := hb.shape
  clear ha hb hsa hsb
  cases h1 : bskQ a
  · rw [h1] at HA
    have HE := hid (show mrgE a b = 1 by unfold mrgE; rw [if_pos h1])
    clear h1
    go_enter Try.func10, Try.ntmps10
    go_wp2_with fail
    refine (HA.out w (Below.refl _ _)).mono ?_
    rintro e w1 ⟨rfl, hb1⟩
    have HB1 := hid hb1
    clear hb1
    go_wp2
    go_ret2
    exact mrg_none HE.out (by decide) HB1.out
  rw [h1] at HA
  cases h2 : bskQ b
  · rw [h2] at HB
    have HE := hid (show mrgE a b = 1 by unfold mrgE; rw [if_neg (by rw [h1]; decide), if_pos h2])
    clear h1 h2
    go_enter Try.func10, Try.ntmps10
    go_wp2_with fail
    refine (HA.out w (Below.refl _ _)).mono ?_
    rintro e w1 ⟨rfl, hb1⟩
    have HB1 := hid hb1
    clear hb1
    go_wp2_with fail
    refine (HB.out _ HB1.out).mono ?_
    rintro e w2 ⟨rfl, hb2⟩
    have HB2 := hid (bstep HB1.out HB1.out.size hb2)
    clear hb2
    go_wp2
    go_ret2
    exact mrg_none HE.out (by decide) HB2.out
  rw [h2] at HB
  have HL := hid (And.intro (bskQ_iff.1 h1).1 (bskQ_iff.1 h2).1)
  have HNU : Hid (∀ x ∈ a ++ b, 1 ≤ x.nu ∧ x.nu ≤ 1000000) := fun x hx => by
    rcases List.mem_append.1 hx with g | g
    · exact (oneQ_iff.1 ((bskQ_iff.1 h1).2.1 x g)).1
    · exact (oneQ_iff.1 ((bskQ_iff.1 h2).2.1 x g)).1
  have HE := hid (show mrgE a b = if dstQ (a ++ b) = false then 6 else if 500 < a.length + b.length then 4 else 0 by unfold mrgE; rw [if_neg (by rw [h1]; decide), if_neg (by rw [h2]; decide)])
  have HSO := hid (fun (l : List Bsk) (h3 : dstQ (a ++ b) = true) => mrgK_sorted (l := l) h1 h2 h3)
  have HFL := hid (show flE (two a b) 2 = a ++ b by simp [flE, two, List.range_succ])
  clear h1 h2
  go_enter Try.func10, Try.ntmps10
  go_wp2_with fail
  refine (HA.out w (Below.refl _ _)).mono ?_
  rintro e w1 ⟨rfl, hb1⟩
  have HB1 := hid hb1
  clear hb1
  go_wp2_with fail
  refine (HB.out _ HB1.out).mono ?_
  rintro e w2 ⟨rfl, hb2⟩
  have HB2 := hid (bstep HB1.out HB1.out.size hb2)
  clear hb2
  have hn0 := heap_alloc_new w2 (.cells #[.slice aa a.length ac, .slice ba b.length bc] 22)
  have HB3 := hid (HB2.out.alloc HB2.out.size (.cells #[.slice aa a.length ac, .slice ba b.length bc] 22))
  have p0 := cell_of_row _ _ 0 _ _ _ hn0
  have p1 := cell_of_row _ _ 1 _ _ _ hn0
  simp only [List.getElem?_toArray, List.getElem?_cons_zero, List.getElem?_cons_succ] at p0 p1
  have HP := hid (And.intro p0 p1)
  clear p0 p1 hn0
  go_wp2_with fail
  generalize World.alloc w2 _ = w3 at *
  have HC := hid (concatB_any w2.heap.size 2 2 (two a b) (two aa ba) (two ac bc) w3 (by decide) (by rw [HFL.out, List.length_append]; have := HL.out; omega) (fun j hj => by
    rcases j with _ | _ | j
    · exact ⟨HP.out.1, HKA.out _ HB3.out⟩
    · exact ⟨HP.out.2, HKB.out _ HB3.out⟩
    · omega))
  rw [HFL.out] at HC
  refine HC.out.mono ?_
  rintro e w4 ⟨u, rfl, hu, hb4⟩
  obtain ⟨ua, uc, rfl⟩ := hu.shape
  have HB4 := hid (bstep HB3.out HB3.out.size hb4)
  have HRU := hid hu.row
  have HLN := hid (show (a ++ b).length = a.length + b.length from List.length_append)
  have HD := hid (distinct_any _ (a ++ b) w4 hu.row HNU.out (by rw [HLN.out]; have := HL.out; omega))
  have HO := hid (fun w5 (g : Below w4.heap.size w4 w5) => inOrder_any _ (a ++ b) w5 (hu.row.keep g) (by rw [HLN.out]; have := HL.out; omega))
  clear hu hb4 HC HP
  obtain ⟨n, hn⟩ : ∃ n, n = (a ++ b).length := ⟨_, rfl⟩
  have HN := hid hn
  rw [← hn] at HD HO HRU ⊢
  clear hn
  go_wp2_with fail
  refine HD.out.mono ?_
  rintro e w5 ⟨rfl, hb5⟩
  have HB5 := hid (bstep HB4.out HB4.out.size hb5)
  have HO5 := hid (HO.out _ hb5)
  clear hb5 HD HO
  cases h3 : dstQ (a ++ b)
  · have HE2 := hid (show mrgE a b = 6 by rw [HE.out, if_pos h3])
    clear h3
    go_wp2
    go_ret2
    exact mrg_none HE2.out (by decide) HB5.out
  have HS3 := hid (fun l => HSO.out l h3)
  have HE3 := hid (show mrgE a b = if 500 < a.length + b.length then 4 else 0 by rw [HE.out, if_neg (by rw [h3]; decide)])
  clear h3
  by_cases h5 : 500 < n
  · have HE4 := hid (show mrgE a b = 4 by rw [HE3.out, if_pos (by rw [← HLN.out, ← HN.out]; exact h5)])
    have h5' : ((n : Int) > 500) := by omega
    clear h5
    go_wp2
    go_ret2
    exact mrg_none HE4.out (by decide) HB5.out
  · have HE4 := hid (show mrgE a b = 0 by rw [HE3.out, if_neg (by rw [← HLN.out, ← HN.out]; exact h5)])
    have h5' : ¬ ((n : Int) > 500) := by omega
    clear h5
    go_wp2_with fail
    refine HO5.out.mono ?_
    rintro e w6 ⟨v, rfl, ss, hp, has, hrow, hlen, hb6⟩
    have HB6 := hid (bstep HB5.out HB5.out.size hb6)
    have HRO := hid (show RowE encB w6 v (mrgL a b) by
      have e1 := HS3.out ss hp has
      unfold mrgL
      rw [if_pos HE4.out, ← e1]
      exact hrow)
    obtain ⟨ua6, uc6, rfl⟩ := hrow.shape
    clear hp has hrow hlen hb6 HO5
    go_wp2
    go_ret2
    refine ⟨_, ?_, HRO.out, HB6.out⟩
    rw [HE4.out]
    rfl
end Go.Proofs.Ytikjgbfbbkmmcaa
