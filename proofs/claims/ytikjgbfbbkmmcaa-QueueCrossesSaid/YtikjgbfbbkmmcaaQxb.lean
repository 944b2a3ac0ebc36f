/- The reference's inside: contract. -/
import Derived.Test.YtikjgbfbbkmmcaaQxa
import Derived.Test.YtikjgbfbbkmmcaaQwc
namespace Go.Proofs.Ytikjgbfbbkmmcaa
open Go.RowKit

theorem crsK_most {l : List Int} (hb : ∀ x ∈ l, -9223372036854775808 ≤ x ∧ x ≤ 9223372036854775807) : ∀ {k : Nat} {s : List Int}, crsK l k = some s → ∀ y ∈ s, y ≤ 9223372036854775807
  | 0, s, h => by
    rw [crsK] at h
    cases h
    intro y hy
    cases hy
  | k + 1, s, h => by
    rw [crsK] at h
    split at h
    · cases h
    · rename_i s0 h0
      obtain ⟨g1, g2, g3⟩ := crsK_inv l h0
      obtain ⟨_, _, h3⟩ := crsT_inv g1 g2 h
      have ih := crsK_most hb h0
      intro y hy
      rcases h3 with ⟨_, _, h4⟩ | ⟨_, _, h4⟩
      · rcases (h4 y).1 hy with rfl | g
        · by_cases hk : k < l.length
          · rw [show l.getD k 0 = l[k] by simp [List.getD, hk]]
            exact (hb _ (List.getElem_mem hk)).2
          · rw [show l.getD k 0 = 0 by simp [List.getD, hk]]
            omega
        · exact ih y g
      · exact ih y ((h4 y).1 hy).1
theorem crsK_gone {l : List Int} {k m : Nat} (h : crsK l (k + 1) = none) (hk : k < m) : crsK l m = none := by
  cases hs : crsK l m with
  | none => rfl
  | some s =>
    have := crsK_ok l hs (k + 1) (by omega)
    rw [h] at this
    cases this
/-- What inside says of the first m. -/
def InsP (l : List Int) (m : Nat) (w : World) (e : Ending) (w' : World) : Prop := ∃ u, e = .returned (.tuple #[u, .bool (crsK l m).isSome]) ∧ RowE encI w' u ((crsK l m).getD []) ∧ Below w.heap.size w w'
theorem any_next {l : List Int} {k : Nat} (hk : k < l.length) (f : Int → Bool) : (l.take (k + 1)).any f = ((l.take k).any f || f l[k]) := by
  rw [List.take_succ_eq_append_getElem hk, List.any_append]
  simp
theorem ins_none {l : List Int} {k m : Nat} {w w' : World} (h : crsK l (k + 1) = none) (hk : k < m) (hb : Below w.heap.size w w') : InsP l m w (.returned (.tuple #[.slice none 0 0, .bool false])) w' := by
  have hm := crsK_gone h hk
  refine ⟨.slice none 0 0, by rw [hm]; rfl, by rw [hm]; exact rowE_nil _ _ _ _ (by unfold maxLen; omega), hb⟩
theorem ins_pos {s : List Int} {x : Int} (hx : 0 < x) (hm : x ≤ 9223372036854775807) (hs : ∀ y ∈ s, 0 < y) : s.filter (fun y => decide (y ≠ wrap64 (-x))) = s ∧ s.any (fun y => decide (y = x) || decide (y = wrap64 (-x))) = decide (x ∈ s) := by
  have hN : wrap64 (-x) = -x := by unfold wrap64; omega
  rw [hN]
  constructor
  · rw [List.filter_eq_self]
    intro y hy
    have := hs y hy
    simp only [decide_eq_true_eq]
    omega
  · rw [Bool.eq_iff_iff, List.any_eq_true, decide_eq_true_iff]
    constructor
    · rintro ⟨y, hy, h⟩
      simp only [Bool.or_eq_true, decide_eq_true_eq] at h
      have := hs y hy
      rcases h with rfl | h
      · exact hy
      · omega
    · intro h
      exact ⟨x, h, by rw [decide_eq_true rfl]; rfl⟩
theorem ins_neg {s : List Int} {x : Int} (hx : x < 0) (hm : -9223372036854775808 ≤ x) (hs : ∀ y ∈ s, 0 < y) (ht : ∀ y ∈ s, y ≤ 9223372036854775807) : s.filter (fun y => decide (y ≠ wrap64 (-x))) = s.filter (fun y => decide (y ≠ -x)) ∧ s.any (fun y => decide (y = x) || decide (y = wrap64 (-x))) = decide (-x ∈ s) := by
  have hN : ∀ y ∈ s, (y = wrap64 (-x) ↔ y = -x) := by
    intro y hy
    have h1 := hs y hy
    have h2 := ht y hy
    unfold wrap64
    constructor <;> intro h <;> omega
  constructor
  · apply List.filter_congr
    intro y hy
    rw [decide_eq_decide]
    exact not_congr (hN y hy)
  · rw [Bool.eq_iff_iff, List.any_eq_true, decide_eq_true_iff]
    constructor
    · rintro ⟨y, hy, h⟩
      simp only [Bool.or_eq_true, decide_eq_true_eq] at h
      have := hs y hy
      rcases h with rfl | h
      · omega
      · rw [← (hN y hy).1 h]; exact hy
    · intro h
      exact ⟨-x, h, by rw [Bool.or_eq_true]; exact .inr (decide_eq_true ((hN _ h).2 rfl))⟩
set_option maxRecDepth 20000 in
set_option maxHeartbeats 8000000 in
theorem xinside_any (v : Value) (l : List Int) (m : Nat) (w : World) (hr : RowI w v l) (hb : ∀ x ∈ l, -9223372036854775808 ≤ x ∧ x ≤ 9223372036854775807) (hf : l.length ≤ 100) (hml : m ≤ l.length) : Calls Try.prog 65 #[v, .int .i64 (m : Nat)] w (InsP l m w) := by
  have HR := hid (fun w1 (g : Below w.heap.size w w1) => hr.keep g)
  have HBD := hid hb
  have HML := hid hml
  have HMS := hid (fun (k : Nat) (s : List Int) (h : crsK l k = some s) => crsK_most hb h)
  obtain ⟨va, vc, rfl⟩ := hr.shape
  obtain ⟨n, hn⟩ : ∃ n, n = l.length := ⟨_, rfl⟩
  have HN := hid hn
  rw [← hn] at hf HR hml ⊢
  have HF := hid hf
  clear hr hn hb
  obtain ⟨i0, hi, hz0, hz1, hz2⟩ := infoQi
  go_enter Try.func65, Try.ntmps65
  go_wp2
  go_loopw [6, 7] (fun u t wr => ∃ (k : Nat) (s : List Int), k ≤ m ∧ t = .int .i64 (k : Int) ∧ Hid (crsK l k = some s) ∧ Hid (RowE encI wr u s) ∧ Hid (Below w.heap.size w wr)) (fun _ t _ => m - (intOf t).toNat)
  case atStart => exact ⟨0, [], Nat.zero_le _, rfl, rfl, rowE_nil _ _ _ _ (by unfold maxLen; omega), Below.refl _ _⟩
  case round =>
    obtain ⟨k, s, hk, rfl, hC, hS, hB⟩ := hrel
    obtain ⟨W1, hW⟩ : ∃ W1, W1 = wr := ⟨_, rfl⟩
    subst hW
    by_cases hlt : k < m
    · have hlt' : (k : Int) < m := by omega
      have hkn : (k : Int) < n := by omega
      have hks : k < l.length := by rw [← HN.out]; omega
      obtain ⟨b0, o0, hva, c0⟩ := rowI_get (k := k) (HR.out _ hB.out) (by rw [HN.out]) hks
      subst hva
      have HCK := hid (show crsK l (k + 1) = crsT s (l.getD k 0) from by rw [crsK, hC.out])
      have hgd : l.getD k 0 = l[k] := by simp [List.getD, hks]
      have hbd := HBD.out _ (List.getElem_mem hks)
      have HIV := hid (crsK_inv l hC.out)
      have HIM := hid (HMS.out _ _ hC.out)
      rw [hgd] at HCK
      generalize l[k] = x at *
      have HX := hid hbd
      have HLT := hid hlt
      have HKR := hid (fun w1 (g : Below W1.heap.size W1 w1) => hS.out.keep g)
      obtain ⟨sa, sc, rfl⟩ := hS.out.shape
      obtain ⟨q, hq⟩ : ∃ q, q = s.length := ⟨_, rfl⟩
      have HQ := hid hq
      have hq9 : q ≤ 100 := by have := HIV.out.2.2; omega
      have HQ9 := hid hq9
      have HLF := hid (flt_len s)
      rw [← hq] at HKR HLF ⊢
      have HBR := hid hB.out
      clear hlt hks hgd hbd hq hS hk hB
      go_wp2
      go_loopw [9, 10, 11] (fun u f t wx => ∃ j : Nat, j ≤ q ∧ t = .int .i64 (j : Int) ∧ f = .bool ((s.take j).any fun y => decide (y = x) || decide (y = wrap64 (-x))) ∧ Hid (OwnE encI wx W1.heap.size 3 u ((s.take j).filter fun y => decide (y ≠ wrap64 (-x)))) ∧ Hid (Below W1.heap.size W1 wx)) (fun _ _ t _ => q - (intOf t).toNat)
      case atStart => exact ⟨0, Nat.zero_le _, rfl, rfl, ownE_nil _ _ _ _, Below.refl _ _⟩
      case round =>
        obtain ⟨j, hj, rfl, rfl, hO, hBx⟩ := hrel
        obtain ⟨ua, uc, rfl⟩ := hO.out.shape
        by_cases hjq : j < q
        · have hjq' : (j : Int) < q := by omega
          have hjs : j < s.length := by rw [← HQ.out]; exact hjq
          have HJQ := hid hjq
          obtain ⟨b1, o1, hsa, d0⟩ := (HKR.out _ hBx.out).int hjs
          subst hsa
          have HNX := hid (flt_next hjs fun y => decide (y ≠ wrap64 (-x)))
          have HAX := hid (any_next hjs fun y => decide (y = x) || decide (y = wrap64 (-x)))
          have HBD2 := hid (HLF.out j fun y => decide (y ≠ wrap64 (-x)))
          generalize s[j] = z at *
          generalize (s.take j).filter (fun y => decide (y ≠ wrap64 (-x))) = pre at *
          generalize (s.take j).any (fun y => decide (y = x) || decide (y = wrap64 (-x))) = f at *
          obtain ⟨q1, h1⟩ : ∃ b, decide (z = x) = b := ⟨_, rfl⟩
          obtain ⟨q2, h2⟩ : ∃ b, decide (z = wrap64 (-x)) = b := ⟨_, rfl⟩
          have e1 : (z == x) = q1 := by rw [← h1]; rfl
          have e2 : (z == wrap64 (-x)) = q2 := by rw [← h2]; rfl
          have e3 : (z != wrap64 (-x)) = !q2 := by rw [← e2]; rfl
          rw [h1, h2] at HAX
          rw [show decide (z ≠ wrap64 (-x)) = !q2 by rw [← h2]; exact decide_not] at HNX
          clear h1 h2 hjq hj hjs
          cases q2
          · have HNY := hid (show (s.take (j + 1)).filter (fun y => decide (y ≠ wrap64 (-x))) = pre ++ [z] by rw [HNX.out]; rfl)
            have HNW := hid (rowE_new (C := encI) (W := wr) (T := 3) (l := [z]) (cs := #[.int .i64 z]) rfl (by show 1 ≤ maxLen; unfold maxLen; omega))
            have HBA := hid ((Below.refl wr.heap.size wr).alloc (Nat.le_refl _) (.cells #[.int .i64 z] 3))
            have HOA := hid (hO.out.keep HBA.out)
            have HBZ := hid (bstep hBx.out hBx.out.size HBA.out)
            have HBX := hid (show pre.length + [z].length ≤ 1000000 by have := HBD2.out; have := HQ9.out; simp only [List.length_singleton]; omega)
            clear hO hBx
            cases f <;> cases q1
            all_goals
              go_wp2_with (at_builtin; (refine wpList_appE encI rfl (.tmp 52) (.tmp 57) 42 rfl W1.heap.size 3 8 i0 _ Try.underlying42 hi hz0 hz1 hz2 rfl (by decide) (by decide) _ pre rfl HOA.out _ [z] rfl HNW.out HBX.out HBZ.out.size ?_); intro v3 w6 hA1; have HBV := hid (hA1.low HBZ.out HOA.out); have HO6 := hid hA1.1; obtain ⟨a3, c3, rfl⟩ := HO6.out.shape; clear hA1)
              go_roundw
              case rel =>
                have hO7 := HO6.out
                rw [List.length_append] at hO7
                refine ⟨j + 1, HJQ.out, by go_num, by rw [HAX.out]; rfl, ?_, HBV⟩
                rw [HNY.out]
                exact hO7
              case measure => have := HJQ.out; simp [intOf]; omega
          · have HNY := hid (show (s.take (j + 1)).filter (fun y => decide (y ≠ wrap64 (-x))) = pre by rw [HNX.out]; rfl)
            cases f <;> cases q1
            all_goals
              go_wp2
              go_roundw
              case rel => exact ⟨j + 1, HJQ.out, by go_num, by rw [HAX.out]; rfl, by rw [HNY.out]; exact hO, hBx⟩
              case measure => have := HJQ.out; simp [intOf]; omega
        · obtain rfl : q = j := by omega
          have HFU := hid (show s.take q = s by rw [HQ.out, List.take_length])
          have HBW := hid (bstep HBR.out HBR.out.size hBx.out)
          rw [HFU.out] at hO ⊢
          clear hjq hj
          rcases Int.lt_trichotomy x 0 with hx | hx | hx
          · obtain ⟨g1, g2⟩ := ins_neg hx HX.out.1 HIV.out.2.1 HIM.out
            rw [g1] at hO ⊢
            rw [g2]
            have hx1 : ¬ x > 0 := by omega
            have hx2 : ¬ x = 0 := by omega
            have hx3 : (x == 0) = false := by simpa using hx2
            by_cases hm : -x ∈ s
            · have HN2 := hid (show crsK l (k + 1) = some (s.filter fun y => decide (y ≠ -x)) by rw [HCK.out]; unfold crsT; rw [if_neg hx1, if_pos ⟨hx, hm⟩])
              rw [decide_eq_true hm]
              have HOR := hid hO.out.row
              clear hm hx g1 g2
              generalize (s.filter fun y => decide (y ≠ -x)) = s2 at *
              go_wp2
              go_roundw
              case rel => exact ⟨k + 1, s2, HLT.out, by go_num, HN2, HOR, HBW⟩
              case measure => have := HLT.out; simp [intOf]; omega
            · have HN2 := hid (show crsK l (k + 1) = none by rw [HCK.out]; unfold crsT; rw [if_neg hx1, if_neg (fun h => hm h.2)])
              rw [decide_eq_false hm]
              clear hm hx g1 g2
              go_wp2
              go_ret2
              exact ins_none HN2.out HLT.out HBW.out
          · have HN2 := hid (show crsK l (k + 1) = none by rw [HCK.out, hx]; unfold crsT; rw [if_neg (by omega), if_neg (by omega)])
            subst hx
            generalize (s.any _) = f at *
            go_wp2
            go_ret2
            exact ins_none HN2.out HLT.out HBW.out
          · obtain ⟨g1, g2⟩ := ins_pos hx HX.out.2 HIV.out.2.1
            rw [g1] at hO
            rw [g2]
            rw [g1]
            have hx1 : x > 0 := hx
            have hx2 : ¬ x = 0 := by omega
            have hx3 : (x == 0) = false := by simpa using hx2
            by_cases hm : x ∈ s
            · have HN2 := hid (show crsK l (k + 1) = none by rw [HCK.out]; unfold crsT; rw [if_pos hx, if_pos hm])
              rw [decide_eq_true hm]
              clear hm hx g1 g2
              go_wp2
              go_ret2
              exact ins_none HN2.out HLT.out HBW.out
            · have HN2 := hid (show crsK l (k + 1) = some (insK x s) by rw [HCK.out]; unfold crsT; rw [if_pos hx, if_neg hm])
              rw [decide_eq_false hm]
              have HPU := hid (xput_any _ s x wr hO.out.row (by have := HQ.out; have := HQ9.out; omega))
              clear hm hx g1 g2
              go_wp2_with fail
              refine HPU.out.mono ?_
              rintro e w5 ⟨u5, rfl, hu5, hb5⟩
              have HOR := hid hu5.row
              have HB5 := hid (bstep HBW.out HBW.out.size hb5)
              obtain ⟨a5, c5, rfl⟩ := hu5.shape
              clear hu5 hb5 HPU
              go_wp2
              go_roundw
              case rel => exact ⟨k + 1, insK x s, HLT.out, by go_num, HN2, HOR, HB5⟩
              case measure => have := HLT.out; simp [intOf]; omega
    · obtain rfl : m = k := by omega
      obtain ⟨sa, sc, rfl⟩ := hS.out.shape
      clear hlt hk
      go_wp2
      go_ret2
      refine ⟨.slice sa s.length sc, by rw [hC.out]; rfl, by rw [hC.out]; exact hS.out, hB.out⟩
end Go.Proofs.Ytikjgbfbbkmmcaa
