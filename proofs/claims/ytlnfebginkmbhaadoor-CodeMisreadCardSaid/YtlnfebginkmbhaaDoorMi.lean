/- Walk of CodeMisread: all cases. -/
import Derived.Test.YtlnfebginkmbhaaDoorMh
namespace Go.Proofs.YtlnfebginkmbhaaDoor
open Go.RowKit

theorem soundS_iff {s : ByteArray} : soundS s = true ↔ nineB s = true ∧ soundB (vals s) = true := by unfold soundS; rw [Bool.and_eq_true]
theorem vals_opt (s : ByteArray) (k : Nat) : (vals s)[k]? = (s.data.toList[k]?).map valB := by unfold vals; rw [List.getElem?_map]
theorem sgn_ok {v : Int} (h : sgn v ≠ 0) : 0 ≤ v ∧ v ≤ 30 := by
  unfold sgn at h
  split at h
  · assumption
  · exact absurd rfl h
theorem toList_beq {a b : ByteArray} (h : a.toList = b.toList) : a.data.toList = b.data.toList := by
  rw [ByteArray.toList_eq, ByteArray.toList_eq] at h
  exact h
theorem bytes_eq {a b : ByteArray} (h : a.data.toList = b.data.toList) : a = b := by
  cases a; cases b
  exact congrArg ByteArray.mk (Array.toList_inj.1 h)
theorem swap_case {s : ByteArray} (h : soundS s = true) {k : Nat} (hk : k < 9) : SwapB s k := by
  obtain ⟨hn, hs⟩ := soundS_iff.1 h
  obtain ⟨hsz, hal⟩ := nineB_iff.1 hn
  by_cases h8 : k = 8
  · exact .inl h8
  by_cases he : s.data.toList[k]? = s.data.toList[k + 1]?
  · exact .inr (.inl ⟨by omega, he⟩)
  · refine .inr (.inr ⟨by omega, fun c0 c1 e0 e1 => ⟨fun e => he (by rw [e0, e1, e]), ?_⟩⟩)
    have hl : s.data.toList.length = 9 := hsz
    have v0 : 0 ≤ valB c0 := by
      unfold allSg at hal
      rw [List.all_eq_true] at hal
      simpa using hal c0 (List.mem_of_getElem? e0)
    have v1 : 0 ≤ valB c1 := by
      unfold allSg at hal
      rw [List.all_eq_true] at hal
      simpa using hal c1 (List.mem_of_getElem? e1)
    have hne : valB c0 ≠ valB c1 := fun e => he (by rw [e0, e1, ← sgn_back v0, e, sgn_back v1])
    cases hc : soundS (setS (setS s k c1) (k + 1) c0)
    · rfl
    · have h2 := (soundS_iff.1 hc).2
      rw [vals_setS, vals_setS] at h2
      rw [swap_unsound (vals_is9 hn) hs (by omega) (by rw [vals_opt, e0]; rfl) (by rw [vals_opt, e1]; rfl) hne] at h2
      cases h2
theorem misread_walk (s : ByteArray) (a x : Int) (w : World) (hw : Wts w) :
    Calls Tryd.prog 7 #[.string s, .int .i64 a, .int .i64 x] w fun e w' => e = .returned (.bool true) ∧ Below w.heap.size w w' := by
  cases h : soundS s
  · exact misread_no s a x w hw (.inl h)
  by_cases h1 : a < 0
  · exact misread_no s a x w hw (.inr (.inl ⟨h, h1⟩))
  by_cases h2 : 8 < a
  · exact misread_no s a x w hw (.inr (.inr (.inl ⟨h, by omega, h2⟩)))
  by_cases h3 : sgn x = 0
  · exact misread_no s a x w hw (.inr (.inr (.inr ⟨h, by omega, by omega, h3⟩)))
  have hx := sgn_ok h3
  obtain ⟨k, rfl⟩ : ∃ k : Nat, a = (k : Int) := ⟨a.toNat, by omega⟩
  have hk : k < 9 := by omega
  obtain ⟨hn, hs⟩ := soundS_iff.1 h
  have hsz := (nineB_iff.1 hn).1
  have hvx := valB_sgn hx
  have hnT : nineB (setS s k (sgn x)) = true := nine_setS hn (by rw [hvx]; exact hx.1)
  have hvT : vals (setS s k (sgn x)) = (vals s).set k x := by rw [vals_setS, hvx]
  cases hb : ((setS s k (sgn x)).toList == s.toList)
  · have hsT : soundB ((vals s).set k x) = false := by
      refine set_unsound (vals_is9 hn) hs hk hx fun e => ?_
      rw [vals_opt] at e
      have hl : k < s.data.toList.length := by rw [data_len]; omega
      rw [List.getElem?_eq_getElem hl, Option.map_some, Option.some.injEq] at e
      have hg : sgn x = s.data.toList[k] := by
        rw [← e]
        exact sgn_back (by rw [e]; exact hx.1)
      have e3 : setS s k (sgn x) = s := by
        refine bytes_eq ?_
        rw [setS_list, hg]
        exact List.set_getElem_self _
      rw [e3] at hb
      simp at hb
    refine misread_q s _ k x w hw h hk hx hsz rfl ?_ hb ?_ ?_ (swap_case h hk)
    · unfold soundS
      rw [hnT, hvT, hsT]
      rfl
    · rw [hvT]
      exact near_mem hn hs hk hx
    · exact fun W hW => cbeside_any _ _ W hnT rfl (by rw [hvT]; exact hsT) hW
  · refine misread_p s _ k x w hw h hk hx hsz rfl ?_ hb (swap_case h hk)
    have e1 := toList_beq (beq_iff_eq.1 hb)
    have e2 : vals (setS s k (sgn x)) = vals s := by unfold vals; rw [e1]
    unfold soundS
    rw [hnT, e2, hs]
    rfl
end Go.Proofs.YtlnfebginkmbhaaDoor
