/- Walks of the reference's Weight and Sound, of Count at 2: contracts. -/
import Derived.Test.YtmhkgpcnefcjaaaDoorDk
namespace Go.Proofs.YtmhkgpcnefcjaaaDoor
open Go.RowKit

theorem vals_get (s : ByteArray) (k : Nat) (h : k < s.size) {l : List Int} (hl : vals s = l) (h' : k < l.length) : valB (s[k]'h) = l[k]'h' := by
  subst hl
  exact (vals_at s k h).symm
set_option maxRecDepth 100000 in
set_option maxHeartbeats 4000000 in
theorem xweight_any (s : ByteArray) (w : World) :
    Calls Tryd.prog 68 #[.string s] w fun e w' => e = .returned (weightT s) ∧ w' = w := by
  cases h : nineB s
  · have HN := hid h
    have HE := hid (show weightT s = .tuple #[.int .i64 0, .int .i64 2] by unfold weightT; rw [h]; rfl)
    clear h
    go_enter Tryd.func68, Tryd.ntmps68
    go_wp2_with (go_at_call 38; refine (xnine_any _ _).mono ?_; rintro e w' ⟨rfl, rfl⟩; rw [HN.out])
    go_ret2
    exact ⟨by rw [HE.out]; rfl, rfl⟩
  · have HN := hid h
    obtain ⟨hs, hal⟩ := nineB_iff.1 h
    have h9 := vals_is9 h
    obtain ⟨a, b, c, d, e, f, g, h', i, hl⟩ := nine_list h9.1
    have hx := h9.2
    rw [hl] at hx
    simp only [List.mem_cons, List.not_mem_nil, or_false, forall_eq_or_imp, forall_eq] at hx
    obtain ⟨ha, hb, hc, hd, he, hf, hg, hh, hi⟩ := hx
    have HE := hid (show weightT s = .tuple #[.int .i64 ((a + 2 * b + 3 * c + 4 * d + 5 * e + 6 * f + 7 * g + 8 * h' + 9 * i) % 31), .int .i64 0] by
      unfold weightT
      rw [h, if_pos rfl, hl]
      have : wt [a, b, c, d, e, f, g, h', i] = (a + 2 * b + 3 * c + 4 * d + 5 * e + 6 * f + 7 * g + 8 * h' + 9 * i) % 31 := by
        unfold wt
        simp only [wsum]
        congr 1
        omega
      rw [this])
    have y0 := vals_get s 0 (by omega) hl (by simp)
    simp only [List.getElem_cons_zero] at y0
    have y1 := vals_get s 1 (by omega) hl (by simp)
    simp only [List.getElem_cons_zero, List.getElem_cons_succ] at y1
    have y2 := vals_get s 2 (by omega) hl (by simp)
    simp only [List.getElem_cons_zero, List.getElem_cons_succ] at y2
    have y3 := vals_get s 3 (by omega) hl (by simp)
    simp only [List.getElem_cons_zero, List.getElem_cons_succ] at y3
    have y4 := vals_get s 4 (by omega) hl (by simp)
    simp only [List.getElem_cons_zero, List.getElem_cons_succ] at y4
    have y5 := vals_get s 5 (by omega) hl (by simp)
    simp only [List.getElem_cons_zero, List.getElem_cons_succ] at y5
    have y6 := vals_get s 6 (by omega) hl (by simp)
    simp only [List.getElem_cons_zero, List.getElem_cons_succ] at y6
    have y7 := vals_get s 7 (by omega) hl (by simp)
    simp only [List.getElem_cons_zero, List.getElem_cons_succ] at y7
    have y8 := vals_get s 8 (by omega) hl (by simp)
    simp only [List.getElem_cons_zero, List.getElem_cons_succ] at y8
    clear h hal h9 hl
    go_enter Tryd.func68, Tryd.ntmps68
    go_wp2_with (go_at_call 38; refine (xnine_any _ _).mono ?_; rintro e w' ⟨rfl, rfl⟩; rw [HN.out])
    refine wp_loop_rounds 10 ?_
    iterate 10 (rw [rounds_succ]; go_wp2_with (go_at_call 81; refine (xvalue_any _ _).mono ?_; rintro e w' ⟨rfl, rfl⟩))
    go_ret2
    exact ⟨by rw [HE.out]; rfl, rfl⟩
theorem weightT_cases (s : ByteArray) : (nineB s = true ∧ weightT s = .tuple #[.int .i64 (wt (vals s)), .int .i64 0] ∧ soundS s = (wt (vals s) == 0)) ∨ (nineB s = false ∧ weightT s = .tuple #[.int .i64 0, .int .i64 2] ∧ soundS s = false) := by
  cases h : nineB s
  · right; refine ⟨rfl, ?_, ?_⟩
    · unfold weightT; rw [h]; rfl
    · unfold soundS; rw [h]; rfl
  · left; refine ⟨rfl, ?_, ?_⟩
    · unfold weightT; rw [h]; rfl
    · unfold soundS; rw [h]; rfl
set_option maxRecDepth 100000 in
set_option maxHeartbeats 1000000 in
theorem xsound_any (s : ByteArray) (w : World) :
    Calls Tryd.prog 42 #[.string s] w fun e w' => e = .returned (.bool (soundS s)) ∧ w' = w := by
  rcases weightT_cases s with ⟨_, h2, h3⟩ | ⟨_, h2, h3⟩
  all_goals
    have H2 := hid h2
    have H3 := hid h3
    clear h2 h3
    go_enter Tryd.func42, Tryd.ntmps42
    go_wp2_with (go_at_call 68; refine (xweight_any _ _).mono ?_; rintro e w' ⟨rfl, rfl⟩; rw [H2.out])
    go_ret
    exact ⟨by rw [H3.out]; rfl, rfl⟩
set_option maxRecDepth 100000 in
set_option maxHeartbeats 1000000 in
theorem count_two (w : World) :
    Calls Tryd.prog 35 #[.int .i64 2] w fun e w' => e = .returned (.tuple #[.int .i64 1080, .int .i64 0]) ∧ w' = w := by
  have hb : inB 2 0 9 = true := by decide
  have HB := hid hb
  clear hb
  go_enter Tryd.func35, Tryd.ntmps35
  go_wp2_with (go_at_call 56; refine (cwithin_any _ _ _ _).mono ?_; rintro e w' ⟨rfl, rfl⟩; rw [HB.out])
  refine wp_loop_rounds 3 ?_
  iterate 3 (rw [rounds_succ]; go_wp2_with fail)
  go_ret2
  exact ⟨rfl, rfl⟩
end Go.Proofs.YtmhkgpcnefcjaaaDoor
