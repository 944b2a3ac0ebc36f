/- Walks of weight, sound, Weight, Sound: contracts. -/
import Derived.Test.YtmhkgpcnefcjaaaDoorDj
namespace Go.Proofs.YtmhkgpcnefcjaaaDoor
open Go.RowKit

/-- The package's weights as they are laid. -/
def Wts (w : World) : Prop := ∀ k : Nat, k < 9 → w.cell? ⟨0, k, none⟩ = some (.int .i64 ((k : Int) + 1))
theorem Wts.keep {w w2 : World} (h : Wts w) (hb : Below w.heap.size w w2) : Wts w2 := fun k hk => keep_cell hb (h k hk)
theorem Wts.nine {w : World} (h : Wts w) : w.cell? ⟨0, 0, none⟩ = some (.int .i64 1) ∧ w.cell? ⟨0, 1, none⟩ = some (.int .i64 2) ∧ w.cell? ⟨0, 2, none⟩ = some (.int .i64 3) ∧ w.cell? ⟨0, 3, none⟩ = some (.int .i64 4) ∧ w.cell? ⟨0, 4, none⟩ = some (.int .i64 5) ∧ w.cell? ⟨0, 5, none⟩ = some (.int .i64 6) ∧ w.cell? ⟨0, 6, none⟩ = some (.int .i64 7) ∧ w.cell? ⟨0, 7, none⟩ = some (.int .i64 8) ∧ w.cell? ⟨0, 8, none⟩ = some (.int .i64 9) :=
  ⟨h 0 (by omega), h 1 (by omega), h 2 (by omega), h 3 (by omega), h 4 (by omega), h 5 (by omega), h 6 (by omega), h 7 (by omega), h 8 (by omega)⟩
def wsum : Int → List Int → Int
  | _, [] => 0
  | k, x :: l => k * x + wsum (k + 1) l
def wt (l : List Int) : Int := wsum 1 l % 31
/-- Nine values. -/
def Is9 (l : List Int) : Prop := l.length = 9 ∧ ∀ x ∈ l, 0 ≤ x ∧ x ≤ 30
theorem info_int : (Tryd.prog.info? 3).map (·.size) = some 1 := by kernel_rfl
theorem ix9_0 (a b c d e f g h i : Int) (w : World) : Sem.run Tryd.prog (Instr.index 66 (.agg #[.int .i64 a, .int .i64 b, .int .i64 c, .int .i64 d, .int .i64 e, .int .i64 f, .int .i64 g, .int .i64 h, .int .i64 i]) (.int .i64 0)) w = .ok (.int .i64 a) w := by
  obtain ⟨i0, hi, hs⟩ : ∃ i, Tryd.prog.info? 3 = some i ∧ i.size = 1 := by
    have h1 := info_int
    cases h2 : Tryd.prog.info? 3 with
    | none => rw [h2] at h1; cases h1
    | some i => rw [h2] at h1; exact ⟨i, rfl, Option.some.inj h1⟩
  simp [Instr.index, run_underlying Tryd.underlying66, asIntOf, sizeOf, typeInfo, hi, hs, go_sem]
theorem ix9_1 (a b c d e f g h i : Int) (w : World) : Sem.run Tryd.prog (Instr.index 66 (.agg #[.int .i64 a, .int .i64 b, .int .i64 c, .int .i64 d, .int .i64 e, .int .i64 f, .int .i64 g, .int .i64 h, .int .i64 i]) (.int .i64 1)) w = .ok (.int .i64 b) w := by
  obtain ⟨i0, hi, hs⟩ : ∃ i, Tryd.prog.info? 3 = some i ∧ i.size = 1 := by
    have h1 := info_int
    cases h2 : Tryd.prog.info? 3 with
    | none => rw [h2] at h1; cases h1
    | some i => rw [h2] at h1; exact ⟨i, rfl, Option.some.inj h1⟩
  simp [Instr.index, run_underlying Tryd.underlying66, asIntOf, sizeOf, typeInfo, hi, hs, go_sem]
theorem ix9_2 (a b c d e f g h i : Int) (w : World) : Sem.run Tryd.prog (Instr.index 66 (.agg #[.int .i64 a, .int .i64 b, .int .i64 c, .int .i64 d, .int .i64 e, .int .i64 f, .int .i64 g, .int .i64 h, .int .i64 i]) (.int .i64 2)) w = .ok (.int .i64 c) w := by
  obtain ⟨i0, hi, hs⟩ : ∃ i, Tryd.prog.info? 3 = some i ∧ i.size = 1 := by
    have h1 := info_int
    cases h2 : Tryd.prog.info? 3 with
    | none => rw [h2] at h1; cases h1
    | some i => rw [h2] at h1; exact ⟨i, rfl, Option.some.inj h1⟩
  simp [Instr.index, run_underlying Tryd.underlying66, asIntOf, sizeOf, typeInfo, hi, hs, go_sem]
theorem ix9_3 (a b c d e f g h i : Int) (w : World) : Sem.run Tryd.prog (Instr.index 66 (.agg #[.int .i64 a, .int .i64 b, .int .i64 c, .int .i64 d, .int .i64 e, .int .i64 f, .int .i64 g, .int .i64 h, .int .i64 i]) (.int .i64 3)) w = .ok (.int .i64 d) w := by
  obtain ⟨i0, hi, hs⟩ : ∃ i, Tryd.prog.info? 3 = some i ∧ i.size = 1 := by
    have h1 := info_int
    cases h2 : Tryd.prog.info? 3 with
    | none => rw [h2] at h1; cases h1
    | some i => rw [h2] at h1; exact ⟨i, rfl, Option.some.inj h1⟩
  simp [Instr.index, run_underlying Tryd.underlying66, asIntOf, sizeOf, typeInfo, hi, hs, go_sem]
theorem ix9_4 (a b c d e f g h i : Int) (w : World) : Sem.run Tryd.prog (Instr.index 66 (.agg #[.int .i64 a, .int .i64 b, .int .i64 c, .int .i64 d, .int .i64 e, .int .i64 f, .int .i64 g, .int .i64 h, .int .i64 i]) (.int .i64 4)) w = .ok (.int .i64 e) w := by
  obtain ⟨i0, hi, hs⟩ : ∃ i, Tryd.prog.info? 3 = some i ∧ i.size = 1 := by
    have h1 := info_int
    cases h2 : Tryd.prog.info? 3 with
    | none => rw [h2] at h1; cases h1
    | some i => rw [h2] at h1; exact ⟨i, rfl, Option.some.inj h1⟩
  simp [Instr.index, run_underlying Tryd.underlying66, asIntOf, sizeOf, typeInfo, hi, hs, go_sem]
theorem ix9_5 (a b c d e f g h i : Int) (w : World) : Sem.run Tryd.prog (Instr.index 66 (.agg #[.int .i64 a, .int .i64 b, .int .i64 c, .int .i64 d, .int .i64 e, .int .i64 f, .int .i64 g, .int .i64 h, .int .i64 i]) (.int .i64 5)) w = .ok (.int .i64 f) w := by
  obtain ⟨i0, hi, hs⟩ : ∃ i, Tryd.prog.info? 3 = some i ∧ i.size = 1 := by
    have h1 := info_int
    cases h2 : Tryd.prog.info? 3 with
    | none => rw [h2] at h1; cases h1
    | some i => rw [h2] at h1; exact ⟨i, rfl, Option.some.inj h1⟩
  simp [Instr.index, run_underlying Tryd.underlying66, asIntOf, sizeOf, typeInfo, hi, hs, go_sem]
theorem ix9_6 (a b c d e f g h i : Int) (w : World) : Sem.run Tryd.prog (Instr.index 66 (.agg #[.int .i64 a, .int .i64 b, .int .i64 c, .int .i64 d, .int .i64 e, .int .i64 f, .int .i64 g, .int .i64 h, .int .i64 i]) (.int .i64 6)) w = .ok (.int .i64 g) w := by
  obtain ⟨i0, hi, hs⟩ : ∃ i, Tryd.prog.info? 3 = some i ∧ i.size = 1 := by
    have h1 := info_int
    cases h2 : Tryd.prog.info? 3 with
    | none => rw [h2] at h1; cases h1
    | some i => rw [h2] at h1; exact ⟨i, rfl, Option.some.inj h1⟩
  simp [Instr.index, run_underlying Tryd.underlying66, asIntOf, sizeOf, typeInfo, hi, hs, go_sem]
theorem ix9_7 (a b c d e f g h i : Int) (w : World) : Sem.run Tryd.prog (Instr.index 66 (.agg #[.int .i64 a, .int .i64 b, .int .i64 c, .int .i64 d, .int .i64 e, .int .i64 f, .int .i64 g, .int .i64 h, .int .i64 i]) (.int .i64 7)) w = .ok (.int .i64 h) w := by
  obtain ⟨i0, hi, hs⟩ : ∃ i, Tryd.prog.info? 3 = some i ∧ i.size = 1 := by
    have h1 := info_int
    cases h2 : Tryd.prog.info? 3 with
    | none => rw [h2] at h1; cases h1
    | some i => rw [h2] at h1; exact ⟨i, rfl, Option.some.inj h1⟩
  simp [Instr.index, run_underlying Tryd.underlying66, asIntOf, sizeOf, typeInfo, hi, hs, go_sem]
theorem ix9_8 (a b c d e f g h i : Int) (w : World) : Sem.run Tryd.prog (Instr.index 66 (.agg #[.int .i64 a, .int .i64 b, .int .i64 c, .int .i64 d, .int .i64 e, .int .i64 f, .int .i64 g, .int .i64 h, .int .i64 i]) (.int .i64 8)) w = .ok (.int .i64 i) w := by
  obtain ⟨i0, hi, hs⟩ : ∃ i, Tryd.prog.info? 3 = some i ∧ i.size = 1 := by
    have h1 := info_int
    cases h2 : Tryd.prog.info? 3 with
    | none => rw [h2] at h1; cases h1
    | some i => rw [h2] at h1; exact ⟨i, rfl, Option.some.inj h1⟩
  simp [Instr.index, run_underlying Tryd.underlying66, asIntOf, sizeOf, typeInfo, hi, hs, go_sem]
set_option maxRecDepth 100000 in
set_option maxHeartbeats 4000000 in
theorem weight_any (l : List Int) (w : World) (h : Is9 l) (hw : Wts w) :
    Calls Tryd.prog 71 #[.agg (cvs l)] w fun e w' => e = .returned (.int .i64 (wt l)) ∧ Below w.heap.size w w' := by
  obtain ⟨a, b, c, d, e, f, g, h', i, rfl⟩ := nine_list h.1
  have hx := h.2
  simp only [List.mem_cons, List.not_mem_nil, or_false, forall_eq_or_imp, forall_eq] at hx
  obtain ⟨ha, hb, hc, hd, he, hf, hg, hh, hi⟩ := hx
  have HB := hid ((Below.refl w.heap.size w).alloc (Nat.le_refl _) (.cells (cvs [a, b, c, d, e, f, g, h', i]) 66))
  obtain ⟨g0, g1, g2, g3, g4, g5, g6, g7, g8⟩ := (hw.keep HB.out).nine
  have HE := hid (show wt [a, b, c, d, e, f, g, h', i] = (a + 2 * b + 3 * c + 4 * d + 5 * e + 6 * f + 7 * g + 8 * h' + 9 * i) % 31 by
    unfold wt
    simp only [wsum]
    congr 1
    omega)
  unfold cvs
  simp only [List.map_cons, List.map_nil]
  unfold cvs at g0 g1 g2 g3 g4 g5 g6 g7 g8 HB
  simp only [List.map_cons, List.map_nil] at g0 g1 g2 g3 g4 g5 g6 g7 g8 HB
  clear h hw
  have ix0 := fun w => ix9_0 a b c d e f g h' i w
  have ix1 := fun w => ix9_1 a b c d e f g h' i w
  have ix2 := fun w => ix9_2 a b c d e f g h' i w
  have ix3 := fun w => ix9_3 a b c d e f g h' i w
  have ix4 := fun w => ix9_4 a b c d e f g h' i w
  have ix5 := fun w => ix9_5 a b c d e f g h' i w
  have ix6 := fun w => ix9_6 a b c d e f g h' i w
  have ix7 := fun w => ix9_7 a b c d e f g h' i w
  have ix8 := fun w => ix9_8 a b c d e f g h' i w
  go_enter Tryd.func71, Tryd.ntmps71
  go_wp2_with fail
  refine wp_loop_rounds 10 ?_
  iterate 10 (rw [rounds_succ]; go_wp2_with fail)
  go_ret
  exact ⟨ret_int HE.out.symm, HB.out⟩
def soundB (l : List Int) : Bool := wt l == 0
set_option maxRecDepth 100000 in
set_option maxHeartbeats 1000000 in
theorem sound_any (l : List Int) (w : World) (h : Is9 l) (hw : Wts w) :
    Calls Tryd.prog 45 #[.agg (cvs l)] w fun e w' => e = .returned (.bool (soundB l)) ∧ Below w.heap.size w w' := by
  have HW := hid hw
  have H9 := hid h
  obtain ⟨a, b, c, d, e, f, g, h', i, rfl⟩ := nine_list h.1
  have HB := hid ((Below.refl w.heap.size w).alloc (Nat.le_refl _) (.cells (cvs [a, b, c, d, e, f, g, h', i]) 66))
  have HR := hid (weight_any [a, b, c, d, e, f, g, h', i] _ h (hw.keep HB.out))
  unfold cvs
  simp only [List.map_cons, List.map_nil]
  unfold cvs at HB HR
  simp only [List.map_cons, List.map_nil] at HB HR
  clear h hw
  go_enter Tryd.func45, Tryd.ntmps45
  go_wp2_with fail
  refine HR.out.mono ?_
  rintro e w2 ⟨rfl, hb⟩
  have HB2 := hid (bstep HB.out (by simp) hb)
  clear hb
  go_wp2_with fail
  go_ret
  exact ⟨ret_bool rfl, HB2.out⟩
theorem vals_is9 {s : ByteArray} (h : nineB s = true) : Is9 (vals s) := by
  obtain ⟨hs, hal⟩ := nineB_iff.1 h
  refine ⟨by rw [vals_len]; exact hs, fun x hx => ?_⟩
  obtain ⟨j, hj, rfl⟩ := List.getElem_of_mem hx
  rw [vals_len] at hj
  rw [vals_at s j hj]
  exact ⟨allSg_at hal j hj, (valB_bd _).2⟩
def soundS (s : ByteArray) : Bool := nineB s && soundB (vals s)
set_option maxRecDepth 100000 in
set_option maxHeartbeats 1000000 in
theorem csound_ok (s : ByteArray) (w : World) (h : nineB s = true) (hw : Wts w) :
    Calls Tryd.prog 32 #[.string s] w fun e w' => e = .returned (.bool (soundS s)) ∧ Below w.heap.size w w' := by
  have HW := hid hw
  have H9 := hid (vals_is9 h)
  have HN := hid h
  have HE := hid (show soundS s = soundB (vals s) by unfold soundS; rw [h, Bool.true_and])
  clear h hw
  go_enter Tryd.func32, Tryd.ntmps32
  go_wp2_with fail
  refine (values_ok s _ HN.out).mono ?_
  rintro e w1 ⟨rfl, hb⟩
  obtain ⟨a, b, c, d, e, f, g, h', i, hl⟩ := nine_list H9.out.1
  have HL9 := hid (show Is9 [a, b, c, d, e, f, g, h', i] by rw [← hl]; exact H9.out)
  rw [hl]
  have HLL := hid hl
  have HA := hid (bstep hb hb.size ((Below.refl w1.heap.size w1).alloc (Nat.le_refl _) (.cells (cvs [a, b, c, d, e, f, g, h', i]) 66)))
  have HR := hid (sound_any [a, b, c, d, e, f, g, h', i] _ HL9.out (HW.out.keep HA.out))
  clear hl hb
  unfold cvs
  simp only [List.map_cons, List.map_nil]
  unfold cvs at HA HR
  simp only [List.map_cons, List.map_nil] at HA HR
  go_wp2_with fail
  refine HR.out.mono ?_
  rintro e2 w2 ⟨rfl, hb⟩
  have HB2 := hid (bstep HA.out HA.out.size hb)
  clear hb
  go_wp2_with fail
  go_ret
  exact ⟨by rw [HE.out, HLL.out]; rfl, HB2.out⟩
set_option maxRecDepth 100000 in
set_option maxHeartbeats 1000000 in
theorem csound_bad (s : ByteArray) (w : World) (h : nineB s = false) :
    Calls Tryd.prog 32 #[.string s] w fun e w' => e = .returned (.bool (soundS s)) ∧ Below w.heap.size w w' := by
  have HN := hid h
  have HE := hid (show soundS s = false by unfold soundS; rw [h, Bool.false_and])
  clear h
  go_enter Tryd.func32, Tryd.ntmps32
  go_wp2_with fail
  refine (values_bad s _ HN.out).mono ?_
  rintro e w1 ⟨rfl, hb⟩
  have HA := hid (bstep hb hb.size ((Below.refl w1.heap.size w1).alloc (Nat.le_refl _) (.cells (cvs zero9) 66)))
  clear hb
  unfold cvs zero9 at HA
  unfold cvs zero9
  simp only [List.map_cons, List.map_nil] at HA
  simp only [List.map_cons, List.map_nil]
  go_wp2_with fail
  go_ret
  exact ⟨by rw [HE.out]; rfl, HA.out⟩
theorem csound_any (s : ByteArray) (w : World) (hw : Wts w) :
    Calls Tryd.prog 32 #[.string s] w fun e w' => e = .returned (.bool (soundS s)) ∧ Below w.heap.size w w' := by
  cases h : nineB s
  · exact csound_bad s w h
  · exact csound_ok s w h hw
/-- What Weight answers. -/
def weightT (s : ByteArray) : Value := if nineB s = true then .tuple #[.int .i64 (wt (vals s)), .int .i64 0] else .tuple #[.int .i64 0, .int .i64 2]
end Go.Proofs.YtmhkgpcnefcjaaaDoor
