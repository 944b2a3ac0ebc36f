/- Walks of text and mended: contracts. -/
import Derived.Test.YtmhkgpcnefcjaaaDoorDm
namespace Go.Proofs.YtmhkgpcnefcjaaaDoor
open Go.RowKit

theorem cvs_at (l : List Int) {k : Nat} (h : k < l.length) : (cvs l)[k]? = some (.int .i64 l[k]) := by
  unfold cvs; simp [h]
set_option maxRecDepth 100000 in
set_option maxHeartbeats 2000000 in
theorem ctext_any (l : List Int) (w : World) (h : l.length = 9) :
    Calls Tryd.prog 40 #[.agg (cvs l)] w fun e w' => e = .returned (.string (txt l)) ∧ Below w.heap.size w w' := by
  have HV := vb_new w l
  have HR := hid (textof_any _ w.heap.size 0 9 9 l h.symm (by omega) (by omega) (fun k hk => by rw [Nat.zero_add, HV.cell k, cvs_at l hk]))
  have HB := hid HV.low
  clear HV
  obtain ⟨a, b, c, d, e, f, g, h', i, rfl⟩ := nine_list h
  unfold cvs
  simp only [List.map_cons, List.map_nil]
  unfold cvs at HB HR
  simp only [List.map_cons, List.map_nil] at HB HR
  clear h
  go_enter Tryd.func40, Tryd.ntmps40
  go_wp2_with fail
  refine HR.out.mono ?_
  rintro e w2 ⟨rfl, hb⟩
  have HB2 := hid (bstep HB.out (by simp) hb)
  clear hb
  go_wp2_with fail
  go_ret
  exact ⟨rfl, HB2.out⟩
theorem Vb.other {w W : World} {b b2 : Nat} {l : List Int} (h : Vb w W b l) (hne : b ≠ b2) (h2 : w.heap.size ≤ b2) (k : Nat) (u : Value) : Vb w (W.setCell ⟨b2, k, none⟩ u) b l :=
  ⟨(heap_setCell_other _ _ _ _ hne).trans h.row, h.new, h.low.setCell (p := ⟨b2, k, none⟩) h2 _⟩
theorem cvs_set (l : List Int) (p : Nat) (x v : Int) : (cvs (l.set p x)).setIfInBounds p (.int .i64 v) = cvs (l.set p v) := by
  unfold cvs
  apply Array.ext'
  simp
/-- The first value that makes a code sound at a place. -/
def mv (l : List Int) (p : Nat) : Nat := ((List.range 31).find? fun v : Nat => soundB (l.set p (v : Int))).getD 30
def mend (l : List Int) (p : Nat) : List Int := l.set p (mv l p : Int)
theorem wsum_set {l : List Int} (hl : l.length = 9) {p : Nat} (hp : p < 9) (v : Int) : wsum 1 (l.set p v) = wsum 1 (l.set p 0) + ((p : Int) + 1) * v := by
  obtain ⟨a, b, c, d, e, f, g, h', i, rfl⟩ := nine_list hl
  have : p = 0 ∨ p = 1 ∨ p = 2 ∨ p = 3 ∨ p = 4 ∨ p = 5 ∨ p = 6 ∨ p = 7 ∨ p = 8 := by omega
  rcases this with rfl | rfl | rfl | rfl | rfl | rfl | rfl | rfl | rfl <;> simp only [List.set_cons_zero, List.set_cons_succ, wsum] <;> omega
theorem prime_all : ∀ p : Fin 9, ∀ c : Fin 31, ∃ v : Fin 31, (c.val + (p.val + 1) * v.val) % 31 = 0 := by decide
theorem mend_ex {l : List Int} (hl : l.length = 9) {p : Nat} (hp : p < 9) : ∃ v : Nat, v < 31 ∧ soundB (l.set p (v : Int)) = true := by
  obtain ⟨v, hv⟩ := prime_all ⟨p, hp⟩ ⟨(wsum 1 (l.set p 0) % 31).toNat, by omega⟩
  refine ⟨v.val, v.isLt, ?_⟩
  unfold soundB wt
  rw [wsum_set hl hp]
  simp only at hv
  have h2 : (((wsum 1 (l.set p 0) % 31).toNat + (p + 1) * v.val : Nat) : Int) % 31 = 0 := by omega
  rw [beq_iff_eq]
  have e : (((wsum 1 (l.set p 0) % 31).toNat + (p + 1) * v.val : Nat) : Int) = wsum 1 (l.set p 0) % 31 + ((p : Int) + 1) * (v.val : Int) := by
    rw [Int.natCast_add, Int.natCast_mul, Int.natCast_add]
    rw [Int.toNat_of_nonneg (by omega)]
    rfl
  rw [e] at h2
  generalize ((p : Int) + 1) * (v.val : Int) = z at *
  omega
theorem mv_of {l : List Int} {p v : Nat} (hv : v < 31) (hb : ∀ j < v, soundB (l.set p (j : Int)) = false) (h : soundB (l.set p (v : Int)) = true) : mv l p = v := by
  unfold mv
  have : (List.range 31).find? (fun v : Nat => soundB (l.set p (v : Int))) = some v := by
    rw [List.find?_range_eq_some]
    refine ⟨h, List.mem_range.2 hv, fun j hj => ?_⟩
    rw [hb j hj]; rfl
  rw [this]; rfl
theorem Vb.write {w W : World} {B : Nat} {a b c d e f g h i : Int} (H : Vb w W B zero9) : Vb w (set9 W B a b c d e f g h i) B [a, b, c, d, e, f, g, h, i] :=
  ((((((((H.set 0 _ (m := [a, 0, 0, 0, 0, 0, 0, 0, 0]) rfl).set 1 _ (m := [a, b, 0, 0, 0, 0, 0, 0, 0]) rfl).set 2 _ (m := [a, b, c, 0, 0, 0, 0, 0, 0]) rfl).set 3 _ (m := [a, b, c, d, 0, 0, 0, 0, 0]) rfl).set 4 _ (m := [a, b, c, d, e, 0, 0, 0, 0]) rfl).set 5 _ (m := [a, b, c, d, e, f, 0, 0, 0]) rfl).set 6 _ (m := [a, b, c, d, e, f, g, 0, 0]) rfl).set 7 _ (m := [a, b, c, d, e, f, g, h, 0]) rfl).set 8 _ (m := [a, b, c, d, e, f, g, h, i]) rfl
theorem is9_set {l : List Int} (h : Is9 l) (p : Nat) {v : Int} (hv : 0 ≤ v ∧ v ≤ 30) : Is9 (l.set p v) := by
  refine ⟨by rw [List.length_set]; exact h.1, fun x hx => ?_⟩
  rcases List.mem_or_eq_of_mem_set hx with h1 | h1
  · exact h.2 x h1
  · subst h1; exact hv
set_option maxRecDepth 100000 in
set_option maxHeartbeats 4000000 in
theorem mended_any (l : List Int) (p : Nat) (w : World) (h : Is9 l) (hp : p < 9) (hw : Wts w) :
    Calls Tryd.prog 39 #[.agg (cvs l), .int .i64 (p : Int)] w fun e w' => e = .returned (.agg (cvs (mend l p))) ∧ Below w.heap.size w w' := by
  have HW := hid hw
  have H9 := hid h
  have HA0 := vb_new w l
  have HA1 := hid (HA0.keep ((Below.refl (w.alloc (.cells (cvs l) 66)).heap.size _).alloc (Nat.le_refl _) (.cells (cvs zero9) 66)))
  have HA2 := hid (show Vb w ((w.alloc (.cells (cvs l) 66)).alloc (.cells (cvs zero9) 66)) (w.heap.size + 1) zero9 from
    ⟨by have := heap_alloc_new (w.alloc (.cells (cvs l) 66)) (.cells (cvs zero9) 66); simpa using this, Nat.le_succ _, HA1.out.low⟩)
  have hset : l.set p (l[p]'(by rw [h.1]; exact hp)) = l := List.set_getElem_self _
  have HS := hid hset
  obtain ⟨x0, hx0⟩ : ∃ x, x = l[p]'(by rw [h.1]; exact hp) := ⟨_, rfl⟩
  rw [← hx0] at hset
  obtain ⟨a, b, c, d, e, f, g, h', i, hl⟩ := nine_list h.1
  have HL := hid hl
  have hcv : Value.agg (cvs l) = .agg #[.int .i64 a, .int .i64 b, .int .i64 c, .int .i64 d, .int .i64 e, .int .i64 f, .int .i64 g, .int .i64 h', .int .i64 i] := by rw [hl]; rfl
  have hcv2 : cvs l = #[.int .i64 a, .int .i64 b, .int .i64 c, .int .i64 d, .int .i64 e, .int .i64 f, .int .i64 g, .int .i64 h', .int .i64 i] := by rw [hl]; rfl
  have hcz : cvs zero9 = #[.int .i64 0, .int .i64 0, .int .i64 0, .int .i64 0, .int .i64 0, .int .i64 0, .int .i64 0, .int .i64 0, .int .i64 0] := rfl
  rw [hcv]
  rw [hcv2, hcz] at HA1 HA2
  rw [← hset] at HA1
  have hp9 : (p : Int) < 9 := by omega
  clear h hw HA0 hcv hcv2 hcz hl HS hx0
  clear hset
  go_enter Tryd.func39, Tryd.ntmps39
  go_wp2_with fail
  generalize World.alloc (World.alloc w _) _ = W1 at *
  go_loopw [6] (fun t wr => ∃ (v : Nat) (x : Int), v ≤ 31 ∧ t = .int .i64 (v : Int) ∧ Hid (∀ j < v, soundB (l.set p (j : Int)) = false) ∧ Hid (Vb w wr w.heap.size (l.set p x)) ∧ Hid (Vb w wr (w.heap.size + 1) zero9)) (fun t _ => 31 - (intOf t).toNat)
  case atStart => exact ⟨0, x0, by omega, rfl, fun j hj => absurd hj (Nat.not_lt_zero j), HA1, HA2⟩
  case round =>
    obtain ⟨v, x, hv, rfl, hno, HX, HZ⟩ := hrel
    by_cases hlt : v < 31
    · have hlt' : (v : Int) < 31 := by omega
      have hc := HX.out.cell p
      rw [cvs_at _ (show p < (l.set p x).length by rw [List.length_set, H9.out.1]; exact hp)] at hc
      have hf := HX.out.frz p
      have HN1 := hid (HX.out.set p (.int .i64 (v : Int)) (cvs_set l p x v))
      have HN2 := hid (HZ.out.other (show w.heap.size + 1 ≠ w.heap.size by omega) (Nat.le_refl _) p (.int .i64 (v : Int)))
      generalize ((l.set p x)[p]'_) = y at hc
      have HLT := hid hlt
      have hS9 : Is9 (l.set p (v : Int)) := is9_set H9.out p (by omega)
      have HS9 := hid hS9
      obtain ⟨a2, b2, c2, d2, e2, f2, g2, h2, i2, hl2⟩ := nine_list hS9.1
      have HL2 := hid hl2
      have hn1 := HN1.out
      rw [hl2] at hn1
      obtain ⟨b0, b1, b2', b3, b4, b5, b6, b7, b8⟩ := hn1.cells
      have HR := hid (sound_any (l.set p (v : Int)) _ hS9 (HW.out.keep HN1.out.low))
      rw [hl2] at HR
      have HSB := hid (show soundB [a2, b2, c2, d2, e2, f2, g2, h2, i2] = soundB (l.set p (v : Int)) by rw [hl2])
      clear hl2 hS9 hn1 hlt
      cases hsd : soundB (l.set p (v : Int))
      · have HSD := hid hsd
        clear hsd
        go_wp2_with fail
        refine HR.out.mono ?_
        rintro e3 w2 ⟨rfl, hb⟩
        rw [HSB.out, HSD.out]
        have HM1 := hid (HN1.out.keep hb)
        have HM2 := hid (HN2.out.keep hb)
        clear hb b0 b1 b2' b3 b4 b5 b6 b7 b8
        go_wp2_with fail
        go_roundw
        case rel =>
          refine ⟨v + 1, (v : Int), HLT.out, by go_num, fun j hj => ?_, HM1, HM2⟩
          rcases Nat.lt_succ_iff_lt_or_eq.1 hj with h1 | h1
          · exact hno.out j h1
          · subst h1; exact HSD.out
        case measure => have := HLT.out; simp [intOf]; omega
      · have HSD := hid hsd
        clear hsd
        go_wp2_with fail
        refine HR.out.mono ?_
        rintro e3 w2 ⟨rfl, hb⟩
        rw [HSB.out, HSD.out]
        have HN3 := HN1.out.keep hb
        have HN4 := HN2.out.keep hb
        rw [HL2.out] at HN3
        clear hb b0 b1 b2' b3 b4 b5 b6 b7 b8
        obtain ⟨b0, b1, b2', b3, b4, b5, b6, b7, b8⟩ := HN3.cells
        have fz0 := HN4.frz 0
        have fz1 := HN4.frz 1
        have fz2 := HN4.frz 2
        have fz3 := HN4.frz 3
        have fz4 := HN4.frz 4
        have fz5 := HN4.frz 5
        have fz6 := HN4.frz 6
        have fz7 := HN4.frz 7
        have fz8 := HN4.frz 8
        have hz4 : Vb w w2 (w.heap.size + 1) [0, 0, 0, 0, 0, 0, 0, 0, 0] := HN4
        obtain ⟨z0, z1, z2, z3, z4, z5, z6, z7, z8⟩ := hz4.cells
        have HE := hid (show Vb w (set9 w2 (w.heap.size + 1) a2 b2 c2 d2 e2 f2 g2 h2 i2) (w.heap.size + 1) [a2, b2, c2, d2, e2, f2, g2, h2, i2] from HN4.write)
        have HMV := hid (show mend l p = [a2, b2, c2, d2, e2, f2, g2, h2, i2] by unfold mend; rw [mv_of HLT.out hno.out HSD.out]; exact HL2.out)
        clear HN3 HN4 hz4
        go_wp2_with fail
        have HC := HE.out.cells
        unfold set9 at HC
        obtain ⟨c0, c1, c2', c3, c4, c5, c6, c7, c8⟩ := HC
        exact bodyPost_ret (v := .agg (cvs [a2, b2, c2, d2, e2, f2, g2, h2, i2])) (by simp [results, Tryd.results39, go_sem, c0, c1, c2', c3, c4, c5, c6, c7, c8, cvs]) rfl ⟨by rw [HMV.out], HE.out.low⟩
    · exfalso
      obtain rfl : v = 31 := by omega
      obtain ⟨j, hj, hs⟩ := mend_ex H9.out.1 hp
      rw [hno.out j hj] at hs
      cases hs
end Go.Proofs.YtmhkgpcnefcjaaaDoor
