/- Walk of the code's Read: contracts. -/
import Derived.Test.YtmhkgpcnefcjaaaDoorCa
import Derived.StillTailTactics
namespace Go.Proofs.YtmhkgpcnefcjaaaDoor
open Go.RowKit

theorem Bx.put5 {w W : World} {b : Nat} {T : TypeId} {x y z u v : Value} (p q r s t : Value) (h : Bx w W b T #[x, y, z, u, v]) : Bx w (((((W.setCell ⟨b, 0, none⟩ p).setCell ⟨b, 1, none⟩ q).setCell ⟨b, 2, none⟩ r).setCell ⟨b, 3, none⟩ s).setCell ⟨b, 4, none⟩ t) b T #[p, q, r, s, t] :=
  ((((h.set 0 p (ms := #[p, y, z, u, v]) rfl).set 1 q (ms := #[p, q, z, u, v]) rfl).set 2 r (ms := #[p, q, r, u, v]) rfl).set 3 s (ms := #[p, q, r, s, v]) rfl).set 4 t (ms := #[p, q, r, s, t]) rfl
theorem Bx.fr5 {w W : World} {b : Nat} {T : TypeId} {cs : Array Value} (h : Bx w W b T cs) : W.frozen? ⟨b, 0, none⟩ = false ∧ W.frozen? ⟨b, 1, none⟩ = false ∧ W.frozen? ⟨b, 2, none⟩ = false ∧ W.frozen? ⟨b, 3, none⟩ = false ∧ W.frozen? ⟨b, 4, none⟩ = false := ⟨h.frz 0, h.frz 1, h.frz 2, h.frz 3, h.frz 4⟩
/-- No stamp. -/
def zst : Value := .agg #[.string ⟨#[]⟩, .string ⟨#[]⟩, .string ⟨#[]⟩, .int .i64 0, .int .i64 0]
def readV (s : ByteArray) (u v7 : Int) : Option Int → Value
  | some z => .tuple #[.agg #[.string (s.extract 0 1), .string (s.extract 1 3), .string (s.extract 6 7), .int .i64 (soY z + u), .int .i64 v7], .int .i64 0]
  | none => .tuple #[zst, .int .i64 8]
set_option maxRecDepth 100000 in
set_option maxHeartbeats 2000000 in
theorem cread_2 (s : ByteArray) (n : Int) (w : World) (h : nineB s = false) :
    Calls Tryd.prog 31 #[.string s, .int .i64 n] w fun e w' => e = .returned (.tuple #[zst, .int .i64 2]) ∧ Below w.heap.size w w' := by
  have HN := hid h
  have HX := hid (bx_new w 48 #[.string ⟨#[]⟩, .string ⟨#[]⟩, .string ⟨#[]⟩, .int .i64 0, .int .i64 0])
  clear h
  go_enter Tryd.func31, Tryd.ntmps31
  go_wp2_with fail
  refine (values_bad s _ HN.out).mono ?_
  rintro e w1 ⟨rfl, hb⟩
  have HX1 := (HX.out.keep hb).keep ((Below.refl w1.heap.size w1).alloc (Nat.le_refl _) (.cells (cvs zero9) 66))
  clear hb HX
  unfold cvs zero9 at HX1
  unfold cvs zero9
  simp only [List.map_cons, List.map_nil] at HX1
  simp only [List.map_cons, List.map_nil]
  obtain ⟨c0, c1, c2, c3, c4⟩ := HX1.five
  obtain ⟨f0, f1, f2, f3, f4⟩ := HX1.fr5
  have HQ := hid (HX1.put5 (.string ⟨#[]⟩) (.string ⟨#[]⟩) (.string ⟨#[]⟩) (.int .i64 0) (.int .i64 0))
  clear HX1
  go_wp2_with fail
  obtain ⟨x0, x1, x2, x3, x4⟩ := HQ.out.five
  exact bodyPost_ret (v := .tuple #[zst, .int .i64 2]) (by simp [results, Tryd.results31, go_sem, x0, x1, x2, x3, x4, zst]) rfl ⟨rfl, HQ.out.low⟩
set_option maxRecDepth 100000 in
set_option maxHeartbeats 2000000 in
theorem cread_12 (s : ByteArray) (n : Int) (w : World) (hn : nineB s = true) (hs0 : soundS s = false) (hw : Wts w) :
    Calls Tryd.prog 31 #[.string s, .int .i64 n] w fun e w' => e = .returned (.tuple #[zst, .int .i64 12]) ∧ Below w.heap.size w w' := by
  have HX := hid (bx_new w 48 #[.string ⟨#[]⟩, .string ⟨#[]⟩, .string ⟨#[]⟩, .int .i64 0, .int .i64 0])
  have HNB := hid hn
  have H9 := hid (vals_is9 hn)
  have HW := hid hw
  have hs1 : soundB (vals s) = false := by unfold soundS at hs0; rw [hn, Bool.true_and] at hs0; exact hs0
  obtain ⟨a, b, c, d, e, f, g, h', i, hl⟩ := nine_list H9.out.1
  have HLL := hid hl
  have hx := H9.out.2
  rw [hl] at hx
  simp only [List.mem_cons, List.not_mem_nil, or_false, forall_eq_or_imp, forall_eq] at hx
  obtain ⟨ha, hb0, hc, hd, he, hf, hg, hh, hi⟩ := hx
  rw [hl] at hs1
  have HSQ := hid hs1
  clear hn hw hl hs0 hs1 ha hb0 hc hd he hf hg hh hi
  go_enter Tryd.func31, Tryd.ntmps31
  go_wp2_with fail
  refine (values_ok s _ HNB.out).mono ?_
  rintro e0 w1 ⟨rfl, hb⟩
  rw [HLL.out]
  have HX1 := hid ((HX.out.keep hb).keep ((Below.refl w1.heap.size w1).alloc (Nat.le_refl _) (.cells (cvs [a, b, c, d, e, f, g, h', i]) 66)))
  have HV1 := hid (show Vb w (w1.alloc (.cells (cvs [a, b, c, d, e, f, g, h', i]) 66)) w1.heap.size [a, b, c, d, e, f, g, h', i] from ⟨heap_alloc_new _ _, (HX.out.keep hb).low.size, HX1.out.low⟩)
  have HSD := hid (sound_any [a, b, c, d, e, f, g, h', i] _ (by rw [← HLL.out]; exact H9.out) (HW.out.keep HX1.out.low))
  clear hb HX
  unfold cvs
  simp only [List.map_cons, List.map_nil]
  unfold cvs at HX1 HSD
  simp only [List.map_cons, List.map_nil] at HX1 HSD
  go_wp2_with fail
  refine HSD.out.mono ?_
  rintro e1 w2 ⟨rfl, hb⟩
  rw [HSQ.out]
  have HX2 := hid (HX1.out.keep hb)
  have HV2 := hid (HV1.out.keep hb)
  clear hb HX1 HV1
  obtain ⟨c0, c1, c2, c3, c4⟩ := HX2.out.five
  obtain ⟨f0, f1, f2, f3, f4⟩ := HX2.out.fr5
  obtain ⟨v0, v1, v2, v3, v4, v5, v6, v7, v8⟩ := HV2.out.cells
  have HQ := hid (HX2.out.put5 (.string ⟨#[]⟩) (.string ⟨#[]⟩) (.string ⟨#[]⟩) (.int .i64 0) (.int .i64 0))
  go_wp2_with fail
  obtain ⟨x0, x1, x2, x3, x4⟩ := HQ.out.five
  exact bodyPost_ret (v := .tuple #[zst, .int .i64 12]) (by simp [results, Tryd.results31, go_sem, x0, x1, x2, x3, x4, zst]) rfl ⟨rfl, HQ.out.low⟩
set_option maxRecDepth 100000 in
set_option maxHeartbeats 4000000 in
theorem cread_7 (s : ByteArray) (n : Int) (w : World) (hn : nineB s = true) (hs0 : soundS s = true) (hw : Wts w) (ok : Bool) (hok : inB n 0 73048 = ok) (hu : 365 < 31 * (vals s).getD 4 0 + (vals s).getD 5 0 ∨ ok = false) :
    Calls Tryd.prog 31 #[.string s, .int .i64 n] w fun e w' => e = .returned (.tuple #[zst, .int .i64 7]) ∧ Below w.heap.size w w' := by
  have HX := hid (bx_new w 48 #[.string ⟨#[]⟩, .string ⟨#[]⟩, .string ⟨#[]⟩, .int .i64 0, .int .i64 0])
  have HNB := hid hn
  have H9 := hid (vals_is9 hn)
  have HW := hid hw
  have hs1 : soundB (vals s) = true := by unfold soundS at hs0; rw [hn, Bool.true_and] at hs0; exact hs0
  obtain ⟨a, b, c, d, e, f, g, h', i, hl⟩ := nine_list H9.out.1
  have HLL := hid hl
  have hx := H9.out.2
  rw [hl] at hx
  simp only [List.mem_cons, List.not_mem_nil, or_false, forall_eq_or_imp, forall_eq] at hx
  obtain ⟨ha, hb0, hc, hd, he, hf, hg, hh, hi⟩ := hx
  rw [hl] at hs1 hu
  have HSQ := hid hs1
  have HOK := hid hok
  have hu2 : 365 < e * 31 + f ∨ ok = false := by
    rcases hu with h1 | h1
    · left
      have h2 : 365 < 31 * e + f := h1
      omega
    · exact .inr h1
  clear hn hw hl hs0 hs1 ha hb0 hc hd hg hh hi hu hok
  go_enter Tryd.func31, Tryd.ntmps31
  go_wp2_with fail
  refine (values_ok s _ HNB.out).mono ?_
  rintro e0 w1 ⟨rfl, hb⟩
  rw [HLL.out]
  have HX1 := hid ((HX.out.keep hb).keep ((Below.refl w1.heap.size w1).alloc (Nat.le_refl _) (.cells (cvs [a, b, c, d, e, f, g, h', i]) 66)))
  have HV1 := hid (show Vb w (w1.alloc (.cells (cvs [a, b, c, d, e, f, g, h', i]) 66)) w1.heap.size [a, b, c, d, e, f, g, h', i] from ⟨heap_alloc_new _ _, (HX.out.keep hb).low.size, HX1.out.low⟩)
  have HSD := hid (sound_any [a, b, c, d, e, f, g, h', i] _ (by rw [← HLL.out]; exact H9.out) (HW.out.keep HX1.out.low))
  clear hb HX
  unfold cvs
  simp only [List.map_cons, List.map_nil]
  unfold cvs at HX1 HSD
  simp only [List.map_cons, List.map_nil] at HX1 HSD
  go_wp2_with fail
  refine HSD.out.mono ?_
  rintro e1 w2 ⟨rfl, hb⟩
  rw [HSQ.out]
  have HX2 := hid (HX1.out.keep hb)
  have HV2 := hid (HV1.out.keep hb)
  clear hb HX1 HV1
  obtain ⟨c0, c1, c2, c3, c4⟩ := HX2.out.five
  obtain ⟨f0, f1, f2, f3, f4⟩ := HX2.out.fr5
  obtain ⟨v0, v1, v2, v3, v4, v5, v6, v7, v8⟩ := HV2.out.cells
  have HQ := hid (HX2.out.put5 (.string ⟨#[]⟩) (.string ⟨#[]⟩) (.string ⟨#[]⟩) (.int .i64 0) (.int .i64 0))
  by_cases hq : 365 < e * 31 + f
  · clear hu2
    go_wp2_with (go_at_call 58; refine (isday_any _ _).mono ?_; rintro e9 wk ⟨rfl, rfl⟩; rw [HOK.out])
    obtain ⟨x0, x1, x2, x3, x4⟩ := HQ.out.five
    exact bodyPost_ret (v := .tuple #[zst, .int .i64 7]) (by simp [results, Tryd.results31, go_sem, x0, x1, x2, x3, x4, zst]) rfl ⟨rfl, HQ.out.low⟩
  · have ho : ok = false := by rcases hu2 with h1 | h1; exact absurd h1 hq; exact h1
    subst ho
    clear hu2
    go_wp2_with (go_at_call 58; refine (isday_any _ _).mono ?_; rintro e9 wk ⟨rfl, rfl⟩; rw [HOK.out])
    obtain ⟨x0, x1, x2, x3, x4⟩ := HQ.out.five
    exact bodyPost_ret (v := .tuple #[zst, .int .i64 7]) (by simp [results, Tryd.results31, go_sem, x0, x1, x2, x3, x4, zst]) rfl ⟨rfl, HQ.out.low⟩
set_option maxRecDepth 100000 in
set_option maxHeartbeats 4000000 in
theorem cread_R (s : ByteArray) (n y0 : Int) (R : Option Int) (w : World) (hn : nineB s = true) (hs0 : soundS s = true) (hw : Wts w) (hy : IsYear n y0) (hu : 31 * (vals s).getD 4 0 + (vals s).getD 5 0 ≤ 365) (hR : srch ((vals s).getD 3 0) (31 * (vals s).getD 4 0 + (vals s).getD 5 0) n (y0 - 1999).toNat = R) :
    Calls Tryd.prog 31 #[.string s, .int .i64 n] w fun e w' => e = .returned (readV s (31 * (vals s).getD 4 0 + (vals s).getD 5 0) ((vals s).getD 7 0) R) ∧ Below w.heap.size w w' := by
  have HX := hid (bx_new w 48 #[.string ⟨#[]⟩, .string ⟨#[]⟩, .string ⟨#[]⟩, .int .i64 0, .int .i64 0])
  have HNB := hid hn
  have H9 := hid (vals_is9 hn)
  have HW := hid hw
  have hs1 : soundB (vals s) = true := by unfold soundS at hs0; rw [hn, Bool.true_and] at hs0; exact hs0
  obtain ⟨a, b, c, d, e, f, g, h', i, hl⟩ := nine_list H9.out.1
  have HLL := hid hl
  have hx := H9.out.2
  rw [hl] at hx
  simp only [List.mem_cons, List.not_mem_nil, or_false, forall_eq_or_imp, forall_eq] at hx
  obtain ⟨ha, hb0, hc, hd, he, hf, hg, hh, hi⟩ := hx
  rw [hl] at hs1 hu hR ⊢
  have HSQ := hid hs1
  have HOK := hid (show inB n 0 73048 = true from inB_iff.2 (isYear_nn hy))
  obtain ⟨u, hu0⟩ : ∃ u, u = e * 31 + f := ⟨_, rfl⟩
  have eu : 31 * ([a, b, c, d, e, f, g, h', i] : List Int).getD 4 0 + ([a, b, c, d, e, f, g, h', i] : List Int).getD 5 0 = u := by show 31 * e + f = u; omega
  have e3 : ([a, b, c, d, e, f, g, h', i] : List Int).getD 3 0 = d := rfl
  have e7 : ([a, b, c, d, e, f, g, h', i] : List Int).getD 7 0 = h' := rfl
  rw [eu] at hu
  rw [eu, e3] at hR
  rw [eu, e7]
  have hu9 : 0 ≤ u := by omega
  have HLT := hid (latest_any d u n y0 R)
  have HLA := hid (fun W => HLT.out W hy ⟨hu9, hu⟩ hR)
  have hue : e * 31 + f = u := hu0.symm
  have hsz : s.size = 9 := (nineB_iff.1 hn).1
  have hq : ¬ 365 < u := by omega
  clear hn hw hl hs0 hs1 ha hb0 hc hd hg hh hi hR hy eu e3 e7 hu0 HLT
  go_enter Tryd.func31, Tryd.ntmps31
  go_wp2_with fail
  refine (values_ok s _ HNB.out).mono ?_
  rintro e0 w1 ⟨rfl, hb⟩
  rw [HLL.out]
  have HX1 := hid ((HX.out.keep hb).keep ((Below.refl w1.heap.size w1).alloc (Nat.le_refl _) (.cells (cvs [a, b, c, d, e, f, g, h', i]) 66)))
  have HV1 := hid (show Vb w (w1.alloc (.cells (cvs [a, b, c, d, e, f, g, h', i]) 66)) w1.heap.size [a, b, c, d, e, f, g, h', i] from ⟨heap_alloc_new _ _, (HX.out.keep hb).low.size, HX1.out.low⟩)
  have HSD := hid (sound_any [a, b, c, d, e, f, g, h', i] _ (by rw [← HLL.out]; exact H9.out) (HW.out.keep HX1.out.low))
  clear hb HX
  unfold cvs
  simp only [List.map_cons, List.map_nil]
  unfold cvs at HX1 HSD
  simp only [List.map_cons, List.map_nil] at HX1 HSD
  go_wp2_with fail
  refine HSD.out.mono ?_
  rintro e1 w2 ⟨rfl, hb⟩
  rw [HSQ.out]
  have HX2 := hid (HX1.out.keep hb)
  have HV2 := hid (HV1.out.keep hb)
  clear hb HX1 HV1
  obtain ⟨c0, c1, c2, c3, c4⟩ := HX2.out.five
  obtain ⟨f0, f1, f2, f3, f4⟩ := HX2.out.fr5
  obtain ⟨v0, v1, v2, v3, v4, v5, v6, v7, v8⟩ := HV2.out.cells
  cases R with
  | none =>
    have HQ := hid (HX2.out.put5 (.string ⟨#[]⟩) (.string ⟨#[]⟩) (.string ⟨#[]⟩) (.int .i64 0) (.int .i64 0))
    go_wp2_with (first
      | (go_at_call 58; refine (isday_any _ _).mono ?_; rintro e9 wk ⟨rfl, rfl⟩; rw [HOK.out])
      | (go_at_call 59; refine (HLA.out _).mono ?_; rintro e9 wk ⟨rfl, rfl⟩; unfold latV))
    obtain ⟨x0, x1, x2, x3, x4⟩ := HQ.out.five
    exact bodyPost_ret (v := .tuple #[zst, .int .i64 8]) (by simp [results, Tryd.results31, go_sem, x0, x1, x2, x3, x4, zst]) rfl ⟨rfl, HQ.out.low⟩
  | some z =>
    go_wp2_with (first
      | (go_at_call 58; refine (isday_any _ _).mono ?_; rintro e9 wk ⟨rfl, rfl⟩; rw [HOK.out])
      | (go_at_call 59; refine (HLA.out _).mono ?_; rintro e9 wk ⟨rfl, rfl⟩; unfold latV))
    have HQ := hid ((HX2.out.put5 (.string (s.extract 0 1)) (.string (s.extract 1 3)) (.string (s.extract 6 7)) (.int .i64 (soY z + u)) (.int .i64 h')).dr1)
    refine wp_region_still_tail 10 (by kernel_rfl) (by kernel_rfl) ?_
    simp only [List.take_succ_cons, List.take_zero, List.drop_succ_cons, List.drop_zero]
    iterate 10 still_step
    refine wpStill_nil ?_
    go_wp2_with fail
    obtain ⟨x0, x1, x2, x3, x4⟩ := HQ.out.five
    exact bodyPost_ret (v := readV s u h' (some z)) (by simp [results, Tryd.results31, go_sem, x0, x1, x2, x3, x4, readV]) rfl ⟨rfl, HQ.out.low⟩
end Go.Proofs.YtmhkgpcnefcjaaaDoor
