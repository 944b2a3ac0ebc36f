/- Walk of the reference's Read: contracts. -/
import Derived.Test.YtlnfebginkmbhaaDoorCb
import Derived.Test.YtlnfebginkmbhaaDoorDy
namespace Go.Proofs.YtlnfebginkmbhaaDoor
open Go.RowKit

set_option maxRecDepth 100000 in
set_option maxHeartbeats 2000000 in
theorem xread_2 (s : ByteArray) (n : Int) (w : World) (h : nineB s = false) :
    Calls Tryd.prog 35 #[.string s, .int .i64 n] w fun e w' => e = .returned (.tuple #[zst, .int .i64 2]) ∧ Below w.heap.size w w' := by
  have HNB := hid h
  clear h
  go_enter Tryd.func35, Tryd.ntmps35
  go_wp2_with (go_at_call 49; refine (xnine_any _ _).mono ?_; rintro e9 wk ⟨rfl, rfl⟩; rw [HNB.out])
  refine bodyPost_ret (v := .tuple #[zst, .int .i64 2]) (by simp [results, Tryd.results35, go_sem, zst]) rfl ⟨rfl, ?_⟩
  exact (Below.refl _ _).alloc (Nat.le_refl _) _
set_option maxRecDepth 100000 in
set_option maxHeartbeats 2000000 in
theorem xread_12 (s : ByteArray) (n : Int) (w : World) (h : nineB s = true) (hs : soundS s = false) :
    Calls Tryd.prog 35 #[.string s, .int .i64 n] w fun e w' => e = .returned (.tuple #[zst, .int .i64 12]) ∧ Below w.heap.size w w' := by
  have HNB := hid h
  have HSQ := hid hs
  clear h hs
  go_enter Tryd.func35, Tryd.ntmps35
  go_wp2_with (first
    | (go_at_call 49; refine (xnine_any _ _).mono ?_; rintro e9 wk ⟨rfl, rfl⟩; rw [HNB.out])
    | (go_at_call 29; refine (xsound_any _ _).mono ?_; rintro e9 wk ⟨rfl, rfl⟩; rw [HSQ.out]))
  refine bodyPost_ret (v := .tuple #[zst, .int .i64 12]) (by simp [results, Tryd.results35, go_sem, zst]) rfl ⟨rfl, ?_⟩
  exact (Below.refl _ _).alloc (Nat.le_refl _) _
set_option maxRecDepth 100000 in
set_option maxHeartbeats 4000000 in
theorem xread_7 (s : ByteArray) (n : Int) (w : World) (hn : nineB s = true) (hs0 : soundS s = true) (ok : Bool) (hok : inB n 0 73048 = ok) (hu : 365 < 31 * (vals s).getD 4 0 + (vals s).getD 5 0 ∨ ok = false) :
    Calls Tryd.prog 35 #[.string s, .int .i64 n] w fun e w' => e = .returned (.tuple #[zst, .int .i64 7]) ∧ Below w.heap.size w w' := by
  have HX := hid (bx_new w 40 #[.string ⟨#[]⟩, .string ⟨#[]⟩, .string ⟨#[]⟩, .int .i64 0, .int .i64 0])
  have HNB := hid hn
  have HSQ := hid hs0
  have h9 := vals_is9 hn
  have hsz : s.size = 9 := (nineB_iff.1 hn).1
  obtain ⟨a, b, c, d, e, f, g, h', i, hl⟩ := nine_list h9.1
  have hx := h9.2
  rw [hl] at hx
  simp only [List.mem_cons, List.not_mem_nil, or_false, forall_eq_or_imp, forall_eq] at hx
  obtain ⟨ha, hb0, hc, hd, he, hf, hg, hh, hi⟩ := hx
  have y3 := vals_get s 3 (by omega) hl (by simp)
  simp only [List.getElem_cons_zero, List.getElem_cons_succ] at y3
  have y4 := vals_get s 4 (by omega) hl (by simp)
  simp only [List.getElem_cons_zero, List.getElem_cons_succ] at y4
  have y5 := vals_get s 5 (by omega) hl (by simp)
  simp only [List.getElem_cons_zero, List.getElem_cons_succ] at y5
  have y7 := vals_get s 7 (by omega) hl (by simp)
  simp only [List.getElem_cons_zero, List.getElem_cons_succ] at y7
  rw [hl] at hu
  have hu2 : 365 < 31 * e + f ∨ ok = false := hu
  obtain ⟨a1, a2, a3, ea, HA, HE⟩ : ∃ a1 a2 a3 ea : Int, Hid (∀ W, Calls Tryd.prog 10 #[.int .i64 n] W fun e w' => e = .returned (.tuple #[.agg #[.int .i64 a1, .int .i64 a2, .int .i64 a3], .int .i64 ea]) ∧ Below W.heap.size W w') ∧ (ok = false → ea = 7) := by
    cases hv : ok
    · exact ⟨0, 0, 0, 7, fun W => xdate_bad n W (by rw [hok, hv]), fun _ => rfl⟩
    · obtain ⟨q0, q1⟩ := inB_iff.1 (hok.trans hv)
      obtain ⟨yy, mm, dd, hd⟩ := date_ex q0 q1
      exact ⟨yy, mm, dd, 0, fun W => xdate_ok n yy mm dd W hd, fun h => by cases h⟩
  clear hn hs0 h9 hl ha hb0 hc hd hg hh hi hu hok
  go_enter Tryd.func35, Tryd.ntmps35
  go_wp2_with (first
    | (go_at_call 49; refine (xnine_any _ _).mono ?_; rintro e9 wk ⟨rfl, rfl⟩; rw [HNB.out])
    | (go_at_call 29; refine (xsound_any _ _).mono ?_; rintro e9 wk ⟨rfl, rfl⟩; rw [HSQ.out]))
  generalize World.alloc w _ = W1 at *
  go_quiet ((go_at_call 25; exact Calls.quiet_of_same (xvalue_any _ _)))
  have HX1 := hid ((HX.out.drwN nq))
  clear HX
  generalize World.drewN W1 nq = W2 at *
  go_wp2_with fail
  refine (HA.out _).mono ?_
  rintro e1 w3 ⟨rfl, hb⟩
  have HX2 := hid ((HX1.out.keep hb).keep ((Below.refl w3.heap.size w3).alloc (Nat.le_refl _) (.cells #[.int .i64 a1, .int .i64 a2, .int .i64 a3] 23)))
  clear hb HX1
  obtain ⟨c0, c1, c2, c3, c4⟩ := HX2.out.five
  obtain ⟨f0, f1, f2, f3, f4⟩ := HX2.out.fr5
  have HQ := hid (HX2.out.put5 (.string ⟨#[]⟩) (.string ⟨#[]⟩) (.string ⟨#[]⟩) (.int .i64 0) (.int .i64 0))
  by_cases hq : 365 < 31 * e + f
  · clear hu2 HE
    go_wp2_with fail
    obtain ⟨x0, x1, x2, x3, x4⟩ := HQ.out.five
    exact bodyPost_ret (v := .tuple #[zst, .int .i64 7]) (by simp [results, Tryd.results35, go_sem, x0, x1, x2, x3, x4, zst]) rfl ⟨rfl, HQ.out.low⟩
  · have ho : ea = 7 := HE (by rcases hu2 with h1 | h1; exact absurd h1 hq; exact h1)
    subst ho
    clear hu2 HE
    go_wp2_with fail
    obtain ⟨x0, x1, x2, x3, x4⟩ := HQ.out.five
    exact bodyPost_ret (v := .tuple #[zst, .int .i64 7]) (by simp [results, Tryd.results35, go_sem, x0, x1, x2, x3, x4, zst]) rfl ⟨rfl, HQ.out.low⟩
set_option maxRecDepth 100000 in
set_option maxHeartbeats 8000000 in
theorem xread_R (s : ByteArray) (n y0 mm dd : Int) (R : Option Int) (w : World) (hn : nineB s = true) (hs0 : soundS s = true) (hdt : IsDate n y0 mm dd) (hu : 31 * (vals s).getD 4 0 + (vals s).getD 5 0 ≤ 365) (hR : srch ((vals s).getD 3 0) (31 * (vals s).getD 4 0 + (vals s).getD 5 0) n (y0 - 1999).toNat = R) :
    Calls Tryd.prog 35 #[.string s, .int .i64 n] w fun e w' => e = .returned (readV s (31 * (vals s).getD 4 0 + (vals s).getD 5 0) ((vals s).getD 7 0) R) ∧ Below w.heap.size w w' := by
  have HX := hid (bx_new w 40 #[.string ⟨#[]⟩, .string ⟨#[]⟩, .string ⟨#[]⟩, .int .i64 0, .int .i64 0])
  have HNB := hid hn
  have HSQ := hid hs0
  have h9 := vals_is9 hn
  have hsz : s.size = 9 := (nineB_iff.1 hn).1
  obtain ⟨a, b, c, d, e, f, g, h', i, hl⟩ := nine_list h9.1
  have hx := h9.2
  rw [hl] at hx
  simp only [List.mem_cons, List.not_mem_nil, or_false, forall_eq_or_imp, forall_eq] at hx
  obtain ⟨ha, hb0, hc, hd, he, hf, hg, hh, hi⟩ := hx
  have y3 := vals_get s 3 (by omega) hl (by simp)
  simp only [List.getElem_cons_zero, List.getElem_cons_succ] at y3
  have y4 := vals_get s 4 (by omega) hl (by simp)
  simp only [List.getElem_cons_zero, List.getElem_cons_succ] at y4
  have y5 := vals_get s 5 (by omega) hl (by simp)
  simp only [List.getElem_cons_zero, List.getElem_cons_succ] at y5
  have y7 := vals_get s 7 (by omega) hl (by simp)
  simp only [List.getElem_cons_zero, List.getElem_cons_succ] at y7
  rw [hl] at hu hR ⊢
  obtain ⟨u, hu0⟩ : ∃ u, u = 31 * e + f := ⟨_, rfl⟩
  have eu : 31 * ([a, b, c, d, e, f, g, h', i] : List Int).getD 4 0 + ([a, b, c, d, e, f, g, h', i] : List Int).getD 5 0 = u := by show 31 * e + f = u; omega
  have e3 : ([a, b, c, d, e, f, g, h', i] : List Int).getD 3 0 = d := rfl
  have e7 : ([a, b, c, d, e, f, g, h', i] : List Int).getD 7 0 = h' := rfl
  rw [eu] at hu
  rw [eu, e3] at hR
  rw [eu, e7]
  have hu9 : 0 ≤ u := by omega
  have hue : 31 * e + f = u := hu0.symm
  have hq : ¬ 365 < u := by omega
  have HR := hid hR
  have HA := hid (fun W => xdate_ok n y0 mm dd W hdt)
  have HY := hid hdt.1
  have n12 := isYear_nn hdt.1
  have HV7 := hid (show ∀ W, Calls Tryd.prog 25 #[.int .u8 ((s[7]'(by omega)).toNat : Int)] W fun e w' => e = .returned (.int .i64 h') ∧ w' = W from fun W => by rw [← y7]; exact xvalue_any _ W)
  clear hn hs0 h9 hl ha hb0 hc hg hi hR hdt eu e3 e7 hu0
  go_enter Tryd.func35, Tryd.ntmps35
  go_wp2_with (first
    | (go_at_call 49; refine (xnine_any _ _).mono ?_; rintro e9 wk ⟨rfl, rfl⟩; rw [HNB.out])
    | (go_at_call 29; refine (xsound_any _ _).mono ?_; rintro e9 wk ⟨rfl, rfl⟩; rw [HSQ.out]))
  generalize World.alloc w _ = W1 at *
  go_quiet ((go_at_call 25; exact Calls.quiet_of_same (xvalue_any _ _)))
  have HX1 := hid ((HX.out.drwN nq))
  clear HX
  generalize World.drewN W1 nq = W2 at *
  go_wp2_with fail
  refine (HA.out _).mono ?_
  rintro e1 w3 ⟨rfl, hb⟩
  have HX2 := hid ((HX1.out.keep hb).keep ((Below.refl w3.heap.size w3).alloc (Nat.le_refl _) (.cells #[.int .i64 y0, .int .i64 mm, .int .i64 dd] 23)))
  clear hb HX1
  go_wp2_with fail
  generalize World.alloc w3 _ = W4 at *
  go_loopw [9] (fun t wr => ∃ k : Nat, k ≤ 200 ∧ t = .int .i64 (1999 + (k : Int)) ∧ Hid (srch d u n k = R) ∧ Hid (Bx w wr w.heap.size 40 #[.string ⟨#[]⟩, .string ⟨#[]⟩, .string ⟨#[]⟩, .int .i64 0, .int .i64 0])) (fun t _ => (intOf t - 1999).toNat)
  case atStart => exact ⟨(y0 - 1999).toNat, by have := HY.out.2.1; have := HY.out.1; omega, by have := HY.out.1; congr 1; omega, HR, HX2⟩
  case round =>
    obtain ⟨k, hk, rfl, HK, HX3⟩ := hrel
    cases k with
    | zero =>
      have HE := hid (show R = none from HK.out.symm)
      have hge : ¬ (2000 : Int) ≤ 1999 + ((0 : Nat) : Int) := by omega
      obtain ⟨c0, c1, c2, c3, c4⟩ := HX3.out.five
      obtain ⟨f0, f1, f2, f3, f4⟩ := HX3.out.fr5
      have HQ := hid (HX3.out.put5 (.string ⟨#[]⟩) (.string ⟨#[]⟩) (.string ⟨#[]⟩) (.int .i64 0) (.int .i64 0))
      go_wp2_with fail
      obtain ⟨x0, x1, x2, x3, x4⟩ := HQ.out.five
      exact bodyPost_ret (v := .tuple #[zst, .int .i64 8]) (by simp [results, Tryd.results35, go_sem, x0, x1, x2, x3, x4, zst]) rfl ⟨by rw [HE.out]; rfl, HQ.out.low⟩
    | succ k =>
      obtain ⟨z, hz⟩ : ∃ z : Int, z = 2000 + (k : Int) := ⟨_, rfl⟩
      have ez : (1999 + ((k + 1 : Nat) : Int)) = z := by omega
      have HZ := hid hz
      have z1 : 2000 ≤ z := by omega
      have z2 : z ≤ 2199 := by omega
      have hsz2 := soY_day z1 z2
      have t1 : z.tmod 10 = z % 10 := Int.tmod_eq_emod_of_nonneg (by omega)
      have HQ := hid (okY_eq d u n z)
      rw [ez]
      have HGO := hid (fun (g : okY d u n z = true) => srch_ok HK.out (by rw [← hz]; exact g))
      have HNO := hid (fun (g : okY d u n z = false) => srch_no HK.out (by rw [← hz]; exact g))
      have HZK := hid (show z - 1 = 1999 + (k : Int) by omega)
      have HK2 := hid (show k ≤ 200 by omega)
      have HF := hid (show dateB z 1 1 = true by rw [dateB_eq]; simp only [Bool.and_eq_true, inB_iff]; have := mlen_pos z 1; omega)
      have HN := hid (show dayN z 1 1 = soY z by unfold dayN; rw [dB_1]; omega)
      clear hz ez
      have hge : (2000 : Int) ≤ z := z1
      go_wp2_with fail
      refine (xdayof_any z 1 1 _).mono ?_
      rintro e2 w5 ⟨rfl, hb⟩
      rw [if_pos HF.out, HN.out]
      have HX4 := hid (HX3.out.keep hb)
      clear hb
      cases h1 : (z % 10 == d)
      · rw [h1, Bool.false_and, Bool.false_and] at HQ
        go_wp2_with (first
          | (go_at_call 25; refine (xvalue_any _ _).mono ?_; rintro e9 wk ⟨rfl, rfl⟩; rw [y3])
          | (go_at_call 42; refine (year_q _ _).mono ?_; rintro e9 wk ⟨rfl, rfl⟩))
        go_roundw
        case rel => exact ⟨k, HK2.out, int_eq HZK.out, hid (HNO.out HQ.out), HX4⟩
        case measure => simp [intOf]; omega
      · by_cases h2 : u < ylen z
        · by_cases h3 : soY z + u ≤ n
          · have HE := hid (HGO.out (by rw [HQ.out, h1, decide_eq_true h2, decide_eq_true h3]; rfl))
            obtain ⟨c0, c1, c2, c3, c4⟩ := HX4.out.five
            obtain ⟨f0, f1, f2, f3, f4⟩ := HX4.out.fr5
            have HQ2 := hid ((HX4.out.put5 (.string (s.extract 0 1)) (.string (s.extract 1 3)) (.string (s.extract 6 7)) (.int .i64 (soY z + u)) (.int .i64 h')).dr1)
            have hwz : IntKind.i64.wrap (soY z + u) = soY z + u := IntWalk.i64_in _ ⟨by omega, by omega⟩
            go_wp2_with (first
              | (go_at_call 25; refine (xvalue_any _ _).mono ?_; rintro e9 wk ⟨rfl, rfl⟩; rw [y3])
              | (go_at_call 42; refine (year_q _ _).mono ?_; rintro e9 wk ⟨rfl, rfl⟩))
            refine wp_region_still_tail 13 (by kernel_rfl) (by kernel_rfl) ?_
            simp only [List.take_succ_cons, List.take_zero, List.drop_succ_cons, List.drop_zero]
            iterate 11 still_step
            still_call (HV7.out _)
            iterate 1 still_step
            refine wpStill_nil ?_
            go_wp2_with fail
            obtain ⟨x0, x1, x2, x3, x4⟩ := HQ2.out.five
            exact bodyPost_ret (v := readV s u h' (some z)) (by simp [results, Tryd.results35, go_sem, x0, x1, x2, x3, x4, readV]) rfl ⟨by rw [HE.out, ← HZ.out], HQ2.out.low⟩
          · have HE := hid (HNO.out (by rw [HQ.out, h1, decide_eq_false h3]; simp))
            go_wp2_with (first
              | (go_at_call 25; refine (xvalue_any _ _).mono ?_; rintro e9 wk ⟨rfl, rfl⟩; rw [y3])
              | (go_at_call 42; refine (year_q _ _).mono ?_; rintro e9 wk ⟨rfl, rfl⟩))
            go_roundw
            case rel => exact ⟨k, HK2.out, int_eq HZK.out, HE, HX4⟩
            case measure => simp [intOf]; omega
        · have HE := hid (HNO.out (by rw [HQ.out, h1, decide_eq_false h2]; simp))
          go_wp2_with (first
            | (go_at_call 25; refine (xvalue_any _ _).mono ?_; rintro e9 wk ⟨rfl, rfl⟩; rw [y3])
            | (go_at_call 42; refine (year_q _ _).mono ?_; rintro e9 wk ⟨rfl, rfl⟩))
          go_roundw
          case rel => exact ⟨k, HK2.out, int_eq HZK.out, HE, HX4⟩
          case measure => simp [intOf]; omega
end Go.Proofs.YtlnfebginkmbhaaDoor
