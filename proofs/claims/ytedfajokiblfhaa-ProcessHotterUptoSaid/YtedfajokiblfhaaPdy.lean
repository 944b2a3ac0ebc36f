/- Walk of ProcessHotter, for lists of at most 1048576 numbers. -/
import Derived.Test.YtedfajokiblfhaaPdx
namespace Go.Proofs.Ytedfajokiblfhaa
open Go.RowKit Go.Lib

theorem own_shQ {w : World} {base e n : Nat} {v : Value} {xs : List Value} (h : w.ownsRow base e 1 v n xs) : ∃ a c, v = .slice a n c := by
  rcases h.2 with ⟨rfl, rfl⟩ | ⟨g, cap, cur, rfl, _⟩
  · exact ⟨none, 0, rfl⟩
  · exact ⟨_, _, rfl⟩
set_option maxRecDepth 100000 in
set_option maxHeartbeats 8000000 in
theorem photter_walk (r l a b k a2 b2 : Int) (q : Kl) (t : Int) (v : Value) (p : List Int) (v' : Value) (y : List Int) (w : World) (hs : q.s.size ≤ maxLen) (_ht : (Lit.int .i64 t).wf = true) (hl : RowI w v p) (hy : RowI w v' y) (hyl : y.length ≤ 1048576) :
    Calls Try.prog 3 #[.agg #[.int .i64 r, .int .i64 l, .int .i64 a, .int .i64 b, .int .i64 k, .int .i64 a2, .int .i64 b2, .string q.s, .int .i64 q.r, .int .i64 q.z, .int .i64 q.d, .int .i64 q.g, .int .i64 t], v, v'] w fun e w' => e = .returned (.bool true) ∧ Below w.heap.size w w' := by
  have BX := hid (box1_start (w := w) (A := #[.int .i64 r, .int .i64 l, .int .i64 a, .int .i64 b, .int .i64 k, .int .i64 a2, .int .i64 b2, .string q.s, .int .i64 q.r, .int .i64 q.z, .int .i64 q.d, .int .i64 q.g, .int .i64 t]) (T := 27) (fz := (0, 0)))
  have HL := hid (fun w1 (g : Below w.heap.size w w1) => hl.keep g)
  have hpm := hl.most
  obtain ⟨a0, b0', o0', cap, rfl, ha0, hc0, _⟩ := hl.form
  obtain ⟨a1, b1', o1', cap1, rfl, ha1, hc1, _⟩ := hy.form
  have HC0 := hid (fun W (g : Below w.heap.size w W) j (hj : j < p.length) => keep_cell g (hc0 j hj))
  have HC1 := hid (fun W (g : Below w.heap.size w W) j (hj : j < y.length) => keep_cell g (hc1 j hj))
  have HA0 := hid ha0
  have HA1 := hid ha1
  have HSM := hid (fun W => small04_any r l a b k a2 b2 W a0 p.length cap hpm)
  have HPL := hid (fun W h => leth_any r l a b k a2 b2 W q t (.slice a0 p.length cap) p hs h hpm)
  have HP2 := hid (fun (u : Int) (W : World) (v : Value) (h : RowI W v (hotL p y p.length)) (h2 : p.length ≤ 2000) => leth_any r l a b k a2 b2 W q u v (hotL p y p.length) hs h (by rw [hotL_len]; unfold maxLen; omega))
  obtain ⟨i0, hi, hz0, hz1, hz2⟩ := info_parts infoQc
  clear hl hy hs ha0 ha1 hc0 hc1
  go_enter Try.func3, Try.ntmps3
  go_wp2_with fail
  refine (HSM.out _).mono ?_
  rintro e w1 ⟨rfl, hb⟩
  have BX := hid (BX.out.keep hb)
  clear hb
  obtain ⟨t0, t1, t2, t3, t4, t5, t6, t7, t8, t9, t10, t11, t12⟩ := BX.out.thirteen
  have hz := BX.out.sz
  cases hsm : smallB r l p.length 80
  · go_wp2_with fail
    refine (lawake_any _).mono ?_
    rintro e w2 ⟨rfl, hb⟩
    have BX := hid (BX.out.keep hb)
    go_wp2_with fail
    go_ret
    exact ⟨rfl, BX.out.low⟩
  cases hk : (k != 0)
  case true =>
    go_wp2_with fail
    refine (lawake_any _).mono ?_
    rintro e w2 ⟨rfl, hb⟩
    have BX := hid (BX.out.keep hb)
    go_wp2_with fail
    go_ret
    exact ⟨rfl, BX.out.low⟩
  have hk0 : k = 0 := by simpa using hk
  subst hk0
  have hp80 : p.length ≤ 80 := by
    unfold smallB at hsm
    simp at hsm
    exact hsm.2
  go_wp2_with fail
  refine (HPL.out _ (HL.out _ BX.out.low)).mono ?_
  rintro e w3 ⟨rfl, hb⟩
  have BX := hid (BX.out.keep hb); clear hb t0 t1 t2 t3 t4 t5 t6 t7 t8 t9 t10 t11 t12; obtain ⟨t0, t1, t2, t3, t4, t5, t6, t7, t8, t9, t10, t11, t12⟩ := BX.out.thirteen; have hz := BX.out.sz
  by_cases hce : chk4 (canB r l a b 0 a2 b2) q.vB t p = 0
  case neg =>
    have hc1 : (chk4 (canB r l a b 0 a2 b2) q.vB t p != 0) = true := by simpa using hce
    go_wp2_with fail
    refine (lawake_any _).mono ?_
    rintro e w2 ⟨rfl, hb⟩
    have BX := hid (BX.out.keep hb)
    go_wp2_with fail
    go_ret
    exact ⟨rfl, BX.out.low⟩
  have hot : -50000 ≤ t ∧ t ≤ 200000 := by simpa [okT] using (chk4_zero hce).2.2.1
  have HLE : Hid (∀ u, u = capT (t + y.length) → chk4 (canB r l a b 0 a2 b2) q.vB u (hotL p y p.length) = 0 ∧ lowO (sumsO r l a b 0 a2 b2 q t p) ≤ lowO (sumsO r l a b 0 a2 b2 q u (hotL p y p.length))) := fun u hu => hotter_le hce (by rw [hu]; unfold capT; split <;> simp [okT] <;> omega) (by rw [hu]; unfold capT; split <;> omega)
  have HBD : Hid (∀ i (h : i < p.length), -50000 ≤ p[i] ∧ p[i] ≤ 200000) := fun i h => okL_bd (chk4_zero hce).2.2.2.1 _ (List.getElem_mem h)
  rw [hce]
  generalize lowO (sumsO r l a b 0 a2 b2 q t p) = f1 at *
  generalize slowO (sumsO r l a b 0 a2 b2 q t p) = s1 at *
  clear hce hsm hk HPL HSM
  go_wp2_with fail
  have HR0 : Hid (w3.ownsRow w3.heap.size 3 1 (.slice none 0 0) (ivs (hotL p y 0)).length (ivs (hotL p y 0))) := ⟨rfl, .inl ⟨rfl, rfl⟩⟩
  have HBW := hid (Below.refl w3.heap.size w3)
  have HW3 := hid (fun (W : World) (g : Below w3.heap.size w3 W) => BX.out.low.trans (g.mono BX.out.low.size))
  go_loopw [10, 11] (fun u x wr => ∃ j : Nat, j ≤ p.length ∧ x = .int .i64 (j : Int) ∧ Hid (wr.ownsRow w3.heap.size 3 1 u (ivs (hotL p y j)).length (ivs (hotL p y j))) ∧ Hid (Below w3.heap.size w3 wr)) (fun _ x _ => p.length - (intOf x).toNat)
  case atStart => exact ⟨0, Nat.zero_le _, rfl, HR0, HBW⟩
  case round =>
    obtain ⟨j, hj, rfl, hO, hB⟩ := hrel
    obtain ⟨ua, uc, rfl⟩ := own_shQ hO.out
    by_cases hlt : j < p.length
    · have hlt' : (j : Int) < p.length := by omega
      have haa : a0 = some ⟨b0', o0', none⟩ := HA0.out.resolve_left (fun e => by rw [e] at hlt; simp at hlt)
      subst haa
      have ex := HC0.out _ (HW3.out _ hB.out) j hlt
      have hpb := HBD.out j hlt
      have HS := hid (hotL_succ p y j)
      have HLN := hid (show (hotL p y j).length ≤ 100000 by rw [hotL_len]; omega)
      have HLT := hid hlt
      have hpg : p.getD j 0 = p[j] := by rw [List.getD, List.getElem?_eq_getElem hlt]; rfl
      by_cases hly : j < y.length
      · have hly' : (j : Int) < y.length := by omega
        have hab : a1 = some ⟨b1', o1', none⟩ := HA1.out.resolve_left (fun e => by rw [e] at hly; simp at hly)
        subst hab
        have ey := HC1.out _ (HW3.out _ hB.out) j hly
        have hyg : y.getD j 0 = y[j] := by rw [List.getD, List.getElem?_eq_getElem hly]; rfl
        have hm := mask16 y[j]
        have hct : Hid (hotF p y j = if 200000 < p[j] + bits .and .i64 y[j] 65535 then 200000 else p[j] + bits .and .i64 y[j] 65535) := by unfold Hid hotF capT; rw [if_pos hly, hpg, hyg]
        generalize hotL p y j = F at *
        generalize hotF p y j = z at *
        generalize p[j] = x at *
        generalize y[j] = x2 at *
        generalize hmk : bits .and .i64 x2 65535 = mk at *
        clear hlt hly hpg hyg
        by_cases hmx : 200000 < x + mk
        · have hct : Hid (z = 200000) := by unfold Hid; rw [hct.out, if_pos hmx]
          go_wp2_with (at_builtin; (refine wpList_app rfl (.tmp 65) (.tmp 67) 28 rfl w3.heap.size 3 i0 Try.underlying28 hi hz0 hz1 hz2 _ (ivs F) rfl (World.ownsRow.alloc hO.out _) _ [z] rfl (by rw [hct.out]; exact (one_row _ _ rfl).src) (by rw [ivs_len]; have := HLN.out; simp; omega) (by have := hB.out.size; simp; omega) ?_); intro v3 w6 hA1; have HB6 := hid (app_low (hB.out.alloc hB.out.size _) (World.ownsRow.alloc hO.out _) (Nat.le_refl _) hA1); have HO6 := hid (app_next hA1); obtain ⟨a3, c3, rfl⟩ := own_shQ HO6.out; clear hA1)
          go_roundw
          case rel => exact ⟨j + 1, HLT.out, by go_num, by have h := HO6.out; rw [List.length_append, List.length_singleton] at h; rw [HS.out, ivs_len, List.length_append, List.length_singleton]; exact hid h, HB6⟩
          case measure => have := HLT.out; simp [intOf]; omega
        · have hct : Hid (z = x + mk) := by unfold Hid; rw [hct.out, if_neg hmx]
          go_wp2_with (at_builtin; (refine wpList_app rfl (.tmp 65) (.tmp 67) 28 rfl w3.heap.size 3 i0 Try.underlying28 hi hz0 hz1 hz2 _ (ivs F) rfl (World.ownsRow.alloc hO.out _) _ [z] rfl (by rw [hct.out]; exact (one_row _ _ rfl).src) (by rw [ivs_len]; have := HLN.out; simp; omega) (by have := hB.out.size; simp; omega) ?_); intro v3 w6 hA1; have HB6 := hid (app_low (hB.out.alloc hB.out.size _) (World.ownsRow.alloc hO.out _) (Nat.le_refl _) hA1); have HO6 := hid (app_next hA1); obtain ⟨a3, c3, rfl⟩ := own_shQ HO6.out; clear hA1)
          go_roundw
          case rel => exact ⟨j + 1, HLT.out, by go_num, by have h := HO6.out; rw [List.length_append, List.length_singleton] at h; rw [HS.out, ivs_len, List.length_append, List.length_singleton]; exact hid h, HB6⟩
          case measure => have := HLT.out; simp [intOf]; omega
      · have hct : Hid (hotF p y j = p[j]) := by unfold Hid hotF; rw [if_neg hly, hpg]
        have hly' : ¬ (j : Int) < y.length := by omega
        generalize hotL p y j = F at *
        generalize hotF p y j = z at *
        generalize p[j] = x at *
        clear hlt hly hpg
        go_wp2_with (at_builtin; (refine wpList_app rfl (.tmp 65) (.tmp 67) 28 rfl w3.heap.size 3 i0 Try.underlying28 hi hz0 hz1 hz2 _ (ivs F) rfl (World.ownsRow.alloc hO.out _) _ [z] rfl (by rw [hct.out]; exact (one_row _ _ rfl).src) (by rw [ivs_len]; have := HLN.out; simp; omega) (by have := hB.out.size; simp; omega) ?_); intro v3 w6 hA1; have HB6 := hid (app_low (hB.out.alloc hB.out.size _) (World.ownsRow.alloc hO.out _) (Nat.le_refl _) hA1); have HO6 := hid (app_next hA1); obtain ⟨a3, c3, rfl⟩ := own_shQ HO6.out; clear hA1)
        go_roundw
        case rel => exact ⟨j + 1, HLT.out, by go_num, by have h := HO6.out; rw [List.length_append, List.length_singleton] at h; rw [HS.out, ivs_len, List.length_append, List.length_singleton]; exact hid h, HB6⟩
        case measure => have := HLT.out; simp [intOf]; omega
    · obtain rfl : j = p.length := by omega
      have hlt' : ¬ (p.length : Int) < p.length := by omega
      have BX := hid (BX.out.keep hB.out)
      have HRH := hid (own_rowI (l := hotL p y p.length) (by have h := hO.out; rwa [ivs_len] at h) (by rw [hotL_len]; omega))
      have HU := hid (HLE.out _ rfl)
      have HCA : Hid (capT (t + y.length) = if 200000 < t + (y.length : Int) then 200000 else t + (y.length : Int)) := rfl
      have HL2 := hid (fun W h => HP2.out (capT (t + y.length)) W (.slice ua (ivs (hotL p y p.length)).length uc) h (by omega))
      rw [HU.out.1] at HL2
      have hle := HU.out.2
      obtain ⟨t0, t1, t2, t3, t4, t5, t6, t7, t8, t9, t10, t11, t12⟩ := BX.out.thirteen
      have hz := BX.out.sz
      rw [ivs_len, hotL_len] at *
      generalize capT (t + y.length) = u at *
      clear HU
      by_cases hcp : 200000 < t + (y.length : Int)
      · have hu : u = 200000 := by rw [HCA.out, if_pos hcp]
        subst hu
        go_wp2_with fail
        refine (HL2.out _ HRH.out).mono ?_
        rintro e w8 ⟨rfl, hb⟩
        have BX := hid (BX.out.keep hb)
        clear hb t0 t1 t2 t3 t4 t5 t6 t7 t8 t9 t10 t11 t12
        go_wp2_with fail
        refine (lawake_any _).mono ?_
        rintro e w9 ⟨rfl, hb⟩
        have BX := hid (BX.out.keep hb)
        go_wp2_with fail
        go_ret
        exact ⟨rfl, BX.out.low⟩
      · have hu : u = t + (y.length : Int) := by rw [HCA.out, if_neg hcp]
        subst hu
        go_wp2_with fail
        refine (HL2.out _ HRH.out).mono ?_
        rintro e w8 ⟨rfl, hb⟩
        have BX := hid (BX.out.keep hb)
        clear hb t0 t1 t2 t3 t4 t5 t6 t7 t8 t9 t10 t11 t12
        go_wp2_with fail
        refine (lawake_any _).mono ?_
        rintro e w9 ⟨rfl, hb⟩
        have BX := hid (BX.out.keep hb)
        go_wp2_with fail
        go_ret
        exact ⟨rfl, BX.out.low⟩
end Go.Proofs.Ytedfajokiblfhaa
