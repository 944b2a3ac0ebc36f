/- Walks of Cold and At of the reference: contracts. -/
import Derived.Test.YtpkcnojcklmhmaaRz
namespace Go.Proofs.Ytpkcnojcklmhmaa
open Go.RowKit

theorem below_app {w1 W W' : World} {v v' : Value} {xs : List Value} {l : List Int} {o : Obj} (h : Below w1.heap.size w1 W) (hown : (W.alloc o).ownsRow w1.heap.size 3 1 v xs.length xs) (hA : AppP (W.alloc o) w1.heap.size 3 v xs l v' W') : Below w1.heap.size w1 W' :=
  (h.alloc h.size o).grown hA.2.1 (h.alloc h.size o).size (fun k hk => by have := (World.ownsRow.lt hown k hk).1; omega)
set_option maxRecDepth 100000 in
set_option maxHeartbeats 4000000 in
theorem rcold_all (r l a b k a2 b2 : Int) (w : World) (v : Value) (T : List Int) (br : Bool) (v2 : Value) (p : List Int) (hl : RowI w v T) (hl2 : RowI w v2 p) :
    Calls Try.prog 21 #[.agg #[.int .i64 r, .int .i64 l, .int .i64 a, .int .i64 b, .int .i64 k, .int .i64 a2, .int .i64 b2], .agg #[v, .bool br], v2] w (ColP (colO r l a b k a2 b2 (T, br) p).1 (colO r l a b k a2 b2 (T, br) p).2 w) := by
  have HL := hid (fun w1 (g : Below w.heap.size w w1) => hl.keep g)
  have HL2 := hid (fun w1 (g : Below w.heap.size w w1) => hl2.keep g)
  have HF := hid (fun w1 v h1 h2 => rfollow_all r l a b k a2 b2 w1 v T br v2 p h1 h2)
  obtain ⟨a0, cap, rfl⟩ := hl.shape
  clear hl hl2
  have HS := hid (r2_start (w := w) (A := #[.int .i64 r, .int .i64 l, .int .i64 a, .int .i64 b, .int .i64 k, .int .i64 a2, .int .i64 b2]) (R := #[.slice a0 T.length cap, .bool br]))
  rcases chkE_cases (bothB r l a b k a2 b2 T br) p with hne | ⟨h0, hbb, ho, hlen⟩
  · rw [colO_err (x := (T, br)) hne]
    rw [folO_err (x := (T, br)) hne] at HF
    dsimp only at HF
    obtain ⟨ce, hce⟩ : ∃ ce, ce = chkE (bothB r l a b k a2 b2 T br) p := ⟨_, rfl⟩
    rw [← hce] at hne HF ⊢
    have hb0 : (ce == 0) = false := by simpa using hne
    have hb1 : (ce != 0) = true := by simpa using hne
    clear hce
    go_enter Try.func21, Try.ntmps21
    go_wp2_with (go_at_call 18; refine (HF.out _ _ (HL.out _ HS.out.low) (HL2.out _ HS.out.low)).mono ?_; rintro e w1 ⟨u, rfl, _, hb⟩; have H1 := hid (HS.out.keep hb); clear hb)
    go_ret2
    exact ⟨none, 0, rfl, rowI_nil _, H1.out.low⟩
  rw [folO_ok (x := (T, br)) h0] at HF
  dsimp only at HF
  obtain ⟨c, hcv, ⟨rfl, rfl, rfl, rfl, rfl, rfl, rfl⟩, hbv, hwm⟩ := both_open hbb
  rw [cnOf_cn] at HF
  have HLEN := hid (fun k => show (runS c (T, br) (p.take k)).1.length = c.P from (hwm.run hcv.ok (fun b hb => okL_bd ho b (List.mem_of_mem_take hb))).len)
  obtain ⟨hP1, hP2⟩ := hcv.ok.p
  have hP2 := hP2
  obtain ⟨i0, hi, hz0, hz1, hz2⟩ := info_parts infoIf
  rw [colO_ok (x := (T, br)) h0, cnOf_cn]
  have HAT := hid (fun k (hk : k ≤ p.length) => folL_at c (T, br) p k hk)
  have hfl := folL_len c (T, br) p
  obtain ⟨f, hf⟩ : ∃ f : Bd → Int, f = fun y => minT y.1 := ⟨_, rfl⟩
  rw [← hf]
  have HFF := hid hf
  have HTS := hid (fun n => tellN_succ f c (T, br) p n)
  have HTL := hid (fun n => tellN_len f c (T, br) p n)
  obtain ⟨L, hL⟩ : ∃ L, L = folL c (T, br) p := ⟨_, rfl⟩
  have HLL := hid hL
  rw [← hL] at HF hfl
  obtain ⟨N, hN⟩ : ∃ N, N = p.length + 1 := ⟨_, rfl⟩
  rw [← hN] at hfl
  have HNN := hid hN
  have HAT2 := hid (fun k (hk : k ≤ p.length) (h : k < L.length) => show L[k] = runS c (T, br) (p.take k) by subst hL; exact HAT.out k hk)
  clear hN
  clear hcv hbv hwm ho hbb h0 hf hL HAT
  go_enter Try.func21, Try.ntmps21
  go_wp2_with (go_at_call 18; refine (HF.out _ _ (HL.out _ HS.out.low) (HL2.out _ HS.out.low)).mono ?_; rintro e w1 ⟨u, rfl, hrb, hb⟩; replace hrb := hid hrb; have H1 := hid (HS.out.keep hb); clear hb; obtain ⟨ua, _, _, uc, hue, _⟩ := hrb.out; subst hue; rw [hfl]; obtain ⟨k0, k1, k2, k3, k4, k5, k6, k7, k8, k9, k10⟩ := H1.out.nine)
  go_loopw [10, 11] (fun s i wr => ∃ j k : Nat, j ≤ p.length ∧ i = .int .i64 (k : Int) ∧ Hid (k = j + 1) ∧ ∃ (a' : Option Addr) (c' : Nat), s = .slice a' j c' ∧ Hid (Below w1.heap.size w1 wr) ∧ Hid (wr.ownsRow w1.heap.size 3 1 (.slice a' j c') (ivs (tellN f c (T, br) p j)).length (ivs (tellN f c (T, br) p j)))) (fun _ i _ => N - (intOf i).toNat)
  case atStart => exact ⟨0, 1, Nat.zero_le _, rfl, rfl, none, 0, rfl, Below.refl _ _, World.ownsRow_nil _ _ _ _⟩
  case round =>
    obtain ⟨j, k, hj, rfl, HKJ, a', c', rfl, HB, HO⟩ := hrel
    have hkj := HKJ.out
    have hNN := HNN.out
    by_cases hlt : j < p.length
    · have hlt' : (k : Int) < (N : Int) := by omega
      obtain ⟨_, ub2, uo2, uc2, e1, _, hu, hcs⟩ := hrb.out.keep HB.out
      injection e1 with e1 _ e3
      subst e1 e3
      obtain rfl := hu.resolve_left (by rintro rfl; simp at hfl; omega)
      obtain ⟨ya, yc, g1, g2, g3⟩ := hcs (j + 1) (by rw [hfl]; omega)
      rw [HAT2.out (j + 1) (by omega) (by rw [hfl]; omega)] at g1 g2 g3
      have hts := HTS.out j
      have htl := HTL.out j
      have hyl := HLEN.out (j + 1)
      obtain ⟨y, hy⟩ : ∃ y, y = runS c (T, br) (p.take (j + 1)) := ⟨_, rfl⟩
      rw [← hy] at g1 g2 g3 hts hyl
      rw [← hkj] at g1 g2
      have hkn : k < N := by omega
      obtain ⟨t, ht⟩ : ∃ t, t = f y := ⟨_, rfl⟩
      rw [← ht] at hts
      have HLE := hid (least_any wr (.slice ya y.1.length yc) y.1 y.2 g3 (by omega))
      rw [show (bestT ltB y.1 y.1.length).2 = t by rw [ht, HFF.out]; rfl] at HLE
      obtain ⟨bp, hbp⟩ : ∃ b, b = (bestT ltB y.1 y.1.length).1 := ⟨_, rfl⟩
      rw [← hbp] at HLE
      clear hbp g3
      have HTS2 := hid hts
      have HNL := hid (show (ivs (tellN f c (T, br) p j)).length ≤ 2000 by rw [ivs_len, htl]; omega)
      have HHL := hid htl
      clear hcs hu hts htl hy ht hyl
      have hk5 : k ≤ 3000 := by omega
      clear hkj hNN hlt
      go_wp2_with (first
        | (go_at_call 55; refine HLE.out.mono ?_; rintro e w4 ⟨rfl, hb⟩; have HB4 := hid (bstep HB.out HB.out.size hb); have HO4 := hid (own_kept HO.out hb); clear hb)
        | (at_builtin; refine wpList_app rfl _ _ 24 rfl w1.heap.size 3 i0 Try.underlying24 hi hz0 hz1 hz2 (.slice a' j c') (ivs (tellN f c (T, br) p j)) rfl (HO4.out.alloc _) (.slice (some ⟨w4.heap.size, 0, none⟩) 1 1) [t] rfl (RowI.src (one_at _ _ rfl)) (by have := HNL.out; simp only [List.length_cons, List.length_nil]; omega) (by have := HB4.out.size; rw [World.size_alloc]; omega) ?_; intro v1 w3 hA; have HB3 := hid (below_app HB4.out (HO4.out.alloc _) hA); have ho3 := app_next hA; rw [← HTS2.out] at ho3; obtain ⟨a3, c3, rfl⟩ := own_shape ho3; rw [HTL.out (j + 1)] at ho3 ⊢; have HO3 := hid ho3; clear ho3 hA))
      go_roundw
      case rel => exact ⟨j + 1, k + 1, by have := HKJ.out; have := HNN.out; omega, by go_num, by have := HKJ.out; unfold Hid; omega, a3, c3, rfl, HB3, by rw [ivs_len, HTL.out (j + 1)]; exact HO3⟩
      case measure => simp [intOf]; omega
    · obtain rfl : j = p.length := by omega
      have hlt' : ¬ (k : Int) < (N : Int) := by omega
      have htl := HTL.out p.length
      have hrd := own_rowI (l := tellN f c (T, br) p p.length) (by have := HO.out; rw [ivs_len] at this; rw [htl] at this ⊢; exact this) (by rw [htl]; omega)
      have HRD := hid hrd
      have HHL := hid htl
      clear hrd htl hkj hNN hlt
      go_wp2_with fail
      go_ret2
      exact ⟨a', c', by rw [HHL.out]; rfl, by rw [HHL.out]; exact HRD.out, bstep H1.out.low H1.out.low.size HB.out⟩
set_option maxRecDepth 100000 in
set_option maxHeartbeats 4000000 in
theorem rat_all (r l a b k a2 b2 : Int) (w : World) (v : Value) (T : List Int) (br : Bool) (v2 : Value) (p : List Int) (pl : Int) (hl : RowI w v T) (hl2 : RowI w v2 p) (hpl : -1 ≤ pl ∧ pl ≤ 1000) :
    Calls Try.prog 24 #[.agg #[.int .i64 r, .int .i64 l, .int .i64 a, .int .i64 b, .int .i64 k, .int .i64 a2, .int .i64 b2], .agg #[v, .bool br], v2, .int .i64 pl] w (ColP (atO r l a b k a2 b2 (T, br) p pl).1 (atO r l a b k a2 b2 (T, br) p pl).2 w) := by
  have HL := hid (fun w1 (g : Below w.heap.size w w1) => hl.keep g)
  have HL2 := hid (fun w1 (g : Below w.heap.size w w1) => hl2.keep g)
  have HF := hid (fun w1 v h1 h2 => rfollow_all r l a b k a2 b2 w1 v T br v2 p h1 h2)
  obtain ⟨a0, cap, rfl⟩ := hl.shape
  clear hl hl2
  have HS := hid (r2_start (w := w) (A := #[.int .i64 r, .int .i64 l, .int .i64 a, .int .i64 b, .int .i64 k, .int .i64 a2, .int .i64 b2]) (R := #[.slice a0 T.length cap, .bool br]))
  rcases chkE_cases (bothB r l a b k a2 b2 T br) p with hne | ⟨h0, hbb, ho, hlen⟩
  · rw [atO_err (x := (T, br)) hne]
    rw [folO_err (x := (T, br)) hne] at HF
    dsimp only at HF
    obtain ⟨ce, hce⟩ : ∃ ce, ce = chkE (bothB r l a b k a2 b2 T br) p := ⟨_, rfl⟩
    rw [← hce] at hne HF ⊢
    have hb0 : (ce == 0) = false := by simpa using hne
    have hb1 : (ce != 0) = true := by simpa using hne
    clear hce
    go_enter Try.func24, Try.ntmps24
    go_wp2_with (go_at_call 18; refine (HF.out _ _ (HL.out _ HS.out.low) (HL2.out _ HS.out.low)).mono ?_; rintro e w1 ⟨u, rfl, _, hb⟩; have H1 := hid (HS.out.keep hb); clear hb)
    go_ret2
    exact ⟨none, 0, rfl, rowI_nil _, H1.out.low⟩
  rw [folO_ok (x := (T, br)) h0] at HF
  dsimp only at HF
  obtain ⟨c, hcv, ⟨rfl, rfl, rfl, rfl, rfl, rfl, rfl⟩, hbv, hwm⟩ := both_open hbb
  rw [cnOf_cn] at HF
  have HLEN := hid (fun k => show (runS c (T, br) (p.take k)).1.length = c.P from (hwm.run hcv.ok (fun b hb => okL_bd ho b (List.mem_of_mem_take hb))).len)
  obtain ⟨hP1, hP2⟩ := hcv.ok.p
  have hP2 := hP2
  obtain ⟨i0, hi, hz0, hz1, hz2⟩ := info_parts infoIf
  have HPL := hid (fun w1 => rplaces_yes c w1 hcv)
  obtain ⟨P, hP⟩ : ∃ P, P = c.P := ⟨_, rfl⟩
  have HPP := hid hP
  rw [← hP] at HPL hP1 hP2 HLEN
  have hw1 : IntKind.i64.wrap ((P : Int) - 1) = (P : Int) - 1 := wrap_i64 (by omega) (by omega)
  obtain ⟨B, hB⟩ : ∃ B, (decide (0 ≤ pl) && decide (pl ≤ (P : Int) - 1)) = B := ⟨_, rfl⟩
  have HCW := hid (fun w1 => show Calls Try.prog 59 #[.int .i64 pl, .int .i64 0, .int .i64 ((P : Int) - 1)] w1 (fun e w'' => e = .returned (.bool B) ∧ w1 = w'') by
    have h := rwithin_any pl 0 ((P : Int) - 1) w1
    rw [hB] at h
    exact h)
  cases B
  · have HE := hid (atO_name (x := (T, br)) (p := p) (pl := pl) h0 (by rw [← hP]; simpa using hB))
    clear hB hP hcv hbv hwm ho hbb h0
    go_enter Try.func24, Try.ntmps24
    go_wp2_with (first
      | (go_at_call 18; refine (HF.out _ _ (HL.out _ HS.out.low) (HL2.out _ HS.out.low)).mono ?_; rintro e w1 ⟨u, rfl, _, hb⟩; have H1 := hid (HS.out.keep hb); clear hb; obtain ⟨k0, k1, k2, k3, k4, k5, k6, k7, k8, k9, k10⟩ := H1.out.nine)
      | (go_at_call 60; refine (HPL.out _).mono ?_; rintro e w2 ⟨rfl, hb⟩; have H2 := hid (H1.out.keep hb); clear hb)
      | (go_at_call 59; refine (HCW.out _).mono ?_; rintro e w' ⟨rfl, rfl⟩))
    go_ret2
    rw [HE.out]
    exact ⟨none, 0, rfl, rowI_nil _, H2.out.low⟩
  obtain ⟨q, rfl⟩ : ∃ q : Nat, pl = (q : Int) := ⟨pl.toNat, by have : 0 ≤ pl ∧ pl ≤ (P : Int) - 1 := by simpa using hB
                                                               omega⟩
  have hqP : q < P := by have : (0 : Int) ≤ (q : Int) ∧ (q : Int) ≤ (P : Int) - 1 := by simpa using hB
                         omega
  rw [atO_ok (x := (T, br)) (p := p) h0 (by rw [← hP]; exact hqP)]
  clear hB hP
  have HAT := hid (fun k (hk : k ≤ p.length) => folL_at c (T, br) p k hk)
  have hfl := folL_len c (T, br) p
  obtain ⟨f, hf⟩ : ∃ f : Bd → Int, f = fun y => y.1.getD q 0 := ⟨_, rfl⟩
  rw [← hf]
  have HFF := hid hf
  have HTS := hid (fun n => tellN_succ f c (T, br) p n)
  have HTL := hid (fun n => tellN_len f c (T, br) p n)
  obtain ⟨L, hL⟩ : ∃ L, L = folL c (T, br) p := ⟨_, rfl⟩
  have HLL := hid hL
  rw [← hL] at HF hfl
  obtain ⟨N, hN⟩ : ∃ N, N = p.length + 1 := ⟨_, rfl⟩
  rw [← hN] at hfl
  have HNN := hid hN
  have HAT2 := hid (fun k (hk : k ≤ p.length) (h : k < L.length) => show L[k] = runS c (T, br) (p.take k) by subst hL; exact HAT.out k hk)
  clear hN
  clear hcv hbv hwm ho hbb h0 hf hL HAT
  go_enter Try.func24, Try.ntmps24
  go_wp2_with (first
      | (go_at_call 18; refine (HF.out _ _ (HL.out _ HS.out.low) (HL2.out _ HS.out.low)).mono ?_; rintro e w1 ⟨u, rfl, hrb, hb⟩; replace hrb := hid hrb; have H1 := hid (HS.out.keep hb); clear hb; obtain ⟨ua, _, _, uc, hue, _⟩ := hrb.out; subst hue; rw [hfl]; obtain ⟨k0, k1, k2, k3, k4, k5, k6, k7, k8, k9, k10⟩ := H1.out.nine)
      | (go_at_call 60; refine (HPL.out _).mono ?_; rintro e w2 ⟨rfl, hb⟩; have HB2 := hid hb; clear hb)
      | (go_at_call 59; refine (HCW.out _).mono ?_; rintro e w' ⟨rfl, rfl⟩))
  go_loopw [12, 13] (fun s i wr => ∃ j k : Nat, j ≤ p.length ∧ i = .int .i64 (k : Int) ∧ Hid (k = j + 1) ∧ ∃ (a' : Option Addr) (c' : Nat), s = .slice a' j c' ∧ Hid (Below w1.heap.size w1 wr) ∧ Hid (wr.ownsRow w1.heap.size 3 1 (.slice a' j c') (ivs (tellN f c (T, br) p j)).length (ivs (tellN f c (T, br) p j)))) (fun _ i _ => N - (intOf i).toNat)
  case atStart => exact ⟨0, 1, Nat.zero_le _, rfl, rfl, none, 0, rfl, HB2, World.ownsRow_nil _ _ _ _⟩
  case round =>
    obtain ⟨j, k, hj, rfl, HKJ, a', c', rfl, HB, HO⟩ := hrel
    have hkj := HKJ.out
    have hNN := HNN.out
    by_cases hlt : j < p.length
    · have hlt' : (k : Int) < (N : Int) := by omega
      obtain ⟨_, ub2, uo2, uc2, e1, _, hu, hcs⟩ := hrb.out.keep HB.out
      injection e1 with e1 _ e3
      subst e1 e3
      obtain rfl := hu.resolve_left (by rintro rfl; simp at hfl; omega)
      obtain ⟨ya, yc, g1, g2, g3⟩ := hcs (j + 1) (by rw [hfl]; omega)
      rw [HAT2.out (j + 1) (by omega) (by rw [hfl]; omega)] at g1 g2 g3
      have hts := HTS.out j
      have htl := HTL.out j
      have hyl := HLEN.out (j + 1)
      obtain ⟨y, hy⟩ : ∃ y, y = runS c (T, br) (p.take (j + 1)) := ⟨_, rfl⟩
      rw [← hy] at g1 g2 g3 hts hyl
      rw [← hkj] at g1 g2
      have hkn : k < N := by omega
      obtain ⟨t, ht⟩ : ∃ t, t = f y := ⟨_, rfl⟩
      rw [← ht] at hts
      obtain ⟨yb, yo, yd, hyv, hyc⟩ := g3.some (by omega)
      have gq := hyc q (by omega)
      rw [← getD_at (by omega)] at gq
      have htq : y.1.getD q 0 = t := by rw [ht, HFF.out]
      rw [htq] at gq
      injection hyv with e4 e5 e6
      subst e4 e6
      have hq1 : (q : Int) < (y.1.length : Int) := by omega
      have hq2 : q < y.1.length := by omega
      clear hyc htq e5 g3
      have HTS2 := hid hts
      have HNL := hid (show (ivs (tellN f c (T, br) p j)).length ≤ 2000 by rw [ivs_len, htl]; omega)
      have HHL := hid htl
      clear hcs hu hts htl hy ht hyl
      have hk5 : k ≤ 3000 := by omega
      clear hkj hNN hlt
      go_wp2_with (at_builtin; refine wpList_app rfl _ _ 24 rfl w1.heap.size 3 i0 Try.underlying24 hi hz0 hz1 hz2 (.slice a' j c') (ivs (tellN f c (T, br) p j)) rfl (HO.out.alloc _) (.slice (some ⟨wr.heap.size, 0, none⟩) 1 1) [t] rfl (RowI.src (one_at _ _ rfl)) (by have := HNL.out; simp only [List.length_cons, List.length_nil]; omega) (by have := HB.out.size; rw [World.size_alloc]; omega) ?_; intro v1 w3 hA; have HB3 := hid (below_app HB.out (HO.out.alloc _) hA); have ho3 := app_next hA; rw [← HTS2.out] at ho3; obtain ⟨a3, c3, rfl⟩ := own_shape ho3; rw [HTL.out (j + 1)] at ho3 ⊢; have HO3 := hid ho3; clear ho3 hA)
      go_roundw
      case rel => exact ⟨j + 1, k + 1, by have := HKJ.out; have := HNN.out; omega, by go_num, by have := HKJ.out; unfold Hid; omega, a3, c3, rfl, HB3, by rw [ivs_len, HTL.out (j + 1)]; exact HO3⟩
      case measure => simp [intOf]; omega
    · obtain rfl : j = p.length := by omega
      have hlt' : ¬ (k : Int) < (N : Int) := by omega
      have htl := HTL.out p.length
      have hrd := own_rowI (l := tellN f c (T, br) p p.length) (by have := HO.out; rw [ivs_len] at this; rw [htl] at this ⊢; exact this) (by rw [htl]; omega)
      have HRD := hid hrd
      have HHL := hid htl
      clear hrd htl hkj hNN hlt
      go_wp2_with fail
      go_ret2
      exact ⟨a', c', by rw [HHL.out]; rfl, by rw [HHL.out]; exact HRD.out, bstep H1.out.low H1.out.low.size HB.out⟩
end Go.Proofs.Ytpkcnojcklmhmaa
