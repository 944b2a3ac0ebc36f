/- HeatCold: its walk. -/
import Derived.Test.YtpkcnojcklmhmaaYt
import Derived.Test.YtpkcnojcklmhmaaHo
import Derived.Test.YtpkcnojcklmhmaaHs
namespace Go.Proofs.Ytpkcnojcklmhmaa
open Go.RowKit

theorem sameI_self (w : World) (v u : Value) (l : List Int) (hl : RowI w v l) (hm : RowI w u l) :
    Calls Try.prog 22 #[v, u] w fun e w' => e = .returned (.bool true) ∧ Below w.heap.size w w' :=
  (sameI_any w v u l l hl hm).mono fun _ _ ⟨h, hd⟩ => ⟨by rw [h]; simp, below_two hd⟩
set_option maxRecDepth 100000 in
set_option maxHeartbeats 8000000 in
theorem cold_walk (r l a b k a2 b2 : Int) (u : Value) (x : List Int) (br : Bool) (v2 : Value) (p : List Int) (w : World) (hx : RowI w u x) (hp : RowI w v2 p) :
    Calls Try.prog 4 #[.agg #[.int .i64 r, .int .i64 l, .int .i64 a, .int .i64 b, .int .i64 k, .int .i64 a2, .int .i64 b2], .agg #[u, .bool br], v2] w fun e w' => e = .returned (.bool true) ∧ Below w.heap.size w w' := by
  have HX := hid (fun w1 (g : Below w.heap.size w w1) => hx.keep g)
  have HP := hid (fun w1 (g : Below w.heap.size w w1) => hp.keep g)
  obtain ⟨xa, xc, rfl⟩ := hx.shape
  obtain ⟨pa, pc, rfl⟩ := hp.shape
  have HS := hid (r2_start (w := w) (A := #[.int .i64 r, .int .i64 l, .int .i64 a, .int .i64 b, .int .i64 k, .int .i64 a2, .int .i64 b2]) (R := #[.slice xa x.length xc, .bool br]))
  clear hx hp
  by_cases h1 : x.length ≤ 100 ∧ p.length ≤ 80
  case neg =>
    have d1 := hid (decide_eq_false h1)
    go_enter Try.func4, Try.ntmps4
    go_wp2_with (first
      | (go_at_call 10; refine (brief_any _ _ _ _ _ _ _ _).mono ?_; rintro e w1 ⟨rfl, hb⟩; rw [d1.out]; have H1 := hid (HS.out.keep hb); clear hb)
      | (go_at_call 11; refine (awake_any _).mono ?_; rintro e w9 ⟨rfl, hb⟩; have H9 := hid (H1.out.keep hb); clear hb))
    go_ret
    exact ⟨rfl, H9.out.low⟩
  have d1 := hid (decide_eq_true h1)
  obtain ⟨hx100, hp80⟩ := h1
  have HC := hid (fun w1 v1 v2 h1 h2 => hcold_all r l a b k a2 b2 w1 v1 x br v2 p h1 h2)
  have HD := hid (fun w1 v1 v2 h1 h2 => rcold_all r l a b k a2 b2 w1 v1 x br v2 p h1 h2)
  obtain ⟨O, hO⟩ : ∃ O, O = colO r l a b k a2 b2 (x, br) p := ⟨_, rfl⟩
  rw [← hO] at HC HD
  obtain ⟨D, hD⟩ : ∃ D : Nat, D = x.length + 2 := ⟨_, rfl⟩
  obtain ⟨pm, hpm⟩ : ∃ q : Nat, q = p.length % D := ⟨_, rfl⟩
  have hpmD : pm < D := by rw [hpm]; exact Nat.mod_lt _ (by omega)
  have hDz : (x.length : Int) + 2 = (D : Int) := by omega
  have hmt : (p.length : Int).tmod (D : Int) = (pm : Int) := by rw [Int.tmod_eq_emod_of_nonneg (by omega), hpm]; exact (Int.natCast_emod _ _).symm
  obtain ⟨pl, hpl⟩ : ∃ z : Int, z = (pm : Int) - 1 := ⟨_, rfl⟩
  have hplz : (pm : Int) - 1 = pl := hpl.symm
  have hplb : -1 ≤ pl ∧ pl ≤ 1000 := by omega
  have HE := hid (fun w1 v1 v2 h1 h2 => hat_all r l a b k a2 b2 w1 v1 x br v2 p pl h1 h2 hplb)
  have HF := hid (fun w1 v1 v2 h1 h2 => rat_all r l a b k a2 b2 w1 v1 x br v2 p pl h1 h2 hplb)
  obtain ⟨E, hE⟩ : ∃ E, E = atO r l a b k a2 b2 (x, br) p pl := ⟨_, rfl⟩
  rw [← hE] at HE HF
  have hD0 : ¬ D = 0 := by omega
  have hD1 : D ≤ 102 := by omega
  have hw1 : IntKind.i64.wrap (D : Int) = D := wrap_i64 (by omega) (by omega)
  have hw2 : IntKind.i64.wrap (pm : Int) = pm := wrap_i64 (by omega) (by omega)
  have hw3 : IntKind.i64.wrap pl = pl := wrap_i64 (by omega) (by omega)
  clear hO hE hpl hpm hD
  go_enter Try.func4, Try.ntmps4
  go_wp2_with fail
  refine (brief_any _ _ _ _ _ _ _ _).mono ?_
  rintro e w1 ⟨rfl, hb⟩
  rw [d1.out]
  have H1 := hid (HS.out.keep hb)
  clear hb HS
  obtain ⟨k0, k1, k2, k3, k4, k5, k6, k7, k8, k9, k10⟩ := H1.out.nine
  go_wp2_with fail
  refine (HC.out _ _ _ (HX.out _ H1.out.low) (HP.out _ H1.out.low)).mono ?_
  rintro e w2 ⟨ua, uc, rfl, hri, hb⟩
  have H2 := hid (H1.out.keep hb)
  have HRA := hid hri
  clear hb hri H1 k0 k1 k2 k3 k4 k5 k6 k7 k8 k9 k10
  obtain ⟨k0, k1, k2, k3, k4, k5, k6, k7, k8, k9, k10⟩ := H2.out.nine
  go_wp2_with fail
  refine (HD.out _ _ _ (HX.out _ H2.out.low) (HP.out _ H2.out.low)).mono ?_
  rintro e w3 ⟨ub, ud, rfl, hri, hb⟩
  have H3 := hid (H2.out.keep hb)
  have HRA2 := hid (HRA.out.keep hb)
  have HRB := hid hri
  clear hb hri H2 HRA k0 k1 k2 k3 k4 k5 k6 k7 k8 k9 k10
  go_wp2_with fail
  refine (sameI_self _ (.slice ua O.1.length uc) (.slice ub O.1.length ud) O.1 HRA2.out HRB.out).mono ?_
  rintro e w4 ⟨rfl, hb⟩
  have H4 := hid (H3.out.keep hb)
  clear hb H3 HRA2 HRB
  obtain ⟨k0, k1, k2, k3, k4, k5, k6, k7, k8, k9, k10⟩ := H4.out.nine
  go_wp2_with fail
  refine (HE.out _ _ _ (HX.out _ H4.out.low) (HP.out _ H4.out.low)).mono ?_
  rintro e w5 ⟨ua2, uc2, rfl, hri, hb⟩
  have H5 := hid (H4.out.keep hb)
  have HRA := hid hri
  clear hb hri H4 k0 k1 k2 k3 k4 k5 k6 k7 k8 k9 k10
  obtain ⟨k0, k1, k2, k3, k4, k5, k6, k7, k8, k9, k10⟩ := H5.out.nine
  go_wp2_with fail
  refine (HF.out _ _ _ (HX.out _ H5.out.low) (HP.out _ H5.out.low)).mono ?_
  rintro e w6 ⟨ub2, ud2, rfl, hri, hb⟩
  have H6 := hid (H5.out.keep hb)
  have HRA2 := hid (HRA.out.keep hb)
  have HRB := hid hri
  clear hb hri H5 HRA k0 k1 k2 k3 k4 k5 k6 k7 k8 k9 k10
  go_wp2_with fail
  refine (sameI_self _ (.slice ua2 E.1.length uc2) (.slice ub2 E.1.length ud2) E.1 HRA2.out HRB.out).mono ?_
  rintro e w7 ⟨rfl, hb⟩
  have H7 := hid (H6.out.keep hb)
  clear hb H6 HRA2 HRB
  go_wp2_with fail
  refine (awake_any _).mono ?_
  rintro e w9 ⟨rfl, hb⟩
  have H9 := hid (H7.out.keep hb)
  clear hb
  go_wp2_with fail
  go_ret
  exact ⟨rfl, H9.out.low⟩
end Go.Proofs.Ytpkcnojcklmhmaa
