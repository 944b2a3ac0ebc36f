/- Walk of TopUpside. -/
import Derived.Test.YtedfajokiblfhaaC8
namespace Go.Proofs.Ytedfajokiblfhaa
open Go.RowKit Go.Lib

theorem getD_at' {S : List Nat} {i : Nat} (h : i < S.length) : S.getD i 0 = S[i] := by simp [List.getD, h]
set_option maxRecDepth 100000 in
set_option maxHeartbeats 4000000 in
theorem topup_walk (r l a b k a2 b2 : Int) (q : Kl) (t : Int) (v : Value) (p : List Int) (w : World) (hs : q.s.size ≤ maxLen) (_ht : (Lit.int .i64 t).wf = true) (hl : RowI w v p) :
    Calls Try.prog 6 #[.agg #[.int .i64 r, .int .i64 l, .int .i64 a, .int .i64 b, .int .i64 k, .int .i64 a2, .int .i64 b2, .string q.s, .int .i64 q.r, .int .i64 q.z, .int .i64 q.d, .int .i64 q.g, .int .i64 t], v] w fun e w' => e = .returned (.bool true) ∧ Below w.heap.size w w' := by
  have BX := hid (box1_start (w := w) (A := #[.int .i64 r, .int .i64 l, .int .i64 a, .int .i64 b, .int .i64 k, .int .i64 a2, .int .i64 b2, .string q.s, .int .i64 q.r, .int .i64 q.z, .int .i64 q.d, .int .i64 q.g, .int .i64 t]) (T := 27) (fz := (0, 0)))
  have HL := hid (fun w1 (g : Below w.heap.size w w1) => hl.keep g)
  have hpm := hl.most
  obtain ⟨a0, cap, rfl⟩ := hl.shape
  have HSM := hid (fun W => small4_any r l a b k a2 b2 W a0 p.length cap hpm)
  have HPL := hid (fun W h => places_all r l a b k a2 b2 W q t (.slice a0 p.length cap) p hs h hpm)
  have HSO : Hid (chk4 (canB r l a b k a2 b2) q.vB t p = 0 → ∃ c : Cn, c.Ok ∧ r = c.R ∧ l = c.L ∧ (sumsO r l a b k a2 b2 q t p).length = c.P ∧ Sym 0 c.R c.L (sumsO r l a b k a2 b2 q t p)) := fun h => by
    obtain ⟨hc, hk, ho, hop, hlen⟩ := chk4_zero h
    obtain ⟨hl1, _, _⟩ := sumsO_len h
    obtain ⟨c, hcv, rfl, rfl, rfl, rfl, rfl, rfl, rfl⟩ := canB_cn hc
    rw [cnOf_cn] at hl1
    refine ⟨c, hcv.ok, rfl, rfl, hl1, ?_⟩
    unfold sumsO
    rw [if_pos h, cnOf_cn]
    exact dish0_sym hcv.ok t p
  generalize sumsO r l a b k a2 b2 q t p = S at *
  generalize chk4 (canB r l a b k a2 b2) q.vB t p = ce at *
  clear hl hs
  go_enter Try.func6, Try.ntmps6
  go_wp2_with fail
  refine (HSM.out _).mono ?_
  rintro e w1 ⟨rfl, hb⟩
  cases hsm : smallB r l p.length 60
  · have BX := hid (BX.out.keep hb)
    clear hb
    go_wp2_with fail
    refine (awake4_any _).mono ?_
    rintro e w2 ⟨rfl, hb⟩
    have BX := hid (BX.out.keep hb)
    clear hb
    go_wp2_with fail
    go_ret
    exact ⟨rfl, BX.out.low⟩
  have BX := hid (BX.out.keep hb)
  clear hb hsm
  obtain ⟨t0, t1, t2, t3, t4, t5, t6, t7, t8, t9, t10, t11, t12⟩ := BX.out.thirteen
  have hz := BX.out.sz
  go_wp2_with fail
  refine (HPL.out _ (HL.out _ BX.out.low)).mono ?_
  rintro e w3 ⟨ub, ud, rfl, hr, hb⟩
  have BX := hid (BX.out.keep hb); clear hb t0 t1 t2 t3 t4 t5 t6 t7 t8 t9 t10 t11 t12; obtain ⟨t0, t1, t2, t3, t4, t5, t6, t7, t8, t9, t10, t11, t12⟩ := BX.out.thirteen; have hz := BX.out.sz
  have HR := hid hr
  clear hr
  by_cases hce : ce = 0
  case neg =>
    have hc1 : (ce != 0) = true := by simpa using hce
    clear hce
    go_wp2_with fail
    refine (awake4_any _).mono ?_
    rintro e w2 ⟨rfl, hb⟩
    have BX := hid (BX.out.keep hb); clear hb t0 t1 t2 t3 t4 t5 t6 t7 t8 t9 t10 t11 t12; obtain ⟨t0, t1, t2, t3, t4, t5, t6, t7, t8, t9, t10, t11, t12⟩ := BX.out.thirteen; have hz := BX.out.sz
    go_wp2_with fail
    go_ret
    exact ⟨rfl, BX.out.low⟩
  obtain ⟨c, hok, rfl, rfl, hlen, hsym⟩ := HSO.out hce
  subst hce
  have hP := hok.p
  have HPI := hid c.P_int
  have hr1 := hok.r1; have hr2 := hok.r2; have hl1 := hok.l1; have hl2 := hok.l2
  rw [hlen] at HR ⊢
  have HLEN := hid hlen
  have HSYM := hid hsym
  obtain ⟨pr, hpr⟩ : ∃ pr : Int, pr = (c.R : Int) * c.L := ⟨_, rfl⟩
  have hprP : pr = (c.P : Int) := by rw [hpr, HPI.out]
  have hmul : (c.R : Int) * (c.L : Int) = (c.P : Int) := by rw [← hpr, hprP]
  clear hpr hprP hlen hsym
  obtain ⟨ra, b', o', rc, hve, hra, hrc, _⟩ := HR.out.form
  rw [ivN_len, HLEN.out] at hve
  cases hve
  have hra : ub = some ⟨b', o', none⟩ := hra.resolve_left (fun e => by have := ivN_len S; rw [e, HLEN.out] at this; simp at this; omega)
  subst hra
  have HRC := hid hrc
  clear hrc
  go_wp2_with fail
  go_loopw [8] (fun x wr => ∃ k : Nat, k ≤ c.P ∧ x = .int .i64 (k : Int) ∧ Hid (Below w3.heap.size w3 wr)) (fun x _ => c.P - (intOf x).toNat)
  case atStart => exact ⟨0, Nat.zero_le _, rfl, Below.refl _ _⟩
  case round =>
    obtain ⟨k, hk, rfl, hW⟩ := hrel
    have hBW := hW.out
    have hB := hid (BX.out.keep hBW)
    obtain ⟨t0, t1, _⟩ := hB.out.thirteen
    by_cases hlt : k < c.P
    · have hlt' : (k : Int) < c.P := by omega
      have hR0 : 0 < c.R := hr1
      obtain ⟨g1, g2, g3⟩ := idx_mir (L := c.L) hR0 (show k < c.R * c.L from hlt)
      have hsy := HSYM.out k hlt
      have g4 : (c.L - 1 - k / c.R) * c.R ≤ 1000 := by
        have := Nat.mul_le_mul (show c.L - 1 - k / c.R ≤ 8 from Nat.le_trans (Nat.sub_le _ _) (by omega)) (show c.R ≤ 6 by omega)
        omega
      have e1 := HRC.out k (by rw [ivN_len, HLEN.out]; exact hlt)
      have e2 := HRC.out ((c.L - 1 - k / c.R) * c.R + k % c.R) (by rw [ivN_len, HLEN.out]; exact g1)
      rw [getD_at' (by rw [HLEN.out]; exact g1), getD_at' (by rw [HLEN.out]; exact hlt)] at hsy
      have e3 : (ivN S)[(c.L - 1 - k / c.R) * c.R + k % c.R]'(by rw [ivN_len, HLEN.out]; exact g1) = (ivN S)[k]'(by rw [ivN_len, HLEN.out]; exact hlt) := by simp only [ivN, List.getElem_map]; rw [hsy]
      rw [e3] at e2
      clear e3
      replace e1 := keep_cell hBW e1
      replace e2 := keep_cell hBW e2
      generalize (ivN S)[k]'(by rw [ivN_len, HLEN.out]; exact hlt) = x at e1 e2
      have hq : (k : Int) / (c.R : Int) = ((k / c.R : Nat) : Int) := rfl
      have hm : (k : Int) % (c.R : Int) = ((k % c.R : Nat) : Int) := rfl
      obtain ⟨q1, hq1⟩ : ∃ q1, q1 = k / c.R := ⟨_, rfl⟩
      obtain ⟨m1, hm1⟩ : ∃ m1, m1 = k % c.R := ⟨_, rfl⟩
      rw [← hq1] at g1 g2 g4 e2 hq
      rw [← hm1] at g1 g3 e2 hm
      obtain ⟨L1, hL1⟩ : ∃ L1, L1 = c.L - 1 := ⟨_, rfl⟩
      obtain ⟨d1, hd1⟩ : ∃ d1, d1 = c.L - 1 - q1 := ⟨_, rfl⟩
      obtain ⟨dr, hdr⟩ : ∃ dr, dr = (c.L - 1 - q1) * c.R := ⟨_, rfl⟩
      rw [← hdr] at g1 g4 e2
      obtain ⟨j, hj⟩ : ∃ j, j = dr + m1 := ⟨_, rfl⟩
      rw [← hj] at g1 e2
      have w1 : IntKind.i64.wrap ((c.L : Int) - 1) = (L1 : Int) := by rw [wrap_i64 (by omega) (by omega)]; omega
      have w2 : IntKind.i64.wrap ((L1 : Int) - (q1 : Int)) = (d1 : Int) := by rw [wrap_i64 (by omega) (by omega)]; omega
      have w3' : IntKind.i64.wrap ((d1 : Int) * (c.R : Int)) = (dr : Int) := by
        have : (d1 : Int) * (c.R : Int) = (dr : Int) := by rw [hd1, hdr]; exact (Int.natCast_mul _ _).symm
        rw [this, wrap_i64 (by omega) (by omega)]
      have w4 : IntKind.i64.wrap ((dr : Int) + (m1 : Int)) = (j : Int) := by rw [wrap_i64 (by omega) (by omega)]; omega
      have hjP : (j : Int) < c.P := by have : j < c.R * c.L := g1; have h2 : c.P = c.R * c.L := rfl; omega
      have hj0 : ¬ (j : Int) < 0 := by omega
      have hrz : ((c.R : Int) == 0) = false := by simp; omega
      have htd : (k : Int).tdiv (c.R : Int) = (q1 : Int) := by rw [Int.tdiv_eq_ediv_of_nonneg (by omega), hq]
      have htm : (k : Int).tmod (c.R : Int) = (m1 : Int) := by rw [Int.tmod_eq_emod_of_nonneg (by omega), hm]
      have w5 : IntKind.i64.wrap (q1 : Int) = (q1 : Int) := wrap_i64 (by omega) (by omega)
      have w6 : IntKind.i64.wrap (m1 : Int) = (m1 : Int) := wrap_i64 (by omega) (by omega)
      have HLT := hid hlt
      clear hq1 hm1 hL1 hd1 hdr hj g1 g2 g3 g4 hsy hq hm hlt hBW
      go_wp2_with fail
      go_quiet (fail)
      go_wp2_with fail
      go_roundw
      case rel => exact ⟨k + 1, HLT.out, by go_num, by first | exact bdrewN hW.out | exact hW.out.drew⟩
      case measure => have := HLT.out; simp [intOf]; omega
    · obtain rfl : k = c.P := by omega
      clear t0 t1
      go_wp2_with fail
      refine (awake4_any _).mono ?_
      rintro e w2 ⟨rfl, hb⟩
      have hB2 := hid (hB.out.keep hb)
      clear hb
      go_wp2_with fail
      go_ret
      exact ⟨rfl, hB2.out.low⟩
end Go.Proofs.Ytedfajokiblfhaa
