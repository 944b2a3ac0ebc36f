/- Walk of SeamSignals. -/
import Derived.Test.YtlhjiikbehmamaaDoorNm
import Derived.Deep.CutBlock
namespace Go.Proofs.YtlhjiikbehmamaaDoor
open Go.RowKit

set_option maxRecDepth 20000 in
theorem RowQ.beg {w : World} {a : Option Addr} {n cap h : Nat} {l : List Int} (hr : RowQ w (.slice a n cap) l) (hh : h ≤ n) :
    RowQ w (.slice a h h) (l.take h) ∧ ∀ W : World, (Instr.sliceAt 24 (.slice a n cap) none (some (.int .i64 (h : Int))) (some (.int .i64 (h : Int)))).run Tryd.prog W = .ok (.slice a h h) W := by
  obtain ⟨a', b, o, cap', hv, g1, g2, g3, g4⟩ := hr
  injection hv with hv1 hv2 hv3
  subst hv1 hv3
  have e : (l.take h).length = h := by rw [List.length_take]; omega
  refine ⟨⟨a, b, o, h, by rw [e], by rw [e]; exact Nat.le_refl _, by omega, ?_, fun k hk => ?_⟩, fun W => ?_⟩
  · rcases g3 with h0 | h0
    · exact .inl (by rw [h0]; simp)
    · exact .inr h0
  · rw [e] at hk
    have := g4 k (by omega)
    rw [this, List.getElem_take]
  · have h1 : (h : Int) ≤ (cap : Int) := by omega
    rcases Nat.eq_zero_or_pos h with h0 | h0
    · subst h0
      simp [go_sem, Tryd.underlying24]
    · rcases g3 with h2 | rfl
      · rw [h2] at hv2; simp at hv2; omega
      · have h3 : ¬ h = 0 := by omega
        simp [go_sem, Tryd.underlying24, h1, h3]
set_option maxRecDepth 20000 in
theorem RowX.beg {w : World} {a : Option Addr} {n cap q : Nat} {l : List Pr} (hr : RowX w (.slice a n cap) l) (hq : q ≤ n) :
    RowX w (.slice a q cap) (l.take q) ∧ ∀ W : World, (Instr.sliceAt 26 (.slice a n cap) none (some (.int .i64 (q : Int))) none).run Tryd.prog W = .ok (.slice a q cap) W := by
  obtain ⟨a', b, o, cap', hv, g1, g2, g3, g4⟩ := hr
  injection hv with hv1 hv2 hv3
  subst hv1 hv3
  have e : (l.take q).length = q := by rw [List.length_take]; omega
  refine ⟨⟨a, b, o, cap, by rw [e], by rw [e]; omega, by omega, ?_, fun k hk => ?_⟩, fun W => ?_⟩
  · rcases g3 with h0 | h0
    · exact .inl (by rw [h0]; simp)
    · exact .inr h0
  · rw [e] at hk
    have := g4 k (by omega)
    rw [this.1, this.2, List.getElem_take]
    exact ⟨rfl, rfl⟩
  · have h1 : (q : Int) ≤ (cap : Int) := by omega
    rcases g3 with h2 | rfl
    · have : n = 0 := by rw [h2] at hv2; simpa using hv2
      obtain rfl : q = 0 := by omega
      simp [go_sem, Tryd.underlying26]
    · simp [go_sem, Tryd.underlying26, h1]
theorem two_keep {W0 W w2 : World} {a : Nat} {M S : Value} (hb : Below W.heap.size W w2) (h : W.cell? ⟨a, 0, none⟩ = some M ∧ W.cell? ⟨a, 1, none⟩ = some S ∧ Below W0.heap.size W0 W) : w2.cell? ⟨a, 0, none⟩ = some M ∧ w2.cell? ⟨a, 1, none⟩ = some S ∧ Below W0.heap.size W0 w2 :=
  ⟨keep_cell hb h.1, keep_cell hb h.2.1, bstep h.2.2 h.2.2.size hb⟩
theorem two_new {W0 W : World} {a : Nat} {M S : Value} (h : W.cell? ⟨a, 0, none⟩ = some M ∧ W.cell? ⟨a, 1, none⟩ = some S ∧ Below W0.heap.size W0 W) : W.drew.cell? ⟨a, 0, none⟩ = some M ∧ W.drew.cell? ⟨a, 1, none⟩ = some S ∧ Below W0.heap.size W0 W.drew :=
  ⟨h.1, h.2.1, h.2.2.drew⟩
theorem two_low {W0 W : World} {a : Nat} {M S : Value} (h : W.cell? ⟨a, 0, none⟩ = some M ∧ W.cell? ⟨a, 1, none⟩ = some S ∧ Below W0.heap.size W0 W) : Below W0.heap.size W0 W := h.2.2
theorem vlB_len {l : List Int} (h : vlB l = true) : l.length ≤ 10000 := (vlB_iff.1 h).1
set_option maxRecDepth 20000 in
set_option maxHeartbeats 16000000 in
theorem signals_walk (M S : Int) (v : Value) (l : List Int) (u : Value) (adj : List Int) (w : World) (hr : RowQ w v l) (hu : RowQ w u adj) (hR : Rls w) :
    Calls Tryd.prog 4 #[.agg #[.int .i64 M, .int .i64 S], v, u] w fun e w' => e = .returned (.bool true) ∧ Below w.heap.size w w' := by
  have HR := hid hr
  have HU := hid hu
  have HRL := hid hR
  have hm := hr.most
  have hm2 := hu.most
  unfold maxLen at hm hm2
  obtain ⟨va, vc, rfl⟩ : ∃ a c, v = .slice a l.length c := hr.rowI.shape
  obtain ⟨ua, uc, rfl⟩ : ∃ a c, u = .slice a adj.length c := hu.rowI.shape
  obtain ⟨n, hn⟩ : ∃ n, n = l.length := ⟨_, rfl⟩
  obtain ⟨m, hm'⟩ : ∃ m, m = adj.length := ⟨_, rfl⟩
  have HN := hid hn
  have HM := hid hm'
  rw [← hn] at hm HR ⊢
  rw [← hm'] at hm2 HU ⊢
  have HB0 := hid (box1_start (w := w) (A := #[.int .i64 M, .int .i64 S]) (T := 23) (fz := (0, 0)))
  clear hr hu hR hn hm'
  rcases (show (500 < n ∧ n ≤ 10000) ∨ (n ≤ 500 ∧ 600 < m) ∨ (10000 < n ∧ 600 < m) ∨ (n ≤ 500 ∧ m ≤ 600) ∨ (10000 < n ∧ m ≤ 600) by omega) with ⟨h1, h2⟩ | ⟨h1, h2⟩ | ⟨h1, h2⟩ | ⟨h1, h2⟩ | ⟨h1, h2⟩
  case inr.inr.inr.inl | inr.inr.inr.inr =>
    obtain ⟨p0, p1⟩ := HB0.out.two
    have HBXK := hid (fun w2 (g : Below (w.alloc (.cells #[.int .i64 M, .int .i64 S] 23)).heap.size (w.alloc (.cells #[.int .i64 M, .int .i64 S] 23)) w2) => box1_call g)
    obtain ⟨E, hE⟩ : ∃ E, E = sgE M S l adj := ⟨_, rfl⟩
    have HE := hid hE
    obtain ⟨A, hA⟩ : ∃ A, A = sgL M S l adj l.length := ⟨_, rfl⟩
    have HA := hid hA
    have HS1 := hid (fun w1 (g : Below w.heap.size w w1) => signals_any M S _ _ l adj w1 (HR.out.keep g) (HU.out.keep g) (HRL.out.keep g))
    have HS2 := hid (fun w1 (g : Below w.heap.size w w1) => xsignals_any M S _ _ l adj w1 (HR.out.keep g).rowI (HU.out.keep g).rowI)
    unfold SigP at HS1 HS2
    rw [← hE, ← hA] at HS1 HS2
    clear hE hA
    go_enter Tryd.func4, Tryd.ntmps4
    go_wp2_with fail
    refine (HS1.out _ HB0.out.low).mono ?_
    rintro e w2 ⟨xa, rfl, hxa, hb2⟩
    have HXA := hid hxa
    have HX2 := hid (HBXK.out _ hb2)
    clear p0 p1 hxa hb2 HBXK
    obtain ⟨p0, p1⟩ := HX2.out.two
    go_wp2_with fail
    refine (HS2.out _ HX2.out.low).mono ?_
    rintro e w3 ⟨ya, rfl, hya, hb3⟩
    have HYA := hid hya
    have HXA3 := hid (HXA.out.keep hb3)
    have HX3 := hid (HX2.out.keep hb3)
    clear p0 p1 hya hb3
    go_wp2_with fail
    refine (pairs_any _ _ _ _ _ HXA3.out HYA.out).mono ?_
    rintro e w4 ⟨rfl, hb4⟩
    rw [decide_eq_true rfl]
    have HXA4 := hid (HXA3.out.keep hb4)
    have HX4 := hid (HX3.out.keep hb4)
    clear hb4
    have HB4 := hid HX4.out.low
    by_cases g1 : E = 0
    case neg =>
      have g1' : (E != 0) = true := by simpa using g1
      clear g1
      go_wp2_with fail
      refine (kawake_any _).mono ?_
      rintro e w5 ⟨rfl, hb5⟩
      have HB5 := hid (bstep HB4.out HB4.out.size hb5)
      clear hb5
      go_wp2_with fail
      go_ret
      exact ⟨rfl, HB5.out⟩
    subst g1
    rcases Nat.eq_zero_or_pos n with h0 | h0
    · have h0' : ((n : Int) == 0) = true := by rw [h0]; rfl
      have h0n : (n == 0) = true := by rw [h0]; rfl
      clear h0
      go_wp2_with fail
      refine (kawake_any _).mono ?_
      rintro e w5 ⟨rfl, hb5⟩
      have HB5 := hid (bstep HB4.out HB4.out.size hb5)
      clear hb5
      go_wp2_with fail
      go_ret
      exact ⟨rfl, HB5.out⟩
    have h0' : ((n : Int) == 0) = false := by simp; omega
    have h0n : (n == 0) = false := by simp; omega
    have HXA5 : Hid (RowX w4 xa A) := by have h := HXA4.out; rw [if_pos rfl] at h; exact h
    obtain ⟨h, hh⟩ : ∃ h, h = n / 2 := ⟨_, rfl⟩
    have hdiv : (n : Int) / 2 = (h : Int) := by omega
    have hhn : h ≤ n := by omega
    have HE0 := hid HE.out.symm
    have HIX := hid (sgE_ok HE0.out).2.2
    clear hh h0
    obtain ⟨xa1, xa2, hxs⟩ : ∃ a c, xa = .slice a A.length c := HXA5.out.shape
    obtain ⟨L, hL⟩ : ∃ L, L = A.length := ⟨_, rfl⟩
    have HL := hid hL
    have hLm : L ≤ 9223372036854775807 := by have := HXA5.out.most; unfold maxLen at this; omega
    rw [← hL] at hxs
    subst hxs
    clear hL
    go_upto_block 0 with (fail)
    go_cut [12] (fun s12 wx => ∃ k : Nat, Hid (CutK adj h k) ∧ s12 = .int .i64 (k : Int) ∧ Hid (wx = w4))
    case first =>
      go_wp2_with fail
      go_loop [12] (fun t => ∃ k : Nat, k ≤ m ∧ t = .int .i64 (k : Int) ∧ Hid (∀ j, j < k → adj.getD j 0 < (h : Int))) (fun t => m - (intOf t).toNat)
      case atStart => exact ⟨0, Nat.zero_le _, rfl, fun j hj => absurd hj (Nat.not_lt_zero j)⟩
      case round =>
        obtain ⟨k, hk, rfl, hok⟩ := hrel
        by_cases hlt : k < m
        · have hlt' : (k : Int) < m := by omega
          have hkl : k < adj.length := by rw [← HM.out]; exact hlt
          obtain ⟨b, o, hva, hcell⟩ := rowI_get (HU.out.keep HB4.out).rowI HM.out hkl
          subst hva
          have HG := hid (show adj.getD k 0 = adj[k] by simp [List.getD, hkl])
          generalize adj[k] = x at *
          have HLT := hid hlt
          clear hlt hkl
          by_cases hxh : x < (h : Int)
          · have HST : Hid (∀ j, j < k + 1 → adj.getD j 0 < (h : Int)) := fun j hj => by
              rcases Nat.lt_succ_iff_lt_or_eq.1 hj with g | rfl
              · exact hok.out j g
              · rw [HG.out]; exact hxh
            go_wp2_with fail
            go_round
            case rel => exact ⟨k + 1, HLT.out, by go_num, HST⟩
            case measure => have := HLT.out; simp [intOf]; omega
          · have HC : Hid (CutK adj h k) := ⟨by rw [← HM.out]; exact Nat.le_of_lt HLT.out, hok.out, fun _ => by rw [HG.out]; omega⟩
            go_wp2_with fail
            go_meet
            exact ⟨k, HC, rfl, rfl⟩
        · obtain rfl : m = k := by omega
          have HC : Hid (CutK adj h m) := ⟨by rw [← HM.out]; exact Nat.le_refl _, hok.out, fun g => by rw [← HM.out] at g; omega⟩
          go_wp2_with fail
          go_meet
          exact ⟨m, HC, rfl, rfl⟩
    case rest =>
      obtain ⟨k, hck, rfl, hw4⟩ := hcut
      have hkm : k ≤ m := by rw [HM.out]; exact hck.out.le
      obtain ⟨hg0, hgl⟩ := sgE_take HE0.out (show h ≤ l.length by rw [← HN.out]; exact hhn) hck.out
      have HG0 := hid hg0
      have HGL := hid hgl
      obtain ⟨hq1, hs1⟩ := HR.out.beg hhn
      obtain ⟨hq2, hs2⟩ := HU.out.beg hkm
      have HQ1 := hid hq1
      have HQ2 := hid hq2
      clear hq1 hq2 hg0 hgl
      obtain rfl : wc = w4 := hw4.out
      obtain ⟨p0, p1⟩ := HX4.out.two
      have HS3 := hid (fun w1 (g : Below w.heap.size w w1) => signals_any M S _ _ (l.take h) (adj.take k) w1 (HQ1.out.keep g) (HQ2.out.keep g) (HRL.out.keep g))
      unfold SigP at HS3
      rw [HG0.out, HGL.out] at HS3
      have HC0 := hid (show World.cell? wc ⟨w.heap.size, 0, none⟩ = some (.int .i64 M) ∧ World.cell? wc ⟨w.heap.size, 1, none⟩ = some (.int .i64 S) ∧ Below wc.heap.size wc wc from ⟨p0, p1, Below.refl _ _⟩)
      clear HG0 HGL
      go_upto_region 13 with (fail)
      go_cut [13, 14] (fun s13 s14 wx => s14 = .int .i64 0 ∧ Hid (RowX wx s13 (sgL M S l adj h)) ∧ Hid (Below wc.heap.size wc wx))
      case first =>
        go_region_held3 (fun w' => World.cell? w' ⟨w.heap.size, 0, none⟩ = some (.int .i64 M) ∧ World.cell? w' ⟨w.heap.size, 1, none⟩ = some (.int .i64 S) ∧ Below wc.heap.size wc w') (first | exact two_new HC0.out | assumption | exact two_keep (by assumption) (by assumption)) ((go_at_call 6; have hS : Below wc.heap.size wc _ := two_low (M := .int .i64 M) (S := .int .i64 S) (a := w.heap.size) (by assumption); refine (HS3.out _ (bstep HB4.out HB4.out.size hS)).mono ?_; rintro e w5 ⟨xb, rfl, hxb, hb⟩; have HXB : Hid (RowX w5 xb (sgL M S l adj h)) := by rw [if_pos rfl] at hxb; exact hxb))
        all_goals
          rename_i hS5
          have HB5 := hid hS5.2.2
          go_wp2_with fail
          go_meet
          exact ⟨rfl, HXB, HB5⟩
      case rest =>
        obtain ⟨rfl, HXB, HBc⟩ := hcut
        have HB7 := hid (bstep HB4.out HB4.out.size HBc.out)
        have HXA7 := hid (HXA5.out.keep HBc.out)
        clear p0 p1 hs1 hs2 HC0
        go_upto_block 2 with (fail)
        go_cut [15] (fun s15 wx => ∃ q : Nat, Hid (CutQ A h q) ∧ s15 = .int .i64 (q : Int) ∧ Hid (wx = wc))
        case first =>
          go_wp2_with fail
          go_loop [15] (fun t => ∃ q : Nat, q ≤ L ∧ t = .int .i64 (q : Int) ∧ Hid (∀ j (hj : j < A.length), j < q → A[j].x < (h : Int))) (fun t => L - (intOf t).toNat)
          case atStart => exact ⟨0, Nat.zero_le _, rfl, fun j _ hj => absurd hj (Nat.not_lt_zero j)⟩
          case round =>
            obtain ⟨q, hq, rfl, hok⟩ := hrel
            by_cases hlt : q < L
            · have hlt' : (q : Int) < L := by omega
              have hql : q < A.length := by rw [← HL.out]; exact hlt
              obtain ⟨b, o, hva, hcell, hcell2⟩ := HXA7.out.get hql
              subst hva
              have HLT := hid hlt
              clear hlt hcell2
              by_cases hxh : A[q].x < (h : Int)
              · have HST : Hid (∀ j (hj : j < A.length), j < q + 1 → A[j].x < (h : Int)) := fun j g1 g2 => by
                  rcases Nat.lt_succ_iff_lt_or_eq.1 g2 with g | rfl
                  · exact hok.out j g1 g
                  · exact hxh
                generalize A[q].x = x at hcell hxh
                clear hql
                go_wp2_with fail
                go_round
                case rel => exact ⟨q + 1, HLT.out, by go_num, HST⟩
                case measure => have := HLT.out; simp [intOf]; omega
              · have HC : Hid (CutQ A h q) := ⟨by rw [← HL.out]; exact Nat.le_of_lt HLT.out, hok.out, fun g => Int.not_lt.1 hxh⟩
                generalize A[q].x = x at hcell hxh
                clear hql
                go_wp2_with fail
                go_meet
                exact ⟨q, HC, rfl, rfl⟩
            · obtain rfl : L = q := by omega
              have HC : Hid (CutQ A h L) := ⟨by rw [← HL.out]; exact Nat.le_refl _, hok.out, fun g => by rw [← HL.out] at g; omega⟩
              go_wp2_with fail
              go_meet
              exact ⟨L, HC, rfl, rfl⟩
        case rest =>
          obtain ⟨q, hcq, rfl, hw7⟩ := hcut
          obtain rfl := hw7.out
          have hqL : q ≤ L := by rw [HL.out]; exact hcq.out.le
          obtain ⟨hq3, hs3⟩ := HXA7.out.beg hqL
          have HEQ := hid (show sgL M S l adj h = A.take q by
            have hc := hcq.out
            rw [HA.out] at hc ⊢
            exact (cutQ_list (by rw [← HN.out]; exact hhn) hc).symm)
          have HQ3 := hid hq3
          have HXB3 := HXB
          rw [HEQ.out] at HXB3
          clear hq3
          go_wp2_with fail
          refine (pairs_any _ _ _ _ _ HXB3.out HQ3.out).mono ?_
          rintro e w8 ⟨rfl, hb8⟩
          rw [decide_eq_true rfl]
          have HB8 := hid (bstep HB7.out HB7.out.size hb8)
          clear hb8 hs3
          go_wp2_with fail
          refine (kawake_any _).mono ?_
          rintro e w9 ⟨rfl, hb9⟩
          have HB9 := hid (bstep HB8.out HB8.out.size hb9)
          clear hb9
          go_wp2_with fail
          go_ret
          exact ⟨rfl, HB9.out⟩
  all_goals
    go_enter Tryd.func4, Tryd.ntmps4
    go_wp2_with (go_at_call 5; refine (kawake_any _).mono ?_; rintro e w2 ⟨rfl, hb⟩; have HB1 := hid (bstep HB0.out.low HB0.out.low.size hb); clear hb)
    go_ret
    exact ⟨rfl, HB1.out⟩
end Go.Proofs.YtlhjiikbehmamaaDoor
