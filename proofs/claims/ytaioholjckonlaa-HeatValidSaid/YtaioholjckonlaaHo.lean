/- Walk of HeatBetween. -/
import Derived.Test.YtaioholjckonlaaHn
namespace Go.Proofs.Ytaioholjckonlaa
open Go.RowKit

set_option maxHeartbeats 1000000 in
theorem brief_no (a a2 : Option Addr) (n cap n2 cap2 : Nat) (br : Bool) (w : World) (h : ¬ (n ≤ 100 ∧ n2 ≤ 80)) : Calls Try.prog 15 #[.agg #[.slice a n cap, .bool br], .slice a2 n2 cap2] w fun e w' => e = .returned (.bool false) ∧ Below w.heap.size w w' := by
  by_cases h1 : n ≤ 100
  · have d1 : (n : Int) ≤ 100 := by omega
    have d2 : decide ((n2 : Int) ≤ 80) = false := by simp; omega
    go_enter Try.func15, Try.ntmps15
    go_wp2
    go_ret
    exact ⟨rfl, (Below.refl _ _).alloc (Nat.le_refl _) _⟩
  · have d1 : ¬ (n : Int) ≤ 100 := by omega
    go_enter Try.func15, Try.ntmps15
    go_wp2
    go_ret
    exact ⟨rfl, (Below.refl _ _).alloc (Nat.le_refl _) _⟩
set_option maxHeartbeats 1000000 in
theorem brief_yes (a a2 : Option Addr) (n cap n2 cap2 : Nat) (br : Bool) (w : World) (h1 : n ≤ 100) (h2 : n2 ≤ 80) : Calls Try.prog 15 #[.agg #[.slice a n cap, .bool br], .slice a2 n2 cap2] w fun e w' => e = .returned (.bool true) ∧ Below w.heap.size w w' := by
  have d1 : (n : Int) ≤ 100 := by omega
  have d2 : (n2 : Int) ≤ 80 := by omega
  go_enter Try.func15, Try.ntmps15
  go_wp2
  go_ret
  exact ⟨rfl, (Below.refl _ _).alloc (Nat.le_refl _) _⟩

/-- The least and the greatest of a bath and the first k temperatures, or beyond them. -/
structure InR (lo hi bath : Int) (T : List Int) (k : Nat) : Prop where
  b1 : lo ≤ bath
  b2 : bath ≤ hi
  all : ∀ j (h : j < T.length), j < k → lo ≤ T[j] ∧ T[j] ≤ hi
  r1 : -50000 ≤ lo
  r2 : hi ≤ 200000
theorem InR.next {lo hi bath : Int} {T : List Int} {k : Nat} (h : InR lo hi bath T k) (hk : k < T.length) {lo' hi' : Int} (h1 : lo' ≤ lo) (h2 : hi ≤ hi') (h3 : lo' ≤ T[k]) (h4 : T[k] ≤ hi') (h5 : -50000 ≤ lo') (h6 : hi' ≤ 200000) : InR lo' hi' bath T (k + 1) :=
  ⟨by have := h.b1; omega, by have := h.b2; omega, fun j hj hjk => by
    rcases Nat.lt_or_ge j k with g | g
    · have := h.all j hj g; omega
    · obtain rfl : j = k := by omega
      exact ⟨h3, h4⟩, h5, h6⟩

theorem laid2 {w2 W3 : World} {d0 d1 : Value} {T : TypeId} (h : w2.alloc (.cells #[d0, d1] T) = W3) : Below w2.heap.size w2 W3 ∧ W3.cell? ⟨w2.heap.size, 0, none⟩ = some d0 ∧ W3.cell? ⟨w2.heap.size, 1, none⟩ = some d1 := by
  subst h
  exact ⟨(Below.refl _ _).alloc (Nat.le_refl _) _, cell_alloc_new w2 _ T (0, 0) 0, cell_alloc_new w2 _ T (0, 0) 1⟩
theorem runS_one (c : Cn) (x : Bd) (b : Int) : runS c x [b] = tickS c x b := rfl
theorem tickS_in {c : Cn} {x : Bd} {b lo hi : Int} (hc : c.Ok) (hx : Warm c x) (h1 : lo ≤ b) (h2 : b ≤ hi) (h : ∀ j (g : j < x.1.length), lo ≤ x.1[j] ∧ x.1[j] ≤ hi) : ∀ j (g : j < (tickS c x b).1.length), lo ≤ (tickS c x b).1[j] ∧ (tickS c x b).1[j] ≤ hi := by
  obtain ⟨a1, a2, a3⟩ := hc.ra x.2
  intro j g
  exact tickT_bd a1 a2 a3 hx.len (fun t ht => by obtain ⟨i, hi, rfl⟩ := List.getElem_of_mem ht; exact h i hi) ⟨h1, h2⟩ _ (List.getElem_mem g)

set_option maxRecDepth 100000 in
set_option maxHeartbeats 4000000 in
theorem between_walk (r l a b k a2 b2 : Int) (v : Value) (T : List Int) (br : Bool) (bath : Int) (w : World) (hl : RowI w v T) (_hb : (Lit.int .i64 bath).wf = true) :
    Calls Try.prog 9 #[.agg #[.int .i64 r, .int .i64 l, .int .i64 a, .int .i64 b, .int .i64 k, .int .i64 a2, .int .i64 b2], .agg #[v, .bool br], .int .i64 bath] w fun e w' => e = .returned (.bool true) ∧ Below w.heap.size w w' := by
  have HL := hid (fun w1 (g : Below w.heap.size w w1) => hl.keep g)
  obtain ⟨a0, cap, rfl⟩ := hl.shape
  clear hl
  obtain ⟨b0, b1, b2', b3, b4, b5, b6, x0, x1, hz, hB⟩ := nine_start (w := w) (c0 := .int .i64 r) (c1 := .int .i64 l) (c2 := .int .i64 a) (c3 := .int .i64 b) (c4 := .int .i64 k) (c5 := .int .i64 a2) (c6 := .int .i64 b2) (d0 := .slice a0 T.length cap) (d1 := .bool br) (T := 23) (T' := 26) (fz := (0, 0)) (fz' := (0, 0))
  by_cases h100 : T.length ≤ 100
  · rcases chkE_cases (bothB r l a b k a2 b2 T br) [bath] with hne | ⟨_, hbb, ho, _⟩
    · obtain ⟨ce, hce⟩ : ∃ ce, ce = chkE (bothB r l a b k a2 b2 T br) [bath] := ⟨_, rfl⟩
      have hc0 : (ce == 0) = false := by rw [hce]; simpa using hne
      have hc1 : (ce != 0) = true := by rw [hce]; simpa using hne
      have HC := hid hce; have HNE := hid hne
      clear hce hne
      go_enter Try.func9, Try.ntmps9
      go_wp2_with (first
        | (go_at_call 15; refine (brief_yes _ _ _ _ _ _ _ _ h100 (by omega)).mono ?_; rintro e w1 ⟨rfl, hb⟩; obtain ⟨b0, b1, b2', b3, b4, b5, b6, x0, x1, hz, hB⟩ := nine_keep hb ⟨b0, b1, b2', b3, b4, b5, b6, x0, x1, hz, hB⟩; clear hb)
        | (go_at_call 28; refine (step_err _ _ _ _ _ _ _ _ _ T _ bath (HL.out _ hB) HNE.out).mono ?_; rintro e w2 ⟨rfl, hb⟩; obtain ⟨b0, b1, b2', b3, b4, b5, b6, x0, x1, hz, hB⟩ := nine_keep hb ⟨b0, b1, b2', b3, b4, b5, b6, x0, x1, hz, hB⟩; clear hb; rw [← HC.out])
        | (go_at_call 16; refine (awake_any _).mono ?_; rintro e w9 ⟨rfl, hb⟩; have hB9 := hb))
      go_ret
      exact ⟨rfl, (hB.alloc hB.size _).trans (hB9.mono (by simp; have := hB.size; omega))⟩
    · unfold bothB at hbb
      rw [Bool.and_eq_true] at hbb
      obtain ⟨hcan, hbody⟩ := hbb
      obtain ⟨c, hcv, rfl, rfl, rfl, rfl, rfl, rfl, rfl⟩ := canB_cn hcan
      have hbv : bodyV c T br = true := hbody
      obtain ⟨hTl, _, hTo⟩ := bodyV_iff.1 hbv
      have hwm : Warm c (T, br) := ⟨hTl, okL_bd hTo⟩
      have hbd := okL_bd ho bath (List.mem_singleton.2 rfl)
      obtain ⟨bd1, bd2⟩ := hbd
      have hP := hcv.ok.p
      have HIN := hid (fun lo hi h1 h2 h => tickS_in (b := bath) (lo := lo) (hi := hi) hcv.ok hwm h1 h2 h)
      have hYl : (tickS c (T, br) bath).1.length = T.length := by rw [(hwm.tick hcv.ok bd1 bd2).len, ← hwm.len]
      have HYL := hid hYl
      obtain ⟨ba, oa, capa, hsh, _⟩ := (HL.out w (Below.refl _ w)).some (by omega)
      obtain ⟨rfl, rfl⟩ : a0 = some ⟨ba, oa, none⟩ ∧ cap = capa := by cases hsh; exact ⟨rfl, rfl⟩
      have HT : Hid (∀ W, Below w.heap.size w W → ∀ k (h : k < T.length), W.cell? ⟨ba, oa + k, none⟩ = some (.int .i64 T[k])) := by
        intro W hW
        rcases HL.out W hW with ⟨_, _, _, h2⟩ | ⟨_, _, _, h1, _, hc⟩
        · rw [h2] at hTl; simp at hTl; omega
        · cases h1; exact hc
      have HTB := hid (fun j (h : j < T.length) => hwm.bd _ (List.getElem_mem h))
      have HV := hid hcv; have HBV := hid hbv; have HO := hid ho
      clear hcan hbody hwm hYl hsh hTl hTo ho hbv hcv hP
      go_enter Try.func9, Try.ntmps9
      go_wp2_with (first
        | (go_at_call 15; refine (brief_yes _ _ _ _ _ _ _ _ h100 (by omega)).mono ?_; rintro e w1 ⟨rfl, hb⟩; obtain ⟨b0, b1, b2', b3, b4, b5, b6, x0, x1, hz, hB⟩ := nine_keep hb ⟨b0, b1, b2', b3, b4, b5, b6, x0, x1, hz, hB⟩; clear hb)
        | (go_at_call 28; refine (step_ok c (T, br) _ bath _ HV.out HBV.out HO.out (HL.out _ hB)).mono ?_; rintro e w2 ⟨v1, rfl, ⟨g, rfl, hg1, hg2⟩, hb⟩; obtain ⟨b0, b1, b2', b3, b4, b5, b6, x0, x1, hz, hB⟩ := nine_keep hb ⟨b0, b1, b2', b3, b4, b5, b6, x0, x1, hz, hB⟩; clear hb; have HG := hid hg2; clear hg1 hg2))
      generalize hW : World.alloc w2 _ = W3
      obtain ⟨hb3, y0, _⟩ := laid2 hW
      clear hW
      have hgl := lt_of_block HG.out
      have HYC := hid (fun j (h : j < (runS c (T, br) [bath]).1.length) => show W3.cell? ⟨g, j, none⟩ = some (.int .i64 (runS c (T, br) [bath]).1[j]) from by rw [hb3.cell (p := ⟨g, j, none⟩) hgl, cell_of_row _ _ j _ _ _ HG.out]; simp [h])
      have x0 := (hb3.cell (p := ⟨w.heap.size + 1, 0, none⟩) (by omega)).trans x0
      have HB := hid (hB.trans (hb3.mono hB.size))
      have HTC := hid (HT.out W3 HB.out)
      rw [runS_one] at y0 HYC ⊢
      obtain ⟨Y, hY⟩ : ∃ Y, Y = tickS c (T, br) bath := ⟨_, rfl⟩
      rw [← hY] at HIN HYL HYC y0 ⊢
      rw [HYL.out] at y0 ⊢
      clear hY HG hb3 hB b0 b1 b2' b3 b4 b5 b6 x1 hz hgl HV HBV HO
      go_loopw [9, 10, 11] (fun lo hi i wr => ∃ k : Nat, k ≤ T.length ∧ i = .int .i64 (k : Int) ∧ ∃ m M : Int, lo = .int .i64 m ∧ hi = .int .i64 M ∧ Hid (InR m M bath T k) ∧ ∃ n, wr = W3.drewN n) (fun _ _ i _ => T.length - (intOf i).toNat)
      case atStart => exact ⟨0, Nat.zero_le _, rfl, bath, bath, rfl, rfl, ⟨Int.le_refl _, Int.le_refl _, fun j _ h => absurd h (Nat.not_lt_zero _), bd1, bd2⟩, 0, rfl⟩
      case round =>
        obtain ⟨k, hk, rfl, m, M, rfl, rfl, hR, n, rfl⟩ := hrel
        by_cases hlt : k < T.length
        · have ex := HTC.out k hlt
          have hlt' : (k : Int) < T.length := by omega
          obtain ⟨t1, t2⟩ := HTB.out k hlt
          have hN := hid (fun lo' hi' h1 h2 h3 h4 h5 h6 => hR.out.next (lo' := lo') (hi' := hi') hlt h1 h2 h3 h4 h5 h6)
          obtain ⟨t, ht⟩ : ∃ t, t = T[k] := ⟨_, rfl⟩
          rw [← ht] at ex t1 t2 hN
          have hr1 := hR.out.r1
          have hr2 := hR.out.r2
          clear ht y0
          go_wp2
          go_quiet (fail)
          go_wp2
          go_roundw
          case rel => exact ⟨k + 1, by omega, by go_num, _, _, rfl, rfl, hN.out _ _ (by split <;> omega) (by split <;> omega) (by split <;> omega) (by split <;> omega) (by split <;> omega) (by split <;> omega), n + nq, by first | rfl | rw [World.drewN_drewN]⟩
          case measure => simp [intOf]; omega
        · obtain rfl : k = T.length := by omega
          have HYB := hid (HIN.out m M hR.out.b1 hR.out.b2 (fun j g => hR.out.all j g g))
          have HYL2 := hid (Nat.le_of_eq HYL.out.symm)
          go_wp2
          go_loop [12] (fun i => ∃ q : Nat, q ≤ T.length ∧ i = .int .i64 (q : Int)) (fun i => T.length - (intOf i).toNat)
          case atStart => exact ⟨0, Nat.zero_le _, rfl⟩
          case round =>
            obtain ⟨q, hq, rfl⟩ := hrel
            by_cases hlt2 : q < T.length
            · have ey := HYC.out q (by rw [HYL.out]; exact hlt2)
              obtain ⟨e1, e2⟩ := HYB.out q (by rw [HYL.out]; exact hlt2)
              have hlt' : (q : Int) < T.length := by omega
              generalize Y.1[q]'_ = t at ey e1 e2
              have e1' : ¬ t < m := by omega
              have e2' : ¬ M < t := by omega
              clear hlt
              go_wp2
              go_round
              case rel => exact ⟨q + 1, by omega, by go_num⟩
              case measure => simp [intOf]; omega
            · obtain rfl : q = T.length := by omega
              have HBD := hid (bdrewN (n := n) HB.out)
              go_wp2_with (go_at_call 16; refine (awake_any _).mono ?_; rintro e w9 ⟨rfl, hb⟩; have HB9 := hid (bstep HBD.out HBD.out.size hb); clear hb)
              go_ret
              exact ⟨rfl, HB9.out⟩
  · go_enter Try.func9, Try.ntmps9
    go_wp2_with (first
      | (go_at_call 15; refine (brief_no _ _ _ _ _ _ _ _ (by omega)).mono ?_; rintro e w1 ⟨rfl, hb⟩; obtain ⟨b0, b1, b2', b3, b4, b5, b6, x0, x1, hz, hB⟩ := nine_keep hb ⟨b0, b1, b2', b3, b4, b5, b6, x0, x1, hz, hB⟩; clear hb)
      | (go_at_call 16; refine (awake_any _).mono ?_; rintro e w9 ⟨rfl, hb⟩; have hB := bstep hB hB.size hb; clear hb))
    go_ret
    exact ⟨rfl, hB⟩
end Go.Proofs.Ytaioholjckonlaa
