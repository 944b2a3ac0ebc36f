/- Walks of the reference's ValidSheet, of Overlap and Percent, and of awake: contracts. -/
import Derived.Test.YtjfakhfkbnnbcaaKc
namespace Go.Proofs.Ytjfakhfkbnnbcaa
open Go.RowKit

theorem sixK (a b c d e : Bool) : a = false ∨ (a = true ∧ b = false) ∨ (a = true ∧ b = true ∧ c = false) ∨ (a = true ∧ b = true ∧ c = true ∧ d = false) ∨ (a = true ∧ b = true ∧ c = true ∧ d = true ∧ e = false) ∨ (a = true ∧ b = true ∧ c = true ∧ d = true ∧ e = true) := by cases a <;> cases b <;> cases c <;> cases d <;> cases e <;> simp
theorem shB_eq2 (x : Sh) : shB x = (inB x.tk 0 100000000 && inB x.hd 1 12 && inB x.wr 0 100 && inB x.ep 1 1000 && inB x.bp 1 1000 && allW 0 20000 [x.bh, x.ch, x.ht, x.th, x.cs]) := by
  rw [shB_eq]
  simp only [allW, List.all_cons, List.all_nil, Bool.and_true, Bool.and_assoc]
theorem rowI_get {w : World} {a : Option Addr} {n c k : Nat} {l : List Int} (h : RowI w (.slice a n c) l) (_ : n = l.length) (hk : k < l.length) : ∃ b o, a = some ⟨b, o, none⟩ ∧ w.cell? ⟨b, o + k, none⟩ = some (.int .i64 l[k]) := by
  rcases h with ⟨a', c', _, h0⟩ | ⟨b, o, c', hv, _, hc⟩
  · rw [h0] at hk; simp at hk
  · injection hv with h1 h2 h3
    exact ⟨b, o, h1, hc k hk⟩
set_option maxHeartbeats 4000000 in
theorem kxsheet_any (x : Sh) (w : World) : Calls Try.prog 44 #[.agg #[.int .i64 x.tk, .int .i64 x.hd, .int .i64 x.bh, .int .i64 x.ch, .int .i64 x.ht, .int .i64 x.ep, .int .i64 x.bp, .int .i64 x.wr, .int .i64 x.th, .int .i64 x.cs]] w fun e w' => e = .returned (.bool (shB x)) ∧ Below w.heap.size w w' := by
  have hc := hid (shB_eq2 x)
  have HB := hid (boxS_below w x)
  obtain ⟨l, hl⟩ : ∃ l, l = [x.bh, x.ch, x.ht, x.th, x.cs] := ⟨_, rfl⟩
  have HL := hid hl
  have HLN := hid (show l.length = 5 by rw [hl]; rfl)
  obtain ⟨f, hf⟩ : ∃ d, d = allW 0 20000 l := ⟨_, rfl⟩
  have HF := hid hf
  rw [← hl, ← hf] at hc
  have HRW := hid (show RowI ((w.alloc (.cells #[.int .i64 x.tk, .int .i64 x.hd, .int .i64 x.bh, .int .i64 x.ch, .int .i64 x.ht, .int .i64 x.ep, .int .i64 x.bp, .int .i64 x.wr, .int .i64 x.th, .int .i64 x.cs] 39)).alloc (.cells #[.int .i64 x.bh, .int .i64 x.ch, .int .i64 x.ht, .int .i64 x.th, .int .i64 x.cs] 3)) (.slice (some ⟨w.heap.size + 1, 0, none⟩) 5 5) l by rw [hl]; exact rowI_five (by simp))
  have HB2 := hid (HB.out.alloc (by simp) (.cells #[.int .i64 x.bh, .int .i64 x.ch, .int .i64 x.ht, .int .i64 x.th, .int .i64 x.cs] 3))
  clear hl hf
  go_enter Try.func44, Try.ntmps44
  go_wp2
  obtain ⟨b0, b1, b2, b3, b4, b5, b6, b7, b8, b9⟩ := (boxS_new w x).keep ((Below.refl _ _).alloc (Nat.le_refl _) (.cells #[.int .i64 x.bh, .int .i64 x.ch, .int .i64 x.ht, .int .i64 x.th, .int .i64 x.cs] 3))
  generalize World.alloc (World.alloc w _) _ = W at *
  go_loop [4] (fun t => ∃ k : Nat, k ≤ 5 ∧ t = .int .i64 (k : Int) ∧ Hid (∀ j (hj : j < l.length), j < k → inB l[j] 0 20000 = true)) (fun t => 5 - (intOf t).toNat)
  case atStart => exact ⟨0, Nat.zero_le _, rfl, fun j _ h => absurd h (Nat.not_lt_zero j)⟩
  case round =>
    obtain ⟨k, hk, rfl, hok⟩ := hrel
    by_cases hlt : k < 5
    · have hlt' : (k : Int) < 5 := by omega
      have hkl : k < l.length := by rw [HLN.out]; exact hlt
      obtain ⟨b, o, hv, hcell⟩ := rowI_get HRW.out HLN.out.symm hkl
      injection hv with hv
      injection hv with hv1 hv2
      subst hv1 hv2
      rw [Nat.zero_add] at hcell
      have HST := hid (fun h => allW_step hkl hok.out h)
      have HBAD := hid (fun h => allW_bad (lo := 0) (hi := 20000) hkl h)
      generalize l[k] = y at hcell HST HBAD
      have HLT := hid hlt
      clear hkl hlt
      cases hx : inB y 0 20000
      · have HE := hid (show shB x = false by rw [hc.out, HF.out, HBAD.out hx, Bool.and_false])
        go_wp2_with (go_at_call 42; refine (kxwithin_any _ _ _ _).mono ?_; rintro e w' ⟨rfl, rfl⟩)
        go_ret
        exact ⟨ret_bool HE.out.symm, HB2.out⟩
      · have HE := hid (HST.out hx)
        go_wp2_with (go_at_call 42; refine (kxwithin_any _ _ _ _).mono ?_; rintro e w' ⟨rfl, rfl⟩)
        go_roundw
        case rel => exact ⟨k + 1, by have := HLT.out; omega, by go_num, HE⟩
        case measure => have := HLT.out; simp [intOf]; omega
    · obtain rfl : k = 5 := by omega
      have hf1 : f = true := by rw [HF.out]; exact allW_end fun j hj => hok.out j hj (by rw [HLN.out] at hj; exact hj)
      rw [hf1, Bool.and_true] at hc
      clear hf1 hlt
      rcases sixK (inB x.tk 0 100000000) (inB x.hd 1 12) (inB x.wr 0 100) (inB x.ep 1 1000) (inB x.bp 1 1000) with h1 | ⟨h1, h2⟩ | ⟨h1, h2, h3⟩ | ⟨h1, h2, h3, h4⟩ | ⟨h1, h2, h3, h4, h5⟩ | ⟨h1, h2, h3, h4, h5⟩
      all_goals
        go_wp2_with (go_at_call 42; refine (kxwithin_any _ _ _ _).mono ?_; rintro e w' ⟨rfl, rfl⟩)
        go_ret
        exact ⟨ret_bool (by rw [hc.out]; simp only [Bool.false_and, Bool.true_and, Bool.and_false, *]), HB2.out⟩
set_option maxHeartbeats 4000000 in
theorem koverl_ok (x : Sh) (w : World) (h : shB x = true) : Calls Try.prog 26 #[.agg #[.int .i64 x.tk, .int .i64 x.hd, .int .i64 x.bh, .int .i64 x.ch, .int .i64 x.ht, .int .i64 x.ep, .int .i64 x.bp, .int .i64 x.wr, .int .i64 x.th, .int .i64 x.cs]] w fun e w' => e = .returned (.tuple #[.int .i64 (ovT x / 10), .int .i64 0]) ∧ Below w.heap.size w w' := by
  have HOK := hid (shB_iff.1 h)
  have HH := hid h
  have hO : -1000000 ≤ ovT x ∧ ovT x ≤ 1000000 := by
    obtain ⟨_, _, _, ⟨e1, e2⟩, ⟨p1, p2⟩, ⟨h1, h2⟩, ⟨h3, h4⟩, ⟨h5, h6⟩, _, _⟩ := HOK.out
    unfold ovT; omega
  obtain ⟨O, hO'⟩ : ∃ O, O = ovT x := ⟨_, rfl⟩
  have HO := hid hO'
  rw [← hO'] at hO ⊢
  obtain ⟨o1, o2⟩ := hO
  have HBX := hid (fun W (g : Below (w.alloc (.cells #[.int .i64 x.tk, .int .i64 x.hd, .int .i64 x.bh, .int .i64 x.ch, .int .i64 x.ht, .int .i64 x.ep, .int .i64 x.bp, .int .i64 x.wr, .int .i64 x.th, .int .i64 x.cs] 39)).heap.size (w.alloc (.cells #[.int .i64 x.tk, .int .i64 x.hd, .int .i64 x.bh, .int .i64 x.ch, .int .i64 x.ht, .int .i64 x.ep, .int .i64 x.bp, .int .i64 x.wr, .int .i64 x.th, .int .i64 x.cs] 39)) W) => (boxS_new w x).keep g)
  have HBB := hid (fun W (g : Below (w.alloc (.cells #[.int .i64 x.tk, .int .i64 x.hd, .int .i64 x.bh, .int .i64 x.ch, .int .i64 x.ht, .int .i64 x.ep, .int .i64 x.bp, .int .i64 x.wr, .int .i64 x.th, .int .i64 x.cs] 39)).heap.size (w.alloc (.cells #[.int .i64 x.tk, .int .i64 x.hd, .int .i64 x.bh, .int .i64 x.ch, .int .i64 x.ht, .int .i64 x.ep, .int .i64 x.bp, .int .i64 x.wr, .int .i64 x.th, .int .i64 x.cs] 39)) W) => bstep (boxS_below w x) (boxS_below w x).size g)
  clear hO' h
  go_enter Try.func26, Try.ntmps26
  go_wp2_with fail
  refine (ksheet_any x _).mono ?_
  rintro e w1 ⟨rfl, hb⟩
  rw [HH.out]
  obtain ⟨b0, b1, b2, b3, b4, b5, b6, b7, b8, b9⟩ := HBX.out _ hb
  have HB1 := hid (HBB.out _ hb)
  clear hb
  go_wp2_with fail
  refine (kover_any x _ HOK.out).mono ?_
  rintro e w2 ⟨rfl, hb⟩
  rw [← HO.out]
  have HB2 := hid (bstep HB1.out HB1.out.size hb)
  clear hb
  go_wp2_with fail
  refine (kfloor_any O 10 _ (by omega) (by omega) (by omega)).mono ?_
  rintro e w3 ⟨rfl, rfl⟩
  go_wp2_with fail
  go_ret2
  exact ⟨rfl, HB2.out⟩
set_option maxHeartbeats 4000000 in
theorem kperc_ok (x : Sh) (w : World) (h : shB x = true) : Calls Try.prog 25 #[.agg #[.int .i64 x.tk, .int .i64 x.hd, .int .i64 x.bh, .int .i64 x.ch, .int .i64 x.ht, .int .i64 x.ep, .int .i64 x.bp, .int .i64 x.wr, .int .i64 x.th, .int .i64 x.cs]] w fun e w' => e = .returned (.tuple #[.int .i64 (pctT x), .int .i64 0]) ∧ Below w.heap.size w w' := by
  have HOK := hid (shB_iff.1 h)
  have HH := hid h
  have HBX := hid (fun W (g : Below (w.alloc (.cells #[.int .i64 x.tk, .int .i64 x.hd, .int .i64 x.bh, .int .i64 x.ch, .int .i64 x.ht, .int .i64 x.ep, .int .i64 x.bp, .int .i64 x.wr, .int .i64 x.th, .int .i64 x.cs] 39)).heap.size (w.alloc (.cells #[.int .i64 x.tk, .int .i64 x.hd, .int .i64 x.bh, .int .i64 x.ch, .int .i64 x.ht, .int .i64 x.ep, .int .i64 x.bp, .int .i64 x.wr, .int .i64 x.th, .int .i64 x.cs] 39)) W) => (boxS_new w x).keep g)
  have HBB := hid (fun W (g : Below (w.alloc (.cells #[.int .i64 x.tk, .int .i64 x.hd, .int .i64 x.bh, .int .i64 x.ch, .int .i64 x.ht, .int .i64 x.ep, .int .i64 x.bp, .int .i64 x.wr, .int .i64 x.th, .int .i64 x.cs] 39)).heap.size (w.alloc (.cells #[.int .i64 x.tk, .int .i64 x.hd, .int .i64 x.bh, .int .i64 x.ch, .int .i64 x.ht, .int .i64 x.ep, .int .i64 x.bp, .int .i64 x.wr, .int .i64 x.th, .int .i64 x.cs] 39)) W) => bstep (boxS_below w x) (boxS_below w x).size g)
  clear h
  go_enter Try.func25, Try.ntmps25
  go_wp2_with fail
  refine (ksheet_any x _).mono ?_
  rintro e w1 ⟨rfl, hb⟩
  rw [HH.out]
  obtain ⟨b0, b1, b2, b3, b4, b5, b6, b7, b8, b9⟩ := HBX.out _ hb
  have HB1 := hid (HBB.out _ hb)
  clear hb
  go_wp2_with fail
  refine (kpct_any x _ HOK.out).mono ?_
  rintro e w2 ⟨rfl, hb⟩
  have HB2 := hid (bstep HB1.out HB1.out.size hb)
  clear hb
  go_wp2_with fail
  go_ret2
  exact ⟨rfl, HB2.out⟩
/-- The example's sheet. -/
def shEx : Sh := ⟨0, 1, 2000, 1900, 3000, 200, 180, 0, 0, 0⟩
set_option maxHeartbeats 4000000 in
theorem kawake_any (w : World) : Calls Try.prog 9 #[] w fun e w' => e = .returned (.bool true) ∧ Below w.heap.size w w' := by
  have h1 : shB shEx = true := by decide
  have h2 : pctT shEx = 47 := by decide
  have h3 : ovT shEx / 10 = 1120 := by decide
  have H1 := hid h1
  have H2 := hid h2
  have H3 := hid h3
  have HBX := hid (fun W (g : Below (w.alloc (.cells #[.int .i64 0, .int .i64 1, .int .i64 2000, .int .i64 1900, .int .i64 3000, .int .i64 200, .int .i64 180, .int .i64 0, .int .i64 0, .int .i64 0] 39)).heap.size (w.alloc (.cells #[.int .i64 0, .int .i64 1, .int .i64 2000, .int .i64 1900, .int .i64 3000, .int .i64 200, .int .i64 180, .int .i64 0, .int .i64 0, .int .i64 0] 39)) W) => (boxS_new w shEx).keep g)
  have HBB := hid (fun W (g : Below (w.alloc (.cells #[.int .i64 0, .int .i64 1, .int .i64 2000, .int .i64 1900, .int .i64 3000, .int .i64 200, .int .i64 180, .int .i64 0, .int .i64 0, .int .i64 0] 39)).heap.size (w.alloc (.cells #[.int .i64 0, .int .i64 1, .int .i64 2000, .int .i64 1900, .int .i64 3000, .int .i64 200, .int .i64 180, .int .i64 0, .int .i64 0, .int .i64 0] 39)) W) => bstep (boxS_below w shEx) (boxS_below w shEx).size g)
  clear h1 h2 h3
  go_enter Try.func9, Try.ntmps9
  go_wp2_with fail
  refine (kperc_ok shEx _ H1.out).mono ?_
  rintro e w1 ⟨rfl, hb⟩
  rw [H2.out]
  obtain ⟨b0, b1, b2, b3, b4, b5, b6, b7, b8, b9⟩ := HBX.out _ hb
  simp only [shEx] at b0 b1 b2 b3 b4 b5 b6 b7 b8 b9
  have HB1 := hid (HBB.out _ hb)
  clear hb
  go_wp2_with fail
  refine (koverl_ok shEx _ H1.out).mono ?_
  rintro e w2 ⟨rfl, hb⟩
  rw [H3.out]
  have HB2 := hid (bstep HB1.out HB1.out.size hb)
  clear hb
  go_wp2_with fail
  go_ret
  exact ⟨rfl, HB2.out⟩
end Go.Proofs.Ytjfakhfkbnnbcaa
