/- Walks of validBasket, IndexFunc and ContainsFunc over baskets: contracts. -/
import Derived.Test.YtikjgbfbbkmmcaaG02
namespace Go.Proofs.Ytikjgbfbbkmmcaa
open Go.RowKit

theorem qwithin_any (a b c : Int) (w : World) : Calls Try.prog 50 #[.int .i64 a, .int .i64 b, .int .i64 c] w fun e w' => e = .returned (.bool (inQ a b c)) ∧ w = w' := by
  unfold inQ
  by_cases h : b ≤ a
  · have hd : decide (b ≤ a) = true := by simpa using h
    go_enter Try.func50, Try.ntmps50
    go_wp2
    go_ret
    exact ⟨ret_bool (by simp [h]), rfl⟩
  · have hd : decide (b ≤ a) = false := by simpa using h
    go_enter Try.func50, Try.ntmps50
    go_wp2
    go_ret
    exact ⟨ret_bool (by simp), rfl⟩
theorem qwithin_q (a b c : Int) (q : Bool) (h : inQ a b c = q) (w : World) : Calls Try.prog 50 #[.int .i64 a, .int .i64 b, .int .i64 c] w fun e w' => e = .returned (.bool q) ∧ w' = w := by
  rw [← h]
  exact (qwithin_any a b c w).mono fun _ _ ⟨h1, h2⟩ => ⟨h1, h2.symm⟩
theorem qname_q (s : ByteArray) (q : Bool) (h : Lt.nameB s.data.toList = q) (hs : s.size ≤ maxLen) (w : World) : Calls Try.prog 73 #[.string s] w fun e w' => e = .returned (.bool q) ∧ w' = w := by
  rw [← h]
  exact (Lt.lname_any s w hs).mono fun _ _ ⟨h1, h2⟩ => ⟨h1, h2.symm⟩
abbrev bskV (b : Bsk) : Value := .agg #[.int .i64 b.nu, .int .i64 b.ca, .string b.pr, .int .i64 b.cn]
abbrev bskC (b : Bsk) : Array Value := #[.int .i64 b.nu, .int .i64 b.ca, .string b.pr, .int .i64 b.cn]
set_option maxRecDepth 20000 in
set_option maxHeartbeats 4000000 in
theorem validb_any (b : Bsk) (w : World) (hs : b.pr.size ≤ maxLen) : Calls Try.prog 42 #[bskV b] w fun e w' => e = .returned (.bool (oneQ b)) ∧ Below w.heap.size w w' := by
  obtain ⟨nu, ca, pr, cn⟩ := b
  dsimp only [bskV] at hs ⊢
  have HB := hid ((Below.refl w.heap.size w).alloc (Nat.le_refl _) (.cells #[.int .i64 nu, .int .i64 ca, .string pr, .int .i64 cn] 55))
  obtain ⟨q1, h1⟩ : ∃ q, inQ nu 1 1000000 = q := ⟨_, rfl⟩
  obtain ⟨q2, h2⟩ : ∃ q, inQ ca 0 100000000 = q := ⟨_, rfl⟩
  obtain ⟨q3, h3⟩ : ∃ q, Lt.nameB pr.data.toList = q := ⟨_, rfl⟩
  obtain ⟨q4, h4⟩ : ∃ q, inQ cn 1 1000000 = q := ⟨_, rfl⟩
  have H1 := hid (qwithin_q _ _ _ _ h1); have H2 := hid (qwithin_q _ _ _ _ h2); have H3 := hid (qname_q _ _ h3 hs); have H4 := hid (qwithin_q _ _ _ _ h4)
  have HE : Hid (oneQ ⟨nu, ca, pr, cn⟩ = (q1 && q2 && q3 && q4)) := by unfold Hid oneQ; rw [h1, h2, h3, h4]
  clear h1 h2 h3 h4
  rw [HE.out]
  cases q1
  · go_enter Try.func42, Try.ntmps42
    go_wp2_with fail
    refine (H1.out _).mono ?_
    rintro e w' ⟨rfl, rfl⟩
    go_wp2_with fail
    go_ret
    exact ⟨rfl, HB.out⟩
  · cases q2
    · go_enter Try.func42, Try.ntmps42
      go_wp2_with fail
      refine (H1.out _).mono ?_
      rintro e w' ⟨rfl, rfl⟩
      go_wp2_with fail
      refine (H2.out _).mono ?_
      rintro e w' ⟨rfl, rfl⟩
      go_wp2_with fail
      go_ret
      exact ⟨rfl, HB.out⟩
    · cases q3
      · go_enter Try.func42, Try.ntmps42
        go_wp2_with fail
        refine (H1.out _).mono ?_
        rintro e w' ⟨rfl, rfl⟩
        go_wp2_with fail
        refine (H2.out _).mono ?_
        rintro e w' ⟨rfl, rfl⟩
        go_wp2_with fail
        refine (H3.out _).mono ?_
        rintro e w' ⟨rfl, rfl⟩
        go_wp2_with fail
        go_ret
        exact ⟨rfl, HB.out⟩
      · go_enter Try.func42, Try.ntmps42
        go_wp2_with fail
        refine (H1.out _).mono ?_
        rintro e w' ⟨rfl, rfl⟩
        go_wp2_with fail
        refine (H2.out _).mono ?_
        rintro e w' ⟨rfl, rfl⟩
        go_wp2_with fail
        refine (H3.out _).mono ?_
        rintro e w' ⟨rfl, rfl⟩
        go_wp2_with fail
        refine (H4.out _).mono ?_
        rintro e w' ⟨rfl, rfl⟩
        go_wp2_with fail
        go_ret
        exact ⟨ret_bool (by simp), HB.out⟩
theorem vb1_any (b : Bsk) (w : World) (hs : b.pr.size ≤ maxLen) : Calls Try.prog 41 #[bskV b] w fun e w' => e = .returned (.bool (!oneQ b)) ∧ Below w.heap.size w w' := by
  have HC := hid (fun w1 => validb_any b w1 hs)
  generalize oneQ b = q at HC ⊢
  go_enter Try.func41, Try.ntmps41
  go_wp2_with fail
  refine (HC.out _).mono ?_
  rintro e w1 ⟨rfl, hb⟩
  have HB := hid (balloc hb)
  clear hb HC
  go_wp2_with fail
  go_ret
  exact ⟨rfl, HB.out⟩
theorem RowE.bsk {w : World} {a : Option Addr} {n c k : Nat} {l : List Bsk} (h : RowE encB w (.slice a n c) l) (hk : k < l.length) : ∃ b o, a = some ⟨b, o, none⟩ ∧ w.cell? ⟨b, o + k * 4, none⟩ = some (.int .i64 l[k].nu) ∧ w.cell? ⟨b, o + k * 4 + 1, none⟩ = some (.int .i64 l[k].ca) ∧ w.cell? ⟨b, o + k * 4 + 2, none⟩ = some (.string l[k].pr) ∧ w.cell? ⟨b, o + k * 4 + 3, none⟩ = some (.int .i64 l[k].cn) := by
  obtain ⟨b, o, rfl, hc⟩ := h.get hk
  exact ⟨b, o, rfl, hc 0 _ rfl, hc 1 _ rfl, hc 2 _ rfl, hc 3 _ rfl⟩
theorem all_take_succB {l : List Bsk} {k : Nat} (hk : k < l.length) (f : Bsk → Bool) : (l.take (k + 1)).all f = ((l.take k).all f && f l[k]) := by
  rw [List.take_succ_eq_append_getElem hk, List.all_append]
  simp
set_option maxRecDepth 20000 in
set_option maxHeartbeats 4000000 in
theorem indexB_any (v : Value) (l : List Bsk) (w : World) (hr : RowE encB w v l) (hs : ∀ b ∈ l, b.pr.size ≤ maxLen) : Calls Try.prog 72 #[v, .func (.func 41) #[] #[]] w fun e w' => (∃ i : Int, e = .returned (.int .i64 i) ∧ decide (0 ≤ i) = !l.all oneQ) ∧ Below w.heap.size w w' := by
  have HR := hid (fun w1 (g : Below w.heap.size w w1) => hr.keep g)
  have HS := hid hs
  have hm := hr.most
  unfold maxLen at hm
  obtain ⟨va, vc, rfl⟩ := hr.shape
  clear hr hs
  go_enter Try.func72, Try.ntmps72
  go_wp2
  go_loopw [8] (fun t wr => ∃ k : Nat, k ≤ l.length ∧ t = .int .i64 (k : Int) ∧ Hid (Below w.heap.size w wr) ∧ Hid ((l.take k).all oneQ = true)) (fun t _ => l.length - (intOf t).toNat)
  case atStart => exact ⟨0, Nat.zero_le _, rfl, Below.refl _ _, rfl⟩
  case round =>
    obtain ⟨k, hk, rfl, hB, hA⟩ := hrel
    by_cases hlt : k < l.length
    · obtain ⟨b, o, hva, c0, c1, c2, c3⟩ := (HR.out _ hB.out).bsk hlt
      have hlt' : (k : Int) < l.length := by omega
      have HST := hid (all_take_succB hlt oneQ)
      have HC := hid (fun w1 => vb1_any l[k] w1 (HS.out _ (List.getElem_mem hlt)))
      have HM := hid (List.getElem_mem hlt)
      generalize l[k] = x at *
      have HLT := hid hlt
      subst hva
      clear hlt
      cases hx : oneQ x
      · have HX := hid hx
        rw [hx] at HC
        clear hx
        go_wp2_with fail
        refine (HC.out _).mono ?_
        rintro e w1 ⟨rfl, hb⟩
        have HB := hid (bstep hB.out hB.out.size hb)
        have HF : Hid (l.all oneQ = false) := by
          show l.all oneQ = false
          rw [List.all_eq_false]
          exact ⟨x, HM.out, by rw [HX.out]; simp⟩
        clear hb HC c0 c1 c2 c3
        go_wp2
        go_ret
        exact ⟨⟨_, rfl, by rw [HF.out]; simp⟩, HB.out⟩
      · have HX := hid hx
        rw [hx] at HC
        clear hx
        go_wp2_with fail
        refine (HC.out _).mono ?_
        rintro e w1 ⟨rfl, hb⟩
        have HB := hid (bstep hB.out hB.out.size hb)
        have HN : Hid ((l.take (k + 1)).all oneQ = true) := by
          show (l.take (k + 1)).all oneQ = true
          rw [HST.out, hA.out, HX.out]; rfl
        clear hb HC c0 c1 c2 c3
        go_wp2
        go_roundw
        case rel => exact ⟨k + 1, HLT.out, by go_num, HB, HN⟩
        case measure => have := HLT.out; simp [intOf]; omega
    · obtain rfl : k = l.length := by omega
      have HT : Hid (l.all oneQ = true) := by have := hA.out; rwa [List.take_length] at this
      go_wp2
      go_ret
      exact ⟨⟨_, rfl, by rw [HT.out]; simp⟩, hB.out⟩
theorem contains_any (v : Value) (l : List Bsk) (w : World) (hr : RowE encB w v l) (hs : ∀ b ∈ l, b.pr.size ≤ maxLen) : Calls Try.prog 40 #[v, .func (.func 41) #[] #[]] w fun e w' => e = .returned (.bool (!l.all oneQ)) ∧ Below w.heap.size w w' := by
  have HC := hid (indexB_any v l w hr hs)
  obtain ⟨va, vc, rfl⟩ := hr.shape
  clear hr hs
  go_enter Try.func40, Try.ntmps40
  go_wp2_with fail
  refine HC.out.mono ?_
  rintro e w1 ⟨⟨i, rfl, hd⟩, hb⟩
  have HD := hid hd; have HB := hid hb
  clear hd hb HC
  go_wp2_with fail
  go_ret
  exact ⟨ret_bool HD.out, HB.out⟩
end Go.Proofs.Ytikjgbfbbkmmcaa
