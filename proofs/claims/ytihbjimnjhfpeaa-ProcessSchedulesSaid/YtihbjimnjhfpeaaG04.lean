/- Texts of this seat, one behind the other. -/
import Derived.Test.YtihbjimnjhfpeaaG02
import Derived.Test.YtihbjimnjhfpeaaG03
/- Walks of Name of the reference, of within, Valid and Needs of both: contracts. -/
namespace Go.Proofs.Ytihbjimnjhfpeaa.Lt
open Go.RowKit


theorem wordB_small {c : UInt8} (h1 : 97 ≤ c.toNat) (h2 : c.toNat ≤ 122) : wordB c = true := by
  unfold wordB smallB; simp [h1, h2]
theorem wordB_digit {c : UInt8} (h1 : 48 ≤ c.toNat) (h2 : c.toNat ≤ 57) : wordB c = true := by
  unfold wordB digitB; simp [h1, h2]
theorem wordB_line {c : UInt8} (h1 : c.toNat = 95) : wordB c = true := by
  unfold wordB; simp [h1]
theorem wordB_not {c : UInt8} (h1 : ¬ (97 ≤ c.toNat ∧ c.toNat ≤ 122)) (h2 : ¬ (48 ≤ c.toNat ∧ c.toNat ≤ 57)) (h3 : c.toNat ≠ 95) : wordB c = false := by
  unfold wordB smallB digitB
  simp [h3]; omega

set_option maxHeartbeats 1000000 in
theorem rname_any (s : ByteArray) (w : World) (hs : s.size ≤ maxLen) :
    Calls Try.prog 23 #[.string s] w fun e w' => e = .returned (.bool (nameB s.data.toList)) ∧ w = w' := by
  unfold maxLen at hs
  have hl : s.data.toList.length = s.size := rfl
  by_cases h0 : s.size < 1
  · have hr : nameB s.data.toList = false := by
      have : s.size = 0 := by omega
      unfold nameB; simp [hl, this]
    have Hr := hid hr; clear hr
    have hd : decide ((s.size : Int) < 1) = true := by simp; omega
    go_enter Try.func23, Try.ntmps23
    go_wp2
    go_ret
    exact ⟨ret_bool Hr.out.symm, rfl⟩
  have hd0 : decide ((s.size : Int) < 1) = false := by simp; omega
  by_cases h1 : 16 < s.size
  · have hd : decide (16 < (s.size : Int)) = true := by simp; omega
    have hr := nameB_long s.data.toList (by omega)
    have Hr := hid hr; clear hr
    go_enter Try.func23, Try.ntmps23
    go_wp2
    go_ret
    exact ⟨ret_bool Hr.out.symm, rfl⟩
  have hd : decide (16 < (s.size : Int)) = false := by simp; omega
  have h4 : 0 < s.size := by omega
  have hh := hid (head_eq s h4)
  have hL := hid hl; clear hl
  by_cases h5 : s[0].toNat < 97
  · have hr := nameB_head s.data.toList (by rw [hh.out]; unfold smallB; simp; omega)
    have Hr := hid hr; clear hr
    have hd5 : decide ((s[0].toNat : Int) < 97) = true := by simp; omega
    go_enter Try.func23, Try.ntmps23
    go_wp2
    go_ret
    exact ⟨ret_bool Hr.out.symm, rfl⟩
  have hd5 : decide ((s[0].toNat : Int) < 97) = false := by simp; omega
  by_cases h6 : 122 < s[0].toNat
  · have hr := nameB_head s.data.toList (by rw [hh.out]; unfold smallB; simp; omega)
    have Hr := hid hr; clear hr
    have hd6 : decide (122 < (s[0].toNat : Int)) = true := by simp; omega
    go_enter Try.func23, Try.ntmps23
    go_wp2
    go_ret
    exact ⟨ret_bool Hr.out.symm, rfl⟩
  have hd6 : decide (122 < (s[0].toNat : Int)) = false := by simp; omega
  have h7 : smallB s[0] = true := by unfold smallB; simp; omega
  have H7 := hid h7; clear h7
  go_enter Try.func23, Try.ntmps23
  go_wp2
  go_loop [3] (fun i => ∃ k : Nat, k ≤ s.size ∧ i = .int .i64 k ∧ (s.data.toList.take k).all wordB = true) (fun i => s.size - (intOf i).toNat)
  case atStart => exact ⟨0, Nat.zero_le _, rfl, rfl⟩
  case round =>
    obtain ⟨k, hk, rfl, hal⟩ := hrel
    have Hal := hid hal; clear hal
    by_cases hlt : k < s.size
    · by_cases ha : 97 ≤ s[k].toNat
      · have ha1 : decide (97 ≤ (s[k].toNat : Int)) = true := by simp; omega
        by_cases hb : s[k].toNat ≤ 122
        · have hb1 : decide ((s[k].toNat : Int) ≤ 122) = true := by simp; omega
          have hn : Hid ((s.data.toList.take (k+1)).all wordB = true) := all_take_succ _ k hlt Hal.out (wordB_small ha hb)
          go_wp2
          go_round
          case rel => exact ⟨k + 1, by omega, by go_num, hn.out⟩
          case measure => simp [intOf]; omega
        · have hb1 : decide ((s[k].toNat : Int) ≤ 122) = false := by simp; omega
          have hn : nameB s.data.toList = false := nameB_at _ k hlt (wordB_not (c := s[k]) (by omega) (by omega) (by omega))
          have Hn := hid hn; clear hn
          have hc1 : decide (48 ≤ (s[k].toNat : Int)) = true := by simp; omega
          have hd1 : decide ((s[k].toNat : Int) ≤ 57) = false := by simp; omega
          have he1 : ((s[k].toNat : Int) == 95) = false := by simp; omega
          go_wp2
          go_ret
          exact ⟨ret_bool Hn.out.symm, rfl⟩
      · have ha1 : decide (97 ≤ (s[k].toNat : Int)) = false := by simp; omega
        by_cases hc : 48 ≤ s[k].toNat
        · have hc1 : decide (48 ≤ (s[k].toNat : Int)) = true := by simp; omega
          by_cases hd : s[k].toNat ≤ 57
          · have hd1 : decide ((s[k].toNat : Int) ≤ 57) = true := by simp; omega
            have hn : Hid ((s.data.toList.take (k+1)).all wordB = true) := all_take_succ _ k hlt Hal.out (wordB_digit hc hd)
            go_wp2
            go_round
            case rel => exact ⟨k + 1, by omega, by go_num, hn.out⟩
            case measure => simp [intOf]; omega
          · have hd1 : decide ((s[k].toNat : Int) ≤ 57) = false := by simp; omega
            by_cases he : s[k].toNat = 95
            · have he1 : ((s[k].toNat : Int) == 95) = true := by simp; omega
              have hn : Hid ((s.data.toList.take (k+1)).all wordB = true) := all_take_succ _ k hlt Hal.out (wordB_line he)
              clear he
              go_wp2
              go_round
              case rel => exact ⟨k + 1, by omega, by go_num, hn.out⟩
              case measure => simp [intOf]; omega
            · have he1 : ((s[k].toNat : Int) == 95) = false := by simp; omega
              have hn : nameB s.data.toList = false := nameB_at _ k hlt (wordB_not (c := s[k]) (by omega) (by omega) (by omega))
              have Hn := hid hn; clear hn
              go_wp2
              go_ret
              exact ⟨ret_bool Hn.out.symm, rfl⟩
        · have hc1 : decide (48 ≤ (s[k].toNat : Int)) = false := by simp; omega
          have he1 : ((s[k].toNat : Int) == 95) = false := by simp; omega
          have hn : nameB s.data.toList = false := nameB_at _ k hlt (wordB_not (c := s[k]) (by omega) (by omega) (by omega))
          have Hn := hid hn; clear hn
          go_wp2
          go_ret
          exact ⟨ret_bool Hn.out.symm, rfl⟩
    · have hr : nameB s.data.toList = true := by
        rw [nameB_iff]
        refine ⟨by rw [hL.out]; omega, by rw [hL.out]; omega, by rw [hh.out]; exact H7.out, ?_⟩
        have := Hal.out
        rwa [List.take_of_length_le (by rw [hL.out]; omega)] at this
      have Hr := hid hr; clear hr
      go_wp2
      go_ret
      exact ⟨ret_bool Hr.out.symm, rfl⟩

def validB (l : List UInt8) (r z d g : Int) : Bool :=
  nameB l && (decide (-200 ≤ r) && decide (r ≤ 800)) && (decide (1 ≤ z) && decide (z ≤ 60)) && (decide (1 ≤ d) && decide (d ≤ 1000000)) && (decide (1 ≤ g) && decide (g ≤ 20))

theorem five (a b c d e : Bool) : a = false ∨ (a = true ∧ b = false) ∨ (a = true ∧ b = true ∧ c = false) ∨ (a = true ∧ b = true ∧ c = true ∧ d = false) ∨ (a = true ∧ b = true ∧ c = true ∧ d = true ∧ e = false) ∨ (a = true ∧ b = true ∧ c = true ∧ d = true ∧ e = true) := by
  cases a <;> cases b <;> cases c <;> cases d <;> cases e <;> simp

set_option maxHeartbeats 1000000 in
theorem lvalid_any (s : ByteArray) (r z d g : Int) (w : World) (hs : s.size ≤ maxLen) :
    Calls Try.prog 37 #[.agg #[.string s, .int .i64 r, .int .i64 z, .int .i64 d, .int .i64 g]] w fun e w' => e = .returned (.bool (validB s.data.toList r z d g)) ∧ Below w.heap.size w w' := by
  have hv : validB s.data.toList r z d g = (nameB s.data.toList && (decide (-200 ≤ r) && decide (r ≤ 800)) && (decide (1 ≤ z) && decide (z ≤ 60)) && (decide (1 ≤ d) && decide (d ≤ 1000000)) && (decide (1 ≤ g) && decide (g ≤ 20))) := rfl
  have Hv := hid hv; clear hv
  rcases five (nameB s.data.toList) (decide (-200 ≤ r) && decide (r ≤ 800)) (decide (1 ≤ z) && decide (z ≤ 60)) (decide (1 ≤ d) && decide (d ≤ 1000000)) (decide (1 ≤ g) && decide (g ≤ 20)) with h1 | ⟨h1, h2⟩ | ⟨h1, h2, h3⟩ | ⟨h1, h2, h3, h4⟩ | ⟨h1, h2, h3, h4, h5⟩ | ⟨h1, h2, h3, h4, h5⟩
  all_goals
    go_enter Try.func37, Try.ntmps37
    go_wp2_with (first | (go_at_call 22; refine (lname_any _ _ hs).mono ?_; rintro e w' ⟨rfl, rfl⟩) | (go_at_call 53; refine (within_any _ _ _ _).mono ?_; rintro e w' ⟨rfl, rfl⟩))
    go_ret
    exact ⟨ret_bool (by rw [Hv.out]; simp only [Bool.false_and, *]; try rfl), (Below.refl _ _).alloc (Nat.le_refl _) _⟩

end Go.Proofs.Ytihbjimnjhfpeaa.Lt

/- Walks of process's small tests: within, temperatures, ticks, valid, check: contracts. -/
namespace Go.Proofs.Ytihbjimnjhfpeaa
open Go.RowKit

set_option maxHeartbeats 400000 in
theorem pwithin_any (a b c : Int) (w : World) :
    Calls Try.prog 11 #[.int .i64 a, .int .i64 b, .int .i64 c] w fun e w' => e = .returned (.bool (decide (b ≤ a) && decide (a ≤ c))) ∧ w = w' := by
  by_cases h : b ≤ a
  · have hd : decide (b ≤ a) = true := by simpa using h
    go_enter Try.func11, Try.ntmps11
    go_wp2
    go_ret
    exact ⟨by simp [h], rfl⟩
  · have hd : decide (b ≤ a) = false := by simpa using h
    go_enter Try.func11, Try.ntmps11
    go_wp2
    go_ret
    exact ⟨by simp, rfl⟩
set_option maxHeartbeats 2000000 in
theorem ptemps_any (w : World) (v : Value) (l : List Int) (hl : RowI w v l) :
    Calls Try.prog 10 #[v] w fun e w' => e = .returned (.bool (okL l)) ∧ w = w' := by
  rcases hl with ⟨a0, c0, rfl, rfl⟩ | ⟨b, o, cap, rfl, hm, hc⟩
  · go_enter Try.func10, Try.ntmps10
    go_wp2
    refine wp_loop_rounds 1 ?_
    rw [rounds_succ]
    go_wp2
    go_ret
    exact ⟨rfl, rfl⟩
  · have HC := hid hc; clear hc
    unfold maxLen at hm
    go_enter Try.func10, Try.ntmps10
    go_wp2
    go_loop [7] (fun i => ∃ k : Nat, k ≤ l.length ∧ i = .int .i64 (k : Int) ∧ Hid (∀ j (hj : j < l.length), j < k → okT l[j] = true)) (fun i => l.length - (intOf i).toNat)
    case atStart => exact ⟨0, Nat.zero_le _, rfl, fun j _ h => absurd h (Nat.not_lt_zero _)⟩
    case round =>
      obtain ⟨k, hk, rfl, hok⟩ := hrel
      by_cases hlt : k < l.length
      · have ex := HC.out k hlt
        have hlt' : (k : Int) < l.length := by omega
        cases ho : okT l[k]
        · have hE := hid (okL_bad hlt ho)
          generalize l[k] = x at ex ho
          change (decide (-50000 ≤ x) && decide (x ≤ 200000)) = false at ho
          go_wp2_with (go_at_call 11; refine (pwithin_any _ _ _ _).mono ?_; rintro e w' ⟨rfl, rfl⟩)
          go_ret
          exact ⟨by rw [hE.out]; rfl, rfl⟩
        · have hst : Hid (∀ j (hj : j < l.length), j < k + 1 → okT l[j] = true) := fun j hj h => by
            rcases Nat.lt_or_ge j k with h1 | h1
            · exact hok.out j hj h1
            · obtain rfl : j = k := by omega
              exact ho
          generalize l[k] = x at ex ho
          change (decide (-50000 ≤ x) && decide (x ≤ 200000)) = true at ho
          go_wp2_with (go_at_call 11; refine (pwithin_any _ _ _ _).mono ?_; rintro e w' ⟨rfl, rfl⟩)
          go_round
          case rel => exact ⟨k + 1, by omega, by go_num, hst⟩
          case measure => simp [intOf]; omega
      · obtain rfl : k = l.length := by omega
        have hE := hid (okL_end hok.out rfl)
        go_wp2
        go_ret
        exact ⟨by rw [hE.out]; rfl, rfl⟩

/-- A killer as it came in. -/
structure Kl where
  s : ByteArray
  r : Int
  z : Int
  d : Int
  g : Int
def Kl.vB (q : Kl) : Bool := Lt.validB q.s.data.toList q.r q.z q.d q.g
def KlAt (w : World) (b i : Nat) (q : Kl) : Prop := w.cell? ⟨b, i, none⟩ = some (.string q.s) ∧ w.cell? ⟨b, i + 1, none⟩ = some (.int .i64 q.r) ∧ w.cell? ⟨b, i + 2, none⟩ = some (.int .i64 q.z) ∧ w.cell? ⟨b, i + 3, none⟩ = some (.int .i64 q.d) ∧ w.cell? ⟨b, i + 4, none⟩ = some (.int .i64 q.g)
theorem KlAt.keep {W w2 : World} {b i : Nat} {q : Kl} (h : KlAt W b i q) (hb : Below W.heap.size W w2) : KlAt w2 b i q :=
  ⟨keep_cell hb h.1, keep_cell hb h.2.1, keep_cell hb h.2.2.1, keep_cell hb h.2.2.2.1, keep_cell hb h.2.2.2.2⟩
/-- A row of killers. -/
def RowKl (w : World) (b : Nat) (ks : List Kl) : Prop := ∀ i (h : i < ks.length), KlAt w b (i * 5) ks[i]
theorem RowKl.keep {W w2 : World} {b : Nat} {ks : List Kl} (h : RowKl W b ks) (hb : Below W.heap.size W w2) : RowKl w2 b ks := fun i hi => (h i hi).keep hb
theorem klAt_new (W : World) (q : Kl) (T : TypeId) (fz : Nat × Nat) : KlAt (W.alloc (.cells #[.string q.s, .int .i64 q.r, .int .i64 q.z, .int .i64 q.d, .int .i64 q.g] T fz)) W.heap.size 0 q :=
  ⟨cell_alloc_new _ _ _ _ 0, cell_alloc_new _ _ _ _ 1, cell_alloc_new _ _ _ _ 2, cell_alloc_new _ _ _ _ 3, cell_alloc_new _ _ _ _ 4⟩
theorem klAt_at {W : World} {n : Nat} (q : Kl) (T : TypeId) (fz : Nat × Nat) (h : W.heap.size = n) : RowKl (W.alloc (.cells #[.string q.s, .int .i64 q.r, .int .i64 q.z, .int .i64 q.d, .int .i64 q.g] T fz)) n [q] := by
  subst h
  intro i hi
  obtain rfl : i = 0 := by simp at hi; omega
  exact klAt_new W q T fz
theorem all_take {ks : List Kl} {k : Nat} (h : ∀ j (hj : j < ks.length), j < k → ks[j].vB = true) (hk : k = ks.length) : ks.all Kl.vB = true := by
  subst hk
  refine List.all_eq_true.2 fun x hx => ?_
  obtain ⟨j, hj, rfl⟩ := List.getElem_of_mem hx
  exact h j hj hj
theorem all_bad {ks : List Kl} {k : Nat} (hk : k < ks.length) (h : ks[k].vB = false) : ks.all Kl.vB = false := by
  cases ho : ks.all Kl.vB with
  | false => rfl
  | true => rw [List.all_eq_true.1 ho _ (List.getElem_mem hk)] at h; cases h

set_option maxRecDepth 20000 in
set_option maxHeartbeats 4000000 in
theorem pvalid_any (r l a b k a2 b2 : Int) (w : World) (bk cap : Nat) (ks : List Kl) (hr : RowKl w bk ks) (hs : ∀ q ∈ ks, q.s.size ≤ maxLen) (hn : ks.length ≤ 100) :
    Calls Try.prog 24 #[.agg #[.int .i64 r, .int .i64 l, .int .i64 a, .int .i64 b, .int .i64 k, .int .i64 a2, .int .i64 b2], .slice (some ⟨bk, 0, none⟩) ks.length cap] w fun e w' => e = .returned (.bool (ks.all Kl.vB && canB r l a b k a2 b2)) ∧ Below w.heap.size w w' := by
  have HR := hid (fun (w1 : World) (g : Below w.heap.size w w1) => hr.keep g)
  have HS := hid hs
  have HX := hid (box1_start (w := w) (A := #[.int .i64 r, .int .i64 l, .int .i64 a, .int .i64 b, .int .i64 k, .int .i64 a2, .int .i64 b2]) (T := 31) (fz := (0, 0)))
  clear hr hs
  go_enter Try.func24, Try.ntmps24
  go_wp2_with fail
  go_loopw [9] (fun i wr => ∃ n : Nat, n ≤ ks.length ∧ i = .int .i64 (n : Int) ∧ Hid (∀ j (hj : j < ks.length), j < n → ks[j].vB = true) ∧ Hid (Box1 w wr #[.int .i64 r, .int .i64 l, .int .i64 a, .int .i64 b, .int .i64 k, .int .i64 a2, .int .i64 b2])) (fun i _ => ks.length - (intOf i).toNat)
  case atStart => exact ⟨0, Nat.zero_le _, rfl, fun j _ h => absurd h (Nat.not_lt_zero _), HX⟩
  case round =>
    obtain ⟨n, hk, rfl, hok, hX⟩ := hrel
    by_cases hlt : n < ks.length
    · obtain ⟨e0, e1, e2, e3, e4⟩ := HR.out _ hX.out.low n hlt
      have hlt' : (n : Int) < ks.length := by omega
      have hsz := HS.out _ (List.getElem_mem hlt)
      cases ho : ks[n].vB
      · have hE := hid (all_bad hlt ho)
        have HO := hid ho
        generalize ks[n] = q at *
        have HB := hid hX.out.low
        clear ho hok hX
        go_wp2_with fail
        refine (Lt.lvalid_any q.s q.r q.z q.d q.g _ hsz).mono ?_
        rintro e w3 ⟨rfl, hb⟩
        rw [show Lt.validB q.s.data.toList q.r q.z q.d q.g = false from HO.out]
        have HB3 := hid (bstep HB.out HB.out.size (balloc hb))
        clear hb
        go_wp2_with fail
        go_ret
        exact ⟨ret_bool (by rw [hE.out, Bool.false_and]), HB3.out⟩
      · have HST : Hid (∀ j (hj : j < ks.length), j < n + 1 → ks[j].vB = true) := fun j hj h => by
          rcases Nat.lt_or_ge j n with h1 | h1
          · exact hok.out j hj h1
          · obtain rfl : j = n := by omega
            exact ho
        have HO := hid ho
        have HLT := hid hlt
        generalize ks[n] = q at e0 e1 e2 e3 e4 hsz HO
        clear ho hok
        go_wp2_with fail
        refine (Lt.lvalid_any q.s q.r q.z q.d q.g _ hsz).mono ?_
        rintro e w3 ⟨rfl, hb⟩
        rw [show Lt.validB q.s.data.toList q.r q.z q.d q.g = true from HO.out]
        have HX3 := hid (hX.out.keep (balloc hb))
        clear hb e0 e1 e2 e3 e4
        go_wp2_with fail
        go_roundw
        case rel => exact ⟨n + 1, HLT.out, by go_num, HST, HX3⟩
        case measure => have := HLT.out; simp [intOf]; omega
    · obtain rfl : n = ks.length := by omega
      have hE := hid (all_take hok.out rfl)
      obtain ⟨b0, b1, b2', b3, b4, b5, b6⟩ := hX.out.can
      clear hok
      go_wp2_with fail
      refine (vcan_any _ _ _ _ _ _ _ _).mono ?_
      rintro e w3 ⟨rfl, hb⟩
      have HX3 := hid (hX.out.keep hb)
      clear hb b0 b1 b2' b3 b4 b5 b6
      go_wp2_with fail
      go_ret
      exact ⟨ret_bool (by rw [hE.out, Bool.true_and]), HX3.out.low⟩

theorem one_row {W : World} {n : Nat} (t : Int) (T : TypeId) (h : W.heap.size = n) : RowI (W.alloc (.cells #[.int .i64 t] T)) (.slice (some ⟨n, 0, none⟩) 1 1) [t] := by
  subst h
  refine .inr ⟨W.heap.size, 0, 1, rfl, by simp [maxLen], fun k hk => ?_⟩
  obtain rfl : k = 0 := by simp at hk; omega
  exact cell_alloc_new W _ T (0, 0) 0
/-- The error of a can, a killer, a beginning and baths. -/
def chk4 (vc vk : Bool) (t : Int) (l : List Int) : Int := if (vk && vc) = false then 1 else if (okT t && okL l) = false then 7 else if 2000 < l.length then 4 else 0
theorem chk4_no {vc vk : Bool} {t : Int} {l : List Int} (h : (vk && vc) = false) : chk4 vc vk t l = 1 := by unfold chk4; rw [if_pos h]
theorem chk4_far {vc vk : Bool} {t : Int} {l : List Int} (h : (vk && vc) = true) (g : (okT t && okL l) = false) : chk4 vc vk t l = 7 := by unfold chk4; rw [if_neg (by rw [h]; simp), if_pos g]
theorem chk4_long {vc vk : Bool} {t : Int} {l : List Int} (h : (vk && vc) = true) (g : (okT t && okL l) = true) (n : 2000 < l.length) : chk4 vc vk t l = 4 := by unfold chk4; rw [if_neg (by rw [h]; simp), if_neg (by rw [g]; simp), if_pos n]
theorem chk4_ok {vc vk : Bool} {t : Int} {l : List Int} (h : (vk && vc) = true) (g : (okT t && okL l) = true) (n : ¬ 2000 < l.length) : chk4 vc vk t l = 0 := by unfold chk4; rw [if_neg (by rw [h]; simp), if_neg (by rw [g]; simp), if_neg n]
theorem chk4_zero {vc vk : Bool} {t : Int} {l : List Int} (h : chk4 vc vk t l = 0) : vc = true ∧ vk = true ∧ okT t = true ∧ okL l = true ∧ l.length ≤ 2000 := by
  unfold chk4 at h
  split at h
  · cases h
  · split at h
    · cases h
    · split at h
      · cases h
      · rename_i h1 h2 h3
        rw [Bool.not_eq_false, Bool.and_eq_true] at h1 h2
        exact ⟨h1.2, h1.1, h2.1, h2.2, by omega⟩

set_option maxRecDepth 20000 in
set_option maxHeartbeats 4000000 in
theorem pcheck_any (r l a b k a2 b2 : Int) (w : World) (q : Kl) (t : Int) (v : Value) (p : List Int) (hs : q.s.size ≤ maxLen) (hl : RowI w v p) (hpm : p.length ≤ maxLen) :
    Calls Try.prog 26 #[.agg #[.int .i64 r, .int .i64 l, .int .i64 a, .int .i64 b, .int .i64 k, .int .i64 a2, .int .i64 b2], .agg #[.string q.s, .int .i64 q.r, .int .i64 q.z, .int .i64 q.d, .int .i64 q.g], .int .i64 t, v] w fun e w' => e = .returned (.int .i64 (chk4 (canB r l a b k a2 b2) q.vB t p)) ∧ Below w.heap.size w w' := by
  have HX := hid (box2_start (w := w) (A := #[.int .i64 r, .int .i64 l, .int .i64 a, .int .i64 b, .int .i64 k, .int .i64 a2, .int .i64 b2]) (B := #[.string q.s, .int .i64 q.r, .int .i64 q.z, .int .i64 q.d, .int .i64 q.g]) (T := 31) (T' := 33) (fz := (0, 0)) (fz' := (0, 0)))
  have HL := hid (fun w1 (g : Below w.heap.size w w1) => hl.keep g)
  obtain ⟨a0, cap, rfl⟩ := hl.shape
  unfold maxLen at hpm
  have HV : Hid (∀ (W : World) (n : Nat), W.heap.size = n → Calls Try.prog 24 #[.agg #[.int .i64 r, .int .i64 l, .int .i64 a, .int .i64 b, .int .i64 k, .int .i64 a2, .int .i64 b2], .slice (some ⟨n, 0, none⟩) 1 1] (W.alloc (.cells #[.string q.s, .int .i64 q.r, .int .i64 q.z, .int .i64 q.d, .int .i64 q.g] 33)) fun e w' => e = .returned (.bool (q.vB && canB r l a b k a2 b2)) ∧ Below (W.alloc (.cells #[.string q.s, .int .i64 q.r, .int .i64 q.z, .int .i64 q.d, .int .i64 q.g] 33)).heap.size (W.alloc (.cells #[.string q.s, .int .i64 q.r, .int .i64 q.z, .int .i64 q.d, .int .i64 q.g] 33)) w') := fun W n hn => by
    have := pvalid_any r l a b k a2 b2 (W.alloc (.cells #[.string q.s, .int .i64 q.r, .int .i64 q.z, .int .i64 q.d, .int .i64 q.g] 33)) n 1 [q] (klAt_at q _ _ hn) (by simpa using hs) (by simp)
    simpa using this
  clear hl hs
  cases h1 : (q.vB && canB r l a b k a2 b2)
  · have HE := hid (chk4_no (t := t) (l := p) h1)
    rw [h1] at HV
    clear h1
    go_enter Try.func26, Try.ntmps26
    go_wp2_with fail
    refine (HV.out _ _ (by simp)).mono ?_
    rintro e w1 ⟨rfl, hb⟩
    have HX := hid (HX.out.keep (balloc hb))
    clear hb
    go_wp2_with fail
    go_ret
    exact ⟨ret_int HE.out.symm, HX.out.low⟩
  rw [h1] at HV
  cases h2 : okT t
  · have HE := hid (chk4_far (t := t) (l := p) h1 (by rw [h2]; rfl))
    have HO := hid (show okL [t] = false by simp [okL, h2])
    clear h1 h2
    go_enter Try.func26, Try.ntmps26
    go_wp2_with fail
    refine (HV.out _ _ (by simp)).mono ?_
    rintro e w1 ⟨rfl, hb⟩
    have HX := hid (HX.out.keep (balloc hb))
    clear hb
    go_wp2_with fail
    refine (ptemps_any _ _ [t] (one_row _ _ rfl)).mono ?_
    rintro e w2 ⟨rfl, rfl⟩
    rw [HO.out]
    have HX := hid (HX.out.keep ((Below.refl _ _).alloc (Nat.le_refl _) (.cells #[.int .i64 t] 3)))
    go_wp2_with fail
    go_ret
    exact ⟨ret_int HE.out.symm, HX.out.low⟩
  have HO := hid (show okL [t] = true by simp [okL, h2])
  cases h3 : okL p
  · have HE := hid (chk4_far (t := t) (l := p) h1 (by rw [h3, Bool.and_false]))
    have HO3 := hid h3
    clear h1 h2 h3
    go_enter Try.func26, Try.ntmps26
    go_wp2_with fail
    refine (HV.out _ _ (by simp)).mono ?_
    rintro e w1 ⟨rfl, hb⟩
    have HX := hid (HX.out.keep (balloc hb))
    clear hb
    go_wp2_with fail
    refine (ptemps_any _ _ [t] (one_row _ _ rfl)).mono ?_
    rintro e w2 ⟨rfl, rfl⟩
    rw [HO.out]
    have HX := hid (HX.out.keep ((Below.refl _ _).alloc (Nat.le_refl _) (.cells #[.int .i64 t] 3)))
    go_wp2_with fail
    refine (ptemps_any _ _ p (HL.out _ HX.out.low)).mono ?_
    rintro e w3 ⟨rfl, rfl⟩
    rw [HO3.out]
    go_wp2_with fail
    go_ret
    exact ⟨ret_int HE.out.symm, HX.out.low⟩
  have h23 : (okT t && okL p) = true := by rw [h2, h3]; rfl
  have HO3 := hid h3
  by_cases h4 : 2000 < p.length
  · have HE := hid (chk4_long (t := t) (l := p) h1 h23 h4)
    have h4' : decide (2000 < (p.length : Int)) = true := by simp; omega
    clear h1 h2 h3 h23
    go_enter Try.func26, Try.ntmps26
    go_wp2_with fail
    refine (HV.out _ _ (by simp)).mono ?_
    rintro e w1 ⟨rfl, hb⟩
    have HX := hid (HX.out.keep (balloc hb))
    clear hb
    go_wp2_with fail
    refine (ptemps_any _ _ [t] (one_row _ _ rfl)).mono ?_
    rintro e w2 ⟨rfl, rfl⟩
    rw [HO.out]
    have HX := hid (HX.out.keep ((Below.refl _ _).alloc (Nat.le_refl _) (.cells #[.int .i64 t] 3)))
    go_wp2_with fail
    refine (ptemps_any _ _ p (HL.out _ HX.out.low)).mono ?_
    rintro e w3 ⟨rfl, rfl⟩
    rw [HO3.out]
    go_wp2_with fail
    go_ret
    exact ⟨ret_int HE.out.symm, HX.out.low⟩
  · have HE := hid (chk4_ok (t := t) (l := p) h1 h23 h4)
    have h4' : decide (2000 < (p.length : Int)) = false := by simp; omega
    clear h1 h2 h3 h23
    go_enter Try.func26, Try.ntmps26
    go_wp2_with fail
    refine (HV.out _ _ (by simp)).mono ?_
    rintro e w1 ⟨rfl, hb⟩
    have HX := hid (HX.out.keep (balloc hb))
    clear hb
    go_wp2_with fail
    refine (ptemps_any _ _ [t] (one_row _ _ rfl)).mono ?_
    rintro e w2 ⟨rfl, rfl⟩
    rw [HO.out]
    have HX := hid (HX.out.keep ((Below.refl _ _).alloc (Nat.le_refl _) (.cells #[.int .i64 t] 3)))
    go_wp2_with fail
    refine (ptemps_any _ _ p (HL.out _ HX.out.low)).mono ?_
    rintro e w3 ⟨rfl, rfl⟩
    rw [HO3.out]
    go_wp2_with fail
    go_ret
    exact ⟨ret_int HE.out.symm, HX.out.low⟩
end Go.Proofs.Ytihbjimnjhfpeaa
