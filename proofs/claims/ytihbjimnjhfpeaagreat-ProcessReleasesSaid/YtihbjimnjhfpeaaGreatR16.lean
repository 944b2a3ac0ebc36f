/- Texts of this seat, one behind the other. -/
import Derived.Test.YtihbjimnjhfpeaaGreatR01
import Derived.Test.YtihbjimnjhfpeaaGreatR08
import Derived.Test.YtihbjimnjhfpeaaGreatR13
import Derived.Test.YtihbjimnjhfpeaaGreatR15
import Derived.Test.YtihbjimnjhfpeaaGreatRows
import Derived.Deep.RegionHeld
/- Walks of process's small tests: within, temperatures, ticks, valid, check: contracts. -/
namespace Go.Proofs.YtihbjimnjhfpeaaGreat
open Go.RowKit

set_option maxHeartbeats 400000 in
theorem pwithin_any (a b c : Int) (w : World) :
    Calls Tryz.prog 42 #[.int .i64 a, .int .i64 b, .int .i64 c] w fun e w' => e = .returned (.bool (decide (b ≤ a) && decide (a ≤ c))) ∧ w = w' := by
  by_cases h : b ≤ a
  · have hd : decide (b ≤ a) = true := by simpa using h
    go_enter Tryz.func42, Tryz.ntmps42
    go_wp2
    go_ret
    exact ⟨by simp [h], rfl⟩
  · have hd : decide (b ≤ a) = false := by simpa using h
    go_enter Tryz.func42, Tryz.ntmps42
    go_wp2
    go_ret
    exact ⟨by simp, rfl⟩
set_option maxHeartbeats 2000000 in
theorem ptemps_any (w : World) (v : Value) (l : List Int) (hl : RowI w v l) :
    Calls Tryz.prog 28 #[v] w fun e w' => e = .returned (.bool (okL l)) ∧ w = w' := by
  rcases hl with ⟨a0, c0, rfl, rfl⟩ | ⟨b, o, cap, rfl, hm, hc⟩
  · go_enter Tryz.func28, Tryz.ntmps28
    go_wp2
    refine wp_loop_rounds 1 ?_
    rw [rounds_succ]
    go_wp2
    go_ret
    exact ⟨rfl, rfl⟩
  · have HC := hid hc; clear hc
    unfold maxLen at hm
    go_enter Tryz.func28, Tryz.ntmps28
    go_wp2
    go_loop [7] (fun i => ∃ k : Nat, k ≤ l.length ∧ i = .int .i64 (k : Int) ∧ Hid (∀ j (hj : j < l.length), j < k → okT l[j] = true)) (fun i => l.length - (intOf i).toNat)
    case atStart => exact ⟨0, Nat.zero_le _, rfl, fun j _ h => absurd h (Nat.not_lt_zero _)⟩
    case round =>
      obtain ⟨k, hk, rfl, hok⟩ := hrel
      by_cases hlt : k < l.length
      · have ex := HC.out k hlt
        have hlt' : (k : Int) < l.length := by omega
        cases ho : okT l[k]
        · have hE := hid (okL_bad hlt ho)
          generalize l[k] = x at ex ho
          change (decide (-50000 ≤ x) && decide (x ≤ 200000)) = false at ho
          go_wp2_with (go_at_call 42; refine (pwithin_any _ _ _ _).mono ?_; rintro e w' ⟨rfl, rfl⟩)
          go_ret
          exact ⟨by rw [hE.out]; rfl, rfl⟩
        · have hst : Hid (∀ j (hj : j < l.length), j < k + 1 → okT l[j] = true) := fun j hj h => by
            rcases Nat.lt_or_ge j k with h1 | h1
            · exact hok.out j hj h1
            · obtain rfl : j = k := by omega
              exact ho
          generalize l[k] = x at ex ho
          change (decide (-50000 ≤ x) && decide (x ≤ 200000)) = true at ho
          go_wp2_with (go_at_call 42; refine (pwithin_any _ _ _ _).mono ?_; rintro e w' ⟨rfl, rfl⟩)
          go_round
          case rel => exact ⟨k + 1, by omega, by go_num, hst⟩
          case measure => simp [intOf]; omega
      · obtain rfl : k = l.length := by omega
        have hE := hid (okL_end hok.out rfl)
        go_wp2
        go_ret
        exact ⟨by rw [hE.out]; rfl, rfl⟩

/-- A killer as it came in. -/
structure Kl where
  s : ByteArray
  r : Int
  z : Int
  d : Int
  g : Int
def Kl.vB (q : Kl) : Bool := Lt.validB q.s.data.toList q.r q.z q.d q.g
def KlAt (w : World) (b i : Nat) (q : Kl) : Prop := w.cell? ⟨b, i, none⟩ = some (.string q.s) ∧ w.cell? ⟨b, i + 1, none⟩ = some (.int .i64 q.r) ∧ w.cell? ⟨b, i + 2, none⟩ = some (.int .i64 q.z) ∧ w.cell? ⟨b, i + 3, none⟩ = some (.int .i64 q.d) ∧ w.cell? ⟨b, i + 4, none⟩ = some (.int .i64 q.g)
theorem KlAt.keep {W w2 : World} {b i : Nat} {q : Kl} (h : KlAt W b i q) (hb : Below W.heap.size W w2) : KlAt w2 b i q :=
  ⟨keep_cell hb h.1, keep_cell hb h.2.1, keep_cell hb h.2.2.1, keep_cell hb h.2.2.2.1, keep_cell hb h.2.2.2.2⟩
/-- A row of killers. -/
def RowKl (w : World) (b : Nat) (ks : List Kl) : Prop := ∀ i (h : i < ks.length), KlAt w b (i * 5) ks[i]
theorem RowKl.keep {W w2 : World} {b : Nat} {ks : List Kl} (h : RowKl W b ks) (hb : Below W.heap.size W w2) : RowKl w2 b ks := fun i hi => (h i hi).keep hb
theorem klAt_new (W : World) (q : Kl) (T : TypeId) (fz : Nat × Nat) : KlAt (W.alloc (.cells #[.string q.s, .int .i64 q.r, .int .i64 q.z, .int .i64 q.d, .int .i64 q.g] T fz)) W.heap.size 0 q :=
  ⟨cell_alloc_new _ _ _ _ 0, cell_alloc_new _ _ _ _ 1, cell_alloc_new _ _ _ _ 2, cell_alloc_new _ _ _ _ 3, cell_alloc_new _ _ _ _ 4⟩
theorem klAt_at {W : World} {n : Nat} (q : Kl) (T : TypeId) (fz : Nat × Nat) (h : W.heap.size = n) : RowKl (W.alloc (.cells #[.string q.s, .int .i64 q.r, .int .i64 q.z, .int .i64 q.d, .int .i64 q.g] T fz)) n [q] := by
  subst h
  intro i hi
  obtain rfl : i = 0 := by simp at hi; omega
  exact klAt_new W q T fz
theorem all_take {ks : List Kl} {k : Nat} (h : ∀ j (hj : j < ks.length), j < k → ks[j].vB = true) (hk : k = ks.length) : ks.all Kl.vB = true := by
  subst hk
  refine List.all_eq_true.2 fun x hx => ?_
  obtain ⟨j, hj, rfl⟩ := List.getElem_of_mem hx
  exact h j hj hj
theorem all_bad {ks : List Kl} {k : Nat} (hk : k < ks.length) (h : ks[k].vB = false) : ks.all Kl.vB = false := by
  cases ho : ks.all Kl.vB with
  | false => rfl
  | true => rw [List.all_eq_true.1 ho _ (List.getElem_mem hk)] at h; cases h

set_option maxRecDepth 20000 in
set_option maxHeartbeats 4000000 in
theorem pvalid_any (r l a b k a2 b2 : Int) (w : World) (bk cap : Nat) (ks : List Kl) (hr : RowKl w bk ks) (hs : ∀ q ∈ ks, q.s.size ≤ maxLen) (hn : ks.length ≤ 100) :
    Calls Tryz.prog 27 #[.agg #[.int .i64 r, .int .i64 l, .int .i64 a, .int .i64 b, .int .i64 k, .int .i64 a2, .int .i64 b2], .slice (some ⟨bk, 0, none⟩) ks.length cap] w fun e w' => e = .returned (.bool (ks.all Kl.vB && canB r l a b k a2 b2)) ∧ Below w.heap.size w w' := by
  have HR := hid (fun (w1 : World) (g : Below w.heap.size w w1) => hr.keep g)
  have HS := hid hs
  have HX := hid (box1_start (w := w) (A := #[.int .i64 r, .int .i64 l, .int .i64 a, .int .i64 b, .int .i64 k, .int .i64 a2, .int .i64 b2]) (T := 23) (fz := (0, 0)))
  clear hr hs
  go_enter Tryz.func27, Tryz.ntmps27
  go_wp2_with fail
  go_loopw [9] (fun i wr => ∃ n : Nat, n ≤ ks.length ∧ i = .int .i64 (n : Int) ∧ Hid (∀ j (hj : j < ks.length), j < n → ks[j].vB = true) ∧ Hid (Box1 w wr #[.int .i64 r, .int .i64 l, .int .i64 a, .int .i64 b, .int .i64 k, .int .i64 a2, .int .i64 b2])) (fun i _ => ks.length - (intOf i).toNat)
  case atStart => exact ⟨0, Nat.zero_le _, rfl, fun j _ h => absurd h (Nat.not_lt_zero _), HX⟩
  case round =>
    obtain ⟨n, hk, rfl, hok, hX⟩ := hrel
    by_cases hlt : n < ks.length
    · obtain ⟨e0, e1, e2, e3, e4⟩ := HR.out _ hX.out.low n hlt
      have hlt' : (n : Int) < ks.length := by omega
      have hsz := HS.out _ (List.getElem_mem hlt)
      cases ho : ks[n].vB
      · have hE := hid (all_bad hlt ho)
        have HO := hid ho
        generalize ks[n] = q at *
        have HB := hid hX.out.low
        clear ho hok hX
        go_wp2_with fail
        refine (Lt.lvalid_any q.s q.r q.z q.d q.g _ hsz).mono ?_
        rintro e w3 ⟨rfl, hb⟩
        rw [show Lt.validB q.s.data.toList q.r q.z q.d q.g = false from HO.out]
        have HB3 := hid (bstep HB.out HB.out.size (balloc hb))
        clear hb
        go_wp2_with fail
        go_ret
        exact ⟨ret_bool (by rw [hE.out, Bool.false_and]), HB3.out⟩
      · have HST : Hid (∀ j (hj : j < ks.length), j < n + 1 → ks[j].vB = true) := fun j hj h => by
          rcases Nat.lt_or_ge j n with h1 | h1
          · exact hok.out j hj h1
          · obtain rfl : j = n := by omega
            exact ho
        have HO := hid ho
        have HLT := hid hlt
        generalize ks[n] = q at e0 e1 e2 e3 e4 hsz HO
        clear ho hok
        go_wp2_with fail
        refine (Lt.lvalid_any q.s q.r q.z q.d q.g _ hsz).mono ?_
        rintro e w3 ⟨rfl, hb⟩
        rw [show Lt.validB q.s.data.toList q.r q.z q.d q.g = true from HO.out]
        have HX3 := hid (hX.out.keep (balloc hb))
        clear hb e0 e1 e2 e3 e4
        go_wp2_with fail
        go_roundw
        case rel => exact ⟨n + 1, HLT.out, by go_num, HST, HX3⟩
        case measure => have := HLT.out; simp [intOf]; omega
    · obtain rfl : n = ks.length := by omega
      have hE := hid (all_take hok.out rfl)
      obtain ⟨b0, b1, b2', b3, b4, b5, b6⟩ := hX.out.can
      clear hok
      go_wp2_with fail
      refine (vcan_any _ _ _ _ _ _ _ _).mono ?_
      rintro e w3 ⟨rfl, hb⟩
      have HX3 := hid (hX.out.keep hb)
      clear hb b0 b1 b2' b3 b4 b5 b6
      go_wp2_with fail
      go_ret
      exact ⟨ret_bool (by rw [hE.out, Bool.true_and]), HX3.out.low⟩

theorem one_row {W : World} {n : Nat} (t : Int) (T : TypeId) (h : W.heap.size = n) : RowI (W.alloc (.cells #[.int .i64 t] T)) (.slice (some ⟨n, 0, none⟩) 1 1) [t] := by
  subst h
  refine .inr ⟨W.heap.size, 0, 1, rfl, by simp [maxLen], fun k hk => ?_⟩
  obtain rfl : k = 0 := by simp at hk; omega
  exact cell_alloc_new W _ T (0, 0) 0
/-- The error of a can, a killer, a beginning and baths. -/
def chk4 (vc vk : Bool) (t : Int) (l : List Int) : Int := if (vk && vc) = false then 1 else if (okT t && okL l) = false then 7 else if 2000 < l.length then 4 else 0
theorem chk4_no {vc vk : Bool} {t : Int} {l : List Int} (h : (vk && vc) = false) : chk4 vc vk t l = 1 := by unfold chk4; rw [if_pos h]
theorem chk4_far {vc vk : Bool} {t : Int} {l : List Int} (h : (vk && vc) = true) (g : (okT t && okL l) = false) : chk4 vc vk t l = 7 := by unfold chk4; rw [if_neg (by rw [h]; simp), if_pos g]
theorem chk4_long {vc vk : Bool} {t : Int} {l : List Int} (h : (vk && vc) = true) (g : (okT t && okL l) = true) (n : 2000 < l.length) : chk4 vc vk t l = 4 := by unfold chk4; rw [if_neg (by rw [h]; simp), if_neg (by rw [g]; simp), if_pos n]
theorem chk4_ok {vc vk : Bool} {t : Int} {l : List Int} (h : (vk && vc) = true) (g : (okT t && okL l) = true) (n : ¬ 2000 < l.length) : chk4 vc vk t l = 0 := by unfold chk4; rw [if_neg (by rw [h]; simp), if_neg (by rw [g]; simp), if_neg n]
theorem chk4_zero {vc vk : Bool} {t : Int} {l : List Int} (h : chk4 vc vk t l = 0) : vc = true ∧ vk = true ∧ okT t = true ∧ okL l = true ∧ l.length ≤ 2000 := by
  unfold chk4 at h
  split at h
  · cases h
  · split at h
    · cases h
    · split at h
      · cases h
      · rename_i h1 h2 h3
        rw [Bool.not_eq_false, Bool.and_eq_true] at h1 h2
        exact ⟨h1.2, h1.1, h2.1, h2.2, by omega⟩

set_option maxRecDepth 20000 in
set_option maxHeartbeats 4000000 in
theorem pcheck_any (r l a b k a2 b2 : Int) (w : World) (q : Kl) (t : Int) (v : Value) (p : List Int) (hs : q.s.size ≤ maxLen) (hl : RowI w v p) (hpm : p.length ≤ maxLen) :
    Calls Tryz.prog 70 #[.agg #[.int .i64 r, .int .i64 l, .int .i64 a, .int .i64 b, .int .i64 k, .int .i64 a2, .int .i64 b2], .agg #[.string q.s, .int .i64 q.r, .int .i64 q.z, .int .i64 q.d, .int .i64 q.g], .int .i64 t, v] w fun e w' => e = .returned (.int .i64 (chk4 (canB r l a b k a2 b2) q.vB t p)) ∧ Below w.heap.size w w' := by
  have HX := hid (box2_start (w := w) (A := #[.int .i64 r, .int .i64 l, .int .i64 a, .int .i64 b, .int .i64 k, .int .i64 a2, .int .i64 b2]) (B := #[.string q.s, .int .i64 q.r, .int .i64 q.z, .int .i64 q.d, .int .i64 q.g]) (T := 23) (T' := 25) (fz := (0, 0)) (fz' := (0, 0)))
  have HL := hid (fun w1 (g : Below w.heap.size w w1) => hl.keep g)
  obtain ⟨a0, cap, rfl⟩ := hl.shape
  unfold maxLen at hpm
  have HV : Hid (∀ (W : World) (n : Nat), W.heap.size = n → Calls Tryz.prog 27 #[.agg #[.int .i64 r, .int .i64 l, .int .i64 a, .int .i64 b, .int .i64 k, .int .i64 a2, .int .i64 b2], .slice (some ⟨n, 0, none⟩) 1 1] (W.alloc (.cells #[.string q.s, .int .i64 q.r, .int .i64 q.z, .int .i64 q.d, .int .i64 q.g] 25)) fun e w' => e = .returned (.bool (q.vB && canB r l a b k a2 b2)) ∧ Below (W.alloc (.cells #[.string q.s, .int .i64 q.r, .int .i64 q.z, .int .i64 q.d, .int .i64 q.g] 25)).heap.size (W.alloc (.cells #[.string q.s, .int .i64 q.r, .int .i64 q.z, .int .i64 q.d, .int .i64 q.g] 25)) w') := fun W n hn => by
    have := pvalid_any r l a b k a2 b2 (W.alloc (.cells #[.string q.s, .int .i64 q.r, .int .i64 q.z, .int .i64 q.d, .int .i64 q.g] 25)) n 1 [q] (klAt_at q _ _ hn) (by simpa using hs) (by simp)
    simpa using this
  clear hl hs
  cases h1 : (q.vB && canB r l a b k a2 b2)
  · have HE := hid (chk4_no (t := t) (l := p) h1)
    rw [h1] at HV
    clear h1
    go_enter Tryz.func70, Tryz.ntmps70
    go_wp2_with fail
    refine (HV.out _ _ (by simp)).mono ?_
    rintro e w1 ⟨rfl, hb⟩
    have HX := hid (HX.out.keep (balloc hb))
    clear hb
    go_wp2_with fail
    go_ret
    exact ⟨ret_int HE.out.symm, HX.out.low⟩
  rw [h1] at HV
  cases h2 : okT t
  · have HE := hid (chk4_far (t := t) (l := p) h1 (by rw [h2]; rfl))
    have HO := hid (show okL [t] = false by simp [okL, h2])
    clear h1 h2
    go_enter Tryz.func70, Tryz.ntmps70
    go_wp2_with fail
    refine (HV.out _ _ (by simp)).mono ?_
    rintro e w1 ⟨rfl, hb⟩
    have HX := hid (HX.out.keep (balloc hb))
    clear hb
    go_wp2_with fail
    refine (ptemps_any _ _ [t] (one_row _ _ rfl)).mono ?_
    rintro e w2 ⟨rfl, rfl⟩
    rw [HO.out]
    have HX := hid (HX.out.keep ((Below.refl _ _).alloc (Nat.le_refl _) (.cells #[.int .i64 t] 3)))
    go_wp2_with fail
    go_ret
    exact ⟨ret_int HE.out.symm, HX.out.low⟩
  have HO := hid (show okL [t] = true by simp [okL, h2])
  cases h3 : okL p
  · have HE := hid (chk4_far (t := t) (l := p) h1 (by rw [h3, Bool.and_false]))
    have HO3 := hid h3
    clear h1 h2 h3
    go_enter Tryz.func70, Tryz.ntmps70
    go_wp2_with fail
    refine (HV.out _ _ (by simp)).mono ?_
    rintro e w1 ⟨rfl, hb⟩
    have HX := hid (HX.out.keep (balloc hb))
    clear hb
    go_wp2_with fail
    refine (ptemps_any _ _ [t] (one_row _ _ rfl)).mono ?_
    rintro e w2 ⟨rfl, rfl⟩
    rw [HO.out]
    have HX := hid (HX.out.keep ((Below.refl _ _).alloc (Nat.le_refl _) (.cells #[.int .i64 t] 3)))
    go_wp2_with fail
    refine (ptemps_any _ _ p (HL.out _ HX.out.low)).mono ?_
    rintro e w3 ⟨rfl, rfl⟩
    rw [HO3.out]
    go_wp2_with fail
    go_ret
    exact ⟨ret_int HE.out.symm, HX.out.low⟩
  have h23 : (okT t && okL p) = true := by rw [h2, h3]; rfl
  have HO3 := hid h3
  by_cases h4 : 2000 < p.length
  · have HE := hid (chk4_long (t := t) (l := p) h1 h23 h4)
    have h4' : decide (2000 < (p.length : Int)) = true := by simp; omega
    clear h1 h2 h3 h23
    go_enter Tryz.func70, Tryz.ntmps70
    go_wp2_with fail
    refine (HV.out _ _ (by simp)).mono ?_
    rintro e w1 ⟨rfl, hb⟩
    have HX := hid (HX.out.keep (balloc hb))
    clear hb
    go_wp2_with fail
    refine (ptemps_any _ _ [t] (one_row _ _ rfl)).mono ?_
    rintro e w2 ⟨rfl, rfl⟩
    rw [HO.out]
    have HX := hid (HX.out.keep ((Below.refl _ _).alloc (Nat.le_refl _) (.cells #[.int .i64 t] 3)))
    go_wp2_with fail
    refine (ptemps_any _ _ p (HL.out _ HX.out.low)).mono ?_
    rintro e w3 ⟨rfl, rfl⟩
    rw [HO3.out]
    go_wp2_with fail
    go_ret
    exact ⟨ret_int HE.out.symm, HX.out.low⟩
  · have HE := hid (chk4_ok (t := t) (l := p) h1 h23 h4)
    have h4' : decide (2000 < (p.length : Int)) = false := by simp; omega
    clear h1 h2 h3 h23
    go_enter Tryz.func70, Tryz.ntmps70
    go_wp2_with fail
    refine (HV.out _ _ (by simp)).mono ?_
    rintro e w1 ⟨rfl, hb⟩
    have HX := hid (HX.out.keep (balloc hb))
    clear hb
    go_wp2_with fail
    refine (ptemps_any _ _ [t] (one_row _ _ rfl)).mono ?_
    rintro e w2 ⟨rfl, rfl⟩
    rw [HO.out]
    have HX := hid (HX.out.keep ((Below.refl _ _).alloc (Nat.le_refl _) (.cells #[.int .i64 t] 3)))
    go_wp2_with fail
    refine (ptemps_any _ _ p (HL.out _ HX.out.low)).mono ?_
    rintro e w3 ⟨rfl, rfl⟩
    rw [HO3.out]
    go_wp2_with fail
    go_ret
    exact ⟨ret_int HE.out.symm, HX.out.low⟩
end Go.Proofs.YtihbjimnjhfpeaaGreat

/- Walk of Table of package lethal: contracts. -/
namespace Go.Proofs.YtihbjimnjhfpeaaGreat.Lt
open Go.RowKit Go.Lib Go.Maps

/-- What Table works on behind k rates: the rates at L (their map at mb). -/
structure LT (s : ByteArray) (r : Int) (Z : Nat) (d g : Int) (L mb : Nat) (w : World) (k : Nat) (wr : World) : Prop where
  box : Box6 wr L s r Z d g mb
  map : MapI r Z wr mb k
  lt : mb < L
  ge : w.heap.size ≤ mb
  low : Below w.heap.size w wr
theorem LT.grown {s : ByteArray} {r : Int} {Z : Nat} {d g : Int} {L mb : Nat} {w : World} {k : Nat} {wr w1 : World} {row : Option Nat} (h : LT s r Z d g L mb w k wr) (hg : wr.grownBy w1 row) (hr : ∀ j, row = some j → L < j) : LT s r Z d g L mb w k w1 := by
  have h1 := h.lt; have h2 := h.ge
  exact ⟨h.box.grown hg (fun e => by have := hr _ e.symm; omega), h.map.kept hg (fun e => by have := hr _ e.symm; omega), h1, h2, h.low.grown hg h.low.size (fun j hj => by have := hr j hj; omega)⟩
theorem LT.append {s : ByteArray} {r : Int} {Z : Nat} {d g : Int} {L mb : Nat} {w : World} {k : Nat} {wr w1 : World} {v : Value} {l : List Nat} {o : Obj} (h : LT s r Z d g L mb w k wr) (hv : RowV wr (L + 1) v l) (hg : (wr.alloc o).grownBy w1 v.ownBlock) : LT s r Z d g L mb w k w1 :=
  (h.grown (World.grownBy_alloc wr o none) (fun k hk => by cases hk)).grown hg (fun k hk => (World.ownsRow.lt hv k hk).1)
theorem LT.call {s : ByteArray} {r : Int} {Z : Nat} {d g : Int} {L mb : Nat} {w : World} {k : Nat} {wr w1 : World} (h : LT s r Z d g L mb w k wr) (hg : wr.grownBy w1 (some mb)) (hm : MapI r Z w1 mb (k + 1)) : LT s r Z d g L mb w (k + 1) w1 := by
  have h1 := h.lt; have h2 := h.ge
  exact ⟨h.box.grown hg (fun e => by cases e; omega), hm, h1, h2, h.low.grown hg h.low.size (fun j hj => by cases hj; omega)⟩
theorem RowV.past {w w1 : World} {L mb : Nat} {v : Value} {l : List Nat} (h : RowV w (L + 1) v l) (hg : w.grownBy w1 (some mb)) (hlt : mb < L) : RowV w1 (L + 1) v l :=
  World.ownsRow.kept h hg (.inr fun e => by have := (World.ownsRow.lt h _ e).1; omega)
theorem lt_start {w w1 w2 : World} {s : ByteArray} {r : Int} {Z : Nat} {d g : Int} {mb : Nat} {T : TypeId} (hm : MapI r Z w2 mb 0) (hB : Below w.heap.size w w1) (hb : Below w1.heap.size w1 w2) (hmb : w1.heap.size ≤ mb) :
    LT s r Z d g w2.heap.size mb w 0 (w2.alloc (.cells #[.string s, .int .i64 r, .int .i64 Z, .int .i64 d, .int .i64 g, .map (some mb)] T)) := by
  have hb2 : Below w2.heap.size w2 (w2.alloc (.cells #[.string s, .int .i64 r, .int .i64 Z, .int .i64 d, .int .i64 g, .map (some mb)] T)) := (Below.refl _ _).alloc (Nat.le_refl _) _
  have hlt := hm.lt
  have h1 := hB.size
  have h2 := hb.size
  refine ⟨⟨?_, ?_, ?_, ?_, ?_, ?_, by simp⟩, hm.below hb2, hlt, by omega, (hB.trans (hb.mono h1)).trans (hb2.mono (by omega))⟩ <;> rw [cell_alloc_new] <;> rfl

theorem alloc_size (w : World) (o : Obj) : (w.alloc o).heap.size = w.heap.size + 1 := by simp

set_option maxRecDepth 20000 in
set_option maxHeartbeats 4000000 in
theorem lTable_ok (s : ByteArray) (r d g lo : Int) (Z n : Nat) (w : World) (hs : s.size ≤ maxLen) (hv : validB s.data.toList r Z d g = true)
    (l1 : -1000 ≤ lo) (l2 : lo + n ≤ 2000) (hn : n ≤ 1000) :
    Calls Tryz.prog 112 #[.agg #[.string s, .int .i64 r, .int .i64 Z, .int .i64 d, .int .i64 g], .int .i64 lo, .int .i64 (lo + n)] w (TableP r Z lo (n + 1) w) := by
  obtain ⟨_, ⟨r1, r2⟩, ⟨z1, z2⟩, _, _⟩ := validB_iff.1 hv
  obtain ⟨i0, hi, hz0, hz1, hz2⟩ := info_parts info_int
  have h1 : (decide (-1000 ≤ lo) && decide (lo ≤ 2000)) = true := by simp; omega
  have h2 : (decide (lo ≤ lo + (n : Int)) && decide (lo + (n : Int) ≤ 2000)) = true := by simp; omega
  have h4 : lo + (n : Int) - lo = n := by omega
  go_enter Tryz.func112, Tryz.ntmps112
  go_wp2_with (first
    | (go_at_call 65; refine (lvalid_any _ _ _ _ _ _ hs).mono ?_; rintro e w1 ⟨rfl, hb⟩; obtain ⟨b0, b1, b2, b3, b4, hz, hB⟩ := box5_below hb; clear hb)
    | (go_at_call 104; refine (within_any _ _ _ _).mono ?_; rintro e w1 ⟨rfl, rfl⟩)
    | (go_at_call 110; refine (ratesOf_any _ _ _ _ _ _ hs).mono ?_; rintro e w2 ⟨mb, rfl, hmb, hb2, hM⟩; have HS := hid (lt_start (T := 155) (s := s) (d := d) (g := g) (hM Z) hB hb2 hmb); clear hM hb2)
    | (at_make; refine wpList_make_own _ rfl _ _ 28 rfl (w2.heap.size + 1) 3 i0 (.int .i64 0) 1 Tryz.underlying28 hi hz0 hz1 _ _ _ (n + 1) rfl rfl (by omega) (by rw [hz2]; omega) (by unfold maxLen; omega) (by simp) ?_; intro w0 hown0 hgrow0))
  have HS0 := hid (HS.out.grown hgrow0 (fun j hj => by cases hj))
  rw [alloc_size] at hown0
  have HR0 := hid hown0
  clear hgrow0 HS b0 b1 b2 b3 b4 hown0
  generalize hL : w2.heap.size = L at HS0 HR0 ⊢
  clear hL
  go_loopw [9, 10] (fun v t wr => ∃ k : Nat, k ≤ n + 1 ∧ t = .int .i64 (lo + k) ∧ RowV wr (L + 1) v (ratesL r Z lo k) ∧ Hid (LT s r Z d g L mb w k wr)) (fun _ t _ => (n + 1) - (intOf t - lo).toNat)
  case atStart => exact ⟨0, Nat.zero_le _, by simp, HR0.out, HS0⟩
  case round =>
    obtain ⟨k, hk, rfl, hrow, hK⟩ := hrel
    obtain ⟨b0, b1, b2, b3, b4, b5, hzL⟩ := hK.out.box
    have hlen := ratesL_len r Z lo k
    have hmL := hK.out.lt
    by_cases hlt : k ≤ n
    · have hle : lo + (k : Int) ≤ lo + n := by omega
      have hx := Pm.rateD_le r Z (lo + k) z1
      obtain ⟨x, hX⟩ : ∃ x, x = Pm.rateD r Z (lo + k) := ⟨_, rfl⟩
      rw [← hX] at hx
      have HX := hid hX; clear hX
      go_wp2_with (first
        | (go_at_call 144; refine (down_any _ _ _ _ (lo + k) Z mb k _ r1 r2 (by omega) (by omega) (by omega) (by omega) (by omega) hK.out.map).mono ?_; rintro e w3 ⟨rfl, hg3, hM3⟩; rw [← HX.out]; have hrow2 := RowV.past hrow hg3 hmL; have HK2 := hid (LT.call hK.out hg3 hM3); have hs2 := Nat.lt_of_lt_of_le hzL hg3.size; clear hg3 hM3)
        | (at_builtin; refine wpList_append_own _ rfl _ _ 28 rfl (L + 1) 3 i0 (.int .i64 0) 1 8 Tryz.underlying28 hi hz0 hz1 hz2 rfl (by decide) _ _ _ rfl (World.ownsRow.alloc hrow2 _) ⟨w3.heap.size, 0, none⟩ 1 1 [.int .i64 (x : Int)] rfl rfl cell_one_at one_cell (by unfold maxLen; omega) (by omega) (by simp; omega) ?_; intro v1 w4 hown4 hgrow4 _))
      go_roundw
      case rel => exact ⟨k + 1, by omega, by go_num, by rw [ratesL_succ, ← HX.out]; exact row_append rfl hown4, HK2.out.append hrow2 hgrow4⟩
      case measure => simp [intOf]; omega
    · obtain rfl : k = n + 1 := by omega
      have hgt : ¬ lo + ((n + 1 : Nat) : Int) ≤ lo + n := by omega
      go_wp2
      go_ret2
      exact ⟨_, rfl, hrow.reads, hK.out.low⟩
end Go.Proofs.YtihbjimnjhfpeaaGreat.Lt

/- Walks of Table of both where there is none: contracts. -/
namespace Go.Proofs.YtihbjimnjhfpeaaGreat.Lt
open Go.RowKit Go.Lib

def tabB (lo hi : Int) : Bool := decide (-1000 ≤ lo) && decide (lo ≤ 2000) && (decide (lo ≤ hi) && decide (hi ≤ 2000)) && decide (hi - lo ≤ 1000)
def tabE (v : Bool) : Int := if v then 7 else 1

theorem RowR.shape {w : World} {v : Value} {l : List Nat} (h : RowR w v l) (hl : l ≠ []) : ∃ g cap, v = .slice (some ⟨g, 0, none⟩) l.length cap ∧ ∀ k (h : k < l.length), w.cell? ⟨g, k, none⟩ = some (.int .i64 (l[k] : Nat)) := by
  rcases h with ⟨_, h⟩ | h
  · exact absurd h hl
  · exact h
end Go.Proofs.YtihbjimnjhfpeaaGreat.Lt

/- Walks of a meter's rate function and of meterDown: contracts. -/
namespace Go.Proofs.YtihbjimnjhfpeaaGreat
open Go.RowKit Go.Lib Go.Maps

/-- The map of a meter, as it reads: f of lo, lo + 1, .. -/
def MapT (f : Int → Nat) (lo : Int) (n : Nat) (w : World) (b : Nat) : Prop :=
  ∃ D : DataW Unit, w.ownsMap Tryz.prog 3 (plainElem Tryz.prog 3) b n D ∧ IsMap D ∧ ∀ j, j < n → D.atKey (.int .i64 (lo + (j : Nat))) (.lit (.int .i64 0)) = .lit (.int .i64 (f (lo + (j : Nat)) : Nat))
theorem MapT.kept {f : Int → Nat} {lo : Int} {n b : Nat} {w w' : World} {row : Option Nat} (h : MapT f lo n w b) (hg : w.grownBy w' row) (hne : some b ≠ row) : MapT f lo n w' b := by
  obtain ⟨D, h1, h2⟩ := h
  exact ⟨D, h1.kept hg hne, h2⟩
theorem MapT.lt {f : Int → Nat} {lo : Int} {n b : Nat} {w : World} (h : MapT f lo n w b) : b < w.heap.size := by
  obtain ⟨D, h1, _⟩ := h
  exact h1.lt
theorem MapT.isMap {f : Int → Nat} {lo : Int} {n b : Nat} {w : World} (h : MapT f lo n w b) : ∃ o : Obj, w.heap[b]? = some o ∧ o.isCells = false := by
  obtain ⟨D, ⟨es, clock, h1, _⟩, _⟩ := h
  exact ⟨_, h1, rfl⟩
theorem mapT_made (f : Int → Nat) (lo : Int) (w : World) : MapT f lo 0 (w.alloc (.map #[] 0)) w.heap.size :=
  ⟨.map [], World.ownsMap_made _ _ _ _, isMap_empty, fun _ h => absurd h (Nat.not_lt_zero _)⟩
theorem mapT_put {f : Int → Nat} {lo : Int} {n b : Nat} {w : World} {D : DataW Unit} (hD : IsMap D) (hj : ∀ j, j < n → D.atKey (.int .i64 (lo + (j : Nat))) (.lit (.int .i64 0)) = .lit (.int .i64 (f (lo + (j : Nat)) : Nat)))
    (h : w.ownsMap Tryz.prog 3 (plainElem Tryz.prog 3) b (n + 1) (D.put (.int .i64 (lo + (n : Nat))) (.lit (.int .i64 (f (lo + (n : Nat)) : Nat))))) : MapT f lo (n + 1) w b := by
  refine ⟨_, h, hD.put _ _, fun j hlt => ?_⟩
  by_cases e : j = n
  · subst e
    exact atKey_put_same hD (by constructor) _ _
  · have hne : (Lit.int .i64 (lo + (j : Nat))) ≠ .int .i64 (lo + (n : Nat)) := by
      intro he; injection he with _ he; omega
    rw [atKey_put_other hne]
    exact hj j (by omega)
/-- The look-up of a quarter that the map has. -/
theorem MapT.run {f : Int → Nat} {lo q : Int} {n b : Nat} {w : World} (h : MapT f lo n w b) (h1 : lo ≤ q) (h2 : q < lo + n) (b1 : -1000000 ≤ q) (b2 : q ≤ 1000000) :
    (Instr.lookup 121 (.map (some b)) (.int .i64 q) false).run Tryz.prog w = .ok (.int .i64 (f q : Nat)) w := by
  obtain ⟨D, h3, _, h4⟩ := h
  obtain ⟨c, hrun, hat, _⟩ := h3.lookup_int Lt.law_int Tryz.underlying121 Tryz.underlying3 (Lt.zero_int _) (Lt.key_int (t := q) (by omega) (by omega))
  have h5 := h4 (q - lo).toNat (by omega)
  have e : lo + ((q - lo).toNat : Nat) = q := by omega
  rw [e] at h5
  rw [h5] at hat
  have : c = (f q : Nat) := by simpa using hat.symm
  rw [hrun, this]

set_option maxRecDepth 20000 in
set_option maxHeartbeats 2000000 in
theorem rate1_any (f : Int → Nat) (lo t : Int) (n kb mb : Nat) (w : World) (hk : w.cell? ⟨kb, 0, none⟩ = some (.map (some mb))) (hm : MapT f lo n w mb) (h1 : lo ≤ t / 250) (h2 : t / 250 < lo + n) (b1 : -50000 ≤ t) (b2 : t ≤ 200000) :
    Calls Tryz.prog 113 #[.int .i64 t, .pointer (some ⟨kb, 0, none⟩)] w fun e w' => e = .returned (.int .i64 (f (t / 250) : Nat)) ∧ ∃ n, w' = w.drewN n := by
  have hr := hm.run h1 h2 (by omega) (by omega)
  have hr' : (Instr.lookup 121 (.map (some mb)) (.int .i64 (t / 250)) false).run Tryz.prog w.drew = .ok (.int .i64 (f (t / 250) : Nat)) w.drew := MapT.run (w := w.drew) hm h1 h2 (by omega) (by omega)
  clear hm hr h1 h2
  obtain ⟨qq, hqq⟩ : ∃ q : Int, q = t / 250 := ⟨_, rfl⟩
  rw [← hqq] at hr' ⊢
  have HQ := hid hqq
  clear hqq
  go_enter Tryz.func113, Tryz.ntmps113
  go_wp2
  go_region_held3 (fun w' => w'.cell? ⟨kb, 0, none⟩ = some (.map (some mb)) ∧ (Instr.lookup 121 (.map (some mb)) (.int .i64 qq) false).run Tryz.prog w' = .ok (.int .i64 (f qq : Nat)) w')
    (first | exact ⟨hk, hr'⟩ | assumption)
    (first
      | (go_at_call 108; refine (Lt.lQuarter_any t _ (by omega) (by omega)).mono ?_; rintro e w1 ⟨rfl, rfl⟩; rw [← HQ.out]))
  go_wp2
  go_ret
  exact ⟨rfl, 1, rfl⟩
end Go.Proofs.YtihbjimnjhfpeaaGreat

/- A drawn region whose last operation waits for all others (a store behind loads of the same cell, behind calls that make memory): the others are walked held by S, then that one comes: own law. -/
namespace Go.Proofs.YtihbjimnjhfpeaaGreat
open Go

section
variable {P : Program} {md : Region.Mode} {ops : Array Oper} {Q : Exit → Act → World → Prop} {S : World → Prop} {n : Nat}
/-- Behind the others: what the last operation asks for; at any other exit: what was asked for. -/
def sinkQ (P : Program) (ops : Array Oper) (Q : Exit → Act → World → Prop) (n : Nat) : Exit → Act → World → Prop
  | .normal, a, w => wpOp P ops Q n (fun a' w' => Q .normal a' w') a w
  | e, a, w => Q e a w
theorem sink_wp {o : Oper} {a : Act} {w : World} {K : Act → World → Prop} (h : Oper.wp P o a w K (sinkQ P ops Q n)) : Oper.wp P o a w K Q := by
  unfold Oper.wp at *
  generalize (execOp a.eval o).run P w = r at *
  cases r with
  | ok x w' =>
    cases x with
    | enter f args => exact Calls.mono h (fun e w'' he => by cases e <;> exact he)
    | _ => exact h
  | halt x w' => cases x <;> exact h
theorem sink_op {i : Nat} {a : Act} {w : World} {K : Act → World → Prop} (h : wpOp P ops (sinkQ P ops Q n) i K a w) : wpOp P ops Q i K a w := by
  unfold wpOp at *
  split
  · rename_i ho; simpa [ho] using h
  · rename_i o ho
    simp only [ho] at h
    split
    · rename_i hw
      simp only [hw, if_true] at h
      exact h.imp sink_wp (fun g => ⟨g.1, g.2⟩)
    · rename_i hw; simpa [hw] using h
theorem any_done {fuel : Nat} {listed : Array Bool} {a : Act} {w : World} (hr : Region.ready md ops listed = []) (h : Q .normal a w) : wpAny P md ops Q fuel listed a w := by
  cases fuel with
  | zero => exact ⟨hr, h⟩
  | succ fuel => exact ⟨fun _ => h, fun i hi => by rw [hr] at hi; cases hi⟩
theorem getD_more {listed : Array Bool} {n k : Nat} {d : Bool} (h : listed.getD k d = true) : (listed.setIfInBounds n true).getD k d = true := by
  by_cases e : n = k
  · subst e
    simp only [Array.getD_eq_getD_getElem?, Array.getElem?_setIfInBounds_self] at *
    split <;> simp_all
  · simpa [Array.getD_eq_getD_getElem?, Array.getElem?_setIfInBounds_ne e] using h
theorem getD_less {listed : Array Bool} {n k : Nat} {d : Bool} (hk : n ≠ k) : (listed.setIfInBounds n true).getD k d = listed.getD k d := by
  simp [Array.getD_eq_getD_getElem?, Array.getElem?_setIfInBounds_ne hk]
/-- The last one waits for every other. -/
def sinkB (md : Region.Mode) (ops : Array Oper) (n : Nat) : Bool :=
  (List.range ops.size).all fun j => decide (j = n) || match ops[n]? with | some o => o.after.any fun e => Region.binds md e && decide (e.on = j) | none => false
theorem sinkB_spec (h : sinkB md ops n = true) {o : Oper} (ho : ops[n]? = some o) {j : Nat} (hj : j < ops.size) (hne : j ≠ n) : ∃ e ∈ o.after, Region.binds md e = true ∧ e.on = j := by
  unfold sinkB at h
  rw [List.all_eq_true] at h
  have h1 := h j (List.mem_range.2 hj)
  rw [decide_eq_false hne, Bool.false_or, ho] at h1
  obtain ⟨e, he, hb⟩ := Array.any_eq_true'.1 h1
  simp only [Bool.and_eq_true, decide_eq_true_iff] at hb
  exact ⟨e, he, hb.1, hb.2⟩
theorem ready_less {listed : Array Bool} {i : Nat} (hi : i ∈ Region.ready md ops listed) (hne : i ≠ n) : i ∈ Region.ready md ops (listed.setIfInBounds n true) := by
  obtain ⟨h1, o, ho, h2⟩ := mem_ready.1 hi
  exact mem_ready.2 ⟨by rw [getD_less (Ne.symm hne)]; exact h1, o, ho, fun e he hb => getD_more (h2 e he hb)⟩
theorem ready_sink (hs : sinkB md ops n = true) {listed : Array Bool} (hsz : listed.size = ops.size) (hn : n ∈ Region.ready md ops listed) : Region.ready md ops (listed.setIfInBounds n true) = [] := by
  rw [List.eq_nil_iff_forall_not_mem]
  intro j hj
  obtain ⟨g1, oj, hoj, _⟩ := mem_ready.1 hj
  obtain ⟨h1, o, ho, h2⟩ := mem_ready.1 hn
  have hjs : j < ops.size := (Array.getElem?_eq_some_iff.1 hoj).1
  have hns : n < ops.size := (Array.getElem?_eq_some_iff.1 ho).1
  by_cases e : j = n
  · subst e
    simp [Array.getD_eq_getD_getElem?, hsz, hns] at g1
  · obtain ⟨ed, he, hb, rfl⟩ := sinkB_spec hs ho hjs e
    rw [getD_less (Ne.symm e)] at g1
    have h3 := h2 ed he hb
    simp [Array.getD_eq_getD_getElem?, hsz, hjs] at g1 h3
    rw [g1] at h3
    cases h3
/-- Nobody waits for a later one. -/
def foreB (md : Region.Mode) (ops : Array Oper) : Bool := (List.range ops.size).all fun j => match ops[j]? with | some o => o.after.all fun e => !Region.binds md e || decide (e.on < j) | none => true
theorem ready_nil (hf : foreB md ops = true) {listed : Array Bool} (hsz : listed.size = ops.size) (hr : Region.ready md ops listed = []) : ∀ j, j < ops.size → listed.getD j true = true := by
  intro j
  induction j using Nat.strongRecOn with
  | ind j ih =>
    intro hj
    cases hl : listed.getD j true with
    | true => rfl
    | false =>
      exfalso
      have ho : ops[j]? = some ops[j] := Array.getElem?_eq_getElem hj
      have hm : j ∈ Region.ready md ops listed := mem_ready.2 ⟨hl, _, ho, fun e he hb => by
        unfold foreB at hf
        rw [List.all_eq_true] at hf
        have h1 := hf j (List.mem_range.2 hj)
        rw [ho] at h1
        have h2 := Array.all_eq_true'.1 h1 e he
        rw [hb] at h2
        have h3 : e.on < j := by simpa using h2
        have h4 := ih e.on h3 (by omega)
        simp only [Array.getD_eq_getD_getElem?, Array.getElem?_eq_getElem (show e.on < listed.size by omega), Option.getD_some] at h4 ⊢
        exact h4⟩
      rw [hr] at hm
      cases hm
theorem any_sink (hf : foreB md ops = true) (hs : sinkB md ops n = true) : ∀ (fuel : Nat) (listed : Array Bool) (a : Act) (w : World), listed.size = ops.size → n < ops.size → listed.getD n true = false →
    wpAnyH P md ops (sinkQ P ops Q n) S fuel (listed.setIfInBounds n true) a w → wpAny P md ops Q (fuel + 1) listed a w := by
  intro fuel
  induction fuel with
  | zero =>
    intro listed a w hsz hns hnl H
    have last : n ∈ Region.ready md ops listed → wpOp P ops Q n (wpAny P md ops Q 0 (listed.setIfInBounds n true)) a w := fun hn =>
      wpOp_mono (fun a' w' h => any_done (ready_sink hs hsz hn) h) (show wpOp P ops Q n (fun a' w' => Q .normal a' w') a w from H.2)
    refine ⟨fun hr => ?_, fun i hi => ?_⟩
    · have := ready_nil hf hsz hr n hns
      rw [hnl] at this
      cases this
    · by_cases e : i = n
      · subst e; exact last hi
      · have := ready_less hi e
        rw [H.1] at this
        cases this
  | succ fuel ih =>
    intro listed a w hsz hns hnl H
    refine ⟨fun hr => ?_, fun i hi => ?_⟩
    · have := ready_nil hf hsz hr n hns
      rw [hnl] at this
      cases this
    · by_cases e : i = n
      · subst e
        have hr := ready_sink hs hsz hi
        exact wpOp_mono (fun a' w' h => any_done hr h) (show wpOp P ops Q i (fun a' w' => Q .normal a' w') a w from H.1 hr)
      · refine wpOp_mono (fun a' w' h => ih (listed.setIfInBounds i true) a' w' (by simpa using hsz) hns (by rw [getD_less e]; exact hnl) ?_) (sink_op (H.2 i (ready_less hi e)))
        rw [Array.setIfInBounds_comm _ _ e]
        exact h.2
theorem sink_last {o : Oper} {a : Act} {w : World} (ho : ops[n]? = some o)
    (h : ∀ K' : Act → World → Prop, Shut (∀ a w, Q .normal a w → K' a w) → if Region.wanted o (yielded ops a.tmps) = true then Oper.wp P o a w K' Q else K' (a.put o.dst undef) w) : sinkQ P ops Q n .normal a w :=
  wpOp_step ho (fun K' hK => h K' hK)
/-- At a region of one operation more: the others are walked from the beginning, the last one counted as if it had come. -/
theorem wp_region_sink (n : Nat) {id : Nat} {a : Act} {w : World} (hm : P.follows .mixedOrders = true) (hz : ops.size = n + 1) (hf : foreB .any ops = true) (hs : sinkB .any ops n = true) (hS : S w.drew)
    (h : S w.drew → wpAnyH P .any ops (sinkQ P ops Q n) S n ((Array.replicate ops.size false).setIfInBounds n true) a w.drew) : (Code.region id ops true).wp P Q a w := by
  refine wp_region_any hm ?_
  have hg : (Array.replicate ops.size false).getD n true = false := by simp [Array.getD_eq_getD_getElem?, hz]
  have := any_sink (P := P) (Q := Q) (S := S) hf hs n (Array.replicate ops.size false) a w.drew (by simp) (by omega) hg (h hS)
  rw [← hz] at this
  exact this
end
end Go.Proofs.YtihbjimnjhfpeaaGreat
