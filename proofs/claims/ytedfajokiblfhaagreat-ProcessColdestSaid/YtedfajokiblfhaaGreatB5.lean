/- Texts of this seat, one behind the other. -/
import Derived.Test.YtedfajokiblfhaaGreatB4
import Derived.Test.YtedfajokiblfhaaGreatB3
import Derived.Maps.OwnSet
import Derived.Maps.OwnOps
import Derived.Maps.Views
import Derived.Test.YtedfajokiblfhaaGreatB1
/- Walks of the rates of package lethal: exponent, digits, down: contracts. -/
namespace Go.Proofs.YtedfajokiblfhaaGreat.Lt
open Go.RowKit Go.Lib Go.Maps

theorem box6_below {w w1 : World} {c0 c1 c2 c3 c4 c5 : Value} {T : TypeId} {fz : Nat × Nat} (hb : Below (w.alloc (.cells #[c0, c1, c2, c3, c4, c5] T fz)).heap.size (w.alloc (.cells #[c0, c1, c2, c3, c4, c5] T fz)) w1) :
    w1.cell? ⟨w.heap.size, 0, none⟩ = some c0 ∧ w1.cell? ⟨w.heap.size, 1, none⟩ = some c1 ∧ w1.cell? ⟨w.heap.size, 2, none⟩ = some c2 ∧ w1.cell? ⟨w.heap.size, 3, none⟩ = some c3 ∧ w1.cell? ⟨w.heap.size, 4, none⟩ = some c4 ∧ w1.cell? ⟨w.heap.size, 5, none⟩ = some c5 ∧ w.heap.size < w1.heap.size ∧ Below w.heap.size w w1 := by
  obtain ⟨hc, _⟩ := bcell hb
  have hz : w.heap.size < (w.alloc (.cells #[c0, c1, c2, c3, c4, c5] T fz)).heap.size := by simp
  refine ⟨?_, ?_, ?_, ?_, ?_, ?_, Nat.lt_of_lt_of_le hz hb.size, balloc hb⟩ <;> rw [hc _ _ hz, cell_alloc_new] <;> rfl

set_option maxHeartbeats 1000000 in
theorem exponent_any (s : ByteArray) (r z d g : Int) (mb : Nat) (w : World) (t : Int) (hr1 : -200 ≤ r) (hr2 : r ≤ 800) (hz1 : 1 ≤ z) (hz2 : z ≤ 60) (ht1 : -100000 ≤ t) (ht2 : t ≤ 100000) :
    Calls Tryz.prog 137 #[.agg #[.string s, .int .i64 r, .int .i64 z, .int .i64 d, .int .i64 g, .map (some mb)], .int .i64 t] w fun e w' => e = .returned (.int .i64 (Pm.expo r z t)) ∧ Below w.heap.size w w' := by
  by_cases h : t - r ≤ 10 * z
  · have he : Hid (Pm.expo r z t = 6 * z + (t - r)) := by unfold Pm.expo Hid; omega
    go_enter Tryz.func137, Tryz.ntmps137
    go_wp2
    go_ret
    exact ⟨ret_int he.out.symm, (Below.refl _ _).alloc (Nat.le_refl _) _⟩
  · have he : Hid (Pm.expo r z t = 6 * z + 10 * z) := by unfold Pm.expo Hid; omega
    go_enter Tryz.func137, Tryz.ntmps137
    go_wp2
    go_ret
    exact ⟨ret_int he.out.symm, (Below.refl _ _).alloc (Nat.le_refl _) _⟩

theorem law_int : Keyed Tryz.prog 3 := int_keyed Tryz.underlying3
theorem zero_int (w : World) : (zeroValue 3).run Tryz.prog w = .ok (.int .i64 0) w := by kernel_rfl
theorem key_int {t : Int} (h1 : -9000000000000000000 ≤ t) (h2 : t ≤ 9000000000000000000) : keyOf Tryz.prog 3 (.int .i64 t) = some (.int .i64 t) := keyOf_int_mk Tryz.underlying3 (WalkArith.wf_i64 (by omega))

/-- The map of known roots, as it reads. -/
def GoodM (r : Int) (Z : Nat) (D : DataW Unit) : Prop := IsMap D ∧ ∀ p : Nat, p < Z → Maps.has D (.int .i64 (r + 9 * (Z : Int) + p)) = true → D.atKey (.int .i64 (r + 9 * (Z : Int) + p)) (.lit (.int .i64 0)) = .lit (.int .i64 (Pm.rootN (15 * Z + p) Z : Nat))
theorem goodM_empty (r : Int) (Z : Nat) : GoodM r Z (.map []) := ⟨isMap_empty, fun p _ h => by simp [Maps.has] at h⟩
theorem GoodM.put {r : Int} {Z : Nat} {D : DataW Unit} (h : GoodM r Z D) (p : Nat) : GoodM r Z (D.put (.int .i64 (r + 9 * (Z : Int) + p)) (.lit (.int .i64 (Pm.rootN (15 * Z + p) Z : Nat)))) := by
  refine ⟨h.1.put _ _, fun q hq hh => ?_⟩
  by_cases e : q = p
  · subst e
    exact atKey_put_same h.1 (by constructor) _ _
  · have hne : (Lit.int .i64 (r + 9 * (Z : Int) + q)) ≠ .int .i64 (r + 9 * (Z : Int) + p) := by
      intro he; injection he with _ he; omega
    rw [atKey_put_other hne]
    rw [has_put_other hne] at hh
    exact h.2 q hq hh
/-- The map of known roots in block b, with at most n entries. -/
def MapI (r : Int) (Z : Nat) (w : World) (b n : Nat) : Prop := ∃ D : DataW Unit, w.ownsMap Tryz.prog 3 (plainElem Tryz.prog 3) b n D ∧ GoodM r Z D
theorem MapI.kept {r : Int} {Z : Nat} {w w' : World} {b n : Nat} {row : Option Nat} (h : MapI r Z w b n) (hg : w.grownBy w' row) (hne : some b ≠ row) : MapI r Z w' b n := by
  obtain ⟨D, h1, h2⟩ := h
  exact ⟨D, h1.kept hg hne, h2⟩
theorem MapI.below {r : Int} {Z : Nat} {w w' : World} {b n : Nat} (h : MapI r Z w b n) (hb : Below w.heap.size w w') : MapI r Z w' b n :=
  h.kept (row := none) ⟨hb.os, hb.tape, hb.output, hb.size, fun j hj _ => hb.block j hj⟩ (by simp)
theorem MapI.lt {r : Int} {Z : Nat} {w : World} {b n : Nat} (h : MapI r Z w b n) : b < w.heap.size := by
  obtain ⟨D, h1, _⟩ := h
  exact h1.lt
/-- What digits and down hand back. -/
def RateP (v : Nat) (r : Int) (Z mb n : Nat) (w : World) (e : Ending) (w' : World) : Prop := e = .returned (.int .i64 v) ∧ w.grownBy w' (some mb) ∧ MapI r Z w' mb (n + 1)

theorem gbelow {a b : World} {row : Option Nat} (h : Below a.heap.size a b) : a.grownBy b row := ⟨h.os, h.tape, h.output, h.size, fun k hk _ => h.block k hk⟩

theorem omap_below {H : Type} {P : Program} {k : TypeId} {R : Value → Option (DataW H × List MemPlace)} {w w1 : World} {b n : Nat} {D : DataW H} (h : w.ownsMap P k R b n D) (hb : Below w.heap.size w w1) : w1.ownsMap P k R b n D :=
  h.kept (row := none) (gbelow hb) (by simp)
theorem omap_alloc {H : Type} {P : Program} {k : TypeId} {R : Value → Option (DataW H × List MemPlace)} {w w1 : World} {o : Obj} {b n : Nat} {D : DataW H} (h : w.ownsMap P k R b n D) (hb : Below (w.alloc o).heap.size (w.alloc o) w1) : w1.ownsMap P k R b n D :=
  omap_below (h.alloc o) hb

set_option maxHeartbeats 2000000 in
theorem digits_any (s : ByteArray) (r d g : Int) (Z p mb n : Nat) (w : World) (hr1 : -200 ≤ r) (hr2 : r ≤ 800) (hz1 : 1 ≤ Z) (hz2 : Z ≤ 60) (hp : p < Z) (hn : n ≤ 1000000000) (hM : MapI r Z w mb n) :
    Calls Tryz.prog 139 #[.agg #[.string s, .int .i64 r, .int .i64 Z, .int .i64 d, .int .i64 g, .map (some mb)], .int .i64 p] w (RateP (Pm.rootN (15 * Z + p) Z) r Z mb n w) := by
  obtain ⟨D, hown, hgood⟩ := hM
  have hlt := hown.lt
  have hk := key_int (t := r + 9 * (Z : Int) + p) (by omega) (by omega)
  have HK := hid hk; clear hk
  have HG := hid hgood; clear hgood
  have EE : Hid (Pm.expo r Z (r + 9 * (Z : Int) + p) = ((15 * Z + p : Nat) : Int)) := by unfold Pm.expo Hid; omega
  have hle := Pm.root_le16 (15 * Z + p) Z hz1 (by omega)
  cases hh : Maps.has D (.int .i64 (r + 9 * (Z : Int) + p))
  · go_enter Tryz.func139, Tryz.ntmps139
    go_wp2_with (first
      | (at_lookup; refine wpList_lookup_own_ok_int _ rfl _ _ 103 rfl 3 3 .i64 law_int Tryz.underlying103 Tryz.underlying3 (zero_int _) mb n D rfl (hown.alloc _) _ _ rfl HK.out ?_; intro c hat hwc; clear hat hwc)
      | (go_at_call 137; refine (exponent_any _ _ _ _ _ _ _ _ hr1 hr2 (by omega) (by omega) (by omega) (by omega)).mono ?_; rintro e w1 ⟨rfl, hb⟩; have hown1 := omap_alloc hown hb; obtain ⟨b0, b1, b2, b3, b4, b5, hz, hB⟩ := box6_below hb; clear hb)
      | (go_at_call 153; rw [EE.out]; refine (lroot_any (15 * Z + p) Z _ hz1 hz2 (by omega)).mono ?_; rintro e w2 ⟨rfl, hb2⟩; have hown2 := omap_below hown1 hb2; have c5 := keep_cell hb2 b5; clear hown1)
      | (at_mapUpdate; refine wpList_mapUpdate_own _ rfl _ _ _ 103 rfl 3 3 law_int Tryz.underlying103 _ mb n D rfl hown2 (by unfold maxLen; omega) _ _ _ rfl rfl HK.out _ [] (plainElem_int Tryz.underlying3 (WalkArith.wf_i64 (by omega))) ?_; intro w3 hown3 hgrow3; clear hown2))
    go_ret
    refine ⟨rfl, ?_, _, hown3, HG.out.put p⟩
    exact gtrans (gtrans (gbelow hB) (gbelow hb2)) hgrow3
  · have hat0 := hid (HG.out.2 p hp hh)
    go_enter Tryz.func139, Tryz.ntmps139
    go_wp2_with (first
      | (at_lookup; refine wpList_lookup_own_ok_int _ rfl _ _ 103 rfl 3 3 .i64 law_int Tryz.underlying103 Tryz.underlying3 (zero_int _) mb n D rfl (hown.alloc _) _ _ rfl HK.out ?_; intro c hat hwc; have hat1 := hid hat; clear hat hwc))
    go_ret
    refine ⟨ret_int ?_, World.grownBy_alloc _ _ _, D, (hown.alloc _).mono (Nat.le_succ _), HG.out⟩
    have := hat0.out.symm.trans hat1.out
    simpa using this.symm
end Go.Proofs.YtedfajokiblfhaaGreat.Lt

/- Walks of the rates of package lethal: down, up: contracts. -/
namespace Go.Proofs.YtedfajokiblfhaaGreat.Lt
open Go.RowKit Go.Lib Go.Maps

theorem kbox6_keep {b : Nat} {w W w2 : World} {c0 c1 c2 c3 c4 c5 : Value} (hb : Below W.heap.size W w2)
    (h : W.cell? ⟨b, 0, none⟩ = some c0 ∧ W.cell? ⟨b, 1, none⟩ = some c1 ∧ W.cell? ⟨b, 2, none⟩ = some c2 ∧ W.cell? ⟨b, 3, none⟩ = some c3 ∧ W.cell? ⟨b, 4, none⟩ = some c4 ∧ W.cell? ⟨b, 5, none⟩ = some c5 ∧ b < W.heap.size ∧ Below w.heap.size w W) :
    w2.cell? ⟨b, 0, none⟩ = some c0 ∧ w2.cell? ⟨b, 1, none⟩ = some c1 ∧ w2.cell? ⟨b, 2, none⟩ = some c2 ∧ w2.cell? ⟨b, 3, none⟩ = some c3 ∧ w2.cell? ⟨b, 4, none⟩ = some c4 ∧ w2.cell? ⟨b, 5, none⟩ = some c5 ∧ b < w2.heap.size ∧ Below w.heap.size w w2 := by
  obtain ⟨h0, h1, h2, h3, h4, h5, h6, h7⟩ := h
  exact ⟨keep_cell hb h0, keep_cell hb h1, keep_cell hb h2, keep_cell hb h3, keep_cell hb h4, keep_cell hb h5, Nat.lt_of_lt_of_le h6 hb.size, h7.trans (hb.mono h7.size)⟩
theorem box6_new {w : World} {c0 c1 c2 c3 c4 c5 : Value} {T : TypeId} :
    (w.alloc (.cells #[c0, c1, c2, c3, c4, c5] T)).drew.cell? ⟨w.heap.size, 0, none⟩ = some c0 ∧ (w.alloc (.cells #[c0, c1, c2, c3, c4, c5] T)).drew.cell? ⟨w.heap.size, 1, none⟩ = some c1 ∧ (w.alloc (.cells #[c0, c1, c2, c3, c4, c5] T)).drew.cell? ⟨w.heap.size, 2, none⟩ = some c2 ∧ (w.alloc (.cells #[c0, c1, c2, c3, c4, c5] T)).drew.cell? ⟨w.heap.size, 3, none⟩ = some c3 ∧ (w.alloc (.cells #[c0, c1, c2, c3, c4, c5] T)).drew.cell? ⟨w.heap.size, 4, none⟩ = some c4 ∧ (w.alloc (.cells #[c0, c1, c2, c3, c4, c5] T)).drew.cell? ⟨w.heap.size, 5, none⟩ = some c5 ∧ w.heap.size < (w.alloc (.cells #[c0, c1, c2, c3, c4, c5] T)).drew.heap.size ∧ Below w.heap.size w (w.alloc (.cells #[c0, c1, c2, c3, c4, c5] T)).drew := by
  obtain ⟨h0, h1, h2, h3, h4, h5, h6, h7⟩ := box6_below (Below.refl _ (w.alloc (.cells #[c0, c1, c2, c3, c4, c5] T)))
  exact ⟨h0, h1, h2, h3, h4, h5, h6, h7.drew⟩
theorem MapI.mono {r : Int} {Z : Nat} {w : World} {b n : Nat} (h : MapI r Z w b n) : MapI r Z w b (n + 1) := by
  obtain ⟨D, h1, h2⟩ := h
  exact ⟨D, h1.mono (Nat.le_succ _), h2⟩

set_option maxHeartbeats 2000000 in
theorem down_any (s : ByteArray) (r d g t : Int) (Z mb n : Nat) (w : World) (hr1 : -200 ≤ r) (hr2 : r ≤ 800) (hz1 : 1 ≤ Z) (hz2 : Z ≤ 60) (ht1 : -100000 ≤ t) (ht2 : t ≤ 100000) (hn : n ≤ 1000000000) (hM : MapI r Z w mb n) :
    Calls Tryz.prog 114 #[.agg #[.string s, .int .i64 r, .int .i64 Z, .int .i64 d, .int .i64 g, .map (some mb)], .int .i64 t] w (RateP (Pm.rateD r Z t) r Z mb n w) := by
  have hx1 := Pm.expo_le r Z t
  have hx2 : -200000 ≤ Pm.expo r Z t := by unfold Pm.expo; omega
  obtain ⟨E, hE⟩ : ∃ E, E = Pm.expo r Z t := ⟨_, rfl⟩
  have HE := hid hE
  rw [← hE] at hx1 hx2
  clear hE
  have HM := hid hM; clear hM
  by_cases h0 : E < 0
  · have hr := hid (Pm.rateD_neg (r := r) (z := Z) (t := t) (by rw [← HE.out]; exact h0))
    go_enter Tryz.func114, Tryz.ntmps114
    go_wp2
    go_region_held3 (fun w' => w'.cell? ⟨w.heap.size, 0, none⟩ = some (.string s) ∧ w'.cell? ⟨w.heap.size, 1, none⟩ = some (.int .i64 r) ∧ w'.cell? ⟨w.heap.size, 2, none⟩ = some (.int .i64 Z) ∧ w'.cell? ⟨w.heap.size, 3, none⟩ = some (.int .i64 d) ∧ w'.cell? ⟨w.heap.size, 4, none⟩ = some (.int .i64 g) ∧ w'.cell? ⟨w.heap.size, 5, none⟩ = some (.map (some mb)) ∧ w.heap.size < w'.heap.size ∧ Below w.heap.size w w') (first | exact box6_new | exact kbox6_keep (by assumption) (by assumption)) (first | (go_at_call 137; refine (exponent_any _ _ _ _ _ _ _ _ hr1 hr2 (by omega) (by omega) ht1 ht2).mono ?_; rintro e w1 ⟨rfl, hb⟩; rw [← HE.out]))
    rename_i hq
    obtain ⟨q0, q1, q2, q3, q4, q5, q6, q7⟩ := hq
    go_wp2
    go_ret
    exact ⟨ret_int (by rw [hr.out]; rfl), gbelow q7, (HM.out.below q7).mono⟩
  · obtain ⟨N, rfl⟩ := Int.eq_ofNat_of_zero_le (show 0 ≤ E by omega)
    have hN : (Pm.expo r Z t).toNat = N := by rw [← HE.out]; rfl
    have hneg : ¬ Pm.expo r Z t < 0 := by rw [← HE.out]; exact h0
    have HQ : Hid ((N : Int) / Z = ((N / Z : Nat) : Int)) := by unfold Hid; omega
    have HR : Hid ((N : Int) % Z = ((N % Z : Nat) : Int)) := by unfold Hid; omega
    have hq0 : 0 ≤ (N : Int) / Z := Int.ediv_nonneg (by omega) (by omega)
    have hm0 : 0 ≤ (N : Int) % Z := Int.emod_nonneg _ (by omega)
    have hd0 : decide ((N : Int) < 0) = false := by simp
    by_cases hp : N % Z = 0
    · have hv := hid (Pm.rateD_whole (r := r) (z := Z) (t := t) (by omega) hneg (by rw [hN]; exact hp))
      have hN16 : N / Z ≤ 16 := Nat.div_le_of_le_mul (by rw [Nat.mul_comm]; omega)
      have hpb : ((N : Int) % Z == 0) = true := by rw [HR.out, hp]; rfl
      have HNN := hid hN
      clear hN hneg hp
      go_enter Tryz.func114, Tryz.ntmps114
      go_wp2
      go_region_held3 (fun w' => w'.cell? ⟨w.heap.size, 0, none⟩ = some (.string s) ∧ w'.cell? ⟨w.heap.size, 1, none⟩ = some (.int .i64 r) ∧ w'.cell? ⟨w.heap.size, 2, none⟩ = some (.int .i64 Z) ∧ w'.cell? ⟨w.heap.size, 3, none⟩ = some (.int .i64 d) ∧ w'.cell? ⟨w.heap.size, 4, none⟩ = some (.int .i64 g) ∧ w'.cell? ⟨w.heap.size, 5, none⟩ = some (.map (some mb)) ∧ w.heap.size < w'.heap.size ∧ Below w.heap.size w w') (first | exact box6_new | exact kbox6_keep (by assumption) (by assumption)) (first | (go_at_call 137; refine (exponent_any _ _ _ _ _ _ _ _ hr1 hr2 (by omega) (by omega) ht1 ht2).mono ?_; rintro e w1 ⟨rfl, hb⟩; rw [← HE.out]))
      rename_i hq
      obtain ⟨q0, q1, q2, q3, q4, q5, q6, q7⟩ := hq
      have Q7 := hid q7; clear q7
      go_wp2
      go_quiet (fail)
      go_wp2_with (go_at_call 138; rw [HQ.out]; refine (tenTo_any (N / Z) _ (by omega)).mono ?_; rintro e w2 ⟨rfl, rfl⟩)
      go_ret
      refine ⟨ret_int ?_, gbelow (bdrewN Q7.out), (HM.out.below (bdrewN Q7.out)).mono⟩
      have := hv.out; rw [HNN.out, Int.toNat_natCast] at this
      rw [this]; rfl
    · have hv := hid (Pm.rateD_digits (r := r) (z := Z) (t := t) (by omega) hneg (by rw [hN]; exact hp))
      have hN15 : N / Z ≤ 15 := by have := hv.out.1; rwa [hN, Int.toNat_natCast] at this
      have hpb : ((N : Int) % Z == 0) = false := by rw [HR.out]; simp; omega
      have HNN := hid hN
      have hpz : N % Z < Z := Nat.mod_lt _ hz1
      have h15 : (15 : Int) - N / Z = ((15 - N / Z : Nat) : Int) := by rw [HQ.out]; omega
      have H15 := hid h15
      have hp10 := tenN_pos (15 - N / Z)
      clear hN hneg hp h15
      go_enter Tryz.func114, Tryz.ntmps114
      go_wp2
      go_region_held3 (fun w' => w'.cell? ⟨w.heap.size, 0, none⟩ = some (.string s) ∧ w'.cell? ⟨w.heap.size, 1, none⟩ = some (.int .i64 r) ∧ w'.cell? ⟨w.heap.size, 2, none⟩ = some (.int .i64 Z) ∧ w'.cell? ⟨w.heap.size, 3, none⟩ = some (.int .i64 d) ∧ w'.cell? ⟨w.heap.size, 4, none⟩ = some (.int .i64 g) ∧ w'.cell? ⟨w.heap.size, 5, none⟩ = some (.map (some mb)) ∧ w.heap.size < w'.heap.size ∧ Below w.heap.size w w') (first | exact box6_new | exact kbox6_keep (by assumption) (by assumption)) (first | (go_at_call 137; refine (exponent_any _ _ _ _ _ _ _ _ hr1 hr2 (by omega) (by omega) ht1 ht2).mono ?_; rintro e w1 ⟨rfl, hb⟩; rw [← HE.out]))
      rename_i hq
      obtain ⟨q0, q1, q2, q3, q4, q5, q6, q7⟩ := hq
      have Q7 := hid q7; clear q7
      go_wp2
      go_quiet (fail)
      have HM3 := hid (HM.out.below (bdrewN (n := nq) Q7.out))
      go_wp2_with (first
        | (go_at_call 139; rw [HR.out]; refine (digits_any _ _ _ _ Z (N % Z) mb n _ hr1 hr2 hz1 hz2 hpz hn HM3.out).mono ?_; rintro e w2 ⟨rfl, hg2, hM2⟩; have HG2 := hid hg2; have HM2 := hid hM2; clear hg2 hM2)
        | (go_at_call 138; rw [H15.out]; refine (tenTo_any (15 - N / Z) _ (by omega)).mono ?_; rintro e w3 ⟨rfl, rfl⟩))
      go_ret
      refine ⟨ret_int ?_, gtrans (gbelow (bdrewN Q7.out)) HG2.out, HM2.out⟩
      have := hv.out.2
      rw [HNN.out, Int.toNat_natCast] at this
      have hle := Pm.root_le16 (15 * Z + N % Z) Z hz1 (by omega)
      have hdv := Nat.div_le_self (Pm.rootN (15 * Z + N % Z) Z) (tenN (15 - N / Z))
      change _ = Pm.rootN (15 * Z + N % Z) Z / tenN (15 - N / Z) at this
      rw [this, ← Int.natCast_ediv]
      generalize Pm.rootN (15 * Z + N % Z) Z / tenN (15 - N / Z) = q at hdv ⊢
      exact IntWalk.wrap64_in _ ⟨by omega, by omega⟩

set_option maxHeartbeats 2000000 in
theorem up_any (s : ByteArray) (r d g t : Int) (Z mb n : Nat) (w : World) (hr1 : -200 ≤ r) (hr2 : r ≤ 800) (hz1 : 1 ≤ Z) (hz2 : Z ≤ 60) (ht1 : -100000 ≤ t) (ht2 : t ≤ 100000) (hn : n ≤ 1000000000) (hM : MapI r Z w mb n) :
    Calls Tryz.prog 133 #[.agg #[.string s, .int .i64 r, .int .i64 Z, .int .i64 d, .int .i64 g, .map (some mb)], .int .i64 t] w (RateP (Pm.rateU r Z t) r Z mb n w) := by
  have hx1 := Pm.expo_le r Z t
  have hx2 : -200000 ≤ Pm.expo r Z t := by unfold Pm.expo; omega
  have hu := Pm.rateU_eq r Z t
  have hdl := Pm.rateD_le r Z t (by omega)
  obtain ⟨E, hE⟩ : ∃ E, E = Pm.expo r Z t := ⟨_, rfl⟩
  have HE := hid hE
  rw [← hE] at hx1 hx2 hu
  have HU := hid hu
  clear hE hu
  have HM := hid hM; clear hM
  by_cases h0 : 0 ≤ E
  · obtain ⟨N, rfl⟩ := Int.eq_ofNat_of_zero_le h0
    have hd0 : decide (0 ≤ (N : Int)) = true := by simp
    have HR : Hid ((N : Int) % Z = ((N % Z : Nat) : Int)) := by unfold Hid; omega
    by_cases hp : N % Z = 0
    · have hpb : ((N : Int) % Z == 0) = true := by rw [HR.out, hp]; rfl
      have hv := HU.out
      rw [Int.toNat_natCast, Int.toNat_natCast, if_pos ⟨h0, hp⟩] at hv
      have HV := hid hv
      clear hv hp
      go_enter Tryz.func133, Tryz.ntmps133
      go_wp2_with (first
        | (go_at_call 137; refine (exponent_any _ _ _ _ _ _ _ _ hr1 hr2 (by omega) (by omega) ht1 ht2).mono ?_; rintro e w1 ⟨rfl, hb⟩; rw [← HE.out]; obtain ⟨b0, b1, b2, b3, b4, b5, hz, hB⟩ := box6_below hb; clear hb; have HM1 := hid (HM.out.below hB))
        | (go_at_call 114; refine (down_any _ _ _ _ _ Z mb n _ hr1 hr2 hz1 hz2 ht1 ht2 hn HM1.out).mono ?_; rintro e w2 ⟨rfl, hg2, hM2⟩; have HG2 := hid hg2; have HM2 := hid hM2; clear hg2 hM2))
      go_ret
      exact ⟨ret_int (by rw [HV.out]), gtrans (gbelow hB) HG2.out, HM2.out⟩
    · have hpb : ((N : Int) % Z == 0) = false := by rw [HR.out]; simp; omega
      have hv := HU.out
      rw [Int.toNat_natCast, Int.toNat_natCast, if_neg (fun h => hp h.2)] at hv
      have HV := hid hv
      clear hv hp
      go_enter Tryz.func133, Tryz.ntmps133
      go_wp2_with (first
        | (go_at_call 137; refine (exponent_any _ _ _ _ _ _ _ _ hr1 hr2 (by omega) (by omega) ht1 ht2).mono ?_; rintro e w1 ⟨rfl, hb⟩; rw [← HE.out]; obtain ⟨b0, b1, b2, b3, b4, b5, hz, hB⟩ := box6_below hb; clear hb; have HM1 := hid (HM.out.below hB))
        | (go_at_call 114; refine (down_any _ _ _ _ _ Z mb n _ hr1 hr2 hz1 hz2 ht1 ht2 hn HM1.out).mono ?_; rintro e w2 ⟨rfl, hg2, hM2⟩; have HG2 := hid hg2; have HM2 := hid hM2; clear hg2 hM2))
      go_ret
      exact ⟨ret_int (by rw [HV.out]; rfl), gtrans (gbelow hB) HG2.out, HM2.out⟩
  · have hd0 : decide (0 ≤ E) = false := by simp; omega
    have hv := HU.out
    rw [if_neg (fun h => h0 h.1)] at hv
    have HV := hid hv
    clear hv
    go_enter Tryz.func133, Tryz.ntmps133
    go_wp2_with (first
      | (go_at_call 137; refine (exponent_any _ _ _ _ _ _ _ _ hr1 hr2 (by omega) (by omega) ht1 ht2).mono ?_; rintro e w1 ⟨rfl, hb⟩; rw [← HE.out]; obtain ⟨b0, b1, b2, b3, b4, b5, hz, hB⟩ := box6_below hb; clear hb; have HM1 := hid (HM.out.below hB))
      | (go_at_call 114; refine (down_any _ _ _ _ _ Z mb n _ hr1 hr2 hz1 hz2 ht1 ht2 hn HM1.out).mono ?_; rintro e w2 ⟨rfl, hg2, hM2⟩; have HG2 := hid hg2; have HM2 := hid hM2; clear hg2 hM2))
    go_ret
    exact ⟨ret_int (by rw [HV.out]; rfl), gtrans (gbelow hB) HG2.out, HM2.out⟩

/-- A new killer's rates: the struct's box, and its empty map. -/
def RatesP (s : ByteArray) (r z d g : Int) (w : World) (e : Ending) (w' : World) : Prop := ∃ mb, e = .returned (.agg #[.string s, .int .i64 r, .int .i64 z, .int .i64 d, .int .i64 g, .map (some mb)]) ∧ w.heap.size ≤ mb ∧ Below w.heap.size w w' ∧ ∀ Z : Nat, MapI r Z w' mb 0

set_option maxHeartbeats 2000000 in
theorem ratesOf_any (s : ByteArray) (r z d g : Int) (w : World) (_hs : s.size ≤ maxLen) : Calls Tryz.prog 113 #[.agg #[.string s, .int .i64 r, .int .i64 z, .int .i64 d, .int .i64 g]] w (RatesP s r z d g w) := by
  have hmm := @run_makeMap Tryz.prog
  go_enter Tryz.func113, Tryz.ntmps113
  go_wp2
  refine bodyPost_ret (v := .agg #[.string s, .int .i64 r, .int .i64 z, .int .i64 d, .int .i64 g, .map (some (w.heap.size + 2))]) (by simp [results, Tryz.results113, go_sem]) rfl ?_
  refine ⟨_, rfl, by omega, (((Below.refl _ _).alloc (Nat.le_refl _) _).alloc (by simp) _).alloc (by simp; omega) _, fun Z => ⟨.map [], ?_, goodM_empty r Z⟩⟩
  have := World.ownsMap_made (H := Unit) ((w.alloc (.cells #[.string s, .int .i64 r, .int .i64 z, .int .i64 d, .int .i64 g] 25)).alloc (.cells #[.string s, .int .i64 r, .int .i64 z, .int .i64 d, .int .i64 g, .map (some (w.heap.size + 1 + 1))] 137)) Tryz.prog 3 (plainElem Tryz.prog 3)
  rw [two_size] at this
  exact this
end Go.Proofs.YtedfajokiblfhaaGreat.Lt

/- Walks of Reached and Reductions of both: contracts. -/
namespace Go.Proofs.YtedfajokiblfhaaGreat.Lt
open Go.RowKit

theorem chkF_no (f : Int) : chkF false f = 1 := rfl
theorem chkF_out (f : Int) (h : (decide (0 ≤ f) && decide (f ≤ 1000000000000000000)) = false) : chkF true f = 7 := by
  unfold chkF; simp at h; simp; omega
theorem chkF_in (f : Int) (h : (decide (0 ≤ f) && decide (f ≤ 1000000000000000000)) = true) : chkF true f = 0 := by
  unfold chkF; simp at h; simp; omega
def shareV (v : Bool) (f n : Int) : Int := if v && (decide (0 ≤ f) && decide (f ≤ 1000000000000000000)) then f * 1000 / n else 0
theorem shareV_no (f n : Int) : shareV false f n = 0 := rfl
theorem shareV_out (f n : Int) (h : (decide (0 ≤ f) && decide (f ≤ 1000000000000000000)) = false) : shareV true f n = 0 := by
  unfold shareV; rw [h]; rfl
theorem shareV_in (f n : Int) (h : (decide (0 ≤ f) && decide (f ≤ 1000000000000000000)) = true) : shareV true f n = f * 1000 / n := by
  unfold shareV; rw [h]; rfl
theorem third (v b : Bool) : v = false ∨ (v = true ∧ b = false) ∨ (v = true ∧ b = true) := by cases v <;> cases b <;> simp



theorem div_mill (f n : Int) (m : Int) (h : m = n * 1000) : f * 1000 / m = f / n := by
  subst h
  rw [Int.mul_comm f, Int.mul_comm n]; exact Int.mul_ediv_mul_of_pos _ _ (by decide)


end Go.Proofs.YtedfajokiblfhaaGreat.Lt

/- Walks of checkTemperature, Rate, RateUp of package lethal: contracts. -/
namespace Go.Proofs.YtedfajokiblfhaaGreat.Lt
open Go.RowKit Go.Lib Go.Maps

def chkT (v : Bool) (t : Int) : Int := if v then (if -1000 ≤ t ∧ t ≤ 2000 then 0 else 7) else 1
theorem chkT_no (t : Int) : chkT false t = 1 := rfl
theorem chkT_out (t : Int) (h : (decide (-1000 ≤ t) && decide (t ≤ 2000)) = false) : chkT true t = 7 := by
  unfold chkT; simp at h; simp; omega
theorem chkT_in (t : Int) (h : (decide (-1000 ≤ t) && decide (t ≤ 2000)) = true) : chkT true t = 0 := by
  unfold chkT; simp at h; simp; omega

set_option maxHeartbeats 1000000 in
theorem checkT_any (s : ByteArray) (r z d g : Int) (w : World) (hs : s.size ≤ maxLen) (t : Int) :
    Calls Tryz.prog 132 #[.agg #[.string s, .int .i64 r, .int .i64 z, .int .i64 d, .int .i64 g], .int .i64 t] w fun e w' => e = .returned (.int .i64 (chkT (validB s.data.toList r z d g) t)) ∧ Below w.heap.size w w' := by
  rcases third (validB s.data.toList r z d g) (decide (-1000 ≤ t) && decide (t ≤ 2000)) with hv | ⟨hv, ht⟩ | ⟨hv, ht⟩
  · go_enter Tryz.func132, Tryz.ntmps132
    go_wp2_with (first | (go_at_call 80; refine (lvalid_any _ _ _ _ _ _ hs).mono ?_; rintro e w1 ⟨rfl, hb⟩; obtain ⟨b0, b1, b2, b3, b4, hz, hB⟩ := box5_below hb; clear hb) | (go_at_call 112; refine (within_any _ _ _ _).mono ?_; rintro e w' ⟨rfl, rfl⟩))
    go_ret
    exact ⟨by rw [hv]; rfl, hB⟩
  · have c := hid (chkT_out t ht)
    go_enter Tryz.func132, Tryz.ntmps132
    go_wp2_with (first | (go_at_call 80; refine (lvalid_any _ _ _ _ _ _ hs).mono ?_; rintro e w1 ⟨rfl, hb⟩; obtain ⟨b0, b1, b2, b3, b4, hz, hB⟩ := box5_below hb; clear hb) | (go_at_call 112; refine (within_any _ _ _ _).mono ?_; rintro e w' ⟨rfl, rfl⟩))
    go_ret
    exact ⟨by rw [hv, c.out]; rfl, hB⟩
  · have c := hid (chkT_in t ht)
    go_enter Tryz.func132, Tryz.ntmps132
    go_wp2_with (first | (go_at_call 80; refine (lvalid_any _ _ _ _ _ _ hs).mono ?_; rintro e w1 ⟨rfl, hb⟩; obtain ⟨b0, b1, b2, b3, b4, hz, hB⟩ := box5_below hb; clear hb) | (go_at_call 112; refine (within_any _ _ _ _).mono ?_; rintro e w' ⟨rfl, rfl⟩))
    go_ret
    exact ⟨by rw [hv, c.out]; rfl, hB⟩

/-- What Rate and RateUp answer: the rate where the killer and the temperature are good. -/
def rateA (v : Bool) (x : Nat) (t : Int) : Int := if v && (decide (-1000 ≤ t) && decide (t ≤ 2000)) then x else 0
theorem rateA_no (x : Nat) (t : Int) : rateA false x t = 0 := rfl
theorem rateA_out (x : Nat) (t : Int) (h : (decide (-1000 ≤ t) && decide (t ≤ 2000)) = false) : rateA true x t = 0 := by unfold rateA; rw [h]; rfl
theorem rateA_in (x : Nat) (t : Int) (h : (decide (-1000 ≤ t) && decide (t ≤ 2000)) = true) : rateA true x t = x := by unfold rateA; rw [h]; rfl


set_option maxHeartbeats 2000000 in
theorem lRateUp_any (s : ByteArray) (r z d g : Int) (w : World) (hs : s.size ≤ maxLen) (t : Int) :
    Calls Tryz.prog 95 #[.agg #[.string s, .int .i64 r, .int .i64 z, .int .i64 d, .int .i64 g], .int .i64 t] w fun e w' => e = .returned (.tuple #[.int .i64 (rateA (validB s.data.toList r z d g) (Pm.rateU r z t) t), .int .i64 (chkT (validB s.data.toList r z d g) t)]) ∧ Below w.heap.size w w' := by
  rcases third (validB s.data.toList r z d g) (decide (-1000 ≤ t) && decide (t ≤ 2000)) with hv | ⟨hv, ht⟩ | ⟨hv, ht⟩
  · have c := hid (chkT_no t)
    go_enter Tryz.func95, Tryz.ntmps95
    go_wp2_with (first | (go_at_call 132; refine (checkT_any _ _ _ _ _ _ hs t).mono ?_; rintro e w1 ⟨rfl, hb⟩; rw [hv, c.out]; obtain ⟨b0, b1, b2, b3, b4, hz, hB⟩ := box5_below hb; clear hb))
    go_ret2
    exact ⟨by rw [hv, c.out]; rfl, hB⟩
  · have c := hid (chkT_out t ht)
    have c2 := hid (rateA_out (Pm.rateU r z t) t ht)
    go_enter Tryz.func95, Tryz.ntmps95
    go_wp2_with (first | (go_at_call 132; refine (checkT_any _ _ _ _ _ _ hs t).mono ?_; rintro e w1 ⟨rfl, hb⟩; rw [hv, c.out]; obtain ⟨b0, b1, b2, b3, b4, hz, hB⟩ := box5_below hb; clear hb))
    go_ret2
    exact ⟨by rw [hv, c.out, c2.out]; rfl, hB⟩
  · have c := hid (chkT_in t ht)
    have c2 := hid (rateA_in (Pm.rateU r z t) t ht)
    obtain ⟨_, ⟨r1, r2⟩, ⟨z1, z2⟩, _, _⟩ := validB_iff.1 hv
    obtain ⟨Z, rfl⟩ := Int.eq_ofNat_of_zero_le (show 0 ≤ z by omega)
    have ht' : -1000 ≤ t ∧ t ≤ 2000 := by simpa using ht
    obtain ⟨t1, t2⟩ := ht'
    go_enter Tryz.func95, Tryz.ntmps95
    go_wp2_with (first
      | (go_at_call 132; refine (checkT_any _ _ _ _ _ _ hs t).mono ?_; rintro e w1 ⟨rfl, hb⟩; rw [hv, c.out]; obtain ⟨b0, b1, b2, b3, b4, hz, hB⟩ := box5_below hb; clear hb)
      | (go_at_call 113; refine (ratesOf_any _ _ _ _ _ _ hs).mono ?_; rintro e w2 ⟨mb, rfl, hmb, hb2, hM⟩; have HM := hid (hM Z); have HB2 := hid hb2; clear hM)
      | (go_at_call 133; refine (up_any _ _ _ _ t Z mb 0 _ r1 r2 (by omega) (by omega) (by omega) (by omega) (by omega) HM.out).mono ?_; rintro e w3 ⟨rfl, hg3, _⟩))
    go_ret2
    exact ⟨by rw [hv, c.out, c2.out]; rfl, (hB.trans (HB2.out.mono (by omega))).grown hg3 (Nat.le_trans (Nat.le_of_lt hz) HB2.out.size) (fun k hk => by cases hk; omega)⟩
end Go.Proofs.YtedfajokiblfhaaGreat.Lt

/- Walks of the reference's Root, rates, told, Rate and RateUp: contracts. -/
namespace Go.Proofs.YtedfajokiblfhaaGreat.Lt
open Go.RowKit Go.Lib



set_option maxHeartbeats 2000000 in
theorem rrates_any (s : ByteArray) (r d g t : Int) (Z : Nat) (w : World) (hr1 : -200 ≤ r) (hr2 : r ≤ 800) (hz1 : 1 ≤ Z) (hz2 : Z ≤ 60) (ht1 : -100000 ≤ t) (ht2 : t ≤ 100000) :
    Calls Tryz.prog 155 #[.agg #[.string s, .int .i64 r, .int .i64 Z, .int .i64 d, .int .i64 g], .int .i64 t] w fun e w' => e = .returned (.tuple #[.int .i64 (Pm.rateD r Z t : Nat), .int .i64 (Pm.rateU r Z t : Nat)]) ∧ Below w.heap.size w w' := by
  have hu := Pm.rateU_eq r Z t
  have hle := Pm.expo_le r Z t
  obtain ⟨E, hE⟩ : ∃ E, E = Pm.expo r Z t := ⟨_, rfl⟩
  have hE' := hE
  rw [← hE] at hu hle
  unfold Pm.expo at hE'
  have HE := hid hE
  clear hE
  by_cases h0 : E < 0
  · have hD := hid (Pm.rateD_neg (r := r) (z := Z) (t := t) (by rw [← HE.out]; exact h0))
    have hU : Hid (Pm.rateU r Z t = 1) := by unfold Hid; rw [hu, if_neg (fun h => absurd h.1 (by omega)), hD.out]
    clear hu
    by_cases hc : t - r ≤ 10 * Z
    · have hx : ¬ (10 * (Z : Int) < t - r) := by omega
      have hEE : E = 6 * Z + (t - r) := by omega
      subst hEE
      go_enter Tryz.func155, Tryz.ntmps155
      go_wp2
      go_ret2
      exact ⟨by rw [hD.out, hU.out]; rfl, (Below.refl _ _).alloc (Nat.le_refl _) _⟩
    · exact absurd h0 (by omega)
  · obtain ⟨N, rfl⟩ := Int.eq_ofNat_of_zero_le (show 0 ≤ E by omega)
    have hD : Hid (Pm.rateD r Z t = Pm.rootN N Z) := by
      unfold Hid
      rw [Pm.rateD_pos (by rw [← HE.out]; exact h0), ← HE.out]; simp
    have hN : N ≤ 16 * Z := by omega
    have hrle := Pm.root_le16 N Z hz1 hN
    by_cases hp : N % Z = 0
    · have hU : Hid (Pm.rateU r Z t = Pm.rootN N Z) := by
        unfold Hid
        rw [hu, if_pos ⟨by omega, by simpa using hp⟩, hD.out]
      have hb := decide_eq_true hp
      clear hu hp
      by_cases hc : t - r ≤ 10 * Z
      · have hEE : Hid (6 * (Z : Int) + (t - r) = N) := by unfold Hid; omega
        have hge : 0 ≤ 6 * (Z : Int) + (t - r) := by omega
        clear hE'
        go_enter Tryz.func155, Tryz.ntmps155
        go_wp2_with (go_at_call 162; rw [hEE.out]; refine (rroot_any N Z _ hz1 hz2 hN).mono ?_; rintro r w1 ⟨rfl, hb1⟩)
        go_ret2
        exact ⟨by rw [hD.out, hU.out]; rfl, balloc hb1⟩
      · have hEE : Hid (6 * (Z : Int) + 10 * Z = N) := by unfold Hid; omega
        clear hE'
        go_enter Tryz.func155, Tryz.ntmps155
        go_wp2_with (go_at_call 162; rw [hEE.out]; refine (rroot_any N Z _ hz1 hz2 hN).mono ?_; rintro r w1 ⟨rfl, hb1⟩)
        go_ret2
        exact ⟨by rw [hD.out, hU.out]; rfl, balloc hb1⟩
    · have hU : Hid (Pm.rateU r Z t = Pm.rootN N Z + 1) := by
        unfold Hid
        rw [hu, if_neg (fun h => hp (by simpa using h.2)), hD.out]
      have hb := decide_eq_false hp
      clear hu hp
      by_cases hc : t - r ≤ 10 * Z
      · have hEE : Hid (6 * (Z : Int) + (t - r) = N) := by unfold Hid; omega
        have hge : 0 ≤ 6 * (Z : Int) + (t - r) := by omega
        clear hE'
        go_enter Tryz.func155, Tryz.ntmps155
        go_wp2_with (go_at_call 162; rw [hEE.out]; refine (rroot_any N Z _ hz1 hz2 hN).mono ?_; rintro r w1 ⟨rfl, hb1⟩)
        go_ret2
        exact ⟨by rw [hD.out, hU.out]; rfl, balloc hb1⟩
      · have hEE : Hid (6 * (Z : Int) + 10 * Z = N) := by unfold Hid; omega
        clear hE'
        go_enter Tryz.func155, Tryz.ntmps155
        go_wp2_with (go_at_call 162; rw [hEE.out]; refine (rroot_any N Z _ hz1 hz2 hN).mono ?_; rintro r w1 ⟨rfl, hb1⟩)
        go_ret2
        exact ⟨by rw [hD.out, hU.out]; rfl, balloc hb1⟩


end Go.Proofs.YtedfajokiblfhaaGreat.Lt

/- Walks of Least of package lethal, with sort.Search over its test: contracts. -/
namespace Go.Proofs.YtedfajokiblfhaaGreat.Lt
open Go.RowKit Go.Lib Go.Maps

/-- The least temperature with at least a rate. -/
structure IsLeast (r : Int) (Z : Nat) (rate T : Int) : Prop where
  lo : -1000 ≤ T
  hi : T ≤ 2000
  warm : rate ≤ (Pm.rateD r Z T : Nat)
  less : T = -1000 ∨ ((Pm.rateD r Z (T - 1) : Nat) : Int) < rate
theorem IsLeast.same {r : Int} {Z : Nat} {q T U : Int} (hz : 1 ≤ Z) (h1 : IsLeast r Z q T) (h2 : IsLeast r Z q U) : T = U := by
  rcases Int.lt_trichotomy T U with h | h | h
  · rcases h2.less with h3 | h3
    · have := h1.lo; omega
    · have := Pm.rateD_mono (r := r) (z := Z) (show 1 ≤ (Z : Int) by omega) (show T ≤ U - 1 by omega)
      have := h1.warm; omega
  · exact h
  · rcases h1.less with h3 | h3
    · have := h2.lo; omega
    · have := Pm.rateD_mono (r := r) (z := Z) (show 1 ≤ (Z : Int) by omega) (show U ≤ T - 1 by omega)
      have := h2.warm; omega
theorem rate_top {r : Int} {Z : Nat} (hr : r ≤ 800) (hz1 : 1 ≤ Z) (hz2 : Z ≤ 60) : Pm.rateD r Z 2000 = 10000000000000000 := by
  have e : Pm.expo r Z 2000 = 16 * (Z : Int) := by unfold Pm.expo; omega
  rw [Pm.rateD_pos (by omega), e, show (16 * (Z : Int)).toNat = 16 * Z by omega, Int.toNat_natCast, Pm.root_whole 16 Z hz1]

def testB (r : Int) (Z : Nat) (q : Int) (m : Nat) : Bool := decide (q ≤ (Pm.rateD r Z (-1000 + m) : Nat))
theorem least_found {r : Int} {Z : Nat} {q : Int} {n : Nat} (hr : r ≤ 800) (hz1 : 1 ≤ Z) (hz2 : Z ≤ 60) (hq : q ≤ 10000000000000000) (h : Found 3000 (testB r Z q) n) : IsLeast r Z q (-1000 + n) := by
  obtain ⟨h0, h1, h2⟩ := h
  refine ⟨by omega, by omega, ?_, ?_⟩
  · rcases h2 with rfl | h2
    · rw [show (-1000 + ((3000 : Nat) : Int)) = 2000 by rfl, rate_top hr hz1 hz2]; omega
    · exact of_decide_eq_true h2
  · rcases h1 with rfl | h1
    · exact .inl rfl
    · rcases Nat.eq_zero_or_pos n with rfl | hn
      · exact .inl rfl
      · have := of_decide_eq_false h1
        rw [show (-1000 + ((n - 1 : Nat) : Int)) = -1000 + (n : Int) - 1 by omega] at this
        exact .inr (by omega)


/-- The cells of a rates box at block L. -/
def Box6 (wr : World) (L : Nat) (s : ByteArray) (r : Int) (Z : Nat) (d g : Int) (mb : Nat) : Prop :=
  wr.cell? ⟨L, 0, none⟩ = some (.string s) ∧ wr.cell? ⟨L, 1, none⟩ = some (.int .i64 r) ∧ wr.cell? ⟨L, 2, none⟩ = some (.int .i64 Z) ∧ wr.cell? ⟨L, 3, none⟩ = some (.int .i64 d) ∧ wr.cell? ⟨L, 4, none⟩ = some (.int .i64 g) ∧ wr.cell? ⟨L, 5, none⟩ = some (.map (some mb)) ∧ L < wr.heap.size
theorem grown_cell {w w' : World} {row : Option Nat} {b o : Nat} {v : Value} (hg : w.grownBy w' row) (hb : b < w.heap.size) (hne : some b ≠ row) (h : w.cell? ⟨b, o, none⟩ = some v) : w'.cell? ⟨b, o, none⟩ = some v := by
  rw [World.cell?_of_block (a := ⟨b, o, none⟩) (hg.block b hb hne)]; exact h
theorem Box6.grown {w w' : World} {row : Option Nat} {L mb : Nat} {s : ByteArray} {r d g : Int} {Z : Nat} (h : Box6 w L s r Z d g mb) (hg : w.grownBy w' row) (hne : some L ≠ row) : Box6 w' L s r Z d g mb := by
  obtain ⟨h0, h1, h2, h3, h4, h5, h6⟩ := h
  exact ⟨grown_cell hg h6 hne h0, grown_cell hg h6 hne h1, grown_cell hg h6 hne h2, grown_cell hg h6 hne h3, grown_cell hg h6 hne h4, grown_cell hg h6 hne h5, Nat.lt_of_lt_of_le h6 hg.size⟩
/-- What Least's test works on: the rates at L (their map at mb), the rate at Q. -/
def LsS (s : ByteArray) (r : Int) (Z : Nat) (d g q : Int) (L Q mb : Nat) (W : World) (c : Nat) (wr : World) : Prop :=
  Box6 wr L s r Z d g mb ∧ wr.cell? ⟨Q, 0, none⟩ = some (.int .i64 q) ∧ Q < wr.heap.size ∧ mb ≠ L ∧ mb ≠ Q ∧ MapI r Z wr mb c ∧ W.grownBy wr (some mb)

theorem LsS.cells {s : ByteArray} {r : Int} {Z : Nat} {d g q : Int} {L Q mb : Nat} {W : World} {c : Nat} {wr : World} (h : LsS s r Z d g q L Q mb W c wr) :
    wr.cell? ⟨L, 0, none⟩ = some (.string s) ∧ wr.cell? ⟨L, 1, none⟩ = some (.int .i64 r) ∧ wr.cell? ⟨L, 2, none⟩ = some (.int .i64 Z) ∧ wr.cell? ⟨L, 3, none⟩ = some (.int .i64 d) ∧ wr.cell? ⟨L, 4, none⟩ = some (.int .i64 g) ∧ wr.cell? ⟨L, 5, none⟩ = some (.map (some mb)) ∧ wr.cell? ⟨Q, 0, none⟩ = some (.int .i64 q) := by
  obtain ⟨⟨h0, h1, h2, h3, h4, h5, _⟩, h6, _⟩ := h
  exact ⟨h0, h1, h2, h3, h4, h5, h6⟩
theorem LsS.next {s : ByteArray} {r : Int} {Z : Nat} {d g q : Int} {L Q mb : Nat} {W : World} {c : Nat} {w w' : World} (h : LsS s r Z d g q L Q mb W c w) (hg : w.grownBy w' (some mb)) (hM : MapI r Z w' mb (c + 1)) : LsS s r Z d g q L Q mb W (c + 1) w' := by
  obtain ⟨h1, h2, h3, h4, h5, _, h7⟩ := h
  exact ⟨h1.grown hg (fun e => h4 (Option.some.inj e).symm), grown_cell hg h3 (fun e => h5 (Option.some.inj e).symm) h2, Nat.lt_of_lt_of_le h3 hg.size, h4, h5, hM, gtrans h7 hg⟩

theorem LsS.below {s : ByteArray} {r : Int} {Z : Nat} {d g q : Int} {L Q mb : Nat} {W : World} {c : Nat} {w w' : World} (h : LsS s r Z d g q L Q mb W c w) (hb : Below w.heap.size w w') : LsS s r Z d g q L Q mb W c w' := by
  obtain ⟨h1, h2, h3, h4, h5, h6, h7⟩ := h
  exact ⟨h1.grown (gbelow hb) (fun e => h4 (Option.some.inj e).symm), keep_cell hb h2, Nat.lt_of_lt_of_le h3 hb.size, h4, h5, h6.below hb, gtrans h7 (gbelow hb)⟩

end Go.Proofs.YtedfajokiblfhaaGreat.Lt

/- Walks of SameInts and Table of both: contracts. -/
namespace Go.Proofs.YtedfajokiblfhaaGreat.Lt
open Go.RowKit Go.Lib Go.Maps

set_option maxHeartbeats 1000000 in
theorem same_any (l : List Nat) (ga gb ca cb : Nat) (w : World) (h1 : l.length ≤ 1000000)
    (hca : ∀ k (h : k < l.length), w.cell? ⟨ga, k, none⟩ = some (.int .i64 (l[k] : Nat))) (hcb : ∀ k (h : k < l.length), w.cell? ⟨gb, k, none⟩ = some (.int .i64 (l[k] : Nat))) :
    Calls Tryz.prog 13 #[.slice (some ⟨ga, 0, none⟩) l.length ca, .slice (some ⟨gb, 0, none⟩) l.length cb] w fun e w' => e = .returned (.bool true) ∧ ∃ n, w' = w.drewN n := by
  have HCA := hid hca
  have HCB := hid hcb
  clear hca hcb
  go_enter Tryz.func13, Tryz.ntmps13
  go_wp2
  go_loopw [5] (fun i wr => ∃ k : Nat, k ≤ l.length ∧ i = .int .i64 (k : Int) ∧ ∃ n, wr = w.drewN n) (fun i _ => l.length - (intOf i).toNat)
  case atStart => exact ⟨0, Nat.zero_le _, rfl, 0, rfl⟩
  case round =>
    obtain ⟨k, hk, rfl, n, rfl⟩ := hrel
    by_cases hlt : k < l.length
    · have ex := HCA.out k hlt
      have ey := HCB.out k hlt
      generalize l[k] = x at ex ey
      go_wp2
      go_quiet (fail)
      go_wp2
      go_roundw
      case rel => exact ⟨k + 1, by omega, by go_num, by first | exact ⟨_, rfl⟩ | exact drew1 | exact drew2⟩
      case measure => simp [intOf]; omega
    · obtain rfl : k = l.length := by omega
      go_wp2
      go_ret
      exact ⟨rfl, n, rfl⟩
set_option maxHeartbeats 1000000 in
theorem same_nil (w : World) : Calls Tryz.prog 13 #[.slice none 0 0, .slice none 0 0] w fun e w' => e = .returned (.bool true) ∧ w' = w := by
  go_enter Tryz.func13, Tryz.ntmps13
  go_wp2
  refine wp_loop_rounds 1 ?_
  rw [rounds_succ]
  go_wp2
  go_ret
  exact ⟨rfl, rfl⟩

/-- The rates at lo, lo + 1, .. -/
def ratesL (r : Int) (Z : Nat) (lo : Int) (n : Nat) : List Nat := (List.range n).map fun i => Pm.rateD r Z (lo + (i : Nat))
theorem ratesL_len (r : Int) (Z : Nat) (lo : Int) (n : Nat) : (ratesL r Z lo n).length = n := by simp [ratesL]
theorem ratesL_succ (r : Int) (Z : Nat) (lo : Int) (n : Nat) : ratesL r Z lo (n + 1) = ratesL r Z lo n ++ [Pm.rateD r Z (lo + (n : Nat))] := by simp [ratesL, List.range_succ]
theorem ratesL_get (r : Int) (Z : Nat) (lo : Int) (n k : Nat) (h : k < (ratesL r Z lo n).length) : (ratesL r Z lo n)[k] = Pm.rateD r Z (lo + (k : Nat)) := by simp [ratesL]

/-- A killer's cells at the foot of w, in a later world. -/
def KBox (s : ByteArray) (r z d g : Int) (w wr : World) : Prop :=
  wr.cell? ⟨w.heap.size, 0, none⟩ = some (.string s) ∧ wr.cell? ⟨w.heap.size, 1, none⟩ = some (.int .i64 r) ∧ wr.cell? ⟨w.heap.size, 2, none⟩ = some (.int .i64 z) ∧ wr.cell? ⟨w.heap.size, 3, none⟩ = some (.int .i64 d) ∧ wr.cell? ⟨w.heap.size, 4, none⟩ = some (.int .i64 g) ∧ w.heap.size < wr.heap.size ∧ Below w.heap.size w wr
theorem KBox.grown {s : ByteArray} {r z d g : Int} {w wr w1 : World} {row : Option Nat} (h : KBox s r z d g w wr) (hg : wr.grownBy w1 row) (hr : ∀ k, row = some k → w.heap.size < k) : KBox s r z d g w w1 := by
  obtain ⟨h0, h1, h2, h3, h4, h5, h6⟩ := h
  have hne : some w.heap.size ≠ row := fun e => absurd (hr _ e.symm) (Nat.lt_irrefl _)
  exact ⟨grown_cell hg h5 hne h0, grown_cell hg h5 hne h1, grown_cell hg h5 hne h2, grown_cell hg h5 hne h3, grown_cell hg h5 hne h4, Nat.lt_of_lt_of_le h5 hg.size, h6.grown hg h6.size (fun k hk => Nat.le_of_lt (hr k hk))⟩
theorem KBox.append {s : ByteArray} {r z d g : Int} {w wr w1 : World} {v : Value} {l : List Nat} {o : Obj} (h : KBox s r z d g w wr) (hv : RowV wr (w.heap.size + 1) v l) (hg : (wr.alloc o).grownBy w1 v.ownBlock) : KBox s r z d g w w1 :=
  (h.grown (World.grownBy_alloc wr o none) (fun k hk => by cases hk)).grown hg (fun k hk => (World.ownsRow.lt hv k hk).1)
theorem RowV.keep {w w2 : World} {base : Nat} {v : Value} {l : List Nat} (h : RowV w base v l) (hb : Below w.heap.size w w2) : RowV w2 base v l :=
  World.ownsRow.kept h ⟨hb.os, hb.tape, hb.output, hb.size, fun j hj _ => hb.block j hj⟩ (row := none) (by cases v.ownBlock <;> simp)

/-- What Table hands back. -/
def TableP (r : Int) (Z : Nat) (lo : Int) (n : Nat) (w : World) (e : Ending) (w' : World) : Prop := ∃ v, e = .returned (.tuple #[v, .int .i64 0]) ∧ RowR w' v (ratesL r Z lo n) ∧ Below w.heap.size w w'

end Go.Proofs.YtedfajokiblfhaaGreat.Lt
