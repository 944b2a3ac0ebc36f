/- Texts of this seat, one behind the other. -/
import Derived.Test.YtedfajokiblfhaaGreatPci
import Derived.Test.YtedfajokiblfhaaGreatA6
import Derived.Test.YtedfajokiblfhaaGreatB5
import Derived.ShutString
/- Places, Lethality, Sterile whatever comes in: contracts. -/
namespace Go.Proofs.YtedfajokiblfhaaGreat
open Go.RowKit Go.Lib

theorem kl_of {q : Kl} (h : q.vB = true) : ∃ Z : Nat, q.z = Z ∧ Lt.validB q.s.data.toList q.r Z q.d q.g = true := by
  have hv : Lt.validB q.s.data.toList q.r q.z q.d q.g = true := h
  have hz := (Lt.validB_iff.1 hv).2.2.1
  obtain ⟨Z, e⟩ := Int.eq_ofNat_of_zero_le (show 0 ≤ q.z by omega)
  exact ⟨Z, e, by rw [← e]; exact hv⟩
theorem places_all (r l a b k a2 b2 : Int) (w : World) (q : Kl) (t : Int) (v : Value) (p : List Int) (hs : q.s.size ≤ maxLen) (hl : RowI w v p) (hpm : p.length ≤ maxLen) :
    Calls Tryz.prog 11 #[.agg #[.int .i64 r, .int .i64 l, .int .i64 a, .int .i64 b, .int .i64 k, .int .i64 a2, .int .i64 b2], .agg #[.string q.s, .int .i64 q.r, .int .i64 q.z, .int .i64 q.d, .int .i64 q.g], .int .i64 t, v] w (PlacesP (sumsO r l a b k a2 b2 q t p) (chk4 (canB r l a b k a2 b2) q.vB t p) w) := by
  by_cases h : chk4 (canB r l a b k a2 b2) q.vB t p = 0
  · obtain ⟨hc, hk, ho, hop, hlen⟩ := chk4_zero h
    obtain ⟨c, hcv, rfl, rfl, rfl, rfl, rfl, rfl, rfl⟩ := canB_cn hc
    obtain ⟨Z, hz, hv⟩ := kl_of hk
    have hso : sumsO c.R c.L c.A c.B c.K c.A2 c.B2 q t p = (dishR c (fun x => Lt.Pm.rateD q.r Z (x / 250)) (dish0 c t) p).2 := by
      unfold sumsO; rw [if_pos h, cnOf_cn, hz]
    rw [hso, h, hz]
    exact places_ok c q.s q.r q.d q.g t Z v p w hs hcv hv ho hop hlen hl
  · rw [sumsO_no h]
    exact places_err r l a b k a2 b2 w q t v p hs hl hpm h
theorem sumsO_len {r l a b k a2 b2 : Int} {q : Kl} {t : Int} {p : List Int} (h : chk4 (canB r l a b k a2 b2) q.vB t p = 0) : (sumsO r l a b k a2 b2 q t p).length = (cnOf r l a b k a2 b2).P ∧ 1 ≤ (cnOf r l a b k a2 b2).P ∧ (cnOf r l a b k a2 b2).P ≤ 48 := by
  obtain ⟨hc, hk, ho, hop, hlen⟩ := chk4_zero h
  obtain ⟨c, hcv, rfl, rfl, rfl, rfl, rfl, rfl, rfl⟩ := canB_cn hc
  unfold sumsO
  rw [if_pos h, cnOf_cn]
  exact ⟨((dish0_good ho).run hcv.ok hop).len, hcv.ok.p.1, hcv.ok.p.2⟩
/-- What Lethality hands back: the slowest place, and its lethality. -/
def lowO (S : List Nat) : Int := if S = [] then 0 else minA (ivN S)
def slowO (S : List Nat) : Int := if S = [] then 0 else (idxA (ivN S) (minA (ivN S)) : Nat)
set_option maxRecDepth 20000 in
set_option maxHeartbeats 4000000 in
theorem leth_any (r l a b k a2 b2 : Int) (w : World) (q : Kl) (t : Int) (v : Value) (p : List Int) (hs : q.s.size ≤ maxLen) (hl : RowI w v p) (hpm : p.length ≤ maxLen) :
    Calls Tryz.prog 14 #[.agg #[.int .i64 r, .int .i64 l, .int .i64 a, .int .i64 b, .int .i64 k, .int .i64 a2, .int .i64 b2], .agg #[.string q.s, .int .i64 q.r, .int .i64 q.z, .int .i64 q.d, .int .i64 q.g], .int .i64 t, v] w fun e w' => e = .returned (.tuple #[.int .i64 (slowO (sumsO r l a b k a2 b2 q t p)), .int .i64 (lowO (sumsO r l a b k a2 b2 q t p)), .int .i64 (chk4 (canB r l a b k a2 b2) q.vB t p)]) ∧ Below w.heap.size w w' := by
  have HX := hid (box2_start (w := w) (A := #[.int .i64 r, .int .i64 l, .int .i64 a, .int .i64 b, .int .i64 k, .int .i64 a2, .int .i64 b2]) (B := #[.string q.s, .int .i64 q.r, .int .i64 q.z, .int .i64 q.d, .int .i64 q.g]) (T := 23) (T' := 25) (fz := (0, 0)) (fz' := (0, 0)))
  have HL := hid (fun w1 (g : Below w.heap.size w w1) => hl.keep g)
  obtain ⟨a0, cap, rfl⟩ := hl.shape
  have HP := hid (fun W h => places_all r l a b k a2 b2 W q t (.slice a0 p.length cap) p hs h hpm)
  have HLN := hid (fun h => sumsO_len (r := r) (l := l) (a := a) (b := b) (k := k) (a2 := a2) (b2 := b2) (q := q) (t := t) (p := p) h)
  have HNO := hid (fun h => sumsO_no (r := r) (l := l) (a := a) (b := b) (k := k) (a2 := a2) (b2 := b2) (q := q) (t := t) (p := p) h)
  generalize sumsO r l a b k a2 b2 q t p = S at *
  generalize chk4 (canB r l a b k a2 b2) q.vB t p = ce at *
  clear hl hs hpm
  by_cases hce : ce = 0
  · obtain ⟨h1, h2, h3⟩ := HLN.out hce
    subst hce
    have h0 : 0 < (ivN S).length := by rw [ivN_len]; omega
    have hne : S ≠ [] := fun e => by rw [e] at h1; simp at h1; omega
    have HLO := hid (show lowO S = minA (ivN S) by unfold lowO; rw [if_neg hne])
    have HSL := hid (show slowO S = (idxA (ivN S) (minA (ivN S)) : Nat) by unfold slowO; rw [if_neg hne])
    have HMN := hid (fun (W : World) (u : Value) (h : RowI W u (ivN S)) => minA_any u (ivN S) W h h0 (by rw [ivN_len]; omega))
    have HIX := hid (fun (W : World) (u : Value) (h : RowI W u (ivN S)) => index_any u (ivN S) (minA (ivN S)) W h (minA_mem h0) (by rw [ivN_len]; omega))
    generalize minA (ivN S) = mn at *
    clear h0 h1 h2 h3 hne
    go_enter Tryz.func14, Tryz.ntmps14
    go_wp2_with fail
    refine (HP.out _ (HL.out _ HX.out.low)).mono ?_
    rintro e w1 ⟨ub, ud, rfl, hr, hb⟩
    have HX := hid (HX.out.keep hb)
    have HR := hid hr
    clear hb hr
    go_wp2_with fail
    refine (HMN.out _ _ HR.out).mono ?_
    rintro e w2 ⟨rfl, rfl⟩
    go_wp2_with fail
    refine (HIX.out _ _ HR.out).mono ?_
    rintro e w2 ⟨rfl, rfl⟩
    go_wp2_with fail
    refine bodyPost_ret (v := .tuple #[.int .i64 (idxA (ivN S) mn : Nat), .int .i64 mn, .int .i64 0]) (by simp [results, Tryz.results14, go_sem]) rfl ⟨?_, HX.out.low⟩
    rw [HSL.out, HLO.out]
  · have hS := HNO.out hce
    have hc1 : (ce != 0) = true := by simpa using hce
    subst hS
    clear hce HNO
    go_enter Tryz.func14, Tryz.ntmps14
    go_wp2_with fail
    refine (HP.out _ (HL.out _ HX.out.low)).mono ?_
    rintro e w1 ⟨ub, ud, rfl, hr, hb⟩
    have HX := hid (HX.out.keep hb)
    clear hb hr
    go_wp2_with fail
    refine bodyPost_ret (v := .tuple #[.int .i64 0, .int .i64 0, .int .i64 ce]) (by simp [results, Tryz.results14, go_sem]) rfl ⟨?_, HX.out.low⟩
    simp [slowO, lowO]
/-- Whether a can is sterile. -/
def sterO (q : Kl) (f ce : Int) : Bool := decide (ce = 0) && decide (q.g * (q.d * 1000000) ≤ f)
set_option maxRecDepth 20000 in
set_option maxHeartbeats 4000000 in
theorem ster_any (r l a b k a2 b2 : Int) (w : World) (q : Kl) (t : Int) (v : Value) (p : List Int) (hs : q.s.size ≤ maxLen) (hl : RowI w v p) (hpm : p.length ≤ maxLen) :
    Calls Tryz.prog 16 #[.agg #[.int .i64 r, .int .i64 l, .int .i64 a, .int .i64 b, .int .i64 k, .int .i64 a2, .int .i64 b2], .agg #[.string q.s, .int .i64 q.r, .int .i64 q.z, .int .i64 q.d, .int .i64 q.g], .int .i64 t, v] w fun e w' => e = .returned (.tuple #[.bool (sterO q (lowO (sumsO r l a b k a2 b2 q t p)) (chk4 (canB r l a b k a2 b2) q.vB t p)), .int .i64 (chk4 (canB r l a b k a2 b2) q.vB t p)]) ∧ Below w.heap.size w w' := by
  have HX := hid (box2_start (w := w) (A := #[.int .i64 r, .int .i64 l, .int .i64 a, .int .i64 b, .int .i64 k, .int .i64 a2, .int .i64 b2]) (B := #[.string q.s, .int .i64 q.r, .int .i64 q.z, .int .i64 q.d, .int .i64 q.g]) (T := 23) (T' := 25) (fz := (0, 0)) (fz' := (0, 0)))
  have HL := hid (fun w1 (g : Below w.heap.size w w1) => hl.keep g)
  obtain ⟨a0, cap, rfl⟩ := hl.shape
  have HP := hid (fun W h => leth_any r l a b k a2 b2 W q t (.slice a0 p.length cap) p hs h hpm)
  have HZ := hid (fun h => (chk4_zero (vc := canB r l a b k a2 b2) (vk := q.vB) (t := t) (l := p) h).2.1)
  have HND := hid (fun (h : q.vB = true) (W : World) => Lt.needs_yes q.s q.r q.z q.d q.g W hs h)
  generalize slowO (sumsO r l a b k a2 b2 q t p) = sl at *
  generalize lowO (sumsO r l a b k a2 b2 q t p) = lw at *
  generalize chk4 (canB r l a b k a2 b2) q.vB t p = ce at *
  clear hl hs hpm
  by_cases hce : ce = 0
  · have HN := hid (HND.out (HZ.out hce))
    subst hce
    have HE := hid (show sterO q lw 0 = decide (q.g * (q.d * 1000000) ≤ lw) by unfold sterO; simp)
    generalize q.g * (q.d * 1000000) = nd at *
    go_enter Tryz.func16, Tryz.ntmps16
    go_wp2_with fail
    refine (HP.out _ (HL.out _ HX.out.low)).mono ?_
    rintro e w1 ⟨rfl, hb⟩
    have HX := hid (HX.out.keep hb)
    clear hb
    have x0 := HX.out.snd 0; have x1 := HX.out.snd 1; have x2 := HX.out.snd 2; have x3 := HX.out.snd 3; have x4 := HX.out.snd 4
    simp only [List.getElem?_toArray, List.getElem?_cons_zero, List.getElem?_cons_succ] at x0 x1 x2 x3 x4
    go_wp2_with fail
    refine (HN.out _).mono ?_
    rintro e w2 ⟨rfl, hb⟩
    have HX := hid (HX.out.keep hb)
    clear hb
    go_wp2_with fail
    go_ret2
    exact ⟨by rw [HE.out]; rfl, HX.out.low⟩
  · have HE := hid (show sterO q lw ce = false by unfold sterO; simp [hce])
    have hc1 : (ce == 0) = false := by simpa using hce
    clear hce
    go_enter Tryz.func16, Tryz.ntmps16
    go_wp2_with fail
    refine (HP.out _ (HL.out _ HX.out.low)).mono ?_
    rintro e w1 ⟨rfl, hb⟩
    have HX := hid (HX.out.keep hb)
    clear hb
    go_wp2_with fail
    go_ret2
    exact ⟨by rw [HE.out]; rfl, HX.out.low⟩
end Go.Proofs.YtedfajokiblfhaaGreat

/- A slice of ints that comes in, opened, over heat's texts. -/
namespace Go.Proofs.YtedfajokiblfhaaGreat
open Go.ChangeShapes Go.WideShapes Go.ChangeAt Go.RowKit Go.Joins Go.Deep

section
variable {H : Type} {enc : TypeId × Value → H} {w : World} {base : Nat} {spare : Nat → Bool} {held : Bool}
set_option maxRecDepth 100000 in
theorem open_rowI {r : Reach} {b0 : Nat} {v : Value} {d : DataW H} {p : List MemPlace} (hv : Value.okWide Tryz.prog w r b0 28 v) (h : DataW.Trod enc Tryz.prog w base spare held 28 v d p) :
    ∃ l : List Int, RowI w v l := by
  obtain ⟨a0, len, cap, rfl⟩ := okWide_slice Tryz.underlying28 hv
  obtain ⟨fuel, hf⟩ := h
  rcases open_ints Tryz.underlying28 Tryz.underlying3 cellsI hf with ⟨hcs, hx⟩ | ⟨a, len', cap', zs, hcs, _, hl, hm, hz, hx, hcell, hwz⟩
  · simp [Value.cells] at hcs
    obtain ⟨rfl, rfl, rfl⟩ := hcs
    exact ⟨[], .inl ⟨_, _, rfl, rfl⟩⟩
  · simp [Value.cells] at hcs
    obtain ⟨rfl, rfl, rfl⟩ := hcs
    have hz' : len ≤ zs.length := by rw [hz]; split <;> omega
    clear hz
    by_cases hp : 0 < zs.length
    · obtain ⟨b, off, rfl, hc⟩ := ints_at hcell hp
      have ht : (zs.take len).length = len := by rw [List.length_take]; omega
      refine ⟨zs.take len, .inr ⟨b, off, cap, by rw [ht], by rw [ht]; omega, fun k hk => ?_⟩⟩
      rw [ht] at hk
      rw [hc k (by omega), List.getElem_take]
      simp [List.getD, show k < zs.length by omega]
    · obtain rfl : len = 0 := by omega
      exact ⟨[], .inl ⟨_, _, rfl, rfl⟩⟩
end
end Go.Proofs.YtedfajokiblfhaaGreat

/- What comes in for a Food; small4, awake4: contracts. -/
namespace Go.Proofs.YtedfajokiblfhaaGreat
open Go.ChangeShapes Go.WideShapes Go.ChangeAt Go.RowKit Go.Joins Go.Deep
open Go.ChangeMaps (open_string shut_string)

theorem cellsFd : Tryz.prog.cellsOf 27 = 13 := by kernel_rfl
theorem cellsKl : Tryz.prog.cellsOf 25 = 5 := by kernel_rfl
theorem cellsSt : Tryz.prog.cellsOf 9 = 1 := by kernel_rfl
section
variable {H : Type} {enc : TypeId × Value → H} {w : World} {base : Nat} {spare : Nat → Bool} {held : Bool}
set_option maxRecDepth 100000 in
theorem trod_killer {n : Nat} {c0 c1 c2 c3 c4 : Value} {y : DataW H × List MemPlace} (h : DataW.trod enc Tryz.prog w base spare held n 25 [c0, c1, c2, c3, c4] = some y) :
    ∃ q : Kl, c0 = .string q.s ∧ c1 = .int .i64 q.r ∧ c2 = .int .i64 q.z ∧ c3 = .int .i64 q.d ∧ c4 = .int .i64 q.g ∧ q.s.size ≤ maxLen := by
  obtain ⟨xs, m, _, hx, _, hlen, hg⟩ := DataW.trod_struct Tryz.underlying25 h
  match xs, hlen with
  | [y0, y1, y2, y3, y4], _ =>
    have g0 := hg 0 _ rfl; have g1 := hg 1 _ rfl; have g2 := hg 2 _ rfl; have g3 := hg 3 _ rfl; have g4 := hg 4 _ rfl
    simp [cellsI, cellsSt] at g0 g1 g2 g3 g4
    obtain ⟨s, e0, _, ws⟩ := DataW.trod_string Tryz.underlying9 g0
    obtain ⟨n1, e1, _⟩ := DataW.trod_int Tryz.underlying3 g1
    obtain ⟨n2, e2, _⟩ := DataW.trod_int Tryz.underlying3 g2
    obtain ⟨n3, e3, _⟩ := DataW.trod_int Tryz.underlying3 g3
    obtain ⟨n4, e4, _⟩ := DataW.trod_int Tryz.underlying3 g4
    simp at e0 e1 e2 e3 e4
    exact ⟨⟨s, n1, n2, n3, n4⟩, e0, e1, e2, e3, e4, ws⟩
set_option maxRecDepth 100000 in
theorem open_food {rr : Reach} {b0 : Nat} {v : Value} {d : DataW H} {p : List MemPlace} (hv : Value.okWide Tryz.prog w rr b0 27 v) (h : DataW.Trod enc Tryz.prog w base spare held 27 v d p) :
    ∃ (r l a b k a2 b2 : Int) (q : Kl) (t : Int), v = .agg #[.int .i64 r, .int .i64 l, .int .i64 a, .int .i64 b, .int .i64 k, .int .i64 a2, .int .i64 b2, .string q.s, .int .i64 q.r, .int .i64 q.z, .int .i64 q.d, .int .i64 q.g, .int .i64 t] ∧ q.s.size ≤ maxLen ∧ (Lit.int .i64 t).wf = true := by
  obtain ⟨cs, rfl, hsz⟩ := okWide_struct Tryz.underlying27 hv
  obtain ⟨ls⟩ := cs
  match ls, hsz.trans cellsFd with
  | [c0, c1, c2, c3, c4, c5, c6, c7, c8, c9, c10, c11, c12], _ =>
    obtain ⟨fuel, hf⟩ := h
    obtain ⟨xs, n, _, hx, _, hlen, hg⟩ := DataW.trod_struct Tryz.underlying27 hf
    match xs, hlen with
    | [y0, y1, y2], _ =>
      have g0 := hg 0 _ rfl; have g1 := hg 1 _ rfl; have g2 := hg 2 _ rfl
      simp [Value.cells, cellsC, cellsKl, cellsI] at g0 g1 g2
      obtain ⟨r, l, a, b, k, a2, b2, rfl, rfl, rfl, rfl, rfl, rfl, rfl⟩ := trod_can g0
      obtain ⟨q, rfl, rfl, rfl, rfl, rfl, ws⟩ := trod_killer g1
      obtain ⟨t, e2, _, wt⟩ := DataW.trod_int Tryz.underlying3 g2
      simp at e2
      subst e2
      exact ⟨r, l, a, b, k, a2, b2, q, t, rfl, ws, wt⟩
end

/-- Whether a can is small, and its baths few. -/
def smallB (r l : Int) (n m : Nat) : Bool := (decide (r ≤ 3) && decide (l ≤ 4)) && decide (n ≤ m)
def kl0 : Kl := ⟨⟨#[97]⟩, 484, 40, 13, 12⟩
theorem aw4_rate : Lt.Pm.rateD 484 40 484 = 1000000 := by
  have h := Lt.Pm.rateD_whole (r := 484) (z := 40) (t := 484) (by decide) (by decide) (by decide)
  rw [h]
  decide
theorem aw4_chk : chk4 (canB 1 1 100 50 0 0 0) kl0.vB 121000 [121000, 121000] = 0 := by decide +kernel
theorem aw4_sums : sumsO 1 1 100 50 0 0 0 kl0 121000 [121000, 121000] = [2000000] := by
  have hc : (⟨1, 1, 100, 50, 0, 0, 0⟩ : Cn).V := by unfold Cn.V; decide
  have he := tickS_even hc.ok 121000
  have e0 : cnOf 1 1 100 50 0 0 0 = ⟨1, 1, 100, 50, 0, 0, 0⟩ := rfl
  unfold sumsO
  rw [if_pos aw4_chk, e0]
  show addD _ (addD _ (List.replicate 1 0) (tickS _ (evB _ 121000) 121000).1) (tickS _ (tickS _ (evB _ 121000) 121000) 121000).1 = _
  rw [he, he]
  show [Lt.cutN (Lt.cutN 0 (Lt.Pm.rateD 484 40 484)) (Lt.Pm.rateD 484 40 484)] = _
  rw [aw4_rate]
  rfl
theorem two_row {W : World} {n : Nat} (x y : Int) (T : TypeId) (h : W.heap.size = n) : RowI (W.alloc (.cells #[.int .i64 x, .int .i64 y] T)) (.slice (some ⟨n, 0, none⟩) 2 2) [x, y] := by
  subst h
  refine .inr ⟨W.heap.size, 0, 2, rfl, by simp [maxLen], fun k hk => ?_⟩
  match k, hk with
  | 0, _ => exact cell_alloc_new W _ T (0, 0) 0
  | 1, _ => exact cell_alloc_new W _ T (0, 0) 1
end Go.Proofs.YtedfajokiblfhaaGreat
