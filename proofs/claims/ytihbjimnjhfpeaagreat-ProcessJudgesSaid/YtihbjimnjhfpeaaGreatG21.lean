/- Texts of this seat, one behind the other. -/
import Derived.Test.YtihbjimnjhfpeaaGreatPci
import Derived.Test.YtihbjimnjhfpeaaGreatG06
import Derived.Test.YtihbjimnjhfpeaaGreatG05
import Derived.Test.YtihbjimnjhfpeaaGreatG13
import Derived.ShutString
import Derived.Test.YtihbjimnjhfpeaaGreatG01
/- Places, Lethality, Sterile whatever comes in: contracts. -/
namespace Go.Proofs.YtihbjimnjhfpeaaGreat
open Go.RowKit Go.Lib

theorem kl_of {q : Kl} (h : q.vB = true) : ∃ Z : Nat, q.z = Z ∧ Lt.validB q.s.data.toList q.r Z q.d q.g = true := by
  have hv : Lt.validB q.s.data.toList q.r q.z q.d q.g = true := h
  have hz := (Lt.validB_iff.1 hv).2.2.1
  obtain ⟨Z, e⟩ := Int.eq_ofNat_of_zero_le (show 0 ≤ q.z by omega)
  exact ⟨Z, e, by rw [← e]; exact hv⟩
theorem places_all (r l a b k a2 b2 : Int) (w : World) (q : Kl) (t : Int) (v : Value) (p : List Int) (hs : q.s.size ≤ maxLen) (hl : RowI w v p) (hpm : p.length ≤ maxLen) :
    Calls Tryz.prog 93 #[.agg #[.int .i64 r, .int .i64 l, .int .i64 a, .int .i64 b, .int .i64 k, .int .i64 a2, .int .i64 b2], .agg #[.string q.s, .int .i64 q.r, .int .i64 q.z, .int .i64 q.d, .int .i64 q.g], .int .i64 t, v] w (PlacesP (sumsO r l a b k a2 b2 q t p) (chk4 (canB r l a b k a2 b2) q.vB t p) w) := by
  by_cases h : chk4 (canB r l a b k a2 b2) q.vB t p = 0
  · obtain ⟨hc, hk, ho, hop, hlen⟩ := chk4_zero h
    obtain ⟨c, hcv, rfl, rfl, rfl, rfl, rfl, rfl, rfl⟩ := canB_cn hc
    obtain ⟨Z, hz, hv⟩ := kl_of hk
    have hso : sumsO c.R c.L c.A c.B c.K c.A2 c.B2 q t p = (dishR c (fun x => Lt.Pm.rateD q.r Z (x / 250)) (dish0 c t) p).2 := by
      unfold sumsO; rw [if_pos h, cnOf_cn, hz]
    rw [hso, h, hz]
    exact places_ok c q.s q.r q.d q.g t Z v p w hs hcv hv ho hop hlen hl
  · rw [sumsO_no h]
    exact places_err r l a b k a2 b2 w q t v p hs hl hpm h
theorem sumsO_len {r l a b k a2 b2 : Int} {q : Kl} {t : Int} {p : List Int} (h : chk4 (canB r l a b k a2 b2) q.vB t p = 0) : (sumsO r l a b k a2 b2 q t p).length = (cnOf r l a b k a2 b2).P ∧ 1 ≤ (cnOf r l a b k a2 b2).P ∧ (cnOf r l a b k a2 b2).P ≤ 48 := by
  obtain ⟨hc, hk, ho, hop, hlen⟩ := chk4_zero h
  obtain ⟨c, hcv, rfl, rfl, rfl, rfl, rfl, rfl, rfl⟩ := canB_cn hc
  unfold sumsO
  rw [if_pos h, cnOf_cn]
  exact ⟨((dish0_good ho).run hcv.ok hop).len, hcv.ok.p.1, hcv.ok.p.2⟩
/-- What Lethality hands back: the slowest place, and its lethality. -/
def lowO (S : List Nat) : Int := if S = [] then 0 else minA (ivN S)
def slowO (S : List Nat) : Int := if S = [] then 0 else (idxA (ivN S) (minA (ivN S)) : Nat)
set_option maxRecDepth 20000 in
set_option maxHeartbeats 4000000 in
theorem leth_any (r l a b k a2 b2 : Int) (w : World) (q : Kl) (t : Int) (v : Value) (p : List Int) (hs : q.s.size ≤ maxLen) (hl : RowI w v p) (hpm : p.length ≤ maxLen) :
    Calls Tryz.prog 56 #[.agg #[.int .i64 r, .int .i64 l, .int .i64 a, .int .i64 b, .int .i64 k, .int .i64 a2, .int .i64 b2], .agg #[.string q.s, .int .i64 q.r, .int .i64 q.z, .int .i64 q.d, .int .i64 q.g], .int .i64 t, v] w fun e w' => e = .returned (.tuple #[.int .i64 (slowO (sumsO r l a b k a2 b2 q t p)), .int .i64 (lowO (sumsO r l a b k a2 b2 q t p)), .int .i64 (chk4 (canB r l a b k a2 b2) q.vB t p)]) ∧ Below w.heap.size w w' := by
  have HX := hid (box2_start (w := w) (A := #[.int .i64 r, .int .i64 l, .int .i64 a, .int .i64 b, .int .i64 k, .int .i64 a2, .int .i64 b2]) (B := #[.string q.s, .int .i64 q.r, .int .i64 q.z, .int .i64 q.d, .int .i64 q.g]) (T := 23) (T' := 25) (fz := (0, 0)) (fz' := (0, 0)))
  have HL := hid (fun w1 (g : Below w.heap.size w w1) => hl.keep g)
  obtain ⟨a0, cap, rfl⟩ := hl.shape
  have HP := hid (fun W h => places_all r l a b k a2 b2 W q t (.slice a0 p.length cap) p hs h hpm)
  have HLN := hid (fun h => sumsO_len (r := r) (l := l) (a := a) (b := b) (k := k) (a2 := a2) (b2 := b2) (q := q) (t := t) (p := p) h)
  have HNO := hid (fun h => sumsO_no (r := r) (l := l) (a := a) (b := b) (k := k) (a2 := a2) (b2 := b2) (q := q) (t := t) (p := p) h)
  generalize sumsO r l a b k a2 b2 q t p = S at *
  generalize chk4 (canB r l a b k a2 b2) q.vB t p = ce at *
  clear hl hs hpm
  by_cases hce : ce = 0
  · obtain ⟨h1, h2, h3⟩ := HLN.out hce
    subst hce
    have h0 : 0 < (ivN S).length := by rw [ivN_len]; omega
    have hne : S ≠ [] := fun e => by rw [e] at h1; simp at h1; omega
    have HLO := hid (show lowO S = minA (ivN S) by unfold lowO; rw [if_neg hne])
    have HSL := hid (show slowO S = (idxA (ivN S) (minA (ivN S)) : Nat) by unfold slowO; rw [if_neg hne])
    have HMN := hid (fun (W : World) (u : Value) (h : RowI W u (ivN S)) => minA_any u (ivN S) W h h0 (by rw [ivN_len]; omega))
    have HIX := hid (fun (W : World) (u : Value) (h : RowI W u (ivN S)) => index_any u (ivN S) (minA (ivN S)) W h (minA_mem h0) (by rw [ivN_len]; omega))
    generalize minA (ivN S) = mn at *
    clear h0 h1 h2 h3 hne
    go_enter Tryz.func56, Tryz.ntmps56
    go_wp2_with fail
    refine (HP.out _ (HL.out _ HX.out.low)).mono ?_
    rintro e w1 ⟨ub, ud, rfl, hr, hb⟩
    have HX := hid (HX.out.keep hb)
    have HR := hid hr
    clear hb hr
    go_wp2_with fail
    refine (HMN.out _ _ HR.out).mono ?_
    rintro e w2 ⟨rfl, rfl⟩
    go_wp2_with fail
    refine (HIX.out _ _ HR.out).mono ?_
    rintro e w2 ⟨rfl, rfl⟩
    go_wp2_with fail
    refine bodyPost_ret (v := .tuple #[.int .i64 (idxA (ivN S) mn : Nat), .int .i64 mn, .int .i64 0]) (by simp [results, Tryz.results56, go_sem]) rfl ⟨?_, HX.out.low⟩
    rw [HSL.out, HLO.out]
  · have hS := HNO.out hce
    have hc1 : (ce != 0) = true := by simpa using hce
    subst hS
    clear hce HNO
    go_enter Tryz.func56, Tryz.ntmps56
    go_wp2_with fail
    refine (HP.out _ (HL.out _ HX.out.low)).mono ?_
    rintro e w1 ⟨ub, ud, rfl, hr, hb⟩
    have HX := hid (HX.out.keep hb)
    clear hb hr
    go_wp2_with fail
    refine bodyPost_ret (v := .tuple #[.int .i64 0, .int .i64 0, .int .i64 ce]) (by simp [results, Tryz.results56, go_sem]) rfl ⟨?_, HX.out.low⟩
    simp [slowO, lowO]
/-- Whether a can is sterile. -/
def sterO (q : Kl) (f ce : Int) : Bool := decide (ce = 0) && decide (q.g * (q.d * 1000000) ≤ f)
set_option maxRecDepth 20000 in
set_option maxHeartbeats 4000000 in
theorem ster_any (r l a b k a2 b2 : Int) (w : World) (q : Kl) (t : Int) (v : Value) (p : List Int) (hs : q.s.size ≤ maxLen) (hl : RowI w v p) (hpm : p.length ≤ maxLen) :
    Calls Tryz.prog 19 #[.agg #[.int .i64 r, .int .i64 l, .int .i64 a, .int .i64 b, .int .i64 k, .int .i64 a2, .int .i64 b2], .agg #[.string q.s, .int .i64 q.r, .int .i64 q.z, .int .i64 q.d, .int .i64 q.g], .int .i64 t, v] w fun e w' => e = .returned (.tuple #[.bool (sterO q (lowO (sumsO r l a b k a2 b2 q t p)) (chk4 (canB r l a b k a2 b2) q.vB t p)), .int .i64 (chk4 (canB r l a b k a2 b2) q.vB t p)]) ∧ Below w.heap.size w w' := by
  have HX := hid (box2_start (w := w) (A := #[.int .i64 r, .int .i64 l, .int .i64 a, .int .i64 b, .int .i64 k, .int .i64 a2, .int .i64 b2]) (B := #[.string q.s, .int .i64 q.r, .int .i64 q.z, .int .i64 q.d, .int .i64 q.g]) (T := 23) (T' := 25) (fz := (0, 0)) (fz' := (0, 0)))
  have HL := hid (fun w1 (g : Below w.heap.size w w1) => hl.keep g)
  obtain ⟨a0, cap, rfl⟩ := hl.shape
  have HP := hid (fun W h => leth_any r l a b k a2 b2 W q t (.slice a0 p.length cap) p hs h hpm)
  have HZ := hid (fun h => (chk4_zero (vc := canB r l a b k a2 b2) (vk := q.vB) (t := t) (l := p) h).2.1)
  have HND := hid (fun (h : q.vB = true) (W : World) => Lt.needs_yes q.s q.r q.z q.d q.g W hs h)
  generalize slowO (sumsO r l a b k a2 b2 q t p) = sl at *
  generalize lowO (sumsO r l a b k a2 b2 q t p) = lw at *
  generalize chk4 (canB r l a b k a2 b2) q.vB t p = ce at *
  clear hl hs hpm
  by_cases hce : ce = 0
  · have HN := hid (HND.out (HZ.out hce))
    subst hce
    have HE := hid (show sterO q lw 0 = decide (q.g * (q.d * 1000000) ≤ lw) by unfold sterO; simp)
    generalize q.g * (q.d * 1000000) = nd at *
    go_enter Tryz.func19, Tryz.ntmps19
    go_wp2_with fail
    refine (HP.out _ (HL.out _ HX.out.low)).mono ?_
    rintro e w1 ⟨rfl, hb⟩
    have HX := hid (HX.out.keep hb)
    clear hb
    have x0 := HX.out.snd 0; have x1 := HX.out.snd 1; have x2 := HX.out.snd 2; have x3 := HX.out.snd 3; have x4 := HX.out.snd 4
    simp only [List.getElem?_toArray, List.getElem?_cons_zero, List.getElem?_cons_succ] at x0 x1 x2 x3 x4
    go_wp2_with fail
    refine (HN.out _).mono ?_
    rintro e w2 ⟨rfl, hb⟩
    have HX := hid (HX.out.keep hb)
    clear hb
    go_wp2_with fail
    go_ret2
    exact ⟨by rw [HE.out]; rfl, HX.out.low⟩
  · have HE := hid (show sterO q lw ce = false by unfold sterO; simp [hce])
    have hc1 : (ce == 0) = false := by simpa using hce
    clear hce
    go_enter Tryz.func19, Tryz.ntmps19
    go_wp2_with fail
    refine (HP.out _ (HL.out _ HX.out.low)).mono ?_
    rintro e w1 ⟨rfl, hb⟩
    have HX := hid (HX.out.keep hb)
    clear hb
    go_wp2_with fail
    go_ret2
    exact ⟨by rw [HE.out]; rfl, HX.out.low⟩
end Go.Proofs.YtihbjimnjhfpeaaGreat

/- A slice of ints that comes in, opened, over heat's texts. -/
namespace Go.Proofs.YtihbjimnjhfpeaaGreat
open Go.ChangeShapes Go.WideShapes Go.ChangeAt Go.RowKit Go.Joins Go.Deep

section
variable {H : Type} {enc : TypeId × Value → H} {w : World} {base : Nat} {spare : Nat → Bool} {held : Bool}
end
end Go.Proofs.YtihbjimnjhfpeaaGreat

/- What comes in for a Food; small4, awake4: contracts. -/
namespace Go.Proofs.YtihbjimnjhfpeaaGreat
open Go.ChangeShapes Go.WideShapes Go.ChangeAt Go.RowKit Go.Joins Go.Deep
open Go.ChangeMaps (open_string shut_string)

theorem cellsFd : Tryz.prog.cellsOf 27 = 13 := by kernel_rfl
theorem cellsKl : Tryz.prog.cellsOf 25 = 5 := by kernel_rfl
theorem cellsSt : Tryz.prog.cellsOf 9 = 1 := by kernel_rfl
section
variable {H : Type} {enc : TypeId × Value → H} {w : World} {base : Nat} {spare : Nat → Bool} {held : Bool}
set_option maxRecDepth 100000 in
theorem trod_killer {n : Nat} {c0 c1 c2 c3 c4 : Value} {y : DataW H × List MemPlace} (h : DataW.trod enc Tryz.prog w base spare held n 25 [c0, c1, c2, c3, c4] = some y) :
    ∃ q : Kl, c0 = .string q.s ∧ c1 = .int .i64 q.r ∧ c2 = .int .i64 q.z ∧ c3 = .int .i64 q.d ∧ c4 = .int .i64 q.g ∧ q.s.size ≤ maxLen := by
  obtain ⟨xs, m, _, hx, _, hlen, hg⟩ := DataW.trod_struct Tryz.underlying25 h
  match xs, hlen with
  | [y0, y1, y2, y3, y4], _ =>
    have g0 := hg 0 _ rfl; have g1 := hg 1 _ rfl; have g2 := hg 2 _ rfl; have g3 := hg 3 _ rfl; have g4 := hg 4 _ rfl
    simp [cellsI, cellsSt] at g0 g1 g2 g3 g4
    obtain ⟨s, e0, _, ws⟩ := DataW.trod_string Tryz.underlying9 g0
    obtain ⟨n1, e1, _⟩ := DataW.trod_int Tryz.underlying3 g1
    obtain ⟨n2, e2, _⟩ := DataW.trod_int Tryz.underlying3 g2
    obtain ⟨n3, e3, _⟩ := DataW.trod_int Tryz.underlying3 g3
    obtain ⟨n4, e4, _⟩ := DataW.trod_int Tryz.underlying3 g4
    simp at e0 e1 e2 e3 e4
    exact ⟨⟨s, n1, n2, n3, n4⟩, e0, e1, e2, e3, e4, ws⟩
set_option maxRecDepth 100000 in
theorem open_food {rr : Reach} {b0 : Nat} {v : Value} {d : DataW H} {p : List MemPlace} (hv : Value.okWide Tryz.prog w rr b0 27 v) (h : DataW.Trod enc Tryz.prog w base spare held 27 v d p) :
    ∃ (r l a b k a2 b2 : Int) (q : Kl) (t : Int), v = .agg #[.int .i64 r, .int .i64 l, .int .i64 a, .int .i64 b, .int .i64 k, .int .i64 a2, .int .i64 b2, .string q.s, .int .i64 q.r, .int .i64 q.z, .int .i64 q.d, .int .i64 q.g, .int .i64 t] ∧ q.s.size ≤ maxLen ∧ (Lit.int .i64 t).wf = true := by
  obtain ⟨cs, rfl, hsz⟩ := okWide_struct Tryz.underlying27 hv
  obtain ⟨ls⟩ := cs
  match ls, hsz.trans cellsFd with
  | [c0, c1, c2, c3, c4, c5, c6, c7, c8, c9, c10, c11, c12], _ =>
    obtain ⟨fuel, hf⟩ := h
    obtain ⟨xs, n, _, hx, _, hlen, hg⟩ := DataW.trod_struct Tryz.underlying27 hf
    match xs, hlen with
    | [y0, y1, y2], _ =>
      have g0 := hg 0 _ rfl; have g1 := hg 1 _ rfl; have g2 := hg 2 _ rfl
      simp [Value.cells, cellsC, cellsKl, cellsI] at g0 g1 g2
      obtain ⟨r, l, a, b, k, a2, b2, rfl, rfl, rfl, rfl, rfl, rfl, rfl⟩ := trod_can g0
      obtain ⟨q, rfl, rfl, rfl, rfl, rfl, ws⟩ := trod_killer g1
      obtain ⟨t, e2, _, wt⟩ := DataW.trod_int Tryz.underlying3 g2
      simp at e2
      subst e2
      exact ⟨r, l, a, b, k, a2, b2, q, t, rfl, ws, wt⟩
end

/-- Whether a can is small, and its baths few. -/
def smallB (r l : Int) (n m : Nat) : Bool := (decide (r ≤ 3) && decide (l ≤ 4)) && decide (n ≤ m)
def kl0 : Kl := ⟨⟨#[97]⟩, 484, 40, 13, 12⟩
theorem aw4_rate : Lt.Pm.rateD 484 40 484 = 1000000 := by
  have h := Lt.Pm.rateD_whole (r := 484) (z := 40) (t := 484) (by decide) (by decide) (by decide)
  rw [h]
  decide
theorem two_row {W : World} {n : Nat} (x y : Int) (T : TypeId) (h : W.heap.size = n) : RowI (W.alloc (.cells #[.int .i64 x, .int .i64 y] T)) (.slice (some ⟨n, 0, none⟩) 2 2) [x, y] := by
  subst h
  refine .inr ⟨W.heap.size, 0, 2, rfl, by simp [maxLen], fun k hk => ?_⟩
  match k, hk with
  | 0, _ => exact cell_alloc_new W _ T (0, 0) 0
  | 1, _ => exact cell_alloc_new W _ T (0, 0) 1
end Go.Proofs.YtihbjimnjhfpeaaGreat

/- Walk of TopSterile. -/
namespace Go.Proofs.YtihbjimnjhfpeaaGreat
open Go.RowKit Go.Lib

end Go.Proofs.YtihbjimnjhfpeaaGreat

/- Plain facts of programs and records: what the laws of layer 3 speak of. -/
namespace Go.Proofs.YtihbjimnjhfpeaaGreat.Rt
open Go.RowKit

/-- A reading, a step, a deviation. -/
structure Rd where
  s : Int
  t : Int
  c : Int
  b : Int
structure St where
  k : Int
  s : Int
  n : Int
structure Tri where
  x : Int
  y : Int
  z : Int
/-- All numbers below n meet a test. -/
def allB (n : Nat) (p : Nat → Bool) : Bool := (List.range n).all p
theorem allB_iff {n : Nat} {p : Nat → Bool} : allB n p = true ↔ ∀ j, j < n → p j = true := by simp [allB]
theorem allB_end {n : Nat} {p : Nat → Bool} (h : ∀ j, j < n → p j = true) : allB n p = true := allB_iff.2 h
theorem allB_bad {n k : Nat} {p : Nat → Bool} (hk : k < n) (h : p k = false) : allB n p = false := by
  rw [Bool.eq_false_iff]
  intro h0
  rw [allB_iff.1 h0 k hk] at h
  cases h
theorem all_step {p : Nat → Bool} {k : Nat} (h : ∀ j, j < k → p j = true) (hp : p k = true) : ∀ j, j < k + 1 → p j = true := by
  intro j hj
  rcases Nat.lt_or_ge j k with h1 | h1
  · exact h j h1
  · obtain rfl : j = k := by omega
    exact hp
/-- Two numbers around one. -/
def inB (a b c : Int) : Bool := decide (b ≤ a) && decide (a ≤ c)
theorem inB_iff {a b c : Int} : inB a b c = true ↔ b ≤ a ∧ a ≤ c := by simp [inB]
theorem inB_not {a b c : Int} : inB a b c = false ↔ ¬ (b ≤ a ∧ a ≤ c) := by rw [← inB_iff]; simp

/-- A step that is valid. -/
def loK (k : Int) : Int := if k = 1 ∨ k = 2 then 0 else 1
def hiK (k : Int) : Int := if k = 2 then 0 else 2000
def stepB (x : St) : Bool := inB x.k 1 4 && inB x.s 0 200000 && inB x.n (loK x.k) (hiK x.k)
/-- A program that is valid. -/
def progB (m : Nat) (p : Nat → St) : Bool := inB m 1 16 && allB m fun i => stepB (p i)
/-- A reading within bounds. -/
def readB (x : Rd) : Bool := inB x.t (-1000000) 1000000 && inB x.c (-1000000) 1000000 && inB x.b (-1000000) 1000000
/-- What the step of a reading may be. -/
def loS (r : Nat → Rd) : Nat → Int
  | 0 => 0
  | i + 1 => (r i).s
def hiS (m : Nat) (r : Nat → Rd) : Nat → Int
  | 0 => 0
  | i + 1 => min ((r i).s + 1) ((m : Int) - 1)
def recAt (m : Nat) (r : Nat → Rd) (i : Nat) : Bool := inB (r i).s (loS r i) (hiS m r i) && readB (r i)
/-- A record that is valid for a program. -/
def recB (m : Nat) (p : Nat → St) (n : Nat) (r : Nat → Rd) : Bool := progB m p && decide (n ≤ 2000) && allB n (recAt m r)
theorem recB_iff {m : Nat} {p : Nat → St} {n : Nat} {r : Nat → Rd} : recB m p n r = true ↔ progB m p = true ∧ n ≤ 2000 ∧ ∀ j, j < n → recAt m r j = true := by
  simp only [recB, Bool.and_eq_true, allB_iff, decide_eq_true_iff, and_assoc]
theorem progB_iff {m : Nat} {p : Nat → St} : progB m p = true ↔ (1 ≤ (m : Int) ∧ (m : Int) ≤ 16) ∧ ∀ j, j < m → stepB (p j) = true := by
  simp only [progB, Bool.and_eq_true, allB_iff, inB_iff]

/-- A mark. -/
def mkB (n e i : Nat) : Bool := decide (i % e = 0) || decide (i + 1 = n)
/-- The baths of the marks among the first k readings. -/
def marksL (r : Nat → Rd) (n e k : Nat) : List Int := ((List.range k).filter (mkB n e)).map fun i => (r i).b
/-- The baths of the first k readings. -/
def bathsL (r : Nat → Rd) (k : Nat) : List Int := (List.range k).map fun i => (r i).b
theorem bathsL_succ (r : Nat → Rd) (k : Nat) : bathsL r (k + 1) = bathsL r k ++ [(r k).b] := by simp [bathsL, List.range_succ]
theorem bathsL_len (r : Nat → Rd) (k : Nat) : (bathsL r k).length = k := by simp [bathsL]
/-- The mark behind a reading that is none. -/
def nextM (n e i : Nat) : Nat := min (i - i % e + e) (n - 1)
/-- What is credited. -/
def credAt (r : Nat → Rd) (n e i : Nat) : Int := if mkB n e i then (r i).b else min (r (i - i % e)).b (r (nextM n e i)).b
def credL (r : Nat → Rd) (n e k : Nat) : List Int := (List.range k).map (credAt r n e)
/-- Credit done for the first k of n readings: the others have their baths. -/
def midC (r : Nat → Rd) (n e k : Nat) : List Int := (List.range n).map fun i => if i < k then credAt r n e i else (r i).b
/-- Records that are equal. -/
def eqB (a b : Rd) : Bool := decide (a.s = b.s) && decide (a.t = b.t) && decide (a.c = b.c) && decide (a.b = b.b)
def sameR (n m : Nat) (r q : Nat → Rd) : Bool := decide (n = m) && allB n fun i => eqB (r i) (q i)
/-- The first reading whose chart is too high. -/
def highB (r : Nat → Rd) (i : Nat) : Bool := decide ((r i).t < (r i).c)
def highN (n : Nat) (r : Nat → Rd) : Int := match (List.range n).find? (highB r) with | some i => (i : Int) | none => -1
theorem highN_none {n : Nat} {r : Nat → Rd} (h : ∀ j, j < n → highB r j = false) : highN n r = -1 := by
  unfold highN
  rw [List.find?_eq_none.2 (fun j hj => by rw [h j (List.mem_range.1 hj)]; simp)]
theorem highN_some {n k : Nat} {r : Nat → Rd} (hk : k < n) (h : ∀ j, j < k → highB r j = false) (hb : highB r k = true) : highN n r = k := by
  unfold highN
  have : (List.range n).find? (highB r) = some k := by
    rw [List.find?_eq_some_iff_append]
    refine ⟨hb, List.range k, List.map (k + 1 + ·) (List.range (n - (k + 1))), ?_, fun a ha => by rw [h a (List.mem_range.1 ha)]; rfl⟩
    have h1 := List.range_add (n := k + 1) (m := n - (k + 1))
    rw [show k + 1 + (n - (k + 1)) = n by omega] at h1
    rw [h1, List.range_succ, List.append_assoc]
    rfl
  rw [this]
end Go.Proofs.YtihbjimnjhfpeaaGreat.Rt
