/- Texts of this seat, one behind the other. -/
import Derived.Test.YtihbjimnjhfpeaaGreatPch
import Derived.Test.YtihbjimnjhfpeaaGreatR06
import Derived.Test.YtihbjimnjhfpeaaGreatR05
/- Walk of Places: contract. -/
namespace Go.Proofs.YtihbjimnjhfpeaaGreat
open Go.RowKit Go.Lib

/-- What a meter's rates are, once meterDown has made them. -/
theorem rateOk_down {g : Int → Nat} {lo tlo thi : Int} {n kb mb : Nat} {W1 : World} (hD : DnI g lo n kb mb W1) (hq : ∀ t : Int, tlo ≤ t → t ≤ thi → lo ≤ t / 250 ∧ t / 250 < lo + n) (h1 : -50000 ≤ tlo) (h2 : thi ≤ 200000) (hg : ∀ q, g q ≤ 100000000000000000) :
    RateOk 113 #[.pointer (some ⟨kb, 0, none⟩)] (fun t => g (t / 250)) tlo thi mb W1.heap.size (fun W => DnI g lo n kb mb W ∧ W1.heap.size ≤ W.heap.size) where
  enter := fun args W => enter_at Tryz.func113 (by kernel_rfl) (by kernel_rfl) args W
  call := fun W t hI a b => by
    obtain ⟨hd, hs⟩ := hI
    obtain ⟨q1, q2⟩ := hq t a b
    refine (rate1_any g lo t n kb mb W (cell_of_row _ _ 0 _ _ _ hd.box) hd.map q1 q2 (by omega) (by omega)).mono ?_
    rintro e w' ⟨rfl, m, rfl⟩
    exact ⟨rfl, ⟨⟨hd.box, hd.map⟩, hs⟩, ⟨rfl, rfl, rfl, Nat.le_refl _, fun _ _ _ => rfl⟩⟩
  keep := fun W W' row hI hg hr => by
    have hk := lt_of_block hD.box
    have hm := hD.map.lt
    exact ⟨hI.1.kept hg (fun e => by have := hr _ e.symm; omega) (fun e => by have := hr _ e.symm; omega), Nat.le_trans hI.2 hg.size⟩
  isM := fun W hI => hI.1.map.isMap
  lt := hD.map.lt
  le := fun W hI => hI.2
  fle := fun t => hg _

/-- What Places hands back. -/
def sumsO (r l a b k a2 b2 : Int) (q : Kl) (t : Int) (p : List Int) : List Nat :=
  if chk4 (canB r l a b k a2 b2) q.vB t p = 0 then (dishR (cnOf r l a b k a2 b2) (fun x => Lt.Pm.rateD q.r q.z (x / 250)) (dish0 (cnOf r l a b k a2 b2) t) p).2 else []
theorem sumsO_no {r l a b k a2 b2 : Int} {q : Kl} {t : Int} {p : List Int} (h : chk4 (canB r l a b k a2 b2) q.vB t p ≠ 0) : sumsO r l a b k a2 b2 q t p = [] := by unfold sumsO; rw [if_neg h]
def PlacesP (L : List Nat) (e0 : Int) (w : World) (e : Ending) (w' : World) : Prop :=
  ∃ (ub : Option Addr) (ud : Nat), e = .returned (.tuple #[.slice ub L.length ud, .int .i64 e0]) ∧ RowI w' (.slice ub L.length ud) (ivN L) ∧ Below w.heap.size w w'

set_option maxRecDepth 100000 in
set_option maxHeartbeats 4000000 in
theorem places_err (r l a b k a2 b2 : Int) (w : World) (q : Kl) (t : Int) (v : Value) (p : List Int) (hs : q.s.size ≤ maxLen) (hl : RowI w v p) (hpm : p.length ≤ maxLen) (hne : chk4 (canB r l a b k a2 b2) q.vB t p ≠ 0) :
    Calls Tryz.prog 93 #[.agg #[.int .i64 r, .int .i64 l, .int .i64 a, .int .i64 b, .int .i64 k, .int .i64 a2, .int .i64 b2], .agg #[.string q.s, .int .i64 q.r, .int .i64 q.z, .int .i64 q.d, .int .i64 q.g], .int .i64 t, v] w (PlacesP [] (chk4 (canB r l a b k a2 b2) q.vB t p) w) := by
  have HX := hid (box2_start (w := w) (A := #[.int .i64 r, .int .i64 l, .int .i64 a, .int .i64 b, .int .i64 k, .int .i64 a2, .int .i64 b2]) (B := #[.string q.s, .int .i64 q.r, .int .i64 q.z, .int .i64 q.d, .int .i64 q.g]) (T := 23) (T' := 25) (fz := (0, 0)) (fz' := (0, 0)))
  have HL := hid (fun w1 (g : Below w.heap.size w w1) => hl.keep g)
  obtain ⟨a0, cap, rfl⟩ := hl.shape
  have HC := hid (fun W h => pcheck_any r l a b k a2 b2 W q t (.slice a0 p.length cap) p hs h hpm)
  generalize chk4 (canB r l a b k a2 b2) q.vB t p = ce at *
  have hc1 : (ce != 0) = true := by simpa using hne
  clear hl hs hpm hne
  go_enter Tryz.func93, Tryz.ntmps93
  go_wp2_with fail
  refine (HC.out _ (HL.out _ HX.out.low)).mono ?_
  rintro e w1 ⟨rfl, hb⟩
  have HX := hid (HX.out.keep hb)
  clear hb
  go_wp2_with fail
  go_ret2
  exact ⟨none, 0, rfl, .inl ⟨_, _, rfl, rfl⟩, HX.out.low⟩

/-- What stands behind the meter's making: it at m. -/
structure PlE (c : Cn) (need : Int) (g : Int → Nat) (lo : Int) (n kb mb m : Nat) (w W : World) : Prop where
  met : W.heap[m]? = some (.cells #[.int .i64 (c.R : Int), .int .i64 (c.L : Int), .int .i64 c.A, .int .i64 c.B, .int .i64 c.K, .int .i64 c.A2, .int .i64 c.B2, .int .i64 need, .func (.func 113) #[] #[.pointer (some ⟨kb, 0, none⟩)]] 80 (0, 0))
  dn : DnI g lo n kb mb W
  low : Below w.heap.size w W
  le : w.heap.size ≤ mb

theorem field_dish (x0 x1 x2 : Value) (W : World) : (Instr.field 89 (.agg #[x0, x1, x2]) 1).run Tryz.prog W = .ok x2 W := by kernel_rfl
/-- Two cells that hold a call's two slices. -/
def TwoC (W : World) (b : Nat) (u v : Value) : Prop := W.cell? ⟨b, 0, none⟩ = some u ∧ W.cell? ⟨b, 1, none⟩ = some v
theorem TwoC.keep {W W' : World} {b : Nat} {u v : Value} (h : TwoC W b u v) (hb : Below W.heap.size W W') : TwoC W' b u v := ⟨keep_cell hb h.1, keep_cell hb h.2⟩
theorem concat2_any {W : World} {b : Nat} {u v : Value} {l m : List Int} (h : TwoC W b u v) (hu : RowI W u l) (hv : RowI W v m) (hlen : (l ++ m).length ≤ 100000) : Calls Tryz.prog 72 #[.slice (some ⟨b, 0, none⟩) 2 2] W (NewI W (l ++ m)) := by
  have e := flN_two (fun j => if j = 0 then l else m)
  simp only [show ¬ (1 = 0) from by omega, if_true, if_false] at e
  have := concatN_any b 2 2 (fun j => if j = 0 then u else v) (fun j => if j = 0 then l else m) W (by rw [e]; exact hlen) (by omega) (fun j hj => by
    match j, hj with
    | 0, _ => exact h.1
    | 1, _ => exact h.2) (fun j hj => by
    match j, hj with
    | 0, _ => exact hu
    | 1, _ => exact hv)
  rwa [e] at this
theorem all_bd {t : Int} {p : List Int} (ho : okT t = true) (hop : okL p = true) : okL (t :: p) = true := by unfold okL at hop ⊢; rw [List.all_cons, ho, hop]; rfl

theorem plE_set {c : Cn} {need : Int} {g : Int → Nat} {lo : Int} {n kb mb m : Nat} {w W : World} {x0 x1 x2 x3 x4 x5 x6 x7 x8 : Value} (h : W.heap[m]? = some (.cells #[x0, x1, x2, x3, x4, x5, x6, x7, x8] 80 (0, 0))) (hd : DnI g lo n kb mb W) (hb : Below w.heap.size w W) (hm : w.heap.size ≤ m) (hmb : w.heap.size ≤ mb) :
    PlE c need g lo n kb mb m w (((((((((W.setCell ⟨m, 0, none⟩ (.int .i64 (c.R : Int))).setCell ⟨m, 1, none⟩ (.int .i64 (c.L : Int))).setCell ⟨m, 2, none⟩ (.int .i64 c.A)).setCell ⟨m, 3, none⟩ (.int .i64 c.B)).setCell ⟨m, 4, none⟩ (.int .i64 c.K)).setCell ⟨m, 5, none⟩ (.int .i64 c.A2)).setCell ⟨m, 6, none⟩ (.int .i64 c.B2)).setCell ⟨m, 7, none⟩ (.int .i64 need)).setCell ⟨m, 8, none⟩ (.func (.func 113) #[] #[.pointer (some ⟨kb, 0, none⟩)])) := by
  obtain ⟨e1, e2, e3⟩ := set9 (y0 := (.int .i64 (c.R : Int))) (y1 := (.int .i64 (c.L : Int))) (y2 := (.int .i64 c.A)) (y3 := (.int .i64 c.B)) (y4 := (.int .i64 c.K)) (y5 := (.int .i64 c.A2)) (y6 := (.int .i64 c.B2)) (y7 := (.int .i64 need)) (y8 := (.func (.func 113) #[] #[.pointer (some ⟨kb, 0, none⟩)])) h
  have hk : kb ≠ m := fun e => by have h1 := hd.box; rw [e, h] at h1; exact absurd (Obj.cells.inj (Option.some.inj h1)).2.1 (by decide)
  have hm2 : mb ≠ m := fun e => by obtain ⟨D, ⟨es, clock, h1, _⟩, _⟩ := hd.map; rw [e, h] at h1; cases h1
  obtain ⟨D, ⟨es, clock, h1, h2⟩, h3⟩ := hd.map
  exact ⟨e1, ⟨(e2 _ hk).trans hd.box, D, ⟨es, clock, (e2 _ hm2).trans h1, h2⟩, h3⟩, hb.trans (e3 _ hm), hmb⟩

set_option maxRecDepth 100000 in
set_option maxHeartbeats 16000000 in
theorem places_ok (c : Cn) (s : ByteArray) (r d g t : Int) (Z : Nat) (v : Value) (p : List Int) (w : World) (hs : s.size ≤ maxLen) (hcv : c.V) (hv : Lt.validB s.data.toList r Z d g = true) (ho : okT t = true) (hop : okL p = true) (hlen : p.length ≤ 2000) (hl : RowI w v p) :
    Calls Tryz.prog 93 #[.agg #[.int .i64 (c.R : Int), .int .i64 (c.L : Int), .int .i64 c.A, .int .i64 c.B, .int .i64 c.K, .int .i64 c.A2, .int .i64 c.B2], .agg #[.string s, .int .i64 r, .int .i64 (Z : Int), .int .i64 d, .int .i64 g], .int .i64 t, v] w (PlacesP (dishR c (fun x => Lt.Pm.rateD r Z (x / 250)) (dish0 c t) p).2 0 w) := by
  have HX := hid (box2_start (w := w) (A := #[.int .i64 (c.R : Int), .int .i64 (c.L : Int), .int .i64 c.A, .int .i64 c.B, .int .i64 c.K, .int .i64 c.A2, .int .i64 c.B2]) (B := #[.string s, .int .i64 r, .int .i64 (Z : Int), .int .i64 d, .int .i64 g]) (T := 23) (T' := 25) (fz := (0, 0)) (fz' := (0, 0)))
  have HL := hid (fun w1 (g : Below w.heap.size w w1) => hl.keep g)
  obtain ⟨a0, cap, rfl⟩ := hl.shape
  have hcan : canB (c.R : Int) c.L c.A c.B c.K c.A2 c.B2 = true := hcv
  have hch : chk4 (canB (c.R : Int) c.L c.A c.B c.K c.A2 c.B2) (Kl.vB ⟨s, r, Z, d, g⟩) t p = 0 := by
    refine chk4_ok ?_ ?_ (by omega)
    · rw [hcan, show Kl.vB ⟨s, r, Z, d, g⟩ = true from hv]; rfl
    · rw [ho, hop]; rfl
  have HC : Hid (∀ W, RowI W (.slice a0 p.length cap) p → Calls Tryz.prog 70 #[.agg #[.int .i64 (c.R : Int), .int .i64 (c.L : Int), .int .i64 c.A, .int .i64 c.B, .int .i64 c.K, .int .i64 c.A2, .int .i64 c.B2], .agg #[.string s, .int .i64 r, .int .i64 (Z : Int), .int .i64 d, .int .i64 g], .int .i64 t, .slice a0 p.length cap] W fun e w' => e = .returned (.int .i64 0) ∧ Below W.heap.size W w') := fun W h => by
    have := pcheck_any c.R c.L c.A c.B c.K c.A2 c.B2 W ⟨s, r, Z, d, g⟩ t (.slice a0 p.length cap) p hs h (by unfold maxLen; omega)
    rwa [hch] at this
  have hlt : okL (t :: p) = true := all_bd ho hop
  have HCC := hid (fun (W : World) (b b1 : Nat) (h : TwoC W b (.slice (some ⟨b1, 0, none⟩) 1 1) (.slice a0 p.length cap)) (hu : RowI W (.slice (some ⟨b1, 0, none⟩) 1 1) [t]) (hv : RowI W (.slice a0 p.length cap) p) => concat2_any h hu hv (by simp; omega))
  have HMD := hid (fun (W : World) (u : Value) (h : RowI W u (t :: p)) => meterDown_any c s r d g Z u (t :: p) W hs hv h (by simp) (by simp; omega) hlt)
  have HRK := hid (fun (W1 : World) (kb mb : Nat) (hD : DnI (Lt.Pm.rateD r Z) (minA (t :: p) / 250) ((maxA (t :: p) / 250 - minA (t :: p) / 250).toNat + 1) kb mb W1) => rateOk_down (tlo := minA (t :: p)) (thi := maxA (t :: p)) hD (fun x h1 h2 => by omega) (okL_bd hlt _ (minA_mem (by simp))).1 (okL_bd hlt _ (maxA_mem (by simp))).2 (fun q => by have := Lt.Pm.rateD_le r Z q (Lt.validB_iff.1 hv).2.2.1.1; omega))
  have HRN := hid (fun (F : Nat) (lb : Array Value) (mb B0 : Nat) (I : World → Prop) (W : World) (hR : RateOk F lb (fun x => Lt.Pm.rateD r Z (x / 250)) (minA (t :: p)) (maxA (t :: p)) mb B0 I) (hI : I W) (h : RowI W (.slice a0 p.length cap) p) => mrun_any c (g * (d * 1000000)) t F lb _ _ _ mb B0 I _ p W hR hcv ho hop hI h (by omega) ⟨minA_le (List.mem_cons_self), maxA_ge (List.mem_cons_self)⟩ (fun b hb => ⟨minA_le (List.mem_cons_of_mem _ hb), maxA_ge (List.mem_cons_of_mem _ hb)⟩))
  have RLEN := hid hlen
  generalize minA (t :: p) / 250 = qlo at *
  generalize (maxA (t :: p) / 250 - qlo).toNat + 1 = qn at *
  generalize minA (t :: p) = tlo at *
  generalize maxA (t :: p) = thi at *
  clear hcv hv ho hop hlen hl hcan hch hlt hs
  go_enter Tryz.func93, Tryz.ntmps93
  go_wp2_with fail
  refine (HC.out _ (HL.out _ HX.out.low)).mono ?_
  rintro e w0 ⟨rfl, hb⟩
  have HX := hid (HX.out.keep hb)
  clear hb HC
  go_upto_region 4 with (fail)
  go_cut [11] (fun s11 wx => ∃ m kb mb, s11 = .pointer (some ⟨m, 0, none⟩) ∧ Hid (PlE c (g * (d * 1000000)) (Lt.Pm.rateD r Z) qlo qn kb mb m w wx))
  case first =>
    have hmd : Hid (Below w0.heap.size w0 w0.drew) := (Below.refl _ w0).drew
    have HX := hid (HX.out.keep hmd.out)
    refine wp_region_sink (S := (fun w1 => w1.cell? ⟨w.heap.size, 0, none⟩ = some (.int .i64 (c.R : Int)) ∧ w1.cell? ⟨w.heap.size, 1, none⟩ = some (.int .i64 (c.L : Int)) ∧ w1.cell? ⟨w.heap.size, 2, none⟩ = some (.int .i64 c.A) ∧ w1.cell? ⟨w.heap.size, 3, none⟩ = some (.int .i64 c.B) ∧ w1.cell? ⟨w.heap.size, 4, none⟩ = some (.int .i64 c.K) ∧ w1.cell? ⟨w.heap.size, 5, none⟩ = some (.int .i64 c.A2) ∧ w1.cell? ⟨w.heap.size, 6, none⟩ = some (.int .i64 c.B2) ∧ w1.cell? ⟨w.heap.size + 1, 0, none⟩ = some (.string s) ∧ w1.cell? ⟨w.heap.size + 1, 1, none⟩ = some (.int .i64 r) ∧ w1.cell? ⟨w.heap.size + 1, 2, none⟩ = some (.int .i64 (Z : Int)) ∧ w1.cell? ⟨w.heap.size + 1, 3, none⟩ = some (.int .i64 d) ∧ w1.cell? ⟨w.heap.size + 1, 4, none⟩ = some (.int .i64 g))) 9 (by kernel_rfl) (by kernel_rfl) (by kernel_rfl) (by kernel_rfl) ⟨HX.out.fst 0, HX.out.fst 1, HX.out.fst 2, HX.out.fst 3, HX.out.fst 4, HX.out.fst 5, HX.out.fst 6, HX.out.snd 0, HX.out.snd 1, HX.out.snd 2, HX.out.snd 3, HX.out.snd 4⟩ (fun hS0 => ?_)
    generalize w0.drew = W0 at *
    clear hmd
    refine wpAnyH_take (i := 0) (v := ?_) rfl (by kernel_rfl) (by kernel_rfl) (by kernel_rfl) (fun _ _ _ h => h) (Or.inl ⟨by rfl, ?_⟩) hS0 ?_
    rotate_left
    · intro w' hSw
      obtain ⟨q0, q1, q2, q3, q4, q5, q6, _⟩ := hSw
      go_simp
      try with_reducible rfl
    try simp only [Act.put]
    try simp only [List.setIfInBounds_toArray]
    try simp only [List.set_cons_zero, List.set_cons_succ]
    refine wpAnyH_take (i := 1) (v := ?_) rfl (by kernel_rfl) (by kernel_rfl) (by kernel_rfl) (fun _ _ _ h => h) (Or.inl ⟨by rfl, ?_⟩) hS0 ?_
    rotate_left
    · intro w' hSw
      obtain ⟨_, _, _, _, _, _, _, q0, q1, q2, q3, q4⟩ := hSw
      go_simp
      try with_reducible rfl
    try simp only [Act.put]
    try simp only [List.setIfInBounds_toArray]
    try simp only [List.set_cons_zero, List.set_cons_succ]
    refine wpAnyH_take (i := 2) (v := ?_) rfl (by kernel_rfl) (by kernel_rfl) (by kernel_rfl) (fun _ _ _ h => h) (Or.inl ⟨by rfl, ?_⟩) hS0 ?_
    rotate_left
    · intro w' hSw
      obtain _ := hSw
      go_simp
      try with_reducible rfl
    try simp only [Act.put]
    try simp only [List.setIfInBounds_toArray]
    try simp only [List.set_cons_zero, List.set_cons_succ]
    refine wpAnyH_take (i := 4) (v := ?_) rfl (by kernel_rfl) (by kernel_rfl) (by kernel_rfl) (fun _ _ _ h => h) (Or.inl ⟨by rfl, ?_⟩) hS0 ?_
    rotate_left
    · intro w' hSw
      obtain _ := hSw
      go_simp
      try with_reducible rfl
    try simp only [Act.put]
    try simp only [List.setIfInBounds_toArray]
    try simp only [List.set_cons_zero, List.set_cons_succ]
    (refine wpAnyH_ready (rs := [3, 8]) (by kernel_rfl) (by simp) ?_)
    refine AllReadyH.cons rfl (fun K hK => ?_) ?_
    · go_simp
      have hb : Below W0.heap.size W0 (W0.alloc (.cells #[.int .i64 t] 3)) := (Below.refl _ _).alloc (Nat.le_refl _) _
      have R1 := hid (one_row (W := W0) t 3 rfl)
      generalize hW : (W0.alloc (.cells #[.int .i64 t] 3)) = W1 at *
      clear hW
      generalize W0.heap.size = b1 at R1 ⊢
      have HX := hid (HX.out.keep hb)
      refine hK.out _ _ ⟨HX.out.fst 0, HX.out.fst 1, HX.out.fst 2, HX.out.fst 3, HX.out.fst 4, HX.out.fst 5, HX.out.fst 6, HX.out.snd 0, HX.out.snd 1, HX.out.snd 2, HX.out.snd 3, HX.out.snd 4⟩ (fun hS0 => ?_)
      clear hK K
      (refine wpAnyH_ready (rs := [5, 8]) (by kernel_rfl) (by simp) ?_)
      refine AllReadyH.cons rfl (fun K hK => ?_) ?_
      · go_simp
        have hb : Below W1.heap.size W1 (W1.alloc (.cells #[.slice (some ⟨b1, 0, none⟩) 1 1, .slice a0 p.length cap] 28)) := (Below.refl _ _).alloc (Nat.le_refl _) _
        have C5 : Hid (TwoC (W1.alloc (.cells #[.slice (some ⟨b1, 0, none⟩) 1 1, .slice a0 p.length cap] 28)) W1.heap.size (.slice (some ⟨b1, 0, none⟩) 1 1) (.slice a0 p.length cap)) := ⟨cell_alloc_new _ _ _ _ 0, cell_alloc_new _ _ _ _ 1⟩
        generalize hW : (W1.alloc (.cells #[.slice (some ⟨b1, 0, none⟩) 1 1, .slice a0 p.length cap] 28)) = W2 at *
        clear hW
        generalize W1.heap.size = b5 at C5 ⊢
        have HX := hid (HX.out.keep hb)
        have R1 := hid (R1.out.keep hb)
        refine hK.out _ _ ⟨HX.out.fst 0, HX.out.fst 1, HX.out.fst 2, HX.out.fst 3, HX.out.fst 4, HX.out.fst 5, HX.out.fst 6, HX.out.snd 0, HX.out.snd 1, HX.out.snd 2, HX.out.snd 3, HX.out.snd 4⟩ (fun hS0 => ?_)
        clear hK K
        (refine wpAnyH_ready (rs := [6, 8]) (by kernel_rfl) (by simp) ?_)
        refine AllReadyH.cons rfl (fun K hK => ?_) ?_
        · go_simp
          refine (HCC.out _ _ _ C5.out R1.out (HL.out _ HX.out.low)).mono ?_
          rintro e W3 ⟨u6, rfl, ho6, hb⟩
          have RC := hid (NewI.rowI ho6 (by have := RLEN.out; simp; omega))
          have HX := hid (HX.out.keep hb)
          have R1 := hid (R1.out.keep hb)
          have C5 := hid (C5.out.keep hb)
          refine hK.out _ _ ⟨HX.out.fst 0, HX.out.fst 1, HX.out.fst 2, HX.out.fst 3, HX.out.fst 4, HX.out.fst 5, HX.out.fst 6, HX.out.snd 0, HX.out.snd 1, HX.out.snd 2, HX.out.snd 3, HX.out.snd 4⟩ (fun hS0 => ?_)
          clear hK K
          (refine wpAnyH_ready (rs := [7, 8]) (by kernel_rfl) (by simp) ?_)
          refine AllReadyH.cons rfl (fun K hK => ?_) ?_
          · go_simp
            refine (HMD.out _ _ RC.out).mono ?_
            rintro e W4 ⟨kb, mb, rfl, hdn, hkb, hmb, hb⟩
            have DN := hid hdn
            have KM := hid (show w.heap.size ≤ mb from Nat.le_trans HX.out.low.size hmb)
            have HX := hid (HX.out.keep hb)
            have R1 := hid (R1.out.keep hb)
            have C5 := hid (C5.out.keep hb)
            have RC := hid (RC.out.keep hb)
            refine hK.out _ _ ⟨HX.out.fst 0, HX.out.fst 1, HX.out.fst 2, HX.out.fst 3, HX.out.fst 4, HX.out.fst 5, HX.out.fst 6, HX.out.snd 0, HX.out.snd 1, HX.out.snd 2, HX.out.snd 3, HX.out.snd 4⟩ (fun hS0 => ?_)
            clear hK K
            (refine wpAnyH_ready (rs := [8]) (by kernel_rfl) (by simp) ?_)
            refine AllReadyH.cons rfl (fun K hK => ?_) AllReadyH.nil
            go_simp
            have hb : Below W4.heap.size W4 (W4.alloc (.cells #[.int .i64 0, .int .i64 0, .int .i64 0, .int .i64 0, .int .i64 0, .int .i64 0, .int .i64 0, .int .i64 0, .nilFunc] 80)) := (Below.refl _ _).alloc (Nat.le_refl _) _
            have ME := hid (heap_alloc_new W4 (.cells #[.int .i64 0, .int .i64 0, .int .i64 0, .int .i64 0, .int .i64 0, .int .i64 0, .int .i64 0, .int .i64 0, .nilFunc] 80))
            have ML := hid (show w.heap.size ≤ W4.heap.size from HX.out.low.size)
            generalize hW : (W4.alloc (.cells #[.int .i64 0, .int .i64 0, .int .i64 0, .int .i64 0, .int .i64 0, .int .i64 0, .int .i64 0, .int .i64 0, .nilFunc] 80)) = W5 at *
            clear hW
            generalize hm : W4.heap.size = m at ME ML ⊢
            have HX := hid (HX.out.keep hb)
            have R1 := hid (R1.out.keep hb)
            have C5 := hid (C5.out.keep hb)
            have RC := hid (RC.out.keep hb)
            have DN := hid (DN.out.keep hb)
            refine hK.out _ _ ⟨HX.out.fst 0, HX.out.fst 1, HX.out.fst 2, HX.out.fst 3, HX.out.fst 4, HX.out.fst 5, HX.out.fst 6, HX.out.snd 0, HX.out.snd 1, HX.out.snd 2, HX.out.snd 3, HX.out.snd 4⟩ (fun hS0 => ?_)
            clear hK K
            have h3 := ME.out
            have t0 := cell_of_row _ _ 0 _ _ _ h3
            have f0 := frozen_of_row _ _ 0 _ _ h3
            have t1 := cell_of_row _ _ 1 _ _ _ h3
            have f1 := frozen_of_row _ _ 1 _ _ h3
            have t2 := cell_of_row _ _ 2 _ _ _ h3
            have f2 := frozen_of_row _ _ 2 _ _ h3
            have t3 := cell_of_row _ _ 3 _ _ _ h3
            have f3 := frozen_of_row _ _ 3 _ _ h3
            have t4 := cell_of_row _ _ 4 _ _ _ h3
            have f4 := frozen_of_row _ _ 4 _ _ h3
            have t5 := cell_of_row _ _ 5 _ _ _ h3
            have f5 := frozen_of_row _ _ 5 _ _ h3
            have t6 := cell_of_row _ _ 6 _ _ _ h3
            have f6 := frozen_of_row _ _ 6 _ _ h3
            have t7 := cell_of_row _ _ 7 _ _ _ h3
            have f7 := frozen_of_row _ _ 7 _ _ h3
            have t8 := cell_of_row _ _ 8 _ _ _ h3
            have f8 := frozen_of_row _ _ 8 _ _ h3
            simp only [List.getElem?_toArray, List.getElem?_cons_zero, List.getElem?_cons_succ] at t0 t1 t2 t3 t4 t5 t6 t7 t8
            have HST := hid (plE_set (c := c) (need := g * (d * 1000000))  h3 DN.out HX.out.low ML.out KM.out)
            have hz := lt_of_block h3
            clear h3 hS0
            refine wpAnyH_done (by kernel_rfl) ?_ _
            refine sink_last rfl (fun K hK => ?_)
            go_simp
            refine hK.out _ _ ?_
            clear hK K
            go_wp2_with fail
            go_meet
            exact ⟨m, kb, mb, rfl, HST⟩
          refine AllReadyH.cons rfl (fun K hK => ?_) AllReadyH.nil
          go_simp
          have hb : Below W3.heap.size W3 (W3.alloc (.cells #[.int .i64 0, .int .i64 0, .int .i64 0, .int .i64 0, .int .i64 0, .int .i64 0, .int .i64 0, .int .i64 0, .nilFunc] 80)) := (Below.refl _ _).alloc (Nat.le_refl _) _
          have ME := hid (heap_alloc_new W3 (.cells #[.int .i64 0, .int .i64 0, .int .i64 0, .int .i64 0, .int .i64 0, .int .i64 0, .int .i64 0, .int .i64 0, .nilFunc] 80))
          have ML := hid (show w.heap.size ≤ W3.heap.size from HX.out.low.size)
          generalize hW : (W3.alloc (.cells #[.int .i64 0, .int .i64 0, .int .i64 0, .int .i64 0, .int .i64 0, .int .i64 0, .int .i64 0, .int .i64 0, .nilFunc] 80)) = W6 at *
          clear hW
          generalize hm : W3.heap.size = m at ME ML ⊢
          have HX := hid (HX.out.keep hb)
          have R1 := hid (R1.out.keep hb)
          have C5 := hid (C5.out.keep hb)
          have RC := hid (RC.out.keep hb)
          refine hK.out _ _ ⟨HX.out.fst 0, HX.out.fst 1, HX.out.fst 2, HX.out.fst 3, HX.out.fst 4, HX.out.fst 5, HX.out.fst 6, HX.out.snd 0, HX.out.snd 1, HX.out.snd 2, HX.out.snd 3, HX.out.snd 4⟩ (fun hS0 => ?_)
          clear hK K
          (refine wpAnyH_ready (rs := [7]) (by kernel_rfl) (by simp) ?_)
          refine AllReadyH.cons rfl (fun K hK => ?_) AllReadyH.nil
          go_simp
          refine (HMD.out _ _ RC.out).mono ?_
          rintro e W7 ⟨kb, mb, rfl, hdn, hkb, hmb, hb⟩
          have DN := hid hdn
          have KM := hid (show w.heap.size ≤ mb from Nat.le_trans HX.out.low.size hmb)
          have HX := hid (HX.out.keep hb)
          have R1 := hid (R1.out.keep hb)
          have C5 := hid (C5.out.keep hb)
          have RC := hid (RC.out.keep hb)
          have ME := hid ((hb.block _ (lt_of_block ME.out)).trans ME.out)
          refine hK.out _ _ ⟨HX.out.fst 0, HX.out.fst 1, HX.out.fst 2, HX.out.fst 3, HX.out.fst 4, HX.out.fst 5, HX.out.fst 6, HX.out.snd 0, HX.out.snd 1, HX.out.snd 2, HX.out.snd 3, HX.out.snd 4⟩ (fun hS0 => ?_)
          clear hK K
          have h3 := ME.out
          have t0 := cell_of_row _ _ 0 _ _ _ h3
          have f0 := frozen_of_row _ _ 0 _ _ h3
          have t1 := cell_of_row _ _ 1 _ _ _ h3
          have f1 := frozen_of_row _ _ 1 _ _ h3
          have t2 := cell_of_row _ _ 2 _ _ _ h3
          have f2 := frozen_of_row _ _ 2 _ _ h3
          have t3 := cell_of_row _ _ 3 _ _ _ h3
          have f3 := frozen_of_row _ _ 3 _ _ h3
          have t4 := cell_of_row _ _ 4 _ _ _ h3
          have f4 := frozen_of_row _ _ 4 _ _ h3
          have t5 := cell_of_row _ _ 5 _ _ _ h3
          have f5 := frozen_of_row _ _ 5 _ _ h3
          have t6 := cell_of_row _ _ 6 _ _ _ h3
          have f6 := frozen_of_row _ _ 6 _ _ h3
          have t7 := cell_of_row _ _ 7 _ _ _ h3
          have f7 := frozen_of_row _ _ 7 _ _ h3
          have t8 := cell_of_row _ _ 8 _ _ _ h3
          have f8 := frozen_of_row _ _ 8 _ _ h3
          simp only [List.getElem?_toArray, List.getElem?_cons_zero, List.getElem?_cons_succ] at t0 t1 t2 t3 t4 t5 t6 t7 t8
          have HST := hid (plE_set (c := c) (need := g * (d * 1000000))  h3 DN.out HX.out.low ML.out KM.out)
          have hz := lt_of_block h3
          clear h3 hS0
          refine wpAnyH_done (by kernel_rfl) ?_ _
          refine sink_last rfl (fun K hK => ?_)
          go_simp
          refine hK.out _ _ ?_
          clear hK K
          go_wp2_with fail
          go_meet
          exact ⟨m, kb, mb, rfl, HST⟩
        refine AllReadyH.cons rfl (fun K hK => ?_) AllReadyH.nil
        go_simp
        have hb : Below W2.heap.size W2 (W2.alloc (.cells #[.int .i64 0, .int .i64 0, .int .i64 0, .int .i64 0, .int .i64 0, .int .i64 0, .int .i64 0, .int .i64 0, .nilFunc] 80)) := (Below.refl _ _).alloc (Nat.le_refl _) _
        have ME := hid (heap_alloc_new W2 (.cells #[.int .i64 0, .int .i64 0, .int .i64 0, .int .i64 0, .int .i64 0, .int .i64 0, .int .i64 0, .int .i64 0, .nilFunc] 80))
        have ML := hid (show w.heap.size ≤ W2.heap.size from HX.out.low.size)
        generalize hW : (W2.alloc (.cells #[.int .i64 0, .int .i64 0, .int .i64 0, .int .i64 0, .int .i64 0, .int .i64 0, .int .i64 0, .int .i64 0, .nilFunc] 80)) = W8 at *
        clear hW
        generalize hm : W2.heap.size = m at ME ML ⊢
        have HX := hid (HX.out.keep hb)
        have R1 := hid (R1.out.keep hb)
        have C5 := hid (C5.out.keep hb)
        refine hK.out _ _ ⟨HX.out.fst 0, HX.out.fst 1, HX.out.fst 2, HX.out.fst 3, HX.out.fst 4, HX.out.fst 5, HX.out.fst 6, HX.out.snd 0, HX.out.snd 1, HX.out.snd 2, HX.out.snd 3, HX.out.snd 4⟩ (fun hS0 => ?_)
        clear hK K
        (refine wpAnyH_ready (rs := [6]) (by kernel_rfl) (by simp) ?_)
        refine AllReadyH.cons rfl (fun K hK => ?_) AllReadyH.nil
        go_simp
        refine (HCC.out _ _ _ C5.out R1.out (HL.out _ HX.out.low)).mono ?_
        rintro e W9 ⟨u6, rfl, ho6, hb⟩
        have RC := hid (NewI.rowI ho6 (by have := RLEN.out; simp; omega))
        have HX := hid (HX.out.keep hb)
        have R1 := hid (R1.out.keep hb)
        have C5 := hid (C5.out.keep hb)
        have ME := hid ((hb.block _ (lt_of_block ME.out)).trans ME.out)
        refine hK.out _ _ ⟨HX.out.fst 0, HX.out.fst 1, HX.out.fst 2, HX.out.fst 3, HX.out.fst 4, HX.out.fst 5, HX.out.fst 6, HX.out.snd 0, HX.out.snd 1, HX.out.snd 2, HX.out.snd 3, HX.out.snd 4⟩ (fun hS0 => ?_)
        clear hK K
        (refine wpAnyH_ready (rs := [7]) (by kernel_rfl) (by simp) ?_)
        refine AllReadyH.cons rfl (fun K hK => ?_) AllReadyH.nil
        go_simp
        refine (HMD.out _ _ RC.out).mono ?_
        rintro e W10 ⟨kb, mb, rfl, hdn, hkb, hmb, hb⟩
        have DN := hid hdn
        have KM := hid (show w.heap.size ≤ mb from Nat.le_trans HX.out.low.size hmb)
        have HX := hid (HX.out.keep hb)
        have R1 := hid (R1.out.keep hb)
        have C5 := hid (C5.out.keep hb)
        have RC := hid (RC.out.keep hb)
        have ME := hid ((hb.block _ (lt_of_block ME.out)).trans ME.out)
        refine hK.out _ _ ⟨HX.out.fst 0, HX.out.fst 1, HX.out.fst 2, HX.out.fst 3, HX.out.fst 4, HX.out.fst 5, HX.out.fst 6, HX.out.snd 0, HX.out.snd 1, HX.out.snd 2, HX.out.snd 3, HX.out.snd 4⟩ (fun hS0 => ?_)
        clear hK K
        have h3 := ME.out
        have t0 := cell_of_row _ _ 0 _ _ _ h3
        have f0 := frozen_of_row _ _ 0 _ _ h3
        have t1 := cell_of_row _ _ 1 _ _ _ h3
        have f1 := frozen_of_row _ _ 1 _ _ h3
        have t2 := cell_of_row _ _ 2 _ _ _ h3
        have f2 := frozen_of_row _ _ 2 _ _ h3
        have t3 := cell_of_row _ _ 3 _ _ _ h3
        have f3 := frozen_of_row _ _ 3 _ _ h3
        have t4 := cell_of_row _ _ 4 _ _ _ h3
        have f4 := frozen_of_row _ _ 4 _ _ h3
        have t5 := cell_of_row _ _ 5 _ _ _ h3
        have f5 := frozen_of_row _ _ 5 _ _ h3
        have t6 := cell_of_row _ _ 6 _ _ _ h3
        have f6 := frozen_of_row _ _ 6 _ _ h3
        have t7 := cell_of_row _ _ 7 _ _ _ h3
        have f7 := frozen_of_row _ _ 7 _ _ h3
        have t8 := cell_of_row _ _ 8 _ _ _ h3
        have f8 := frozen_of_row _ _ 8 _ _ h3
        simp only [List.getElem?_toArray, List.getElem?_cons_zero, List.getElem?_cons_succ] at t0 t1 t2 t3 t4 t5 t6 t7 t8
        have HST := hid (plE_set (c := c) (need := g * (d * 1000000))  h3 DN.out HX.out.low ML.out KM.out)
        have hz := lt_of_block h3
        clear h3 hS0
        refine wpAnyH_done (by kernel_rfl) ?_ _
        refine sink_last rfl (fun K hK => ?_)
        go_simp
        refine hK.out _ _ ?_
        clear hK K
        go_wp2_with fail
        go_meet
        exact ⟨m, kb, mb, rfl, HST⟩
      refine AllReadyH.cons rfl (fun K hK => ?_) AllReadyH.nil
      go_simp
      have hb : Below W1.heap.size W1 (W1.alloc (.cells #[.int .i64 0, .int .i64 0, .int .i64 0, .int .i64 0, .int .i64 0, .int .i64 0, .int .i64 0, .int .i64 0, .nilFunc] 80)) := (Below.refl _ _).alloc (Nat.le_refl _) _
      have ME := hid (heap_alloc_new W1 (.cells #[.int .i64 0, .int .i64 0, .int .i64 0, .int .i64 0, .int .i64 0, .int .i64 0, .int .i64 0, .int .i64 0, .nilFunc] 80))
      have ML := hid (show w.heap.size ≤ W1.heap.size from HX.out.low.size)
      generalize hW : (W1.alloc (.cells #[.int .i64 0, .int .i64 0, .int .i64 0, .int .i64 0, .int .i64 0, .int .i64 0, .int .i64 0, .int .i64 0, .nilFunc] 80)) = W11 at *
      clear hW
      generalize hm : W1.heap.size = m at ME ML ⊢
      have HX := hid (HX.out.keep hb)
      have R1 := hid (R1.out.keep hb)
      refine hK.out _ _ ⟨HX.out.fst 0, HX.out.fst 1, HX.out.fst 2, HX.out.fst 3, HX.out.fst 4, HX.out.fst 5, HX.out.fst 6, HX.out.snd 0, HX.out.snd 1, HX.out.snd 2, HX.out.snd 3, HX.out.snd 4⟩ (fun hS0 => ?_)
      clear hK K
      (refine wpAnyH_ready (rs := [5]) (by kernel_rfl) (by simp) ?_)
      refine AllReadyH.cons rfl (fun K hK => ?_) AllReadyH.nil
      go_simp
      have hb : Below W11.heap.size W11 (W11.alloc (.cells #[.slice (some ⟨b1, 0, none⟩) 1 1, .slice a0 p.length cap] 28)) := (Below.refl _ _).alloc (Nat.le_refl _) _
      have C5 : Hid (TwoC (W11.alloc (.cells #[.slice (some ⟨b1, 0, none⟩) 1 1, .slice a0 p.length cap] 28)) W11.heap.size (.slice (some ⟨b1, 0, none⟩) 1 1) (.slice a0 p.length cap)) := ⟨cell_alloc_new _ _ _ _ 0, cell_alloc_new _ _ _ _ 1⟩
      generalize hW : (W11.alloc (.cells #[.slice (some ⟨b1, 0, none⟩) 1 1, .slice a0 p.length cap] 28)) = W12 at *
      clear hW
      generalize W11.heap.size = b5 at C5 ⊢
      have HX := hid (HX.out.keep hb)
      have R1 := hid (R1.out.keep hb)
      have ME := hid ((hb.block _ (lt_of_block ME.out)).trans ME.out)
      refine hK.out _ _ ⟨HX.out.fst 0, HX.out.fst 1, HX.out.fst 2, HX.out.fst 3, HX.out.fst 4, HX.out.fst 5, HX.out.fst 6, HX.out.snd 0, HX.out.snd 1, HX.out.snd 2, HX.out.snd 3, HX.out.snd 4⟩ (fun hS0 => ?_)
      clear hK K
      (refine wpAnyH_ready (rs := [6]) (by kernel_rfl) (by simp) ?_)
      refine AllReadyH.cons rfl (fun K hK => ?_) AllReadyH.nil
      go_simp
      refine (HCC.out _ _ _ C5.out R1.out (HL.out _ HX.out.low)).mono ?_
      rintro e W13 ⟨u6, rfl, ho6, hb⟩
      have RC := hid (NewI.rowI ho6 (by have := RLEN.out; simp; omega))
      have HX := hid (HX.out.keep hb)
      have R1 := hid (R1.out.keep hb)
      have C5 := hid (C5.out.keep hb)
      have ME := hid ((hb.block _ (lt_of_block ME.out)).trans ME.out)
      refine hK.out _ _ ⟨HX.out.fst 0, HX.out.fst 1, HX.out.fst 2, HX.out.fst 3, HX.out.fst 4, HX.out.fst 5, HX.out.fst 6, HX.out.snd 0, HX.out.snd 1, HX.out.snd 2, HX.out.snd 3, HX.out.snd 4⟩ (fun hS0 => ?_)
      clear hK K
      (refine wpAnyH_ready (rs := [7]) (by kernel_rfl) (by simp) ?_)
      refine AllReadyH.cons rfl (fun K hK => ?_) AllReadyH.nil
      go_simp
      refine (HMD.out _ _ RC.out).mono ?_
      rintro e W14 ⟨kb, mb, rfl, hdn, hkb, hmb, hb⟩
      have DN := hid hdn
      have KM := hid (show w.heap.size ≤ mb from Nat.le_trans HX.out.low.size hmb)
      have HX := hid (HX.out.keep hb)
      have R1 := hid (R1.out.keep hb)
      have C5 := hid (C5.out.keep hb)
      have RC := hid (RC.out.keep hb)
      have ME := hid ((hb.block _ (lt_of_block ME.out)).trans ME.out)
      refine hK.out _ _ ⟨HX.out.fst 0, HX.out.fst 1, HX.out.fst 2, HX.out.fst 3, HX.out.fst 4, HX.out.fst 5, HX.out.fst 6, HX.out.snd 0, HX.out.snd 1, HX.out.snd 2, HX.out.snd 3, HX.out.snd 4⟩ (fun hS0 => ?_)
      clear hK K
      have h3 := ME.out
      have t0 := cell_of_row _ _ 0 _ _ _ h3
      have f0 := frozen_of_row _ _ 0 _ _ h3
      have t1 := cell_of_row _ _ 1 _ _ _ h3
      have f1 := frozen_of_row _ _ 1 _ _ h3
      have t2 := cell_of_row _ _ 2 _ _ _ h3
      have f2 := frozen_of_row _ _ 2 _ _ h3
      have t3 := cell_of_row _ _ 3 _ _ _ h3
      have f3 := frozen_of_row _ _ 3 _ _ h3
      have t4 := cell_of_row _ _ 4 _ _ _ h3
      have f4 := frozen_of_row _ _ 4 _ _ h3
      have t5 := cell_of_row _ _ 5 _ _ _ h3
      have f5 := frozen_of_row _ _ 5 _ _ h3
      have t6 := cell_of_row _ _ 6 _ _ _ h3
      have f6 := frozen_of_row _ _ 6 _ _ h3
      have t7 := cell_of_row _ _ 7 _ _ _ h3
      have f7 := frozen_of_row _ _ 7 _ _ h3
      have t8 := cell_of_row _ _ 8 _ _ _ h3
      have f8 := frozen_of_row _ _ 8 _ _ h3
      simp only [List.getElem?_toArray, List.getElem?_cons_zero, List.getElem?_cons_succ] at t0 t1 t2 t3 t4 t5 t6 t7 t8
      have HST := hid (plE_set (c := c) (need := g * (d * 1000000))  h3 DN.out HX.out.low ML.out KM.out)
      have hz := lt_of_block h3
      clear h3 hS0
      refine wpAnyH_done (by kernel_rfl) ?_ _
      refine sink_last rfl (fun K hK => ?_)
      go_simp
      refine hK.out _ _ ?_
      clear hK K
      go_wp2_with fail
      go_meet
      exact ⟨m, kb, mb, rfl, HST⟩
    refine AllReadyH.cons rfl (fun K hK => ?_) AllReadyH.nil
    go_simp
    have hb : Below W0.heap.size W0 (W0.alloc (.cells #[.int .i64 0, .int .i64 0, .int .i64 0, .int .i64 0, .int .i64 0, .int .i64 0, .int .i64 0, .int .i64 0, .nilFunc] 80)) := (Below.refl _ _).alloc (Nat.le_refl _) _
    have ME := hid (heap_alloc_new W0 (.cells #[.int .i64 0, .int .i64 0, .int .i64 0, .int .i64 0, .int .i64 0, .int .i64 0, .int .i64 0, .int .i64 0, .nilFunc] 80))
    have ML := hid (show w.heap.size ≤ W0.heap.size from HX.out.low.size)
    generalize hW : (W0.alloc (.cells #[.int .i64 0, .int .i64 0, .int .i64 0, .int .i64 0, .int .i64 0, .int .i64 0, .int .i64 0, .int .i64 0, .nilFunc] 80)) = W15 at *
    clear hW
    generalize hm : W0.heap.size = m at ME ML ⊢
    have HX := hid (HX.out.keep hb)
    refine hK.out _ _ ⟨HX.out.fst 0, HX.out.fst 1, HX.out.fst 2, HX.out.fst 3, HX.out.fst 4, HX.out.fst 5, HX.out.fst 6, HX.out.snd 0, HX.out.snd 1, HX.out.snd 2, HX.out.snd 3, HX.out.snd 4⟩ (fun hS0 => ?_)
    clear hK K
    (refine wpAnyH_ready (rs := [3]) (by kernel_rfl) (by simp) ?_)
    refine AllReadyH.cons rfl (fun K hK => ?_) AllReadyH.nil
    go_simp
    have hb : Below W15.heap.size W15 (W15.alloc (.cells #[.int .i64 t] 3)) := (Below.refl _ _).alloc (Nat.le_refl _) _
    have R1 := hid (one_row (W := W15) t 3 rfl)
    generalize hW : (W15.alloc (.cells #[.int .i64 t] 3)) = W16 at *
    clear hW
    generalize W15.heap.size = b1 at R1 ⊢
    have HX := hid (HX.out.keep hb)
    have ME := hid ((hb.block _ (lt_of_block ME.out)).trans ME.out)
    refine hK.out _ _ ⟨HX.out.fst 0, HX.out.fst 1, HX.out.fst 2, HX.out.fst 3, HX.out.fst 4, HX.out.fst 5, HX.out.fst 6, HX.out.snd 0, HX.out.snd 1, HX.out.snd 2, HX.out.snd 3, HX.out.snd 4⟩ (fun hS0 => ?_)
    clear hK K
    (refine wpAnyH_ready (rs := [5]) (by kernel_rfl) (by simp) ?_)
    refine AllReadyH.cons rfl (fun K hK => ?_) AllReadyH.nil
    go_simp
    have hb : Below W16.heap.size W16 (W16.alloc (.cells #[.slice (some ⟨b1, 0, none⟩) 1 1, .slice a0 p.length cap] 28)) := (Below.refl _ _).alloc (Nat.le_refl _) _
    have C5 : Hid (TwoC (W16.alloc (.cells #[.slice (some ⟨b1, 0, none⟩) 1 1, .slice a0 p.length cap] 28)) W16.heap.size (.slice (some ⟨b1, 0, none⟩) 1 1) (.slice a0 p.length cap)) := ⟨cell_alloc_new _ _ _ _ 0, cell_alloc_new _ _ _ _ 1⟩
    generalize hW : (W16.alloc (.cells #[.slice (some ⟨b1, 0, none⟩) 1 1, .slice a0 p.length cap] 28)) = W17 at *
    clear hW
    generalize W16.heap.size = b5 at C5 ⊢
    have HX := hid (HX.out.keep hb)
    have R1 := hid (R1.out.keep hb)
    have ME := hid ((hb.block _ (lt_of_block ME.out)).trans ME.out)
    refine hK.out _ _ ⟨HX.out.fst 0, HX.out.fst 1, HX.out.fst 2, HX.out.fst 3, HX.out.fst 4, HX.out.fst 5, HX.out.fst 6, HX.out.snd 0, HX.out.snd 1, HX.out.snd 2, HX.out.snd 3, HX.out.snd 4⟩ (fun hS0 => ?_)
    clear hK K
    (refine wpAnyH_ready (rs := [6]) (by kernel_rfl) (by simp) ?_)
    refine AllReadyH.cons rfl (fun K hK => ?_) AllReadyH.nil
    go_simp
    refine (HCC.out _ _ _ C5.out R1.out (HL.out _ HX.out.low)).mono ?_
    rintro e W18 ⟨u6, rfl, ho6, hb⟩
    have RC := hid (NewI.rowI ho6 (by have := RLEN.out; simp; omega))
    have HX := hid (HX.out.keep hb)
    have R1 := hid (R1.out.keep hb)
    have C5 := hid (C5.out.keep hb)
    have ME := hid ((hb.block _ (lt_of_block ME.out)).trans ME.out)
    refine hK.out _ _ ⟨HX.out.fst 0, HX.out.fst 1, HX.out.fst 2, HX.out.fst 3, HX.out.fst 4, HX.out.fst 5, HX.out.fst 6, HX.out.snd 0, HX.out.snd 1, HX.out.snd 2, HX.out.snd 3, HX.out.snd 4⟩ (fun hS0 => ?_)
    clear hK K
    (refine wpAnyH_ready (rs := [7]) (by kernel_rfl) (by simp) ?_)
    refine AllReadyH.cons rfl (fun K hK => ?_) AllReadyH.nil
    go_simp
    refine (HMD.out _ _ RC.out).mono ?_
    rintro e W19 ⟨kb, mb, rfl, hdn, hkb, hmb, hb⟩
    have DN := hid hdn
    have KM := hid (show w.heap.size ≤ mb from Nat.le_trans HX.out.low.size hmb)
    have HX := hid (HX.out.keep hb)
    have R1 := hid (R1.out.keep hb)
    have C5 := hid (C5.out.keep hb)
    have RC := hid (RC.out.keep hb)
    have ME := hid ((hb.block _ (lt_of_block ME.out)).trans ME.out)
    refine hK.out _ _ ⟨HX.out.fst 0, HX.out.fst 1, HX.out.fst 2, HX.out.fst 3, HX.out.fst 4, HX.out.fst 5, HX.out.fst 6, HX.out.snd 0, HX.out.snd 1, HX.out.snd 2, HX.out.snd 3, HX.out.snd 4⟩ (fun hS0 => ?_)
    clear hK K
    have h3 := ME.out
    have t0 := cell_of_row _ _ 0 _ _ _ h3
    have f0 := frozen_of_row _ _ 0 _ _ h3
    have t1 := cell_of_row _ _ 1 _ _ _ h3
    have f1 := frozen_of_row _ _ 1 _ _ h3
    have t2 := cell_of_row _ _ 2 _ _ _ h3
    have f2 := frozen_of_row _ _ 2 _ _ h3
    have t3 := cell_of_row _ _ 3 _ _ _ h3
    have f3 := frozen_of_row _ _ 3 _ _ h3
    have t4 := cell_of_row _ _ 4 _ _ _ h3
    have f4 := frozen_of_row _ _ 4 _ _ h3
    have t5 := cell_of_row _ _ 5 _ _ _ h3
    have f5 := frozen_of_row _ _ 5 _ _ h3
    have t6 := cell_of_row _ _ 6 _ _ _ h3
    have f6 := frozen_of_row _ _ 6 _ _ h3
    have t7 := cell_of_row _ _ 7 _ _ _ h3
    have f7 := frozen_of_row _ _ 7 _ _ h3
    have t8 := cell_of_row _ _ 8 _ _ _ h3
    have f8 := frozen_of_row _ _ 8 _ _ h3
    simp only [List.getElem?_toArray, List.getElem?_cons_zero, List.getElem?_cons_succ] at t0 t1 t2 t3 t4 t5 t6 t7 t8
    have HST := hid (plE_set (c := c) (need := g * (d * 1000000))  h3 DN.out HX.out.low ML.out KM.out)
    have hz := lt_of_block h3
    clear h3 hS0
    refine wpAnyH_done (by kernel_rfl) ?_ _
    refine sink_last rfl (fun K hK => ?_)
    go_simp
    refine hK.out _ _ ?_
    clear hK K
    go_wp2_with fail
    go_meet
    exact ⟨m, kb, mb, rfl, HST⟩
  case rest =>
    obtain ⟨m, kb, mb, rfl, HE⟩ := hcut
    have t0 := cell_of_row _ _ 0 _ _ _ HE.out.met
    have t1 := cell_of_row _ _ 1 _ _ _ HE.out.met
    have t2 := cell_of_row _ _ 2 _ _ _ HE.out.met
    have t3 := cell_of_row _ _ 3 _ _ _ HE.out.met
    have t4 := cell_of_row _ _ 4 _ _ _ HE.out.met
    have t5 := cell_of_row _ _ 5 _ _ _ HE.out.met
    have t6 := cell_of_row _ _ 6 _ _ _ HE.out.met
    have t7 := cell_of_row _ _ 7 _ _ _ HE.out.met
    have t8 := cell_of_row _ _ 8 _ _ _ HE.out.met
    simp only [List.getElem?_toArray, List.getElem?_cons_zero, List.getElem?_cons_succ] at t0 t1 t2 t3 t4 t5 t6 t7 t8
    have HRO := hid (HRK.out wc kb mb HE.out.dn)
    have hfl := field_dish
    clear HRK HMD HCC HX
    go_wp2_with fail
    refine (HRN.out _ _ mb wc.heap.size _ wc HRO.out ⟨HE.out.dn, Nat.le_refl _⟩ (HL.out _ HE.out.low)).mono ?_
    rintro e w9 ⟨ua, ub, uc, ud, rfl, h1, h2, h3, h4⟩
    have HF := hid (And.intro h2 (HE.out.low.grown h4 HE.out.low.size (fun j e => by cases e; exact HE.out.le)))
    clear h1 h2 h3 h4 HRN HL HRO t0 t1 t2 t3 t4 t5 t6 t7 t8
    go_wp2_with fail
    go_ret2
    exact ⟨ub, ud, rfl, HF.out.1, HF.out.2⟩
end Go.Proofs.YtihbjimnjhfpeaaGreat

/- Places, Lethality, Sterile whatever comes in: contracts. -/
namespace Go.Proofs.YtihbjimnjhfpeaaGreat
open Go.RowKit Go.Lib

theorem kl_of {q : Kl} (h : q.vB = true) : ∃ Z : Nat, q.z = Z ∧ Lt.validB q.s.data.toList q.r Z q.d q.g = true := by
  have hv : Lt.validB q.s.data.toList q.r q.z q.d q.g = true := h
  have hz := (Lt.validB_iff.1 hv).2.2.1
  obtain ⟨Z, e⟩ := Int.eq_ofNat_of_zero_le (show 0 ≤ q.z by omega)
  exact ⟨Z, e, by rw [← e]; exact hv⟩
theorem places_all (r l a b k a2 b2 : Int) (w : World) (q : Kl) (t : Int) (v : Value) (p : List Int) (hs : q.s.size ≤ maxLen) (hl : RowI w v p) (hpm : p.length ≤ maxLen) :
    Calls Tryz.prog 93 #[.agg #[.int .i64 r, .int .i64 l, .int .i64 a, .int .i64 b, .int .i64 k, .int .i64 a2, .int .i64 b2], .agg #[.string q.s, .int .i64 q.r, .int .i64 q.z, .int .i64 q.d, .int .i64 q.g], .int .i64 t, v] w (PlacesP (sumsO r l a b k a2 b2 q t p) (chk4 (canB r l a b k a2 b2) q.vB t p) w) := by
  by_cases h : chk4 (canB r l a b k a2 b2) q.vB t p = 0
  · obtain ⟨hc, hk, ho, hop, hlen⟩ := chk4_zero h
    obtain ⟨c, hcv, rfl, rfl, rfl, rfl, rfl, rfl, rfl⟩ := canB_cn hc
    obtain ⟨Z, hz, hv⟩ := kl_of hk
    have hso : sumsO c.R c.L c.A c.B c.K c.A2 c.B2 q t p = (dishR c (fun x => Lt.Pm.rateD q.r Z (x / 250)) (dish0 c t) p).2 := by
      unfold sumsO; rw [if_pos h, cnOf_cn, hz]
    rw [hso, h, hz]
    exact places_ok c q.s q.r q.d q.g t Z v p w hs hcv hv ho hop hlen hl
  · rw [sumsO_no h]
    exact places_err r l a b k a2 b2 w q t v p hs hl hpm h
theorem sumsO_len {r l a b k a2 b2 : Int} {q : Kl} {t : Int} {p : List Int} (h : chk4 (canB r l a b k a2 b2) q.vB t p = 0) : (sumsO r l a b k a2 b2 q t p).length = (cnOf r l a b k a2 b2).P ∧ 1 ≤ (cnOf r l a b k a2 b2).P ∧ (cnOf r l a b k a2 b2).P ≤ 48 := by
  obtain ⟨hc, hk, ho, hop, hlen⟩ := chk4_zero h
  obtain ⟨c, hcv, rfl, rfl, rfl, rfl, rfl, rfl, rfl⟩ := canB_cn hc
  unfold sumsO
  rw [if_pos h, cnOf_cn]
  exact ⟨((dish0_good ho).run hcv.ok hop).len, hcv.ok.p.1, hcv.ok.p.2⟩
/-- What Lethality hands back: the slowest place, and its lethality. -/
def lowO (S : List Nat) : Int := if S = [] then 0 else minA (ivN S)
def slowO (S : List Nat) : Int := if S = [] then 0 else (idxA (ivN S) (minA (ivN S)) : Nat)
set_option maxRecDepth 20000 in
set_option maxHeartbeats 4000000 in
theorem leth_any (r l a b k a2 b2 : Int) (w : World) (q : Kl) (t : Int) (v : Value) (p : List Int) (hs : q.s.size ≤ maxLen) (hl : RowI w v p) (hpm : p.length ≤ maxLen) :
    Calls Tryz.prog 56 #[.agg #[.int .i64 r, .int .i64 l, .int .i64 a, .int .i64 b, .int .i64 k, .int .i64 a2, .int .i64 b2], .agg #[.string q.s, .int .i64 q.r, .int .i64 q.z, .int .i64 q.d, .int .i64 q.g], .int .i64 t, v] w fun e w' => e = .returned (.tuple #[.int .i64 (slowO (sumsO r l a b k a2 b2 q t p)), .int .i64 (lowO (sumsO r l a b k a2 b2 q t p)), .int .i64 (chk4 (canB r l a b k a2 b2) q.vB t p)]) ∧ Below w.heap.size w w' := by
  have HX := hid (box2_start (w := w) (A := #[.int .i64 r, .int .i64 l, .int .i64 a, .int .i64 b, .int .i64 k, .int .i64 a2, .int .i64 b2]) (B := #[.string q.s, .int .i64 q.r, .int .i64 q.z, .int .i64 q.d, .int .i64 q.g]) (T := 23) (T' := 25) (fz := (0, 0)) (fz' := (0, 0)))
  have HL := hid (fun w1 (g : Below w.heap.size w w1) => hl.keep g)
  obtain ⟨a0, cap, rfl⟩ := hl.shape
  have HP := hid (fun W h => places_all r l a b k a2 b2 W q t (.slice a0 p.length cap) p hs h hpm)
  have HLN := hid (fun h => sumsO_len (r := r) (l := l) (a := a) (b := b) (k := k) (a2 := a2) (b2 := b2) (q := q) (t := t) (p := p) h)
  have HNO := hid (fun h => sumsO_no (r := r) (l := l) (a := a) (b := b) (k := k) (a2 := a2) (b2 := b2) (q := q) (t := t) (p := p) h)
  generalize sumsO r l a b k a2 b2 q t p = S at *
  generalize chk4 (canB r l a b k a2 b2) q.vB t p = ce at *
  clear hl hs hpm
  by_cases hce : ce = 0
  · obtain ⟨h1, h2, h3⟩ := HLN.out hce
    subst hce
    have h0 : 0 < (ivN S).length := by rw [ivN_len]; omega
    have hne : S ≠ [] := fun e => by rw [e] at h1; simp at h1; omega
    have HLO := hid (show lowO S = minA (ivN S) by unfold lowO; rw [if_neg hne])
    have HSL := hid (show slowO S = (idxA (ivN S) (minA (ivN S)) : Nat) by unfold slowO; rw [if_neg hne])
    have HMN := hid (fun (W : World) (u : Value) (h : RowI W u (ivN S)) => minA_any u (ivN S) W h h0 (by rw [ivN_len]; omega))
    have HIX := hid (fun (W : World) (u : Value) (h : RowI W u (ivN S)) => index_any u (ivN S) (minA (ivN S)) W h (minA_mem h0) (by rw [ivN_len]; omega))
    generalize minA (ivN S) = mn at *
    clear h0 h1 h2 h3 hne
    go_enter Tryz.func56, Tryz.ntmps56
    go_wp2_with fail
    refine (HP.out _ (HL.out _ HX.out.low)).mono ?_
    rintro e w1 ⟨ub, ud, rfl, hr, hb⟩
    have HX := hid (HX.out.keep hb)
    have HR := hid hr
    clear hb hr
    go_wp2_with fail
    refine (HMN.out _ _ HR.out).mono ?_
    rintro e w2 ⟨rfl, rfl⟩
    go_wp2_with fail
    refine (HIX.out _ _ HR.out).mono ?_
    rintro e w2 ⟨rfl, rfl⟩
    go_wp2_with fail
    refine bodyPost_ret (v := .tuple #[.int .i64 (idxA (ivN S) mn : Nat), .int .i64 mn, .int .i64 0]) (by simp [results, Tryz.results56, go_sem]) rfl ⟨?_, HX.out.low⟩
    rw [HSL.out, HLO.out]
  · have hS := HNO.out hce
    have hc1 : (ce != 0) = true := by simpa using hce
    subst hS
    clear hce HNO
    go_enter Tryz.func56, Tryz.ntmps56
    go_wp2_with fail
    refine (HP.out _ (HL.out _ HX.out.low)).mono ?_
    rintro e w1 ⟨ub, ud, rfl, hr, hb⟩
    have HX := hid (HX.out.keep hb)
    clear hb hr
    go_wp2_with fail
    refine bodyPost_ret (v := .tuple #[.int .i64 0, .int .i64 0, .int .i64 ce]) (by simp [results, Tryz.results56, go_sem]) rfl ⟨?_, HX.out.low⟩
    simp [slowO, lowO]
/-- Whether a can is sterile. -/
def sterO (q : Kl) (f ce : Int) : Bool := decide (ce = 0) && decide (q.g * (q.d * 1000000) ≤ f)
set_option maxRecDepth 20000 in
set_option maxHeartbeats 4000000 in
theorem ster_any (r l a b k a2 b2 : Int) (w : World) (q : Kl) (t : Int) (v : Value) (p : List Int) (hs : q.s.size ≤ maxLen) (hl : RowI w v p) (hpm : p.length ≤ maxLen) :
    Calls Tryz.prog 19 #[.agg #[.int .i64 r, .int .i64 l, .int .i64 a, .int .i64 b, .int .i64 k, .int .i64 a2, .int .i64 b2], .agg #[.string q.s, .int .i64 q.r, .int .i64 q.z, .int .i64 q.d, .int .i64 q.g], .int .i64 t, v] w fun e w' => e = .returned (.tuple #[.bool (sterO q (lowO (sumsO r l a b k a2 b2 q t p)) (chk4 (canB r l a b k a2 b2) q.vB t p)), .int .i64 (chk4 (canB r l a b k a2 b2) q.vB t p)]) ∧ Below w.heap.size w w' := by
  have HX := hid (box2_start (w := w) (A := #[.int .i64 r, .int .i64 l, .int .i64 a, .int .i64 b, .int .i64 k, .int .i64 a2, .int .i64 b2]) (B := #[.string q.s, .int .i64 q.r, .int .i64 q.z, .int .i64 q.d, .int .i64 q.g]) (T := 23) (T' := 25) (fz := (0, 0)) (fz' := (0, 0)))
  have HL := hid (fun w1 (g : Below w.heap.size w w1) => hl.keep g)
  obtain ⟨a0, cap, rfl⟩ := hl.shape
  have HP := hid (fun W h => leth_any r l a b k a2 b2 W q t (.slice a0 p.length cap) p hs h hpm)
  have HZ := hid (fun h => (chk4_zero (vc := canB r l a b k a2 b2) (vk := q.vB) (t := t) (l := p) h).2.1)
  have HND := hid (fun (h : q.vB = true) (W : World) => Lt.needs_yes q.s q.r q.z q.d q.g W hs h)
  generalize slowO (sumsO r l a b k a2 b2 q t p) = sl at *
  generalize lowO (sumsO r l a b k a2 b2 q t p) = lw at *
  generalize chk4 (canB r l a b k a2 b2) q.vB t p = ce at *
  clear hl hs hpm
  by_cases hce : ce = 0
  · have HN := hid (HND.out (HZ.out hce))
    subst hce
    have HE := hid (show sterO q lw 0 = decide (q.g * (q.d * 1000000) ≤ lw) by unfold sterO; simp)
    generalize q.g * (q.d * 1000000) = nd at *
    go_enter Tryz.func19, Tryz.ntmps19
    go_wp2_with fail
    refine (HP.out _ (HL.out _ HX.out.low)).mono ?_
    rintro e w1 ⟨rfl, hb⟩
    have HX := hid (HX.out.keep hb)
    clear hb
    have x0 := HX.out.snd 0; have x1 := HX.out.snd 1; have x2 := HX.out.snd 2; have x3 := HX.out.snd 3; have x4 := HX.out.snd 4
    simp only [List.getElem?_toArray, List.getElem?_cons_zero, List.getElem?_cons_succ] at x0 x1 x2 x3 x4
    go_wp2_with fail
    refine (HN.out _).mono ?_
    rintro e w2 ⟨rfl, hb⟩
    have HX := hid (HX.out.keep hb)
    clear hb
    go_wp2_with fail
    go_ret2
    exact ⟨by rw [HE.out]; rfl, HX.out.low⟩
  · have HE := hid (show sterO q lw ce = false by unfold sterO; simp [hce])
    have hc1 : (ce == 0) = false := by simpa using hce
    clear hce
    go_enter Tryz.func19, Tryz.ntmps19
    go_wp2_with fail
    refine (HP.out _ (HL.out _ HX.out.low)).mono ?_
    rintro e w1 ⟨rfl, hb⟩
    have HX := hid (HX.out.keep hb)
    clear hb
    go_wp2_with fail
    go_ret2
    exact ⟨by rw [HE.out]; rfl, HX.out.low⟩
end Go.Proofs.YtihbjimnjhfpeaaGreat

/- A slice of ints that comes in, opened, over heat's texts. -/
namespace Go.Proofs.YtihbjimnjhfpeaaGreat
open Go.ChangeShapes Go.WideShapes Go.ChangeAt Go.RowKit Go.Joins Go.Deep

section
variable {H : Type} {enc : TypeId × Value → H} {w : World} {base : Nat} {spare : Nat → Bool} {held : Bool}
end
end Go.Proofs.YtihbjimnjhfpeaaGreat
