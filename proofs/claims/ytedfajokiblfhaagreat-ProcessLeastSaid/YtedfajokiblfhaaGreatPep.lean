/- Walk of the reference's first: contract. -/
import Derived.Test.YtedfajokiblfhaaGreatJ1
namespace Go.Proofs.YtedfajokiblfhaaGreat
open Go.RowKit Go.Lib

/-- A run's box alone. -/
structure OnL (K : Kq) (n : Nat) (A : Array Value) (w W : World) : Prop where
  kept : K.at W
  still : Lt.Still K.gD K.gU w W
  box : W.heap[n]? = some (.cells A 73 (0, 0))
theorem OnL.below {K : Kq} {n : Nat} {A : Array Value} {w W W' : World} (h : OnL K n A w W) (hb : Below W.heap.size W W') : OnL K n A w W' :=
  ⟨Kq.below h.kept hb, h.still.trans (Lt.Still.below hb), (hb.block _ (lt_of_block h.box)).trans h.box⟩
theorem OnL.at {K : Kq} {n : Nat} {A : Array Value} {w W W' : World} (h : OnL K n A w W) (hn : K.gD < n ∧ K.gU < n) (hk : K.at W') (hs : Lt.Still K.gD K.gU W W') : OnL K n A w W' :=
  ⟨hk, h.still.trans hs, (hs.block _ (lt_of_block h.box) (by omega) (by omega)).trans h.box⟩
theorem onL_start {K : Kq} {w : World} {A : Array Value} (hK : K.at w) : OnL K w.heap.size A w (w.alloc (.cells A 73)) := by
  have hb : Below w.heap.size w (w.alloc (.cells A 73)) := (Below.refl _ _).alloc (Nat.le_refl _) _
  exact ⟨Kq.below hK hb, Lt.Still.below hb, heap_alloc_new w _⟩
theorem OnL.lay0 {K : Kq} {n : Nat} {A cs : Array Value} {w W W' : World} (h : OnL K n A w W) (hn : K.gD < n ∧ K.gU < n) (hw : w.heap.size ≤ n) (hW : W.setRow n cs = W') :
    OnL K n cs w W' ∧ (∀ g, g ≠ n → W'.heap[g]? = W.heap[g]?) ∧ W.heap.size ≤ W'.heap.size := by
  subst hW
  have ho : ∀ g, g ≠ n → (W.setRow n cs).heap[g]? = W.heap[g]? := fun g hg => setRow_other _ _ _ _ hg
  have hg : W.grownBy (W.setRow n cs) (some n) := ⟨rfl, rfl, rfl, by simp, fun k _ hk => ho k (fun e => hk (by rw [e]))⟩
  exact ⟨⟨Kq.grown (base := n) h.kept hg (fun j e => by cases e; exact Nat.le_refl _) hn, ⟨Nat.le_trans h.still.size hg.size, fun j hj h1 h2 => (ho j (by omega)).trans (h.still.block j hj h1 h2)⟩, setRow_heap _ _ _ _ _ _ h.box⟩, ho, hg.size⟩
theorem OnL.x13 {c : Cn} {K : Kq} {n : Nat} {vx vd vu : Value} {br : Bool} {k : Nat} {w W : World} (h : OnL K n (rnA c K vx br vd vu k) w W) :
    W.cell? ⟨n, 0, none⟩ = some (.int .i64 (c.R : Int)) ∧ W.cell? ⟨n, 1, none⟩ = some (.int .i64 (c.L : Int)) ∧ W.cell? ⟨n, 2, none⟩ = some (.int .i64 c.A) ∧ W.cell? ⟨n, 3, none⟩ = some (.int .i64 c.B) ∧ W.cell? ⟨n, 4, none⟩ = some (.int .i64 c.K) ∧ W.cell? ⟨n, 5, none⟩ = some (.int .i64 c.A2) ∧ W.cell? ⟨n, 6, none⟩ = some (.int .i64 c.B2) ∧
    W.cell? ⟨n, 7, none⟩ = some vx ∧ W.cell? ⟨n, 8, none⟩ = some (.bool br) ∧ W.cell? ⟨n, 9, none⟩ = some (.pointer (some ⟨K.b, 0, none⟩)) ∧ W.cell? ⟨n, 10, none⟩ = some vd ∧ W.cell? ⟨n, 11, none⟩ = some vu ∧ W.cell? ⟨n, 12, none⟩ = some (.int .i64 (k : Nat)) :=
  ⟨cell_of_row _ _ 0 _ _ _ h.box, cell_of_row _ _ 1 _ _ _ h.box, cell_of_row _ _ 2 _ _ _ h.box, cell_of_row _ _ 3 _ _ _ h.box, cell_of_row _ _ 4 _ _ _ h.box, cell_of_row _ _ 5 _ _ _ h.box, cell_of_row _ _ 6 _ _ _ h.box, cell_of_row _ _ 7 _ _ _ h.box, cell_of_row _ _ 8 _ _ _ h.box, cell_of_row _ _ 9 _ _ _ h.box, cell_of_row _ _ 10 _ _ _ h.box, cell_of_row _ _ 11 _ _ _ h.box, cell_of_row _ _ 12 _ _ _ h.box⟩
def RowsQ (gD gU n : Nat) (W : World) (S : Rs) (xa : Option Addr) (xc : Nat) (da : Option Addr) (dc : Nat) (ua : Option Addr) (uc : Nat) : Prop :=
  ∀ W', (∀ g, g ≠ n → W'.heap[g]? = W.heap[g]?) → W.heap.size ≤ W'.heap.size → RowsK gD gU W' S xa xc da dc ua uc
theorem RowsK.offQ {gD gU n : Nat} {W : World} {S : Rs} {xa da ua : Option Addr} {xc dc uc : Nat} (h : RowsK gD gU W S xa xc da dc ua uc) (hf : RowsF (n + 1) xa da ua) (hD : gD < n) (hU : gU < n) : RowsQ gD gU n W S xa xc da dc ua uc :=
  fun _ hs _ => h.same hf (fun g hg => hs g (by omega)) (by omega) (by omega)
theorem RowsK.startQ {gD gU : Nat} {w W : World} {S : Rs} {xa da ua : Option Addr} {xc dc uc : Nat} (h : RowsK gD gU w S xa xc da dc ua uc) (hs : Lt.Still gD gU w W) : RowsQ gD gU w.heap.size W S xa xc da dc ua uc :=
  fun _ h1 h2 => h.still ⟨Nat.le_trans hs.size h2, fun j hj a b => (h1 j (by omega)).trans (hs.block j hj a b)⟩
/-- The killer of kept rates. -/
theorem Kq.kil {K : Kq} {W : World} (h : K.at W) : W.cell? ⟨K.b, 0, none⟩ = some (.string K.s) ∧ W.cell? ⟨K.b, 1, none⟩ = some (.int .i64 K.r) ∧ W.cell? ⟨K.b, 2, none⟩ = some (.int .i64 (K.Z : Int)) ∧ W.cell? ⟨K.b, 3, none⟩ = some (.int .i64 K.d) ∧ W.cell? ⟨K.b, 4, none⟩ = some (.int .i64 K.g) := by
  obtain ⟨_, _, _, _, hF, _⟩ := h
  obtain ⟨c0, c1, c2, c3, c4, _, _⟩ := hF.cells7
  exact ⟨c0, c1, c2, c3, c4⟩
/-- The lethality with n ticks in a bath, and a cooling behind them. -/
def lowF (c : Cn) (f g : Int → Nat) (S : Rs) (bath cold : Int) (cooling n : Nat) : Int := minA (ivN (rsR c f g (rsR c f g S (List.replicate n bath)) (List.replicate cooling cold)).d)
/-- What first tells. -/
def FirP (F : Nat → Int) (need : Int) (most : Nat) (K : Kq) (w : World) (e : Ending) (w' : World) : Prop :=
  (K.at w' ∧ Lt.Still K.gD K.gU w w') ∧ ((∃ n : Nat, n ≤ most ∧ need ≤ F n ∧ (∀ j, j < n → F j < need) ∧ e = .returned (.tuple #[.int .i64 (n : Nat), .int .i64 (F n), .int .i64 (if n = 0 then -1 else F (n - 1)), .bool true])) ∨ ((∀ j, j ≤ most → F j < need) ∧ e = .returned (.tuple #[.int .i64 0, .int .i64 0, .int .i64 0, .bool false])))
theorem rsR_rep (c : Cn) (f g : Int → Nat) (S : Rs) (b : Int) (n : Nat) : rsR c f g S (List.replicate (n + 1) b) = rsT c f g (rsR c f g S (List.replicate n b)) b := by
  rw [List.replicate_succ', rsR_append]
  rfl
theorem rep_ok {n : Nat} {t : Int} (h : okT t = true) : okL (List.replicate n t) = true := by simp [okL, h]
/-- What a round of first stands on. -/
def RawU (c : Cn) (K : Kq) (n : Nat) (xa : Option Addr) (xn xc : Nat) (br : Bool) (da : Option Addr) (dn dc : Nat) (ua : Option Addr) (un uc : Nat) (sk : Nat) (w W : World) : Prop :=
  (W.cell? ⟨n, 0, none⟩ = some (.int .i64 (c.R : Int)) ∧ W.cell? ⟨n, 1, none⟩ = some (.int .i64 (c.L : Int)) ∧ W.cell? ⟨n, 2, none⟩ = some (.int .i64 c.A) ∧ W.cell? ⟨n, 3, none⟩ = some (.int .i64 c.B) ∧ W.cell? ⟨n, 4, none⟩ = some (.int .i64 c.K) ∧ W.cell? ⟨n, 5, none⟩ = some (.int .i64 c.A2) ∧ W.cell? ⟨n, 6, none⟩ = some (.int .i64 c.B2) ∧
    W.cell? ⟨n, 7, none⟩ = some (.slice xa xn xc) ∧ W.cell? ⟨n, 8, none⟩ = some (.bool br) ∧ W.cell? ⟨n, 9, none⟩ = some (.pointer (some ⟨K.b, 0, none⟩)) ∧ W.cell? ⟨n, 10, none⟩ = some (.slice da dn dc) ∧ W.cell? ⟨n, 11, none⟩ = some (.slice ua un uc) ∧ W.cell? ⟨n, 12, none⟩ = some (.int .i64 (sk : Nat))) ∧
  OnL K n (rnA c K (.slice xa xn xc) br (.slice da dn dc) (.slice ua un uc) sk) w W
set_option maxRecDepth 100000 in
set_option maxHeartbeats 8000000 in
theorem xfirst_any (c : Cn) (K : Kq) (S : Rs) (bath cold : Int) (cooling most : Nat) (xa : Option Addr) (xc : Nat) (da : Option Addr) (dc : Nat) (ua : Option Addr) (uc : Nat) (w : World) (hc : c.Ok) (hV : K.V) (hvb : Lt.validB K.s.data.toList K.r K.Z K.d K.g = true) (hsz : K.s.size ≤ maxLen) (hG : GoodR c S) (hb : okT bath = true) (hco : okT cold = true) (hn2 : cooling ≤ 2000) (hm2 : most ≤ 2000) (hR : RowsK K.gD K.gU w S xa xc da dc ua uc) (hK : K.at w) :
    Calls Tryz.prog 55 #[.agg #[.int .i64 (c.R : Int), .int .i64 (c.L : Int), .int .i64 c.A, .int .i64 c.B, .int .i64 c.K, .int .i64 c.A2, .int .i64 c.B2, .slice xa S.x.1.length xc, .bool S.x.2, .pointer (some ⟨K.b, 0, none⟩), .slice da S.d.length dc, .slice ua S.u.length uc, .int .i64 (S.k : Nat)], .int .i64 bath, .int .i64 cold, .int .i64 (cooling : Nat), .int .i64 (most : Nat)] w (FirP (lowF c K.f K.u S bath cold cooling) (K.g * (K.d * 1000000)) most K w) := by
  have HN := hid (Kq.lt hK)
  have hn : Hid (K.gD < w.heap.size ∧ K.gU < w.heap.size) := ⟨HN.out.2.1, HN.out.2.2.1⟩
  have HT := hid (onL_start (A := #[.int .i64 (c.R : Int), .int .i64 (c.L : Int), .int .i64 c.A, .int .i64 c.B, .int .i64 c.K, .int .i64 c.A2, .int .i64 c.B2, .slice xa S.x.1.length xc, .bool S.x.2, .pointer (some ⟨K.b, 0, none⟩), .slice da S.d.length dc, .slice ua S.u.length uc, .int .i64 (S.k : Nat)]) hK)
  have HR := hid (hR.startQ HT.out.still)
  have HRP := hid (fun W => xrep_any cold cooling W hn2)
  have HND := hid (fun W => Lt.rneeds_yes K.s K.r K.Z K.d K.g W hsz hvb)
  have HPB := hid hc.p
  have HFD := hid (fun n => show lowF c K.f K.u S bath cold cooling n = minA (ivN (rsR c K.f K.u (rsR c K.f K.u S (List.replicate n bath)) (List.replicate cooling cold)).d) from rfl)
  generalize K.g * (K.d * 1000000) = need at *
  generalize lowF c K.f K.u S bath cold cooling = F at *
  clear hR hK hsz
  go_enter Tryz.func55, Tryz.ntmps55
  go_wp2_with fail
  go_loopw [14, 15] (fun bf i wr => ∃ j : Nat, j ≤ most + 1 ∧ i = .int .i64 (j : Int) ∧ (∃ bv : Int, bf = .int .i64 bv ∧ Hid (bv = if j = 0 then -1 else F (j - 1))) ∧ Hid (∀ i, i < j → F i < need) ∧ ∃ S' xa xc da dc ua uc, Hid (S' = rsR c K.f K.u S (List.replicate j bath)) ∧ Hid (OnL K w.heap.size (rnA c K (.slice xa S'.x.1.length xc) S'.x.2 (.slice da S'.d.length dc) (.slice ua S'.u.length uc) S'.k) w wr) ∧ Hid (RowsQ K.gD K.gU w.heap.size wr S' xa xc da dc ua uc)) (fun _ i _ => most + 1 - (intOf i).toNat)
  case atStart => exact ⟨0, Nat.zero_le _, rfl, ⟨-1, rfl, rfl⟩, fun i hi => by omega, S, xa, xc, da, dc, ua, uc, rfl, HT, HR⟩
  case round =>
    obtain ⟨j, hj, rfl, ⟨bv, rfl, HBV⟩, HAL, S', ya, yc, ea, ec, ga, gc, HS, HTr, HRo⟩ := hrel
    have HRr := hid (HRo.out wr (fun _ _ => rfl) (Nat.le_refl _))
    by_cases hlt : j ≤ most
    · have hlt' : (j : Int) ≤ most := by omega
      have HGk : Hid (GoodR c S') := by refine hid ?_; rw [HS.out]; exact hG.run hc (rep_ok hb)
      have HFJ : Hid (F j = minA (ivN (rsR c K.f K.u S' (List.replicate cooling cold)).d)) := by refine hid ?_; rw [HFD.out, HS.out]
      have HSU : Hid (rsT c K.f K.u S' bath = rsR c K.f K.u S (List.replicate (j + 1) bath)) := by
        refine hid ?_
        rw [HS.out]; exact (rsR_rep c K.f K.u S bath j).symm
      have HTH := hid (fun W v h1 h2 h3 => xthrough_any c K S' v (List.replicate cooling cold) ya yc ea ec ga gc W hc hV HGk.out (rep_ok hco) h1 h2 h3 (by simp; omega))
      have HTK := hid (fun W h1 h2 => xtick_any c K S' bath ya yc ea ec ga gc W hc hV HGk.out hb h1 h2)
      have HGE := hid (HGk.out.run (f := K.f) (g := K.u) hc (rep_ok (n := cooling) hco))
      have HLR := hid (show (List.replicate cooling cold).length ≤ 1000000 by simp; omega)
      have HTD := hid (HTr.out.below (Below.refl _ wr).drew)
      have HRD := hid (HRr.out.still (Lt.Still.below (Below.refl _ wr).drew))
      have HRK := hid (fun (W : World) (a : Option Addr) (n cap : Nat) (l : List Int) (h : RowI W (.slice a n cap) l) (ha : ∀ ad, a = some ad → wr.heap.size ≤ ad.block) => rowK_from (gD := K.gD) (gU := K.gU) h ha (by have h1 := hn.out.1; have h2 := HTr.out.still.size; omega) (by have h1 := hn.out.2; have h2 := HTr.out.still.size; omega))
      generalize List.replicate cooling cold = CL at *
      have HLT := hid hlt
      clear hlt
      go_wp2_with fail
      refine wp_region_held_drew (S := RawU c K w.heap.size ya S'.x.1.length yc S'.x.2 ea S'.d.length ec ga S'.u.length gc S'.k w) (by kernel_rfl) ⟨HTD.out.x13, HTD.out⟩ (fun hS0 => ?_)
      refine wpAnyH_take (i := 0) (v := ?_) rfl (by kernel_rfl) (by kernel_rfl) (by kernel_rfl) (fun _ _ _ h => h) (Or.inl ⟨by rfl, ?_⟩) hS0 ?_
      rotate_left
      · intro w' hSw
        obtain ⟨⟨q0, q1, q2, q3, q4, q5, q6, q7, q8, q9, q10, q11, q12⟩, _⟩ := hSw
        go_simp
        try with_reducible rfl
      try simp only [Act.put]
      try simp only [List.setIfInBounds_toArray]
      try simp only [List.set_cons_zero, List.set_cons_succ]
      refine wpAnyH_take (i := 1) (v := ?_) rfl (by kernel_rfl) (by kernel_rfl) (by kernel_rfl) (fun _ _ _ h => h) (Or.inl ⟨by rfl, ?_⟩) hS0 ?_
      rotate_left
      · intro w' hSw
        obtain _ := hSw
        go_simp
        try with_reducible rfl
      try simp only [Act.put]
      try simp only [List.setIfInBounds_toArray]
      try simp only [List.set_cons_zero, List.set_cons_succ]
      refine wpAnyH_take (i := 2) (v := ?_) rfl (by kernel_rfl) (by kernel_rfl) (by kernel_rfl) (fun _ _ _ h => h) (Or.inl ⟨by rfl, ?_⟩) hS0 ?_
      rotate_left
      · intro w' hSw
        obtain _ := hSw
        go_simp
        try with_reducible rfl
      try simp only [Act.put]
      try simp only [List.setIfInBounds_toArray]
      try simp only [List.set_cons_zero, List.set_cons_succ]
      (refine wpAnyH_ready (rs := [3]) (by kernel_rfl) (by simp) ?_)
      refine AllReadyH.cons rfl (fun K hK => ?_) AllReadyH.nil
      go_simp
      refine (HRP.out _).mono ?_
      rintro e w5 ⟨v5, rfl, ho5, hb5⟩
      have HT5 := hid (HTD.out.below hb5)
      have HR5 := hid (HRD.out.still (Lt.Still.below hb5))
      obtain ⟨a5, c5, rfl⟩ := own_shapeP ho5
      have HB5 := hid (HRK.out _ _ _ _ _ (NewI.rowI ho5 HLR.out) (own_from ho5))
      clear ho5 hb5
      (refine hK.out _ _ (⟨HT5.out.x13, HT5.out⟩) (fun hS1 => ?_); clear hK K)
      clear hS0
      (refine wpAnyH_ready (rs := [4]) (by kernel_rfl) (by simp) ?_)
      refine AllReadyH.cons rfl (fun K hK => ?_) AllReadyH.nil
      go_simp
      refine (HTH.out _ _ HR5.out HT5.out.kept HB5.out).mono ?_
      rintro e w6 ⟨za, zc, fa, fc, ha, hac, rfl, hr6, hk6, hs6⟩
      have HT6 := hid (HT5.out.at hn.out hk6 hs6)
      have HR6 := hid hr6
      have HRr6 := hid (HR5.out.still hs6)
      clear hr6 hk6 hs6
      (refine hK.out _ _ (⟨HT6.out.x13, HT6.out⟩) (fun hS2 => ?_); clear hK K)
      clear hS1
      have HLE := hid (show (rsR c K.f K.u S' CL).d.length = c.P from HGE.out.down.len)
      have HXS := hid (fun W h => xslow_any c K (rsR c K.f K.u S' CL) za zc fa fc ha hac W h (by rw [HLE.out]; exact HPB.out.1) (by rw [HLE.out]; have := HPB.out.2; omega))
      rw [← HFJ.out] at HXS
      (refine wpAnyH_ready (rs := [5]) (by kernel_rfl) (by simp) ?_)
      refine AllReadyH.cons rfl (fun K hK => ?_) AllReadyH.nil
      go_simp
      refine (HXS.out _ HR6.out.td.row).mono ?_
      rintro e w7 ⟨rfl, hb7⟩
      have HT7 := hid (HT6.out.below hb7)
      have HR7 := hid (HRr6.out.still (Lt.Still.below hb7))
      clear hb7
      (refine hK.out _ _ (⟨HT7.out.x13, HT7.out⟩) (fun hS3 => ?_); clear hK K)
      clear hS2
      refine wpAnyH_take (i := 6) (v := ?_) rfl (by kernel_rfl) (by kernel_rfl) (by kernel_rfl) (fun _ _ _ h => h) (Or.inl ⟨by rfl, ?_⟩) hS3 ?_
      rotate_left
      · intro w' hSw
        obtain _ := hSw
        go_simp
        try with_reducible rfl
      try simp only [Act.put]
      try simp only [List.setIfInBounds_toArray]
      try simp only [List.set_cons_zero, List.set_cons_succ]
      refine wpAnyH_take (i := 7) (v := ?_) rfl (by kernel_rfl) (by kernel_rfl) (by kernel_rfl) (fun _ _ _ h => h) (Or.inl ⟨by rfl, ?_⟩) hS3 ?_
      rotate_left
      · intro w' hSw
        obtain _ := hSw
        go_simp
        try with_reducible rfl
      try simp only [Act.put]
      try simp only [List.setIfInBounds_toArray]
      try simp only [List.set_cons_zero, List.set_cons_succ]
      refine wpAnyH_take (i := 8) (v := ?_) rfl (by kernel_rfl) (by kernel_rfl) (by kernel_rfl) (fun _ _ _ h => h) (Or.inl ⟨by rfl, ?_⟩) hS3 ?_
      rotate_left
      · intro w' hSw
        obtain _ := hSw
        go_simp
        try with_reducible rfl
      try simp only [Act.put]
      try simp only [List.setIfInBounds_toArray]
      try simp only [List.set_cons_zero, List.set_cons_succ]
      refine wpAnyH_take (i := 9) (v := ?_) rfl (by kernel_rfl) (by kernel_rfl) (by kernel_rfl) (fun _ _ _ h => h) (Or.inl ⟨by rfl, ?_⟩) hS3 ?_
      rotate_left
      · intro w' hSw
        obtain _ := hSw
        go_simp
        try with_reducible rfl
      try simp only [Act.put]
      try simp only [List.setIfInBounds_toArray]
      try simp only [List.set_cons_zero, List.set_cons_succ]
      refine wpAnyH_take (i := 10) (v := ?_) rfl (by kernel_rfl) (by kernel_rfl) (by kernel_rfl) (fun _ _ _ h => h) (Or.inl ⟨by rfl, ?_⟩) hS3 ?_
      rotate_left
      · intro w' hSw
        obtain _ := hSw
        go_simp
        try with_reducible rfl
      try simp only [Act.put]
      try simp only [List.setIfInBounds_toArray]
      try simp only [List.set_cons_zero, List.set_cons_succ]
      refine wpAnyH_done (by kernel_rfl) ?_ _
      generalize idxA (ivN (rsR c K.f K.u S' CL).d) (F j) = sl at *
      obtain ⟨fj, hfj⟩ : ∃ x, x = F j := ⟨_, rfl⟩
      rw [← hfj]
      have HFE := hid hfj
      clear hS3 hfj
      have x9 := HT7.out.x13.2.2.2.2.2.2.2.2.2.1
      obtain ⟨k0, k1, k2, k3, k4⟩ := Kq.kil HT7.out.kept
      go_wp2_with fail
      refine (HND.out _).mono ?_
      rintro e w8 ⟨rfl, hb8⟩
      have HT8 := hid (HT7.out.below hb8)
      have HR8 := hid (HR7.out.still (Lt.Still.below hb8))
      clear hb8 x9 k0 k1 k2 k3 k4
      by_cases he : need ≤ fj
      · go_wp2_with fail
        refine bodyPost_ret (v := .tuple #[.int .i64 (j : Nat), .int .i64 fj, .int .i64 bv, .bool true]) (by simp [results, Tryz.results55, go_sem]) rfl ⟨⟨HT8.out.kept, HT8.out.still⟩, .inl ⟨j, HLT.out, by rw [← HFE.out]; exact he, HAL.out, ?_⟩⟩
        rw [HBV.out, HFE.out]
      · obtain ⟨q0, q1, q2, q3, q4, q5, q6, q7, q8, q9, q10, q11, q12⟩ := HT8.out.x13
        go_wp2_with fail
        refine (HTK.out _ HR8.out HT8.out.kept).mono ?_
        rintro e w9 ⟨ya9, yc9, ea9, ec9, ga9, gc9, rfl, hr9, hf9, hk9, hs9⟩
        have HT9 := hid (HT8.out.at hn.out hk9 hs9)
        have HF9 := hid (show RowsF (w.heap.size + 1) ya9 ea9 ga9 from ⟨fun ad h => by have h1 := hf9.fx ad h; have h2 := lt_of_block HT8.out.box; omega, fun ad h => by have h1 := hf9.fd ad h; have h2 := lt_of_block HT8.out.box; omega, fun ad h => by have h1 := hf9.fu ad h; have h2 := lt_of_block HT8.out.box; omega⟩)
        have HR9 := hid hr9
        clear hr9 hf9 hk9 hs9 q0 q1 q2 q3 q4 q5 q6 q7 q8 q9 q10 q11 q12
        have HA2 := hid (show ∀ i, i < j + 1 → F i < need from fun i hi => by
          rcases Nat.lt_or_ge i j with h1 | h1
          · exact HAL.out i h1
          · obtain rfl : i = j := by omega
            rw [← HFE.out]; omega)
        go_wp2_with (refine wpList_store_row rfl 73 _ _ rfl w.heap.size _ rfl rfl 73 _ HT9.out.box infoRn rfl rnA_one ?_; generalize hW : World.setRow _ _ _ = W5; have HE := hid (HT9.out.lay0 hn.out (Nat.le_refl _) hW); clear hW)
        have hnn := hn.out
        have HR10 := hid ((HR9.out.same (base := w.heap.size + 1) HF9.out (fun g hg => HE.out.2.1 g (by omega)) (by omega) (by omega)).offQ (n := w.heap.size) HF9.out hnn.1 hnn.2)
        have HLTT := HLT.out
        clear hnn
        go_roundw
        case rel => exact ⟨j + 1, by omega, by go_num, ⟨fj, rfl, by refine hid ?_; rw [if_neg (by omega), Nat.add_sub_cancel]; exact HFE.out⟩, HA2, rsT c K.f K.u S' bath, ya9, yc9, ea9, ec9, ga9, gc9, HSU.out, HE.out.1, HR10⟩
        case measure => simp [intOf]; omega
    · obtain rfl : j = most + 1 := by omega
      go_wp2_with fail
      refine bodyPost_ret (v := .tuple #[.int .i64 0, .int .i64 0, .int .i64 0, .bool false]) (by simp [results, Tryz.results55, go_sem]) rfl ⟨⟨HTr.out.kept, HTr.out.still⟩, .inr ⟨fun i hi => HAL.out i (by omega), rfl⟩⟩
end Go.Proofs.YtedfajokiblfhaaGreat
