/- The reference's kept rates as one thing; rows that its rates spare; slowest, spoilt: contracts. -/
import Derived.Test.YtedfajokiblfhaaGreatD2
import Derived.Test.YtedfajokiblfhaaGreatB6
import Derived.Test.YtedfajokiblfhaaGreatQq
namespace Go.Proofs.YtedfajokiblfhaaGreat
open Go.RowKit Go.Lib

/-- The kept rates of a killer: what it is, and where they lie. -/
structure Kq where
  s : ByteArray
  r : Int
  Z : Nat
  d : Int
  g : Int
  wF : World
  b : Nat
  gD : Nat
  gU : Nat
def Kq.at (K : Kq) (W : World) : Prop := Lt.KeptS K.s K.r K.Z K.d K.g K.wF K.b K.gD K.gU W
structure Kq.V (K : Kq) : Prop where
  r1 : -200 ≤ K.r
  r2 : K.r ≤ 800
  z1 : 1 ≤ K.Z
  z2 : K.Z ≤ 60
abbrev Kq.f (K : Kq) : Int → Nat := Lt.dn K.r K.Z
abbrev Kq.u (K : Kq) : Int → Nat := Lt.up K.r K.Z
theorem Kq.lt {K : Kq} {W : World} (h : K.at W) : K.b < W.heap.size ∧ K.gD < W.heap.size ∧ K.gU < W.heap.size ∧ K.b < K.gD ∧ K.b < K.gU ∧ K.wF.heap.size ≤ K.b := by
  obtain ⟨l1, l2, cD, cU, hF, hR⟩ := h
  have h1 := World.ownsRow.lt hF.rowD K.gD rfl
  have h2 := World.ownsRow.lt hF.rowU K.gU rfl
  exact ⟨lt_of_block hF.blk, h1.2, h2.2, by omega, by omega, hF.le⟩
theorem Kq.below {K : Kq} {W W' : World} (h : K.at W) (hb : Below W.heap.size W W') : K.at W' := Lt.KeptS.below h hb
theorem Kq.grown {K : Kq} {W W' : World} {base : Nat} {row : Option Nat} (h : K.at W) (hg : W.grownBy W' row) (hr : ∀ j, row = some j → base ≤ j) (hb : K.gD < base ∧ K.gU < base) : K.at W' :=
  Lt.KeptS.grown h hg hr (by have := (Kq.lt h).2.2.2.1; omega) hb.1 hb.2
theorem at_k {K : Kq} (hV : K.V) (t : Int) (W : World) (hK : K.at W) (t1 : -50000 ≤ t) (t2 : t ≤ 200000) :
    Calls Tryz.prog 118 #[.pointer (some ⟨K.b, 0, none⟩), .int .i64 t] W fun e W' => e = .returned (.tuple #[.int .i64 (K.f t : Nat), .int .i64 (K.u t : Nat)]) ∧ K.at W' ∧ Lt.Still K.gD K.gU W W' :=
  (Lt.at_any K.s K.r K.d K.g t K.Z K.wF K.b K.gD K.gU W hV.r1 hV.r2 (by have := hV.z1; omega) (by have := hV.z2; omega) t1 t2 hK).mono fun _ _ h => h

/-- A row of ints that stays readable whatever the kept rates turn. -/
def RowK (gD gU : Nat) (W : World) (v : Value) (l : List Int) : Prop := ∀ W', Lt.Still gD gU W W' → RowI W' v l
theorem RowK.row {gD gU : Nat} {W : World} {v : Value} {l : List Int} (h : RowK gD gU W v l) : RowI W v l := h W (Lt.Still.refl _ _ _)
theorem RowK.still {gD gU : Nat} {W W' : World} {v : Value} {l : List Int} (h : RowK gD gU W v l) (hs : Lt.Still gD gU W W') : RowK gD gU W' v l := fun W2 h2 => h W2 (hs.trans h2)
theorem rowK_off {gD gU : Nat} {W : World} {v : Value} {l : List Int} (h : RowI W v l) (ho : ∀ b o x, v.ownBlock ≠ none → W.cell? ⟨b, o, none⟩ = some (.int .i64 x) → (∃ n cap, v = .slice (some ⟨b, o, none⟩) n cap) → b ≠ gD ∧ b ≠ gU) : RowK gD gU W v l := by
  intro W' hs
  rcases h with h | ⟨b, o, cap, hv, hm, hc⟩
  · exact .inl h
  · by_cases h0 : l = []
    · subst h0
      exact .inl ⟨_, _, hv, rfl⟩
    refine .inr ⟨b, o, cap, hv, hm, fun k hk => ?_⟩
    have hl0 : 0 < l.length := List.length_pos_iff.2 h0
    have hc0 := hc 0 hl0
    rw [Nat.add_zero] at hc0
    obtain ⟨n1, n2⟩ := ho b o _ (by subst hv; simp [Value.ownBlock]) hc0 ⟨_, _, hv⟩
    rw [World.cell?_of_block (a := ⟨b, o + k, none⟩) (hs.block b (World.block_lt_of_cell? W ⟨b, o + k, none⟩ (hc k hk)) n1 n2)]
    exact hc k hk
/-- A row from before the kept rates. -/
theorem rowK_old {gD gU : Nat} {w W : World} {v : Value} {l : List Int} (h : RowI w v l) (hb : Below w.heap.size w W) (hD : w.heap.size ≤ gD) (hU : w.heap.size ≤ gU) : RowK gD gU W v l := by
  intro W' hs
  rcases h with h | ⟨b, o, cap, hv, hm, hc⟩
  · exact .inl h
  · refine .inr ⟨b, o, cap, hv, hm, fun k hk => ?_⟩
    have hlt := World.block_lt_of_cell? w ⟨b, o + k, none⟩ (hc k hk)
    have hlt : b < w.heap.size := hlt
    rw [World.cell?_of_block (a := ⟨b, o + k, none⟩) (hs.block b (Nat.lt_of_lt_of_le hlt hb.size) (by omega) (by omega))]
    exact keep_cell hb (hc k hk)
/-- A row that lies behind the kept rates. -/
theorem rowK_from {gD gU base : Nat} {W : World} {a : Option Addr} {n cap : Nat} {l : List Int} (h : RowI W (.slice a n cap) l) (ha : ∀ ad, a = some ad → base ≤ ad.block) (hD : gD < base) (hU : gU < base) : RowK gD gU W (.slice a n cap) l := by
  intro W' hs
  rcases h with h | ⟨b, o, cap', hv, hm, hc⟩
  · exact .inl h
  · refine .inr ⟨b, o, cap', hv, hm, fun k hk => ?_⟩
    injection hv with e1
    have := ha _ e1
    have : base ≤ b := this
    rw [World.cell?_of_block (a := ⟨b, o + k, none⟩) (hs.block b (World.block_lt_of_cell? W ⟨b, o + k, none⟩ (hc k hk)) (by omega) (by omega))]
    exact hc k hk
theorem own_still {gD gU base e n : Nat} {W W' : World} {v : Value} {xs : List Value} (h : W.ownsRow base e 1 v n xs) (hs : Lt.Still gD gU W W') (hD : gD < base) (hU : gU < base) : W'.ownsRow base e 1 v n xs := by
  refine ⟨h.1, ?_⟩
  rcases h.2 with h1 | ⟨a, cap, cur, hv, hb, hg, rest⟩
  · exact .inl h1
  · exact .inr ⟨a, cap, cur, hv, hb, (hs.block a (lt_of_block hg) (by omega) (by omega)).trans hg, rest⟩

/-- The three rows of a run. -/
structure RowsK (gD gU : Nat) (W : World) (S : Rs) (xa : Option Addr) (xc : Nat) (da : Option Addr) (dc : Nat) (ua : Option Addr) (uc : Nat) : Prop where
  tx : RowK gD gU W (.slice xa S.x.1.length xc) S.x.1
  td : RowK gD gU W (.slice da S.d.length dc) (ivN S.d)
  tu : RowK gD gU W (.slice ua S.u.length uc) (ivN S.u)
theorem RowsK.still {gD gU : Nat} {W W' : World} {S : Rs} {xa da ua : Option Addr} {xc dc uc : Nat} (h : RowsK gD gU W S xa xc da dc ua uc) (hs : Lt.Still gD gU W W') : RowsK gD gU W' S xa xc da dc ua uc :=
  ⟨h.tx.still hs, h.td.still hs, h.tu.still hs⟩
/-- What tells a run. -/
def RnP (c : Cn) (K : Kq) (S : Rs) (w : World) (e : Ending) (w' : World) : Prop :=
  ∃ (xa : Option Addr) (xc : Nat) (da : Option Addr) (dc : Nat) (ua : Option Addr) (uc : Nat), e = .returned (.agg #[.int .i64 (c.R : Int), .int .i64 (c.L : Int), .int .i64 c.A, .int .i64 c.B, .int .i64 c.K, .int .i64 c.A2, .int .i64 c.B2, .slice xa S.x.1.length xc, .bool S.x.2, .pointer (some ⟨K.b, 0, none⟩), .slice da S.d.length dc, .slice ua S.u.length uc, .int .i64 (S.k : Nat)]) ∧ RowsK K.gD K.gU w' S xa xc da dc ua uc ∧ K.at w' ∧ Lt.Still K.gD K.gU w w'

/-- Rows that lie at or behind a block. -/
structure RowsF (base : Nat) (xa da ua : Option Addr) : Prop where
  fx : ∀ ad, xa = some ad → base ≤ ad.block
  fd : ∀ ad, da = some ad → base ≤ ad.block
  fu : ∀ ad, ua = some ad → base ≤ ad.block
/-- What tells a run whose rows are new. -/
def RnF (c : Cn) (K : Kq) (S : Rs) (w : World) (e : Ending) (w' : World) : Prop :=
  ∃ (xa : Option Addr) (xc : Nat) (da : Option Addr) (dc : Nat) (ua : Option Addr) (uc : Nat), e = .returned (.agg #[.int .i64 (c.R : Int), .int .i64 (c.L : Int), .int .i64 c.A, .int .i64 c.B, .int .i64 c.K, .int .i64 c.A2, .int .i64 c.B2, .slice xa S.x.1.length xc, .bool S.x.2, .pointer (some ⟨K.b, 0, none⟩), .slice da S.d.length dc, .slice ua S.u.length uc, .int .i64 (S.k : Nat)]) ∧ RowsK K.gD K.gU w' S xa xc da dc ua uc ∧ RowsF w.heap.size xa da ua ∧ K.at w' ∧ Lt.Still K.gD K.gU w w'
theorem bestI_step {L : List Int} {k j : Nat} (hj : j < L.length) (hk : k < L.length) (h : (bestT ltB L k).1 = j) : (bestT ltB L (k + 1)).1 = if L[k] < L[j] then k else j := by
  rw [bestT_step hj hk h]
  unfold ltB
  by_cases g : L[k] < L[j] <;> simp [g]
set_option maxRecDepth 20000 in
set_option maxHeartbeats 2000000 in
theorem xslow_any (c : Cn) (K : Kq) (S : Rs) (xa : Option Addr) (xc : Nat) (da : Option Addr) (dc : Nat) (ua : Option Addr) (uc : Nat) (w : World) (hl : RowI w (.slice da S.d.length dc) (ivN S.d)) (h0 : 0 < S.d.length) (hm : S.d.length ≤ 1000) :
    Calls Tryz.prog 43 #[.agg #[.int .i64 (c.R : Int), .int .i64 (c.L : Int), .int .i64 c.A, .int .i64 c.B, .int .i64 c.K, .int .i64 c.A2, .int .i64 c.B2, .slice xa S.x.1.length xc, .bool S.x.2, .pointer (some ⟨K.b, 0, none⟩), .slice da S.d.length dc, .slice ua S.u.length uc, .int .i64 (S.k : Nat)]] w fun e w' => e = .returned (.tuple #[.int .i64 (idxA (ivN S.d) (minA (ivN S.d)) : Nat), .int .i64 (minA (ivN S.d))]) ∧ Below w.heap.size w w' := by
  have hll := ivN_len S.d
  have HBM := hid (best_min (S := ivN S.d) (by omega))
  have BX := hid (box1_start (w := w) (A := #[.int .i64 (c.R : Int), .int .i64 (c.L : Int), .int .i64 c.A, .int .i64 c.B, .int .i64 c.K, .int .i64 c.A2, .int .i64 c.B2, .slice xa S.x.1.length xc, .bool S.x.2, .pointer (some ⟨K.b, 0, none⟩), .slice da S.d.length dc, .slice ua S.u.length uc, .int .i64 (S.k : Nat)]) (T := 73) (fz := (0, 0)))
  obtain ⟨b, o, cap, hv, hc⟩ := hl.some (by omega)
  injection hv with e1 e2 e3
  subst e1
  subst e3
  clear e2
  have HC := hid (fun w1 (g : Below w.heap.size w w1) j h => keep_cell g (hc j h))
  clear hc hl
  obtain ⟨n, hn⟩ : ∃ n, n = S.d.length := ⟨_, rfl⟩
  rw [← hn] at BX h0 hm hll ⊢
  have x10 := BX.out.fst 10
  simp only [List.getElem?_toArray, List.getElem?_cons_zero, List.getElem?_cons_succ] at x10
  rw [← hll] at x10 h0 hm
  clear hn
  generalize ivN S.d = L at *
  subst hll
  go_enter Tryz.func43, Tryz.ntmps43
  go_wp2_with fail
  go_loopw [4, 5] (fun p i wr => ∃ k j : Nat, k ≤ L.length ∧ j < L.length ∧ p = .int .i64 (j : Int) ∧ i = .int .i64 (k : Int) ∧ Hid ((bestT ltB L k).1 = j) ∧ Hid (Box1 w wr #[.int .i64 (c.R : Int), .int .i64 (c.L : Int), .int .i64 c.A, .int .i64 c.B, .int .i64 c.K, .int .i64 c.A2, .int .i64 c.B2, .slice xa S.x.1.length xc, .bool S.x.2, .pointer (some ⟨K.b, 0, none⟩), .slice (some ⟨b, o, none⟩) L.length dc, .slice ua S.u.length uc, .int .i64 (S.k : Nat)])) (fun _ i _ => L.length - (intOf i).toNat)
  case atStart => exact ⟨0, 0, Nat.zero_le _, h0, rfl, rfl, rfl, BX⟩
  case round =>
    obtain ⟨k, j, hk, hj, rfl, rfl, HB, BX⟩ := hrel
    clear x10
    have x10 := BX.out.fst 10
    simp only [List.getElem?_toArray, List.getElem?_cons_zero, List.getElem?_cons_succ] at x10
    have ey := HC.out _ BX.out.low j hj
    by_cases hlt : k < L.length
    · have ex := HC.out _ BX.out.low k hlt
      have HST := hid (bestI_step hj hlt HB.out)
      by_cases he : L[k] < L[j]
      · rw [if_pos he] at HST
        generalize L[k] = s at ex he
        generalize L[j] = q at ey he
        go_wp2
        go_quiet (fail)
        go_wp2
        go_roundw
        case rel => exact ⟨k + 1, k, by omega, hlt, rfl, by go_num, HST, hid (BX.out.keep (bdrewN (Below.refl _ _)))⟩
        case measure => simp [intOf]; omega
      · rw [if_neg he] at HST
        generalize L[k] = s at ex he
        generalize L[j] = q at ey he
        go_wp2
        go_quiet (fail)
        go_wp2
        go_roundw
        case rel => exact ⟨k + 1, j, by omega, hj, rfl, by go_num, HST, hid (BX.out.keep (bdrewN (Below.refl _ _)))⟩
        case measure => simp [intOf]; omega
    · obtain rfl : k = L.length := by omega
      have HV := hid (bestT_of hj (Nat.le_refl _) HB.out)
      generalize L[j] = q at ey HV
      go_wp2
      go_quiet (fail)
      go_wp2
      go_ret2
      exact ⟨by rw [← HBM.out.2, HB.out, ← HBM.out.1, HV.out]; rfl, bdrewN BX.out.low⟩
end Go.Proofs.YtedfajokiblfhaaGreat
