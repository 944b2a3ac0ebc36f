/- Texts of this seat, one behind the other. -/
import Derived.Test.YtihbjimnjhfpeaaGreatG19
import Derived.Test.YtihbjimnjhfpeaaGreatG18
import Derived.Test.YtihbjimnjhfpeaaGreatG20
import Derived.Test.YtihbjimnjhfpeaaGreatG02
import Derived.Test.YtihbjimnjhfpeaaGreatG10
/- The reference's kept rates as one thing; rows that its rates spare; slowest, spoilt: contracts. -/
namespace Go.Proofs.YtihbjimnjhfpeaaGreat
open Go.RowKit Go.Lib

/-- The kept rates of a killer: what it is, and where they lie. -/
structure Kq where
  s : ByteArray
  r : Int
  Z : Nat
  d : Int
  g : Int
  wF : World
  b : Nat
  gD : Nat
  gU : Nat
def Kq.at (K : Kq) (W : World) : Prop := Lt.KeptS K.s K.r K.Z K.d K.g K.wF K.b K.gD K.gU W
structure Kq.V (K : Kq) : Prop where
  r1 : -200 ≤ K.r
  r2 : K.r ≤ 800
  z1 : 1 ≤ K.Z
  z2 : K.Z ≤ 60
abbrev Kq.f (K : Kq) : Int → Nat := Lt.dn K.r K.Z
abbrev Kq.u (K : Kq) : Int → Nat := Lt.up K.r K.Z
theorem Kq.lt {K : Kq} {W : World} (h : K.at W) : K.b < W.heap.size ∧ K.gD < W.heap.size ∧ K.gU < W.heap.size ∧ K.b < K.gD ∧ K.b < K.gU ∧ K.wF.heap.size ≤ K.b := by
  obtain ⟨l1, l2, cD, cU, hF, hR⟩ := h
  have h1 := World.ownsRow.lt hF.rowD K.gD rfl
  have h2 := World.ownsRow.lt hF.rowU K.gU rfl
  exact ⟨lt_of_block hF.blk, h1.2, h2.2, by omega, by omega, hF.le⟩
theorem Kq.below {K : Kq} {W W' : World} (h : K.at W) (hb : Below W.heap.size W W') : K.at W' := Lt.KeptS.below h hb
theorem Kq.grown {K : Kq} {W W' : World} {base : Nat} {row : Option Nat} (h : K.at W) (hg : W.grownBy W' row) (hr : ∀ j, row = some j → base ≤ j) (hb : K.gD < base ∧ K.gU < base) : K.at W' :=
  Lt.KeptS.grown h hg hr (by have := (Kq.lt h).2.2.2.1; omega) hb.1 hb.2
theorem at_k {K : Kq} (hV : K.V) (t : Int) (W : World) (hK : K.at W) (t1 : -50000 ≤ t) (t2 : t ≤ 200000) :
    Calls Tryz.prog 153 #[.pointer (some ⟨K.b, 0, none⟩), .int .i64 t] W fun e W' => e = .returned (.tuple #[.int .i64 (K.f t : Nat), .int .i64 (K.u t : Nat)]) ∧ K.at W' ∧ Lt.Still K.gD K.gU W W' :=
  (Lt.at_any K.s K.r K.d K.g t K.Z K.wF K.b K.gD K.gU W hV.r1 hV.r2 (by have := hV.z1; omega) (by have := hV.z2; omega) t1 t2 hK).mono fun _ _ h => h

/-- A row of ints that stays readable whatever the kept rates turn. -/
def RowK (gD gU : Nat) (W : World) (v : Value) (l : List Int) : Prop := ∀ W', Lt.Still gD gU W W' → RowI W' v l
theorem RowK.row {gD gU : Nat} {W : World} {v : Value} {l : List Int} (h : RowK gD gU W v l) : RowI W v l := h W (Lt.Still.refl _ _ _)
theorem RowK.still {gD gU : Nat} {W W' : World} {v : Value} {l : List Int} (h : RowK gD gU W v l) (hs : Lt.Still gD gU W W') : RowK gD gU W' v l := fun W2 h2 => h W2 (hs.trans h2)
theorem rowK_off {gD gU : Nat} {W : World} {v : Value} {l : List Int} (h : RowI W v l) (ho : ∀ b o x, v.ownBlock ≠ none → W.cell? ⟨b, o, none⟩ = some (.int .i64 x) → (∃ n cap, v = .slice (some ⟨b, o, none⟩) n cap) → b ≠ gD ∧ b ≠ gU) : RowK gD gU W v l := by
  intro W' hs
  rcases h with h | ⟨b, o, cap, hv, hm, hc⟩
  · exact .inl h
  · by_cases h0 : l = []
    · subst h0
      exact .inl ⟨_, _, hv, rfl⟩
    refine .inr ⟨b, o, cap, hv, hm, fun k hk => ?_⟩
    have hl0 : 0 < l.length := List.length_pos_iff.2 h0
    have hc0 := hc 0 hl0
    rw [Nat.add_zero] at hc0
    obtain ⟨n1, n2⟩ := ho b o _ (by subst hv; simp [Value.ownBlock]) hc0 ⟨_, _, hv⟩
    rw [World.cell?_of_block (a := ⟨b, o + k, none⟩) (hs.block b (World.block_lt_of_cell? W ⟨b, o + k, none⟩ (hc k hk)) n1 n2)]
    exact hc k hk
/-- A row from before the kept rates. -/
theorem rowK_old {gD gU : Nat} {w W : World} {v : Value} {l : List Int} (h : RowI w v l) (hb : Below w.heap.size w W) (hD : w.heap.size ≤ gD) (hU : w.heap.size ≤ gU) : RowK gD gU W v l := by
  intro W' hs
  rcases h with h | ⟨b, o, cap, hv, hm, hc⟩
  · exact .inl h
  · refine .inr ⟨b, o, cap, hv, hm, fun k hk => ?_⟩
    have hlt := World.block_lt_of_cell? w ⟨b, o + k, none⟩ (hc k hk)
    have hlt : b < w.heap.size := hlt
    rw [World.cell?_of_block (a := ⟨b, o + k, none⟩) (hs.block b (Nat.lt_of_lt_of_le hlt hb.size) (by omega) (by omega))]
    exact keep_cell hb (hc k hk)
/-- A row that lies behind the kept rates. -/
theorem rowK_from {gD gU base : Nat} {W : World} {a : Option Addr} {n cap : Nat} {l : List Int} (h : RowI W (.slice a n cap) l) (ha : ∀ ad, a = some ad → base ≤ ad.block) (hD : gD < base) (hU : gU < base) : RowK gD gU W (.slice a n cap) l := by
  intro W' hs
  rcases h with h | ⟨b, o, cap', hv, hm, hc⟩
  · exact .inl h
  · refine .inr ⟨b, o, cap', hv, hm, fun k hk => ?_⟩
    injection hv with e1
    have := ha _ e1
    have : base ≤ b := this
    rw [World.cell?_of_block (a := ⟨b, o + k, none⟩) (hs.block b (World.block_lt_of_cell? W ⟨b, o + k, none⟩ (hc k hk)) (by omega) (by omega))]
    exact hc k hk
theorem own_still {gD gU base e n : Nat} {W W' : World} {v : Value} {xs : List Value} (h : W.ownsRow base e 1 v n xs) (hs : Lt.Still gD gU W W') (hD : gD < base) (hU : gU < base) : W'.ownsRow base e 1 v n xs := by
  refine ⟨h.1, ?_⟩
  rcases h.2 with h1 | ⟨a, cap, cur, hv, hb, hg, rest⟩
  · exact .inl h1
  · exact .inr ⟨a, cap, cur, hv, hb, (hs.block a (lt_of_block hg) (by omega) (by omega)).trans hg, rest⟩

/-- The three rows of a run. -/
structure RowsK (gD gU : Nat) (W : World) (S : Rs) (xa : Option Addr) (xc : Nat) (da : Option Addr) (dc : Nat) (ua : Option Addr) (uc : Nat) : Prop where
  tx : RowK gD gU W (.slice xa S.x.1.length xc) S.x.1
  td : RowK gD gU W (.slice da S.d.length dc) (ivN S.d)
  tu : RowK gD gU W (.slice ua S.u.length uc) (ivN S.u)
theorem RowsK.still {gD gU : Nat} {W W' : World} {S : Rs} {xa da ua : Option Addr} {xc dc uc : Nat} (h : RowsK gD gU W S xa xc da dc ua uc) (hs : Lt.Still gD gU W W') : RowsK gD gU W' S xa xc da dc ua uc :=
  ⟨h.tx.still hs, h.td.still hs, h.tu.still hs⟩
/-- What tells a run. -/
def RnP (c : Cn) (K : Kq) (S : Rs) (w : World) (e : Ending) (w' : World) : Prop :=
  ∃ (xa : Option Addr) (xc : Nat) (da : Option Addr) (dc : Nat) (ua : Option Addr) (uc : Nat), e = .returned (.agg #[.int .i64 (c.R : Int), .int .i64 (c.L : Int), .int .i64 c.A, .int .i64 c.B, .int .i64 c.K, .int .i64 c.A2, .int .i64 c.B2, .slice xa S.x.1.length xc, .bool S.x.2, .pointer (some ⟨K.b, 0, none⟩), .slice da S.d.length dc, .slice ua S.u.length uc, .int .i64 (S.k : Nat)]) ∧ RowsK K.gD K.gU w' S xa xc da dc ua uc ∧ K.at w' ∧ Lt.Still K.gD K.gU w w'

/-- Rows that lie at or behind a block. -/
structure RowsF (base : Nat) (xa da ua : Option Addr) : Prop where
  fx : ∀ ad, xa = some ad → base ≤ ad.block
  fd : ∀ ad, da = some ad → base ≤ ad.block
  fu : ∀ ad, ua = some ad → base ≤ ad.block
/-- What tells a run whose rows are new. -/
def RnF (c : Cn) (K : Kq) (S : Rs) (w : World) (e : Ending) (w' : World) : Prop :=
  ∃ (xa : Option Addr) (xc : Nat) (da : Option Addr) (dc : Nat) (ua : Option Addr) (uc : Nat), e = .returned (.agg #[.int .i64 (c.R : Int), .int .i64 (c.L : Int), .int .i64 c.A, .int .i64 c.B, .int .i64 c.K, .int .i64 c.A2, .int .i64 c.B2, .slice xa S.x.1.length xc, .bool S.x.2, .pointer (some ⟨K.b, 0, none⟩), .slice da S.d.length dc, .slice ua S.u.length uc, .int .i64 (S.k : Nat)]) ∧ RowsK K.gD K.gU w' S xa xc da dc ua uc ∧ RowsF w.heap.size xa da ua ∧ K.at w' ∧ Lt.Still K.gD K.gU w w'
theorem bestI_step {L : List Int} {k j : Nat} (hj : j < L.length) (hk : k < L.length) (h : (bestT ltB L k).1 = j) : (bestT ltB L (k + 1)).1 = if L[k] < L[j] then k else j := by
  rw [bestT_step hj hk h]
  unfold ltB
  by_cases g : L[k] < L[j] <;> simp [g]
set_option maxRecDepth 20000 in
set_option maxHeartbeats 2000000 in
theorem xslow_any (c : Cn) (K : Kq) (S : Rs) (xa : Option Addr) (xc : Nat) (da : Option Addr) (dc : Nat) (ua : Option Addr) (uc : Nat) (w : World) (hl : RowI w (.slice da S.d.length dc) (ivN S.d)) (h0 : 0 < S.d.length) (hm : S.d.length ≤ 1000) :
    Calls Tryz.prog 124 #[.agg #[.int .i64 (c.R : Int), .int .i64 (c.L : Int), .int .i64 c.A, .int .i64 c.B, .int .i64 c.K, .int .i64 c.A2, .int .i64 c.B2, .slice xa S.x.1.length xc, .bool S.x.2, .pointer (some ⟨K.b, 0, none⟩), .slice da S.d.length dc, .slice ua S.u.length uc, .int .i64 (S.k : Nat)]] w fun e w' => e = .returned (.tuple #[.int .i64 (idxA (ivN S.d) (minA (ivN S.d)) : Nat), .int .i64 (minA (ivN S.d))]) ∧ Below w.heap.size w w' := by
  have hll := ivN_len S.d
  have HBM := hid (best_min (S := ivN S.d) (by omega))
  have BX := hid (box1_start (w := w) (A := #[.int .i64 (c.R : Int), .int .i64 (c.L : Int), .int .i64 c.A, .int .i64 c.B, .int .i64 c.K, .int .i64 c.A2, .int .i64 c.B2, .slice xa S.x.1.length xc, .bool S.x.2, .pointer (some ⟨K.b, 0, none⟩), .slice da S.d.length dc, .slice ua S.u.length uc, .int .i64 (S.k : Nat)]) (T := 136) (fz := (0, 0)))
  obtain ⟨b, o, cap, hv, hc⟩ := hl.some (by omega)
  injection hv with e1 e2 e3
  subst e1
  subst e3
  clear e2
  have HC := hid (fun w1 (g : Below w.heap.size w w1) j h => keep_cell g (hc j h))
  clear hc hl
  obtain ⟨n, hn⟩ : ∃ n, n = S.d.length := ⟨_, rfl⟩
  rw [← hn] at BX h0 hm hll ⊢
  have x10 := BX.out.fst 10
  simp only [List.getElem?_toArray, List.getElem?_cons_zero, List.getElem?_cons_succ] at x10
  rw [← hll] at x10 h0 hm
  clear hn
  generalize ivN S.d = L at *
  subst hll
  go_enter Tryz.func124, Tryz.ntmps124
  go_wp2_with fail
  go_loopw [4, 5] (fun p i wr => ∃ k j : Nat, k ≤ L.length ∧ j < L.length ∧ p = .int .i64 (j : Int) ∧ i = .int .i64 (k : Int) ∧ Hid ((bestT ltB L k).1 = j) ∧ Hid (Box1 w wr #[.int .i64 (c.R : Int), .int .i64 (c.L : Int), .int .i64 c.A, .int .i64 c.B, .int .i64 c.K, .int .i64 c.A2, .int .i64 c.B2, .slice xa S.x.1.length xc, .bool S.x.2, .pointer (some ⟨K.b, 0, none⟩), .slice (some ⟨b, o, none⟩) L.length dc, .slice ua S.u.length uc, .int .i64 (S.k : Nat)])) (fun _ i _ => L.length - (intOf i).toNat)
  case atStart => exact ⟨0, 0, Nat.zero_le _, h0, rfl, rfl, rfl, BX⟩
  case round =>
    obtain ⟨k, j, hk, hj, rfl, rfl, HB, BX⟩ := hrel
    clear x10
    have x10 := BX.out.fst 10
    simp only [List.getElem?_toArray, List.getElem?_cons_zero, List.getElem?_cons_succ] at x10
    have ey := HC.out _ BX.out.low j hj
    by_cases hlt : k < L.length
    · have ex := HC.out _ BX.out.low k hlt
      have HST := hid (bestI_step hj hlt HB.out)
      by_cases he : L[k] < L[j]
      · rw [if_pos he] at HST
        generalize L[k] = s at ex he
        generalize L[j] = q at ey he
        go_wp2
        go_quiet (fail)
        go_wp2
        go_roundw
        case rel => exact ⟨k + 1, k, by omega, hlt, rfl, by go_num, HST, hid (BX.out.keep (bdrewN (Below.refl _ _)))⟩
        case measure => simp [intOf]; omega
      · rw [if_neg he] at HST
        generalize L[k] = s at ex he
        generalize L[j] = q at ey he
        go_wp2
        go_quiet (fail)
        go_wp2
        go_roundw
        case rel => exact ⟨k + 1, j, by omega, hj, rfl, by go_num, HST, hid (BX.out.keep (bdrewN (Below.refl _ _)))⟩
        case measure => simp [intOf]; omega
    · obtain rfl : k = L.length := by omega
      have HV := hid (bestT_of hj (Nat.le_refl _) HB.out)
      generalize L[j] = q at ey HV
      go_wp2
      go_quiet (fail)
      go_wp2
      go_ret2
      exact ⟨by rw [← HBM.out.2, HB.out, ← HBM.out.1, HV.out]; rfl, bdrewN BX.out.low⟩
end Go.Proofs.YtihbjimnjhfpeaaGreat

/- Walks of process's small tests: within, temperatures, ticks, valid, check: contracts. -/
namespace Go.Proofs.YtihbjimnjhfpeaaGreat
open Go.RowKit

set_option maxHeartbeats 400000 in
theorem pwithin_any (a b c : Int) (w : World) :
    Calls Tryz.prog 42 #[.int .i64 a, .int .i64 b, .int .i64 c] w fun e w' => e = .returned (.bool (decide (b ≤ a) && decide (a ≤ c))) ∧ w = w' := by
  by_cases h : b ≤ a
  · have hd : decide (b ≤ a) = true := by simpa using h
    go_enter Tryz.func42, Tryz.ntmps42
    go_wp2
    go_ret
    exact ⟨by simp [h], rfl⟩
  · have hd : decide (b ≤ a) = false := by simpa using h
    go_enter Tryz.func42, Tryz.ntmps42
    go_wp2
    go_ret
    exact ⟨by simp, rfl⟩
set_option maxHeartbeats 2000000 in
theorem ptemps_any (w : World) (v : Value) (l : List Int) (hl : RowI w v l) :
    Calls Tryz.prog 28 #[v] w fun e w' => e = .returned (.bool (okL l)) ∧ w = w' := by
  rcases hl with ⟨a0, c0, rfl, rfl⟩ | ⟨b, o, cap, rfl, hm, hc⟩
  · go_enter Tryz.func28, Tryz.ntmps28
    go_wp2
    refine wp_loop_rounds 1 ?_
    rw [rounds_succ]
    go_wp2
    go_ret
    exact ⟨rfl, rfl⟩
  · have HC := hid hc; clear hc
    unfold maxLen at hm
    go_enter Tryz.func28, Tryz.ntmps28
    go_wp2
    go_loop [7] (fun i => ∃ k : Nat, k ≤ l.length ∧ i = .int .i64 (k : Int) ∧ Hid (∀ j (hj : j < l.length), j < k → okT l[j] = true)) (fun i => l.length - (intOf i).toNat)
    case atStart => exact ⟨0, Nat.zero_le _, rfl, fun j _ h => absurd h (Nat.not_lt_zero _)⟩
    case round =>
      obtain ⟨k, hk, rfl, hok⟩ := hrel
      by_cases hlt : k < l.length
      · have ex := HC.out k hlt
        have hlt' : (k : Int) < l.length := by omega
        cases ho : okT l[k]
        · have hE := hid (okL_bad hlt ho)
          generalize l[k] = x at ex ho
          change (decide (-50000 ≤ x) && decide (x ≤ 200000)) = false at ho
          go_wp2_with (go_at_call 42; refine (pwithin_any _ _ _ _).mono ?_; rintro e w' ⟨rfl, rfl⟩)
          go_ret
          exact ⟨by rw [hE.out]; rfl, rfl⟩
        · have hst : Hid (∀ j (hj : j < l.length), j < k + 1 → okT l[j] = true) := fun j hj h => by
            rcases Nat.lt_or_ge j k with h1 | h1
            · exact hok.out j hj h1
            · obtain rfl : j = k := by omega
              exact ho
          generalize l[k] = x at ex ho
          change (decide (-50000 ≤ x) && decide (x ≤ 200000)) = true at ho
          go_wp2_with (go_at_call 42; refine (pwithin_any _ _ _ _).mono ?_; rintro e w' ⟨rfl, rfl⟩)
          go_round
          case rel => exact ⟨k + 1, by omega, by go_num, hst⟩
          case measure => simp [intOf]; omega
      · obtain rfl : k = l.length := by omega
        have hE := hid (okL_end hok.out rfl)
        go_wp2
        go_ret
        exact ⟨by rw [hE.out]; rfl, rfl⟩

/-- A killer as it came in. -/
structure Kl where
  s : ByteArray
  r : Int
  z : Int
  d : Int
  g : Int
def Kl.vB (q : Kl) : Bool := Lt.validB q.s.data.toList q.r q.z q.d q.g
def KlAt (w : World) (b i : Nat) (q : Kl) : Prop := w.cell? ⟨b, i, none⟩ = some (.string q.s) ∧ w.cell? ⟨b, i + 1, none⟩ = some (.int .i64 q.r) ∧ w.cell? ⟨b, i + 2, none⟩ = some (.int .i64 q.z) ∧ w.cell? ⟨b, i + 3, none⟩ = some (.int .i64 q.d) ∧ w.cell? ⟨b, i + 4, none⟩ = some (.int .i64 q.g)
theorem KlAt.keep {W w2 : World} {b i : Nat} {q : Kl} (h : KlAt W b i q) (hb : Below W.heap.size W w2) : KlAt w2 b i q :=
  ⟨keep_cell hb h.1, keep_cell hb h.2.1, keep_cell hb h.2.2.1, keep_cell hb h.2.2.2.1, keep_cell hb h.2.2.2.2⟩
/-- A row of killers. -/
def RowKl (w : World) (b : Nat) (ks : List Kl) : Prop := ∀ i (h : i < ks.length), KlAt w b (i * 5) ks[i]
theorem RowKl.keep {W w2 : World} {b : Nat} {ks : List Kl} (h : RowKl W b ks) (hb : Below W.heap.size W w2) : RowKl w2 b ks := fun i hi => (h i hi).keep hb
theorem klAt_new (W : World) (q : Kl) (T : TypeId) (fz : Nat × Nat) : KlAt (W.alloc (.cells #[.string q.s, .int .i64 q.r, .int .i64 q.z, .int .i64 q.d, .int .i64 q.g] T fz)) W.heap.size 0 q :=
  ⟨cell_alloc_new _ _ _ _ 0, cell_alloc_new _ _ _ _ 1, cell_alloc_new _ _ _ _ 2, cell_alloc_new _ _ _ _ 3, cell_alloc_new _ _ _ _ 4⟩
theorem klAt_at {W : World} {n : Nat} (q : Kl) (T : TypeId) (fz : Nat × Nat) (h : W.heap.size = n) : RowKl (W.alloc (.cells #[.string q.s, .int .i64 q.r, .int .i64 q.z, .int .i64 q.d, .int .i64 q.g] T fz)) n [q] := by
  subst h
  intro i hi
  obtain rfl : i = 0 := by simp at hi; omega
  exact klAt_new W q T fz
theorem all_take {ks : List Kl} {k : Nat} (h : ∀ j (hj : j < ks.length), j < k → ks[j].vB = true) (hk : k = ks.length) : ks.all Kl.vB = true := by
  subst hk
  refine List.all_eq_true.2 fun x hx => ?_
  obtain ⟨j, hj, rfl⟩ := List.getElem_of_mem hx
  exact h j hj hj
theorem all_bad {ks : List Kl} {k : Nat} (hk : k < ks.length) (h : ks[k].vB = false) : ks.all Kl.vB = false := by
  cases ho : ks.all Kl.vB with
  | false => rfl
  | true => rw [List.all_eq_true.1 ho _ (List.getElem_mem hk)] at h; cases h

set_option maxRecDepth 20000 in
set_option maxHeartbeats 4000000 in
theorem pvalid_any (r l a b k a2 b2 : Int) (w : World) (bk cap : Nat) (ks : List Kl) (hr : RowKl w bk ks) (hs : ∀ q ∈ ks, q.s.size ≤ maxLen) (hn : ks.length ≤ 100) :
    Calls Tryz.prog 27 #[.agg #[.int .i64 r, .int .i64 l, .int .i64 a, .int .i64 b, .int .i64 k, .int .i64 a2, .int .i64 b2], .slice (some ⟨bk, 0, none⟩) ks.length cap] w fun e w' => e = .returned (.bool (ks.all Kl.vB && canB r l a b k a2 b2)) ∧ Below w.heap.size w w' := by
  have HR := hid (fun (w1 : World) (g : Below w.heap.size w w1) => hr.keep g)
  have HS := hid hs
  have HX := hid (box1_start (w := w) (A := #[.int .i64 r, .int .i64 l, .int .i64 a, .int .i64 b, .int .i64 k, .int .i64 a2, .int .i64 b2]) (T := 23) (fz := (0, 0)))
  clear hr hs
  go_enter Tryz.func27, Tryz.ntmps27
  go_wp2_with fail
  go_loopw [9] (fun i wr => ∃ n : Nat, n ≤ ks.length ∧ i = .int .i64 (n : Int) ∧ Hid (∀ j (hj : j < ks.length), j < n → ks[j].vB = true) ∧ Hid (Box1 w wr #[.int .i64 r, .int .i64 l, .int .i64 a, .int .i64 b, .int .i64 k, .int .i64 a2, .int .i64 b2])) (fun i _ => ks.length - (intOf i).toNat)
  case atStart => exact ⟨0, Nat.zero_le _, rfl, fun j _ h => absurd h (Nat.not_lt_zero _), HX⟩
  case round =>
    obtain ⟨n, hk, rfl, hok, hX⟩ := hrel
    by_cases hlt : n < ks.length
    · obtain ⟨e0, e1, e2, e3, e4⟩ := HR.out _ hX.out.low n hlt
      have hlt' : (n : Int) < ks.length := by omega
      have hsz := HS.out _ (List.getElem_mem hlt)
      cases ho : ks[n].vB
      · have hE := hid (all_bad hlt ho)
        have HO := hid ho
        generalize ks[n] = q at *
        have HB := hid hX.out.low
        clear ho hok hX
        go_wp2_with fail
        refine (Lt.lvalid_any q.s q.r q.z q.d q.g _ hsz).mono ?_
        rintro e w3 ⟨rfl, hb⟩
        rw [show Lt.validB q.s.data.toList q.r q.z q.d q.g = false from HO.out]
        have HB3 := hid (bstep HB.out HB.out.size (balloc hb))
        clear hb
        go_wp2_with fail
        go_ret
        exact ⟨ret_bool (by rw [hE.out, Bool.false_and]), HB3.out⟩
      · have HST : Hid (∀ j (hj : j < ks.length), j < n + 1 → ks[j].vB = true) := fun j hj h => by
          rcases Nat.lt_or_ge j n with h1 | h1
          · exact hok.out j hj h1
          · obtain rfl : j = n := by omega
            exact ho
        have HO := hid ho
        have HLT := hid hlt
        generalize ks[n] = q at e0 e1 e2 e3 e4 hsz HO
        clear ho hok
        go_wp2_with fail
        refine (Lt.lvalid_any q.s q.r q.z q.d q.g _ hsz).mono ?_
        rintro e w3 ⟨rfl, hb⟩
        rw [show Lt.validB q.s.data.toList q.r q.z q.d q.g = true from HO.out]
        have HX3 := hid (hX.out.keep (balloc hb))
        clear hb e0 e1 e2 e3 e4
        go_wp2_with fail
        go_roundw
        case rel => exact ⟨n + 1, HLT.out, by go_num, HST, HX3⟩
        case measure => have := HLT.out; simp [intOf]; omega
    · obtain rfl : n = ks.length := by omega
      have hE := hid (all_take hok.out rfl)
      obtain ⟨b0, b1, b2', b3, b4, b5, b6⟩ := hX.out.can
      clear hok
      go_wp2_with fail
      refine (vcan_any _ _ _ _ _ _ _ _).mono ?_
      rintro e w3 ⟨rfl, hb⟩
      have HX3 := hid (hX.out.keep hb)
      clear hb b0 b1 b2' b3 b4 b5 b6
      go_wp2_with fail
      go_ret
      exact ⟨ret_bool (by rw [hE.out, Bool.true_and]), HX3.out.low⟩

theorem one_row {W : World} {n : Nat} (t : Int) (T : TypeId) (h : W.heap.size = n) : RowI (W.alloc (.cells #[.int .i64 t] T)) (.slice (some ⟨n, 0, none⟩) 1 1) [t] := by
  subst h
  refine .inr ⟨W.heap.size, 0, 1, rfl, by simp [maxLen], fun k hk => ?_⟩
  obtain rfl : k = 0 := by simp at hk; omega
  exact cell_alloc_new W _ T (0, 0) 0
/-- The error of a can, a killer, a beginning and baths. -/
def chk4 (vc vk : Bool) (t : Int) (l : List Int) : Int := if (vk && vc) = false then 1 else if (okT t && okL l) = false then 7 else if 2000 < l.length then 4 else 0
theorem chk4_no {vc vk : Bool} {t : Int} {l : List Int} (h : (vk && vc) = false) : chk4 vc vk t l = 1 := by unfold chk4; rw [if_pos h]
theorem chk4_far {vc vk : Bool} {t : Int} {l : List Int} (h : (vk && vc) = true) (g : (okT t && okL l) = false) : chk4 vc vk t l = 7 := by unfold chk4; rw [if_neg (by rw [h]; simp), if_pos g]
theorem chk4_long {vc vk : Bool} {t : Int} {l : List Int} (h : (vk && vc) = true) (g : (okT t && okL l) = true) (n : 2000 < l.length) : chk4 vc vk t l = 4 := by unfold chk4; rw [if_neg (by rw [h]; simp), if_neg (by rw [g]; simp), if_pos n]
theorem chk4_ok {vc vk : Bool} {t : Int} {l : List Int} (h : (vk && vc) = true) (g : (okT t && okL l) = true) (n : ¬ 2000 < l.length) : chk4 vc vk t l = 0 := by unfold chk4; rw [if_neg (by rw [h]; simp), if_neg (by rw [g]; simp), if_neg n]
theorem chk4_zero {vc vk : Bool} {t : Int} {l : List Int} (h : chk4 vc vk t l = 0) : vc = true ∧ vk = true ∧ okT t = true ∧ okL l = true ∧ l.length ≤ 2000 := by
  unfold chk4 at h
  split at h
  · cases h
  · split at h
    · cases h
    · split at h
      · cases h
      · rename_i h1 h2 h3
        rw [Bool.not_eq_false, Bool.and_eq_true] at h1 h2
        exact ⟨h1.2, h1.1, h2.1, h2.2, by omega⟩

set_option maxRecDepth 20000 in
set_option maxHeartbeats 4000000 in
theorem pcheck_any (r l a b k a2 b2 : Int) (w : World) (q : Kl) (t : Int) (v : Value) (p : List Int) (hs : q.s.size ≤ maxLen) (hl : RowI w v p) (hpm : p.length ≤ maxLen) :
    Calls Tryz.prog 70 #[.agg #[.int .i64 r, .int .i64 l, .int .i64 a, .int .i64 b, .int .i64 k, .int .i64 a2, .int .i64 b2], .agg #[.string q.s, .int .i64 q.r, .int .i64 q.z, .int .i64 q.d, .int .i64 q.g], .int .i64 t, v] w fun e w' => e = .returned (.int .i64 (chk4 (canB r l a b k a2 b2) q.vB t p)) ∧ Below w.heap.size w w' := by
  have HX := hid (box2_start (w := w) (A := #[.int .i64 r, .int .i64 l, .int .i64 a, .int .i64 b, .int .i64 k, .int .i64 a2, .int .i64 b2]) (B := #[.string q.s, .int .i64 q.r, .int .i64 q.z, .int .i64 q.d, .int .i64 q.g]) (T := 23) (T' := 25) (fz := (0, 0)) (fz' := (0, 0)))
  have HL := hid (fun w1 (g : Below w.heap.size w w1) => hl.keep g)
  obtain ⟨a0, cap, rfl⟩ := hl.shape
  unfold maxLen at hpm
  have HV : Hid (∀ (W : World) (n : Nat), W.heap.size = n → Calls Tryz.prog 27 #[.agg #[.int .i64 r, .int .i64 l, .int .i64 a, .int .i64 b, .int .i64 k, .int .i64 a2, .int .i64 b2], .slice (some ⟨n, 0, none⟩) 1 1] (W.alloc (.cells #[.string q.s, .int .i64 q.r, .int .i64 q.z, .int .i64 q.d, .int .i64 q.g] 25)) fun e w' => e = .returned (.bool (q.vB && canB r l a b k a2 b2)) ∧ Below (W.alloc (.cells #[.string q.s, .int .i64 q.r, .int .i64 q.z, .int .i64 q.d, .int .i64 q.g] 25)).heap.size (W.alloc (.cells #[.string q.s, .int .i64 q.r, .int .i64 q.z, .int .i64 q.d, .int .i64 q.g] 25)) w') := fun W n hn => by
    have := pvalid_any r l a b k a2 b2 (W.alloc (.cells #[.string q.s, .int .i64 q.r, .int .i64 q.z, .int .i64 q.d, .int .i64 q.g] 25)) n 1 [q] (klAt_at q _ _ hn) (by simpa using hs) (by simp)
    simpa using this
  clear hl hs
  cases h1 : (q.vB && canB r l a b k a2 b2)
  · have HE := hid (chk4_no (t := t) (l := p) h1)
    rw [h1] at HV
    clear h1
    go_enter Tryz.func70, Tryz.ntmps70
    go_wp2_with fail
    refine (HV.out _ _ (by simp)).mono ?_
    rintro e w1 ⟨rfl, hb⟩
    have HX := hid (HX.out.keep (balloc hb))
    clear hb
    go_wp2_with fail
    go_ret
    exact ⟨ret_int HE.out.symm, HX.out.low⟩
  rw [h1] at HV
  cases h2 : okT t
  · have HE := hid (chk4_far (t := t) (l := p) h1 (by rw [h2]; rfl))
    have HO := hid (show okL [t] = false by simp [okL, h2])
    clear h1 h2
    go_enter Tryz.func70, Tryz.ntmps70
    go_wp2_with fail
    refine (HV.out _ _ (by simp)).mono ?_
    rintro e w1 ⟨rfl, hb⟩
    have HX := hid (HX.out.keep (balloc hb))
    clear hb
    go_wp2_with fail
    refine (ptemps_any _ _ [t] (one_row _ _ rfl)).mono ?_
    rintro e w2 ⟨rfl, rfl⟩
    rw [HO.out]
    have HX := hid (HX.out.keep ((Below.refl _ _).alloc (Nat.le_refl _) (.cells #[.int .i64 t] 3)))
    go_wp2_with fail
    go_ret
    exact ⟨ret_int HE.out.symm, HX.out.low⟩
  have HO := hid (show okL [t] = true by simp [okL, h2])
  cases h3 : okL p
  · have HE := hid (chk4_far (t := t) (l := p) h1 (by rw [h3, Bool.and_false]))
    have HO3 := hid h3
    clear h1 h2 h3
    go_enter Tryz.func70, Tryz.ntmps70
    go_wp2_with fail
    refine (HV.out _ _ (by simp)).mono ?_
    rintro e w1 ⟨rfl, hb⟩
    have HX := hid (HX.out.keep (balloc hb))
    clear hb
    go_wp2_with fail
    refine (ptemps_any _ _ [t] (one_row _ _ rfl)).mono ?_
    rintro e w2 ⟨rfl, rfl⟩
    rw [HO.out]
    have HX := hid (HX.out.keep ((Below.refl _ _).alloc (Nat.le_refl _) (.cells #[.int .i64 t] 3)))
    go_wp2_with fail
    refine (ptemps_any _ _ p (HL.out _ HX.out.low)).mono ?_
    rintro e w3 ⟨rfl, rfl⟩
    rw [HO3.out]
    go_wp2_with fail
    go_ret
    exact ⟨ret_int HE.out.symm, HX.out.low⟩
  have h23 : (okT t && okL p) = true := by rw [h2, h3]; rfl
  have HO3 := hid h3
  by_cases h4 : 2000 < p.length
  · have HE := hid (chk4_long (t := t) (l := p) h1 h23 h4)
    have h4' : decide (2000 < (p.length : Int)) = true := by simp; omega
    clear h1 h2 h3 h23
    go_enter Tryz.func70, Tryz.ntmps70
    go_wp2_with fail
    refine (HV.out _ _ (by simp)).mono ?_
    rintro e w1 ⟨rfl, hb⟩
    have HX := hid (HX.out.keep (balloc hb))
    clear hb
    go_wp2_with fail
    refine (ptemps_any _ _ [t] (one_row _ _ rfl)).mono ?_
    rintro e w2 ⟨rfl, rfl⟩
    rw [HO.out]
    have HX := hid (HX.out.keep ((Below.refl _ _).alloc (Nat.le_refl _) (.cells #[.int .i64 t] 3)))
    go_wp2_with fail
    refine (ptemps_any _ _ p (HL.out _ HX.out.low)).mono ?_
    rintro e w3 ⟨rfl, rfl⟩
    rw [HO3.out]
    go_wp2_with fail
    go_ret
    exact ⟨ret_int HE.out.symm, HX.out.low⟩
  · have HE := hid (chk4_ok (t := t) (l := p) h1 h23 h4)
    have h4' : decide (2000 < (p.length : Int)) = false := by simp; omega
    clear h1 h2 h3 h23
    go_enter Tryz.func70, Tryz.ntmps70
    go_wp2_with fail
    refine (HV.out _ _ (by simp)).mono ?_
    rintro e w1 ⟨rfl, hb⟩
    have HX := hid (HX.out.keep (balloc hb))
    clear hb
    go_wp2_with fail
    refine (ptemps_any _ _ [t] (one_row _ _ rfl)).mono ?_
    rintro e w2 ⟨rfl, rfl⟩
    rw [HO.out]
    have HX := hid (HX.out.keep ((Below.refl _ _).alloc (Nat.le_refl _) (.cells #[.int .i64 t] 3)))
    go_wp2_with fail
    refine (ptemps_any _ _ p (HL.out _ HX.out.low)).mono ?_
    rintro e w3 ⟨rfl, rfl⟩
    rw [HO3.out]
    go_wp2_with fail
    go_ret
    exact ⟨ret_int HE.out.symm, HX.out.low⟩
end Go.Proofs.YtihbjimnjhfpeaaGreat
