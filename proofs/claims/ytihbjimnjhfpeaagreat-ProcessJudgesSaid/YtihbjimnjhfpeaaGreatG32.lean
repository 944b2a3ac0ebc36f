/- Texts of this seat, one behind the other. -/
import Derived.Test.YtihbjimnjhfpeaaGreatG21
import Derived.Test.YtihbjimnjhfpeaaGreatG31
import Derived.Test.YtihbjimnjhfpeaaGreatG24
import Derived.Test.YtihbjimnjhfpeaaGreatG15
import Derived.Test.YtihbjimnjhfpeaaGreatG18
import Derived.Test.YtihbjimnjhfpeaaGreatG26
/- Walk of ByColdest; the sums of places as sums of what is told: contracts. -/

/- Spoiled and ByColdest of the code whatever comes in: contracts. -/
namespace Go.Proofs.YtihbjimnjhfpeaaGreat
open Go.RowKit Go.Lib

/-- What may spoil in a can at most. -/
def spoO (r l a b k a2 b2 : Int) (q : Kl) (t : Int) (p : List Int) : Int :=
  if chk4 (canB r l a b k a2 b2) q.vB t p = 0 then maxA (ivN (dishR (cnOf r l a b k a2 b2) (Lt.up q.r q.z.toNat) (dish0 (cnOf r l a b k a2 b2) t) p).2) else 0
theorem spoO_no {r l a b k a2 b2 : Int} {q : Kl} {t : Int} {p : List Int} (h : chk4 (canB r l a b k a2 b2) q.vB t p ≠ 0) : spoO r l a b k a2 b2 q t p = 0 := by unfold spoO; rw [if_neg h]
def IntE (x ce : Int) (w : World) (e : Ending) (w' : World) : Prop := e = .returned (.tuple #[.int .i64 x, .int .i64 ce]) ∧ Below w.heap.size w w'
set_option maxRecDepth 20000 in
set_option maxHeartbeats 4000000 in
theorem spoil_err (r l a b k a2 b2 : Int) (w : World) (q : Kl) (t : Int) (v : Value) (p : List Int) (hs : q.s.size ≤ maxLen) (hl : RowI w v p) (hpm : p.length ≤ maxLen) (hne : chk4 (canB r l a b k a2 b2) q.vB t p ≠ 0) :
    Calls Tryz.prog 137 #[.agg #[.int .i64 r, .int .i64 l, .int .i64 a, .int .i64 b, .int .i64 k, .int .i64 a2, .int .i64 b2], .agg #[.string q.s, .int .i64 q.r, .int .i64 q.z, .int .i64 q.d, .int .i64 q.g], .int .i64 t, v] w (IntE 0 (chk4 (canB r l a b k a2 b2) q.vB t p) w) := by
  have HX := hid (box2_start (w := w) (A := #[.int .i64 r, .int .i64 l, .int .i64 a, .int .i64 b, .int .i64 k, .int .i64 a2, .int .i64 b2]) (B := #[.string q.s, .int .i64 q.r, .int .i64 q.z, .int .i64 q.d, .int .i64 q.g]) (T := 23) (T' := 25) (fz := (0, 0)) (fz' := (0, 0)))
  have HL := hid (fun w1 (g : Below w.heap.size w w1) => hl.keep g)
  obtain ⟨a0, cap, rfl⟩ := hl.shape
  have HC := hid (fun W h => pcheck_any r l a b k a2 b2 W q t (.slice a0 p.length cap) p hs h hpm)
  generalize chk4 (canB r l a b k a2 b2) q.vB t p = ce at *
  have hc1 : (ce != 0) = true := by simpa using hne
  clear hl hs hpm hne
  go_enter Tryz.func137, Tryz.ntmps137
  go_wp2_with fail
  refine (HC.out _ (HL.out _ HX.out.low)).mono ?_
  rintro e w1 ⟨rfl, hb⟩
  have HX := hid (HX.out.keep hb)
  clear hb
  go_wp2_with fail
  go_ret2
  exact ⟨rfl, HX.out.low⟩
set_option maxRecDepth 20000 in
set_option maxHeartbeats 4000000 in
theorem spoil_ok (c : Cn) (s : ByteArray) (r d g t : Int) (Z : Nat) (v : Value) (p : List Int) (w : World) (hs : s.size ≤ maxLen) (hcv : c.V) (hv : Lt.validB s.data.toList r Z d g = true) (ho : okT t = true) (hop : okL p = true) (hlen : p.length ≤ 2000) (hl : RowI w v p) :
    Calls Tryz.prog 137 #[.agg #[.int .i64 (c.R : Int), .int .i64 (c.L : Int), .int .i64 c.A, .int .i64 c.B, .int .i64 c.K, .int .i64 c.A2, .int .i64 c.B2], .agg #[.string s, .int .i64 r, .int .i64 (Z : Int), .int .i64 d, .int .i64 g], .int .i64 t, v] w (IntE (maxA (ivN (dishR c (Lt.up r Z) (dish0 c t) p).2)) 0 w) := by
  have HX := hid (box2_start (w := w) (A := #[.int .i64 (c.R : Int), .int .i64 (c.L : Int), .int .i64 c.A, .int .i64 c.B, .int .i64 c.K, .int .i64 c.A2, .int .i64 c.B2]) (B := #[.string s, .int .i64 r, .int .i64 (Z : Int), .int .i64 d, .int .i64 g]) (T := 23) (T' := 25) (fz := (0, 0)) (fz' := (0, 0)))
  have HL := hid (fun w1 (g : Below w.heap.size w w1) => hl.keep g)
  obtain ⟨a0, cap, rfl⟩ := hl.shape
  have hcan : canB (c.R : Int) c.L c.A c.B c.K c.A2 c.B2 = true := hcv
  have hch : chk4 (canB (c.R : Int) c.L c.A c.B c.K c.A2 c.B2) (Kl.vB ⟨s, r, Z, d, g⟩) t p = 0 := by
    refine chk4_ok ?_ ?_ (by omega)
    · rw [hcan, show Kl.vB ⟨s, r, Z, d, g⟩ = true from hv]; rfl
    · rw [ho, hop]; rfl
  have HC : Hid (∀ W, RowI W (.slice a0 p.length cap) p → Calls Tryz.prog 70 #[.agg #[.int .i64 (c.R : Int), .int .i64 (c.L : Int), .int .i64 c.A, .int .i64 c.B, .int .i64 c.K, .int .i64 c.A2, .int .i64 c.B2], .agg #[.string s, .int .i64 r, .int .i64 (Z : Int), .int .i64 d, .int .i64 g], .int .i64 t, .slice a0 p.length cap] W fun e w' => e = .returned (.int .i64 0) ∧ Below W.heap.size W w') := fun W h => by
    have := pcheck_any c.R c.L c.A c.B c.K c.A2 c.B2 W ⟨s, r, Z, d, g⟩ t (.slice a0 p.length cap) p hs h (by unfold maxLen; omega)
    rwa [hch] at this
  have HM := hid (fun W => meterUp_any c s r d g Z W hs hv)
  have hbt : (-50000 : Int) ≤ t ∧ t ≤ 200000 := by unfold okT at ho; simpa using ho
  have hbl : ∀ b ∈ p, (-50000 : Int) ≤ b ∧ b ≤ 200000 := fun b hb => by
    have := List.all_eq_true.1 hop b hb
    unfold okT at this; simpa using this
  have HRK := hid (fun (W : World) (kb nb mb : Nat) (h : UpI s r Z d g kb nb mb W) => rateOk_up hs hv h)
  have HRN := hid (fun (F : Nat) (lb : Array Value) (mb B0 : Nat) (I : World → Prop) (W : World) (hR : RateOk F lb (Lt.up r Z) (-50000) 200000 mb B0 I) (hI : I W) (h : RowI W (.slice a0 p.length cap) p) => mrun_any c (g * (d * 1000000)) t F lb (Lt.up r Z) (-50000) 200000 mb B0 I (.slice a0 p.length cap) p W hR hcv ho hop hI h (by omega) hbt hbl)
  have hG : Good c (dishR c (Lt.up r Z) (dish0 c t) p) := (dish0_good ho).run hcv.ok hop
  have HSL : Hid (1 ≤ (dishR c (Lt.up r Z) (dish0 c t) p).2.length ∧ (dishR c (Lt.up r Z) (dish0 c t) p).2.length ≤ 1000) := by
    refine hid ?_
    rw [hG.len]
    exact ⟨hcv.ok.p.1, by have := hcv.ok.p.2; omega⟩
  have HMX := hid (fun (W : World) (u : Value) (h : RowI W u (ivN (dishR c (Lt.up r Z) (dish0 c t) p).2)) => maxA_any u _ W h (by rw [ivN_len]; have := HSL.out; omega) (by rw [ivN_len]; have := HSL.out; omega))
  generalize hD : dishR c (Lt.up r Z) (dish0 c t) p = D at *
  clear hD hl hcan hch hlen hop ho hv hcv hs hbt hbl hG HSL
  have hfl := field_dish
  go_enter Tryz.func137, Tryz.ntmps137
  go_wp2_with fail
  refine (HC.out _ (HL.out _ HX.out.low)).mono ?_
  rintro e w1 ⟨rfl, hb⟩
  have HX := hid (HX.out.keep hb)
  clear hb
  have x0 := HX.out.snd 0; have x1 := HX.out.snd 1; have x2 := HX.out.snd 2; have x3 := HX.out.snd 3; have x4 := HX.out.snd 4
  have t0 := HX.out.fst 0; have t1 := HX.out.fst 1; have t2 := HX.out.fst 2; have t3 := HX.out.fst 3; have t4 := HX.out.fst 4; have t5 := HX.out.fst 5; have t6 := HX.out.fst 6
  simp only [List.getElem?_toArray, List.getElem?_cons_zero, List.getElem?_cons_succ] at x0 x1 x2 x3 x4 t0 t1 t2 t3 t4 t5 t6
  go_wp2_with fail
  refine (HM.out _).mono ?_
  rintro e w2 ⟨kb, nb, mb, rfl, hu, hmb, hb⟩
  have HMB := hid (show w.heap.size ≤ mb from Nat.le_trans HX.out.low.size hmb)
  have HX := hid (HX.out.keep hb)
  have HU := hid hu
  clear hb hu hmb x0 x1 x2 x3 x4 t0 t1 t2 t3 t4 t5 t6
  have HRO := hid (HRK.out w2 kb nb mb HU.out)
  clear HRK HM HC
  go_wp2_with fail
  refine (HRN.out _ _ mb w2.heap.size _ w2 HRO.out ⟨HU.out, Nat.le_refl _⟩ (HL.out _ HX.out.low)).mono ?_
  rintro e w9 ⟨ua, ub, uc, ud, rfl, h1, h2, h3, h4⟩
  have HF := hid (And.intro h2 (HX.out.low.grown h4 HX.out.low.size (fun j e => by cases e; exact HMB.out)))
  clear h1 h2 h3 h4 HRN HL HRO
  go_wp2_with fail
  refine (HMX.out _ _ HF.out.1).mono ?_
  rintro e w10 ⟨rfl, rfl⟩
  go_wp2_with fail
  go_ret2
  exact ⟨rfl, HF.out.2⟩
theorem spoil_any (r l a b k a2 b2 : Int) (w : World) (q : Kl) (t : Int) (v : Value) (p : List Int) (hs : q.s.size ≤ maxLen) (hl : RowI w v p) (hpm : p.length ≤ maxLen) :
    Calls Tryz.prog 137 #[.agg #[.int .i64 r, .int .i64 l, .int .i64 a, .int .i64 b, .int .i64 k, .int .i64 a2, .int .i64 b2], .agg #[.string q.s, .int .i64 q.r, .int .i64 q.z, .int .i64 q.d, .int .i64 q.g], .int .i64 t, v] w (IntE (spoO r l a b k a2 b2 q t p) (chk4 (canB r l a b k a2 b2) q.vB t p) w) := by
  by_cases h : chk4 (canB r l a b k a2 b2) q.vB t p = 0
  · obtain ⟨hc, hk, ho, hop, hlen⟩ := chk4_zero h
    obtain ⟨c, hcv, rfl, rfl, rfl, rfl, rfl, rfl, rfl⟩ := canB_cn hc
    obtain ⟨Z, hz, hv⟩ := kl_of hk
    have hso : spoO c.R c.L c.A c.B c.K c.A2 c.B2 q t p = maxA (ivN (dishR c (Lt.up q.r Z) (dish0 c t) p).2) := by
      unfold spoO; rw [if_pos h, cnOf_cn, hz, Int.toNat_natCast]
    rw [hso, h, hz]
    exact spoil_ok c q.s q.r q.d q.g t Z v p w hs hcv hv ho hop hlen hl
  · rw [spoO_no h]
    exact spoil_err r l a b k a2 b2 w q t v p hs hl hpm h
end Go.Proofs.YtihbjimnjhfpeaaGreat

/- Plain facts of the reference's run of a can: its body, what each place has got (down and up), the sum of the coldest temperatures' rates. -/
namespace Go.Proofs.YtihbjimnjhfpeaaGreat
open Go.RowKit

structure Rs where
  x : Bd
  d : List Nat
  u : List Nat
  k : Nat
def rsT (c : Cn) (f g : Int → Nat) (s : Rs) (b : Int) : Rs := ⟨tickS c s.x b, addD f s.d (tickS c s.x b).1, addD g s.u (tickS c s.x b).1, Lt.cutN s.k (f (minT (tickS c s.x b).1))⟩
def rsR (c : Cn) (f g : Int → Nat) (s : Rs) (l : List Int) : Rs := l.foldl (rsT c f g) s
def rs0 (c : Cn) (t : Int) : Rs := ⟨evB c t, List.replicate c.P 0, List.replicate c.P 0, 0⟩
theorem rsR_append (c : Cn) (f g : Int → Nat) (s : Rs) (l m : List Int) : rsR c f g s (l ++ m) = rsR c f g (rsR c f g s l) m := List.foldl_append
theorem rsR_succ (c : Cn) (f g : Int → Nat) (s : Rs) (l : List Int) (k : Nat) (hk : k < l.length) : rsR c f g s (l.take (k + 1)) = rsT c f g (rsR c f g s (l.take k)) l[k] := by
  rw [List.take_add_one, rsR_append]
  simp [hk, rsR]
theorem rsR_d (c : Cn) (f g : Int → Nat) : ∀ (l : List Int) (s : Rs), ((rsR c f g s l).x, (rsR c f g s l).d) = dishR c f (s.x, s.d) l
  | [], _ => rfl
  | b :: l, s => rsR_d c f g l (rsT c f g s b)
theorem rsR_u (c : Cn) (f g : Int → Nat) : ∀ (l : List Int) (s : Rs), ((rsR c f g s l).x, (rsR c f g s l).u) = dishR c g (s.x, s.u) l
  | [], _ => rfl
  | b :: l, s => rsR_u c f g l (rsT c f g s b)
theorem rsR_down (c : Cn) (f g : Int → Nat) (t : Int) (l : List Int) : (rsR c f g (rs0 c t) l).d = (dishR c f (dish0 c t) l).2 := congrArg Prod.snd (rsR_d c f g l (rs0 c t))
/-- The run has a temperature and two sums for each place. -/
structure GoodR (c : Cn) (s : Rs) : Prop where
  down : Good c (s.x, s.d)
  up : Good c (s.x, s.u)
  kle : s.k ≤ 1000000000000000000
theorem rs0_good {c : Cn} {t : Int} (h : okT t = true) : GoodR c (rs0 c t) := ⟨dish0_good h, dish0_good h, Nat.zero_le _⟩
theorem GoodR.tick {c : Cn} {f g : Int → Nat} {s : Rs} {b : Int} (hc : c.Ok) (h : GoodR c s) (hb : okT b = true) : GoodR c (rsT c f g s b) :=
  ⟨h.down.tick hc hb, h.up.tick hc hb, cutN_le _ _⟩
theorem GoodR.run {c : Cn} {f g : Int → Nat} {s : Rs} {l : List Int} (hc : c.Ok) (h : GoodR c s) (hl : okL l = true) : GoodR c (rsR c f g s l) := by
  induction l generalizing s with
  | nil => exact h
  | cons b l ih =>
    unfold okL at hl
    rw [List.all_cons, Bool.and_eq_true] at hl
    exact ih (h.tick hc hl.1) hl.2
theorem GoodR.warm {c : Cn} {s : Rs} (h : GoodR c s) : Warm c (s.x.1, s.x.2) := by
  obtain ⟨h1, _, h3⟩ := bodyV_iff.1 h.down.body
  exact ⟨h1, okL_bd h3⟩
theorem okL_take {l : List Int} (h : okL l = true) (k : Nat) : okL (l.take k) = true :=
  List.all_eq_true.2 fun x hx => List.all_eq_true.1 h x (List.mem_of_mem_take hx)
theorem addD_take {f : Int → Nat} {S : List Nat} {T : List Int} {k : Nat} (h1 : k < S.length) (h2 : k < T.length) : (addD f S T).take (k + 1) = (addD f S T).take k ++ [Lt.cutN S[k] (f T[k])] := by
  have hk : k < (addD f S T).length := by simp [addD]; omega
  rw [List.take_add_one, List.getElem?_eq_getElem hk, addD_get hk h1 h2]
  rfl
/-- The first of the least sums. -/
theorem best_all (S : List Int) (k : Nat) : (∀ i (h : i < S.length), i < k → (bestT ltB S k).2 ≤ S[i]) ∧ (k ≤ S.length → 0 < S.length → ∀ i (h : i < S.length), i < (bestT ltB S k).1 → (bestT ltB S k).2 < S[i]) := by
  induction k with
  | zero => exact ⟨fun i _ h => by omega, fun _ _ i _ h => by simp [bestT] at h⟩
  | succ k ih =>
    refine ⟨fun i h hi => ?_, fun hk h0 i h hi => ?_⟩
    · rcases Nat.lt_or_ge i k with h1 | h1
      · have := ih.1 i h h1
        unfold bestT
        split
        · rename_i g
          simp only [ltB, decide_eq_true_eq] at g
          dsimp only; omega
        · exact this
      · obtain rfl : i = k := by omega
        unfold bestT
        rw [getD_at h]
        split
        · exact Int.le_refl _
        · rename_i g
          simp only [ltB, decide_eq_true_eq] at g
          omega
    · unfold bestT at hi ⊢
      rw [getD_at (by omega : k < S.length)] at hi ⊢
      split at hi
      · rename_i g
        rw [if_pos g]
        simp only [ltB, decide_eq_true_eq] at g
        have := ih.1 i h hi
        dsimp only; omega
      · rename_i g
        rw [if_neg g]
        exact ih.2 (by omega) h0 i h hi
theorem best_min {S : List Int} (h0 : 0 < S.length) : (bestT ltB S S.length).2 = minA S ∧ (bestT ltB S S.length).1 = idxA S (minA S) := by
  obtain ⟨h1, h2⟩ := bestT_at ltB S S.length (Nat.le_refl _) h0
  have hb := best_all S S.length
  have e1 : (bestT ltB S S.length).2 = minA S := minA_uniq (by rw [← h2, getD_at h1]; exact List.getElem_mem _) fun x hx => by
    obtain ⟨i, hi, rfl⟩ := List.getElem_of_mem hx
    exact hb.1 i hi hi
  refine ⟨e1, ?_⟩
  have hlt : idxA S (minA S) < S.length := List.findIdx_lt_length_of_exists ⟨minA S, minA_mem h0, by simp⟩
  have hget : S[idxA S (minA S)] = minA S := by
    have h1 := List.findIdx_getElem (p := fun y => y == minA S) (xs := S) (w := hlt)
    simp only [beq_iff_eq] at h1
    exact h1
  rcases Nat.lt_trichotomy (bestT ltB S S.length).1 (idxA S (minA S)) with g | g | g
  · exfalso
    have := List.not_of_lt_findIdx g
    rw [getD_at h1, e1] at h2
    simp [h2] at this
  · exact g
  · exfalso
    have := hb.2 (Nat.le_refl _) h0 _ hlt g
    rw [hget, e1] at this
    omega
end Go.Proofs.YtihbjimnjhfpeaaGreat

/- The reference's kept rates as one thing; rows that its rates spare; slowest, spoilt: contracts. -/
namespace Go.Proofs.YtihbjimnjhfpeaaGreat
open Go.RowKit Go.Lib

/-- The kept rates of a killer: what it is, and where they lie. -/
structure Kq where
  s : ByteArray
  r : Int
  Z : Nat
  d : Int
  g : Int
  wF : World
  b : Nat
  gD : Nat
  gU : Nat
def Kq.at (K : Kq) (W : World) : Prop := Lt.KeptS K.s K.r K.Z K.d K.g K.wF K.b K.gD K.gU W
structure Kq.V (K : Kq) : Prop where
  r1 : -200 ≤ K.r
  r2 : K.r ≤ 800
  z1 : 1 ≤ K.Z
  z2 : K.Z ≤ 60
abbrev Kq.f (K : Kq) : Int → Nat := Lt.dn K.r K.Z
abbrev Kq.u (K : Kq) : Int → Nat := Lt.up K.r K.Z
theorem Kq.lt {K : Kq} {W : World} (h : K.at W) : K.b < W.heap.size ∧ K.gD < W.heap.size ∧ K.gU < W.heap.size ∧ K.b < K.gD ∧ K.b < K.gU ∧ K.wF.heap.size ≤ K.b := by
  obtain ⟨l1, l2, cD, cU, hF, hR⟩ := h
  have h1 := World.ownsRow.lt hF.rowD K.gD rfl
  have h2 := World.ownsRow.lt hF.rowU K.gU rfl
  exact ⟨lt_of_block hF.blk, h1.2, h2.2, by omega, by omega, hF.le⟩
theorem Kq.below {K : Kq} {W W' : World} (h : K.at W) (hb : Below W.heap.size W W') : K.at W' := Lt.KeptS.below h hb
theorem Kq.grown {K : Kq} {W W' : World} {base : Nat} {row : Option Nat} (h : K.at W) (hg : W.grownBy W' row) (hr : ∀ j, row = some j → base ≤ j) (hb : K.gD < base ∧ K.gU < base) : K.at W' :=
  Lt.KeptS.grown h hg hr (by have := (Kq.lt h).2.2.2.1; omega) hb.1 hb.2
theorem at_k {K : Kq} (hV : K.V) (t : Int) (W : World) (hK : K.at W) (t1 : -50000 ≤ t) (t2 : t ≤ 200000) :
    Calls Tryz.prog 153 #[.pointer (some ⟨K.b, 0, none⟩), .int .i64 t] W fun e W' => e = .returned (.tuple #[.int .i64 (K.f t : Nat), .int .i64 (K.u t : Nat)]) ∧ K.at W' ∧ Lt.Still K.gD K.gU W W' :=
  (Lt.at_any K.s K.r K.d K.g t K.Z K.wF K.b K.gD K.gU W hV.r1 hV.r2 (by have := hV.z1; omega) (by have := hV.z2; omega) t1 t2 hK).mono fun _ _ h => h

/-- A row of ints that stays readable whatever the kept rates turn. -/
def RowK (gD gU : Nat) (W : World) (v : Value) (l : List Int) : Prop := ∀ W', Lt.Still gD gU W W' → RowI W' v l
theorem RowK.row {gD gU : Nat} {W : World} {v : Value} {l : List Int} (h : RowK gD gU W v l) : RowI W v l := h W (Lt.Still.refl _ _ _)
theorem RowK.still {gD gU : Nat} {W W' : World} {v : Value} {l : List Int} (h : RowK gD gU W v l) (hs : Lt.Still gD gU W W') : RowK gD gU W' v l := fun W2 h2 => h W2 (hs.trans h2)
/-- A row from before the kept rates. -/
theorem rowK_old {gD gU : Nat} {w W : World} {v : Value} {l : List Int} (h : RowI w v l) (hb : Below w.heap.size w W) (hD : w.heap.size ≤ gD) (hU : w.heap.size ≤ gU) : RowK gD gU W v l := by
  intro W' hs
  rcases h with h | ⟨b, o, cap, hv, hm, hc⟩
  · exact .inl h
  · refine .inr ⟨b, o, cap, hv, hm, fun k hk => ?_⟩
    have hlt := World.block_lt_of_cell? w ⟨b, o + k, none⟩ (hc k hk)
    have hlt : b < w.heap.size := hlt
    rw [World.cell?_of_block (a := ⟨b, o + k, none⟩) (hs.block b (Nat.lt_of_lt_of_le hlt hb.size) (by omega) (by omega))]
    exact keep_cell hb (hc k hk)
/-- A row that lies behind the kept rates. -/
theorem rowK_from {gD gU base : Nat} {W : World} {a : Option Addr} {n cap : Nat} {l : List Int} (h : RowI W (.slice a n cap) l) (ha : ∀ ad, a = some ad → base ≤ ad.block) (hD : gD < base) (hU : gU < base) : RowK gD gU W (.slice a n cap) l := by
  intro W' hs
  rcases h with h | ⟨b, o, cap', hv, hm, hc⟩
  · exact .inl h
  · refine .inr ⟨b, o, cap', hv, hm, fun k hk => ?_⟩
    injection hv with e1
    have := ha _ e1
    have : base ≤ b := this
    rw [World.cell?_of_block (a := ⟨b, o + k, none⟩) (hs.block b (World.block_lt_of_cell? W ⟨b, o + k, none⟩ (hc k hk)) (by omega) (by omega))]
    exact hc k hk
theorem own_still {gD gU base e n : Nat} {W W' : World} {v : Value} {xs : List Value} (h : W.ownsRow base e 1 v n xs) (hs : Lt.Still gD gU W W') (hD : gD < base) (hU : gU < base) : W'.ownsRow base e 1 v n xs := by
  refine ⟨h.1, ?_⟩
  rcases h.2 with h1 | ⟨a, cap, cur, hv, hb, hg, rest⟩
  · exact .inl h1
  · exact .inr ⟨a, cap, cur, hv, hb, (hs.block a (lt_of_block hg) (by omega) (by omega)).trans hg, rest⟩

/-- The three rows of a run. -/
structure RowsK (gD gU : Nat) (W : World) (S : Rs) (xa : Option Addr) (xc : Nat) (da : Option Addr) (dc : Nat) (ua : Option Addr) (uc : Nat) : Prop where
  tx : RowK gD gU W (.slice xa S.x.1.length xc) S.x.1
  td : RowK gD gU W (.slice da S.d.length dc) (ivN S.d)
  tu : RowK gD gU W (.slice ua S.u.length uc) (ivN S.u)
theorem RowsK.still {gD gU : Nat} {W W' : World} {S : Rs} {xa da ua : Option Addr} {xc dc uc : Nat} (h : RowsK gD gU W S xa xc da dc ua uc) (hs : Lt.Still gD gU W W') : RowsK gD gU W' S xa xc da dc ua uc :=
  ⟨h.tx.still hs, h.td.still hs, h.tu.still hs⟩
/-- What tells a run. -/
def RnP (c : Cn) (K : Kq) (S : Rs) (w : World) (e : Ending) (w' : World) : Prop :=
  ∃ (xa : Option Addr) (xc : Nat) (da : Option Addr) (dc : Nat) (ua : Option Addr) (uc : Nat), e = .returned (.agg #[.int .i64 (c.R : Int), .int .i64 (c.L : Int), .int .i64 c.A, .int .i64 c.B, .int .i64 c.K, .int .i64 c.A2, .int .i64 c.B2, .slice xa S.x.1.length xc, .bool S.x.2, .pointer (some ⟨K.b, 0, none⟩), .slice da S.d.length dc, .slice ua S.u.length uc, .int .i64 (S.k : Nat)]) ∧ RowsK K.gD K.gU w' S xa xc da dc ua uc ∧ K.at w' ∧ Lt.Still K.gD K.gU w w'

/-- Rows that lie at or behind a block. -/
structure RowsF (base : Nat) (xa da ua : Option Addr) : Prop where
  fx : ∀ ad, xa = some ad → base ≤ ad.block
  fd : ∀ ad, da = some ad → base ≤ ad.block
  fu : ∀ ad, ua = some ad → base ≤ ad.block
/-- What tells a run whose rows are new. -/
def RnF (c : Cn) (K : Kq) (S : Rs) (w : World) (e : Ending) (w' : World) : Prop :=
  ∃ (xa : Option Addr) (xc : Nat) (da : Option Addr) (dc : Nat) (ua : Option Addr) (uc : Nat), e = .returned (.agg #[.int .i64 (c.R : Int), .int .i64 (c.L : Int), .int .i64 c.A, .int .i64 c.B, .int .i64 c.K, .int .i64 c.A2, .int .i64 c.B2, .slice xa S.x.1.length xc, .bool S.x.2, .pointer (some ⟨K.b, 0, none⟩), .slice da S.d.length dc, .slice ua S.u.length uc, .int .i64 (S.k : Nat)]) ∧ RowsK K.gD K.gU w' S xa xc da dc ua uc ∧ RowsF w.heap.size xa da ua ∧ K.at w' ∧ Lt.Still K.gD K.gU w w'
theorem bestI_step {L : List Int} {k j : Nat} (hj : j < L.length) (hk : k < L.length) (h : (bestT ltB L k).1 = j) : (bestT ltB L (k + 1)).1 = if L[k] < L[j] then k else j := by
  rw [bestT_step hj hk h]
  unfold ltB
  by_cases g : L[k] < L[j] <;> simp [g]
set_option maxRecDepth 20000 in
set_option maxHeartbeats 2000000 in
theorem xslow_any (c : Cn) (K : Kq) (S : Rs) (xa : Option Addr) (xc : Nat) (da : Option Addr) (dc : Nat) (ua : Option Addr) (uc : Nat) (w : World) (hl : RowI w (.slice da S.d.length dc) (ivN S.d)) (h0 : 0 < S.d.length) (hm : S.d.length ≤ 1000) :
    Calls Tryz.prog 124 #[.agg #[.int .i64 (c.R : Int), .int .i64 (c.L : Int), .int .i64 c.A, .int .i64 c.B, .int .i64 c.K, .int .i64 c.A2, .int .i64 c.B2, .slice xa S.x.1.length xc, .bool S.x.2, .pointer (some ⟨K.b, 0, none⟩), .slice da S.d.length dc, .slice ua S.u.length uc, .int .i64 (S.k : Nat)]] w fun e w' => e = .returned (.tuple #[.int .i64 (idxA (ivN S.d) (minA (ivN S.d)) : Nat), .int .i64 (minA (ivN S.d))]) ∧ Below w.heap.size w w' := by
  have hll := ivN_len S.d
  have HBM := hid (best_min (S := ivN S.d) (by omega))
  have BX := hid (box1_start (w := w) (A := #[.int .i64 (c.R : Int), .int .i64 (c.L : Int), .int .i64 c.A, .int .i64 c.B, .int .i64 c.K, .int .i64 c.A2, .int .i64 c.B2, .slice xa S.x.1.length xc, .bool S.x.2, .pointer (some ⟨K.b, 0, none⟩), .slice da S.d.length dc, .slice ua S.u.length uc, .int .i64 (S.k : Nat)]) (T := 136) (fz := (0, 0)))
  obtain ⟨b, o, cap, hv, hc⟩ := hl.some (by omega)
  injection hv with e1 e2 e3
  subst e1
  subst e3
  clear e2
  have HC := hid (fun w1 (g : Below w.heap.size w w1) j h => keep_cell g (hc j h))
  clear hc hl
  obtain ⟨n, hn⟩ : ∃ n, n = S.d.length := ⟨_, rfl⟩
  rw [← hn] at BX h0 hm hll ⊢
  have x10 := BX.out.fst 10
  simp only [List.getElem?_toArray, List.getElem?_cons_zero, List.getElem?_cons_succ] at x10
  rw [← hll] at x10 h0 hm
  clear hn
  generalize ivN S.d = L at *
  subst hll
  go_enter Tryz.func124, Tryz.ntmps124
  go_wp2_with fail
  go_loopw [4, 5] (fun p i wr => ∃ k j : Nat, k ≤ L.length ∧ j < L.length ∧ p = .int .i64 (j : Int) ∧ i = .int .i64 (k : Int) ∧ Hid ((bestT ltB L k).1 = j) ∧ Hid (Box1 w wr #[.int .i64 (c.R : Int), .int .i64 (c.L : Int), .int .i64 c.A, .int .i64 c.B, .int .i64 c.K, .int .i64 c.A2, .int .i64 c.B2, .slice xa S.x.1.length xc, .bool S.x.2, .pointer (some ⟨K.b, 0, none⟩), .slice (some ⟨b, o, none⟩) L.length dc, .slice ua S.u.length uc, .int .i64 (S.k : Nat)])) (fun _ i _ => L.length - (intOf i).toNat)
  case atStart => exact ⟨0, 0, Nat.zero_le _, h0, rfl, rfl, rfl, BX⟩
  case round =>
    obtain ⟨k, j, hk, hj, rfl, rfl, HB, BX⟩ := hrel
    clear x10
    have x10 := BX.out.fst 10
    simp only [List.getElem?_toArray, List.getElem?_cons_zero, List.getElem?_cons_succ] at x10
    have ey := HC.out _ BX.out.low j hj
    by_cases hlt : k < L.length
    · have ex := HC.out _ BX.out.low k hlt
      have HST := hid (bestI_step hj hlt HB.out)
      by_cases he : L[k] < L[j]
      · rw [if_pos he] at HST
        generalize L[k] = s at ex he
        generalize L[j] = q at ey he
        go_wp2
        go_quiet (fail)
        go_wp2
        go_roundw
        case rel => exact ⟨k + 1, k, by omega, hlt, rfl, by go_num, HST, hid (BX.out.keep (bdrewN (Below.refl _ _)))⟩
        case measure => simp [intOf]; omega
      · rw [if_neg he] at HST
        generalize L[k] = s at ex he
        generalize L[j] = q at ey he
        go_wp2
        go_quiet (fail)
        go_wp2
        go_roundw
        case rel => exact ⟨k + 1, j, by omega, hj, rfl, by go_num, HST, hid (BX.out.keep (bdrewN (Below.refl _ _)))⟩
        case measure => simp [intOf]; omega
    · obtain rfl : k = L.length := by omega
      have HV := hid (bestT_of hj (Nat.le_refl _) HB.out)
      generalize L[j] = q at ey HV
      go_wp2
      go_quiet (fail)
      go_wp2
      go_ret2
      exact ⟨by rw [← HBM.out.2, HB.out, ← HBM.out.1, HV.out]; rfl, bdrewN BX.out.low⟩
end Go.Proofs.YtihbjimnjhfpeaaGreat
