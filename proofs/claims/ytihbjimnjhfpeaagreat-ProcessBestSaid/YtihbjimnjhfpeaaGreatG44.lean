/- Texts of this seat, one behind the other. -/
import Derived.Test.YtihbjimnjhfpeaaGreatG43
import Derived.Test.YtihbjimnjhfpeaaGreatG01
import Derived.Test.YtihbjimnjhfpeaaGreatG32
import Derived.Test.YtihbjimnjhfpeaaGreatG38
import Derived.Test.YtihbjimnjhfpeaaGreatG27
/- Running where there is no answer; Sum at whatever lists; the reference's row and ours are the same. -/
namespace Go.Proofs.YtihbjimnjhfpeaaGreat.Lt
open Go.RowKit Go.Lib Go.Maps

theorem okL_app (l m : List Int) : okL (l ++ m) = (okL l && okL m) := by simp [okL]
theorem ask_app_no {v : Bool} {l m : List Int} (h1 : l.length ≤ 300) (h2 : m.length ≤ 300) (h : askE v l ≠ 0 ∨ askE v m ≠ 0) : askE v (l ++ m) ≠ 0 := by
  rcases ask_cases v (l ++ m) with g | ⟨_, rfl, ho, _⟩
  · exact g
  · rw [okL_app, Bool.and_eq_true] at ho
    rw [askE_ok (by omega) ho.1, askE_ok (by omega) ho.2] at h
    simp at h
theorem ask_app_ok {v : Bool} {l m : List Int} (h1 : l.length ≤ 300) (h2 : m.length ≤ 300) (h : askE v l = 0) (k : askE v m = 0) : askE v (l ++ m) = 0 := by
  rcases ask_cases v l with g | ⟨_, rfl, ho, _⟩
  · exact absurd h g
  · rcases ask_cases true m with g | ⟨_, _, ho', _⟩
    · exact absurd k g
    · exact askE_ok (by rw [List.length_append]; omega) (by rw [okL_app, ho, ho']; rfl)
theorem RowI.src {w : World} {v : Value} {l : List Int} (h : RowI w v l) : Src w v l := by
  rcases h with h | ⟨b, o, cap, hv, _, hc⟩
  · exact .inl h
  · exact .inr ⟨b, o, cap, hv, hc⟩
/-- A row of ints that the call owns, read. -/
theorem own_rowI {w : World} {base e : Nat} {v : Value} {l : List Int} (h : w.ownsRow base e 1 v l.length (ivs l)) (hl : l.length ≤ 1000000) : RowI w v l := by
  rcases h.2 with ⟨rfl, h0⟩ | ⟨g, cap, cur, rfl, _, hg, hcap, _, hcs, ht⟩
  · exact .inl ⟨none, 0, rfl, List.length_eq_zero_iff.1 h0⟩
  · refine .inr ⟨g, 0, cap, rfl, by unfold maxLen; omega, fun k hk => ?_⟩
    rw [Nat.zero_add, cell_of_row w g k cur e _ hg]
    have hx : (ivs l)[k]? = some (.int .i64 l[k]) := by simp [ivs, hk]
    rw [← ht, List.getElem?_take_of_lt (by omega)] at hx
    simpa using hx
theorem app_below {W W0 w' : World} {base e : Nat} {v v' : Value} {xs : List Value} {l : List Int} (hW : Below W.heap.size W W0) (hown : W0.ownsRow base e 1 v xs.length xs) (hb : W.heap.size ≤ base) (h : AppP W0 base e v xs l v' w') : Below W.heap.size W w' :=
  hW.grown h.2.1 hW.size (fun k hk => by have := (World.ownsRow.lt hown k hk).1; omega)
theorem app_first {W0 w' : World} {base e : Nat} {v v' : Value} {l : List Int} (h : AppP W0 base e v [] l v' w') : w'.ownsRow base e 1 v' (ivs l).length (ivs l) := by
  have := h.1
  rwa [List.length_nil, Nat.zero_add, List.nil_append, ← ivs_len l] at this
theorem app_next {W0 w' : World} {base e : Nat} {v v' : Value} {l m : List Int} (h : AppP W0 base e v (ivs l) m v' w') : w'.ownsRow base e 1 v' (l ++ m).length (ivs (l ++ m)) := by
  have := h.1
  rwa [ivs_len, ← List.length_append, show ivs l ++ ivs m = ivs (l ++ m) by simp [ivs]] at this
end Go.Proofs.YtihbjimnjhfpeaaGreat.Lt

/- Walk of ByColdest; the sums of places as sums of what is told: contracts. -/

/- Spoiled and ByColdest of the code whatever comes in: contracts. -/
namespace Go.Proofs.YtihbjimnjhfpeaaGreat
open Go.RowKit Go.Lib

/-- What may spoil in a can at most. -/
def spoO (r l a b k a2 b2 : Int) (q : Kl) (t : Int) (p : List Int) : Int :=
  if chk4 (canB r l a b k a2 b2) q.vB t p = 0 then maxA (ivN (dishR (cnOf r l a b k a2 b2) (Lt.up q.r q.z.toNat) (dish0 (cnOf r l a b k a2 b2) t) p).2) else 0
theorem spoO_no {r l a b k a2 b2 : Int} {q : Kl} {t : Int} {p : List Int} (h : chk4 (canB r l a b k a2 b2) q.vB t p ≠ 0) : spoO r l a b k a2 b2 q t p = 0 := by unfold spoO; rw [if_neg h]
def IntE (x ce : Int) (w : World) (e : Ending) (w' : World) : Prop := e = .returned (.tuple #[.int .i64 x, .int .i64 ce]) ∧ Below w.heap.size w w'
set_option maxRecDepth 20000 in
set_option maxHeartbeats 4000000 in
theorem spoil_err (r l a b k a2 b2 : Int) (w : World) (q : Kl) (t : Int) (v : Value) (p : List Int) (hs : q.s.size ≤ maxLen) (hl : RowI w v p) (hpm : p.length ≤ maxLen) (hne : chk4 (canB r l a b k a2 b2) q.vB t p ≠ 0) :
    Calls Tryz.prog 137 #[.agg #[.int .i64 r, .int .i64 l, .int .i64 a, .int .i64 b, .int .i64 k, .int .i64 a2, .int .i64 b2], .agg #[.string q.s, .int .i64 q.r, .int .i64 q.z, .int .i64 q.d, .int .i64 q.g], .int .i64 t, v] w (IntE 0 (chk4 (canB r l a b k a2 b2) q.vB t p) w) := by
  have HX := hid (box2_start (w := w) (A := #[.int .i64 r, .int .i64 l, .int .i64 a, .int .i64 b, .int .i64 k, .int .i64 a2, .int .i64 b2]) (B := #[.string q.s, .int .i64 q.r, .int .i64 q.z, .int .i64 q.d, .int .i64 q.g]) (T := 23) (T' := 25) (fz := (0, 0)) (fz' := (0, 0)))
  have HL := hid (fun w1 (g : Below w.heap.size w w1) => hl.keep g)
  obtain ⟨a0, cap, rfl⟩ := hl.shape
  have HC := hid (fun W h => pcheck_any r l a b k a2 b2 W q t (.slice a0 p.length cap) p hs h hpm)
  generalize chk4 (canB r l a b k a2 b2) q.vB t p = ce at *
  have hc1 : (ce != 0) = true := by simpa using hne
  clear hl hs hpm hne
  go_enter Tryz.func137, Tryz.ntmps137
  go_wp2_with fail
  refine (HC.out _ (HL.out _ HX.out.low)).mono ?_
  rintro e w1 ⟨rfl, hb⟩
  have HX := hid (HX.out.keep hb)
  clear hb
  go_wp2_with fail
  go_ret2
  exact ⟨rfl, HX.out.low⟩
set_option maxRecDepth 20000 in
set_option maxHeartbeats 4000000 in
theorem spoil_ok (c : Cn) (s : ByteArray) (r d g t : Int) (Z : Nat) (v : Value) (p : List Int) (w : World) (hs : s.size ≤ maxLen) (hcv : c.V) (hv : Lt.validB s.data.toList r Z d g = true) (ho : okT t = true) (hop : okL p = true) (hlen : p.length ≤ 2000) (hl : RowI w v p) :
    Calls Tryz.prog 137 #[.agg #[.int .i64 (c.R : Int), .int .i64 (c.L : Int), .int .i64 c.A, .int .i64 c.B, .int .i64 c.K, .int .i64 c.A2, .int .i64 c.B2], .agg #[.string s, .int .i64 r, .int .i64 (Z : Int), .int .i64 d, .int .i64 g], .int .i64 t, v] w (IntE (maxA (ivN (dishR c (Lt.up r Z) (dish0 c t) p).2)) 0 w) := by
  have HX := hid (box2_start (w := w) (A := #[.int .i64 (c.R : Int), .int .i64 (c.L : Int), .int .i64 c.A, .int .i64 c.B, .int .i64 c.K, .int .i64 c.A2, .int .i64 c.B2]) (B := #[.string s, .int .i64 r, .int .i64 (Z : Int), .int .i64 d, .int .i64 g]) (T := 23) (T' := 25) (fz := (0, 0)) (fz' := (0, 0)))
  have HL := hid (fun w1 (g : Below w.heap.size w w1) => hl.keep g)
  obtain ⟨a0, cap, rfl⟩ := hl.shape
  have hcan : canB (c.R : Int) c.L c.A c.B c.K c.A2 c.B2 = true := hcv
  have hch : chk4 (canB (c.R : Int) c.L c.A c.B c.K c.A2 c.B2) (Kl.vB ⟨s, r, Z, d, g⟩) t p = 0 := by
    refine chk4_ok ?_ ?_ (by omega)
    · rw [hcan, show Kl.vB ⟨s, r, Z, d, g⟩ = true from hv]; rfl
    · rw [ho, hop]; rfl
  have HC : Hid (∀ W, RowI W (.slice a0 p.length cap) p → Calls Tryz.prog 70 #[.agg #[.int .i64 (c.R : Int), .int .i64 (c.L : Int), .int .i64 c.A, .int .i64 c.B, .int .i64 c.K, .int .i64 c.A2, .int .i64 c.B2], .agg #[.string s, .int .i64 r, .int .i64 (Z : Int), .int .i64 d, .int .i64 g], .int .i64 t, .slice a0 p.length cap] W fun e w' => e = .returned (.int .i64 0) ∧ Below W.heap.size W w') := fun W h => by
    have := pcheck_any c.R c.L c.A c.B c.K c.A2 c.B2 W ⟨s, r, Z, d, g⟩ t (.slice a0 p.length cap) p hs h (by unfold maxLen; omega)
    rwa [hch] at this
  have HM := hid (fun W => meterUp_any c s r d g Z W hs hv)
  have hbt : (-50000 : Int) ≤ t ∧ t ≤ 200000 := by unfold okT at ho; simpa using ho
  have hbl : ∀ b ∈ p, (-50000 : Int) ≤ b ∧ b ≤ 200000 := fun b hb => by
    have := List.all_eq_true.1 hop b hb
    unfold okT at this; simpa using this
  have HRK := hid (fun (W : World) (kb nb mb : Nat) (h : UpI s r Z d g kb nb mb W) => rateOk_up hs hv h)
  have HRN := hid (fun (F : Nat) (lb : Array Value) (mb B0 : Nat) (I : World → Prop) (W : World) (hR : RateOk F lb (Lt.up r Z) (-50000) 200000 mb B0 I) (hI : I W) (h : RowI W (.slice a0 p.length cap) p) => mrun_any c (g * (d * 1000000)) t F lb (Lt.up r Z) (-50000) 200000 mb B0 I (.slice a0 p.length cap) p W hR hcv ho hop hI h (by omega) hbt hbl)
  have hG : Good c (dishR c (Lt.up r Z) (dish0 c t) p) := (dish0_good ho).run hcv.ok hop
  have HSL : Hid (1 ≤ (dishR c (Lt.up r Z) (dish0 c t) p).2.length ∧ (dishR c (Lt.up r Z) (dish0 c t) p).2.length ≤ 1000) := by
    refine hid ?_
    rw [hG.len]
    exact ⟨hcv.ok.p.1, by have := hcv.ok.p.2; omega⟩
  have HMX := hid (fun (W : World) (u : Value) (h : RowI W u (ivN (dishR c (Lt.up r Z) (dish0 c t) p).2)) => maxA_any u _ W h (by rw [ivN_len]; have := HSL.out; omega) (by rw [ivN_len]; have := HSL.out; omega))
  generalize hD : dishR c (Lt.up r Z) (dish0 c t) p = D at *
  clear hD hl hcan hch hlen hop ho hv hcv hs hbt hbl hG HSL
  have hfl := field_dish
  go_enter Tryz.func137, Tryz.ntmps137
  go_wp2_with fail
  refine (HC.out _ (HL.out _ HX.out.low)).mono ?_
  rintro e w1 ⟨rfl, hb⟩
  have HX := hid (HX.out.keep hb)
  clear hb
  have x0 := HX.out.snd 0; have x1 := HX.out.snd 1; have x2 := HX.out.snd 2; have x3 := HX.out.snd 3; have x4 := HX.out.snd 4
  have t0 := HX.out.fst 0; have t1 := HX.out.fst 1; have t2 := HX.out.fst 2; have t3 := HX.out.fst 3; have t4 := HX.out.fst 4; have t5 := HX.out.fst 5; have t6 := HX.out.fst 6
  simp only [List.getElem?_toArray, List.getElem?_cons_zero, List.getElem?_cons_succ] at x0 x1 x2 x3 x4 t0 t1 t2 t3 t4 t5 t6
  go_wp2_with fail
  refine (HM.out _).mono ?_
  rintro e w2 ⟨kb, nb, mb, rfl, hu, hmb, hb⟩
  have HMB := hid (show w.heap.size ≤ mb from Nat.le_trans HX.out.low.size hmb)
  have HX := hid (HX.out.keep hb)
  have HU := hid hu
  clear hb hu hmb x0 x1 x2 x3 x4 t0 t1 t2 t3 t4 t5 t6
  have HRO := hid (HRK.out w2 kb nb mb HU.out)
  clear HRK HM HC
  go_wp2_with fail
  refine (HRN.out _ _ mb w2.heap.size _ w2 HRO.out ⟨HU.out, Nat.le_refl _⟩ (HL.out _ HX.out.low)).mono ?_
  rintro e w9 ⟨ua, ub, uc, ud, rfl, h1, h2, h3, h4⟩
  have HF := hid (And.intro h2 (HX.out.low.grown h4 HX.out.low.size (fun j e => by cases e; exact HMB.out)))
  clear h1 h2 h3 h4 HRN HL HRO
  go_wp2_with fail
  refine (HMX.out _ _ HF.out.1).mono ?_
  rintro e w10 ⟨rfl, rfl⟩
  go_wp2_with fail
  go_ret2
  exact ⟨rfl, HF.out.2⟩
theorem spoil_any (r l a b k a2 b2 : Int) (w : World) (q : Kl) (t : Int) (v : Value) (p : List Int) (hs : q.s.size ≤ maxLen) (hl : RowI w v p) (hpm : p.length ≤ maxLen) :
    Calls Tryz.prog 137 #[.agg #[.int .i64 r, .int .i64 l, .int .i64 a, .int .i64 b, .int .i64 k, .int .i64 a2, .int .i64 b2], .agg #[.string q.s, .int .i64 q.r, .int .i64 q.z, .int .i64 q.d, .int .i64 q.g], .int .i64 t, v] w (IntE (spoO r l a b k a2 b2 q t p) (chk4 (canB r l a b k a2 b2) q.vB t p) w) := by
  by_cases h : chk4 (canB r l a b k a2 b2) q.vB t p = 0
  · obtain ⟨hc, hk, ho, hop, hlen⟩ := chk4_zero h
    obtain ⟨c, hcv, rfl, rfl, rfl, rfl, rfl, rfl, rfl⟩ := canB_cn hc
    obtain ⟨Z, hz, hv⟩ := kl_of hk
    have hso : spoO c.R c.L c.A c.B c.K c.A2 c.B2 q t p = maxA (ivN (dishR c (Lt.up q.r Z) (dish0 c t) p).2) := by
      unfold spoO; rw [if_pos h, cnOf_cn, hz, Int.toNat_natCast]
    rw [hso, h, hz]
    exact spoil_ok c q.s q.r q.d q.g t Z v p w hs hcv hv ho hop hlen hl
  · rw [spoO_no h]
    exact spoil_err r l a b k a2 b2 w q t v p hs hl hpm h
end Go.Proofs.YtihbjimnjhfpeaaGreat

/- The reference's spoilt, ByColdest, Spoiled: contracts. -/
namespace Go.Proofs.YtihbjimnjhfpeaaGreat
open Go.RowKit Go.Lib

/-- The greatest of a list and nothing. -/
def mx0 (L : List Int) : Int := L.foldl (fun m x => if m < x then x else m) 0
theorem mx0_succ {L : List Int} {k : Nat} (h : k < L.length) : mx0 (L.take (k + 1)) = if mx0 (L.take k) < L[k] then L[k] else mx0 (L.take k) := by
  unfold mx0
  rw [List.take_add_one, List.getElem?_eq_getElem h, List.foldl_append]
  rfl
theorem mx0_in (L : List Int) : ∀ k, k ≤ L.length → (mx0 (L.take k) = 0 ∨ mx0 (L.take k) ∈ L) ∧ 0 ≤ mx0 (L.take k) ∧ ∀ j, j < k → ∀ h : j < L.length, L[j] ≤ mx0 (L.take k)
  | 0, _ => ⟨.inl rfl, Int.le_refl _, fun j hj => absurd hj (Nat.not_lt_zero _)⟩
  | k + 1, hk => by
    obtain ⟨h1, h2, h3⟩ := mx0_in L k (by omega)
    have h := mx0_succ (L := L) (k := k) (by omega)
    by_cases g : mx0 (L.take k) < L[k]
    · rw [if_pos g] at h
      rw [h]
      refine ⟨.inr (List.getElem_mem _), by omega, fun j hj hl => ?_⟩
      by_cases e : j = k
      · subst e; exact Int.le_refl _
      · have := h3 j (by omega) hl
        omega
    · rw [if_neg g] at h
      rw [h]
      refine ⟨h1, h2, fun j hj hl => ?_⟩
      by_cases e : j = k
      · subst e; omega
      · exact h3 j (by omega) hl
theorem mx0_max {L : List Int} (h0 : 0 < L.length) (hp : ∀ x ∈ L, 0 ≤ x) : mx0 L = maxA L := by
  obtain ⟨h1, h2, h3⟩ := mx0_in L L.length (Nat.le_refl _)
  rw [List.take_length] at h1 h2 h3
  obtain ⟨j, hj, e⟩ := List.getElem_of_mem (maxA_mem h0)
  have h4 := h3 j hj hj
  rw [e] at h4
  rcases h1 with h1 | h1
  · have := hp _ (maxA_mem h0)
    omega
  · have := maxA_ge h1
    omega
theorem ivN_pos (S : List Nat) : ∀ x ∈ ivN S, 0 ≤ x := fun x hx => by
  unfold ivN at hx
  obtain ⟨n, _, rfl⟩ := List.mem_map.1 hx
  omega
set_option maxRecDepth 20000 in
set_option maxHeartbeats 2000000 in
theorem xspoilt_any (c : Cn) (K : Kq) (S : Rs) (xa : Option Addr) (xc : Nat) (da : Option Addr) (dc : Nat) (ua : Option Addr) (uc : Nat) (w : World) (hl : RowI w (.slice ua S.u.length uc) (ivN S.u)) (h0 : 0 < S.u.length) (hm : S.u.length ≤ 1000) :
    Calls Tryz.prog 82 #[.agg #[.int .i64 (c.R : Int), .int .i64 (c.L : Int), .int .i64 c.A, .int .i64 c.B, .int .i64 c.K, .int .i64 c.A2, .int .i64 c.B2, .slice xa S.x.1.length xc, .bool S.x.2, .pointer (some ⟨K.b, 0, none⟩), .slice da S.d.length dc, .slice ua S.u.length uc, .int .i64 (S.k : Nat)]] w fun e w' => e = .returned (.int .i64 (maxA (ivN S.u))) ∧ Below w.heap.size w w' := by
  have hll := ivN_len S.u
  have HMX := hid (mx0_max (L := ivN S.u) (by omega) (ivN_pos _))
  have BX := hid (box1_start (w := w) (A := #[.int .i64 (c.R : Int), .int .i64 (c.L : Int), .int .i64 c.A, .int .i64 c.B, .int .i64 c.K, .int .i64 c.A2, .int .i64 c.B2, .slice xa S.x.1.length xc, .bool S.x.2, .pointer (some ⟨K.b, 0, none⟩), .slice da S.d.length dc, .slice ua S.u.length uc, .int .i64 (S.k : Nat)]) (T := 136) (fz := (0, 0)))
  obtain ⟨b, o, cap, hv, hc⟩ := hl.some (by omega)
  injection hv with e1 e2 e3
  subst e1
  subst e3
  clear e2
  have HC := hid (fun w1 (g : Below w.heap.size w w1) j h => keep_cell g (hc j h))
  clear hc hl
  obtain ⟨n, hn⟩ : ∃ n, n = S.u.length := ⟨_, rfl⟩
  rw [← hn] at BX h0 hm hll ⊢
  have x11 := BX.out.fst 11
  simp only [List.getElem?_toArray, List.getElem?_cons_zero, List.getElem?_cons_succ] at x11
  rw [← hll] at x11 h0 hm
  clear hn
  generalize ivN S.u = L at *
  subst hll
  go_enter Tryz.func82, Tryz.ntmps82
  go_wp2_with fail
  go_loopw [3, 4] (fun p i wr => ∃ (k : Nat) (m : Int), k ≤ L.length ∧ p = .int .i64 m ∧ i = .int .i64 (k : Int) ∧ Hid (mx0 (L.take k) = m) ∧ Hid (Box1 w wr #[.int .i64 (c.R : Int), .int .i64 (c.L : Int), .int .i64 c.A, .int .i64 c.B, .int .i64 c.K, .int .i64 c.A2, .int .i64 c.B2, .slice xa S.x.1.length xc, .bool S.x.2, .pointer (some ⟨K.b, 0, none⟩), .slice da S.d.length dc, .slice (some ⟨b, o, none⟩) L.length uc, .int .i64 (S.k : Nat)])) (fun _ i _ => L.length - (intOf i).toNat)
  case atStart => exact ⟨0, 0, Nat.zero_le _, rfl, rfl, rfl, BX⟩
  case round =>
    obtain ⟨k, m, hk, rfl, rfl, HB, BX⟩ := hrel
    clear x11
    have x11 := BX.out.fst 11
    simp only [List.getElem?_toArray, List.getElem?_cons_zero, List.getElem?_cons_succ] at x11
    by_cases hlt : k < L.length
    · have ex := HC.out _ BX.out.low k hlt
      have HST := hid (mx0_succ hlt)
      rw [HB.out] at HST
      by_cases he : m < L[k]
      · rw [if_pos he] at HST
        generalize L[k] = s at ex he HST
        go_wp2_with fail
        go_roundw
        case rel => exact ⟨k + 1, s, by omega, rfl, by go_num, HST, BX⟩
        case measure => simp [intOf]; omega
      · rw [if_neg he] at HST
        generalize L[k] = s at ex he
        go_wp2_with fail
        go_roundw
        case rel => exact ⟨k + 1, m, by omega, rfl, by go_num, HST, BX⟩
        case measure => simp [intOf]; omega
    · obtain rfl : k = L.length := by omega
      rw [List.take_length] at HB
      go_wp2_with fail
      go_ret
      exact ⟨ret_int (by rw [← HMX.out, HB.out]), BX.out.low⟩
theorem field_run5 (x0 x1 x2 x3 x4 x5 x6 x7 x8 x9 x10 x11 x12 : Value) (W : World) : (Instr.field 136 (.agg #[x0, x1, x2, x3, x4, x5, x6, x7, x8, x9, x10, x11, x12]) 5).run Tryz.prog W = .ok x12 W := by kernel_rfl
theorem rs_up {c : Cn} {K : Kq} {s : ByteArray} {r d g t : Int} {Z : Nat} (p : List Int) (he : K.s = s ∧ K.r = r ∧ K.Z = Z ∧ K.d = d ∧ K.g = g) : (rsR c K.f K.u (rs0 c t) p).u = (dishR c (Lt.up r Z) (dish0 c t) p).2 := by
  obtain ⟨_, e1, e2, _, _⟩ := he
  rw [← e1, ← e2]
  exact congrArg Prod.snd (rsR_u c K.f K.u p (rs0 c t))
set_option maxRecDepth 100000 in
set_option maxHeartbeats 4000000 in
theorem xspoil_ok (c : Cn) (s : ByteArray) (r d g t : Int) (Z : Nat) (v : Value) (p : List Int) (w : World) (hs : s.size ≤ maxLen) (hcv : c.V) (hv : Lt.validB s.data.toList r Z d g = true) (ho : okT t = true) (hop : okL p = true) (hlen : p.length ≤ 2000) (hl : RowI w v p) :
    Calls Tryz.prog 39 #[.agg #[.int .i64 (c.R : Int), .int .i64 (c.L : Int), .int .i64 c.A, .int .i64 c.B, .int .i64 c.K, .int .i64 c.A2, .int .i64 c.B2], .agg #[.string s, .int .i64 r, .int .i64 (Z : Int), .int .i64 d, .int .i64 g], .int .i64 t, v] w (IntE (maxA (ivN (dishR c (Lt.up r Z) (dish0 c t) p).2)) 0 w) := by
  have HX := hid (box2_start (w := w) (A := #[.int .i64 (c.R : Int), .int .i64 (c.L : Int), .int .i64 c.A, .int .i64 c.B, .int .i64 c.K, .int .i64 c.A2, .int .i64 c.B2]) (B := #[.string s, .int .i64 r, .int .i64 (Z : Int), .int .i64 d, .int .i64 g]) (T := 23) (T' := 25) (fz := (0, 0)) (fz' := (0, 0)))
  obtain ⟨a0, cap, rfl⟩ := hl.shape
  have HL := hid hl
  have hcan : canB (c.R : Int) c.L c.A c.B c.K c.A2 c.B2 = true := hcv
  have hch : chk4 (canB (c.R : Int) c.L c.A c.B c.K c.A2 c.B2) (Kl.vB ⟨s, r, Z, d, g⟩) t p = 0 := by
    refine chk4_ok ?_ ?_ (by omega)
    · rw [hcan, show Kl.vB ⟨s, r, Z, d, g⟩ = true from hv]; rfl
    · rw [ho, hop]; rfl
  have HC : Hid (∀ W, RowI W (.slice a0 p.length cap) p → Calls Tryz.prog 80 #[.agg #[.int .i64 (c.R : Int), .int .i64 (c.L : Int), .int .i64 c.A, .int .i64 c.B, .int .i64 c.K, .int .i64 c.A2, .int .i64 c.B2], .agg #[.string s, .int .i64 r, .int .i64 (Z : Int), .int .i64 d, .int .i64 g], .int .i64 t, .slice a0 p.length cap] W fun e w' => e = .returned (.int .i64 0) ∧ Below W.heap.size W w') := fun W h => by
    have := xasked_any c.R c.L c.A c.B c.K c.A2 c.B2 W ⟨s, r, Z, d, g⟩ t (.slice a0 p.length cap) p hs h (by unfold maxLen; omega)
    rwa [hch] at this
  have HBG := hid (fun W => xbegun_any c s r d g t Z W hs hcv)
  have HTH := hid (fun (K : Kq) (hV : K.V) xa xc da dc ua uc W hR hK h => xthrough_any c K (rs0 c t) (.slice a0 p.length cap) p xa xc da dc ua uc W hcv.ok hV (rs0_good ho) hop hR hK h (by omega))
  have HVV := hid hv
  have HGD := hid (fun K : Kq => (rs0_good ho).run (f := K.f) (g := K.u) hcv.ok hop)
  have HPB := hid hcv.ok.p
  clear hcan hch hlen hop ho hv hcv hs hl
  go_enter Tryz.func39, Tryz.ntmps39
  go_wp2_with fail
  refine (HC.out _ (HL.out.keep HX.out.low)).mono ?_
  rintro e w0 ⟨rfl, hb⟩
  have HX := hid (HX.out.keep hb)
  clear hb
  have t0 := HX.out.fst 0; have t1 := HX.out.fst 1; have t2 := HX.out.fst 2; have t3 := HX.out.fst 3; have t4 := HX.out.fst 4; have t5 := HX.out.fst 5; have t6 := HX.out.fst 6
  have x0 := HX.out.snd 0; have x1 := HX.out.snd 1; have x2 := HX.out.snd 2; have x3 := HX.out.snd 3; have x4 := HX.out.snd 4
  simp only [List.getElem?_toArray, List.getElem?_cons_zero, List.getElem?_cons_succ] at t0 t1 t2 t3 t4 t5 t6 x0 x1 x2 x3 x4
  go_wp2_with fail
  refine (HBG.out _).mono ?_
  rintro e w1 ⟨K, he, hwF, hb, hwb, xa, xc, da, dc, ua, uc, rfl, hrows, hk, hst⟩
  have HX1 := hid (HX.out.keep hb)
  have hlt := Kq.lt hk
  have HBT := hid (rowK_old (gD := K.gD) (gU := K.gU) HL.out HX1.out.low (by have := HX.out.low.size; omega) (by have := HX.out.low.size; omega))
  have HRW := hid hrows
  have HKK := hid hk
  have HEQ := hid he
  have HWF := hid hwF
  clear hb hwb hlt hrows hk hst he hwF t0 t1 t2 t3 t4 t5 t6 x0 x1 x2 x3 x4
  go_wp2_with fail
  refine (HTH.out K (kq_V HEQ.out HVV.out) xa xc da dc ua uc _ HRW.out HKK.out HBT.out).mono ?_
  rintro e w2 ⟨ya, yc, ea, ec, ga, gc, rfl, hr2, hk2, hs2⟩
  have hlow := Kq.low hk2
  rw [HWF.out] at hlow
  have HX2 := hid (HX.out.keep hlow)
  have HR2 := hid hr2
  have HSM := hid (rs_up (c := c) (t := t) p HEQ.out)
  clear hlow hr2 hk2 hs2
  have HLN := hid (show (rsR c K.f K.u (rs0 c t) p).u.length = c.P from (HGD.out K).up.len)
  go_wp2_with fail
  refine (xspoilt_any c K (rsR c K.f K.u (rs0 c t) p) ya yc ea ec ga gc _ HR2.out.tu.row (by rw [HLN.out]; exact HPB.out.1) (by rw [HLN.out]; have := HPB.out.2; omega)).mono ?_
  rintro e w3 ⟨rfl, hb⟩
  have HX3 := hid (HX2.out.keep hb)
  clear hb
  rw [HSM.out]
  go_wp2_with fail
  go_ret2
  exact ⟨rfl, HX3.out.low⟩
set_option maxRecDepth 20000 in
set_option maxHeartbeats 4000000 in
theorem xspoil_err (r l a b k a2 b2 : Int) (w : World) (q : Kl) (t : Int) (v : Value) (p : List Int) (hs : q.s.size ≤ maxLen) (hl : RowI w v p) (hpm : p.length ≤ maxLen) (hne : chk4 (canB r l a b k a2 b2) q.vB t p ≠ 0) :
    Calls Tryz.prog 39 #[.agg #[.int .i64 r, .int .i64 l, .int .i64 a, .int .i64 b, .int .i64 k, .int .i64 a2, .int .i64 b2], .agg #[.string q.s, .int .i64 q.r, .int .i64 q.z, .int .i64 q.d, .int .i64 q.g], .int .i64 t, v] w (IntE 0 (chk4 (canB r l a b k a2 b2) q.vB t p) w) := by
  have HX := hid (box2_start (w := w) (A := #[.int .i64 r, .int .i64 l, .int .i64 a, .int .i64 b, .int .i64 k, .int .i64 a2, .int .i64 b2]) (B := #[.string q.s, .int .i64 q.r, .int .i64 q.z, .int .i64 q.d, .int .i64 q.g]) (T := 23) (T' := 25) (fz := (0, 0)) (fz' := (0, 0)))
  have HL := hid (fun w1 (g : Below w.heap.size w w1) => hl.keep g)
  obtain ⟨a0, cap, rfl⟩ := hl.shape
  have HC := hid (fun W h => xasked_any r l a b k a2 b2 W q t (.slice a0 p.length cap) p hs h hpm)
  generalize chk4 (canB r l a b k a2 b2) q.vB t p = ce at *
  have hc1 : (ce != 0) = true := by simpa using hne
  clear hl hs hpm hne
  go_enter Tryz.func39, Tryz.ntmps39
  go_wp2_with fail
  refine (HC.out _ (HL.out _ HX.out.low)).mono ?_
  rintro e w1 ⟨rfl, hb⟩
  have HX := hid (HX.out.keep hb)
  clear hb
  go_wp2_with fail
  go_ret2
  exact ⟨rfl, HX.out.low⟩
theorem xspoil_any (r l a b k a2 b2 : Int) (w : World) (q : Kl) (t : Int) (v : Value) (p : List Int) (hs : q.s.size ≤ maxLen) (hl : RowI w v p) (hpm : p.length ≤ maxLen) :
    Calls Tryz.prog 39 #[.agg #[.int .i64 r, .int .i64 l, .int .i64 a, .int .i64 b, .int .i64 k, .int .i64 a2, .int .i64 b2], .agg #[.string q.s, .int .i64 q.r, .int .i64 q.z, .int .i64 q.d, .int .i64 q.g], .int .i64 t, v] w (IntE (spoO r l a b k a2 b2 q t p) (chk4 (canB r l a b k a2 b2) q.vB t p) w) := by
  by_cases h : chk4 (canB r l a b k a2 b2) q.vB t p = 0
  · obtain ⟨c, Z, hcv, rfl, rfl, rfl, rfl, rfl, rfl, rfl, hz, hv, ho, hop, hlen⟩ := canB_open h
    have hso : spoO c.R c.L c.A c.B c.K c.A2 c.B2 q t p = maxA (ivN (dishR c (Lt.up q.r Z) (dish0 c t) p).2) := by
      unfold spoO; rw [if_pos h, cnOf_cn, hz, Int.toNat_natCast]
    rw [hso, h, hz]
    exact xspoil_ok c q.s q.r q.d q.g t Z v p w hs hcv hv ho hop hlen hl
  · rw [spoO_no h]
    exact xspoil_err r l a b k a2 b2 w q t v p hs hl hpm h
end Go.Proofs.YtihbjimnjhfpeaaGreat
