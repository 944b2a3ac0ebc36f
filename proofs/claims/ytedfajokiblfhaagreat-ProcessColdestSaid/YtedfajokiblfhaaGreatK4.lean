/- Texts of this seat, one behind the other. -/
import Derived.Test.YtedfajokiblfhaaGreatK3
import Derived.Test.YtedfajokiblfhaaGreatPeg
import Derived.Test.YtedfajokiblfhaaGreatE2
/- The reference's spoilt, ByColdest, Spoiled: contracts. -/
namespace Go.Proofs.YtedfajokiblfhaaGreat
open Go.RowKit Go.Lib

/-- The greatest of a list and nothing. -/
def mx0 (L : List Int) : Int := L.foldl (fun m x => if m < x then x else m) 0
theorem mx0_succ {L : List Int} {k : Nat} (h : k < L.length) : mx0 (L.take (k + 1)) = if mx0 (L.take k) < L[k] then L[k] else mx0 (L.take k) := by
  unfold mx0
  rw [List.take_add_one, List.getElem?_eq_getElem h, List.foldl_append]
  rfl
theorem mx0_in (L : List Int) : ∀ k, k ≤ L.length → (mx0 (L.take k) = 0 ∨ mx0 (L.take k) ∈ L) ∧ 0 ≤ mx0 (L.take k) ∧ ∀ j, j < k → ∀ h : j < L.length, L[j] ≤ mx0 (L.take k)
  | 0, _ => ⟨.inl rfl, Int.le_refl _, fun j hj => absurd hj (Nat.not_lt_zero _)⟩
  | k + 1, hk => by
    obtain ⟨h1, h2, h3⟩ := mx0_in L k (by omega)
    have h := mx0_succ (L := L) (k := k) (by omega)
    by_cases g : mx0 (L.take k) < L[k]
    · rw [if_pos g] at h
      rw [h]
      refine ⟨.inr (List.getElem_mem _), by omega, fun j hj hl => ?_⟩
      by_cases e : j = k
      · subst e; exact Int.le_refl _
      · have := h3 j (by omega) hl
        omega
    · rw [if_neg g] at h
      rw [h]
      refine ⟨h1, h2, fun j hj hl => ?_⟩
      by_cases e : j = k
      · subst e; omega
      · exact h3 j (by omega) hl
theorem mx0_max {L : List Int} (h0 : 0 < L.length) (hp : ∀ x ∈ L, 0 ≤ x) : mx0 L = maxA L := by
  obtain ⟨h1, h2, h3⟩ := mx0_in L L.length (Nat.le_refl _)
  rw [List.take_length] at h1 h2 h3
  obtain ⟨j, hj, e⟩ := List.getElem_of_mem (maxA_mem h0)
  have h4 := h3 j hj hj
  rw [e] at h4
  rcases h1 with h1 | h1
  · have := hp _ (maxA_mem h0)
    omega
  · have := maxA_ge h1
    omega
theorem ivN_pos (S : List Nat) : ∀ x ∈ ivN S, 0 ≤ x := fun x hx => by
  unfold ivN at hx
  obtain ⟨n, _, rfl⟩ := List.mem_map.1 hx
  omega
set_option maxRecDepth 20000 in
set_option maxHeartbeats 2000000 in
theorem xspoilt_any (c : Cn) (K : Kq) (S : Rs) (xa : Option Addr) (xc : Nat) (da : Option Addr) (dc : Nat) (ua : Option Addr) (uc : Nat) (w : World) (hl : RowI w (.slice ua S.u.length uc) (ivN S.u)) (h0 : 0 < S.u.length) (hm : S.u.length ≤ 1000) :
    Calls Tryz.prog 50 #[.agg #[.int .i64 (c.R : Int), .int .i64 (c.L : Int), .int .i64 c.A, .int .i64 c.B, .int .i64 c.K, .int .i64 c.A2, .int .i64 c.B2, .slice xa S.x.1.length xc, .bool S.x.2, .pointer (some ⟨K.b, 0, none⟩), .slice da S.d.length dc, .slice ua S.u.length uc, .int .i64 (S.k : Nat)]] w fun e w' => e = .returned (.int .i64 (maxA (ivN S.u))) ∧ Below w.heap.size w w' := by
  have hll := ivN_len S.u
  have HMX := hid (mx0_max (L := ivN S.u) (by omega) (ivN_pos _))
  have BX := hid (box1_start (w := w) (A := #[.int .i64 (c.R : Int), .int .i64 (c.L : Int), .int .i64 c.A, .int .i64 c.B, .int .i64 c.K, .int .i64 c.A2, .int .i64 c.B2, .slice xa S.x.1.length xc, .bool S.x.2, .pointer (some ⟨K.b, 0, none⟩), .slice da S.d.length dc, .slice ua S.u.length uc, .int .i64 (S.k : Nat)]) (T := 73) (fz := (0, 0)))
  obtain ⟨b, o, cap, hv, hc⟩ := hl.some (by omega)
  injection hv with e1 e2 e3
  subst e1
  subst e3
  clear e2
  have HC := hid (fun w1 (g : Below w.heap.size w w1) j h => keep_cell g (hc j h))
  clear hc hl
  obtain ⟨n, hn⟩ : ∃ n, n = S.u.length := ⟨_, rfl⟩
  rw [← hn] at BX h0 hm hll ⊢
  have x11 := BX.out.fst 11
  simp only [List.getElem?_toArray, List.getElem?_cons_zero, List.getElem?_cons_succ] at x11
  rw [← hll] at x11 h0 hm
  clear hn
  generalize ivN S.u = L at *
  subst hll
  go_enter Tryz.func50, Tryz.ntmps50
  go_wp2_with fail
  go_loopw [3, 4] (fun p i wr => ∃ (k : Nat) (m : Int), k ≤ L.length ∧ p = .int .i64 m ∧ i = .int .i64 (k : Int) ∧ Hid (mx0 (L.take k) = m) ∧ Hid (Box1 w wr #[.int .i64 (c.R : Int), .int .i64 (c.L : Int), .int .i64 c.A, .int .i64 c.B, .int .i64 c.K, .int .i64 c.A2, .int .i64 c.B2, .slice xa S.x.1.length xc, .bool S.x.2, .pointer (some ⟨K.b, 0, none⟩), .slice da S.d.length dc, .slice (some ⟨b, o, none⟩) L.length uc, .int .i64 (S.k : Nat)])) (fun _ i _ => L.length - (intOf i).toNat)
  case atStart => exact ⟨0, 0, Nat.zero_le _, rfl, rfl, rfl, BX⟩
  case round =>
    obtain ⟨k, m, hk, rfl, rfl, HB, BX⟩ := hrel
    clear x11
    have x11 := BX.out.fst 11
    simp only [List.getElem?_toArray, List.getElem?_cons_zero, List.getElem?_cons_succ] at x11
    by_cases hlt : k < L.length
    · have ex := HC.out _ BX.out.low k hlt
      have HST := hid (mx0_succ hlt)
      rw [HB.out] at HST
      by_cases he : m < L[k]
      · rw [if_pos he] at HST
        generalize L[k] = s at ex he HST
        go_wp2_with fail
        go_roundw
        case rel => exact ⟨k + 1, s, by omega, rfl, by go_num, HST, BX⟩
        case measure => simp [intOf]; omega
      · rw [if_neg he] at HST
        generalize L[k] = s at ex he
        go_wp2_with fail
        go_roundw
        case rel => exact ⟨k + 1, m, by omega, rfl, by go_num, HST, BX⟩
        case measure => simp [intOf]; omega
    · obtain rfl : k = L.length := by omega
      rw [List.take_length] at HB
      go_wp2_with fail
      go_ret
      exact ⟨ret_int (by rw [← HMX.out, HB.out]), BX.out.low⟩
theorem field_run5 (x0 x1 x2 x3 x4 x5 x6 x7 x8 x9 x10 x11 x12 : Value) (W : World) : (Instr.field 73 (.agg #[x0, x1, x2, x3, x4, x5, x6, x7, x8, x9, x10, x11, x12]) 5).run Tryz.prog W = .ok x12 W := by kernel_rfl
theorem rs_up {c : Cn} {K : Kq} {s : ByteArray} {r d g t : Int} {Z : Nat} (p : List Int) (he : K.s = s ∧ K.r = r ∧ K.Z = Z ∧ K.d = d ∧ K.g = g) : (rsR c K.f K.u (rs0 c t) p).u = (dishR c (Lt.up r Z) (dish0 c t) p).2 := by
  obtain ⟨_, e1, e2, _, _⟩ := he
  rw [← e1, ← e2]
  exact congrArg Prod.snd (rsR_u c K.f K.u p (rs0 c t))
theorem rs_k (c : Cn) (f g : Int → Nat) (t : Int) (p : List Int) : ∀ k, k ≤ p.length → (rsR c f g (rs0 c t) (p.take k)).k = Lt.sumL f (tellN (fun y => minT y.1) c (evB c t) p k)
  | 0, _ => rfl
  | k + 1, hk => by
    have ih := rs_k c f g t p k (by omega)
    have e2 : (rsR c f g (rs0 c t) (p.take k)).x = runS c (evB c t) (p.take k) := by
      rw [show (rsR c f g (rs0 c t) (p.take k)).x = (dishR c f (dish0 c t) (p.take k)).1 from congrArg Prod.fst (rsR_d c f g _ (rs0 c t)), dishR_body]
      rfl
    have e : runS c (evB c t) (p.take (k + 1)) = tickS c (runS c (evB c t) (p.take k)) p[k] := runS_succ c _ p k hk
    rw [rsR_succ c f g _ p k hk, tellN_succ, sumL_snoc, ← ih, e, ← e2]
    rfl
theorem rs_cold {c : Cn} {K : Kq} {s : ByteArray} {r d g t : Int} {Z : Nat} (p : List Int) (he : K.s = s ∧ K.r = r ∧ K.Z = Z ∧ K.d = d ∧ K.g = g) : (rsR c K.f K.u (rs0 c t) p).k = Lt.sumL (Lt.dn r Z) (coldL c t p) := by
  obtain ⟨_, e1, e2, _, _⟩ := he
  rw [← e1, ← e2]
  have := rs_k c K.f K.u t p p.length (Nat.le_refl _)
  rw [List.take_length] at this
  exact this
set_option maxRecDepth 100000 in
set_option maxHeartbeats 4000000 in
theorem xbyc_ok (c : Cn) (s : ByteArray) (r d g t : Int) (Z : Nat) (v : Value) (p : List Int) (w : World) (hs : s.size ≤ maxLen) (hcv : c.V) (hv : Lt.validB s.data.toList r Z d g = true) (ho : okT t = true) (hop : okL p = true) (hlen : p.length ≤ 2000) (hl : RowI w v p) :
    Calls Tryz.prog 19 #[.agg #[.int .i64 (c.R : Int), .int .i64 (c.L : Int), .int .i64 c.A, .int .i64 c.B, .int .i64 c.K, .int .i64 c.A2, .int .i64 c.B2], .agg #[.string s, .int .i64 r, .int .i64 (Z : Int), .int .i64 d, .int .i64 g], .int .i64 t, v] w (IntE ((Lt.sumL (Lt.dn r Z) (coldL c t p) : Nat)) 0 w) := by
  have HX := hid (box2_start (w := w) (A := #[.int .i64 (c.R : Int), .int .i64 (c.L : Int), .int .i64 c.A, .int .i64 c.B, .int .i64 c.K, .int .i64 c.A2, .int .i64 c.B2]) (B := #[.string s, .int .i64 r, .int .i64 (Z : Int), .int .i64 d, .int .i64 g]) (T := 23) (T' := 25) (fz := (0, 0)) (fz' := (0, 0)))
  obtain ⟨a0, cap, rfl⟩ := hl.shape
  have HL := hid hl
  have hcan : canB (c.R : Int) c.L c.A c.B c.K c.A2 c.B2 = true := hcv
  have hch : chk4 (canB (c.R : Int) c.L c.A c.B c.K c.A2 c.B2) (Kl.vB ⟨s, r, Z, d, g⟩) t p = 0 := by
    refine chk4_ok ?_ ?_ (by omega)
    · rw [hcan, show Kl.vB ⟨s, r, Z, d, g⟩ = true from hv]; rfl
    · rw [ho, hop]; rfl
  have HC : Hid (∀ W, RowI W (.slice a0 p.length cap) p → Calls Tryz.prog 38 #[.agg #[.int .i64 (c.R : Int), .int .i64 (c.L : Int), .int .i64 c.A, .int .i64 c.B, .int .i64 c.K, .int .i64 c.A2, .int .i64 c.B2], .agg #[.string s, .int .i64 r, .int .i64 (Z : Int), .int .i64 d, .int .i64 g], .int .i64 t, .slice a0 p.length cap] W fun e w' => e = .returned (.int .i64 0) ∧ Below W.heap.size W w') := fun W h => by
    have := xasked_any c.R c.L c.A c.B c.K c.A2 c.B2 W ⟨s, r, Z, d, g⟩ t (.slice a0 p.length cap) p hs h (by unfold maxLen; omega)
    rwa [hch] at this
  have HBG := hid (fun W => xbegun_any c s r d g t Z W hs hcv)
  have HTH := hid (fun (K : Kq) (hV : K.V) xa xc da dc ua uc W hR hK h => xthrough_any c K (rs0 c t) (.slice a0 p.length cap) p xa xc da dc ua uc W hcv.ok hV (rs0_good ho) hop hR hK h (by omega))
  have HVV := hid hv
  have hfr := field_run5
  clear hcan hch hlen hop ho hv hcv hs hl
  go_enter Tryz.func19, Tryz.ntmps19
  go_wp2_with fail
  refine (HC.out _ (HL.out.keep HX.out.low)).mono ?_
  rintro e w0 ⟨rfl, hb⟩
  have HX := hid (HX.out.keep hb)
  clear hb
  have t0 := HX.out.fst 0; have t1 := HX.out.fst 1; have t2 := HX.out.fst 2; have t3 := HX.out.fst 3; have t4 := HX.out.fst 4; have t5 := HX.out.fst 5; have t6 := HX.out.fst 6
  have x0 := HX.out.snd 0; have x1 := HX.out.snd 1; have x2 := HX.out.snd 2; have x3 := HX.out.snd 3; have x4 := HX.out.snd 4
  simp only [List.getElem?_toArray, List.getElem?_cons_zero, List.getElem?_cons_succ] at t0 t1 t2 t3 t4 t5 t6 x0 x1 x2 x3 x4
  go_wp2_with fail
  refine (HBG.out _).mono ?_
  rintro e w1 ⟨K, he, hwF, hb, hwb, xa, xc, da, dc, ua, uc, rfl, hrows, hk, hst⟩
  have HX1 := hid (HX.out.keep hb)
  have hlt := Kq.lt hk
  have HBT := hid (rowK_old (gD := K.gD) (gU := K.gU) HL.out HX1.out.low (by have := HX.out.low.size; omega) (by have := HX.out.low.size; omega))
  have HRW := hid hrows
  have HKK := hid hk
  have HEQ := hid he
  have HWF := hid hwF
  clear hb hwb hlt hrows hk hst he hwF t0 t1 t2 t3 t4 t5 t6 x0 x1 x2 x3 x4
  go_wp2_with fail
  refine (HTH.out K (kq_V HEQ.out HVV.out) xa xc da dc ua uc _ HRW.out HKK.out HBT.out).mono ?_
  rintro e w2 ⟨ya, yc, ea, ec, ga, gc, rfl, hr2, hk2, hs2⟩
  have hlow := Kq.low hk2
  rw [HWF.out] at hlow
  have HX2 := hid (HX.out.keep hlow)
  have HR2 := hid hr2
  have HSM := hid (rs_cold (c := c) (t := t) p HEQ.out)
  clear hlow hr2 hk2 hs2
  generalize rsR c K.f K.u (rs0 c t) p = S' at *
  go_wp2_with fail
  refine bodyPost_ret (v := .tuple #[.int .i64 (S'.k : Nat), .int .i64 0]) (by simp [results, Tryz.results19, go_sem]) rfl ⟨?_, HX2.out.low⟩
  rw [HSM.out]
set_option maxRecDepth 20000 in
set_option maxHeartbeats 4000000 in
theorem xbyc_err (r l a b k a2 b2 : Int) (w : World) (q : Kl) (t : Int) (v : Value) (p : List Int) (hs : q.s.size ≤ maxLen) (hl : RowI w v p) (hpm : p.length ≤ maxLen) (hne : chk4 (canB r l a b k a2 b2) q.vB t p ≠ 0) :
    Calls Tryz.prog 19 #[.agg #[.int .i64 r, .int .i64 l, .int .i64 a, .int .i64 b, .int .i64 k, .int .i64 a2, .int .i64 b2], .agg #[.string q.s, .int .i64 q.r, .int .i64 q.z, .int .i64 q.d, .int .i64 q.g], .int .i64 t, v] w (IntE 0 (chk4 (canB r l a b k a2 b2) q.vB t p) w) := by
  have HX := hid (box2_start (w := w) (A := #[.int .i64 r, .int .i64 l, .int .i64 a, .int .i64 b, .int .i64 k, .int .i64 a2, .int .i64 b2]) (B := #[.string q.s, .int .i64 q.r, .int .i64 q.z, .int .i64 q.d, .int .i64 q.g]) (T := 23) (T' := 25) (fz := (0, 0)) (fz' := (0, 0)))
  have HL := hid (fun w1 (g : Below w.heap.size w w1) => hl.keep g)
  obtain ⟨a0, cap, rfl⟩ := hl.shape
  have HC := hid (fun W h => xasked_any r l a b k a2 b2 W q t (.slice a0 p.length cap) p hs h hpm)
  generalize chk4 (canB r l a b k a2 b2) q.vB t p = ce at *
  have hc1 : (ce != 0) = true := by simpa using hne
  clear hl hs hpm hne
  go_enter Tryz.func19, Tryz.ntmps19
  go_wp2_with fail
  refine (HC.out _ (HL.out _ HX.out.low)).mono ?_
  rintro e w1 ⟨rfl, hb⟩
  have HX := hid (HX.out.keep hb)
  clear hb
  go_wp2_with fail
  go_ret2
  exact ⟨rfl, HX.out.low⟩
theorem xbyc_any (r l a b k a2 b2 : Int) (w : World) (q : Kl) (t : Int) (v : Value) (p : List Int) (hs : q.s.size ≤ maxLen) (hl : RowI w v p) (hpm : p.length ≤ maxLen) :
    Calls Tryz.prog 19 #[.agg #[.int .i64 r, .int .i64 l, .int .i64 a, .int .i64 b, .int .i64 k, .int .i64 a2, .int .i64 b2], .agg #[.string q.s, .int .i64 q.r, .int .i64 q.z, .int .i64 q.d, .int .i64 q.g], .int .i64 t, v] w (IntE (bycO r l a b k a2 b2 q t p) (chk4 (canB r l a b k a2 b2) q.vB t p) w) := by
  by_cases h : chk4 (canB r l a b k a2 b2) q.vB t p = 0
  · obtain ⟨c, Z, hcv, rfl, rfl, rfl, rfl, rfl, rfl, rfl, hz, hv, ho, hop, hlen⟩ := canB_open h
    have hso : bycO c.R c.L c.A c.B c.K c.A2 c.B2 q t p = (Lt.sumL (Lt.dn q.r Z) (coldL c t p) : Nat) := by
      unfold bycO; rw [if_pos h, cnOf_cn, hz, Int.toNat_natCast]
    rw [hso, h, hz]
    exact xbyc_ok c q.s q.r q.d q.g t Z v p w hs hcv hv ho hop hlen hl
  · rw [bycO_no h]
    exact xbyc_err r l a b k a2 b2 w q t v p hs hl hpm h
set_option maxRecDepth 100000 in
set_option maxHeartbeats 4000000 in
theorem xspoil_ok (c : Cn) (s : ByteArray) (r d g t : Int) (Z : Nat) (v : Value) (p : List Int) (w : World) (hs : s.size ≤ maxLen) (hcv : c.V) (hv : Lt.validB s.data.toList r Z d g = true) (ho : okT t = true) (hop : okL p = true) (hlen : p.length ≤ 2000) (hl : RowI w v p) :
    Calls Tryz.prog 21 #[.agg #[.int .i64 (c.R : Int), .int .i64 (c.L : Int), .int .i64 c.A, .int .i64 c.B, .int .i64 c.K, .int .i64 c.A2, .int .i64 c.B2], .agg #[.string s, .int .i64 r, .int .i64 (Z : Int), .int .i64 d, .int .i64 g], .int .i64 t, v] w (IntE (maxA (ivN (dishR c (Lt.up r Z) (dish0 c t) p).2)) 0 w) := by
  have HX := hid (box2_start (w := w) (A := #[.int .i64 (c.R : Int), .int .i64 (c.L : Int), .int .i64 c.A, .int .i64 c.B, .int .i64 c.K, .int .i64 c.A2, .int .i64 c.B2]) (B := #[.string s, .int .i64 r, .int .i64 (Z : Int), .int .i64 d, .int .i64 g]) (T := 23) (T' := 25) (fz := (0, 0)) (fz' := (0, 0)))
  obtain ⟨a0, cap, rfl⟩ := hl.shape
  have HL := hid hl
  have hcan : canB (c.R : Int) c.L c.A c.B c.K c.A2 c.B2 = true := hcv
  have hch : chk4 (canB (c.R : Int) c.L c.A c.B c.K c.A2 c.B2) (Kl.vB ⟨s, r, Z, d, g⟩) t p = 0 := by
    refine chk4_ok ?_ ?_ (by omega)
    · rw [hcan, show Kl.vB ⟨s, r, Z, d, g⟩ = true from hv]; rfl
    · rw [ho, hop]; rfl
  have HC : Hid (∀ W, RowI W (.slice a0 p.length cap) p → Calls Tryz.prog 38 #[.agg #[.int .i64 (c.R : Int), .int .i64 (c.L : Int), .int .i64 c.A, .int .i64 c.B, .int .i64 c.K, .int .i64 c.A2, .int .i64 c.B2], .agg #[.string s, .int .i64 r, .int .i64 (Z : Int), .int .i64 d, .int .i64 g], .int .i64 t, .slice a0 p.length cap] W fun e w' => e = .returned (.int .i64 0) ∧ Below W.heap.size W w') := fun W h => by
    have := xasked_any c.R c.L c.A c.B c.K c.A2 c.B2 W ⟨s, r, Z, d, g⟩ t (.slice a0 p.length cap) p hs h (by unfold maxLen; omega)
    rwa [hch] at this
  have HBG := hid (fun W => xbegun_any c s r d g t Z W hs hcv)
  have HTH := hid (fun (K : Kq) (hV : K.V) xa xc da dc ua uc W hR hK h => xthrough_any c K (rs0 c t) (.slice a0 p.length cap) p xa xc da dc ua uc W hcv.ok hV (rs0_good ho) hop hR hK h (by omega))
  have HVV := hid hv
  have HGD := hid (fun K : Kq => (rs0_good ho).run (f := K.f) (g := K.u) hcv.ok hop)
  have HPB := hid hcv.ok.p
  clear hcan hch hlen hop ho hv hcv hs hl
  go_enter Tryz.func21, Tryz.ntmps21
  go_wp2_with fail
  refine (HC.out _ (HL.out.keep HX.out.low)).mono ?_
  rintro e w0 ⟨rfl, hb⟩
  have HX := hid (HX.out.keep hb)
  clear hb
  have t0 := HX.out.fst 0; have t1 := HX.out.fst 1; have t2 := HX.out.fst 2; have t3 := HX.out.fst 3; have t4 := HX.out.fst 4; have t5 := HX.out.fst 5; have t6 := HX.out.fst 6
  have x0 := HX.out.snd 0; have x1 := HX.out.snd 1; have x2 := HX.out.snd 2; have x3 := HX.out.snd 3; have x4 := HX.out.snd 4
  simp only [List.getElem?_toArray, List.getElem?_cons_zero, List.getElem?_cons_succ] at t0 t1 t2 t3 t4 t5 t6 x0 x1 x2 x3 x4
  go_wp2_with fail
  refine (HBG.out _).mono ?_
  rintro e w1 ⟨K, he, hwF, hb, hwb, xa, xc, da, dc, ua, uc, rfl, hrows, hk, hst⟩
  have HX1 := hid (HX.out.keep hb)
  have hlt := Kq.lt hk
  have HBT := hid (rowK_old (gD := K.gD) (gU := K.gU) HL.out HX1.out.low (by have := HX.out.low.size; omega) (by have := HX.out.low.size; omega))
  have HRW := hid hrows
  have HKK := hid hk
  have HEQ := hid he
  have HWF := hid hwF
  clear hb hwb hlt hrows hk hst he hwF t0 t1 t2 t3 t4 t5 t6 x0 x1 x2 x3 x4
  go_wp2_with fail
  refine (HTH.out K (kq_V HEQ.out HVV.out) xa xc da dc ua uc _ HRW.out HKK.out HBT.out).mono ?_
  rintro e w2 ⟨ya, yc, ea, ec, ga, gc, rfl, hr2, hk2, hs2⟩
  have hlow := Kq.low hk2
  rw [HWF.out] at hlow
  have HX2 := hid (HX.out.keep hlow)
  have HR2 := hid hr2
  have HSM := hid (rs_up (c := c) (t := t) p HEQ.out)
  clear hlow hr2 hk2 hs2
  have HLN := hid (show (rsR c K.f K.u (rs0 c t) p).u.length = c.P from (HGD.out K).up.len)
  go_wp2_with fail
  refine (xspoilt_any c K (rsR c K.f K.u (rs0 c t) p) ya yc ea ec ga gc _ HR2.out.tu.row (by rw [HLN.out]; exact HPB.out.1) (by rw [HLN.out]; have := HPB.out.2; omega)).mono ?_
  rintro e w3 ⟨rfl, hb⟩
  have HX3 := hid (HX2.out.keep hb)
  clear hb
  rw [HSM.out]
  go_wp2_with fail
  go_ret2
  exact ⟨rfl, HX3.out.low⟩
set_option maxRecDepth 20000 in
set_option maxHeartbeats 4000000 in
theorem xspoil_err (r l a b k a2 b2 : Int) (w : World) (q : Kl) (t : Int) (v : Value) (p : List Int) (hs : q.s.size ≤ maxLen) (hl : RowI w v p) (hpm : p.length ≤ maxLen) (hne : chk4 (canB r l a b k a2 b2) q.vB t p ≠ 0) :
    Calls Tryz.prog 21 #[.agg #[.int .i64 r, .int .i64 l, .int .i64 a, .int .i64 b, .int .i64 k, .int .i64 a2, .int .i64 b2], .agg #[.string q.s, .int .i64 q.r, .int .i64 q.z, .int .i64 q.d, .int .i64 q.g], .int .i64 t, v] w (IntE 0 (chk4 (canB r l a b k a2 b2) q.vB t p) w) := by
  have HX := hid (box2_start (w := w) (A := #[.int .i64 r, .int .i64 l, .int .i64 a, .int .i64 b, .int .i64 k, .int .i64 a2, .int .i64 b2]) (B := #[.string q.s, .int .i64 q.r, .int .i64 q.z, .int .i64 q.d, .int .i64 q.g]) (T := 23) (T' := 25) (fz := (0, 0)) (fz' := (0, 0)))
  have HL := hid (fun w1 (g : Below w.heap.size w w1) => hl.keep g)
  obtain ⟨a0, cap, rfl⟩ := hl.shape
  have HC := hid (fun W h => xasked_any r l a b k a2 b2 W q t (.slice a0 p.length cap) p hs h hpm)
  generalize chk4 (canB r l a b k a2 b2) q.vB t p = ce at *
  have hc1 : (ce != 0) = true := by simpa using hne
  clear hl hs hpm hne
  go_enter Tryz.func21, Tryz.ntmps21
  go_wp2_with fail
  refine (HC.out _ (HL.out _ HX.out.low)).mono ?_
  rintro e w1 ⟨rfl, hb⟩
  have HX := hid (HX.out.keep hb)
  clear hb
  go_wp2_with fail
  go_ret2
  exact ⟨rfl, HX.out.low⟩
theorem xspoil_any (r l a b k a2 b2 : Int) (w : World) (q : Kl) (t : Int) (v : Value) (p : List Int) (hs : q.s.size ≤ maxLen) (hl : RowI w v p) (hpm : p.length ≤ maxLen) :
    Calls Tryz.prog 21 #[.agg #[.int .i64 r, .int .i64 l, .int .i64 a, .int .i64 b, .int .i64 k, .int .i64 a2, .int .i64 b2], .agg #[.string q.s, .int .i64 q.r, .int .i64 q.z, .int .i64 q.d, .int .i64 q.g], .int .i64 t, v] w (IntE (spoO r l a b k a2 b2 q t p) (chk4 (canB r l a b k a2 b2) q.vB t p) w) := by
  by_cases h : chk4 (canB r l a b k a2 b2) q.vB t p = 0
  · obtain ⟨c, Z, hcv, rfl, rfl, rfl, rfl, rfl, rfl, rfl, hz, hv, ho, hop, hlen⟩ := canB_open h
    have hso : spoO c.R c.L c.A c.B c.K c.A2 c.B2 q t p = maxA (ivN (dishR c (Lt.up q.r Z) (dish0 c t) p).2) := by
      unfold spoO; rw [if_pos h, cnOf_cn, hz, Int.toNat_natCast]
    rw [hso, h, hz]
    exact xspoil_ok c q.s q.r q.d q.g t Z v p w hs hcv hv ho hop hlen hl
  · rw [spoO_no h]
    exact xspoil_err r l a b k a2 b2 w q t v p hs hl hpm h
end Go.Proofs.YtedfajokiblfhaaGreat

/- Plain facts: the coldest places' sum, the lethality and what spoils. -/
namespace Go.Proofs.YtedfajokiblfhaaGreat
open Go.RowKit Go.Lib

theorem told_le {F G : Bd → Int} {f g : Int → Nat} {c : Cn} {x : Bd} {l : List Int} : ∀ n, (∀ k, k < n → f (F (runS c x (l.take (k + 1)))) ≤ g (G (runS c x (l.take (k + 1))))) → Lt.sumL f (tellN F c x l n) ≤ Lt.sumL g (tellN G c x l n)
  | 0, _ => Nat.le_refl _
  | n + 1, h => by
    rw [tellN_succ, tellN_succ, sumL_snoc, sumL_snoc]
    exact cutN_mono (told_le n fun k hk => h k (by omega)) (h n (by omega))
theorem dn_up {r : Int} {Z : Nat} (hz : 1 ≤ (Z : Int)) (x : Int) : Lt.dn r Z x ≤ Lt.up r Z x := by
  have h1 : x / 250 ≤ Lt.qUp x := by unfold Lt.qUp; split <;> omega
  have h2 : Lt.Pm.rateD r Z (x / 250) ≤ Lt.Pm.rateD r Z (Lt.qUp x) := Lt.Pm.rateD_mono hz h1
  have h3 : Lt.Pm.rateD r Z (Lt.qUp x) ≤ Lt.Pm.rateU r Z (Lt.qUp x) := by
    rw [Lt.Pm.rateU_eq]
    split <;> omega
  exact Nat.le_trans h2 h3
theorem ivN_at0 {S : List Nat} {i : Nat} (h : i < (ivN S).length) : (ivN S)[i] = ((S.getD i 0 : Nat) : Int) := by
  have h' : i < S.length := by rwa [ivN_len] at h
  simp [ivN, List.getD, h']
theorem body_at {c : Cn} {t : Int} {p : List Int} (hc : c.Ok) (ho : okT t = true) (hop : okL p = true) (k : Nat) : bodyV c (runS c (evB c t) (p.take k)).1 (runS c (evB c t) (p.take k)).2 = true :=
  body_run hc (evB_valid ho) (List.all_eq_true.2 fun x hx => List.all_eq_true.1 hop x (List.mem_of_mem_take hx))
theorem place_all {c : Cn} {f : Int → Nat} {t : Int} {p : List Int} (hc : c.Ok) (ho : okT t = true) (hop : okL p = true) {i : Nat} (hi : i < c.P) :
    (dishR c f (dish0 c t) p).2.getD i 0 = Lt.sumL f (tellN (fun y => y.1.getD i 0) c (evB c t) p p.length) := by
  have := place_sum (f := f) hc ho hop hi p.length (Nat.le_refl _)
  rwa [List.take_length] at this
theorem cold_facts {r l a b k a2 b2 : Int} {q : Kl} {t : Int} {p : List Int} (h : chk4 (canB r l a b k a2 b2) q.vB t p = 0) :
    bycO r l a b k a2 b2 q t p ≤ lowO (sumsO r l a b k a2 b2 q t p) ∧ lowO (sumsO r l a b k a2 b2 q t p) ≤ spoO r l a b k a2 b2 q t p ∧
    (((plcs r l a b k a2 b2 : Nat) : Int) == 1 → bycO r l a b k a2 b2 q t p = lowO (sumsO r l a b k a2 b2 q t p)) := by
  obtain ⟨c, Z, hcv, rfl, rfl, rfl, rfl, rfl, rfl, rfl, hz, hv, ho, hop, hlen⟩ := canB_open h
  have hz1 : 1 ≤ (Z : Int) := (Lt.validB_iff.1 hv).2.2.1.1
  have hc := hcv.ok
  have hcan : canB (c.R : Int) c.L c.A c.B c.K c.A2 c.B2 = true := hcv
  have hP := hc.p
  rw [sumsO_cn hz h]
  have e1 : bycO c.R c.L c.A c.B c.K c.A2 c.B2 q t p = (Lt.sumL (Lt.dn q.r Z) (coldL c t p) : Nat) := by
    unfold bycO; rw [if_pos h, cnOf_cn, hz, Int.toNat_natCast]
  have e2 : spoO c.R c.L c.A c.B c.K c.A2 c.B2 q t p = maxA (ivN (dishR c (Lt.up q.r Z) (dish0 c t) p).2) := by
    unfold spoO; rw [if_pos h, cnOf_cn, hz, Int.toNat_natCast]
  have e3 : plcs c.R c.L c.A c.B c.K c.A2 c.B2 = c.P := by unfold plcs; rw [if_pos hcan, cnOf_cn]
  rw [e1, e2, e3]
  show _ ≤ lowO (dishR c (Lt.dn q.r Z) (dish0 c t) p).2 ∧ lowO (dishR c (Lt.dn q.r Z) (dish0 c t) p).2 ≤ _ ∧ (_ → _ = lowO (dishR c (Lt.dn q.r Z) (dish0 c t) p).2)
  have hS : (dishR c (Lt.dn q.r Z) (dish0 c t) p).2.length = c.P := ((dish0_good ho).run hc hop).len
  have hU : (dishR c (Lt.up q.r Z) (dish0 c t) p).2.length = c.P := ((dish0_good ho).run hc hop).len
  have hpS : ∀ i, i < c.P → (dishR c (Lt.dn q.r Z) (dish0 c t) p).2.getD i 0 = _ := fun i hi => place_all hc ho hop hi
  have hpU := place_all (f := Lt.up q.r Z) hc ho hop (i := 0) (by omega)
  generalize (dishR c (Lt.dn q.r Z) (dish0 c t) p).2 = S at *
  generalize (dishR c (Lt.up q.r Z) (dish0 c t) p).2 = U at *
  have hne : S ≠ [] := fun e => by rw [e] at hS; simp at hS; omega
  have hlo : lowO S = minA (ivN S) := by unfold lowO; rw [if_neg hne]
  rw [hlo]
  have hls : (ivN S).length = c.P := by rw [ivN_len]; exact hS
  have hlu : (ivN U).length = c.P := by rw [ivN_len]; exact hU
  have hmem := minA_mem (ds := ivN S) (by omega)
  have h0 : minA (ivN S) ≤ (ivN S)[0]'(by omega) := minA_le (List.getElem_mem _)
  have h1 : (ivN U)[0]'(by omega) ≤ maxA (ivN U) := maxA_ge (List.getElem_mem _)
  rw [ivN_at0, hpS 0 (by omega)] at h0
  rw [ivN_at0, hpU] at h1
  have hcold : ∀ i, i < c.P → Lt.sumL (Lt.dn q.r Z) (coldL c t p) ≤ Lt.sumL (Lt.dn q.r Z) (tellN (fun y => y.1.getD i 0) c (evB c t) p p.length) := fun i hi => by
    unfold coldL
    refine told_le _ fun k _ => ?_
    have hb := (bodyV_iff.1 (body_at (c := c) (t := t) (p := p) hc ho hop (k + 1))).1
    refine Lt.Pm.rateD_mono hz1 ?_
    have h4 : minT (runS c (evB c t) (p.take (k + 1))).1 ≤ (runS c (evB c t) (p.take (k + 1))).1.getD i 0 := by
      rw [getD_at (by rw [hb]; exact hi)]
      exact minT_le _ (List.getElem_mem _)
    try dsimp only at h4 ⊢
    omega
  refine ⟨?_, ?_, fun hst => ?_⟩
  · obtain ⟨i, hi, e⟩ := List.getElem_of_mem hmem
    rw [← e, ivN_at0, hpS i (by omega)]
    exact_mod_cast hcold i (by omega)
  · have h2 : Lt.sumL (Lt.dn q.r Z) (tellN (fun y => y.1.getD 0 0) c (evB c t) p p.length) ≤ Lt.sumL (Lt.up q.r Z) (tellN (fun y => y.1.getD 0 0) c (evB c t) p p.length) := told_le _ fun k _ => dn_up hz1 _
    omega
  · have hP1 : c.P = 1 := by
      have : ((c.P : Nat) : Int) = 1 := by simpa using hst
      omega
    have h3 : Lt.sumL (Lt.dn q.r Z) (tellN (fun y => y.1.getD 0 0) c (evB c t) p p.length) ≤ Lt.sumL (Lt.dn q.r Z) (coldL c t p) := by
      unfold coldL
      refine told_le _ fun k _ => ?_
      have hb := (bodyV_iff.1 (body_at (c := c) (t := t) (p := p) hc ho hop (k + 1))).1
      refine Nat.le_of_eq (congrArg _ ?_)
      have hm := minT_mem (runS c (evB c t) (p.take (k + 1))).1 (by omega)
      obtain ⟨j, hj, e⟩ := List.getElem_of_mem hm
      obtain rfl : j = 0 := by omega
      try dsimp only
      rw [← e, getD_at (by omega)]
    obtain ⟨i, hi, e⟩ := List.getElem_of_mem hmem
    have h4 := hcold 0 (by omega)
    obtain rfl : i = 0 := by omega
    rw [← e, ivN_at0, hpS 0 (by omega)]
    omega
end Go.Proofs.YtedfajokiblfhaaGreat

/- Walk of ProcessColdest. -/
namespace Go.Proofs.YtedfajokiblfhaaGreat
open Go.RowKit Go.Lib

set_option maxRecDepth 100000 in
set_option maxHeartbeats 8000000 in
theorem pcoldest_walk (r l a b k a2 b2 : Int) (q : Kl) (t : Int) (v : Value) (p : List Int) (w : World) (hs : q.s.size ≤ maxLen) (_ht : (Lit.int .i64 t).wf = true) (hl : RowI w v p) :
    Calls Tryz.prog 4 #[.agg #[.int .i64 r, .int .i64 l, .int .i64 a, .int .i64 b, .int .i64 k, .int .i64 a2, .int .i64 b2, .string q.s, .int .i64 q.r, .int .i64 q.z, .int .i64 q.d, .int .i64 q.g, .int .i64 t], v] w fun e w' => e = .returned (.bool true) ∧ Below w.heap.size w w' := by
  have BX := hid (box1_start (w := w) (A := #[.int .i64 r, .int .i64 l, .int .i64 a, .int .i64 b, .int .i64 k, .int .i64 a2, .int .i64 b2, .string q.s, .int .i64 q.r, .int .i64 q.z, .int .i64 q.d, .int .i64 q.g, .int .i64 t]) (T := 27) (fz := (0, 0)))
  have hpm : p.length ≤ maxLen := RowI.most hl
  obtain ⟨a0, cap, rfl⟩ := hl.shape
  have HSM := hid (fun W => small04_any r l a b k a2 b2 W a0 p.length cap hpm)
  have HBY := hid (fun W h => byc_any r l a b k a2 b2 W q t (.slice a0 p.length cap) p hs h hpm)
  have HXB := hid (fun W h => xbyc_any r l a b k a2 b2 W q t (.slice a0 p.length cap) p hs h hpm)
  have HSP := hid (fun W h => spoil_any r l a b k a2 b2 W q t (.slice a0 p.length cap) p hs h hpm)
  have HXS := hid (fun W h => xspoil_any r l a b k a2 b2 W q t (.slice a0 p.length cap) p hs h hpm)
  have HLE := hid (fun W h => leth_any r l a b k a2 b2 W q t (.slice a0 p.length cap) p hs h hpm)
  have HRS := hid (fun W => rstir_any r l a b k a2 b2 W)
  have HL := hid (fun w1 (g : Below w.heap.size w w1) => hl.keep g)
  have HCF := hid (fun h => cold_facts (r := r) (l := l) (a := a) (b := b) (k := k) (a2 := a2) (b2 := b2) (q := q) (t := t) (p := p) h)
  generalize slowO (sumsO r l a b k a2 b2 q t p) = sl at *
  generalize lowO (sumsO r l a b k a2 b2 q t p) = lw at *
  generalize bycO r l a b k a2 b2 q t p = by1 at *
  generalize spoO r l a b k a2 b2 q t p = sp at *
  generalize chk4 (canB r l a b k a2 b2) q.vB t p = ce at *
  generalize ((plcs r l a b k a2 b2 : Int) == 1) = st at *
  clear hs hl hpm
  go_enter Tryz.func4, Tryz.ntmps4
  obtain ⟨t0, t1, t2, t3, t4, t5, t6, t7, t8, t9, t10, t11, t12⟩ := BX.out.thirteen
  have hz := BX.out.sz
  go_wp2_with fail
  refine (HSM.out _).mono ?_
  rintro e w1 ⟨rfl, hb⟩
  have BX := hid (BX.out.keep hb); clear hb t0 t1 t2 t3 t4 t5 t6 t7 t8 t9 t10 t11 t12; obtain ⟨t0, t1, t2, t3, t4, t5, t6, t7, t8, t9, t10, t11, t12⟩ := BX.out.thirteen; have hz := BX.out.sz
  cases hsm : smallB r l p.length 80
  · go_wp2_with fail
    refine (lawake_any _).mono ?_
    rintro e w2 ⟨rfl, hb⟩
    have BX := hid (BX.out.keep hb)
    clear hb
    go_wp2_with fail
    go_ret
    exact ⟨rfl, BX.out.low⟩
  go_wp2_with fail
  refine (HBY.out _ (HL.out _ BX.out.low)).mono ?_
  rintro e w2 ⟨rfl, hb⟩
  have BX := hid (BX.out.keep hb); clear hb t0 t1 t2 t3 t4 t5 t6 t7 t8 t9 t10 t11 t12; obtain ⟨t0, t1, t2, t3, t4, t5, t6, t7, t8, t9, t10, t11, t12⟩ := BX.out.thirteen; have hz := BX.out.sz
  go_wp2_with fail
  refine (HXB.out _ (HL.out _ BX.out.low)).mono ?_
  rintro e w3 ⟨rfl, hb⟩
  have BX := hid (BX.out.keep hb); clear hb t0 t1 t2 t3 t4 t5 t6 t7 t8 t9 t10 t11 t12; obtain ⟨t0, t1, t2, t3, t4, t5, t6, t7, t8, t9, t10, t11, t12⟩ := BX.out.thirteen; have hz := BX.out.sz
  go_wp2_with fail
  refine (HSP.out _ (HL.out _ BX.out.low)).mono ?_
  rintro e w4 ⟨rfl, hb⟩
  have BX := hid (BX.out.keep hb); clear hb t0 t1 t2 t3 t4 t5 t6 t7 t8 t9 t10 t11 t12; obtain ⟨t0, t1, t2, t3, t4, t5, t6, t7, t8, t9, t10, t11, t12⟩ := BX.out.thirteen; have hz := BX.out.sz
  go_wp2_with fail
  refine (HXS.out _ (HL.out _ BX.out.low)).mono ?_
  rintro e w5 ⟨rfl, hb⟩
  have BX := hid (BX.out.keep hb); clear hb t0 t1 t2 t3 t4 t5 t6 t7 t8 t9 t10 t11 t12; obtain ⟨t0, t1, t2, t3, t4, t5, t6, t7, t8, t9, t10, t11, t12⟩ := BX.out.thirteen; have hz := BX.out.sz
  by_cases hce : ce = 0
  case neg =>
    have hc1 : (ce != 0) = true := by simpa using hce
    clear hce
    go_wp2_with fail
    refine (lawake_any _).mono ?_
    rintro e w6 ⟨rfl, hb⟩
    have BX := hid (BX.out.keep hb)
    clear hb
    go_wp2_with fail
    go_ret
    exact ⟨rfl, BX.out.low⟩
  obtain ⟨f1, f2, f3⟩ := HCF.out hce
  subst hce
  have HF3 := hid f3
  clear f3 HCF
  go_wp2_with fail
  refine (HLE.out _ (HL.out _ BX.out.low)).mono ?_
  rintro e w6 ⟨rfl, hb⟩
  have BX := hid (BX.out.keep hb); clear hb t0 t1 t2 t3 t4 t5 t6 t7 t8 t9 t10 t11 t12; obtain ⟨t0, t1, t2, t3, t4, t5, t6, t7, t8, t9, t10, t11, t12⟩ := BX.out.thirteen; have hz := BX.out.sz
  have d1 : decide (by1 ≤ lw) = true := by simpa using f1
  have d2 : decide (lw ≤ sp) = true := by simpa using f2
  clear f1 f2
  go_wp2_with fail
  refine (HRS.out _).mono ?_
  rintro e w7 ⟨rfl, hb⟩
  have BX := hid (BX.out.keep hb); clear hb t0 t1 t2 t3 t4 t5 t6 t7 t8 t9 t10 t11 t12; obtain ⟨t0, t1, t2, t3, t4, t5, t6, t7, t8, t9, t10, t11, t12⟩ := BX.out.thirteen; have hz := BX.out.sz
  cases st
  · go_wp2_with fail
    refine (lawake_any _).mono ?_
    rintro e w8 ⟨rfl, hb⟩
    have BX := hid (BX.out.keep hb)
    clear hb
    go_wp2_with fail
    go_ret
    exact ⟨rfl, BX.out.low⟩
  · have d3 : (by1 == lw) = true := by simpa using HF3.out rfl
    go_wp2_with fail
    refine (lawake_any _).mono ?_
    rintro e w8 ⟨rfl, hb⟩
    have BX := hid (BX.out.keep hb)
    clear hb
    go_wp2_with fail
    go_ret
    exact ⟨rfl, BX.out.low⟩
end Go.Proofs.YtedfajokiblfhaaGreat
