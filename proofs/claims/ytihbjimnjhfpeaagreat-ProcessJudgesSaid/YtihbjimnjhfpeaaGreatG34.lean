/- Texts of this seat, one behind the other. -/
import Derived.Test.YtihbjimnjhfpeaaGreatPef
import Derived.Test.YtihbjimnjhfpeaaGreatG21
import Derived.Test.YtihbjimnjhfpeaaGreatG32
/- Walks of the reference's asked, Places, Lethality, Sterile: contracts. -/
namespace Go.Proofs.YtihbjimnjhfpeaaGreat
open Go.RowKit Go.Lib

theorem okL_succ {p : List Int} {n : Nat} (h : n < p.length) : okL (p.take (n + 1)) = (okL (p.take n) && okT p[n]) := by
  unfold okL
  rw [List.take_add_one, List.getElem?_eq_getElem h, List.all_append]
  simp
set_option maxRecDepth 20000 in
set_option maxHeartbeats 4000000 in
theorem xasked_any (r l a b k a2 b2 : Int) (w : World) (q : Kl) (t : Int) (v : Value) (p : List Int) (hs : q.s.size ≤ maxLen) (hl : RowI w v p) (hpm : p.length ≤ maxLen) :
    Calls Tryz.prog 80 #[.agg #[.int .i64 r, .int .i64 l, .int .i64 a, .int .i64 b, .int .i64 k, .int .i64 a2, .int .i64 b2], .agg #[.string q.s, .int .i64 q.r, .int .i64 q.z, .int .i64 q.d, .int .i64 q.g], .int .i64 t, v] w fun e w' => e = .returned (.int .i64 (chk4 (canB r l a b k a2 b2) q.vB t p)) ∧ Below w.heap.size w w' := by
  have HX := hid (box2_start (w := w) (A := #[.int .i64 r, .int .i64 l, .int .i64 a, .int .i64 b, .int .i64 k, .int .i64 a2, .int .i64 b2]) (B := #[.string q.s, .int .i64 q.r, .int .i64 q.z, .int .i64 q.d, .int .i64 q.g]) (T := 23) (T' := 25) (fz := (0, 0)) (fz' := (0, 0)))
  obtain ⟨a0, b', o', cap, rfl, ha, hc, _⟩ := hl.form
  have HC := hid (fun W (g : Below w.heap.size w W) j (hj : j < p.length) => keep_cell g (hc j hj))
  have HA := hid ha
  have HS := hid hs
  have HV := hid (fun W => rvcan_any r l a b k a2 b2 W)
  have HQ : Hid (∀ W, Calls Tryz.prog 18 #[.agg #[.string q.s, .int .i64 q.r, .int .i64 q.z, .int .i64 q.d, .int .i64 q.g]] W fun e w' => e = .returned (.bool q.vB) ∧ Below W.heap.size W w') := fun W => Lt.rvalid_any q.s q.r q.z q.d q.g W hs
  clear hl ha hc hs
  unfold maxLen at hpm
  cases h1 : canB r l a b k a2 b2
  · have HE := hid (chk4_no (vc := false) (vk := q.vB) (t := t) (l := p) (by simp))
    rw [h1] at HV
    go_enter Tryz.func80, Tryz.ntmps80
    go_wp2_with fail
    refine (HV.out _).mono ?_
    rintro e w1 ⟨rfl, hb⟩
    have HX := hid (HX.out.keep hb)
    clear hb
    go_wp2_with fail
    go_ret
    exact ⟨ret_int HE.out.symm, HX.out.low⟩
  rw [h1] at HV
  cases h2 : q.vB
  · have HE := hid (chk4_no (vc := true) (vk := false) (t := t) (l := p) (by simp))
    rw [h2] at HQ
    go_enter Tryz.func80, Tryz.ntmps80
    go_wp2_with fail
    refine (HV.out _).mono ?_
    rintro e w1 ⟨rfl, hb⟩
    have HX := hid (HX.out.keep hb)
    clear hb
    have x0 := HX.out.snd 0; have x1 := HX.out.snd 1; have x2 := HX.out.snd 2; have x3 := HX.out.snd 3; have x4 := HX.out.snd 4
    simp only [List.getElem?_toArray, List.getElem?_cons_zero, List.getElem?_cons_succ] at x0 x1 x2 x3 x4
    go_wp2_with fail
    refine (HQ.out _).mono ?_
    rintro e w2 ⟨rfl, hb⟩
    have HX := hid (HX.out.keep hb)
    clear hb x0 x1 x2 x3 x4
    go_wp2_with fail
    go_ret
    exact ⟨ret_int HE.out.symm, HX.out.low⟩
  rw [h2] at HQ
  go_enter Tryz.func80, Tryz.ntmps80
  go_wp2_with fail
  refine (HV.out _).mono ?_
  rintro e w1 ⟨rfl, hb⟩
  have HX := hid (HX.out.keep hb)
  clear hb
  have x0 := HX.out.snd 0; have x1 := HX.out.snd 1; have x2 := HX.out.snd 2; have x3 := HX.out.snd 3; have x4 := HX.out.snd 4
  simp only [List.getElem?_toArray, List.getElem?_cons_zero, List.getElem?_cons_succ] at x0 x1 x2 x3 x4
  go_wp2_with fail
  refine (HQ.out _).mono ?_
  rintro e w2 ⟨rfl, hb⟩
  have HX := hid (HX.out.keep hb)
  clear hb x0 x1 x2 x3 x4
  go_wp2_with fail
  refine (warm_any _ _).mono ?_
  rintro e w3 ⟨rfl, rfl⟩
  rw [show (decide (-50000 ≤ t) && decide (t ≤ 200000)) = okT t from rfl]
  go_wp2_with fail
  go_loopw [9, 10] (fun u i wr => ∃ n : Nat, n ≤ p.length ∧ i = .int .i64 (n : Int) ∧ ∃ B : Bool, u = .bool B ∧ Hid (B = (okT t && okL (p.take n))) ∧ Hid (Box2 w wr #[.int .i64 r, .int .i64 l, .int .i64 a, .int .i64 b, .int .i64 k, .int .i64 a2, .int .i64 b2] #[.string q.s, .int .i64 q.r, .int .i64 q.z, .int .i64 q.d, .int .i64 q.g])) (fun _ i _ => p.length - (intOf i).toNat)
  case atStart => exact ⟨0, Nat.zero_le _, rfl, _, rfl, by simp [okL, Hid], HX⟩
  case round =>
    obtain ⟨n, hn, rfl, B, rfl, HB, HX⟩ := hrel
    by_cases hlt : n < p.length
    · have hlt' : (n : Int) < p.length := by omega
      have haa : a0 = some ⟨b', o', none⟩ := HA.out.resolve_left (fun e => by rw [e] at hlt; simp at hlt)
      subst haa
      have ex := HC.out _ HX.out.low n hlt
      have HSU := hid (okL_succ hlt)
      have HLT := hid hlt
      generalize p[n] = x at *
      clear hlt
      cases B
      · go_wp2_with fail
        go_roundw
        case rel => exact ⟨n + 1, HLT.out, by go_num, false, rfl, by refine hid ?_; rw [HSU.out, ← Bool.and_assoc, ← HB.out]; rfl, HX⟩
        case measure => have := HLT.out; simp [intOf]; omega
      · go_wp2_with fail
        refine (warm_any _ _).mono ?_
        rintro e w4 ⟨rfl, rfl⟩
        rw [show (decide (-50000 ≤ x) && decide (x ≤ 200000)) = okT x from rfl]
        go_wp2_with fail
        go_roundw
        case rel => exact ⟨n + 1, HLT.out, by go_num, okT x, rfl, by refine hid ?_; rw [HSU.out, ← Bool.and_assoc, ← HB.out]; rfl, HX⟩
        case measure => have := HLT.out; simp [intOf]; omega
    · obtain rfl : n = p.length := by omega
      rw [List.take_length] at HB
      cases B
      · have HE := hid (chk4_far (vc := true) (vk := true) (t := t) (l := p) rfl HB.out.symm)
        go_wp2_with fail
        go_ret
        exact ⟨ret_int HE.out.symm, HX.out.low⟩
      · by_cases hg : 2000 < p.length
        · have HE := hid (chk4_long (vc := true) (vk := true) (t := t) (l := p) rfl HB.out.symm hg)
          have hg' : (2000 : Int) < p.length := by omega
          go_wp2_with fail
          go_ret
          exact ⟨ret_int HE.out.symm, HX.out.low⟩
        · have HE := hid (chk4_ok (vc := true) (vk := true) (t := t) (l := p) rfl HB.out.symm hg)
          have hg' : ¬ (2000 : Int) < p.length := by omega
          go_wp2_with fail
          go_ret
          exact ⟨ret_int HE.out.symm, HX.out.low⟩
theorem Kq.low {K : Kq} {W : World} (h : K.at W) : Below K.wF.heap.size K.wF W := Lt.KeptS.low h
theorem kq_V {K : Kq} {s : ByteArray} {r d g : Int} {Z : Nat} (he : K.s = s ∧ K.r = r ∧ K.Z = Z ∧ K.d = d ∧ K.g = g) (hv : Lt.validB s.data.toList r Z d g = true) : K.V := by
  obtain ⟨_, ⟨r1, r2⟩, ⟨z1, z2⟩, _, _⟩ := Lt.validB_iff.1 hv
  obtain ⟨_, e1, e2, _, _⟩ := he
  exact ⟨by omega, by omega, by omega, by omega⟩
theorem field_run (x0 x1 x2 x3 x4 x5 x6 x7 x8 x9 x10 x11 x12 : Value) (W : World) : (Instr.field 136 (.agg #[x0, x1, x2, x3, x4, x5, x6, x7, x8, x9, x10, x11, x12]) 3).run Tryz.prog W = .ok x10 W := by kernel_rfl
theorem rs_sums {c : Cn} {K : Kq} {s : ByteArray} {r d g t : Int} {Z : Nat} (p : List Int) (he : K.s = s ∧ K.r = r ∧ K.Z = Z ∧ K.d = d ∧ K.g = g) : (rsR c K.f K.u (rs0 c t) p).d = (dishR c (fun x => Lt.Pm.rateD r Z (x / 250)) (dish0 c t) p).2 := by
  rw [rsR_down]
  obtain ⟨_, e1, e2, _, _⟩ := he
  show (dishR c (Lt.dn K.r K.Z) _ p).2 = _
  rw [e1, e2]
  rfl
set_option maxRecDepth 100000 in
set_option maxHeartbeats 4000000 in
theorem xleth_ok (c : Cn) (s : ByteArray) (r d g t : Int) (Z : Nat) (v : Value) (p : List Int) (w : World) (hs : s.size ≤ maxLen) (hcv : c.V) (hv : Lt.validB s.data.toList r Z d g = true) (ho : okT t = true) (hop : okL p = true) (hlen : p.length ≤ 2000) (hl : RowI w v p) :
    Calls Tryz.prog 92 #[.agg #[.int .i64 (c.R : Int), .int .i64 (c.L : Int), .int .i64 c.A, .int .i64 c.B, .int .i64 c.K, .int .i64 c.A2, .int .i64 c.B2], .agg #[.string s, .int .i64 r, .int .i64 (Z : Int), .int .i64 d, .int .i64 g], .int .i64 t, v] w fun e w' => e = .returned (.tuple #[.int .i64 (idxA (ivN (dishR c (fun x => Lt.Pm.rateD r Z (x / 250)) (dish0 c t) p).2) (minA (ivN (dishR c (fun x => Lt.Pm.rateD r Z (x / 250)) (dish0 c t) p).2)) : Nat), .int .i64 (minA (ivN (dishR c (fun x => Lt.Pm.rateD r Z (x / 250)) (dish0 c t) p).2)), .int .i64 0]) ∧ Below w.heap.size w w' := by
  have HX := hid (box2_start (w := w) (A := #[.int .i64 (c.R : Int), .int .i64 (c.L : Int), .int .i64 c.A, .int .i64 c.B, .int .i64 c.K, .int .i64 c.A2, .int .i64 c.B2]) (B := #[.string s, .int .i64 r, .int .i64 (Z : Int), .int .i64 d, .int .i64 g]) (T := 23) (T' := 25) (fz := (0, 0)) (fz' := (0, 0)))
  obtain ⟨a0, cap, rfl⟩ := hl.shape
  have HL := hid hl
  have hcan : canB (c.R : Int) c.L c.A c.B c.K c.A2 c.B2 = true := hcv
  have hch : chk4 (canB (c.R : Int) c.L c.A c.B c.K c.A2 c.B2) (Kl.vB ⟨s, r, Z, d, g⟩) t p = 0 := by
    refine chk4_ok ?_ ?_ (by omega)
    · rw [hcan, show Kl.vB ⟨s, r, Z, d, g⟩ = true from hv]; rfl
    · rw [ho, hop]; rfl
  have HC : Hid (∀ W, RowI W (.slice a0 p.length cap) p → Calls Tryz.prog 80 #[.agg #[.int .i64 (c.R : Int), .int .i64 (c.L : Int), .int .i64 c.A, .int .i64 c.B, .int .i64 c.K, .int .i64 c.A2, .int .i64 c.B2], .agg #[.string s, .int .i64 r, .int .i64 (Z : Int), .int .i64 d, .int .i64 g], .int .i64 t, .slice a0 p.length cap] W fun e w' => e = .returned (.int .i64 0) ∧ Below W.heap.size W w') := fun W h => by
    have := xasked_any c.R c.L c.A c.B c.K c.A2 c.B2 W ⟨s, r, Z, d, g⟩ t (.slice a0 p.length cap) p hs h (by unfold maxLen; omega)
    rwa [hch] at this
  have HBG := hid (fun W => xbegun_any c s r d g t Z W hs hcv)
  have HTH := hid (fun (K : Kq) (hV : K.V) xa xc da dc ua uc W hR hK h => xthrough_any c K (rs0 c t) (.slice a0 p.length cap) p xa xc da dc ua uc W hcv.ok hV (rs0_good ho) hop hR hK h (by omega))
  have HVV := hid hv
  have HGD := hid (fun K : Kq => (rs0_good ho).run (f := K.f) (g := K.u) hcv.ok hop)
  have HPB := hid hcv.ok.p
  have hfr := field_run
  clear hcan hch hlen hop ho hv hcv hs hl
  go_enter Tryz.func92, Tryz.ntmps92
  go_wp2_with fail
  refine (HC.out _ (HL.out.keep HX.out.low)).mono ?_
  rintro e w0 ⟨rfl, hb⟩
  have HX := hid (HX.out.keep hb)
  clear hb
  have t0 := HX.out.fst 0; have t1 := HX.out.fst 1; have t2 := HX.out.fst 2; have t3 := HX.out.fst 3; have t4 := HX.out.fst 4; have t5 := HX.out.fst 5; have t6 := HX.out.fst 6
  have x0 := HX.out.snd 0; have x1 := HX.out.snd 1; have x2 := HX.out.snd 2; have x3 := HX.out.snd 3; have x4 := HX.out.snd 4
  simp only [List.getElem?_toArray, List.getElem?_cons_zero, List.getElem?_cons_succ] at t0 t1 t2 t3 t4 t5 t6 x0 x1 x2 x3 x4
  go_wp2_with fail
  refine (HBG.out _).mono ?_
  rintro e w1 ⟨K, he, hwF, hb, hwb, xa, xc, da, dc, ua, uc, rfl, hrows, hk, hst⟩
  have HX1 := hid (HX.out.keep hb)
  have hlt := Kq.lt hk
  have HBT := hid (rowK_old (gD := K.gD) (gU := K.gU) HL.out HX1.out.low (by have := HX.out.low.size; omega) (by have := HX.out.low.size; omega))
  have HRW := hid hrows
  have HKK := hid hk
  have HEQ := hid he
  have HWF := hid hwF
  clear hb hwb hlt hrows hk hst he hwF t0 t1 t2 t3 t4 t5 t6 x0 x1 x2 x3 x4
  go_wp2_with fail
  refine (HTH.out K (kq_V HEQ.out HVV.out) xa xc da dc ua uc _ HRW.out HKK.out HBT.out).mono ?_
  rintro e w2 ⟨ya, yc, ea, ec, ga, gc, rfl, hr2, hk2, hs2⟩
  have hlow := Kq.low hk2
  rw [HWF.out] at hlow
  have HX2 := hid (HX.out.keep hlow)
  have HR2 := hid hr2
  have HSM := hid (rs_sums (c := c) (t := t) p HEQ.out)
  clear hlow hr2 hk2 hs2
  have HLN := hid (show (rsR c K.f K.u (rs0 c t) p).d.length = c.P from (HGD.out K).down.len)
  go_wp2_with fail
  refine (xslow_any c K (rsR c K.f K.u (rs0 c t) p) ya yc ea ec ga gc _ HR2.out.td.row (by rw [HLN.out]; exact HPB.out.1) (by rw [HLN.out]; have := HPB.out.2; omega)).mono ?_
  rintro e w3 ⟨rfl, hb⟩
  have HX3 := hid (HX2.out.keep hb)
  clear hb
  rw [HSM.out]
  go_wp2_with fail
  go_ret3
  exact ⟨rfl, HX3.out.low⟩
theorem canB_open {r l a b k a2 b2 : Int} {q : Kl} {t : Int} {p : List Int} (h : chk4 (canB r l a b k a2 b2) q.vB t p = 0) : ∃ (c : Cn) (Z : Nat), c.V ∧ r = (c.R : Int) ∧ l = (c.L : Int) ∧ a = c.A ∧ b = c.B ∧ k = c.K ∧ a2 = c.A2 ∧ b2 = c.B2 ∧ q.z = Z ∧ Lt.validB q.s.data.toList q.r Z q.d q.g = true ∧ okT t = true ∧ okL p = true ∧ p.length ≤ 2000 := by
  obtain ⟨hc, hk, ho, hop, hlen⟩ := chk4_zero h
  obtain ⟨c, hcv, e1, e2, e3, e4, e5, e6, e7⟩ := canB_cn hc
  obtain ⟨Z, hz, hv⟩ := kl_of hk
  exact ⟨c, Z, hcv, e1, e2, e3, e4, e5, e6, e7, hz, hv, ho, hop, hlen⟩
theorem sumsO_cn {c : Cn} {q : Kl} {Z : Nat} {t : Int} {p : List Int} (hz : q.z = Z) (h : chk4 (canB (c.R : Int) c.L c.A c.B c.K c.A2 c.B2) q.vB t p = 0) : sumsO c.R c.L c.A c.B c.K c.A2 c.B2 q t p = (dishR c (fun x => Lt.Pm.rateD q.r Z (x / 250)) (dish0 c t) p).2 := by
  unfold sumsO; rw [if_pos h, cnOf_cn, hz]
set_option maxRecDepth 100000 in
set_option maxHeartbeats 4000000 in
theorem xleth_any (r l a b k a2 b2 : Int) (w : World) (q : Kl) (t : Int) (v : Value) (p : List Int) (hs : q.s.size ≤ maxLen) (hl : RowI w v p) (hpm : p.length ≤ maxLen) :
    Calls Tryz.prog 92 #[.agg #[.int .i64 r, .int .i64 l, .int .i64 a, .int .i64 b, .int .i64 k, .int .i64 a2, .int .i64 b2], .agg #[.string q.s, .int .i64 q.r, .int .i64 q.z, .int .i64 q.d, .int .i64 q.g], .int .i64 t, v] w fun e w' => e = .returned (.tuple #[.int .i64 (slowO (sumsO r l a b k a2 b2 q t p)), .int .i64 (lowO (sumsO r l a b k a2 b2 q t p)), .int .i64 (chk4 (canB r l a b k a2 b2) q.vB t p)]) ∧ Below w.heap.size w w' := by
  by_cases h : chk4 (canB r l a b k a2 b2) q.vB t p = 0
  · have hne : sumsO r l a b k a2 b2 q t p ≠ [] := fun e => by
      obtain ⟨h1, h2, _⟩ := sumsO_len (r := r) (l := l) (a := a) (b := b) (k := k) (a2 := a2) (b2 := b2) (q := q) (t := t) (p := p) h
      rw [e] at h1; simp at h1; omega
    obtain ⟨c, Z, hcv, rfl, rfl, rfl, rfl, rfl, rfl, rfl, hz, hv, ho, hop, hlen⟩ := canB_open h
    unfold slowO lowO
    rw [if_neg hne, if_neg hne, sumsO_cn hz h, h, hz]
    exact xleth_ok c q.s q.r q.d q.g t Z v p w hs hcv hv ho hop hlen hl
  · rw [sumsO_no h]
    have HX := hid (box2_start (w := w) (A := #[.int .i64 r, .int .i64 l, .int .i64 a, .int .i64 b, .int .i64 k, .int .i64 a2, .int .i64 b2]) (B := #[.string q.s, .int .i64 q.r, .int .i64 q.z, .int .i64 q.d, .int .i64 q.g]) (T := 23) (T' := 25) (fz := (0, 0)) (fz' := (0, 0)))
    obtain ⟨a0, cap, rfl⟩ := hl.shape
    have HL := hid hl
    have HC := hid (fun W h => xasked_any r l a b k a2 b2 W q t (.slice a0 p.length cap) p hs h hpm)
    generalize chk4 (canB r l a b k a2 b2) q.vB t p = ce at *
    have hc1 : (ce != 0) = true := by simpa using h
    clear h hl hs hpm
    go_enter Tryz.func92, Tryz.ntmps92
    go_wp2_with fail
    refine (HC.out _ (HL.out.keep HX.out.low)).mono ?_
    rintro e w1 ⟨rfl, hb⟩
    have HX := hid (HX.out.keep hb)
    clear hb
    go_wp2_with fail
    refine bodyPost_ret (v := .tuple #[.int .i64 0, .int .i64 0, .int .i64 ce]) (by simp [results, Tryz.results92, go_sem]) rfl ⟨?_, HX.out.low⟩
    simp [slowO, lowO]
set_option maxRecDepth 20000 in
set_option maxHeartbeats 4000000 in
theorem xster_any (r l a b k a2 b2 : Int) (w : World) (q : Kl) (t : Int) (v : Value) (p : List Int) (hs : q.s.size ≤ maxLen) (hl : RowI w v p) (hpm : p.length ≤ maxLen) :
    Calls Tryz.prog 50 #[.agg #[.int .i64 r, .int .i64 l, .int .i64 a, .int .i64 b, .int .i64 k, .int .i64 a2, .int .i64 b2], .agg #[.string q.s, .int .i64 q.r, .int .i64 q.z, .int .i64 q.d, .int .i64 q.g], .int .i64 t, v] w fun e w' => e = .returned (.tuple #[.bool (sterO q (lowO (sumsO r l a b k a2 b2 q t p)) (chk4 (canB r l a b k a2 b2) q.vB t p)), .int .i64 (chk4 (canB r l a b k a2 b2) q.vB t p)]) ∧ Below w.heap.size w w' := by
  have HX := hid (box2_start (w := w) (A := #[.int .i64 r, .int .i64 l, .int .i64 a, .int .i64 b, .int .i64 k, .int .i64 a2, .int .i64 b2]) (B := #[.string q.s, .int .i64 q.r, .int .i64 q.z, .int .i64 q.d, .int .i64 q.g]) (T := 23) (T' := 25) (fz := (0, 0)) (fz' := (0, 0)))
  have HL := hid (fun w1 (g : Below w.heap.size w w1) => hl.keep g)
  obtain ⟨a0, cap, rfl⟩ := hl.shape
  have HP := hid (fun W h => xleth_any r l a b k a2 b2 W q t (.slice a0 p.length cap) p hs h hpm)
  have HZ := hid (fun h => (chk4_zero (vc := canB r l a b k a2 b2) (vk := q.vB) (t := t) (l := p) h).2.1)
  have HND := hid (fun (h : q.vB = true) (W : World) => Lt.rneeds_yes q.s q.r q.z q.d q.g W hs h)
  generalize slowO (sumsO r l a b k a2 b2 q t p) = sl at *
  generalize lowO (sumsO r l a b k a2 b2 q t p) = lw at *
  generalize chk4 (canB r l a b k a2 b2) q.vB t p = ce at *
  clear hl hs hpm
  by_cases hce : ce = 0
  · have HN := hid (HND.out (HZ.out hce))
    subst hce
    have HE := hid (show sterO q lw 0 = decide (q.g * (q.d * 1000000) ≤ lw) by unfold sterO; simp)
    generalize q.g * (q.d * 1000000) = nd at *
    go_enter Tryz.func50, Tryz.ntmps50
    go_wp2_with fail
    refine (HP.out _ (HL.out _ HX.out.low)).mono ?_
    rintro e w1 ⟨rfl, hb⟩
    have HX := hid (HX.out.keep hb)
    clear hb
    have x0 := HX.out.snd 0; have x1 := HX.out.snd 1; have x2 := HX.out.snd 2; have x3 := HX.out.snd 3; have x4 := HX.out.snd 4
    simp only [List.getElem?_toArray, List.getElem?_cons_zero, List.getElem?_cons_succ] at x0 x1 x2 x3 x4
    go_wp2_with fail
    refine (HN.out _).mono ?_
    rintro e w2 ⟨rfl, hb⟩
    have HX := hid (HX.out.keep hb)
    clear hb
    go_wp2_with fail
    go_ret2
    exact ⟨by rw [HE.out]; rfl, HX.out.low⟩
  · have HE := hid (show sterO q lw ce = false by unfold sterO; simp [hce])
    have hc1 : (ce == 0) = false := by simpa using hce
    clear hce
    go_enter Tryz.func50, Tryz.ntmps50
    go_wp2_with fail
    refine (HP.out _ (HL.out _ HX.out.low)).mono ?_
    rintro e w1 ⟨rfl, hb⟩
    have HX := hid (HX.out.keep hb)
    clear hb
    go_wp2_with fail
    go_ret2
    exact ⟨by rw [HE.out]; rfl, HX.out.low⟩
end Go.Proofs.YtihbjimnjhfpeaaGreat

/- The reference's spoilt, ByColdest, Spoiled: contracts. -/
namespace Go.Proofs.YtihbjimnjhfpeaaGreat
open Go.RowKit Go.Lib

/-- The greatest of a list and nothing. -/
def mx0 (L : List Int) : Int := L.foldl (fun m x => if m < x then x else m) 0
theorem mx0_succ {L : List Int} {k : Nat} (h : k < L.length) : mx0 (L.take (k + 1)) = if mx0 (L.take k) < L[k] then L[k] else mx0 (L.take k) := by
  unfold mx0
  rw [List.take_add_one, List.getElem?_eq_getElem h, List.foldl_append]
  rfl
theorem mx0_in (L : List Int) : ∀ k, k ≤ L.length → (mx0 (L.take k) = 0 ∨ mx0 (L.take k) ∈ L) ∧ 0 ≤ mx0 (L.take k) ∧ ∀ j, j < k → ∀ h : j < L.length, L[j] ≤ mx0 (L.take k)
  | 0, _ => ⟨.inl rfl, Int.le_refl _, fun j hj => absurd hj (Nat.not_lt_zero _)⟩
  | k + 1, hk => by
    obtain ⟨h1, h2, h3⟩ := mx0_in L k (by omega)
    have h := mx0_succ (L := L) (k := k) (by omega)
    by_cases g : mx0 (L.take k) < L[k]
    · rw [if_pos g] at h
      rw [h]
      refine ⟨.inr (List.getElem_mem _), by omega, fun j hj hl => ?_⟩
      by_cases e : j = k
      · subst e; exact Int.le_refl _
      · have := h3 j (by omega) hl
        omega
    · rw [if_neg g] at h
      rw [h]
      refine ⟨h1, h2, fun j hj hl => ?_⟩
      by_cases e : j = k
      · subst e; omega
      · exact h3 j (by omega) hl
theorem mx0_max {L : List Int} (h0 : 0 < L.length) (hp : ∀ x ∈ L, 0 ≤ x) : mx0 L = maxA L := by
  obtain ⟨h1, h2, h3⟩ := mx0_in L L.length (Nat.le_refl _)
  rw [List.take_length] at h1 h2 h3
  obtain ⟨j, hj, e⟩ := List.getElem_of_mem (maxA_mem h0)
  have h4 := h3 j hj hj
  rw [e] at h4
  rcases h1 with h1 | h1
  · have := hp _ (maxA_mem h0)
    omega
  · have := maxA_ge h1
    omega
theorem ivN_pos (S : List Nat) : ∀ x ∈ ivN S, 0 ≤ x := fun x hx => by
  unfold ivN at hx
  obtain ⟨n, _, rfl⟩ := List.mem_map.1 hx
  omega
set_option maxRecDepth 20000 in
set_option maxHeartbeats 2000000 in
theorem xspoilt_any (c : Cn) (K : Kq) (S : Rs) (xa : Option Addr) (xc : Nat) (da : Option Addr) (dc : Nat) (ua : Option Addr) (uc : Nat) (w : World) (hl : RowI w (.slice ua S.u.length uc) (ivN S.u)) (h0 : 0 < S.u.length) (hm : S.u.length ≤ 1000) :
    Calls Tryz.prog 82 #[.agg #[.int .i64 (c.R : Int), .int .i64 (c.L : Int), .int .i64 c.A, .int .i64 c.B, .int .i64 c.K, .int .i64 c.A2, .int .i64 c.B2, .slice xa S.x.1.length xc, .bool S.x.2, .pointer (some ⟨K.b, 0, none⟩), .slice da S.d.length dc, .slice ua S.u.length uc, .int .i64 (S.k : Nat)]] w fun e w' => e = .returned (.int .i64 (maxA (ivN S.u))) ∧ Below w.heap.size w w' := by
  have hll := ivN_len S.u
  have HMX := hid (mx0_max (L := ivN S.u) (by omega) (ivN_pos _))
  have BX := hid (box1_start (w := w) (A := #[.int .i64 (c.R : Int), .int .i64 (c.L : Int), .int .i64 c.A, .int .i64 c.B, .int .i64 c.K, .int .i64 c.A2, .int .i64 c.B2, .slice xa S.x.1.length xc, .bool S.x.2, .pointer (some ⟨K.b, 0, none⟩), .slice da S.d.length dc, .slice ua S.u.length uc, .int .i64 (S.k : Nat)]) (T := 136) (fz := (0, 0)))
  obtain ⟨b, o, cap, hv, hc⟩ := hl.some (by omega)
  injection hv with e1 e2 e3
  subst e1
  subst e3
  clear e2
  have HC := hid (fun w1 (g : Below w.heap.size w w1) j h => keep_cell g (hc j h))
  clear hc hl
  obtain ⟨n, hn⟩ : ∃ n, n = S.u.length := ⟨_, rfl⟩
  rw [← hn] at BX h0 hm hll ⊢
  have x11 := BX.out.fst 11
  simp only [List.getElem?_toArray, List.getElem?_cons_zero, List.getElem?_cons_succ] at x11
  rw [← hll] at x11 h0 hm
  clear hn
  generalize ivN S.u = L at *
  subst hll
  go_enter Tryz.func82, Tryz.ntmps82
  go_wp2_with fail
  go_loopw [3, 4] (fun p i wr => ∃ (k : Nat) (m : Int), k ≤ L.length ∧ p = .int .i64 m ∧ i = .int .i64 (k : Int) ∧ Hid (mx0 (L.take k) = m) ∧ Hid (Box1 w wr #[.int .i64 (c.R : Int), .int .i64 (c.L : Int), .int .i64 c.A, .int .i64 c.B, .int .i64 c.K, .int .i64 c.A2, .int .i64 c.B2, .slice xa S.x.1.length xc, .bool S.x.2, .pointer (some ⟨K.b, 0, none⟩), .slice da S.d.length dc, .slice (some ⟨b, o, none⟩) L.length uc, .int .i64 (S.k : Nat)])) (fun _ i _ => L.length - (intOf i).toNat)
  case atStart => exact ⟨0, 0, Nat.zero_le _, rfl, rfl, rfl, BX⟩
  case round =>
    obtain ⟨k, m, hk, rfl, rfl, HB, BX⟩ := hrel
    clear x11
    have x11 := BX.out.fst 11
    simp only [List.getElem?_toArray, List.getElem?_cons_zero, List.getElem?_cons_succ] at x11
    by_cases hlt : k < L.length
    · have ex := HC.out _ BX.out.low k hlt
      have HST := hid (mx0_succ hlt)
      rw [HB.out] at HST
      by_cases he : m < L[k]
      · rw [if_pos he] at HST
        generalize L[k] = s at ex he HST
        go_wp2_with fail
        go_roundw
        case rel => exact ⟨k + 1, s, by omega, rfl, by go_num, HST, BX⟩
        case measure => simp [intOf]; omega
      · rw [if_neg he] at HST
        generalize L[k] = s at ex he
        go_wp2_with fail
        go_roundw
        case rel => exact ⟨k + 1, m, by omega, rfl, by go_num, HST, BX⟩
        case measure => simp [intOf]; omega
    · obtain rfl : k = L.length := by omega
      rw [List.take_length] at HB
      go_wp2_with fail
      go_ret
      exact ⟨ret_int (by rw [← HMX.out, HB.out]), BX.out.low⟩
theorem rs_up {c : Cn} {K : Kq} {s : ByteArray} {r d g t : Int} {Z : Nat} (p : List Int) (he : K.s = s ∧ K.r = r ∧ K.Z = Z ∧ K.d = d ∧ K.g = g) : (rsR c K.f K.u (rs0 c t) p).u = (dishR c (Lt.up r Z) (dish0 c t) p).2 := by
  obtain ⟨_, e1, e2, _, _⟩ := he
  rw [← e1, ← e2]
  exact congrArg Prod.snd (rsR_u c K.f K.u p (rs0 c t))
set_option maxRecDepth 100000 in
set_option maxHeartbeats 4000000 in
theorem xspoil_ok (c : Cn) (s : ByteArray) (r d g t : Int) (Z : Nat) (v : Value) (p : List Int) (w : World) (hs : s.size ≤ maxLen) (hcv : c.V) (hv : Lt.validB s.data.toList r Z d g = true) (ho : okT t = true) (hop : okL p = true) (hlen : p.length ≤ 2000) (hl : RowI w v p) :
    Calls Tryz.prog 39 #[.agg #[.int .i64 (c.R : Int), .int .i64 (c.L : Int), .int .i64 c.A, .int .i64 c.B, .int .i64 c.K, .int .i64 c.A2, .int .i64 c.B2], .agg #[.string s, .int .i64 r, .int .i64 (Z : Int), .int .i64 d, .int .i64 g], .int .i64 t, v] w (IntE (maxA (ivN (dishR c (Lt.up r Z) (dish0 c t) p).2)) 0 w) := by
  have HX := hid (box2_start (w := w) (A := #[.int .i64 (c.R : Int), .int .i64 (c.L : Int), .int .i64 c.A, .int .i64 c.B, .int .i64 c.K, .int .i64 c.A2, .int .i64 c.B2]) (B := #[.string s, .int .i64 r, .int .i64 (Z : Int), .int .i64 d, .int .i64 g]) (T := 23) (T' := 25) (fz := (0, 0)) (fz' := (0, 0)))
  obtain ⟨a0, cap, rfl⟩ := hl.shape
  have HL := hid hl
  have hcan : canB (c.R : Int) c.L c.A c.B c.K c.A2 c.B2 = true := hcv
  have hch : chk4 (canB (c.R : Int) c.L c.A c.B c.K c.A2 c.B2) (Kl.vB ⟨s, r, Z, d, g⟩) t p = 0 := by
    refine chk4_ok ?_ ?_ (by omega)
    · rw [hcan, show Kl.vB ⟨s, r, Z, d, g⟩ = true from hv]; rfl
    · rw [ho, hop]; rfl
  have HC : Hid (∀ W, RowI W (.slice a0 p.length cap) p → Calls Tryz.prog 80 #[.agg #[.int .i64 (c.R : Int), .int .i64 (c.L : Int), .int .i64 c.A, .int .i64 c.B, .int .i64 c.K, .int .i64 c.A2, .int .i64 c.B2], .agg #[.string s, .int .i64 r, .int .i64 (Z : Int), .int .i64 d, .int .i64 g], .int .i64 t, .slice a0 p.length cap] W fun e w' => e = .returned (.int .i64 0) ∧ Below W.heap.size W w') := fun W h => by
    have := xasked_any c.R c.L c.A c.B c.K c.A2 c.B2 W ⟨s, r, Z, d, g⟩ t (.slice a0 p.length cap) p hs h (by unfold maxLen; omega)
    rwa [hch] at this
  have HBG := hid (fun W => xbegun_any c s r d g t Z W hs hcv)
  have HTH := hid (fun (K : Kq) (hV : K.V) xa xc da dc ua uc W hR hK h => xthrough_any c K (rs0 c t) (.slice a0 p.length cap) p xa xc da dc ua uc W hcv.ok hV (rs0_good ho) hop hR hK h (by omega))
  have HVV := hid hv
  have HGD := hid (fun K : Kq => (rs0_good ho).run (f := K.f) (g := K.u) hcv.ok hop)
  have HPB := hid hcv.ok.p
  clear hcan hch hlen hop ho hv hcv hs hl
  go_enter Tryz.func39, Tryz.ntmps39
  go_wp2_with fail
  refine (HC.out _ (HL.out.keep HX.out.low)).mono ?_
  rintro e w0 ⟨rfl, hb⟩
  have HX := hid (HX.out.keep hb)
  clear hb
  have t0 := HX.out.fst 0; have t1 := HX.out.fst 1; have t2 := HX.out.fst 2; have t3 := HX.out.fst 3; have t4 := HX.out.fst 4; have t5 := HX.out.fst 5; have t6 := HX.out.fst 6
  have x0 := HX.out.snd 0; have x1 := HX.out.snd 1; have x2 := HX.out.snd 2; have x3 := HX.out.snd 3; have x4 := HX.out.snd 4
  simp only [List.getElem?_toArray, List.getElem?_cons_zero, List.getElem?_cons_succ] at t0 t1 t2 t3 t4 t5 t6 x0 x1 x2 x3 x4
  go_wp2_with fail
  refine (HBG.out _).mono ?_
  rintro e w1 ⟨K, he, hwF, hb, hwb, xa, xc, da, dc, ua, uc, rfl, hrows, hk, hst⟩
  have HX1 := hid (HX.out.keep hb)
  have hlt := Kq.lt hk
  have HBT := hid (rowK_old (gD := K.gD) (gU := K.gU) HL.out HX1.out.low (by have := HX.out.low.size; omega) (by have := HX.out.low.size; omega))
  have HRW := hid hrows
  have HKK := hid hk
  have HEQ := hid he
  have HWF := hid hwF
  clear hb hwb hlt hrows hk hst he hwF t0 t1 t2 t3 t4 t5 t6 x0 x1 x2 x3 x4
  go_wp2_with fail
  refine (HTH.out K (kq_V HEQ.out HVV.out) xa xc da dc ua uc _ HRW.out HKK.out HBT.out).mono ?_
  rintro e w2 ⟨ya, yc, ea, ec, ga, gc, rfl, hr2, hk2, hs2⟩
  have hlow := Kq.low hk2
  rw [HWF.out] at hlow
  have HX2 := hid (HX.out.keep hlow)
  have HR2 := hid hr2
  have HSM := hid (rs_up (c := c) (t := t) p HEQ.out)
  clear hlow hr2 hk2 hs2
  have HLN := hid (show (rsR c K.f K.u (rs0 c t) p).u.length = c.P from (HGD.out K).up.len)
  go_wp2_with fail
  refine (xspoilt_any c K (rsR c K.f K.u (rs0 c t) p) ya yc ea ec ga gc _ HR2.out.tu.row (by rw [HLN.out]; exact HPB.out.1) (by rw [HLN.out]; have := HPB.out.2; omega)).mono ?_
  rintro e w3 ⟨rfl, hb⟩
  have HX3 := hid (HX2.out.keep hb)
  clear hb
  rw [HSM.out]
  go_wp2_with fail
  go_ret2
  exact ⟨rfl, HX3.out.low⟩
set_option maxRecDepth 20000 in
set_option maxHeartbeats 4000000 in
theorem xspoil_err (r l a b k a2 b2 : Int) (w : World) (q : Kl) (t : Int) (v : Value) (p : List Int) (hs : q.s.size ≤ maxLen) (hl : RowI w v p) (hpm : p.length ≤ maxLen) (hne : chk4 (canB r l a b k a2 b2) q.vB t p ≠ 0) :
    Calls Tryz.prog 39 #[.agg #[.int .i64 r, .int .i64 l, .int .i64 a, .int .i64 b, .int .i64 k, .int .i64 a2, .int .i64 b2], .agg #[.string q.s, .int .i64 q.r, .int .i64 q.z, .int .i64 q.d, .int .i64 q.g], .int .i64 t, v] w (IntE 0 (chk4 (canB r l a b k a2 b2) q.vB t p) w) := by
  have HX := hid (box2_start (w := w) (A := #[.int .i64 r, .int .i64 l, .int .i64 a, .int .i64 b, .int .i64 k, .int .i64 a2, .int .i64 b2]) (B := #[.string q.s, .int .i64 q.r, .int .i64 q.z, .int .i64 q.d, .int .i64 q.g]) (T := 23) (T' := 25) (fz := (0, 0)) (fz' := (0, 0)))
  have HL := hid (fun w1 (g : Below w.heap.size w w1) => hl.keep g)
  obtain ⟨a0, cap, rfl⟩ := hl.shape
  have HC := hid (fun W h => xasked_any r l a b k a2 b2 W q t (.slice a0 p.length cap) p hs h hpm)
  generalize chk4 (canB r l a b k a2 b2) q.vB t p = ce at *
  have hc1 : (ce != 0) = true := by simpa using hne
  clear hl hs hpm hne
  go_enter Tryz.func39, Tryz.ntmps39
  go_wp2_with fail
  refine (HC.out _ (HL.out _ HX.out.low)).mono ?_
  rintro e w1 ⟨rfl, hb⟩
  have HX := hid (HX.out.keep hb)
  clear hb
  go_wp2_with fail
  go_ret2
  exact ⟨rfl, HX.out.low⟩
theorem xspoil_any (r l a b k a2 b2 : Int) (w : World) (q : Kl) (t : Int) (v : Value) (p : List Int) (hs : q.s.size ≤ maxLen) (hl : RowI w v p) (hpm : p.length ≤ maxLen) :
    Calls Tryz.prog 39 #[.agg #[.int .i64 r, .int .i64 l, .int .i64 a, .int .i64 b, .int .i64 k, .int .i64 a2, .int .i64 b2], .agg #[.string q.s, .int .i64 q.r, .int .i64 q.z, .int .i64 q.d, .int .i64 q.g], .int .i64 t, v] w (IntE (spoO r l a b k a2 b2 q t p) (chk4 (canB r l a b k a2 b2) q.vB t p) w) := by
  by_cases h : chk4 (canB r l a b k a2 b2) q.vB t p = 0
  · obtain ⟨c, Z, hcv, rfl, rfl, rfl, rfl, rfl, rfl, rfl, hz, hv, ho, hop, hlen⟩ := canB_open h
    have hso : spoO c.R c.L c.A c.B c.K c.A2 c.B2 q t p = maxA (ivN (dishR c (Lt.up q.r Z) (dish0 c t) p).2) := by
      unfold spoO; rw [if_pos h, cnOf_cn, hz, Int.toNat_natCast]
    rw [hso, h, hz]
    exact xspoil_ok c q.s q.r q.d q.g t Z v p w hs hcv hv ho hop hlen hl
  · rw [spoO_no h]
    exact xspoil_err r l a b k a2 b2 w q t v p hs hl hpm h
end Go.Proofs.YtihbjimnjhfpeaaGreat
