/- Texts of this seat, one behind the other. -/
import Derived.Test.YtihbjimnjhfpeaaGreatPci
import Derived.Test.YtihbjimnjhfpeaaGreatG07
import Derived.Test.YtihbjimnjhfpeaaGreatPef
import Derived.Test.YtihbjimnjhfpeaaGreatPch
/- Places, Lethality, Sterile whatever comes in: contracts. -/
namespace Go.Proofs.YtihbjimnjhfpeaaGreat
open Go.RowKit Go.Lib

theorem kl_of {q : Kl} (h : q.vB = true) : ∃ Z : Nat, q.z = Z ∧ Lt.validB q.s.data.toList q.r Z q.d q.g = true := by
  have hv : Lt.validB q.s.data.toList q.r q.z q.d q.g = true := h
  have hz := (Lt.validB_iff.1 hv).2.2.1
  obtain ⟨Z, e⟩ := Int.eq_ofNat_of_zero_le (show 0 ≤ q.z by omega)
  exact ⟨Z, e, by rw [← e]; exact hv⟩
theorem places_all (r l a b k a2 b2 : Int) (w : World) (q : Kl) (t : Int) (v : Value) (p : List Int) (hs : q.s.size ≤ maxLen) (hl : RowI w v p) (hpm : p.length ≤ maxLen) :
    Calls Tryz.prog 93 #[.agg #[.int .i64 r, .int .i64 l, .int .i64 a, .int .i64 b, .int .i64 k, .int .i64 a2, .int .i64 b2], .agg #[.string q.s, .int .i64 q.r, .int .i64 q.z, .int .i64 q.d, .int .i64 q.g], .int .i64 t, v] w (PlacesP (sumsO r l a b k a2 b2 q t p) (chk4 (canB r l a b k a2 b2) q.vB t p) w) := by
  by_cases h : chk4 (canB r l a b k a2 b2) q.vB t p = 0
  · obtain ⟨hc, hk, ho, hop, hlen⟩ := chk4_zero h
    obtain ⟨c, hcv, rfl, rfl, rfl, rfl, rfl, rfl, rfl⟩ := canB_cn hc
    obtain ⟨Z, hz, hv⟩ := kl_of hk
    have hso : sumsO c.R c.L c.A c.B c.K c.A2 c.B2 q t p = (dishR c (fun x => Lt.Pm.rateD q.r Z (x / 250)) (dish0 c t) p).2 := by
      unfold sumsO; rw [if_pos h, cnOf_cn, hz]
    rw [hso, h, hz]
    exact places_ok c q.s q.r q.d q.g t Z v p w hs hcv hv ho hop hlen hl
  · rw [sumsO_no h]
    exact places_err r l a b k a2 b2 w q t v p hs hl hpm h
theorem sumsO_len {r l a b k a2 b2 : Int} {q : Kl} {t : Int} {p : List Int} (h : chk4 (canB r l a b k a2 b2) q.vB t p = 0) : (sumsO r l a b k a2 b2 q t p).length = (cnOf r l a b k a2 b2).P ∧ 1 ≤ (cnOf r l a b k a2 b2).P ∧ (cnOf r l a b k a2 b2).P ≤ 48 := by
  obtain ⟨hc, hk, ho, hop, hlen⟩ := chk4_zero h
  obtain ⟨c, hcv, rfl, rfl, rfl, rfl, rfl, rfl, rfl⟩ := canB_cn hc
  unfold sumsO
  rw [if_pos h, cnOf_cn]
  exact ⟨((dish0_good ho).run hcv.ok hop).len, hcv.ok.p.1, hcv.ok.p.2⟩
/-- What Lethality hands back: the slowest place, and its lethality. -/
def lowO (S : List Nat) : Int := if S = [] then 0 else minA (ivN S)
def slowO (S : List Nat) : Int := if S = [] then 0 else (idxA (ivN S) (minA (ivN S)) : Nat)
set_option maxRecDepth 20000 in
set_option maxHeartbeats 4000000 in
theorem leth_any (r l a b k a2 b2 : Int) (w : World) (q : Kl) (t : Int) (v : Value) (p : List Int) (hs : q.s.size ≤ maxLen) (hl : RowI w v p) (hpm : p.length ≤ maxLen) :
    Calls Tryz.prog 56 #[.agg #[.int .i64 r, .int .i64 l, .int .i64 a, .int .i64 b, .int .i64 k, .int .i64 a2, .int .i64 b2], .agg #[.string q.s, .int .i64 q.r, .int .i64 q.z, .int .i64 q.d, .int .i64 q.g], .int .i64 t, v] w fun e w' => e = .returned (.tuple #[.int .i64 (slowO (sumsO r l a b k a2 b2 q t p)), .int .i64 (lowO (sumsO r l a b k a2 b2 q t p)), .int .i64 (chk4 (canB r l a b k a2 b2) q.vB t p)]) ∧ Below w.heap.size w w' := by
  have HX := hid (box2_start (w := w) (A := #[.int .i64 r, .int .i64 l, .int .i64 a, .int .i64 b, .int .i64 k, .int .i64 a2, .int .i64 b2]) (B := #[.string q.s, .int .i64 q.r, .int .i64 q.z, .int .i64 q.d, .int .i64 q.g]) (T := 23) (T' := 25) (fz := (0, 0)) (fz' := (0, 0)))
  have HL := hid (fun w1 (g : Below w.heap.size w w1) => hl.keep g)
  obtain ⟨a0, cap, rfl⟩ := hl.shape
  have HP := hid (fun W h => places_all r l a b k a2 b2 W q t (.slice a0 p.length cap) p hs h hpm)
  have HLN := hid (fun h => sumsO_len (r := r) (l := l) (a := a) (b := b) (k := k) (a2 := a2) (b2 := b2) (q := q) (t := t) (p := p) h)
  have HNO := hid (fun h => sumsO_no (r := r) (l := l) (a := a) (b := b) (k := k) (a2 := a2) (b2 := b2) (q := q) (t := t) (p := p) h)
  generalize sumsO r l a b k a2 b2 q t p = S at *
  generalize chk4 (canB r l a b k a2 b2) q.vB t p = ce at *
  clear hl hs hpm
  by_cases hce : ce = 0
  · obtain ⟨h1, h2, h3⟩ := HLN.out hce
    subst hce
    have h0 : 0 < (ivN S).length := by rw [ivN_len]; omega
    have hne : S ≠ [] := fun e => by rw [e] at h1; simp at h1; omega
    have HLO := hid (show lowO S = minA (ivN S) by unfold lowO; rw [if_neg hne])
    have HSL := hid (show slowO S = (idxA (ivN S) (minA (ivN S)) : Nat) by unfold slowO; rw [if_neg hne])
    have HMN := hid (fun (W : World) (u : Value) (h : RowI W u (ivN S)) => minA_any u (ivN S) W h h0 (by rw [ivN_len]; omega))
    have HIX := hid (fun (W : World) (u : Value) (h : RowI W u (ivN S)) => index_any u (ivN S) (minA (ivN S)) W h (minA_mem h0) (by rw [ivN_len]; omega))
    generalize minA (ivN S) = mn at *
    clear h0 h1 h2 h3 hne
    go_enter Tryz.func56, Tryz.ntmps56
    go_wp2_with fail
    refine (HP.out _ (HL.out _ HX.out.low)).mono ?_
    rintro e w1 ⟨ub, ud, rfl, hr, hb⟩
    have HX := hid (HX.out.keep hb)
    have HR := hid hr
    clear hb hr
    go_wp2_with fail
    refine (HMN.out _ _ HR.out).mono ?_
    rintro e w2 ⟨rfl, rfl⟩
    go_wp2_with fail
    refine (HIX.out _ _ HR.out).mono ?_
    rintro e w2 ⟨rfl, rfl⟩
    go_wp2_with fail
    refine bodyPost_ret (v := .tuple #[.int .i64 (idxA (ivN S) mn : Nat), .int .i64 mn, .int .i64 0]) (by simp [results, Tryz.results56, go_sem]) rfl ⟨?_, HX.out.low⟩
    rw [HSL.out, HLO.out]
  · have hS := HNO.out hce
    have hc1 : (ce != 0) = true := by simpa using hce
    subst hS
    clear hce HNO
    go_enter Tryz.func56, Tryz.ntmps56
    go_wp2_with fail
    refine (HP.out _ (HL.out _ HX.out.low)).mono ?_
    rintro e w1 ⟨ub, ud, rfl, hr, hb⟩
    have HX := hid (HX.out.keep hb)
    clear hb hr
    go_wp2_with fail
    refine bodyPost_ret (v := .tuple #[.int .i64 0, .int .i64 0, .int .i64 ce]) (by simp [results, Tryz.results56, go_sem]) rfl ⟨?_, HX.out.low⟩
    simp [slowO, lowO]
/-- Whether a can is sterile. -/
def sterO (q : Kl) (f ce : Int) : Bool := decide (ce = 0) && decide (q.g * (q.d * 1000000) ≤ f)
set_option maxRecDepth 20000 in
set_option maxHeartbeats 4000000 in
theorem ster_any (r l a b k a2 b2 : Int) (w : World) (q : Kl) (t : Int) (v : Value) (p : List Int) (hs : q.s.size ≤ maxLen) (hl : RowI w v p) (hpm : p.length ≤ maxLen) :
    Calls Tryz.prog 19 #[.agg #[.int .i64 r, .int .i64 l, .int .i64 a, .int .i64 b, .int .i64 k, .int .i64 a2, .int .i64 b2], .agg #[.string q.s, .int .i64 q.r, .int .i64 q.z, .int .i64 q.d, .int .i64 q.g], .int .i64 t, v] w fun e w' => e = .returned (.tuple #[.bool (sterO q (lowO (sumsO r l a b k a2 b2 q t p)) (chk4 (canB r l a b k a2 b2) q.vB t p)), .int .i64 (chk4 (canB r l a b k a2 b2) q.vB t p)]) ∧ Below w.heap.size w w' := by
  have HX := hid (box2_start (w := w) (A := #[.int .i64 r, .int .i64 l, .int .i64 a, .int .i64 b, .int .i64 k, .int .i64 a2, .int .i64 b2]) (B := #[.string q.s, .int .i64 q.r, .int .i64 q.z, .int .i64 q.d, .int .i64 q.g]) (T := 23) (T' := 25) (fz := (0, 0)) (fz' := (0, 0)))
  have HL := hid (fun w1 (g : Below w.heap.size w w1) => hl.keep g)
  obtain ⟨a0, cap, rfl⟩ := hl.shape
  have HP := hid (fun W h => leth_any r l a b k a2 b2 W q t (.slice a0 p.length cap) p hs h hpm)
  have HZ := hid (fun h => (chk4_zero (vc := canB r l a b k a2 b2) (vk := q.vB) (t := t) (l := p) h).2.1)
  have HND := hid (fun (h : q.vB = true) (W : World) => Lt.needs_yes q.s q.r q.z q.d q.g W hs h)
  generalize slowO (sumsO r l a b k a2 b2 q t p) = sl at *
  generalize lowO (sumsO r l a b k a2 b2 q t p) = lw at *
  generalize chk4 (canB r l a b k a2 b2) q.vB t p = ce at *
  clear hl hs hpm
  by_cases hce : ce = 0
  · have HN := hid (HND.out (HZ.out hce))
    subst hce
    have HE := hid (show sterO q lw 0 = decide (q.g * (q.d * 1000000) ≤ lw) by unfold sterO; simp)
    generalize q.g * (q.d * 1000000) = nd at *
    go_enter Tryz.func19, Tryz.ntmps19
    go_wp2_with fail
    refine (HP.out _ (HL.out _ HX.out.low)).mono ?_
    rintro e w1 ⟨rfl, hb⟩
    have HX := hid (HX.out.keep hb)
    clear hb
    have x0 := HX.out.snd 0; have x1 := HX.out.snd 1; have x2 := HX.out.snd 2; have x3 := HX.out.snd 3; have x4 := HX.out.snd 4
    simp only [List.getElem?_toArray, List.getElem?_cons_zero, List.getElem?_cons_succ] at x0 x1 x2 x3 x4
    go_wp2_with fail
    refine (HN.out _).mono ?_
    rintro e w2 ⟨rfl, hb⟩
    have HX := hid (HX.out.keep hb)
    clear hb
    go_wp2_with fail
    go_ret2
    exact ⟨by rw [HE.out]; rfl, HX.out.low⟩
  · have HE := hid (show sterO q lw ce = false by unfold sterO; simp [hce])
    have hc1 : (ce == 0) = false := by simpa using hce
    clear hce
    go_enter Tryz.func19, Tryz.ntmps19
    go_wp2_with fail
    refine (HP.out _ (HL.out _ HX.out.low)).mono ?_
    rintro e w1 ⟨rfl, hb⟩
    have HX := hid (HX.out.keep hb)
    clear hb
    go_wp2_with fail
    go_ret2
    exact ⟨by rw [HE.out]; rfl, HX.out.low⟩
end Go.Proofs.YtihbjimnjhfpeaaGreat

/- Walks of the reference's asked, Places, Lethality, Sterile: contracts. -/
namespace Go.Proofs.YtihbjimnjhfpeaaGreat
open Go.RowKit Go.Lib

theorem okL_succ {p : List Int} {n : Nat} (h : n < p.length) : okL (p.take (n + 1)) = (okL (p.take n) && okT p[n]) := by
  unfold okL
  rw [List.take_add_one, List.getElem?_eq_getElem h, List.all_append]
  simp
set_option maxRecDepth 20000 in
set_option maxHeartbeats 4000000 in
theorem xasked_any (r l a b k a2 b2 : Int) (w : World) (q : Kl) (t : Int) (v : Value) (p : List Int) (hs : q.s.size ≤ maxLen) (hl : RowI w v p) (hpm : p.length ≤ maxLen) :
    Calls Tryz.prog 80 #[.agg #[.int .i64 r, .int .i64 l, .int .i64 a, .int .i64 b, .int .i64 k, .int .i64 a2, .int .i64 b2], .agg #[.string q.s, .int .i64 q.r, .int .i64 q.z, .int .i64 q.d, .int .i64 q.g], .int .i64 t, v] w fun e w' => e = .returned (.int .i64 (chk4 (canB r l a b k a2 b2) q.vB t p)) ∧ Below w.heap.size w w' := by
  have HX := hid (box2_start (w := w) (A := #[.int .i64 r, .int .i64 l, .int .i64 a, .int .i64 b, .int .i64 k, .int .i64 a2, .int .i64 b2]) (B := #[.string q.s, .int .i64 q.r, .int .i64 q.z, .int .i64 q.d, .int .i64 q.g]) (T := 23) (T' := 25) (fz := (0, 0)) (fz' := (0, 0)))
  obtain ⟨a0, b', o', cap, rfl, ha, hc, _⟩ := hl.form
  have HC := hid (fun W (g : Below w.heap.size w W) j (hj : j < p.length) => keep_cell g (hc j hj))
  have HA := hid ha
  have HS := hid hs
  have HV := hid (fun W => rvcan_any r l a b k a2 b2 W)
  have HQ : Hid (∀ W, Calls Tryz.prog 18 #[.agg #[.string q.s, .int .i64 q.r, .int .i64 q.z, .int .i64 q.d, .int .i64 q.g]] W fun e w' => e = .returned (.bool q.vB) ∧ Below W.heap.size W w') := fun W => Lt.rvalid_any q.s q.r q.z q.d q.g W hs
  clear hl ha hc hs
  unfold maxLen at hpm
  cases h1 : canB r l a b k a2 b2
  · have HE := hid (chk4_no (vc := false) (vk := q.vB) (t := t) (l := p) (by simp))
    rw [h1] at HV
    go_enter Tryz.func80, Tryz.ntmps80
    go_wp2_with fail
    refine (HV.out _).mono ?_
    rintro e w1 ⟨rfl, hb⟩
    have HX := hid (HX.out.keep hb)
    clear hb
    go_wp2_with fail
    go_ret
    exact ⟨ret_int HE.out.symm, HX.out.low⟩
  rw [h1] at HV
  cases h2 : q.vB
  · have HE := hid (chk4_no (vc := true) (vk := false) (t := t) (l := p) (by simp))
    rw [h2] at HQ
    go_enter Tryz.func80, Tryz.ntmps80
    go_wp2_with fail
    refine (HV.out _).mono ?_
    rintro e w1 ⟨rfl, hb⟩
    have HX := hid (HX.out.keep hb)
    clear hb
    have x0 := HX.out.snd 0; have x1 := HX.out.snd 1; have x2 := HX.out.snd 2; have x3 := HX.out.snd 3; have x4 := HX.out.snd 4
    simp only [List.getElem?_toArray, List.getElem?_cons_zero, List.getElem?_cons_succ] at x0 x1 x2 x3 x4
    go_wp2_with fail
    refine (HQ.out _).mono ?_
    rintro e w2 ⟨rfl, hb⟩
    have HX := hid (HX.out.keep hb)
    clear hb x0 x1 x2 x3 x4
    go_wp2_with fail
    go_ret
    exact ⟨ret_int HE.out.symm, HX.out.low⟩
  rw [h2] at HQ
  go_enter Tryz.func80, Tryz.ntmps80
  go_wp2_with fail
  refine (HV.out _).mono ?_
  rintro e w1 ⟨rfl, hb⟩
  have HX := hid (HX.out.keep hb)
  clear hb
  have x0 := HX.out.snd 0; have x1 := HX.out.snd 1; have x2 := HX.out.snd 2; have x3 := HX.out.snd 3; have x4 := HX.out.snd 4
  simp only [List.getElem?_toArray, List.getElem?_cons_zero, List.getElem?_cons_succ] at x0 x1 x2 x3 x4
  go_wp2_with fail
  refine (HQ.out _).mono ?_
  rintro e w2 ⟨rfl, hb⟩
  have HX := hid (HX.out.keep hb)
  clear hb x0 x1 x2 x3 x4
  go_wp2_with fail
  refine (warm_any _ _).mono ?_
  rintro e w3 ⟨rfl, rfl⟩
  rw [show (decide (-50000 ≤ t) && decide (t ≤ 200000)) = okT t from rfl]
  go_wp2_with fail
  go_loopw [9, 10] (fun u i wr => ∃ n : Nat, n ≤ p.length ∧ i = .int .i64 (n : Int) ∧ ∃ B : Bool, u = .bool B ∧ Hid (B = (okT t && okL (p.take n))) ∧ Hid (Box2 w wr #[.int .i64 r, .int .i64 l, .int .i64 a, .int .i64 b, .int .i64 k, .int .i64 a2, .int .i64 b2] #[.string q.s, .int .i64 q.r, .int .i64 q.z, .int .i64 q.d, .int .i64 q.g])) (fun _ i _ => p.length - (intOf i).toNat)
  case atStart => exact ⟨0, Nat.zero_le _, rfl, _, rfl, by simp [okL, Hid], HX⟩
  case round =>
    obtain ⟨n, hn, rfl, B, rfl, HB, HX⟩ := hrel
    by_cases hlt : n < p.length
    · have hlt' : (n : Int) < p.length := by omega
      have haa : a0 = some ⟨b', o', none⟩ := HA.out.resolve_left (fun e => by rw [e] at hlt; simp at hlt)
      subst haa
      have ex := HC.out _ HX.out.low n hlt
      have HSU := hid (okL_succ hlt)
      have HLT := hid hlt
      generalize p[n] = x at *
      clear hlt
      cases B
      · go_wp2_with fail
        go_roundw
        case rel => exact ⟨n + 1, HLT.out, by go_num, false, rfl, by refine hid ?_; rw [HSU.out, ← Bool.and_assoc, ← HB.out]; rfl, HX⟩
        case measure => have := HLT.out; simp [intOf]; omega
      · go_wp2_with fail
        refine (warm_any _ _).mono ?_
        rintro e w4 ⟨rfl, rfl⟩
        rw [show (decide (-50000 ≤ x) && decide (x ≤ 200000)) = okT x from rfl]
        go_wp2_with fail
        go_roundw
        case rel => exact ⟨n + 1, HLT.out, by go_num, okT x, rfl, by refine hid ?_; rw [HSU.out, ← Bool.and_assoc, ← HB.out]; rfl, HX⟩
        case measure => have := HLT.out; simp [intOf]; omega
    · obtain rfl : n = p.length := by omega
      rw [List.take_length] at HB
      cases B
      · have HE := hid (chk4_far (vc := true) (vk := true) (t := t) (l := p) rfl HB.out.symm)
        go_wp2_with fail
        go_ret
        exact ⟨ret_int HE.out.symm, HX.out.low⟩
      · by_cases hg : 2000 < p.length
        · have HE := hid (chk4_long (vc := true) (vk := true) (t := t) (l := p) rfl HB.out.symm hg)
          have hg' : (2000 : Int) < p.length := by omega
          go_wp2_with fail
          go_ret
          exact ⟨ret_int HE.out.symm, HX.out.low⟩
        · have HE := hid (chk4_ok (vc := true) (vk := true) (t := t) (l := p) rfl HB.out.symm hg)
          have hg' : ¬ (2000 : Int) < p.length := by omega
          go_wp2_with fail
          go_ret
          exact ⟨ret_int HE.out.symm, HX.out.low⟩
theorem Kq.low {K : Kq} {W : World} (h : K.at W) : Below K.wF.heap.size K.wF W := Lt.KeptS.low h
theorem kq_V {K : Kq} {s : ByteArray} {r d g : Int} {Z : Nat} (he : K.s = s ∧ K.r = r ∧ K.Z = Z ∧ K.d = d ∧ K.g = g) (hv : Lt.validB s.data.toList r Z d g = true) : K.V := by
  obtain ⟨_, ⟨r1, r2⟩, ⟨z1, z2⟩, _, _⟩ := Lt.validB_iff.1 hv
  obtain ⟨_, e1, e2, _, _⟩ := he
  exact ⟨by omega, by omega, by omega, by omega⟩
theorem field_run (x0 x1 x2 x3 x4 x5 x6 x7 x8 x9 x10 x11 x12 : Value) (W : World) : (Instr.field 136 (.agg #[x0, x1, x2, x3, x4, x5, x6, x7, x8, x9, x10, x11, x12]) 3).run Tryz.prog W = .ok x10 W := by kernel_rfl
theorem rs_sums {c : Cn} {K : Kq} {s : ByteArray} {r d g t : Int} {Z : Nat} (p : List Int) (he : K.s = s ∧ K.r = r ∧ K.Z = Z ∧ K.d = d ∧ K.g = g) : (rsR c K.f K.u (rs0 c t) p).d = (dishR c (fun x => Lt.Pm.rateD r Z (x / 250)) (dish0 c t) p).2 := by
  rw [rsR_down]
  obtain ⟨_, e1, e2, _, _⟩ := he
  show (dishR c (Lt.dn K.r K.Z) _ p).2 = _
  rw [e1, e2]
  rfl
set_option maxRecDepth 100000 in
set_option maxHeartbeats 4000000 in
theorem xleth_ok (c : Cn) (s : ByteArray) (r d g t : Int) (Z : Nat) (v : Value) (p : List Int) (w : World) (hs : s.size ≤ maxLen) (hcv : c.V) (hv : Lt.validB s.data.toList r Z d g = true) (ho : okT t = true) (hop : okL p = true) (hlen : p.length ≤ 2000) (hl : RowI w v p) :
    Calls Tryz.prog 92 #[.agg #[.int .i64 (c.R : Int), .int .i64 (c.L : Int), .int .i64 c.A, .int .i64 c.B, .int .i64 c.K, .int .i64 c.A2, .int .i64 c.B2], .agg #[.string s, .int .i64 r, .int .i64 (Z : Int), .int .i64 d, .int .i64 g], .int .i64 t, v] w fun e w' => e = .returned (.tuple #[.int .i64 (idxA (ivN (dishR c (fun x => Lt.Pm.rateD r Z (x / 250)) (dish0 c t) p).2) (minA (ivN (dishR c (fun x => Lt.Pm.rateD r Z (x / 250)) (dish0 c t) p).2)) : Nat), .int .i64 (minA (ivN (dishR c (fun x => Lt.Pm.rateD r Z (x / 250)) (dish0 c t) p).2)), .int .i64 0]) ∧ Below w.heap.size w w' := by
  have HX := hid (box2_start (w := w) (A := #[.int .i64 (c.R : Int), .int .i64 (c.L : Int), .int .i64 c.A, .int .i64 c.B, .int .i64 c.K, .int .i64 c.A2, .int .i64 c.B2]) (B := #[.string s, .int .i64 r, .int .i64 (Z : Int), .int .i64 d, .int .i64 g]) (T := 23) (T' := 25) (fz := (0, 0)) (fz' := (0, 0)))
  obtain ⟨a0, cap, rfl⟩ := hl.shape
  have HL := hid hl
  have hcan : canB (c.R : Int) c.L c.A c.B c.K c.A2 c.B2 = true := hcv
  have hch : chk4 (canB (c.R : Int) c.L c.A c.B c.K c.A2 c.B2) (Kl.vB ⟨s, r, Z, d, g⟩) t p = 0 := by
    refine chk4_ok ?_ ?_ (by omega)
    · rw [hcan, show Kl.vB ⟨s, r, Z, d, g⟩ = true from hv]; rfl
    · rw [ho, hop]; rfl
  have HC : Hid (∀ W, RowI W (.slice a0 p.length cap) p → Calls Tryz.prog 80 #[.agg #[.int .i64 (c.R : Int), .int .i64 (c.L : Int), .int .i64 c.A, .int .i64 c.B, .int .i64 c.K, .int .i64 c.A2, .int .i64 c.B2], .agg #[.string s, .int .i64 r, .int .i64 (Z : Int), .int .i64 d, .int .i64 g], .int .i64 t, .slice a0 p.length cap] W fun e w' => e = .returned (.int .i64 0) ∧ Below W.heap.size W w') := fun W h => by
    have := xasked_any c.R c.L c.A c.B c.K c.A2 c.B2 W ⟨s, r, Z, d, g⟩ t (.slice a0 p.length cap) p hs h (by unfold maxLen; omega)
    rwa [hch] at this
  have HBG := hid (fun W => xbegun_any c s r d g t Z W hs hcv)
  have HTH := hid (fun (K : Kq) (hV : K.V) xa xc da dc ua uc W hR hK h => xthrough_any c K (rs0 c t) (.slice a0 p.length cap) p xa xc da dc ua uc W hcv.ok hV (rs0_good ho) hop hR hK h (by omega))
  have HVV := hid hv
  have HGD := hid (fun K : Kq => (rs0_good ho).run (f := K.f) (g := K.u) hcv.ok hop)
  have HPB := hid hcv.ok.p
  have hfr := field_run
  clear hcan hch hlen hop ho hv hcv hs hl
  go_enter Tryz.func92, Tryz.ntmps92
  go_wp2_with fail
  refine (HC.out _ (HL.out.keep HX.out.low)).mono ?_
  rintro e w0 ⟨rfl, hb⟩
  have HX := hid (HX.out.keep hb)
  clear hb
  have t0 := HX.out.fst 0; have t1 := HX.out.fst 1; have t2 := HX.out.fst 2; have t3 := HX.out.fst 3; have t4 := HX.out.fst 4; have t5 := HX.out.fst 5; have t6 := HX.out.fst 6
  have x0 := HX.out.snd 0; have x1 := HX.out.snd 1; have x2 := HX.out.snd 2; have x3 := HX.out.snd 3; have x4 := HX.out.snd 4
  simp only [List.getElem?_toArray, List.getElem?_cons_zero, List.getElem?_cons_succ] at t0 t1 t2 t3 t4 t5 t6 x0 x1 x2 x3 x4
  go_wp2_with fail
  refine (HBG.out _).mono ?_
  rintro e w1 ⟨K, he, hwF, hb, hwb, xa, xc, da, dc, ua, uc, rfl, hrows, hk, hst⟩
  have HX1 := hid (HX.out.keep hb)
  have hlt := Kq.lt hk
  have HBT := hid (rowK_old (gD := K.gD) (gU := K.gU) HL.out HX1.out.low (by have := HX.out.low.size; omega) (by have := HX.out.low.size; omega))
  have HRW := hid hrows
  have HKK := hid hk
  have HEQ := hid he
  have HWF := hid hwF
  clear hb hwb hlt hrows hk hst he hwF t0 t1 t2 t3 t4 t5 t6 x0 x1 x2 x3 x4
  go_wp2_with fail
  refine (HTH.out K (kq_V HEQ.out HVV.out) xa xc da dc ua uc _ HRW.out HKK.out HBT.out).mono ?_
  rintro e w2 ⟨ya, yc, ea, ec, ga, gc, rfl, hr2, hk2, hs2⟩
  have hlow := Kq.low hk2
  rw [HWF.out] at hlow
  have HX2 := hid (HX.out.keep hlow)
  have HR2 := hid hr2
  have HSM := hid (rs_sums (c := c) (t := t) p HEQ.out)
  clear hlow hr2 hk2 hs2
  have HLN := hid (show (rsR c K.f K.u (rs0 c t) p).d.length = c.P from (HGD.out K).down.len)
  go_wp2_with fail
  refine (xslow_any c K (rsR c K.f K.u (rs0 c t) p) ya yc ea ec ga gc _ HR2.out.td.row (by rw [HLN.out]; exact HPB.out.1) (by rw [HLN.out]; have := HPB.out.2; omega)).mono ?_
  rintro e w3 ⟨rfl, hb⟩
  have HX3 := hid (HX2.out.keep hb)
  clear hb
  rw [HSM.out]
  go_wp2_with fail
  go_ret3
  exact ⟨rfl, HX3.out.low⟩
theorem canB_open {r l a b k a2 b2 : Int} {q : Kl} {t : Int} {p : List Int} (h : chk4 (canB r l a b k a2 b2) q.vB t p = 0) : ∃ (c : Cn) (Z : Nat), c.V ∧ r = (c.R : Int) ∧ l = (c.L : Int) ∧ a = c.A ∧ b = c.B ∧ k = c.K ∧ a2 = c.A2 ∧ b2 = c.B2 ∧ q.z = Z ∧ Lt.validB q.s.data.toList q.r Z q.d q.g = true ∧ okT t = true ∧ okL p = true ∧ p.length ≤ 2000 := by
  obtain ⟨hc, hk, ho, hop, hlen⟩ := chk4_zero h
  obtain ⟨c, hcv, e1, e2, e3, e4, e5, e6, e7⟩ := canB_cn hc
  obtain ⟨Z, hz, hv⟩ := kl_of hk
  exact ⟨c, Z, hcv, e1, e2, e3, e4, e5, e6, e7, hz, hv, ho, hop, hlen⟩
theorem sumsO_cn {c : Cn} {q : Kl} {Z : Nat} {t : Int} {p : List Int} (hz : q.z = Z) (h : chk4 (canB (c.R : Int) c.L c.A c.B c.K c.A2 c.B2) q.vB t p = 0) : sumsO c.R c.L c.A c.B c.K c.A2 c.B2 q t p = (dishR c (fun x => Lt.Pm.rateD q.r Z (x / 250)) (dish0 c t) p).2 := by
  unfold sumsO; rw [if_pos h, cnOf_cn, hz]
set_option maxRecDepth 100000 in
set_option maxHeartbeats 4000000 in
theorem xleth_any (r l a b k a2 b2 : Int) (w : World) (q : Kl) (t : Int) (v : Value) (p : List Int) (hs : q.s.size ≤ maxLen) (hl : RowI w v p) (hpm : p.length ≤ maxLen) :
    Calls Tryz.prog 92 #[.agg #[.int .i64 r, .int .i64 l, .int .i64 a, .int .i64 b, .int .i64 k, .int .i64 a2, .int .i64 b2], .agg #[.string q.s, .int .i64 q.r, .int .i64 q.z, .int .i64 q.d, .int .i64 q.g], .int .i64 t, v] w fun e w' => e = .returned (.tuple #[.int .i64 (slowO (sumsO r l a b k a2 b2 q t p)), .int .i64 (lowO (sumsO r l a b k a2 b2 q t p)), .int .i64 (chk4 (canB r l a b k a2 b2) q.vB t p)]) ∧ Below w.heap.size w w' := by
  by_cases h : chk4 (canB r l a b k a2 b2) q.vB t p = 0
  · have hne : sumsO r l a b k a2 b2 q t p ≠ [] := fun e => by
      obtain ⟨h1, h2, _⟩ := sumsO_len (r := r) (l := l) (a := a) (b := b) (k := k) (a2 := a2) (b2 := b2) (q := q) (t := t) (p := p) h
      rw [e] at h1; simp at h1; omega
    obtain ⟨c, Z, hcv, rfl, rfl, rfl, rfl, rfl, rfl, rfl, hz, hv, ho, hop, hlen⟩ := canB_open h
    unfold slowO lowO
    rw [if_neg hne, if_neg hne, sumsO_cn hz h, h, hz]
    exact xleth_ok c q.s q.r q.d q.g t Z v p w hs hcv hv ho hop hlen hl
  · rw [sumsO_no h]
    have HX := hid (box2_start (w := w) (A := #[.int .i64 r, .int .i64 l, .int .i64 a, .int .i64 b, .int .i64 k, .int .i64 a2, .int .i64 b2]) (B := #[.string q.s, .int .i64 q.r, .int .i64 q.z, .int .i64 q.d, .int .i64 q.g]) (T := 23) (T' := 25) (fz := (0, 0)) (fz' := (0, 0)))
    obtain ⟨a0, cap, rfl⟩ := hl.shape
    have HL := hid hl
    have HC := hid (fun W h => xasked_any r l a b k a2 b2 W q t (.slice a0 p.length cap) p hs h hpm)
    generalize chk4 (canB r l a b k a2 b2) q.vB t p = ce at *
    have hc1 : (ce != 0) = true := by simpa using h
    clear h hl hs hpm
    go_enter Tryz.func92, Tryz.ntmps92
    go_wp2_with fail
    refine (HC.out _ (HL.out.keep HX.out.low)).mono ?_
    rintro e w1 ⟨rfl, hb⟩
    have HX := hid (HX.out.keep hb)
    clear hb
    go_wp2_with fail
    refine bodyPost_ret (v := .tuple #[.int .i64 0, .int .i64 0, .int .i64 ce]) (by simp [results, Tryz.results92, go_sem]) rfl ⟨?_, HX.out.low⟩
    simp [slowO, lowO]
set_option maxRecDepth 20000 in
set_option maxHeartbeats 4000000 in
theorem xster_any (r l a b k a2 b2 : Int) (w : World) (q : Kl) (t : Int) (v : Value) (p : List Int) (hs : q.s.size ≤ maxLen) (hl : RowI w v p) (hpm : p.length ≤ maxLen) :
    Calls Tryz.prog 50 #[.agg #[.int .i64 r, .int .i64 l, .int .i64 a, .int .i64 b, .int .i64 k, .int .i64 a2, .int .i64 b2], .agg #[.string q.s, .int .i64 q.r, .int .i64 q.z, .int .i64 q.d, .int .i64 q.g], .int .i64 t, v] w fun e w' => e = .returned (.tuple #[.bool (sterO q (lowO (sumsO r l a b k a2 b2 q t p)) (chk4 (canB r l a b k a2 b2) q.vB t p)), .int .i64 (chk4 (canB r l a b k a2 b2) q.vB t p)]) ∧ Below w.heap.size w w' := by
  have HX := hid (box2_start (w := w) (A := #[.int .i64 r, .int .i64 l, .int .i64 a, .int .i64 b, .int .i64 k, .int .i64 a2, .int .i64 b2]) (B := #[.string q.s, .int .i64 q.r, .int .i64 q.z, .int .i64 q.d, .int .i64 q.g]) (T := 23) (T' := 25) (fz := (0, 0)) (fz' := (0, 0)))
  have HL := hid (fun w1 (g : Below w.heap.size w w1) => hl.keep g)
  obtain ⟨a0, cap, rfl⟩ := hl.shape
  have HP := hid (fun W h => xleth_any r l a b k a2 b2 W q t (.slice a0 p.length cap) p hs h hpm)
  have HZ := hid (fun h => (chk4_zero (vc := canB r l a b k a2 b2) (vk := q.vB) (t := t) (l := p) h).2.1)
  have HND := hid (fun (h : q.vB = true) (W : World) => Lt.rneeds_yes q.s q.r q.z q.d q.g W hs h)
  generalize slowO (sumsO r l a b k a2 b2 q t p) = sl at *
  generalize lowO (sumsO r l a b k a2 b2 q t p) = lw at *
  generalize chk4 (canB r l a b k a2 b2) q.vB t p = ce at *
  clear hl hs hpm
  by_cases hce : ce = 0
  · have HN := hid (HND.out (HZ.out hce))
    subst hce
    have HE := hid (show sterO q lw 0 = decide (q.g * (q.d * 1000000) ≤ lw) by unfold sterO; simp)
    generalize q.g * (q.d * 1000000) = nd at *
    go_enter Tryz.func50, Tryz.ntmps50
    go_wp2_with fail
    refine (HP.out _ (HL.out _ HX.out.low)).mono ?_
    rintro e w1 ⟨rfl, hb⟩
    have HX := hid (HX.out.keep hb)
    clear hb
    have x0 := HX.out.snd 0; have x1 := HX.out.snd 1; have x2 := HX.out.snd 2; have x3 := HX.out.snd 3; have x4 := HX.out.snd 4
    simp only [List.getElem?_toArray, List.getElem?_cons_zero, List.getElem?_cons_succ] at x0 x1 x2 x3 x4
    go_wp2_with fail
    refine (HN.out _).mono ?_
    rintro e w2 ⟨rfl, hb⟩
    have HX := hid (HX.out.keep hb)
    clear hb
    go_wp2_with fail
    go_ret2
    exact ⟨by rw [HE.out]; rfl, HX.out.low⟩
  · have HE := hid (show sterO q lw ce = false by unfold sterO; simp [hce])
    have hc1 : (ce == 0) = false := by simpa using hce
    clear hce
    go_enter Tryz.func50, Tryz.ntmps50
    go_wp2_with fail
    refine (HP.out _ (HL.out _ HX.out.low)).mono ?_
    rintro e w1 ⟨rfl, hb⟩
    have HX := hid (HX.out.keep hb)
    clear hb
    go_wp2_with fail
    go_ret2
    exact ⟨by rw [HE.out]; rfl, HX.out.low⟩
end Go.Proofs.YtihbjimnjhfpeaaGreat

/- Walk of enough and of a search's sterile: contracts, for a meter whose map stays. -/
namespace Go.Proofs.YtihbjimnjhfpeaaGreat
open Go.RowKit Go.Lib

/-- What the rate stands on says what the map at mb holds. -/
def Fix (I : World → Prop) (mb : Nat) : Prop := ∃ o : Obj, ∀ W, I W → W.heap[mb]? = some o
theorem Fix.low {I : World → Prop} {mb : Nat} {W W' : World} (h : Fix I mb) (h1 : I W) (h2 : I W') (hg : W.grownBy W' (some mb)) : Below W.heap.size W W' := by
  obtain ⟨o, ho⟩ := h
  refine ⟨hg.os, hg.tape, hg.output, hg.size, fun k hk => ?_⟩
  by_cases e : k = mb
  · subst e; rw [ho _ h1, ho _ h2]
  · exact hg.block k hk (fun h => e (Option.some.inj h))
/-- The sums of a dish are what is needed. -/
def enD (need : Int) (D : Dish) : Bool := decide (need ≤ minA (ivN D.2))
def RawEn (c : Cn) (need : Int) (F : Nat) (lb : Array Value) (D : Dish) (ua ub : Option Addr) (uc ud : Nat) (w W : World) : Prop :=
  W.cell? ⟨w.heap.size, 7, none⟩ = some (.int .i64 need) ∧ W.cell? ⟨w.heap.size + 1, 2, none⟩ = some (.slice ub D.2.length ud) ∧
  B2 w W 80 89 #[.int .i64 (c.R : Int), .int .i64 (c.L : Int), .int .i64 c.A, .int .i64 c.B, .int .i64 c.K, .int .i64 c.A2, .int .i64 c.B2, .int .i64 need, .func (.func F) #[] lb] #[.slice ua D.1.1.length uc, .bool D.1.2, .slice ub D.2.length ud] ∧ RowI W (.slice ub D.2.length ud) (ivN D.2)
theorem rawEn {c : Cn} {need : Int} {F : Nat} {lb : Array Value} {D : Dish} {ua ub : Option Addr} {uc ud : Nat} {w W : World} (h : B2 w W 80 89 #[.int .i64 (c.R : Int), .int .i64 (c.L : Int), .int .i64 c.A, .int .i64 c.B, .int .i64 c.K, .int .i64 c.A2, .int .i64 c.B2, .int .i64 need, .func (.func F) #[] lb] #[.slice ua D.1.1.length uc, .bool D.1.2, .slice ub D.2.length ud]) (hr : RowI W (.slice ub D.2.length ud) (ivN D.2)) : RawEn c need F lb D ua ub uc ud w W :=
  ⟨cell_of_row _ _ 7 _ _ _ h.one, cell_of_row _ _ 2 _ _ _ h.two, h, hr⟩
set_option maxRecDepth 20000 in
set_option maxHeartbeats 4000000 in
theorem enough_any (c : Cn) (need : Int) (F : Nat) (lb : Array Value) (D : Dish) (ua ub : Option Addr) (uc ud : Nat) (w : World) (h0 : 0 < D.2.length) (h1 : D.2.length ≤ 48) (hs : RowI w (.slice ub D.2.length ud) (ivN D.2)) :
    Calls Tryz.prog 145 #[.agg #[.int .i64 (c.R : Int), .int .i64 (c.L : Int), .int .i64 c.A, .int .i64 c.B, .int .i64 c.K, .int .i64 c.A2, .int .i64 c.B2, .int .i64 need, .func (.func F) #[] lb], .agg #[.slice ua D.1.1.length uc, .bool D.1.2, .slice ub D.2.length ud]] w fun e w' => e = .returned (.bool (enD need D)) ∧ Below w.heap.size w w' := by
  have HX := hid (b2_start (w := w) (T1 := 80) (T2 := 89) (A := #[.int .i64 (c.R : Int), .int .i64 (c.L : Int), .int .i64 c.A, .int .i64 c.B, .int .i64 c.K, .int .i64 c.A2, .int .i64 c.B2, .int .i64 need, .func (.func F) #[] lb]) (B := #[.slice ua D.1.1.length uc, .bool D.1.2, .slice ub D.2.length ud]))
  have HMN := hid (fun (W : World) (h : RowI W (.slice ub D.2.length ud) (ivN D.2)) => minA_any _ (ivN D.2) W h (by rw [ivN_len]; omega) (by rw [ivN_len]; omega))
  have HL := hid (fun W (g : Below w.heap.size w W) => hs.keep g)
  unfold enD
  generalize minA (ivN D.2) = mn at *
  clear hs h0 h1
  go_enter Tryz.func145, Tryz.ntmps145
  go_wp2_with fail
  have HL2 := hid (HL.out _ HX.out.low)
  refine wp_region_sink (S := RawEn c need F lb D ua ub uc ud w) 6 (by kernel_rfl) (by kernel_rfl) (by kernel_rfl) (by kernel_rfl) (rawEn (HX.out.keep (Below.refl _ _).drew) (HL2.out.keep (Below.refl _ _).drew)) (fun hS0 => ?_)
  refine wpAnyH_take (i := 0) (v := ?_) rfl (by kernel_rfl) (by kernel_rfl) (by kernel_rfl) (fun _ _ _ h => h) (Or.inl ⟨by rfl, ?_⟩) hS0 ?_
  rotate_left
  · intro w' hSw
    obtain ⟨q0, q1, _⟩ := hSw
    go_simp
    try with_reducible rfl
  try simp only [Act.put]
  try simp only [List.setIfInBounds_toArray]
  try simp only [List.set_cons_zero, List.set_cons_succ]
  refine wpAnyH_take (i := 1) (v := ?_) rfl (by kernel_rfl) (by kernel_rfl) (by kernel_rfl) (fun _ _ _ h => h) (Or.inl ⟨by rfl, ?_⟩) hS0 ?_
  rotate_left
  · intro w' hSw
    obtain ⟨q0, q1, _⟩ := hSw
    go_simp
    try with_reducible rfl
  try simp only [Act.put]
  try simp only [List.setIfInBounds_toArray]
  try simp only [List.set_cons_zero, List.set_cons_succ]
  refine wpAnyH_take (i := 3) (v := ?_) rfl (by kernel_rfl) (by kernel_rfl) (by kernel_rfl) (fun _ _ _ h => h) (Or.inl ⟨by rfl, ?_⟩) hS0 ?_
  rotate_left
  · intro w' hSw
    obtain ⟨q0, q1, _⟩ := hSw
    go_simp
    try with_reducible rfl
  try simp only [Act.put]
  try simp only [List.setIfInBounds_toArray]
  try simp only [List.set_cons_zero, List.set_cons_succ]
  refine wpAnyH_take (i := 4) (v := ?_) rfl (by kernel_rfl) (by kernel_rfl) (by kernel_rfl) (fun _ _ _ h => h) (Or.inl ⟨by rfl, ?_⟩) hS0 ?_
  rotate_left
  · intro w' hSw
    obtain ⟨q0, q1, _⟩ := hSw
    go_simp
    try with_reducible rfl
  try simp only [Act.put]
  try simp only [List.setIfInBounds_toArray]
  try simp only [List.set_cons_zero, List.set_cons_succ]
  (refine wpAnyH_ready (rs := [2]) (by kernel_rfl) (by simp) ?_)
  refine AllReadyH.cons rfl (fun K hK => ?_) AllReadyH.nil
  go_simp
  refine (HMN.out _ hS0.2.2.2).mono ?_
  rintro e w5 ⟨rfl, rfl⟩
  (refine hK.out _ _ (hS0) (fun hS1 => ?_); clear hK K)
  refine wpAnyH_take (i := 5) (v := ?_) rfl (by kernel_rfl) (by kernel_rfl) (by kernel_rfl) (fun _ _ _ h => h) (Or.inl ⟨by rfl, ?_⟩) hS1 ?_
  rotate_left
  · intro w' hSw
    obtain ⟨q0, q1, _⟩ := hSw
    go_simp
    try with_reducible rfl
  try simp only [Act.put]
  try simp only [List.setIfInBounds_toArray]
  try simp only [List.set_cons_zero, List.set_cons_succ]
  refine wpAnyH_done (by kernel_rfl) ?_ _
  have HX9 := hid hS1.2.2.1
  refine sink_last rfl (fun K hK => ?_)
  go_simp
  refine hK.out _ _ ?_
  clear hK K
  go_wp2_with fail
  refine bodyPost_ret (v := .bool (decide (need ≤ mn))) (by simp [results, Tryz.results145, go_sem]) rfl ⟨rfl, HX9.out.low⟩

/-- The dish after n ticks in a bath. -/
def afN (c : Cn) (f : Int → Nat) (D : Dish) (b : Int) (n : Nat) : Dish := dishR c f D (List.replicate n b)
theorem afN_zero (c : Cn) (f : Int → Nat) (D : Dish) (b : Int) : afN c f D b 0 = D := dishR_nil c f D
theorem afN_succ (c : Cn) (f : Int → Nat) (D : Dish) (b : Int) (n : Nat) : afN c f D b (n + 1) = dishT c f (afN c f D b n) b := by
  unfold afN
  have h := dishR_succ c f D (List.replicate (n + 1) b) n (by simp)
  simpa [List.take_replicate] using h
theorem afN_good {c : Cn} {f : Int → Nat} {D : Dish} {b : Int} (n : Nat) (hv : c.Ok) (hG : Good c D) (hb : okT b = true) : Good c (afN c f D b n) :=
  hG.run hv (by simp [okL, hb])
theorem afN_bd {c : Cn} {f : Int → Nat} {D : Dish} {b lo hi : Int} (n : Nat) (hv : c.Ok) (hG : Good c D) (hb : lo ≤ b ∧ b ≤ hi) (hD : ∀ t ∈ D.1.1, lo ≤ t ∧ t ≤ hi) : ∀ t ∈ (afN c f D b n).1.1, lo ≤ t ∧ t ≤ hi := by
  unfold afN
  rw [dishR_body]
  exact runS_bd hv _ _ (bodyV_iff.1 hG.body).1 hD (fun x hx => by have := List.eq_of_mem_replicate hx; omega)
end Go.Proofs.YtihbjimnjhfpeaaGreat
