/- Walk of the reference's Best: contract. -/
import Derived.Test.YtihbjimnjhfpeaaGreatG45
namespace Go.Proofs.YtihbjimnjhfpeaaGreat
open Go.RowKit Go.Lib

theorem bestA_no {r l a b k a2 b2 t cold cooling : Int} {q x : Kl} {p : List Int} (h : ((q.vB && x.vB) && canB r l a b k a2 b2) = false) : bestA r l a b k a2 b2 q x t cold cooling p = .tuple #[.int .i64 0, .int .i64 0, .int .i64 1] := by
  unfold bestA
  rw [show bsE (canB r l a b k a2 b2) q.vB x.vB t cold cooling p = 1 by unfold bsE; rw [if_pos h]]
  rfl
theorem bestA_far {r l a b k a2 b2 t cold cooling : Int} {q x : Kl} {p : List Int} (h0 : ((q.vB && x.vB) && canB r l a b k a2 b2) = true) (h : ((okL [t, cold] && okL p) && ticksB [cooling]) = false) : bestA r l a b k a2 b2 q x t cold cooling p = .tuple #[.int .i64 0, .int .i64 0, .int .i64 7] := by
  unfold bestA
  rw [show bsE (canB r l a b k a2 b2) q.vB x.vB t cold cooling p = 7 by unfold bsE; rw [if_neg (by rw [h0]; simp), if_pos h]]
  rfl
theorem bestA_long {r l a b k a2 b2 t cold cooling : Int} {q x : Kl} {p : List Int} (h0 : ((q.vB && x.vB) && canB r l a b k a2 b2) = true) (h : ((okL [t, cold] && okL p) && ticksB [cooling]) = true) (h2 : 64 < p.length) : bestA r l a b k a2 b2 q x t cold cooling p = .tuple #[.int .i64 0, .int .i64 0, .int .i64 4] := by
  unfold bestA
  rw [show bsE (canB r l a b k a2 b2) q.vB x.vB t cold cooling p = 4 by unfold bsE; rw [if_neg (by rw [h0]; simp), if_neg (by rw [h]; simp), if_pos h2]]
  rfl
theorem bestA_ok {c : Cn} {q x : Kl} {t cold : Int} {cooling Z Y : Nat} {p : List Int} (h0 : ((q.vB && x.vB) && canB (c.R : Int) c.L c.A c.B c.K c.A2 c.B2) = true) (hz : q.z = Z) (hy : x.z = Y) (h : ((okL [t, cold] && okL p) && ticksB [(cooling : Int)]) = true) (h2 : ¬ 64 < p.length) : bestA c.R c.L c.A c.B c.K c.A2 c.B2 q x t cold cooling p = bstV (bstO (mL c q Z t cold cooling) (spB c x Y t cold cooling) p p.length) := by
  unfold bestA
  rw [if_pos (show bsE (canB (c.R : Int) c.L c.A c.B c.K c.A2 c.B2) q.vB x.vB t cold cooling p = 0 by unfold bsE; rw [if_neg (by rw [h0]; simp), if_neg (by rw [h]; simp), if_neg h2]), cnOf_cn, hz, hy, Int.toNat_natCast, Int.toNat_natCast, Int.toNat_natCast]
theorem spo_eq {c : Cn} {x : Kl} {Y : Nat} {t cold : Int} {cooling : Nat} {b : Int} {n : Nat} (hcan : canB (c.R : Int) c.L c.A c.B c.K c.A2 c.B2 = true) (hx : x.vB = true) (hy : x.z = Y) (ho : okT t = true) :
    spoO c.R c.L c.A c.B c.K c.A2 c.B2 x t (cookL b n cold cooling) = spB c x Y t cold cooling b n := by
  unfold spoO spB
  rw [if_pos (chk4_ok (by rw [hcan, hx]; rfl) (by rw [ho, cookL_ok]; rfl) (by have := cookL_len b n cold cooling; omega)), cnOf_cn, hy, Int.toNat_natCast]
set_option maxRecDepth 20000 in
set_option maxHeartbeats 8000000 in
theorem xbest_no (r l a b k a2 b2 : Int) (w : World) (q x : Kl) (t cold cooling : Int) (v : Value) (p : List Int) (hs : q.s.size ≤ maxLen) (hx : x.s.size ≤ maxLen) (hne : ((q.vB && x.vB) && canB r l a b k a2 b2) = false) :
    Calls Tryz.prog 10 #[.agg #[.int .i64 r, .int .i64 l, .int .i64 a, .int .i64 b, .int .i64 k, .int .i64 a2, .int .i64 b2], .agg #[.string q.s, .int .i64 q.r, .int .i64 q.z, .int .i64 q.d, .int .i64 q.g], .agg #[.string x.s, .int .i64 x.r, .int .i64 x.z, .int .i64 x.d, .int .i64 x.g], .int .i64 t, v, .int .i64 cold, .int .i64 cooling] w (BsP (bestA r l a b k a2 b2 q x t cold cooling p) w) := by
  have HX := hid (b3_start (w := w) (T1 := 23) (T2 := 25) (T3 := 25) (A := #[.int .i64 r, .int .i64 l, .int .i64 a, .int .i64 b, .int .i64 k, .int .i64 a2, .int .i64 b2]) (B := #[.string q.s, .int .i64 q.r, .int .i64 q.z, .int .i64 q.d, .int .i64 q.g]) (R := #[.string x.s, .int .i64 x.r, .int .i64 x.z, .int .i64 x.d, .int .i64 x.g]))
  have HE := hid (bestA_no (t := t) (cold := cold) (cooling := cooling) (p := p) hne)
  have HS : Hid (∀ W, Calls Tryz.prog 18 #[.agg #[.string x.s, .int .i64 x.r, .int .i64 x.z, .int .i64 x.d, .int .i64 x.g]] W fun e w' => e = .returned (.bool x.vB) ∧ Below W.heap.size W w') := fun W => Lt.rvalid_any x.s x.r x.z x.d x.g W hx
  have HV := hid (fun W => rvcan_any r l a b k a2 b2 W)
  have HQ : Hid (∀ W, Calls Tryz.prog 18 #[.agg #[.string q.s, .int .i64 q.r, .int .i64 q.z, .int .i64 q.d, .int .i64 q.g]] W fun e w' => e = .returned (.bool q.vB) ∧ Below W.heap.size W w') := fun W => Lt.rvalid_any q.s q.r q.z q.d q.g W hs
  clear hs hx
  have x0 := HX.out.can 0; have x1 := HX.out.can 1; have x2 := HX.out.can 2; have x3 := HX.out.can 3; have x4 := HX.out.can 4; have x5 := HX.out.can 5; have x6 := HX.out.can 6; have y0 := HX.out.kil 0; have y1 := HX.out.kil 1; have y2 := HX.out.kil 2; have y3 := HX.out.kil 3; have y4 := HX.out.kil 4; have z0 := HX.out.spo 0; have z1 := HX.out.spo 1; have z2 := HX.out.spo 2; have z3 := HX.out.spo 3; have z4 := HX.out.spo 4; simp only [List.getElem?_toArray, List.getElem?_cons_zero, List.getElem?_cons_succ] at x0 x1 x2 x3 x4 x5 x6 y0 y1 y2 y3 y4 z0 z1 z2 z3 z4
  cases h1 : x.vB
  · rw [h1] at HS
    clear hne h1
    go_enter Tryz.func10, Tryz.ntmps10
    go_wp2_with fail
    refine (HS.out _).mono ?_
    rintro e w1 ⟨rfl, hb⟩
    have HX := hid (HX.out.keep hb)
    clear hb
    clear x0 x1 x2 x3 x4 x5 x6 y0 y1 y2 y3 y4 z0 z1 z2 z3 z4
    go_wp2_with fail
    refine bodyPost_ret (v := .tuple #[.int .i64 0, .int .i64 0, .int .i64 1]) (by simp [results, Tryz.results10, go_sem]) rfl ⟨by rw [HE.out], HX.out.low⟩
  rw [h1] at HS hne
  cases h2 : canB r l a b k a2 b2
  · rw [h2] at HV
    clear hne h1 h2
    go_enter Tryz.func10, Tryz.ntmps10
    go_wp2_with fail
    refine (HS.out _).mono ?_
    rintro e w1 ⟨rfl, hb⟩
    have HX := hid (HX.out.keep hb)
    clear hb
    clear x0 x1 x2 x3 x4 x5 x6 y0 y1 y2 y3 y4 z0 z1 z2 z3 z4
    have x0 := HX.out.can 0; have x1 := HX.out.can 1; have x2 := HX.out.can 2; have x3 := HX.out.can 3; have x4 := HX.out.can 4; have x5 := HX.out.can 5; have x6 := HX.out.can 6; have y0 := HX.out.kil 0; have y1 := HX.out.kil 1; have y2 := HX.out.kil 2; have y3 := HX.out.kil 3; have y4 := HX.out.kil 4; have z0 := HX.out.spo 0; have z1 := HX.out.spo 1; have z2 := HX.out.spo 2; have z3 := HX.out.spo 3; have z4 := HX.out.spo 4; simp only [List.getElem?_toArray, List.getElem?_cons_zero, List.getElem?_cons_succ] at x0 x1 x2 x3 x4 x5 x6 y0 y1 y2 y3 y4 z0 z1 z2 z3 z4
    go_wp2_with fail
    refine (HV.out _).mono ?_
    rintro e w2 ⟨rfl, hb⟩
    have HX := hid (HX.out.keep hb)
    clear hb
    clear x0 x1 x2 x3 x4 x5 x6 y0 y1 y2 y3 y4 z0 z1 z2 z3 z4
    go_wp2_with fail
    refine bodyPost_ret (v := .tuple #[.int .i64 0, .int .i64 0, .int .i64 1]) (by simp [results, Tryz.results10, go_sem]) rfl ⟨by rw [HE.out], HX.out.low⟩
  rw [h2] at HV hne
  have h3 : q.vB = false := by simpa using hne
  rw [h3] at HQ
  clear hne h1 h2 h3
  go_enter Tryz.func10, Tryz.ntmps10
  go_wp2_with fail
  refine (HS.out _).mono ?_
  rintro e w1 ⟨rfl, hb⟩
  have HX := hid (HX.out.keep hb)
  clear hb
  clear x0 x1 x2 x3 x4 x5 x6 y0 y1 y2 y3 y4 z0 z1 z2 z3 z4
  have x0 := HX.out.can 0; have x1 := HX.out.can 1; have x2 := HX.out.can 2; have x3 := HX.out.can 3; have x4 := HX.out.can 4; have x5 := HX.out.can 5; have x6 := HX.out.can 6; have y0 := HX.out.kil 0; have y1 := HX.out.kil 1; have y2 := HX.out.kil 2; have y3 := HX.out.kil 3; have y4 := HX.out.kil 4; have z0 := HX.out.spo 0; have z1 := HX.out.spo 1; have z2 := HX.out.spo 2; have z3 := HX.out.spo 3; have z4 := HX.out.spo 4; simp only [List.getElem?_toArray, List.getElem?_cons_zero, List.getElem?_cons_succ] at x0 x1 x2 x3 x4 x5 x6 y0 y1 y2 y3 y4 z0 z1 z2 z3 z4
  go_wp2_with fail
  refine (HV.out _).mono ?_
  rintro e w2 ⟨rfl, hb⟩
  have HX := hid (HX.out.keep hb)
  clear hb
  clear x0 x1 x2 x3 x4 x5 x6 y0 y1 y2 y3 y4 z0 z1 z2 z3 z4
  have x0 := HX.out.can 0; have x1 := HX.out.can 1; have x2 := HX.out.can 2; have x3 := HX.out.can 3; have x4 := HX.out.can 4; have x5 := HX.out.can 5; have x6 := HX.out.can 6; have y0 := HX.out.kil 0; have y1 := HX.out.kil 1; have y2 := HX.out.kil 2; have y3 := HX.out.kil 3; have y4 := HX.out.kil 4; have z0 := HX.out.spo 0; have z1 := HX.out.spo 1; have z2 := HX.out.spo 2; have z3 := HX.out.spo 3; have z4 := HX.out.spo 4; simp only [List.getElem?_toArray, List.getElem?_cons_zero, List.getElem?_cons_succ] at x0 x1 x2 x3 x4 x5 x6 y0 y1 y2 y3 y4 z0 z1 z2 z3 z4
  go_wp2_with fail
  refine (HQ.out _).mono ?_
  rintro e w3 ⟨rfl, hb⟩
  have HX := hid (HX.out.keep hb)
  clear hb
  clear x0 x1 x2 x3 x4 x5 x6 y0 y1 y2 y3 y4 z0 z1 z2 z3 z4
  go_wp2_with fail
  refine bodyPost_ret (v := .tuple #[.int .i64 0, .int .i64 0, .int .i64 1]) (by simp [results, Tryz.results10, go_sem]) rfl ⟨by rw [HE.out], HX.out.low⟩
set_option maxRecDepth 100000 in
set_option maxHeartbeats 16000000 in
theorem xbest_yes (c : Cn) (q x : Kl) (t cold cooling : Int) (Z Y : Nat) (v : Value) (p : List Int) (w : World) (hz : q.z = Z) (hy : x.z = Y) (hs : q.s.size ≤ maxLen) (hx : x.s.size ≤ maxLen) (hcv : c.V) (hv : Lt.validB q.s.data.toList q.r Z q.d q.g = true) (hv2 : Lt.validB x.s.data.toList x.r Y x.d x.g = true) (hpm : p.length ≤ maxLen) (hl : RowI w v p) :
    Calls Tryz.prog 10 #[.agg #[.int .i64 (c.R : Int), .int .i64 (c.L : Int), .int .i64 c.A, .int .i64 c.B, .int .i64 c.K, .int .i64 c.A2, .int .i64 c.B2], .agg #[.string q.s, .int .i64 q.r, .int .i64 q.z, .int .i64 q.d, .int .i64 q.g], .agg #[.string x.s, .int .i64 x.r, .int .i64 x.z, .int .i64 x.d, .int .i64 x.g], .int .i64 t, v, .int .i64 cold, .int .i64 cooling] w (BsP (bestA c.R c.L c.A c.B c.K c.A2 c.B2 q x t cold cooling p) w) := by
  have hcan : canB (c.R : Int) c.L c.A c.B c.K c.A2 c.B2 = true := hcv
  have hkv : q.vB = true := by show Lt.validB q.s.data.toList q.r q.z q.d q.g = true; rw [hz]; exact hv
  have hxv : x.vB = true := by show Lt.validB x.s.data.toList x.r x.z x.d x.g = true; rw [hy]; exact hv2
  have hall : ((q.vB && x.vB) && canB (c.R : Int) c.L c.A c.B c.K c.A2 c.B2) = true := by rw [hkv, hxv, hcan]; rfl
  have HX := hid (b3_start (w := w) (T1 := 23) (T2 := 25) (T3 := 25) (A := #[.int .i64 (c.R : Int), .int .i64 (c.L : Int), .int .i64 c.A, .int .i64 c.B, .int .i64 c.K, .int .i64 c.A2, .int .i64 c.B2]) (B := #[.string q.s, .int .i64 q.r, .int .i64 q.z, .int .i64 q.d, .int .i64 q.g]) (R := #[.string x.s, .int .i64 x.r, .int .i64 x.z, .int .i64 x.d, .int .i64 x.g]))
  obtain ⟨a0, b', o', cap, rfl, ha, hc, _⟩ := hl.form
  have HCE := hid (fun w1 (g : Below w.heap.size w w1) k (hk : k < p.length) => keep_cell g (hc k hk))
  have HA := hid ha
  have HS : Hid (∀ W, Calls Tryz.prog 18 #[.agg #[.string x.s, .int .i64 x.r, .int .i64 x.z, .int .i64 x.d, .int .i64 x.g]] W fun e w' => e = .returned (.bool true) ∧ Below W.heap.size W w') := fun W => by
    have := Lt.rvalid_any x.s x.r x.z x.d x.g W hx
    rwa [show Lt.validB x.s.data.toList x.r x.z x.d x.g = true from hxv] at this
  have HV := hid (fun W => rvcan_any c.R c.L c.A c.B c.K c.A2 c.B2 W)
  rw [hcan] at HV
  have HQ : Hid (∀ W, Calls Tryz.prog 18 #[.agg #[.string q.s, .int .i64 q.r, .int .i64 q.z, .int .i64 q.d, .int .i64 q.g]] W fun e w' => e = .returned (.bool true) ∧ Below W.heap.size W w') := fun W => by
    have := Lt.rvalid_any q.s q.r q.z q.d q.g W hs
    rwa [show Lt.validB q.s.data.toList q.r q.z q.d q.g = true from hkv] at this
  have HE := hid (fun W => xlerr_any c.R c.L c.A c.B c.K c.A2 c.B2 W q t cold cold cooling hs)
  rw [hcan, hkv] at HE
  have HWA : Hid (∀ (y : Int) (W : World), Calls Tryz.prog 36 #[.int .i64 y] W fun e w' => e = .returned (.bool (okT y)) ∧ W = w') := fun y W => warm_any y W
  have HNO := hid (fun h => bestA_far (t := t) (cold := cold) (cooling := cooling) (p := p) hall h)
  have HLO := hid (fun h => bestA_long (t := t) (cold := cold) (cooling := cooling) (p := p) hall h)
  unfold maxLen at hpm
  by_cases h3 : leE true true t cold cold cooling = 0
  case neg =>
    have h7 : (((okT t && okT cold) && okT cold) && tick1 cooling) = false ∧ leE true true t cold cold cooling = 7 := by
      unfold leE at h3 ⊢
      rw [if_neg (by simp)] at h3 ⊢
      by_cases h9 : (((okT t && okT cold) && okT cold) && tick1 cooling) = false
      · exact ⟨h9, by rw [if_pos h9]⟩
      · rw [if_neg h9] at h3
        exact absurd rfl h3
    rw [h7.2] at HE
    have HF := hid (HNO.out (by
      have h8 := h7.1
      rw [ticksB_one]
      simp only [okL, List.all_cons, List.all_nil, Bool.and_true]
      revert h8
      cases okT t <;> cases okT cold <;> cases tick1 cooling <;> simp))
    clear hcan hkv hxv hall hs hx hcv hv hv2 hpm hl ha hc h3 h7 hz hy
    have x0 := HX.out.can 0; have x1 := HX.out.can 1; have x2 := HX.out.can 2; have x3 := HX.out.can 3; have x4 := HX.out.can 4; have x5 := HX.out.can 5; have x6 := HX.out.can 6; have y0 := HX.out.kil 0; have y1 := HX.out.kil 1; have y2 := HX.out.kil 2; have y3 := HX.out.kil 3; have y4 := HX.out.kil 4; have z0 := HX.out.spo 0; have z1 := HX.out.spo 1; have z2 := HX.out.spo 2; have z3 := HX.out.spo 3; have z4 := HX.out.spo 4; simp only [List.getElem?_toArray, List.getElem?_cons_zero, List.getElem?_cons_succ] at x0 x1 x2 x3 x4 x5 x6 y0 y1 y2 y3 y4 z0 z1 z2 z3 z4
    go_enter Tryz.func10, Tryz.ntmps10
    go_wp2_with fail
    refine (HS.out _).mono ?_
    rintro e w1 ⟨rfl, hb⟩
    have HX := hid (HX.out.keep hb)
    clear hb
    clear x0 x1 x2 x3 x4 x5 x6 y0 y1 y2 y3 y4 z0 z1 z2 z3 z4
    have x0 := HX.out.can 0; have x1 := HX.out.can 1; have x2 := HX.out.can 2; have x3 := HX.out.can 3; have x4 := HX.out.can 4; have x5 := HX.out.can 5; have x6 := HX.out.can 6; have y0 := HX.out.kil 0; have y1 := HX.out.kil 1; have y2 := HX.out.kil 2; have y3 := HX.out.kil 3; have y4 := HX.out.kil 4; have z0 := HX.out.spo 0; have z1 := HX.out.spo 1; have z2 := HX.out.spo 2; have z3 := HX.out.spo 3; have z4 := HX.out.spo 4; simp only [List.getElem?_toArray, List.getElem?_cons_zero, List.getElem?_cons_succ] at x0 x1 x2 x3 x4 x5 x6 y0 y1 y2 y3 y4 z0 z1 z2 z3 z4
    go_wp2_with fail
    refine (HV.out _).mono ?_
    rintro e w2 ⟨rfl, hb⟩
    have HX := hid (HX.out.keep hb)
    clear hb
    clear x0 x1 x2 x3 x4 x5 x6 y0 y1 y2 y3 y4 z0 z1 z2 z3 z4
    have x0 := HX.out.can 0; have x1 := HX.out.can 1; have x2 := HX.out.can 2; have x3 := HX.out.can 3; have x4 := HX.out.can 4; have x5 := HX.out.can 5; have x6 := HX.out.can 6; have y0 := HX.out.kil 0; have y1 := HX.out.kil 1; have y2 := HX.out.kil 2; have y3 := HX.out.kil 3; have y4 := HX.out.kil 4; have z0 := HX.out.spo 0; have z1 := HX.out.spo 1; have z2 := HX.out.spo 2; have z3 := HX.out.spo 3; have z4 := HX.out.spo 4; simp only [List.getElem?_toArray, List.getElem?_cons_zero, List.getElem?_cons_succ] at x0 x1 x2 x3 x4 x5 x6 y0 y1 y2 y3 y4 z0 z1 z2 z3 z4
    go_wp2_with fail
    refine (HQ.out _).mono ?_
    rintro e w3 ⟨rfl, hb⟩
    have HX := hid (HX.out.keep hb)
    clear hb
    clear x0 x1 x2 x3 x4 x5 x6 y0 y1 y2 y3 y4 z0 z1 z2 z3 z4
    have x0 := HX.out.can 0; have x1 := HX.out.can 1; have x2 := HX.out.can 2; have x3 := HX.out.can 3; have x4 := HX.out.can 4; have x5 := HX.out.can 5; have x6 := HX.out.can 6; have y0 := HX.out.kil 0; have y1 := HX.out.kil 1; have y2 := HX.out.kil 2; have y3 := HX.out.kil 3; have y4 := HX.out.kil 4; have z0 := HX.out.spo 0; have z1 := HX.out.spo 1; have z2 := HX.out.spo 2; have z3 := HX.out.spo 3; have z4 := HX.out.spo 4; simp only [List.getElem?_toArray, List.getElem?_cons_zero, List.getElem?_cons_succ] at x0 x1 x2 x3 x4 x5 x6 y0 y1 y2 y3 y4 z0 z1 z2 z3 z4
    go_wp2_with fail
    refine (HE.out _).mono ?_
    rintro e w4 ⟨rfl, hb⟩
    have HX := hid (HX.out.keep hb)
    clear hb
    clear x0 x1 x2 x3 x4 x5 x6 y0 y1 y2 y3 y4 z0 z1 z2 z3 z4
    go_wp2_with fail
    refine bodyPost_ret (v := .tuple #[.int .i64 0, .int .i64 0, .int .i64 7]) (by simp [results, Tryz.results10, go_sem]) rfl ⟨by rw [HF.out], HX.out.low⟩
  have h9 : (((okT t && okT cold) && okT cold) && tick1 cooling) = true := by
    unfold leE at h3
    rw [if_neg (by simp)] at h3
    refine Decidable.byContradiction fun h9 => ?_
    rw [if_pos (by simpa using h9)] at h3
    cases h3
  rw [h3] at HE
  simp only [Bool.and_eq_true] at h9
  obtain ⟨⟨⟨ho, hoc⟩, _⟩, htk⟩ := h9
  have h0c : 0 ≤ cooling ∧ cooling ≤ 2000 := by simpa [tick1] using htk
  obtain ⟨cl, rfl⟩ := Int.eq_ofNat_of_zero_le h0c.1
  have hcool : cl ≤ 2000 := by omega
  have HIF := hid (show ∀ b : Bool, okL p = b → ((okL [t, cold] && okL p) && ticksB [(cl : Int)]) = b by
    intro b hb
    rw [hb, ticksB_one, htk]
    simp [okL, ho, hoc])
  have HOK := hid (fun h h2 => bestA_ok (c := c) (q := q) (x := x) (t := t) (cold := cold) (cooling := cl) (Z := Z) (Y := Y) (p := p) hall hz hy h h2)
  have hch : chk4 (canB (c.R : Int) c.L c.A c.B c.K c.A2 c.B2) q.vB t [] = 0 := chk4_ok (by rw [hcan, hkv]; rfl) (by rw [ho]; rfl) (by simp)
  have HLE := hid (fun (b : Int) (hb : okT b = true) (W : World) => (xleast_all c q t b cold cl Z W hz hs hcv hv ho hb hoc hcool).mono (fun e w' h => LeaP.fn (fun n hn => show withF c.R c.L c.A c.B c.K c.A2 c.B2 q t b cold cl n = medF c q.r Z t [] b cold cl n from withF_eq hz hch hb hoc (by omega)) h))
  have HCK := hid (fun (b : Int) (n : Nat) (W : World) => xcook_any b n cold cl W)
  have HSPO := hid (fun (b : Int) (n : Nat) (u : Value) (W : World) (h : RowI W u (cookL b n cold cl)) => xspoil_any c.R c.L c.A c.B c.K c.A2 c.B2 W x t u (cookL b n cold cl) hx h (by have := cookL_len b n cold cl; unfold maxLen; omega))
  have HSE := hid (fun (b : Int) (n : Nat) => spo_eq (c := c) (x := x) (Y := Y) (t := t) (cold := cold) (cooling := cl) (b := b) (n := n) hcan hxv hy ho)
  have hmk : ∀ k (hk : k < p.length), p.getD k 0 = p[k] := fun k hk => getD_at hk
  have HGD := hid hmk
  obtain ⟨ML, hML⟩ : ∃ F, F = mL c q Z t cold cl := ⟨_, rfl⟩
  have HLE : Hid (∀ (b : Int) (_ : okT b = true) (W : World), Calls Tryz.prog 37 #[.agg #[.int .i64 (c.R : Int), .int .i64 (c.L : Int), .int .i64 c.A, .int .i64 c.B, .int .i64 c.K, .int .i64 c.A2, .int .i64 c.B2], .agg #[.string q.s, .int .i64 q.r, .int .i64 q.z, .int .i64 q.d, .int .i64 q.g], .int .i64 t, .int .i64 b, .int .i64 cold, .int .i64 (cl : Nat)] W fun e w' => Below W.heap.size W w' ∧ ((∃ n : Nat, ML b = some n ∧ n ≤ 2000 - cl ∧ e = .returned (.tuple #[.int .i64 (n : Nat), .int .i64 (medF c q.r Z t [] b cold cl n), .int .i64 (if n = 0 then -1 else medF c q.r Z t [] b cold cl (n - 1)), .int .i64 0])) ∨ (ML b = none ∧ e = .returned (.tuple #[.int .i64 0, .int .i64 0, .int .i64 0, .int .i64 8])))) := by rw [hML]; exact HLE
  rw [← hML] at HOK
  obtain ⟨SP, hSP⟩ : ∃ F, F = spB c x Y t cold cl := ⟨_, rfl⟩
  rw [← hSP] at HOK HSE
  clear hSP hML hmk hcan hkv hxv hall hs hx hcv hv hv2 hl ha hc h3 hch ho hoc htk h0c hz hy
  have x0 := HX.out.can 0; have x1 := HX.out.can 1; have x2 := HX.out.can 2; have x3 := HX.out.can 3; have x4 := HX.out.can 4; have x5 := HX.out.can 5; have x6 := HX.out.can 6; have y0 := HX.out.kil 0; have y1 := HX.out.kil 1; have y2 := HX.out.kil 2; have y3 := HX.out.kil 3; have y4 := HX.out.kil 4; have z0 := HX.out.spo 0; have z1 := HX.out.spo 1; have z2 := HX.out.spo 2; have z3 := HX.out.spo 3; have z4 := HX.out.spo 4; simp only [List.getElem?_toArray, List.getElem?_cons_zero, List.getElem?_cons_succ] at x0 x1 x2 x3 x4 x5 x6 y0 y1 y2 y3 y4 z0 z1 z2 z3 z4
  go_enter Tryz.func10, Tryz.ntmps10
  go_wp2_with fail
  refine (HS.out _).mono ?_
  rintro e w1 ⟨rfl, hb⟩
  have HX := hid (HX.out.keep hb)
  clear hb
  clear x0 x1 x2 x3 x4 x5 x6 y0 y1 y2 y3 y4 z0 z1 z2 z3 z4
  have x0 := HX.out.can 0; have x1 := HX.out.can 1; have x2 := HX.out.can 2; have x3 := HX.out.can 3; have x4 := HX.out.can 4; have x5 := HX.out.can 5; have x6 := HX.out.can 6; have y0 := HX.out.kil 0; have y1 := HX.out.kil 1; have y2 := HX.out.kil 2; have y3 := HX.out.kil 3; have y4 := HX.out.kil 4; have z0 := HX.out.spo 0; have z1 := HX.out.spo 1; have z2 := HX.out.spo 2; have z3 := HX.out.spo 3; have z4 := HX.out.spo 4; simp only [List.getElem?_toArray, List.getElem?_cons_zero, List.getElem?_cons_succ] at x0 x1 x2 x3 x4 x5 x6 y0 y1 y2 y3 y4 z0 z1 z2 z3 z4
  go_wp2_with fail
  refine (HV.out _).mono ?_
  rintro e w2 ⟨rfl, hb⟩
  have HX := hid (HX.out.keep hb)
  clear hb
  clear x0 x1 x2 x3 x4 x5 x6 y0 y1 y2 y3 y4 z0 z1 z2 z3 z4
  have x0 := HX.out.can 0; have x1 := HX.out.can 1; have x2 := HX.out.can 2; have x3 := HX.out.can 3; have x4 := HX.out.can 4; have x5 := HX.out.can 5; have x6 := HX.out.can 6; have y0 := HX.out.kil 0; have y1 := HX.out.kil 1; have y2 := HX.out.kil 2; have y3 := HX.out.kil 3; have y4 := HX.out.kil 4; have z0 := HX.out.spo 0; have z1 := HX.out.spo 1; have z2 := HX.out.spo 2; have z3 := HX.out.spo 3; have z4 := HX.out.spo 4; simp only [List.getElem?_toArray, List.getElem?_cons_zero, List.getElem?_cons_succ] at x0 x1 x2 x3 x4 x5 x6 y0 y1 y2 y3 y4 z0 z1 z2 z3 z4
  go_wp2_with fail
  refine (HQ.out _).mono ?_
  rintro e w3 ⟨rfl, hb⟩
  have HX := hid (HX.out.keep hb)
  clear hb
  clear x0 x1 x2 x3 x4 x5 x6 y0 y1 y2 y3 y4 z0 z1 z2 z3 z4
  have x0 := HX.out.can 0; have x1 := HX.out.can 1; have x2 := HX.out.can 2; have x3 := HX.out.can 3; have x4 := HX.out.can 4; have x5 := HX.out.can 5; have x6 := HX.out.can 6; have y0 := HX.out.kil 0; have y1 := HX.out.kil 1; have y2 := HX.out.kil 2; have y3 := HX.out.kil 3; have y4 := HX.out.kil 4; have z0 := HX.out.spo 0; have z1 := HX.out.spo 1; have z2 := HX.out.spo 2; have z3 := HX.out.spo 3; have z4 := HX.out.spo 4; simp only [List.getElem?_toArray, List.getElem?_cons_zero, List.getElem?_cons_succ] at x0 x1 x2 x3 x4 x5 x6 y0 y1 y2 y3 y4 z0 z1 z2 z3 z4
  go_wp2_with fail
  refine (HE.out _).mono ?_
  rintro e w4 ⟨rfl, hb⟩
  have HX := hid (HX.out.keep hb)
  clear hb
  clear x0 x1 x2 x3 x4 x5 x6 y0 y1 y2 y3 y4 z0 z1 z2 z3 z4
  go_wp2_with fail
  clear HS HV HQ HE
  go_loopw [18] (fun s wr => ∃ k : Nat, k ≤ p.length ∧ s = .int .i64 (k : Int) ∧ Hid (∀ j (hj : j < p.length), j < k → okT p[j] = true) ∧ Hid (B3 w wr 23 25 25 #[.int .i64 (c.R : Int), .int .i64 (c.L : Int), .int .i64 c.A, .int .i64 c.B, .int .i64 c.K, .int .i64 c.A2, .int .i64 c.B2] #[.string q.s, .int .i64 q.r, .int .i64 q.z, .int .i64 q.d, .int .i64 q.g] #[.string x.s, .int .i64 x.r, .int .i64 x.z, .int .i64 x.d, .int .i64 x.g])) (fun s _ => p.length - (intOf s).toNat)
  case atStart => exact ⟨0, Nat.zero_le _, rfl, hid fun j _ h => absurd h (Nat.not_lt_zero _), HX⟩
  case round =>
    obtain ⟨k, hk, rfl, hok, hX⟩ := hrel
    by_cases hlt : k < p.length
    · have hlt' : (k : Int) < p.length := by omega
      have haa : a0 = some ⟨b', o', none⟩ := HA.out.resolve_left (fun e => by rw [e] at hlt; simp at hlt)
      subst haa
      have ex := HCE.out _ hX.out.low k hlt
      cases ho : okT p[k]
      · have HF := hid (HNO.out (HIF.out false (okL_bad hlt ho)))
        have HW2 := hid (HWA.out p[k])
        rw [ho] at HW2
        generalize p[k] = y at *
        have HX := hX
        clear hok hX
        go_wp2_with fail
        refine (HW2.out _).mono ?_
        rintro e w5 ⟨rfl, rfl⟩
        go_wp2_with fail
        refine bodyPost_ret (v := .tuple #[.int .i64 0, .int .i64 0, .int .i64 7]) (by simp [results, Tryz.results10, go_sem]) rfl ⟨by rw [HF.out], HX.out.low⟩
      · have HST : Hid (∀ j (hj : j < p.length), j < k + 1 → okT p[j] = true) := fun j hj h => by
          rcases Nat.lt_or_ge j k with h1 | h1
          · exact hok.out j hj h1
          · obtain rfl : j = k := by omega
            exact ho
        have HW2 := hid (HWA.out p[k])
        rw [ho] at HW2
        have HLT := hid hlt
        generalize p[k] = y at ex HW2
        clear hok ho hlt
        go_wp2_with fail
        refine (HW2.out _).mono ?_
        rintro e w5 ⟨rfl, rfl⟩
        go_wp2_with fail
        go_roundw
        case rel => exact ⟨k + 1, HLT.out, by go_num, HST, hX⟩
        case measure => have := HLT.out; simp [intOf]; omega
    · obtain rfl : k = p.length := by omega
      have hop : okL p = true := okL_end hok.out rfl
      have HOP := hid hop
      have HX := hX
      clear hok hX hlt hk
      by_cases h64 : 64 < p.length
      · have HF := hid (HLO.out (HIF.out true hop) h64)
        have h5' : (64 : Int) < p.length := by omega
        clear hop h64
        go_wp2_with fail
        refine bodyPost_ret (v := .tuple #[.int .i64 0, .int .i64 0, .int .i64 4]) (by simp [results, Tryz.results10, go_sem]) rfl ⟨by rw [HF.out], HX.out.low⟩
      have HF := hid (HOK.out (HIF.out true hop) h64)
      have h5' : ¬ (64 : Int) < p.length := by omega
      clear hop h64 HNO HLO HOK HIF HWA
      go_wp2_with fail
      go_loopw [19, 20, 21, 22] (fun s14 s15 s18 s56 wr => ∃ k : Nat, k ≤ p.length ∧ s56 = .int .i64 (k : Int) ∧ Hid (B3 w wr 23 25 25 #[.int .i64 (c.R : Int), .int .i64 (c.L : Int), .int .i64 c.A, .int .i64 c.B, .int .i64 c.K, .int .i64 c.A2, .int .i64 c.B2] #[.string q.s, .int .i64 q.r, .int .i64 q.z, .int .i64 q.d, .int .i64 q.g] #[.string x.s, .int .i64 x.r, .int .i64 x.z, .int .i64 x.d, .int .i64 x.g]) ∧ ((Hid (bstO ML SP p k = none) ∧ s14 = .int .i64 (-1) ∧ s15 = .int .i64 0 ∧ s18 = .int .i64 0) ∨ ∃ (i n : Nat) (y : Int), Hid (bstO ML SP p k = some (i, n, y)) ∧ s14 = .int .i64 (i : Int) ∧ s15 = .int .i64 (n : Int) ∧ s18 = .int .i64 y)) (fun _ _ _ s _ => p.length - (intOf s).toNat)
      case atStart => exact ⟨0, Nat.zero_le _, rfl, HX, .inl ⟨hid rfl, rfl, rfl, rfl⟩⟩
      case round =>
        obtain ⟨k, hk, rfl, hX, hO⟩ := hrel
        have HX := hX
        by_cases hlt : k < p.length
        · have hlt' : (k : Int) < p.length := by omega
          have haa : a0 = some ⟨b', o', none⟩ := HA.out.resolve_left (fun e => by rw [e] at hlt; simp at hlt)
          subst haa
          have ex := HCE.out _ hX.out.low k hlt
          have HLE2 := hid (HLE.out p[k] (okL_all HOP.out k hlt))
          have HCK2 := hid (HCK.out p[k])
          have HSPO2 := hid (HSPO.out p[k])
          have HSE2 := hid (HSE.out p[k])
          have HGD2 := hid (HGD.out k hlt)
          have HLT := hid hlt
          clear hX
          generalize p[k] = b at ex HLE2 HCK2 HSPO2 HSE2 HGD2
          have x0 := HX.out.can 0; have x1 := HX.out.can 1; have x2 := HX.out.can 2; have x3 := HX.out.can 3; have x4 := HX.out.can 4; have x5 := HX.out.can 5; have x6 := HX.out.can 6; have y0 := HX.out.kil 0; have y1 := HX.out.kil 1; have y2 := HX.out.kil 2; have y3 := HX.out.kil 3; have y4 := HX.out.kil 4; have z0 := HX.out.spo 0; have z1 := HX.out.spo 1; have z2 := HX.out.spo 2; have z3 := HX.out.spo 3; have z4 := HX.out.spo 4; simp only [List.getElem?_toArray, List.getElem?_cons_zero, List.getElem?_cons_succ] at x0 x1 x2 x3 x4 x5 x6 y0 y1 y2 y3 y4 z0 z1 z2 z3 z4
          clear hlt hk
          have mx := fun p : LowBy wr => low_cell ex p
          have m0 := fun p : LowBy wr => low_cell x0 p; have m1 := fun p : LowBy wr => low_cell x1 p; have m2 := fun p : LowBy wr => low_cell x2 p; have m3 := fun p : LowBy wr => low_cell x3 p; have m4 := fun p : LowBy wr => low_cell x4 p; have m5 := fun p : LowBy wr => low_cell x5 p; have m6 := fun p : LowBy wr => low_cell x6 p
          have kk0 := fun p : LowBy wr => low_cell y0 p; have kk1 := fun p : LowBy wr => low_cell y1 p; have kk2 := fun p : LowBy wr => low_cell y2 p; have kk3 := fun p : LowBy wr => low_cell y3 p; have kk4 := fun p : LowBy wr => low_cell y4 p
          rcases hO with ⟨h0, rfl, rfl, rfl⟩ | ⟨i, n0, y, h0, rfl, rfl, rfl⟩
          · cases hM0 : ML b with
            | none =>
              have hle : ∀ p : LowBy wr, Calls Tryz.prog 37 #[.agg #[.int .i64 (c.R : Int), .int .i64 (c.L : Int), .int .i64 c.A, .int .i64 c.B, .int .i64 c.K, .int .i64 c.A2, .int .i64 c.B2], .agg #[.string q.s, .int .i64 q.r, .int .i64 q.z, .int .i64 q.d, .int .i64 q.g], .int .i64 t, .int .i64 b, .int .i64 cold, .int .i64 (cl : Nat)] p.W fun e w'' => e = .returned (.tuple #[.int .i64 0, .int .i64 0, .int .i64 0, .int .i64 8]) ∧ ∃ q : LowBy wr, w'' = q.W := fun p => low_of ((HLE2.out p.W).mono (by
                rintro e w' ⟨h1, ⟨m, h2, _, h3⟩ | ⟨h2, h3⟩⟩
                · rw [hM0] at h2; cases h2
                · exact ⟨h3, h1⟩))
              go_wp2_with fail
              clear HLE2
              have EX := hid ex
              clear x0 x1 x2 x3 x4 x5 x6 y0 y1 y2 y3 y4 z0 z1 z2 z3 z4 ex
              refine wp_region_low (by kernel_rfl) (by kernel_rfl) (fun R hR => ?_)
              (refine low_step (by assumption) ?_; intro R hR K hK; go_simp; first | (refine hK _ ?_; clear hK K) | (apply Exists.intro; refine ⟨fun _ => ?_, hK _ ?_⟩; (go_at_call 37; exact hle _)); clear hK K)
              (refine low_step (by assumption) ?_; intro R hR K hK; go_simp; first | (refine hK _ ?_; clear hK K) | (apply Exists.intro; refine ⟨fun _ => ?_, hK _ ?_⟩; (go_at_call 37; exact hle _)); clear hK K)
              (refine low_step (by assumption) ?_; intro R hR K hK; go_simp; first | (refine hK _ ?_; clear hK K) | (apply Exists.intro; refine ⟨fun _ => ?_, hK _ ?_⟩; (go_at_call 37; exact hle _)); clear hK K)
              (refine low_step (by assumption) ?_; intro R hR K hK; go_simp; first | (refine hK _ ?_; clear hK K) | (apply Exists.intro; refine ⟨fun _ => ?_, hK _ ?_⟩; (go_at_call 37; exact hle _)); clear hK K)
              (refine low_step (by assumption) ?_; intro R hR K hK; go_simp; first | (refine hK _ ?_; clear hK K) | (apply Exists.intro; refine ⟨fun _ => ?_, hK _ ?_⟩; (go_at_call 37; exact hle _)); clear hK K)
              (refine low_step (by assumption) ?_; intro R hR K hK; go_simp; first | (refine hK _ ?_; clear hK K) | (apply Exists.intro; refine ⟨fun _ => ?_, hK _ ?_⟩; (go_at_call 37; exact hle _)); clear hK K)
              (refine low_step (by assumption) ?_; intro R hR K hK; go_simp; first | (refine hK _ ?_; clear hK K) | (apply Exists.intro; refine ⟨fun _ => ?_, hK _ ?_⟩; (go_at_call 37; exact hle _)); clear hK K)
              (refine low_step (by assumption) ?_; intro R hR K hK; go_simp; first | (refine hK _ ?_; clear hK K) | (apply Exists.intro; refine ⟨fun _ => ?_, hK _ ?_⟩; (go_at_call 37; exact hle _)); clear hK K)
              (refine low_step (by assumption) ?_; intro R hR K hK; go_simp; first | (refine hK _ ?_; clear hK K) | (apply Exists.intro; refine ⟨fun _ => ?_, hK _ ?_⟩; (go_at_call 37; exact hle _)); clear hK K)
              (refine low_step (by assumption) ?_; intro R hR K hK; go_simp; first | (refine hK _ ?_; clear hK K) | (apply Exists.intro; refine ⟨fun _ => ?_, hK _ ?_⟩; (go_at_call 37; exact hle _)); clear hK K)
              (refine low_step (by assumption) ?_; intro R hR K hK; go_simp; first | (refine hK _ ?_; clear hK K) | (apply Exists.intro; refine ⟨fun _ => ?_, hK _ ?_⟩; (go_at_call 37; exact hle _)); clear hK K)
              (refine low_step (by assumption) ?_; intro R hR K hK; go_simp; first | (refine hK _ ?_; clear hK K) | (apply Exists.intro; refine ⟨fun _ => ?_, hK _ ?_⟩; (go_at_call 37; exact hle _)); clear hK K)
              (refine low_step (by assumption) ?_; intro R hR K hK; go_simp; first | (refine hK _ ?_; clear hK K) | (apply Exists.intro; refine ⟨fun _ => ?_, hK _ ?_⟩; (go_at_call 37; exact hle _)); clear hK K)
              (refine low_step (by assumption) ?_; intro R hR K hK; go_simp; first | (refine hK _ ?_; clear hK K) | (apply Exists.intro; refine ⟨fun _ => ?_, hK _ ?_⟩; (go_at_call 37; exact hle _)); clear hK K)
              (refine low_step (by assumption) ?_; intro R hR K hK; go_simp; first | (refine hK _ ?_; clear hK K) | (apply Exists.intro; refine ⟨fun _ => ?_, hK _ ?_⟩; (go_at_call 37; exact hle _)); clear hK K)
              (refine low_step (by assumption) ?_; intro R hR K hK; go_simp; first | (refine hK _ ?_; clear hK K) | (apply Exists.intro; refine ⟨fun _ => ?_, hK _ ?_⟩; (go_at_call 37; exact hle _)); clear hK K)
              (refine low_step (by assumption) ?_; intro R hR K hK; go_simp; first | (refine hK _ ?_; clear hK K) | (apply Exists.intro; refine ⟨fun _ => ?_, hK _ ?_⟩; (go_at_call 37; exact hle _)); clear hK K)
              (refine low_step (by assumption) ?_; intro R hR K hK; go_simp; first | (refine hK _ ?_; clear hK K) | (apply Exists.intro; refine ⟨fun _ => ?_, hK _ ?_⟩; (go_at_call 37; exact hle _)); clear hK K)
              (refine low_step (by assumption) ?_; intro R hR K hK; go_simp; first | (refine hK _ ?_; clear hK K) | (apply Exists.intro; refine ⟨fun _ => ?_, hK _ ?_⟩; (go_at_call 37; exact hle _)); clear hK K)
              refine low_nil (by assumption) ?_; intro _ hw'; obtain ⟨⟨wq, hlow⟩, hw''⟩ := hw'; subst hw''; have HLOW := hid hlow; clear hlow; (try simp only)
              clear mx m0 m1 m2 m3 m4 m5 m6 kk0 kk1 kk2 kk3 kk4
              clear hle
              have HX := hid (HX.out.keep HLOW.out)
              go_wp2_with fail
              go_roundw
              case rel => exact ⟨k + 1, HLT.out, by go_num, HX, .inl ⟨hid ((bstO_skip HGD2.out hM0).trans h0.out), rfl, rfl, rfl⟩⟩
              case measure => have := HLT.out; simp [intOf]; omega
            | some n =>
              obtain ⟨f1, hf1⟩ : ∃ f, f = medF c q.r Z t [] b cold cl n := ⟨_, rfl⟩
              obtain ⟨f2, hf2⟩ : ∃ f, f = (if n = 0 then -1 else medF c q.r Z t [] b cold cl (n - 1)) := ⟨_, rfl⟩
              have hle : ∀ p : LowBy wr, Calls Tryz.prog 37 #[.agg #[.int .i64 (c.R : Int), .int .i64 (c.L : Int), .int .i64 c.A, .int .i64 c.B, .int .i64 c.K, .int .i64 c.A2, .int .i64 c.B2], .agg #[.string q.s, .int .i64 q.r, .int .i64 q.z, .int .i64 q.d, .int .i64 q.g], .int .i64 t, .int .i64 b, .int .i64 cold, .int .i64 (cl : Nat)] p.W fun e w'' => e = .returned (.tuple #[.int .i64 (n : Nat), .int .i64 f1, .int .i64 f2, .int .i64 0]) ∧ ∃ q : LowBy wr, w'' = q.W := fun p => low_of ((HLE2.out p.W).mono (by
                rintro e w' ⟨h1, ⟨m, h2, _, h3⟩ | ⟨h2, _⟩⟩
                · rw [hM0] at h2
                  obtain rfl : n = m := Option.some.inj h2
                  rw [hf1, hf2]
                  exact ⟨h3, h1⟩
                · rw [hM0] at h2; cases h2))
              have HM0 := hid hM0
              clear hf1 hf2 hM0
              go_wp2_with fail
              clear HLE2
              have EX := hid ex
              clear x0 x1 x2 x3 x4 x5 x6 y0 y1 y2 y3 y4 z0 z1 z2 z3 z4 ex
              refine wp_region_low (by kernel_rfl) (by kernel_rfl) (fun R hR => ?_)
              (refine low_step (by assumption) ?_; intro R hR K hK; go_simp; first | (refine hK _ ?_; clear hK K) | (apply Exists.intro; refine ⟨fun _ => ?_, hK _ ?_⟩; (go_at_call 37; exact hle _)); clear hK K)
              (refine low_step (by assumption) ?_; intro R hR K hK; go_simp; first | (refine hK _ ?_; clear hK K) | (apply Exists.intro; refine ⟨fun _ => ?_, hK _ ?_⟩; (go_at_call 37; exact hle _)); clear hK K)
              (refine low_step (by assumption) ?_; intro R hR K hK; go_simp; first | (refine hK _ ?_; clear hK K) | (apply Exists.intro; refine ⟨fun _ => ?_, hK _ ?_⟩; (go_at_call 37; exact hle _)); clear hK K)
              (refine low_step (by assumption) ?_; intro R hR K hK; go_simp; first | (refine hK _ ?_; clear hK K) | (apply Exists.intro; refine ⟨fun _ => ?_, hK _ ?_⟩; (go_at_call 37; exact hle _)); clear hK K)
              (refine low_step (by assumption) ?_; intro R hR K hK; go_simp; first | (refine hK _ ?_; clear hK K) | (apply Exists.intro; refine ⟨fun _ => ?_, hK _ ?_⟩; (go_at_call 37; exact hle _)); clear hK K)
              (refine low_step (by assumption) ?_; intro R hR K hK; go_simp; first | (refine hK _ ?_; clear hK K) | (apply Exists.intro; refine ⟨fun _ => ?_, hK _ ?_⟩; (go_at_call 37; exact hle _)); clear hK K)
              (refine low_step (by assumption) ?_; intro R hR K hK; go_simp; first | (refine hK _ ?_; clear hK K) | (apply Exists.intro; refine ⟨fun _ => ?_, hK _ ?_⟩; (go_at_call 37; exact hle _)); clear hK K)
              (refine low_step (by assumption) ?_; intro R hR K hK; go_simp; first | (refine hK _ ?_; clear hK K) | (apply Exists.intro; refine ⟨fun _ => ?_, hK _ ?_⟩; (go_at_call 37; exact hle _)); clear hK K)
              (refine low_step (by assumption) ?_; intro R hR K hK; go_simp; first | (refine hK _ ?_; clear hK K) | (apply Exists.intro; refine ⟨fun _ => ?_, hK _ ?_⟩; (go_at_call 37; exact hle _)); clear hK K)
              (refine low_step (by assumption) ?_; intro R hR K hK; go_simp; first | (refine hK _ ?_; clear hK K) | (apply Exists.intro; refine ⟨fun _ => ?_, hK _ ?_⟩; (go_at_call 37; exact hle _)); clear hK K)
              (refine low_step (by assumption) ?_; intro R hR K hK; go_simp; first | (refine hK _ ?_; clear hK K) | (apply Exists.intro; refine ⟨fun _ => ?_, hK _ ?_⟩; (go_at_call 37; exact hle _)); clear hK K)
              (refine low_step (by assumption) ?_; intro R hR K hK; go_simp; first | (refine hK _ ?_; clear hK K) | (apply Exists.intro; refine ⟨fun _ => ?_, hK _ ?_⟩; (go_at_call 37; exact hle _)); clear hK K)
              (refine low_step (by assumption) ?_; intro R hR K hK; go_simp; first | (refine hK _ ?_; clear hK K) | (apply Exists.intro; refine ⟨fun _ => ?_, hK _ ?_⟩; (go_at_call 37; exact hle _)); clear hK K)
              (refine low_step (by assumption) ?_; intro R hR K hK; go_simp; first | (refine hK _ ?_; clear hK K) | (apply Exists.intro; refine ⟨fun _ => ?_, hK _ ?_⟩; (go_at_call 37; exact hle _)); clear hK K)
              (refine low_step (by assumption) ?_; intro R hR K hK; go_simp; first | (refine hK _ ?_; clear hK K) | (apply Exists.intro; refine ⟨fun _ => ?_, hK _ ?_⟩; (go_at_call 37; exact hle _)); clear hK K)
              (refine low_step (by assumption) ?_; intro R hR K hK; go_simp; first | (refine hK _ ?_; clear hK K) | (apply Exists.intro; refine ⟨fun _ => ?_, hK _ ?_⟩; (go_at_call 37; exact hle _)); clear hK K)
              (refine low_step (by assumption) ?_; intro R hR K hK; go_simp; first | (refine hK _ ?_; clear hK K) | (apply Exists.intro; refine ⟨fun _ => ?_, hK _ ?_⟩; (go_at_call 37; exact hle _)); clear hK K)
              (refine low_step (by assumption) ?_; intro R hR K hK; go_simp; first | (refine hK _ ?_; clear hK K) | (apply Exists.intro; refine ⟨fun _ => ?_, hK _ ?_⟩; (go_at_call 37; exact hle _)); clear hK K)
              (refine low_step (by assumption) ?_; intro R hR K hK; go_simp; first | (refine hK _ ?_; clear hK K) | (apply Exists.intro; refine ⟨fun _ => ?_, hK _ ?_⟩; (go_at_call 37; exact hle _)); clear hK K)
              refine low_nil (by assumption) ?_; intro _ hw'; obtain ⟨⟨wq, hlow⟩, hw''⟩ := hw'; subst hw''; have HLOW := hid hlow; clear hlow; (try simp only)
              clear mx m0 m1 m2 m3 m4 m5 m6 kk0 kk1 kk2 kk3 kk4
              clear hle
              have HX := hid (HX.out.keep HLOW.out)
              have ex := keep_cell HLOW.out EX.out
              go_wp2_with fail
              refine (HCK2.out n _).mono ?_
              rintro e w7 ⟨u, rfl, hr, hb⟩
              have HX := hid (HX.out.keep hb)
              have HR := hid hr
              generalize (if cookB b n cold cl = true then (0 : Int) else 7) = ck
              clear hr hb ex
              have x0 := HX.out.can 0; have x1 := HX.out.can 1; have x2 := HX.out.can 2; have x3 := HX.out.can 3; have x4 := HX.out.can 4; have x5 := HX.out.can 5; have x6 := HX.out.can 6; have y0 := HX.out.kil 0; have y1 := HX.out.kil 1; have y2 := HX.out.kil 2; have y3 := HX.out.kil 3; have y4 := HX.out.kil 4; have z0 := HX.out.spo 0; have z1 := HX.out.spo 1; have z2 := HX.out.spo 2; have z3 := HX.out.spo 3; have z4 := HX.out.spo 4; simp only [List.getElem?_toArray, List.getElem?_cons_zero, List.getElem?_cons_succ] at x0 x1 x2 x3 x4 x5 x6 y0 y1 y2 y3 y4 z0 z1 z2 z3 z4
              clear y0 y1 y2 y3 y4
              have HSPW := hid (HSPO2.out n u _ HR.out)
              rw [HSE2.out n] at HSPW
              generalize chk4 (canB (c.R : Int) c.L c.A c.B c.K c.A2 c.B2) x.vB t (cookL b n cold cl) = ck2 at HSPW
              obtain ⟨z, hz⟩ : ∃ z, z = SP b n := ⟨_, rfl⟩
              rw [← hz] at HSPW
              have HZ := hid hz
              clear hz
              go_wp2_with fail
              refine HSPW.out.mono ?_
              rintro e w9 ⟨rfl, hb⟩
              have HX := hid (HX.out.keep hb)
              clear hb x0 x1 x2 x3 x4 x5 x6 z0 z1 z2 z3 z4
              go_wp2_with fail
              go_roundw
              case rel => exact ⟨k + 1, HLT.out, by go_num, HX, .inr ⟨k, n, z, hid (by rw [HZ.out]; exact bstO_new HGD2.out HM0.out h0.out), rfl, rfl, rfl⟩⟩
              case measure => have := HLT.out; simp [intOf]; omega
          · cases hM0 : ML b with
            | none =>
              have hle : ∀ p : LowBy wr, Calls Tryz.prog 37 #[.agg #[.int .i64 (c.R : Int), .int .i64 (c.L : Int), .int .i64 c.A, .int .i64 c.B, .int .i64 c.K, .int .i64 c.A2, .int .i64 c.B2], .agg #[.string q.s, .int .i64 q.r, .int .i64 q.z, .int .i64 q.d, .int .i64 q.g], .int .i64 t, .int .i64 b, .int .i64 cold, .int .i64 (cl : Nat)] p.W fun e w'' => e = .returned (.tuple #[.int .i64 0, .int .i64 0, .int .i64 0, .int .i64 8]) ∧ ∃ q : LowBy wr, w'' = q.W := fun p => low_of ((HLE2.out p.W).mono (by
                rintro e w' ⟨h1, ⟨m, h2, _, h3⟩ | ⟨h2, h3⟩⟩
                · rw [hM0] at h2; cases h2
                · exact ⟨h3, h1⟩))
              go_wp2_with fail
              clear HLE2
              have EX := hid ex
              clear x0 x1 x2 x3 x4 x5 x6 y0 y1 y2 y3 y4 z0 z1 z2 z3 z4 ex
              refine wp_region_low (by kernel_rfl) (by kernel_rfl) (fun R hR => ?_)
              (refine low_step (by assumption) ?_; intro R hR K hK; go_simp; first | (refine hK _ ?_; clear hK K) | (apply Exists.intro; refine ⟨fun _ => ?_, hK _ ?_⟩; (go_at_call 37; exact hle _)); clear hK K)
              (refine low_step (by assumption) ?_; intro R hR K hK; go_simp; first | (refine hK _ ?_; clear hK K) | (apply Exists.intro; refine ⟨fun _ => ?_, hK _ ?_⟩; (go_at_call 37; exact hle _)); clear hK K)
              (refine low_step (by assumption) ?_; intro R hR K hK; go_simp; first | (refine hK _ ?_; clear hK K) | (apply Exists.intro; refine ⟨fun _ => ?_, hK _ ?_⟩; (go_at_call 37; exact hle _)); clear hK K)
              (refine low_step (by assumption) ?_; intro R hR K hK; go_simp; first | (refine hK _ ?_; clear hK K) | (apply Exists.intro; refine ⟨fun _ => ?_, hK _ ?_⟩; (go_at_call 37; exact hle _)); clear hK K)
              (refine low_step (by assumption) ?_; intro R hR K hK; go_simp; first | (refine hK _ ?_; clear hK K) | (apply Exists.intro; refine ⟨fun _ => ?_, hK _ ?_⟩; (go_at_call 37; exact hle _)); clear hK K)
              (refine low_step (by assumption) ?_; intro R hR K hK; go_simp; first | (refine hK _ ?_; clear hK K) | (apply Exists.intro; refine ⟨fun _ => ?_, hK _ ?_⟩; (go_at_call 37; exact hle _)); clear hK K)
              (refine low_step (by assumption) ?_; intro R hR K hK; go_simp; first | (refine hK _ ?_; clear hK K) | (apply Exists.intro; refine ⟨fun _ => ?_, hK _ ?_⟩; (go_at_call 37; exact hle _)); clear hK K)
              (refine low_step (by assumption) ?_; intro R hR K hK; go_simp; first | (refine hK _ ?_; clear hK K) | (apply Exists.intro; refine ⟨fun _ => ?_, hK _ ?_⟩; (go_at_call 37; exact hle _)); clear hK K)
              (refine low_step (by assumption) ?_; intro R hR K hK; go_simp; first | (refine hK _ ?_; clear hK K) | (apply Exists.intro; refine ⟨fun _ => ?_, hK _ ?_⟩; (go_at_call 37; exact hle _)); clear hK K)
              (refine low_step (by assumption) ?_; intro R hR K hK; go_simp; first | (refine hK _ ?_; clear hK K) | (apply Exists.intro; refine ⟨fun _ => ?_, hK _ ?_⟩; (go_at_call 37; exact hle _)); clear hK K)
              (refine low_step (by assumption) ?_; intro R hR K hK; go_simp; first | (refine hK _ ?_; clear hK K) | (apply Exists.intro; refine ⟨fun _ => ?_, hK _ ?_⟩; (go_at_call 37; exact hle _)); clear hK K)
              (refine low_step (by assumption) ?_; intro R hR K hK; go_simp; first | (refine hK _ ?_; clear hK K) | (apply Exists.intro; refine ⟨fun _ => ?_, hK _ ?_⟩; (go_at_call 37; exact hle _)); clear hK K)
              (refine low_step (by assumption) ?_; intro R hR K hK; go_simp; first | (refine hK _ ?_; clear hK K) | (apply Exists.intro; refine ⟨fun _ => ?_, hK _ ?_⟩; (go_at_call 37; exact hle _)); clear hK K)
              (refine low_step (by assumption) ?_; intro R hR K hK; go_simp; first | (refine hK _ ?_; clear hK K) | (apply Exists.intro; refine ⟨fun _ => ?_, hK _ ?_⟩; (go_at_call 37; exact hle _)); clear hK K)
              (refine low_step (by assumption) ?_; intro R hR K hK; go_simp; first | (refine hK _ ?_; clear hK K) | (apply Exists.intro; refine ⟨fun _ => ?_, hK _ ?_⟩; (go_at_call 37; exact hle _)); clear hK K)
              (refine low_step (by assumption) ?_; intro R hR K hK; go_simp; first | (refine hK _ ?_; clear hK K) | (apply Exists.intro; refine ⟨fun _ => ?_, hK _ ?_⟩; (go_at_call 37; exact hle _)); clear hK K)
              (refine low_step (by assumption) ?_; intro R hR K hK; go_simp; first | (refine hK _ ?_; clear hK K) | (apply Exists.intro; refine ⟨fun _ => ?_, hK _ ?_⟩; (go_at_call 37; exact hle _)); clear hK K)
              (refine low_step (by assumption) ?_; intro R hR K hK; go_simp; first | (refine hK _ ?_; clear hK K) | (apply Exists.intro; refine ⟨fun _ => ?_, hK _ ?_⟩; (go_at_call 37; exact hle _)); clear hK K)
              (refine low_step (by assumption) ?_; intro R hR K hK; go_simp; first | (refine hK _ ?_; clear hK K) | (apply Exists.intro; refine ⟨fun _ => ?_, hK _ ?_⟩; (go_at_call 37; exact hle _)); clear hK K)
              refine low_nil (by assumption) ?_; intro _ hw'; obtain ⟨⟨wq, hlow⟩, hw''⟩ := hw'; subst hw''; have HLOW := hid hlow; clear hlow; (try simp only)
              clear mx m0 m1 m2 m3 m4 m5 m6 kk0 kk1 kk2 kk3 kk4
              clear hle
              have HX := hid (HX.out.keep HLOW.out)
              go_wp2_with fail
              go_roundw
              case rel => exact ⟨k + 1, HLT.out, by go_num, HX, .inr ⟨i, n0, y, hid ((bstO_skip HGD2.out hM0).trans h0.out), rfl, rfl, rfl⟩⟩
              case measure => have := HLT.out; simp [intOf]; omega
            | some n =>
              obtain ⟨f1, hf1⟩ : ∃ f, f = medF c q.r Z t [] b cold cl n := ⟨_, rfl⟩
              obtain ⟨f2, hf2⟩ : ∃ f, f = (if n = 0 then -1 else medF c q.r Z t [] b cold cl (n - 1)) := ⟨_, rfl⟩
              have hle : ∀ p : LowBy wr, Calls Tryz.prog 37 #[.agg #[.int .i64 (c.R : Int), .int .i64 (c.L : Int), .int .i64 c.A, .int .i64 c.B, .int .i64 c.K, .int .i64 c.A2, .int .i64 c.B2], .agg #[.string q.s, .int .i64 q.r, .int .i64 q.z, .int .i64 q.d, .int .i64 q.g], .int .i64 t, .int .i64 b, .int .i64 cold, .int .i64 (cl : Nat)] p.W fun e w'' => e = .returned (.tuple #[.int .i64 (n : Nat), .int .i64 f1, .int .i64 f2, .int .i64 0]) ∧ ∃ q : LowBy wr, w'' = q.W := fun p => low_of ((HLE2.out p.W).mono (by
                rintro e w' ⟨h1, ⟨m, h2, _, h3⟩ | ⟨h2, _⟩⟩
                · rw [hM0] at h2
                  obtain rfl : n = m := Option.some.inj h2
                  rw [hf1, hf2]
                  exact ⟨h3, h1⟩
                · rw [hM0] at h2; cases h2))
              have HM0 := hid hM0
              clear hf1 hf2 hM0
              go_wp2_with fail
              clear HLE2
              have EX := hid ex
              clear x0 x1 x2 x3 x4 x5 x6 y0 y1 y2 y3 y4 z0 z1 z2 z3 z4 ex
              refine wp_region_low (by kernel_rfl) (by kernel_rfl) (fun R hR => ?_)
              (refine low_step (by assumption) ?_; intro R hR K hK; go_simp; first | (refine hK _ ?_; clear hK K) | (apply Exists.intro; refine ⟨fun _ => ?_, hK _ ?_⟩; (go_at_call 37; exact hle _)); clear hK K)
              (refine low_step (by assumption) ?_; intro R hR K hK; go_simp; first | (refine hK _ ?_; clear hK K) | (apply Exists.intro; refine ⟨fun _ => ?_, hK _ ?_⟩; (go_at_call 37; exact hle _)); clear hK K)
              (refine low_step (by assumption) ?_; intro R hR K hK; go_simp; first | (refine hK _ ?_; clear hK K) | (apply Exists.intro; refine ⟨fun _ => ?_, hK _ ?_⟩; (go_at_call 37; exact hle _)); clear hK K)
              (refine low_step (by assumption) ?_; intro R hR K hK; go_simp; first | (refine hK _ ?_; clear hK K) | (apply Exists.intro; refine ⟨fun _ => ?_, hK _ ?_⟩; (go_at_call 37; exact hle _)); clear hK K)
              (refine low_step (by assumption) ?_; intro R hR K hK; go_simp; first | (refine hK _ ?_; clear hK K) | (apply Exists.intro; refine ⟨fun _ => ?_, hK _ ?_⟩; (go_at_call 37; exact hle _)); clear hK K)
              (refine low_step (by assumption) ?_; intro R hR K hK; go_simp; first | (refine hK _ ?_; clear hK K) | (apply Exists.intro; refine ⟨fun _ => ?_, hK _ ?_⟩; (go_at_call 37; exact hle _)); clear hK K)
              (refine low_step (by assumption) ?_; intro R hR K hK; go_simp; first | (refine hK _ ?_; clear hK K) | (apply Exists.intro; refine ⟨fun _ => ?_, hK _ ?_⟩; (go_at_call 37; exact hle _)); clear hK K)
              (refine low_step (by assumption) ?_; intro R hR K hK; go_simp; first | (refine hK _ ?_; clear hK K) | (apply Exists.intro; refine ⟨fun _ => ?_, hK _ ?_⟩; (go_at_call 37; exact hle _)); clear hK K)
              (refine low_step (by assumption) ?_; intro R hR K hK; go_simp; first | (refine hK _ ?_; clear hK K) | (apply Exists.intro; refine ⟨fun _ => ?_, hK _ ?_⟩; (go_at_call 37; exact hle _)); clear hK K)
              (refine low_step (by assumption) ?_; intro R hR K hK; go_simp; first | (refine hK _ ?_; clear hK K) | (apply Exists.intro; refine ⟨fun _ => ?_, hK _ ?_⟩; (go_at_call 37; exact hle _)); clear hK K)
              (refine low_step (by assumption) ?_; intro R hR K hK; go_simp; first | (refine hK _ ?_; clear hK K) | (apply Exists.intro; refine ⟨fun _ => ?_, hK _ ?_⟩; (go_at_call 37; exact hle _)); clear hK K)
              (refine low_step (by assumption) ?_; intro R hR K hK; go_simp; first | (refine hK _ ?_; clear hK K) | (apply Exists.intro; refine ⟨fun _ => ?_, hK _ ?_⟩; (go_at_call 37; exact hle _)); clear hK K)
              (refine low_step (by assumption) ?_; intro R hR K hK; go_simp; first | (refine hK _ ?_; clear hK K) | (apply Exists.intro; refine ⟨fun _ => ?_, hK _ ?_⟩; (go_at_call 37; exact hle _)); clear hK K)
              (refine low_step (by assumption) ?_; intro R hR K hK; go_simp; first | (refine hK _ ?_; clear hK K) | (apply Exists.intro; refine ⟨fun _ => ?_, hK _ ?_⟩; (go_at_call 37; exact hle _)); clear hK K)
              (refine low_step (by assumption) ?_; intro R hR K hK; go_simp; first | (refine hK _ ?_; clear hK K) | (apply Exists.intro; refine ⟨fun _ => ?_, hK _ ?_⟩; (go_at_call 37; exact hle _)); clear hK K)
              (refine low_step (by assumption) ?_; intro R hR K hK; go_simp; first | (refine hK _ ?_; clear hK K) | (apply Exists.intro; refine ⟨fun _ => ?_, hK _ ?_⟩; (go_at_call 37; exact hle _)); clear hK K)
              (refine low_step (by assumption) ?_; intro R hR K hK; go_simp; first | (refine hK _ ?_; clear hK K) | (apply Exists.intro; refine ⟨fun _ => ?_, hK _ ?_⟩; (go_at_call 37; exact hle _)); clear hK K)
              (refine low_step (by assumption) ?_; intro R hR K hK; go_simp; first | (refine hK _ ?_; clear hK K) | (apply Exists.intro; refine ⟨fun _ => ?_, hK _ ?_⟩; (go_at_call 37; exact hle _)); clear hK K)
              (refine low_step (by assumption) ?_; intro R hR K hK; go_simp; first | (refine hK _ ?_; clear hK K) | (apply Exists.intro; refine ⟨fun _ => ?_, hK _ ?_⟩; (go_at_call 37; exact hle _)); clear hK K)
              refine low_nil (by assumption) ?_; intro _ hw'; obtain ⟨⟨wq, hlow⟩, hw''⟩ := hw'; subst hw''; have HLOW := hid hlow; clear hlow; (try simp only)
              clear mx m0 m1 m2 m3 m4 m5 m6 kk0 kk1 kk2 kk3 kk4
              clear hle
              have HX := hid (HX.out.keep HLOW.out)
              have ex := keep_cell HLOW.out EX.out
              go_wp2_with fail
              refine (HCK2.out n _).mono ?_
              rintro e w7 ⟨u, rfl, hr, hb⟩
              have HX := hid (HX.out.keep hb)
              have HR := hid hr
              generalize (if cookB b n cold cl = true then (0 : Int) else 7) = ck
              clear hr hb ex
              have x0 := HX.out.can 0; have x1 := HX.out.can 1; have x2 := HX.out.can 2; have x3 := HX.out.can 3; have x4 := HX.out.can 4; have x5 := HX.out.can 5; have x6 := HX.out.can 6; have y0 := HX.out.kil 0; have y1 := HX.out.kil 1; have y2 := HX.out.kil 2; have y3 := HX.out.kil 3; have y4 := HX.out.kil 4; have z0 := HX.out.spo 0; have z1 := HX.out.spo 1; have z2 := HX.out.spo 2; have z3 := HX.out.spo 3; have z4 := HX.out.spo 4; simp only [List.getElem?_toArray, List.getElem?_cons_zero, List.getElem?_cons_succ] at x0 x1 x2 x3 x4 x5 x6 y0 y1 y2 y3 y4 z0 z1 z2 z3 z4
              clear y0 y1 y2 y3 y4
              have HSPW := hid (HSPO2.out n u _ HR.out)
              rw [HSE2.out n] at HSPW
              generalize chk4 (canB (c.R : Int) c.L c.A c.B c.K c.A2 c.B2) x.vB t (cookL b n cold cl) = ck2 at HSPW
              obtain ⟨z, hz⟩ : ∃ z, z = SP b n := ⟨_, rfl⟩
              rw [← hz] at HSPW
              have HZ := hid hz
              clear hz
              have hi0 : decide ((i : Int) < 0) = false := by simp
              cases hd : decide (z < y)
              · have HD := hid (show ¬ z < y by simpa using hd)
                go_wp2_with fail
                refine HSPW.out.mono ?_
                rintro e w9 ⟨rfl, hb⟩
                have HX := hid (HX.out.keep hb)
                clear hb x0 x1 x2 x3 x4 x5 x6 z0 z1 z2 z3 z4
                go_wp2_with fail
                go_roundw
                case rel => exact ⟨k + 1, HLT.out, by go_num, HX, .inr ⟨i, n0, y, hid (bstO_keep HGD2.out HM0.out h0.out (by rw [← HZ.out]; have := HD.out; omega)), rfl, rfl, rfl⟩⟩
                case measure => have := HLT.out; simp [intOf]; omega
              · have HD := hid (show z < y by simpa using hd)
                go_wp2_with fail
                refine HSPW.out.mono ?_
                rintro e w9 ⟨rfl, hb⟩
                have HX := hid (HX.out.keep hb)
                clear hb x0 x1 x2 x3 x4 x5 x6 z0 z1 z2 z3 z4
                go_wp2_with fail
                go_roundw
                case rel => exact ⟨k + 1, HLT.out, by go_num, HX, .inr ⟨k, n, z, hid (by rw [HZ.out]; exact bstO_less HGD2.out HM0.out h0.out (by rw [← HZ.out]; exact HD.out)), rfl, rfl, rfl⟩⟩
                case measure => have := HLT.out; simp [intOf]; omega
        · obtain rfl : k = p.length := by omega
          clear hk hlt hX
          rcases hO with ⟨h0, rfl, rfl, rfl⟩ | ⟨i, n0, y, h0, rfl, rfl, rfl⟩
          · go_wp2_with fail
            refine bodyPost_ret (v := .tuple #[.int .i64 0, .int .i64 0, .int .i64 8]) (by simp [results, Tryz.results10, go_sem]) rfl ⟨by first | (rw [HF.out, h0.out]; done) | (rw [HF.out, h0.out]; rfl), HX.out.low⟩
          · have hi0 : decide ((i : Int) < 0) = false := by simp
            go_wp2_with fail
            refine bodyPost_ret (v := .tuple #[.int .i64 (i : Int), .int .i64 (n0 : Int), .int .i64 0]) (by simp [results, Tryz.results10, go_sem]) rfl ⟨by first | (rw [HF.out, h0.out]; done) | (rw [HF.out, h0.out]; rfl), HX.out.low⟩
theorem xbest_any (r l a b k a2 b2 : Int) (w : World) (q x : Kl) (t cold cooling : Int) (v : Value) (p : List Int) (hs : q.s.size ≤ maxLen) (hx : x.s.size ≤ maxLen) (hl : RowI w v p) (hpm : p.length ≤ maxLen) :
    Calls Tryz.prog 10 #[.agg #[.int .i64 r, .int .i64 l, .int .i64 a, .int .i64 b, .int .i64 k, .int .i64 a2, .int .i64 b2], .agg #[.string q.s, .int .i64 q.r, .int .i64 q.z, .int .i64 q.d, .int .i64 q.g], .agg #[.string x.s, .int .i64 x.r, .int .i64 x.z, .int .i64 x.d, .int .i64 x.g], .int .i64 t, v, .int .i64 cold, .int .i64 cooling] w (BsP (bestA r l a b k a2 b2 q x t cold cooling p) w) := by
  cases h : ((q.vB && x.vB) && canB r l a b k a2 b2)
  · exact xbest_no r l a b k a2 b2 w q x t cold cooling v p hs hx h
  · simp only [Bool.and_eq_true] at h
    obtain ⟨⟨hk, hk2⟩, hc⟩ := h
    obtain ⟨c, hcv, rfl, rfl, rfl, rfl, rfl, rfl, rfl⟩ := canB_cn hc
    obtain ⟨Z, hz, hv⟩ := kl_of hk
    obtain ⟨Y, hy, hv2⟩ := kl_of hk2
    exact xbest_yes c q x t cold cooling Z Y v p w hz hy hs hx hcv hv hv2 hpm hl
end Go.Proofs.YtihbjimnjhfpeaaGreat
