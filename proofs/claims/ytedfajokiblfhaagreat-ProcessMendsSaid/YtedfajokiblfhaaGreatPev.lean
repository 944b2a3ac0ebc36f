/- Walk of ProcessMends. -/
import Derived.Test.YtedfajokiblfhaaGreatPeu
namespace Go.Proofs.YtedfajokiblfhaaGreat
open Go.RowKit Go.Lib

set_option maxRecDepth 100000 in
set_option maxHeartbeats 8000000 in
theorem pmends_nil (r l a b k a2 b2 : Int) (q : Kl) (t : Int) (bath cold cooling : Int) (a0 : Option Addr) (cap : Nat) (w : World) (hs : q.s.size ≤ maxLen) :
    Calls Tryz.prog 7 #[.agg #[.int .i64 r, .int .i64 l, .int .i64 a, .int .i64 b, .int .i64 k, .int .i64 a2, .int .i64 b2, .string q.s, .int .i64 q.r, .int .i64 q.z, .int .i64 q.d, .int .i64 q.g, .int .i64 t], .agg #[.int .i64 bath, .int .i64 cold, .int .i64 cooling], (.slice a0 0 cap)] w fun e w' => e = .returned (.bool true) ∧ Below w.heap.size w w' := by
  have BX := hid (box2_start (w := w) (A := #[.int .i64 r, .int .i64 l, .int .i64 a, .int .i64 b, .int .i64 k, .int .i64 a2, .int .i64 b2, .string q.s, .int .i64 q.r, .int .i64 q.z, .int .i64 q.d, .int .i64 q.g, .int .i64 t]) (B := #[.int .i64 bath, .int .i64 cold, .int .i64 cooling]) (T := 27) (T' := 44) (fz := (0, 0)) (fz' := (0, 0)))
  have HL : Hid (∀ w1, Below w.heap.size w w1 → RowI w1 (.slice a0 0 cap) ([] : List Int)) := fun _ _ => .inl ⟨a0, cap, rfl, rfl⟩
  have HSM := hid (fun W => small04_any r l a b k a2 b2 W a0 0 cap (by decide))
  have HS := hid hs
  clear hs
  go_enter Tryz.func7, Tryz.ntmps7
  have t0 := BX.out.fst 0; have t1 := BX.out.fst 1; have t2 := BX.out.fst 2; have t3 := BX.out.fst 3; have t4 := BX.out.fst 4; have t5 := BX.out.fst 5; have t6 := BX.out.fst 6; have t7 := BX.out.fst 7; have t8 := BX.out.fst 8; have t9 := BX.out.fst 9; have t10 := BX.out.fst 10; have t11 := BX.out.fst 11; have t12 := BX.out.fst 12
  have c0 := BX.out.snd 0; have c1 := BX.out.snd 1; have c2 := BX.out.snd 2
  simp only [List.getElem?_toArray, List.getElem?_cons_zero, List.getElem?_cons_succ] at t0 t1 t2 t3 t4 t5 t6 t7 t8 t9 t10 t11 t12 c0 c1 c2
  go_wp2_with fail
  refine (HSM.out _).mono ?_
  rintro e w1 ⟨rfl, hb⟩
  have BX := hid (BX.out.keep hb)
  clear hb t0 t1 t2 t3 t4 t5 t6 t7 t8 t9 t10 t11 t12 c0 c1 c2
  have t0 := BX.out.fst 0; have t1 := BX.out.fst 1; have t2 := BX.out.fst 2; have t3 := BX.out.fst 3; have t4 := BX.out.fst 4; have t5 := BX.out.fst 5; have t6 := BX.out.fst 6; have t7 := BX.out.fst 7; have t8 := BX.out.fst 8; have t9 := BX.out.fst 9; have t10 := BX.out.fst 10; have t11 := BX.out.fst 11; have t12 := BX.out.fst 12
  have c0 := BX.out.snd 0; have c1 := BX.out.snd 1; have c2 := BX.out.snd 2
  simp only [List.getElem?_toArray, List.getElem?_cons_zero, List.getElem?_cons_succ] at t0 t1 t2 t3 t4 t5 t6 t7 t8 t9 t10 t11 t12 c0 c1 c2
  cases hsm : smallB r l 0 80
  · skip
    go_wp2_with fail
    refine (lawake_any _).mono ?_
    rintro e w9 ⟨rfl, hb⟩
    have BX := hid (BX.out.keep hb)
    clear hb
    go_wp2_with fail
    go_ret
    exact ⟨rfl, BX.out.low⟩
  cases h1 : decide (40 < cooling)
  case true =>
    go_wp2_with fail
    refine (lawake_any _).mono ?_
    rintro e w9 ⟨rfl, hb⟩
    have BX := hid (BX.out.keep hb)
    clear hb
    go_wp2_with fail
    go_ret
    exact ⟨rfl, BX.out.low⟩
  cases h2 : decide (4 < wrap64 (r * l))
  case true =>
    go_wp2_with fail
    refine (lawake_any _).mono ?_
    rintro e w9 ⟨rfl, hb⟩
    have BX := hid (BX.out.keep hb)
    clear hb
    go_wp2_with fail
    go_ret
    exact ⟨rfl, BX.out.low⟩
  by_cases hm : mendE (canB r l a b k a2 b2) q.vB t bath cold cooling ([] : List Int) = 0
  case neg =>
    have HM1 := hid (fun W h => med_err r l a b k a2 b2 W q t bath cold cooling (.slice a0 0 cap) ([] : List Int) HS.out h (by simp) hm)
    have HM2 := hid (fun W h => xmend_err r l a b k a2 b2 W q t bath cold cooling (.slice a0 0 cap) ([] : List Int) HS.out h (by simp) hm)
    have HE1 := hid (fun W => least_err r l a b k a2 b2 W q t bath cold cooling HS.out hm)
    generalize mendE (canB r l a b k a2 b2) q.vB t bath cold cooling ([] : List Int) = ce at *
    have hc1 : (ce != 0) = true := by simpa using hm
    clear hm
    go_wp2_with fail
    refine (HM1.out _ (HL.out _ BX.out.low)).mono ?_
    rintro e w2 ⟨rfl, hb⟩
    have BX := hid (BX.out.keep hb)
    clear hb t0 t1 t2 t3 t4 t5 t6 t7 t8 t9 t10 t11 t12 c0 c1 c2
    have t0 := BX.out.fst 0; have t1 := BX.out.fst 1; have t2 := BX.out.fst 2; have t3 := BX.out.fst 3; have t4 := BX.out.fst 4; have t5 := BX.out.fst 5; have t6 := BX.out.fst 6; have t7 := BX.out.fst 7; have t8 := BX.out.fst 8; have t9 := BX.out.fst 9; have t10 := BX.out.fst 10; have t11 := BX.out.fst 11; have t12 := BX.out.fst 12
    have c0 := BX.out.snd 0; have c1 := BX.out.snd 1; have c2 := BX.out.snd 2
    simp only [List.getElem?_toArray, List.getElem?_cons_zero, List.getElem?_cons_succ] at t0 t1 t2 t3 t4 t5 t6 t7 t8 t9 t10 t11 t12 c0 c1 c2
    go_wp2_with fail
    refine (HM2.out _ (HL.out _ BX.out.low)).mono ?_
    rintro e w3 ⟨rfl, hb⟩
    have BX := hid (BX.out.keep hb)
    clear hb t0 t1 t2 t3 t4 t5 t6 t7 t8 t9 t10 t11 t12 c0 c1 c2
    have t0 := BX.out.fst 0; have t1 := BX.out.fst 1; have t2 := BX.out.fst 2; have t3 := BX.out.fst 3; have t4 := BX.out.fst 4; have t5 := BX.out.fst 5; have t6 := BX.out.fst 6; have t7 := BX.out.fst 7; have t8 := BX.out.fst 8; have t9 := BX.out.fst 9; have t10 := BX.out.fst 10; have t11 := BX.out.fst 11; have t12 := BX.out.fst 12
    have c0 := BX.out.snd 0; have c1 := BX.out.snd 1; have c2 := BX.out.snd 2
    simp only [List.getElem?_toArray, List.getElem?_cons_zero, List.getElem?_cons_succ] at t0 t1 t2 t3 t4 t5 t6 t7 t8 t9 t10 t11 t12 c0 c1 c2
    go_wp2_with fail
    refine (HE1.out _).mono ?_
    rintro e w4 ⟨rfl, hb⟩
    have BX := hid (BX.out.keep hb)
    clear hb t0 t1 t2 t3 t4 t5 t6 t7 t8 t9 t10 t11 t12 c0 c1 c2
    have t0 := BX.out.fst 0; have t1 := BX.out.fst 1; have t2 := BX.out.fst 2; have t3 := BX.out.fst 3; have t4 := BX.out.fst 4; have t5 := BX.out.fst 5; have t6 := BX.out.fst 6; have t7 := BX.out.fst 7; have t8 := BX.out.fst 8; have t9 := BX.out.fst 9; have t10 := BX.out.fst 10; have t11 := BX.out.fst 11; have t12 := BX.out.fst 12
    have c0 := BX.out.snd 0; have c1 := BX.out.snd 1; have c2 := BX.out.snd 2
    simp only [List.getElem?_toArray, List.getElem?_cons_zero, List.getElem?_cons_succ] at t0 t1 t2 t3 t4 t5 t6 t7 t8 t9 t10 t11 t12 c0 c1 c2
    go_wp2_with fail
    refine (lawake_any _).mono ?_
    rintro e w9 ⟨rfl, hb⟩
    have BX := hid (BX.out.keep hb)
    clear hb
    go_wp2_with fail
    go_ret
    exact ⟨rfl, BX.out.low⟩
  obtain ⟨hch, hob, hoc, hc0, hc2⟩ := mendE_zero hm
  obtain ⟨c, Z, hcv, rfl, rfl, rfl, rfl, rfl, rfl, rfl, hz, hv, ho, hop, _⟩ := canB_open hch
  obtain ⟨cl, rfl⟩ := Int.eq_ofNat_of_zero_le hc0
  have hcl : cl ≤ 40 := by simp at h1; omega
  have HM1 := hid (fun W h => mend_all c q t bath cold cl (2000 - 0 - cl) Z (.slice a0 0 cap) ([] : List Int) W hz HS.out hcv hv ho hob hoc hop (by simp; omega) h)
  have HM2 := hid (fun W h => xmend_all c q t bath cold cl (2000 - 0 - cl) Z (.slice a0 0 cap) ([] : List Int) W hz HS.out hcv hv ho hob hoc hop (by simp; omega) h)
  have HE1 := hid (fun W => least_all c q t bath cold cl Z W hz HS.out hcv hv ho hob hoc (by omega))
  have HGM := hid (fun (n : Nat) (hn : n ≤ 2000 - cl) => show withF c.R c.L c.A c.B c.K c.A2 c.B2 q t bath cold cl n = medF c q.r Z t [] bath cold cl n from withF_eq (c := c) (q := q) (Z := Z) (t := t) (bath := bath) (cold := cold) (cooling := cl) (n := n) hz hch hob hoc (by omega))
  obtain ⟨G, hG⟩ : ∃ G : Nat → Int, G = fun n : Nat => withF c.R c.L c.A c.B c.K c.A2 c.B2 q t bath cold cl n := ⟨_, rfl⟩
  have HGM : Hid (∀ (n : Nat), n ≤ 2000 - cl → G n = medF c q.r Z t [] bath cold cl n) := by rw [hG]; exact HGM
  rw [← hG] at HE1
  clear hG
  generalize medF c q.r Z t ([] : List Int) bath cold cl = M at *
  generalize q.g * (q.d * 1000000) = need at *
  clear hch hz hv ho hob hoc hm hcv hop
  go_wp2_with fail
  refine (HM1.out _ (HL.out _ BX.out.low)).mono ?_
  rintro e w2 ⟨hb, hr1⟩
  have BX := hid (BX.out.keep hb)
  clear hb t0 t1 t2 t3 t4 t5 t6 t7 t8 t9 t10 t11 t12 c0 c1 c2
  have t0 := BX.out.fst 0; have t1 := BX.out.fst 1; have t2 := BX.out.fst 2; have t3 := BX.out.fst 3; have t4 := BX.out.fst 4; have t5 := BX.out.fst 5; have t6 := BX.out.fst 6; have t7 := BX.out.fst 7; have t8 := BX.out.fst 8; have t9 := BX.out.fst 9; have t10 := BX.out.fst 10; have t11 := BX.out.fst 11; have t12 := BX.out.fst 12
  have c0 := BX.out.snd 0; have c1 := BX.out.snd 1; have c2 := BX.out.snd 2
  simp only [List.getElem?_toArray, List.getElem?_cons_zero, List.getElem?_cons_succ] at t0 t1 t2 t3 t4 t5 t6 t7 t8 t9 t10 t11 t12 c0 c1 c2
  have HR1 := hid hr1
  clear hr1
  rcases HR1.out with ⟨n, hn, g1, g2, rfl⟩ | ⟨g1, rfl⟩
  case inr =>
    have HG1 := hid g1
    clear HR1 g1
    go_wp2_with fail
    refine (HM2.out _ (HL.out _ BX.out.low)).mono ?_
    rintro e w3 ⟨hb, ⟨m, hm, k1, _, _⟩ | ⟨_, rfl⟩⟩
    · have := HG1.out m hm
      omega
    have BX := hid (BX.out.keep hb)
    clear hb t0 t1 t2 t3 t4 t5 t6 t7 t8 t9 t10 t11 t12 c0 c1 c2
    have t0 := BX.out.fst 0; have t1 := BX.out.fst 1; have t2 := BX.out.fst 2; have t3 := BX.out.fst 3; have t4 := BX.out.fst 4; have t5 := BX.out.fst 5; have t6 := BX.out.fst 6; have t7 := BX.out.fst 7; have t8 := BX.out.fst 8; have t9 := BX.out.fst 9; have t10 := BX.out.fst 10; have t11 := BX.out.fst 11; have t12 := BX.out.fst 12
    have c0 := BX.out.snd 0; have c1 := BX.out.snd 1; have c2 := BX.out.snd 2
    simp only [List.getElem?_toArray, List.getElem?_cons_zero, List.getElem?_cons_succ] at t0 t1 t2 t3 t4 t5 t6 t7 t8 t9 t10 t11 t12 c0 c1 c2
    go_wp2_with fail
    refine (HE1.out _).mono ?_
    rintro e w4 ⟨hb, ⟨m, hm, k1, _, _⟩ | ⟨_, rfl⟩⟩
    · have h3 := HG1.out m (by omega)
      have h4 := HGM.out m (by omega)
      omega
    have BX := hid (BX.out.keep hb)
    clear hb t0 t1 t2 t3 t4 t5 t6 t7 t8 t9 t10 t11 t12 c0 c1 c2
    have t0 := BX.out.fst 0; have t1 := BX.out.fst 1; have t2 := BX.out.fst 2; have t3 := BX.out.fst 3; have t4 := BX.out.fst 4; have t5 := BX.out.fst 5; have t6 := BX.out.fst 6; have t7 := BX.out.fst 7; have t8 := BX.out.fst 8; have t9 := BX.out.fst 9; have t10 := BX.out.fst 10; have t11 := BX.out.fst 11; have t12 := BX.out.fst 12
    have c0 := BX.out.snd 0; have c1 := BX.out.snd 1; have c2 := BX.out.snd 2
    simp only [List.getElem?_toArray, List.getElem?_cons_zero, List.getElem?_cons_succ] at t0 t1 t2 t3 t4 t5 t6 t7 t8 t9 t10 t11 t12 c0 c1 c2
    go_wp2_with fail
    refine (lawake_any _).mono ?_
    rintro e w9 ⟨rfl, hb⟩
    have BX := hid (BX.out.keep hb)
    clear hb
    go_wp2_with fail
    go_ret
    exact ⟨rfl, BX.out.low⟩
  have HN := hid (And.intro hn (And.intro g1 g2))
  clear HR1 g1 g2 hn
  go_wp2_with fail
  refine (HM2.out _ (HL.out _ BX.out.low)).mono ?_
  rintro e w3 ⟨hb, ⟨m, hm, k1, k2, rfl⟩ | ⟨k1, _⟩⟩
  case inr => have := k1 n HN.out.1; have := HN.out.2.1; omega
  have hnm : m = n := by
    rcases Nat.lt_trichotomy m n with h | h | h
    · have := HN.out.2.2 m h; omega
    · exact h
    · have := k2 n h; have := HN.out.2.1; omega
  subst hnm
  clear hm k1 k2 HM1 HM2
  have BX := hid (BX.out.keep hb)
  clear hb t0 t1 t2 t3 t4 t5 t6 t7 t8 t9 t10 t11 t12 c0 c1 c2
  have t0 := BX.out.fst 0; have t1 := BX.out.fst 1; have t2 := BX.out.fst 2; have t3 := BX.out.fst 3; have t4 := BX.out.fst 4; have t5 := BX.out.fst 5; have t6 := BX.out.fst 6; have t7 := BX.out.fst 7; have t8 := BX.out.fst 8; have t9 := BX.out.fst 9; have t10 := BX.out.fst 10; have t11 := BX.out.fst 11; have t12 := BX.out.fst 12
  have c0 := BX.out.snd 0; have c1 := BX.out.snd 1; have c2 := BX.out.snd 2
  simp only [List.getElem?_toArray, List.getElem?_cons_zero, List.getElem?_cons_succ] at t0 t1 t2 t3 t4 t5 t6 t7 t8 t9 t10 t11 t12 c0 c1 c2
  go_wp2_with fail
  refine (HE1.out _).mono ?_
  rintro e w4 ⟨hb, ⟨j, hj, k1, k2, rfl⟩ | ⟨k1, _⟩⟩
  case inr =>
    have h3 := k1 m (by have := HN.out.1; omega)
    have h4 := HGM.out m (by have := HN.out.1; omega)
    have := HN.out.2.1
    omega
  have hjm : j = m := by
    have hm1 := HN.out.1
    rcases Nat.lt_trichotomy j m with h | h | h
    · have h3 := HN.out.2.2 j h; have h4 := HGM.out j hj; omega
    · exact h
    · have h3 := k2 m h; have h4 := HGM.out m (by omega); have := HN.out.2.1; omega
  subst hjm
  clear hj k1 k2 HE1
  generalize G j = gj at *
  generalize (if j = 0 then -1 else G (j - 1)) = bj at *
  have BX := hid (BX.out.keep hb)
  clear hb t0 t1 t2 t3 t4 t5 t6 t7 t8 t9 t10 t11 t12 c0 c1 c2
  have t0 := BX.out.fst 0; have t1 := BX.out.fst 1; have t2 := BX.out.fst 2; have t3 := BX.out.fst 3; have t4 := BX.out.fst 4; have t5 := BX.out.fst 5; have t6 := BX.out.fst 6; have t7 := BX.out.fst 7; have t8 := BX.out.fst 8; have t9 := BX.out.fst 9; have t10 := BX.out.fst 10; have t11 := BX.out.fst 11; have t12 := BX.out.fst 12
  have c0 := BX.out.snd 0; have c1 := BX.out.snd 1; have c2 := BX.out.snd 2
  simp only [List.getElem?_toArray, List.getElem?_cons_zero, List.getElem?_cons_succ] at t0 t1 t2 t3 t4 t5 t6 t7 t8 t9 t10 t11 t12 c0 c1 c2
  go_wp2_with fail
  refine (lawake_any _).mono ?_
  rintro e w9 ⟨rfl, hb⟩
  have BX := hid (BX.out.keep hb)
  clear hb
  go_wp2_with fail
  go_ret
  exact ⟨rfl, BX.out.low⟩
set_option maxRecDepth 100000 in
set_option maxHeartbeats 8000000 in
theorem pmends_cons (r l a b k a2 b2 : Int) (q : Kl) (t : Int) (bath cold cooling : Int) (a0 : Option Addr) (cap : Nat) (p : List Int) (w : World) (hs : q.s.size ≤ maxLen) (hl : RowI w (.slice a0 p.length cap) p) (hp0 : 0 < p.length) :
    Calls Tryz.prog 7 #[.agg #[.int .i64 r, .int .i64 l, .int .i64 a, .int .i64 b, .int .i64 k, .int .i64 a2, .int .i64 b2, .string q.s, .int .i64 q.r, .int .i64 q.z, .int .i64 q.d, .int .i64 q.g, .int .i64 t], .agg #[.int .i64 bath, .int .i64 cold, .int .i64 cooling], (.slice a0 p.length cap)] w fun e w' => e = .returned (.bool true) ∧ Below w.heap.size w w' := by
  have BX := hid (box2_start (w := w) (A := #[.int .i64 r, .int .i64 l, .int .i64 a, .int .i64 b, .int .i64 k, .int .i64 a2, .int .i64 b2, .string q.s, .int .i64 q.r, .int .i64 q.z, .int .i64 q.d, .int .i64 q.g, .int .i64 t]) (B := #[.int .i64 bath, .int .i64 cold, .int .i64 cooling]) (T := 27) (T' := 44) (fz := (0, 0)) (fz' := (0, 0)))
  have HL : Hid (∀ w1, Below w.heap.size w w1 → RowI w1 (.slice a0 p.length cap) p) := fun w1 g => hl.keep g
  have HSM := hid (fun W => small04_any r l a b k a2 b2 W a0 p.length cap (by exact RowI.most hl))
  have HS := hid hs
  clear hs
  have hpm : p.length ≤ maxLen := RowI.most hl
  have HPM := hid hpm
  clear hpm hl
  go_enter Tryz.func7, Tryz.ntmps7
  have t0 := BX.out.fst 0; have t1 := BX.out.fst 1; have t2 := BX.out.fst 2; have t3 := BX.out.fst 3; have t4 := BX.out.fst 4; have t5 := BX.out.fst 5; have t6 := BX.out.fst 6; have t7 := BX.out.fst 7; have t8 := BX.out.fst 8; have t9 := BX.out.fst 9; have t10 := BX.out.fst 10; have t11 := BX.out.fst 11; have t12 := BX.out.fst 12
  have c0 := BX.out.snd 0; have c1 := BX.out.snd 1; have c2 := BX.out.snd 2
  simp only [List.getElem?_toArray, List.getElem?_cons_zero, List.getElem?_cons_succ] at t0 t1 t2 t3 t4 t5 t6 t7 t8 t9 t10 t11 t12 c0 c1 c2
  go_wp2_with fail
  refine (HSM.out _).mono ?_
  rintro e w1 ⟨rfl, hb⟩
  have BX := hid (BX.out.keep hb)
  clear hb t0 t1 t2 t3 t4 t5 t6 t7 t8 t9 t10 t11 t12 c0 c1 c2
  have t0 := BX.out.fst 0; have t1 := BX.out.fst 1; have t2 := BX.out.fst 2; have t3 := BX.out.fst 3; have t4 := BX.out.fst 4; have t5 := BX.out.fst 5; have t6 := BX.out.fst 6; have t7 := BX.out.fst 7; have t8 := BX.out.fst 8; have t9 := BX.out.fst 9; have t10 := BX.out.fst 10; have t11 := BX.out.fst 11; have t12 := BX.out.fst 12
  have c0 := BX.out.snd 0; have c1 := BX.out.snd 1; have c2 := BX.out.snd 2
  simp only [List.getElem?_toArray, List.getElem?_cons_zero, List.getElem?_cons_succ] at t0 t1 t2 t3 t4 t5 t6 t7 t8 t9 t10 t11 t12 c0 c1 c2
  cases hsm : smallB r l p.length 80
  · skip
    go_wp2_with fail
    refine (lawake_any _).mono ?_
    rintro e w9 ⟨rfl, hb⟩
    have BX := hid (BX.out.keep hb)
    clear hb
    go_wp2_with fail
    go_ret
    exact ⟨rfl, BX.out.low⟩
  cases h1 : decide (40 < cooling)
  case true =>
    go_wp2_with fail
    refine (lawake_any _).mono ?_
    rintro e w9 ⟨rfl, hb⟩
    have BX := hid (BX.out.keep hb)
    clear hb
    go_wp2_with fail
    go_ret
    exact ⟨rfl, BX.out.low⟩
  cases h2 : decide (4 < wrap64 (r * l))
  case true =>
    go_wp2_with fail
    refine (lawake_any _).mono ?_
    rintro e w9 ⟨rfl, hb⟩
    have BX := hid (BX.out.keep hb)
    clear hb
    go_wp2_with fail
    go_ret
    exact ⟨rfl, BX.out.low⟩
  have hlen : p.length ≤ 80 := by
    unfold smallB at hsm
    simp only [Bool.and_eq_true, decide_eq_true_eq] at hsm
    exact hsm.2
  have hp1 : (0 : Int) < p.length := by omega
  by_cases hm : mendE (canB r l a b k a2 b2) q.vB t bath cold cooling p = 0
  case neg =>
    have HM1 := hid (fun W h => med_err r l a b k a2 b2 W q t bath cold cooling (.slice a0 p.length cap) p HS.out h (by exact HPM.out) hm)
    have HM2 := hid (fun W h => xmend_err r l a b k a2 b2 W q t bath cold cooling (.slice a0 p.length cap) p HS.out h (by exact HPM.out) hm)
    generalize mendE (canB r l a b k a2 b2) q.vB t bath cold cooling p = ce at *
    have hc1 : (ce != 0) = true := by simpa using hm
    clear hm
    go_wp2_with fail
    refine (HM1.out _ (HL.out _ BX.out.low)).mono ?_
    rintro e w2 ⟨rfl, hb⟩
    have BX := hid (BX.out.keep hb)
    clear hb t0 t1 t2 t3 t4 t5 t6 t7 t8 t9 t10 t11 t12 c0 c1 c2
    have t0 := BX.out.fst 0; have t1 := BX.out.fst 1; have t2 := BX.out.fst 2; have t3 := BX.out.fst 3; have t4 := BX.out.fst 4; have t5 := BX.out.fst 5; have t6 := BX.out.fst 6; have t7 := BX.out.fst 7; have t8 := BX.out.fst 8; have t9 := BX.out.fst 9; have t10 := BX.out.fst 10; have t11 := BX.out.fst 11; have t12 := BX.out.fst 12
    have c0 := BX.out.snd 0; have c1 := BX.out.snd 1; have c2 := BX.out.snd 2
    simp only [List.getElem?_toArray, List.getElem?_cons_zero, List.getElem?_cons_succ] at t0 t1 t2 t3 t4 t5 t6 t7 t8 t9 t10 t11 t12 c0 c1 c2
    go_wp2_with fail
    refine (HM2.out _ (HL.out _ BX.out.low)).mono ?_
    rintro e w3 ⟨rfl, hb⟩
    have BX := hid (BX.out.keep hb)
    clear hb t0 t1 t2 t3 t4 t5 t6 t7 t8 t9 t10 t11 t12 c0 c1 c2
    have t0 := BX.out.fst 0; have t1 := BX.out.fst 1; have t2 := BX.out.fst 2; have t3 := BX.out.fst 3; have t4 := BX.out.fst 4; have t5 := BX.out.fst 5; have t6 := BX.out.fst 6; have t7 := BX.out.fst 7; have t8 := BX.out.fst 8; have t9 := BX.out.fst 9; have t10 := BX.out.fst 10; have t11 := BX.out.fst 11; have t12 := BX.out.fst 12
    have c0 := BX.out.snd 0; have c1 := BX.out.snd 1; have c2 := BX.out.snd 2
    simp only [List.getElem?_toArray, List.getElem?_cons_zero, List.getElem?_cons_succ] at t0 t1 t2 t3 t4 t5 t6 t7 t8 t9 t10 t11 t12 c0 c1 c2
    go_wp2_with fail
    refine (lawake_any _).mono ?_
    rintro e w9 ⟨rfl, hb⟩
    have BX := hid (BX.out.keep hb)
    clear hb
    go_wp2_with fail
    go_ret
    exact ⟨rfl, BX.out.low⟩
  obtain ⟨hch, hob, hoc, hc0, hc2⟩ := mendE_zero hm
  obtain ⟨c, Z, hcv, rfl, rfl, rfl, rfl, rfl, rfl, rfl, hz, hv, ho, hop, _⟩ := canB_open hch
  obtain ⟨cl, rfl⟩ := Int.eq_ofNat_of_zero_le hc0
  have hcl : cl ≤ 40 := by simp at h1; omega
  have HM1 := hid (fun W h => mend_all c q t bath cold cl (2000 - p.length - cl) Z (.slice a0 p.length cap) p W hz HS.out hcv hv ho hob hoc hop (by omega) h)
  have HM2 := hid (fun W h => xmend_all c q t bath cold cl (2000 - p.length - cl) Z (.slice a0 p.length cap) p W hz HS.out hcv hv ho hob hoc hop (by omega) h)
  generalize medF c q.r Z t p bath cold cl = M at *
  generalize q.g * (q.d * 1000000) = need at *
  clear hch hz hv ho hob hoc hm hcv hop
  go_wp2_with fail
  refine (HM1.out _ (HL.out _ BX.out.low)).mono ?_
  rintro e w2 ⟨hb, hr1⟩
  have BX := hid (BX.out.keep hb)
  clear hb t0 t1 t2 t3 t4 t5 t6 t7 t8 t9 t10 t11 t12 c0 c1 c2
  have t0 := BX.out.fst 0; have t1 := BX.out.fst 1; have t2 := BX.out.fst 2; have t3 := BX.out.fst 3; have t4 := BX.out.fst 4; have t5 := BX.out.fst 5; have t6 := BX.out.fst 6; have t7 := BX.out.fst 7; have t8 := BX.out.fst 8; have t9 := BX.out.fst 9; have t10 := BX.out.fst 10; have t11 := BX.out.fst 11; have t12 := BX.out.fst 12
  have c0 := BX.out.snd 0; have c1 := BX.out.snd 1; have c2 := BX.out.snd 2
  simp only [List.getElem?_toArray, List.getElem?_cons_zero, List.getElem?_cons_succ] at t0 t1 t2 t3 t4 t5 t6 t7 t8 t9 t10 t11 t12 c0 c1 c2
  have HR1 := hid hr1
  clear hr1
  rcases HR1.out with ⟨n, hn, g1, g2, rfl⟩ | ⟨g1, rfl⟩
  case inr =>
    have HG1 := hid g1
    clear HR1 g1
    go_wp2_with fail
    refine (HM2.out _ (HL.out _ BX.out.low)).mono ?_
    rintro e w3 ⟨hb, ⟨m, hm, k1, _, _⟩ | ⟨_, rfl⟩⟩
    · have := HG1.out m hm
      omega
    have BX := hid (BX.out.keep hb)
    clear hb t0 t1 t2 t3 t4 t5 t6 t7 t8 t9 t10 t11 t12 c0 c1 c2
    have t0 := BX.out.fst 0; have t1 := BX.out.fst 1; have t2 := BX.out.fst 2; have t3 := BX.out.fst 3; have t4 := BX.out.fst 4; have t5 := BX.out.fst 5; have t6 := BX.out.fst 6; have t7 := BX.out.fst 7; have t8 := BX.out.fst 8; have t9 := BX.out.fst 9; have t10 := BX.out.fst 10; have t11 := BX.out.fst 11; have t12 := BX.out.fst 12
    have c0 := BX.out.snd 0; have c1 := BX.out.snd 1; have c2 := BX.out.snd 2
    simp only [List.getElem?_toArray, List.getElem?_cons_zero, List.getElem?_cons_succ] at t0 t1 t2 t3 t4 t5 t6 t7 t8 t9 t10 t11 t12 c0 c1 c2
    go_wp2_with fail
    refine (lawake_any _).mono ?_
    rintro e w9 ⟨rfl, hb⟩
    have BX := hid (BX.out.keep hb)
    clear hb
    go_wp2_with fail
    go_ret
    exact ⟨rfl, BX.out.low⟩
  have HN := hid (And.intro hn (And.intro g1 g2))
  clear HR1 g1 g2 hn
  go_wp2_with fail
  refine (HM2.out _ (HL.out _ BX.out.low)).mono ?_
  rintro e w3 ⟨hb, ⟨m, hm, k1, k2, rfl⟩ | ⟨k1, _⟩⟩
  case inr => have := k1 n HN.out.1; have := HN.out.2.1; omega
  have hnm : m = n := by
    rcases Nat.lt_trichotomy m n with h | h | h
    · have := HN.out.2.2 m h; omega
    · exact h
    · have := k2 n h; have := HN.out.2.1; omega
  subst hnm
  clear hm k1 k2 HM1 HM2
  have BX := hid (BX.out.keep hb)
  clear hb t0 t1 t2 t3 t4 t5 t6 t7 t8 t9 t10 t11 t12 c0 c1 c2
  have t0 := BX.out.fst 0; have t1 := BX.out.fst 1; have t2 := BX.out.fst 2; have t3 := BX.out.fst 3; have t4 := BX.out.fst 4; have t5 := BX.out.fst 5; have t6 := BX.out.fst 6; have t7 := BX.out.fst 7; have t8 := BX.out.fst 8; have t9 := BX.out.fst 9; have t10 := BX.out.fst 10; have t11 := BX.out.fst 11; have t12 := BX.out.fst 12
  have c0 := BX.out.snd 0; have c1 := BX.out.snd 1; have c2 := BX.out.snd 2
  simp only [List.getElem?_toArray, List.getElem?_cons_zero, List.getElem?_cons_succ] at t0 t1 t2 t3 t4 t5 t6 t7 t8 t9 t10 t11 t12 c0 c1 c2
  go_wp2_with fail
  refine (lawake_any _).mono ?_
  rintro e w9 ⟨rfl, hb⟩
  have BX := hid (BX.out.keep hb)
  clear hb
  go_wp2_with fail
  go_ret
  exact ⟨rfl, BX.out.low⟩
theorem pmends_walk (r l a b k a2 b2 : Int) (q : Kl) (t : Int) (bath cold cooling : Int) (v : Value) (p : List Int) (w : World) (hs : q.s.size ≤ maxLen) (_ht : (Lit.int .i64 t).wf = true) (_hp : (Lit.int .i64 bath).wf = true) (_hq : (Lit.int .i64 cold).wf = true) (_hr : (Lit.int .i64 cooling).wf = true) (hl : RowI w v p) :
    Calls Tryz.prog 7 #[.agg #[.int .i64 r, .int .i64 l, .int .i64 a, .int .i64 b, .int .i64 k, .int .i64 a2, .int .i64 b2, .string q.s, .int .i64 q.r, .int .i64 q.z, .int .i64 q.d, .int .i64 q.g, .int .i64 t], .agg #[.int .i64 bath, .int .i64 cold, .int .i64 cooling], v] w fun e w' => e = .returned (.bool true) ∧ Below w.heap.size w w' := by
  obtain ⟨a0, cap, rfl⟩ := hl.shape
  rcases Nat.eq_zero_or_pos p.length with h | h
  · rw [h]
    exact pmends_nil r l a b k a2 b2 q t bath cold cooling a0 cap w hs
  · exact pmends_cons r l a b k a2 b2 q t bath cold cooling a0 cap p w hs hl h
end Go.Proofs.YtedfajokiblfhaaGreat
