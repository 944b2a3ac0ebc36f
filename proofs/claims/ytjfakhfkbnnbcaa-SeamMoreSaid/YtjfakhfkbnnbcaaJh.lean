/- SeamHolds' walk. -/
import Derived.Test.YtjfakhfkbnnbcaaJg
import Derived.Test.YtjfakhfkbnnbcaaP7
namespace Go.Proofs.Ytjfakhfkbnnbcaa
open Go.RowKit

theorem Box2.span {w W : World} {n : Nm} {hd b E : Int} (h : Box2 w W #[.int .i64 n.bl, .int .i64 n.bh, .int .i64 n.cl, .int .i64 n.ch, .int .i64 n.pc, .int .i64 n.wr, .int .i64 n.tl, .int .i64 n.th, .int .i64 n.sl, .int .i64 n.sh] #[.int .i64 hd, .int .i64 b, .int .i64 E]) : World.cell? W ⟨w.heap.size, 0, none⟩ = some (.int .i64 n.bl) ∧ World.cell? W ⟨w.heap.size, 1, none⟩ = some (.int .i64 n.bh) ∧ World.cell? W ⟨w.heap.size, 2, none⟩ = some (.int .i64 n.cl) ∧ World.cell? W ⟨w.heap.size, 3, none⟩ = some (.int .i64 n.ch) ∧ World.cell? W ⟨w.heap.size, 4, none⟩ = some (.int .i64 n.pc) ∧ World.cell? W ⟨w.heap.size, 5, none⟩ = some (.int .i64 n.wr) ∧ World.cell? W ⟨w.heap.size, 6, none⟩ = some (.int .i64 n.tl) ∧ World.cell? W ⟨w.heap.size, 7, none⟩ = some (.int .i64 n.th) ∧ World.cell? W ⟨w.heap.size, 8, none⟩ = some (.int .i64 n.sl) ∧ World.cell? W ⟨w.heap.size, 9, none⟩ = some (.int .i64 n.sh) ∧ World.cell? W ⟨w.heap.size + 1, 0, none⟩ = some (.int .i64 hd) ∧ World.cell? W ⟨w.heap.size + 1, 1, none⟩ = some (.int .i64 b) ∧ World.cell? W ⟨w.heap.size + 1, 2, none⟩ = some (.int .i64 E) :=
  ⟨h.fst 0, h.fst 1, h.fst 2, h.fst 3, h.fst 4, h.fst 5, h.fst 6, h.fst 7, h.fst 8, h.fst 9, h.snd 0, h.snd 1, h.snd 2⟩
theorem hd_same {L : List Pr} {c : Int} {B1 B2 : Nat} {m1 m2 : List Pr} (h1 : c = 0 → Canon m1 ∧ (∀ t, inP m1 t ↔ inP L t) ∧ m1.length ≤ B1) (g1 : c ≠ 0 → m1 = []) (h2 : c = 0 → Canon m2 ∧ (∀ t, inP m2 t ↔ inP L t) ∧ m2.length ≤ B2) (g2 : c ≠ 0 → m2 = []) : m1 = m2 := by
  by_cases h0 : c = 0
  · obtain ⟨a1, a2, _⟩ := h1 h0
    obtain ⟨b1, b2, _⟩ := h2 h0
    exact canon_uniq a1 b1 fun t => (a2 t).trans (b2 t).symm
  · rw [g1 h0, g2 h0]
set_option maxRecDepth 20000 in
set_option maxHeartbeats 16000000 in
theorem holds_walk (n : Nm) (v : Value) (l : List Sh) (hd b E : Int) (w : World) (hr : RowH w v l) (_ : (Lit.int .i64 hd).wf = true) (_ : (Lit.int .i64 b).wf = true) (_ : (Lit.int .i64 E).wf = true) : Calls Try.prog 3 #[.agg #[.int .i64 n.bl, .int .i64 n.bh, .int .i64 n.cl, .int .i64 n.ch, .int .i64 n.pc, .int .i64 n.wr, .int .i64 n.tl, .int .i64 n.th, .int .i64 n.sl, .int .i64 n.sh], v, .agg #[.int .i64 hd, .int .i64 b, .int .i64 E]] w fun e w' => e = .returned (.bool true) ∧ Below w.heap.size w w' := by
  have HR := hid (fun w1 (g : Below w.heap.size w w1) => hr.keep g)
  have hm := hr.most
  unfold maxLen at hm
  clear hr
  have HX0 := hid (box2_start (w := w) (A := #[.int .i64 n.bl, .int .i64 n.bh, .int .i64 n.cl, .int .i64 n.ch, .int .i64 n.pc, .int .i64 n.wr, .int .i64 n.tl, .int .i64 n.th, .int .i64 n.sl, .int .i64 n.sh]) (B := #[.int .i64 hd, .int .i64 b, .int .i64 E]) (T := 23) (T' := 26) (fz := (0, 0)) (fz' := (0, 0)))
  obtain ⟨va, vc, rfl⟩ := (HR.out _ (Below.refl _ _)).shape
  obtain ⟨m, hn⟩ : ∃ m, m = l.length := ⟨_, rfl⟩
  have HN := hid hn
  rw [← hn] at hm HR ⊢
  clear hn
  by_cases h5 : m ≤ 200
  case neg =>
    have h5' : (200 : Int) < m := by omega
    clear h5
    go_enter Try.func3, Try.ntmps3
    go_wp2_with fail
    refine (kawake_any _).mono ?_
    rintro e w2 ⟨rfl, hb⟩
    have HB2 := hid (bstep HX0.out.low HX0.out.low.size hb)
    clear hb
    go_wp2_with fail
    go_ret
    exact ⟨rfl, HB2.out⟩
  have h5' : ¬ (200 : Int) < m := by omega
  have HL := hid (show l.length ≤ 200 by rw [← HN.out]; exact h5)
  obtain ⟨X, hX⟩ : ∃ X, X = hdC n l hd b E := ⟨_, rfl⟩
  have HC1 := hid (fun w1 (g : Below w.heap.size w w1) => suspect_any n _ l hd b E w1 (HR.out w1 g) (by have := HL.out; omega))
  have HC2 := hid (fun w1 (g : Below w.heap.size w w1) => xsuspect_any n _ l hd b E w1 (HR.out w1 g) HL.out)
  have HC3 := hid (fun w1 (g : Below w.heap.size w w1) => heldk_any n _ l hd b E w1 (HR.out w1 g) (by have := HL.out; omega))
  have HC4 := hid (fun w1 (g : Below w.heap.size w w1) => xheld_any n _ l hd b E w1 (HR.out w1 g) HL.out)
  rw [← hX] at HC1 HC2 HC3 HC4
  clear h5 hX
  go_enter Try.func3, Try.ntmps3
  go_wp2_with fail
  refine (HC1.out _ HX0.out.low).mono ?_
  rintro e w1 ⟨u1, m1, rfl, ho1, hb, hm1, hn1⟩
  have HM1 := hid hm1
  have HN1 := hid hn1
  have HO1 := hid (fun W (g : Below w1.heap.size w1 W) => ho1.row.keep g)
  have HB1 := hid hb
  have HX1 := hid (HX0.out.keep hb)
  obtain ⟨n0, n1, n2, n3, n4, n5, n6, n7, n8, n9, s0, s1, s2⟩ := HX1.out.span
  clear ho1 hb hm1 hn1
  go_wp2_with fail
  refine (HC2.out _ HX1.out.low).mono ?_
  rintro e w2 ⟨u2, m2, rfl, ho2, hb, hm2, hn2⟩
  have HM2 := hid hm2
  have HN2 := hid hn2
  have HO2 := hid (fun W (g : Below w2.heap.size w2 W) => ho2.row.keep g)
  have HB2 := hid hb
  have HX2 := hid (HX1.out.keep hb)
  clear n0 n1 n2 n3 n4 n5 n6 n7 n8 n9 s0 s1 s2
  obtain ⟨n0, n1, n2, n3, n4, n5, n6, n7, n8, n9, s0, s1, s2⟩ := HX2.out.span
  clear ho2 hb hm2 hn2
  have HE := hid (hd_same HM1.out HN1.out HM2.out HN2.out)
  have HS := hid (strs_any u1 u2 m1 m2 w2 (HO1.out _ HB2.out) (HO2.out _ (Below.refl _ _)))
  go_wp2_with fail
  refine HS.out.mono ?_
  rintro e w3 ⟨rfl, hb⟩
  rw [decide_eq_true HE.out]
  have HX3 := hid (HX2.out.keep hb)
  clear n0 n1 n2 n3 n4 n5 n6 n7 n8 n9 s0 s1 s2
  obtain ⟨n0, n1, n2, n3, n4, n5, n6, n7, n8, n9, s0, s1, s2⟩ := HX3.out.span
  clear hb HS
  go_wp2_with fail
  refine (HC3.out _ HX3.out.low).mono ?_
  rintro e w4 ⟨u3, m3, rfl, ho3, hb, hm3, hn3⟩
  have HM3 := hid hm3
  have HN3 := hid hn3
  have HO3 := hid (fun W (g : Below w4.heap.size w4 W) => ho3.row.keep g)
  have HB4 := hid hb
  have HX4 := hid (HX3.out.keep hb)
  clear n0 n1 n2 n3 n4 n5 n6 n7 n8 n9 s0 s1 s2
  obtain ⟨n0, n1, n2, n3, n4, n5, n6, n7, n8, n9, s0, s1, s2⟩ := HX4.out.span
  clear ho3 hb hm3 hn3
  go_wp2_with fail
  refine (HC4.out _ HX4.out.low).mono ?_
  rintro e w5 ⟨u4, m4, rfl, ho4, hb, hm4, hn4⟩
  have HM4 := hid hm4
  have HN4 := hid hn4
  have HO4 := hid (fun W (g : Below w5.heap.size w5 W) => ho4.row.keep g)
  have HB5 := hid hb
  have HX5 := hid (HX4.out.keep hb)
  clear n0 n1 n2 n3 n4 n5 n6 n7 n8 n9 s0 s1 s2
  obtain ⟨n0, n1, n2, n3, n4, n5, n6, n7, n8, n9, s0, s1, s2⟩ := HX5.out.span
  clear ho4 hb hm4 hn4
  have HE2 := hid (hd_same HM3.out HN3.out HM4.out HN4.out)
  have HS := hid (strs_any u3 u4 m3 m4 w5 (HO3.out _ HB5.out) (HO4.out _ (Below.refl _ _)))
  go_wp2_with fail
  refine HS.out.mono ?_
  rintro e w6 ⟨rfl, hb⟩
  rw [decide_eq_true HE2.out]
  have HB6 := hid (bstep HX5.out.low HX5.out.low.size hb)
  clear hb
  go_wp2_with fail
  refine (kawake_any _).mono ?_
  rintro e w7 ⟨rfl, hb⟩
  have HB7 := hid (bstep HB6.out HB6.out.size hb)
  clear hb
  go_wp2_with fail
  go_ret
  exact ⟨rfl, HB7.out⟩
end Go.Proofs.Ytjfakhfkbnnbcaa
