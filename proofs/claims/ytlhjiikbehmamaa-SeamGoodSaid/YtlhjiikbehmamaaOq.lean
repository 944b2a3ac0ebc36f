/- Walk of SeamGood. -/
import Derived.Test.YtlhjiikbehmamaaOp
namespace Go.Proofs.Ytlhjiikbehmamaa
open Go.RowKit

theorem RowZ.get {w : World} {a : Option Addr} {n c k : Nat} {l : List ByteArray} (h : RowZ w (.slice a n c) l) (hk : k < l.length) : ∃ b o, a = some ⟨b, o, none⟩ ∧ w.cell? ⟨b, o + k, none⟩ = some (.string l[k]) := by
  obtain ⟨a', b, o, cap, hv, h2, h3⟩ := h
  injection hv with e1 e2 e3
  subst e1
  rcases h2 with rfl | rfl
  · simp at hk
  · exact ⟨b, o, rfl, h3 k hk⟩
set_option maxRecDepth 20000 in
set_option maxHeartbeats 16000000 in
theorem good_walk (n : Nm) (x : Sh) (w : World) : Calls Try.prog 4 #[.agg #[.int .i64 n.bl, .int .i64 n.bh, .int .i64 n.cl, .int .i64 n.ch, .int .i64 n.pc, .int .i64 n.wr, .int .i64 n.tl, .int .i64 n.th, .int .i64 n.sl, .int .i64 n.sh], .agg #[.int .i64 x.tk, .int .i64 x.hd, .int .i64 x.bh, .int .i64 x.ch, .int .i64 x.ht, .int .i64 x.ep, .int .i64 x.bp, .int .i64 x.wr, .int .i64 x.th, .int .i64 x.cs]] w fun e w' => e = .returned (.bool true) ∧ Below w.heap.size w w' := by
  have HX := hid (box2_start (w := w) (A := #[.int .i64 n.bl, .int .i64 n.bh, .int .i64 n.cl, .int .i64 n.ch, .int .i64 n.pc, .int .i64 n.wr, .int .i64 n.tl, .int .i64 n.th, .int .i64 n.sl, .int .i64 n.sh]) (B := #[.int .i64 x.tk, .int .i64 x.hd, .int .i64 x.bh, .int .i64 x.ch, .int .i64 x.ht, .int .i64 x.ep, .int .i64 x.bp, .int .i64 x.wr, .int .i64 x.th, .int .i64 x.cs]) (T := 23) (T' := 28) (fz := (0, 0)) (fz' := (0, 0)))
  obtain ⟨A, hA⟩ : ∃ A, A = ovA x := ⟨_, rfl⟩
  obtain ⟨P, hP⟩ : ∃ P, P = pcA x := ⟨_, rfl⟩
  obtain ⟨E, hE⟩ : ∃ E, E = eI x := ⟨_, rfl⟩
  obtain ⟨G, hG⟩ : ∃ G, G = (okG n x && goodB n x) := ⟨_, rfl⟩
  obtain ⟨C, hC⟩ : ∃ C : Int, C = if okG n x then 0 else 1 := ⟨_, rfl⟩
  obtain ⟨L, hL⟩ : ∃ L, L = if okG n x then fltL n x 6 else [] := ⟨_, rfl⟩
  have HG := hid hG
  have HC := hid hC
  have HL := hid hL
  have HLM := hid (show L.length ≤ 6 by
    rw [hL]
    split
    · exact fltL_len n x 6
    · exact Nat.zero_le _)
  have K1 := hid (fun W => koverl_all x W)
  have K2 := hid (fun W => kxoverl_all x W)
  have K3 := hid (fun W => kperc_all x W)
  have K4 := hid (fun W => kxperc_all x W)
  unfold NumP at K1 K2 K3 K4
  rw [← hA, ← hE] at K1 K2
  rw [← hP, ← hE] at K3 K4
  clear hA hP hE hG hC hL
  go_enter Try.func4, Try.ntmps4
  obtain ⟨n0, n1, n2, n3, n4, n5, n6, n7, n8, n9⟩ := HX.out.norm
  obtain ⟨b0, b1, b2, b3, b4, b5, b6, b7, b8, b9⟩ := HX.out.sheet
  go_wp2_with fail
  refine (K1.out _).mono ?_
  rintro e w1 ⟨rfl, hb⟩
  have HX := hid (HX.out.keep hb)
  clear hb
  clear n0 n1 n2 n3 n4 n5 n6 n7 n8 n9 b0 b1 b2 b3 b4 b5 b6 b7 b8 b9
  obtain ⟨n0, n1, n2, n3, n4, n5, n6, n7, n8, n9⟩ := HX.out.norm
  obtain ⟨b0, b1, b2, b3, b4, b5, b6, b7, b8, b9⟩ := HX.out.sheet
  go_wp2_with fail
  refine (K2.out _).mono ?_
  rintro e w1 ⟨rfl, hb⟩
  have HX := hid (HX.out.keep hb)
  clear hb
  clear n0 n1 n2 n3 n4 n5 n6 n7 n8 n9 b0 b1 b2 b3 b4 b5 b6 b7 b8 b9
  obtain ⟨n0, n1, n2, n3, n4, n5, n6, n7, n8, n9⟩ := HX.out.norm
  obtain ⟨b0, b1, b2, b3, b4, b5, b6, b7, b8, b9⟩ := HX.out.sheet
  go_wp2_with fail
  refine (K3.out _).mono ?_
  rintro e w1 ⟨rfl, hb⟩
  have HX := hid (HX.out.keep hb)
  clear hb
  clear n0 n1 n2 n3 n4 n5 n6 n7 n8 n9 b0 b1 b2 b3 b4 b5 b6 b7 b8 b9
  obtain ⟨n0, n1, n2, n3, n4, n5, n6, n7, n8, n9⟩ := HX.out.norm
  obtain ⟨b0, b1, b2, b3, b4, b5, b6, b7, b8, b9⟩ := HX.out.sheet
  go_wp2_with fail
  refine (K4.out _).mono ?_
  rintro e w1 ⟨rfl, hb⟩
  have HX := hid (HX.out.keep hb)
  clear hb
  clear n0 n1 n2 n3 n4 n5 n6 n7 n8 n9 b0 b1 b2 b3 b4 b5 b6 b7 b8 b9
  obtain ⟨n0, n1, n2, n3, n4, n5, n6, n7, n8, n9⟩ := HX.out.norm
  obtain ⟨b0, b1, b2, b3, b4, b5, b6, b7, b8, b9⟩ := HX.out.sheet
  go_wp2_with fail
  refine (kgood_at n x _ G C HG.out HC.out).mono ?_
  rintro e w1 ⟨rfl, hb⟩
  have HX := hid (HX.out.keep hb)
  clear hb
  clear n0 n1 n2 n3 n4 n5 n6 n7 n8 n9 b0 b1 b2 b3 b4 b5 b6 b7 b8 b9
  obtain ⟨n0, n1, n2, n3, n4, n5, n6, n7, n8, n9⟩ := HX.out.norm
  obtain ⟨b0, b1, b2, b3, b4, b5, b6, b7, b8, b9⟩ := HX.out.sheet
  go_wp2_with fail
  refine (kxgood_at n x _ G C HG.out HC.out).mono ?_
  rintro e w1 ⟨rfl, hb⟩
  have HX := hid (HX.out.keep hb)
  clear hb
  clear n0 n1 n2 n3 n4 n5 n6 n7 n8 n9 b0 b1 b2 b3 b4 b5 b6 b7 b8 b9
  obtain ⟨n0, n1, n2, n3, n4, n5, n6, n7, n8, n9⟩ := HX.out.norm
  obtain ⟨b0, b1, b2, b3, b4, b5, b6, b7, b8, b9⟩ := HX.out.sheet
  go_wp2_with fail
  refine (kfaults_at n x _ L C HL.out HC.out).mono ?_
  rintro e w1 ⟨u, rfl, hu, hb⟩
  have HX := hid (HX.out.keep hb)
  have HU := hid hu
  clear hu
  clear hb
  clear n0 n1 n2 n3 n4 n5 n6 n7 n8 n9 b0 b1 b2 b3 b4 b5 b6 b7 b8 b9
  obtain ⟨n0, n1, n2, n3, n4, n5, n6, n7, n8, n9⟩ := HX.out.norm
  obtain ⟨b0, b1, b2, b3, b4, b5, b6, b7, b8, b9⟩ := HX.out.sheet
  go_wp2_with fail
  refine (kxfaults_at n x _ L C HL.out HC.out).mono ?_
  rintro e w1 ⟨v, rfl, hv, hb⟩
  have HX := hid (HX.out.keep hb)
  have HU := hid (HU.out.keep hb)
  have HV := hid hv
  clear hv
  clear hb
  clear n0 n1 n2 n3 n4 n5 n6 n7 n8 n9 b0 b1 b2 b3 b4 b5 b6 b7 b8 b9
  obtain ⟨N, hN⟩ : ∃ N, N = L.length := ⟨_, rfl⟩
  have HN := hid hN
  have hN6 : N ≤ 6 := by rw [hN]; exact HLM.out
  obtain ⟨ua, uc, hus⟩ : ∃ a c, u = .slice a N c := by obtain ⟨a, b, o, cap, h1, _⟩ := HU.out; exact ⟨a, cap, by rw [h1, hN]⟩
  obtain ⟨va, vc, hvs⟩ : ∃ a c, v = .slice a N c := by obtain ⟨a, b, o, cap, h1, _⟩ := HV.out; exact ⟨a, cap, by rw [h1, hN]⟩
  subst hus hvs
  clear hN
  go_wp2_with fail
  go_loopw [15] (fun t wr => ∃ k : Nat, k ≤ N ∧ t = .int .i64 (k : Int) ∧ Hid (Box2 w wr #[.int .i64 n.bl, .int .i64 n.bh, .int .i64 n.cl, .int .i64 n.ch, .int .i64 n.pc, .int .i64 n.wr, .int .i64 n.tl, .int .i64 n.th, .int .i64 n.sl, .int .i64 n.sh] #[.int .i64 x.tk, .int .i64 x.hd, .int .i64 x.bh, .int .i64 x.ch, .int .i64 x.ht, .int .i64 x.ep, .int .i64 x.bp, .int .i64 x.wr, .int .i64 x.th, .int .i64 x.cs]) ∧ Hid (RowZ wr (.slice ua N uc) L) ∧ Hid (RowZ wr (.slice va N vc) L)) (fun t _ => N - (intOf t).toNat)
  case atStart => exact ⟨0, Nat.zero_le _, rfl, HX, HU, HV⟩
  case round =>
    obtain ⟨k, hk, rfl, hx, hu, hv⟩ := hrel
    by_cases hlt : k < N
    · have hlt' : (k : Int) < N := by omega
      have hkl : k < L.length := by rw [← HN.out]; exact hlt
      obtain ⟨b, o, hua, c0⟩ := hu.out.get hkl
      obtain ⟨b2, o2, hva, d0⟩ := hv.out.get hkl
      subst hua hva
      generalize L[k] = s at c0 d0
      have HLT := hid hlt
      clear hlt hkl
      go_wp2
      go_quiet (fail)
      have hbn : Below wr.heap.size wr (wr.drewN nq) := bdrewN (Below.refl _ _)
      have HX2 := hid (hx.out.keep hbn)
      have HU2 := hid (hu.out.keep hbn)
      have HV2 := hid (hv.out.keep hbn)
      clear hbn
      go_wp2
      go_roundw
      case rel => exact ⟨k + 1, HLT.out, by go_num, HX2, HU2, HV2⟩
      case measure => have := HLT.out; simp [intOf]; omega
    · obtain rfl : k = N := by omega
      have HB := hid hx.out.low
      go_wp2_with fail
      refine (kawake_any _).mono ?_
      rintro e w5 ⟨rfl, hb5⟩
      have HB5 := hid (bstep HB.out HB.out.size hb5)
      clear hb5
      go_wp2_with fail
      go_ret
      exact ⟨rfl, HB5.out⟩
end Go.Proofs.Ytlhjiikbehmamaa
