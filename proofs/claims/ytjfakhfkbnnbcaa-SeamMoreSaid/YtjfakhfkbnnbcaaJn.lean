/- SeamBad's walk. -/
import Derived.Test.YtjfakhfkbnnbcaaJm
import Derived.Test.YtjfakhfkbnnbcaaOp
namespace Go.Proofs.Ytjfakhfkbnnbcaa
open Go.RowKit

theorem bef_tk {x y : Sh} (h : befB x y = true) : x.tk ≤ y.tk := by
  unfold befB at h
  simp only [Bool.or_eq_true, Bool.and_eq_true, decide_eq_true_iff] at h
  omega
theorem sh_tk {x : Sh} (h : shB x = true) : 0 ≤ x.tk ∧ x.tk ≤ 100000000 := by
  unfold shB at h
  simp only [Bool.and_eq_true, inB_iff] at h
  omega
theorem in_yes {u : Value} {T : Int} {m : List Pr} {w : World} (h : Calls Try.prog 17 #[u, .int .i64 T] w fun e w' => e = .returned (.bool (inPB m T)) ∧ Below w.heap.size w w') (g : inPB m T = true) : Calls Try.prog 17 #[u, .int .i64 T] w fun e w' => e = .returned (.bool true) ∧ Below w.heap.size w w' := by
  rw [g] at h
  exact h
theorem box2_drewN {w W : World} {A B : Array Value} {n : Nat} (h : Box2 w W A B) : Box2 w (W.drewN n) A B := ⟨h.fst, h.snd, h.sz, bdrewN (n := n) h.low⟩
set_option maxRecDepth 20000 in
set_option maxHeartbeats 32000000 in
theorem bad_walk (n : Nm) (v : Value) (l : List Sh) (hd b E : Int) (w : World) (hr : RowH w v l) (_ : (Lit.int .i64 hd).wf = true) (_ : (Lit.int .i64 b).wf = true) (_ : (Lit.int .i64 E).wf = true) : Calls Try.prog 5 #[.agg #[.int .i64 n.bl, .int .i64 n.bh, .int .i64 n.cl, .int .i64 n.ch, .int .i64 n.pc, .int .i64 n.wr, .int .i64 n.tl, .int .i64 n.th, .int .i64 n.sl, .int .i64 n.sh], v, .agg #[.int .i64 hd, .int .i64 b, .int .i64 E]] w fun e w' => e = .returned (.bool true) ∧ Below w.heap.size w w' := by
  have HR := hid (fun w1 (g : Below w.heap.size w w1) => hr.keep g)
  have hm := hr.most
  unfold maxLen at hm
  clear hr
  have HX0 := hid (box2_start (w := w) (A := #[.int .i64 n.bl, .int .i64 n.bh, .int .i64 n.cl, .int .i64 n.ch, .int .i64 n.pc, .int .i64 n.wr, .int .i64 n.tl, .int .i64 n.th, .int .i64 n.sl, .int .i64 n.sh]) (B := #[.int .i64 hd, .int .i64 b, .int .i64 E]) (T := 23) (T' := 26) (fz := (0, 0)) (fz' := (0, 0)))
  obtain ⟨va, vc, rfl⟩ := (HR.out _ (Below.refl _ _)).shape
  obtain ⟨m, hn⟩ : ∃ m, m = l.length := ⟨_, rfl⟩
  have HN := hid hn
  rw [← hn] at hm HR ⊢
  clear hn
  by_cases h5 : m ≤ 60
  case neg =>
    have h5' : (60 : Int) < m := by omega
    clear h5
    go_enter Try.func5, Try.ntmps5
    go_wp2_with fail
    refine (kawake_any _).mono ?_
    rintro e w2 ⟨rfl, hb⟩
    have HB2 := hid (bstep HX0.out.low HX0.out.low.size hb)
    clear hb
    go_wp2_with fail
    go_ret
    exact ⟨rfl, HB2.out⟩
  have h5' : ¬ (60 : Int) < m := by omega
  have HL := hid (show l.length ≤ 60 by rw [← HN.out]; exact h5)
  have HC3 := hid (fun w1 (g : Below w.heap.size w w1) => heldk_any n _ l hd b E w1 (HR.out w1 g) (by have := HL.out; omega))
  obtain ⟨Y, hY⟩ : ∃ Y, hdC n l hd b E = Y := ⟨_, rfl⟩
  rw [hY] at HC3
  have HY := hid hY
  clear hY
  by_cases y0 : Y = 0
  case neg =>
    have y1 : (Y == 0) = false := by simpa using y0
    have y2 : (Y != 0) = true := by simpa using y0
    clear h5
    go_enter Try.func5, Try.ntmps5
    go_wp2_with fail
    refine (HC3.out _ HX0.out.low).mono ?_
    rintro e w5 ⟨u, m5, rfl, ho, hb, -, -⟩
    obtain ⟨ua, uc, rfl⟩ := ownX_shape ho
    have HB5 := hid (bstep HX0.out.low HX0.out.low.size hb)
    clear hb ho
    go_wp2_with fail
    refine (kawake_any _).mono ?_
    rintro e w6 ⟨rfl, hb⟩
    have HB6 := hid (bstep HB5.out HB5.out.size hb)
    clear hb
    go_wp2_with fail
    go_ret
    exact ⟨rfl, HB6.out⟩
  subst y0
  have HRB := hid (hdC_ran HY.out)
  have HSH := hid (shs_all (hdC_shs HY.out))
  have HGD := hid (fun (x : Sh) (hx : x ∈ l) (w1 : World) => show Calls Try.prog 18 #[.agg #[.int .i64 n.bl, .int .i64 n.bh, .int .i64 n.cl, .int .i64 n.ch, .int .i64 n.pc, .int .i64 n.wr, .int .i64 n.tl, .int .i64 n.th, .int .i64 n.sl, .int .i64 n.sh], .agg #[.int .i64 x.tk, .int .i64 x.hd, .int .i64 x.bh, .int .i64 x.ch, .int .i64 x.ht, .int .i64 x.ep, .int .i64 x.bp, .int .i64 x.wr, .int .i64 x.th, .int .i64 x.cs]] w1 (BoolP (goodB n x) 0 w1) from by
    have h := kxgood_any n x w1
    have e : okG n x = true := by unfold okG; rw [hdC_nm HY.out, HSH.out x hx]; rfl
    rw [e] at h
    simpa using h)
  have HBH := hid (fun (i : Nat) (fr T : Int) (m5 : List Pr) (hm : ∀ t, inP m5 t ↔ inP (allT hdF b E (cksL (goodB n) l) (upL hd.toNat)) t) => bad_held (fr := fr) (T := T) (i := i) HY.out hm)
  have HBF := hid (fun k i (hk : k < l.length) (hi : i < l.length) (h : k < i) => bef_tk (bef_at (hdC_shs HY.out) k i hk hi h))
  obtain ⟨r1, r2, r3⟩ := HRB.out
  clear h5
  go_enter Try.func5, Try.ntmps5
  go_wp2_with fail
  refine (HC3.out _ HX0.out.low).mono ?_
  rintro e w5 ⟨u, m5, rfl, ho, hb, hm5, -⟩
  have HX5 := hid (HX0.out.keep hb)
  have HM5 := hid (hm5 rfl).2.1
  have HIN := hid (fun (T : Int) W (g : Below w5.heap.size w5 W) => in_any u T m5 W (ho.row.keep g))
  obtain ⟨ua, uc, rfl⟩ := ownX_shape ho
  have HB5 := hid (Below.refl w5.heap.size w5)
  clear hb ho hm5
  go_wp2
  go_loopw [9] (fun a wr => ∃ k : Nat, k ≤ m ∧ a = .int .i64 (k : Int) ∧ Hid (Box2 w wr #[.int .i64 n.bl, .int .i64 n.bh, .int .i64 n.cl, .int .i64 n.ch, .int .i64 n.pc, .int .i64 n.wr, .int .i64 n.tl, .int .i64 n.th, .int .i64 n.sl, .int .i64 n.sh] #[.int .i64 hd, .int .i64 b, .int .i64 E]) ∧ Hid (Below w5.heap.size w5 wr)) (fun a _ => m - (intOf a).toNat)
  case atStart => exact ⟨0, Nat.zero_le _, rfl, HX5, HB5⟩
  case round =>
    obtain ⟨i, hi, rfl, hX, hB⟩ := hrel
    by_cases hlt : i < m
    · have hlt' : (i : Int) < m := by omega
      have hkw : IntKind.i64.wrap ((i : Int) + 1) = (i : Int) + 1 := IntWalk.i64_in _ ⟨by omega, by omega⟩
      have hiw : IntKind.i64.wrap (i : Int) = (i : Int) := IntWalk.i64_in _ ⟨by omega, by omega⟩
      have hil : i < l.length := by rw [← HN.out]; exact hlt
      obtain ⟨b0, o, hva, hat⟩ := (HR.out _ hX.out.low).get (by omega)
      subst hva
      have HATA := hid (fun W (g : Below w.heap.size w W) => (HR.out W g).get (by omega))
      have HAT := hid (hat i hil)
      have HAX := hid (fun W (g : Below wr.heap.size wr W) => (hat i hil).keep g)
      have hgd := fun p : LowBy wr => low_of (HGD.out (l[i]'hil) (List.getElem_mem hil) p.W)
      have HBI := hid (fun (fr T : Int) => HBH.out i fr T m5 HM5.out)
      have HSX := hid (sh_tk (HSH.out (l[i]'hil) (List.getElem_mem hil)))
      have HBK := hid (fun k (hk : k < l.length) (h : k < i) => HBF.out k i hk hil h)
      have HIL := hid hil
      obtain ⟨x, hx⟩ : ∃ x, x = l[i]'hil := ⟨_, rfl⟩
      have HXX := hid hx
      rw [← hx] at HAT HAX hgd HSX HBK
      have HBI := hid (show ∀ fr T : Int, goodB n x = false → x.hd ≤ hd → (∀ j (hj : j < l.length), j < i → goodB n l[j] = true → l[j].hd = x.hd → l[j].tk ≤ fr) → b ≤ T → T < E → fr ≤ T → T ≤ x.tk → inPB m5 T = true from fun fr T a1 a2 a3 a4 a5 a6 a7 => HBI.out fr T HIL.out (by rw [← HXX.out]; exact a1) (by rw [← HXX.out]; exact a2) (by rw [← HXX.out]; exact a3) a4 a5 a6 (by rw [← HXX.out]; exact a7))
      have HLT := hid hlt
      obtain ⟨g, hg⟩ : ∃ g, goodB n x = g := ⟨_, rfl⟩
      rw [hg] at hgd
      have HG := hid hg
      clear hx hat hlt hg
      have hp := fun p : LowBy wr => (hX.out.keep p.low).span
      have hq := fun p : LowBy wr => HAT.out.keep p.low
      obtain ⟨p0, p1, p2, p3, p4, p5, p6, p7, p8, p9, p10, p11, p12⟩ : _ ∧ _ ∧ _ ∧ _ ∧ _ ∧ _ ∧ _ ∧ _ ∧ _ ∧ _ ∧ _ ∧ _ ∧ _ := ⟨fun p => (hp p).1, fun p => (hp p).2.1, fun p => (hp p).2.2.1, fun p => (hp p).2.2.2.1, fun p => (hp p).2.2.2.2.1, fun p => (hp p).2.2.2.2.2.1, fun p => (hp p).2.2.2.2.2.2.1, fun p => (hp p).2.2.2.2.2.2.2.1, fun p => (hp p).2.2.2.2.2.2.2.2.1, fun p => (hp p).2.2.2.2.2.2.2.2.2.1, fun p => (hp p).2.2.2.2.2.2.2.2.2.2.1, fun p => (hp p).2.2.2.2.2.2.2.2.2.2.2.1, fun p => (hp p).2.2.2.2.2.2.2.2.2.2.2.2⟩
      obtain ⟨q0, q1, q2, q3, q4, q5, q6, q7, q8, q9⟩ : _ ∧ _ ∧ _ ∧ _ ∧ _ ∧ _ ∧ _ ∧ _ ∧ _ ∧ _ := ⟨fun p => (hq p).1, fun p => (hq p).2.1, fun p => (hq p).2.2.1, fun p => (hq p).2.2.2.1, fun p => (hq p).2.2.2.2.1, fun p => (hq p).2.2.2.2.2.1, fun p => (hq p).2.2.2.2.2.2.1, fun p => (hq p).2.2.2.2.2.2.2.1, fun p => (hq p).2.2.2.2.2.2.2.2.1, fun p => (hq p).2.2.2.2.2.2.2.2.2⟩
      clear hp hq
      go_wp2
      refine wp_region_low (by kernel_rfl) (by kernel_rfl) (fun R hR => ?_)
      repeat (refine low_step (by assumption) ?_; intro R hR K hK; go_simp; first | (refine hK _ ?_; clear hK K) | (apply Exists.intro; refine ⟨fun _ => ?_, hK _ ?_⟩; (go_at_call 18; exact hgd _); clear hK K))
      refine low_nil (by assumption) ?_; intro _ hw'; obtain ⟨⟨wq, hlow⟩, hw''⟩ := hw'; subst hw''; have HLOW := hid hlow; clear hlow; (try simp only)
      clear p0 p1 p2 p3 p4 p5 p6 p7 p8 p9 p10 p11 p12 q0 q1 q2 q3 q4 q5 q6 q7 q8 q9
      clear hgd
      have HX1 := hid (hX.out.keep HLOW.out)
      have HB1 := hid (bstep hB.out hB.out.size HLOW.out)
      obtain ⟨c0, c1⟩ := HAX.out _ HLOW.out |> fun h => And.intro h.1 h.2.1
      obtain ⟨_, _, _, _, _, _, _, _, _, _, s0, s1, s2⟩ := HX1.out.span
      cases g
      case true =>
        go_wp2
        go_quiet (fail)
        have HXQ := hid (box2_drewN (n := nq) HX1.out)
        have HBQ := hid (bdrewN (n := nq) HB1.out)
        go_wp2
        go_roundw
        case rel => exact ⟨i + 1, HLT.out, by go_num, HXQ, HBQ⟩
        case measure => have := HLT.out; simp [intOf]; omega
      by_cases t1 : hd < x.hd
      · have t1' : decide (hd < x.hd) = true := decide_eq_true t1
        go_wp2
        go_quiet (fail)
        have HXQ := hid (box2_drewN (n := nq) HX1.out)
        have HBQ := hid (bdrewN (n := nq) HB1.out)
        go_wp2
        go_roundw
        case rel => exact ⟨i + 1, HLT.out, by go_num, HXQ, HBQ⟩
        case measure => have := HLT.out; simp [intOf]; omega
      have t1' : decide (hd < x.hd) = false := decide_eq_false t1
      by_cases t2 : x.tk < b
      · have t2' : decide (x.tk < b) = true := decide_eq_true t2
        go_wp2
        go_quiet (fail)
        have HXQ := hid (box2_drewN (n := nq) HX1.out)
        have HBQ := hid (bdrewN (n := nq) HB1.out)
        go_wp2
        go_roundw
        case rel => exact ⟨i + 1, HLT.out, by go_num, HXQ, HBQ⟩
        case measure => have := HLT.out; simp [intOf]; omega
      have t2' : decide (x.tk < b) = false := decide_eq_false t2
      by_cases t3 : E ≤ x.tk
      · have t3' : decide (E ≤ x.tk) = true := decide_eq_true t3
        go_wp2
        go_quiet (fail)
        have HXQ := hid (box2_drewN (n := nq) HX1.out)
        have HBQ := hid (bdrewN (n := nq) HB1.out)
        go_wp2
        go_roundw
        case rel => exact ⟨i + 1, HLT.out, by go_num, HXQ, HBQ⟩
        case measure => have := HLT.out; simp [intOf]; omega
      have t3' : decide (E ≤ x.tk) = false := decide_eq_false t3
      go_wp2
      go_quiet (fail)
      have HXQ := hid (box2_drewN (n := nq) HX1.out)
      have HBQ := hid (bdrewN (n := nq) HB1.out)
      have HLQ := hid (bdrewN (n := nq) HLOW.out)
      clear c0 c1 s0 s1 s2 t1' t2' t3'
      generalize hWq : World.drewN _ nq = Wq at HXQ HBQ HLQ ⊢
      clear hWq
      have HAQ := hid (fun W (g : Below Wq.heap.size Wq W) => HAX.out W (bstep HLQ.out HLQ.out.size g))
      have HG0 := hid (show ∀ fr T : Int, (∀ j (hj : j < l.length), j < i → goodB n l[j] = true → l[j].hd = x.hd → l[j].tk ≤ fr) → b ≤ T → fr ≤ T → T ≤ x.tk → inPB m5 T = true from fun fr T a3 a4 a6 a7 => HBI.out fr T HG.out (by omega) a3 a4 (by omega) a6 a7)
      have hbx : b ≤ x.tk := by omega
      obtain ⟨sx1, sx2⟩ := HSX.out
      have s1 := HXQ.out.snd 1
      simp only [List.getElem?_toArray, List.getElem?_cons_zero, List.getElem?_cons_succ] at s1
      clear t1 t2 t3
      go_wp2
      clear s1
      go_loopw [12, 13] (fun f a wr2 => ∃ k : Nat, k ≤ i ∧ a = .int .i64 (k : Int) ∧ ∃ fr : Int, f = .int .i64 fr ∧ b ≤ fr ∧ fr ≤ x.tk ∧ Hid (∀ j (hj : j < l.length), j < k → goodB n l[j] = true → l[j].hd = x.hd → l[j].tk ≤ fr) ∧ Hid (Box2 w wr2 #[.int .i64 n.bl, .int .i64 n.bh, .int .i64 n.cl, .int .i64 n.ch, .int .i64 n.pc, .int .i64 n.wr, .int .i64 n.tl, .int .i64 n.th, .int .i64 n.sl, .int .i64 n.sh] #[.int .i64 hd, .int .i64 b, .int .i64 E]) ∧ Hid (Below w5.heap.size w5 wr2) ∧ Hid (Below Wq.heap.size Wq wr2)) (fun _ a _ => i - (intOf a).toNat)
      case atStart => exact ⟨0, Nat.zero_le _, rfl, b, rfl, Int.le_refl _, hbx, fun j _ h => absurd h (Nat.not_lt_zero j), HXQ, HBQ, Below.refl _ _⟩
      case round =>
        obtain ⟨k, hki, rfl, fr, rfl, hf1, hf2, hF, hX2, hB2, hQ2⟩ := hrel
        by_cases hkl : k < i
        · have hkl' : (k : Int) < i := by omega
          have hkm : (k : Int) < m := by have := HLT.out; omega
          have hkw2 : IntKind.i64.wrap ((k : Int) + 1) = (k : Int) + 1 := IntWalk.i64_in _ ⟨by omega, by omega⟩
          have hkw3 : IntKind.i64.wrap (k : Int) = (k : Int) := IntWalk.i64_in _ ⟨by omega, by omega⟩
          have hkk : k < l.length := by have := HIL.out; omega
          have HKK := hid hkk
          obtain ⟨b1, o1, hva, hat⟩ := HATA.out _ hX2.out.low
          injection hva with e1
          injection e1 with e2 e3
          subst e2 e3
          have HAY := hid (hat k hkk)
          have HYX := hid (fun W (g : Below wr.heap.size wr W) => (hat k hkk).keep g)
          have hgd := fun p : LowBy wr => low_of (HGD.out (l[k]'hkk) (List.getElem_mem hkk) p.W)
          have hyx : (l[k]'hkk).tk ≤ x.tk := HBK.out k hkk hkl
          have HJK := hid (fun j (hj : j < l.length) (h : j < k) => HBF.out j k hj hkk h)
          have HNX := hid (show (goodB n (l[k]'hkk) = true → (l[k]'hkk).hd = x.hd → (l[k]'hkk).tk ≤ fr) → ∀ j (hj : j < l.length), j < k + 1 → goodB n l[j] = true → l[j].hd = x.hd → l[j].tk ≤ fr from fun h j hj hjk a1 a2 => by
            by_cases e : j = k
            · subst e; exact h a1 a2
            · exact hF.out j hj (by omega) a1 a2)
          have HNY := hid (show ∀ fr2 : Int, (l[k]'hkk).tk ≤ fr2 → ∀ j (hj : j < l.length), j < k + 1 → goodB n l[j] = true → l[j].hd = x.hd → l[j].tk ≤ fr2 from fun fr2 h j hj hjk a1 a2 => by
            by_cases e : j = k
            · subst e; exact h
            · have := HJK.out j hj (by omega); omega)
          have sy := sh_tk (HSH.out (l[k]'hkk) (List.getElem_mem hkk))
          generalize l[k]'hkk = y at *
          obtain ⟨gy, hgy⟩ : ∃ gy, goodB n y = gy := ⟨_, rfl⟩
          rw [hgy] at hgd HNX
          have HKL := hid hkl
          obtain ⟨sy1, sy2⟩ := sy
          clear hat hgy hkl
          have hp := fun p : LowBy wr => (hX2.out.keep p.low).span
          have hq := fun p : LowBy wr => HAY.out.keep p.low
          obtain ⟨p0, p1, p2, p3, p4, p5, p6, p7, p8, p9, p10, p11, p12⟩ : _ ∧ _ ∧ _ ∧ _ ∧ _ ∧ _ ∧ _ ∧ _ ∧ _ ∧ _ ∧ _ ∧ _ ∧ _ := ⟨fun p => (hp p).1, fun p => (hp p).2.1, fun p => (hp p).2.2.1, fun p => (hp p).2.2.2.1, fun p => (hp p).2.2.2.2.1, fun p => (hp p).2.2.2.2.2.1, fun p => (hp p).2.2.2.2.2.2.1, fun p => (hp p).2.2.2.2.2.2.2.1, fun p => (hp p).2.2.2.2.2.2.2.2.1, fun p => (hp p).2.2.2.2.2.2.2.2.2.1, fun p => (hp p).2.2.2.2.2.2.2.2.2.2.1, fun p => (hp p).2.2.2.2.2.2.2.2.2.2.2.1, fun p => (hp p).2.2.2.2.2.2.2.2.2.2.2.2⟩
          obtain ⟨q0, q1, q2, q3, q4, q5, q6, q7, q8, q9⟩ : _ ∧ _ ∧ _ ∧ _ ∧ _ ∧ _ ∧ _ ∧ _ ∧ _ ∧ _ := ⟨fun p => (hq p).1, fun p => (hq p).2.1, fun p => (hq p).2.2.1, fun p => (hq p).2.2.2.1, fun p => (hq p).2.2.2.2.1, fun p => (hq p).2.2.2.2.2.1, fun p => (hq p).2.2.2.2.2.2.1, fun p => (hq p).2.2.2.2.2.2.2.1, fun p => (hq p).2.2.2.2.2.2.2.2.1, fun p => (hq p).2.2.2.2.2.2.2.2.2⟩
          clear hp hq
          go_wp2
          refine wp_region_low (by kernel_rfl) (by kernel_rfl) (fun R hR => ?_)
          repeat (refine low_step (by assumption) ?_; intro R hR K hK; go_simp; first | (refine hK _ ?_; clear hK K) | (apply Exists.intro; refine ⟨fun _ => ?_, hK _ ?_⟩; (go_at_call 18; exact hgd _); clear hK K))
          refine low_nil (by assumption) ?_; intro _ hw'; obtain ⟨⟨wq, hlow⟩, hw''⟩ := hw'; subst hw''; have HLOW := hid hlow; clear hlow; (try simp only)
          clear p0 p1 p2 p3 p4 p5 p6 p7 p8 p9 p10 p11 p12 q0 q1 q2 q3 q4 q5 q6 q7 q8 q9
          clear hgd
          have HX3 := hid (hX2.out.keep HLOW.out)
          have HB3 := hid (bstep hB2.out hB2.out.size HLOW.out)
          have HQ3 := hid (bstep hQ2.out hQ2.out.size HLOW.out)
          obtain ⟨y0, y1⟩ := HYX.out _ HLOW.out |> fun h => And.intro h.1 h.2.1
          have x1 := (HAQ.out _ HQ3.out).2.1
          have s1 := HX3.out.snd 1
          simp only [List.getElem?_toArray, List.getElem?_cons_zero, List.getElem?_cons_succ] at s1
          cases gy
          case false =>
            go_wp2
            go_quiet (fail)
            have HX4 := hid (box2_drewN (n := nq) HX3.out)
            have HB4 := hid (bdrewN (n := nq) HB3.out)
            have HQ4 := hid (bdrewN (n := nq) HQ3.out)
            go_wp2
            go_roundw
            case rel => exact ⟨k + 1, HKL.out, by go_num, fr, rfl, hf1, hf2, HNX.out (fun h => by cases h), HX4, HB4, HQ4⟩
            case measure => have := HKL.out; simp [intOf]; omega
          by_cases he : y.hd = x.hd
          · rw [he] at y1
            go_wp2
            go_quiet (fail)
            have HX4 := hid (box2_drewN (n := nq) HX3.out)
            have HB4 := hid (bdrewN (n := nq) HB3.out)
            have HQ4 := hid (bdrewN (n := nq) HQ3.out)
            have HL4 := hid (bdrewN (n := nq) HLOW.out)
            clear y0 y1 x1 s1
            generalize hW4 : World.drewN _ nq = W4 at HX4 HB4 HQ4 HL4 ⊢
            clear hW4
            have y0 := (HYX.out _ HL4.out).1
            have s1 := HX4.out.snd 1
            simp only [List.getElem?_toArray, List.getElem?_cons_zero, List.getElem?_cons_succ] at s1
            go_wp2
            go_quiet (fail)
            have HX5 := hid (box2_drewN (n := nq) HX4.out)
            have HB5 := hid (bdrewN (n := nq) HB4.out)
            have HQ5 := hid (bdrewN (n := nq) HQ4.out)
            go_wp2
            go_roundw
            case rel => exact ⟨k + 1, HKL.out, by go_num, max b y.tk, rfl, by omega, by omega, HNY.out _ (by omega), HX5, HB5, HQ5⟩
            case measure => have := HKL.out; simp [intOf]; omega
          · have he' : decide (y.hd = x.hd) = false := decide_eq_false he
            go_wp2
            go_quiet (fail)
            have HX4 := hid (box2_drewN (n := nq) HX3.out)
            have HB4 := hid (bdrewN (n := nq) HB3.out)
            have HQ4 := hid (bdrewN (n := nq) HQ3.out)
            go_wp2
            go_roundw
            case rel => exact ⟨k + 1, HKL.out, by go_num, fr, rfl, hf1, hf2, HNX.out (fun _ h => absurd h he), HX4, HB4, HQ4⟩
            case measure => have := HKL.out; simp [intOf]; omega
        · obtain rfl : k = i := by omega
          have hkk : ¬ (k : Int) < k := by omega
          have HI1 := hid (fun W (g : Below w5.heap.size w5 W) => in_yes (HIN.out fr W g) (HG0.out fr fr hF.out hf1 (Int.le_refl _) hf2))
          have HI2 := hid (fun W (g : Below w5.heap.size w5 W) => in_yes (HIN.out x.tk W g) (HG0.out fr x.tk hF.out hbx hf2 (Int.le_refl _)))
          have HI3 := hid (fun W (g : Below w5.heap.size w5 W) => in_yes (HIN.out ((fr + x.tk) / 2) W g) (HG0.out fr ((fr + x.tk) / 2) hF.out (by omega) (by omega) (by omega)))
          clear hkl
          have hfr0 : 0 ≤ fr := by omega
          have hkm : (k : Int) < m := by have := HLT.out; omega
          go_wp2_with fail
          refine (HI1.out _ hB2.out).mono ?_
          rintro e w7 ⟨rfl, hb⟩
          have HX7 := hid (hX2.out.keep hb)
          have HB7 := hid (bstep hB2.out hB2.out.size hb)
          have HQ7 := hid (bstep hQ2.out hQ2.out.size hb)
          have x0 := (HAQ.out _ HQ7.out).1
          clear hb
          go_wp2_with fail
          refine (HI2.out _ HB7.out).mono ?_
          rintro e w8 ⟨rfl, hb⟩
          have HX8 := hid (HX7.out.keep hb)
          have HB8 := hid (bstep HB7.out HB7.out.size hb)
          have HQ8 := hid (bstep HQ7.out HQ7.out.size hb)
          clear x0 hb
          have x0 := (HAQ.out _ HQ8.out).1
          go_wp2_with fail
          refine (HI3.out _ HB8.out).mono ?_
          rintro e w9 ⟨rfl, hb⟩
          have HX9 := hid (HX8.out.keep hb)
          have HB9 := hid (bstep HB8.out HB8.out.size hb)
          clear x0 hb
          go_wp2
          go_roundw
          case rel => exact ⟨k + 1, HLT.out, by go_num, HX9, HB9⟩
          case measure => have := HLT.out; simp [intOf]; omega
    · obtain rfl : i = m := by omega
      go_wp2_with fail
      refine (kawake_any _).mono ?_
      rintro e w7 ⟨rfl, hb⟩
      have HB7 := hid (bstep hX.out.low hX.out.low.size hb)
      clear hb
      go_wp2_with fail
      go_ret
      exact ⟨rfl, HB7.out⟩
end Go.Proofs.Ytjfakhfkbnnbcaa
