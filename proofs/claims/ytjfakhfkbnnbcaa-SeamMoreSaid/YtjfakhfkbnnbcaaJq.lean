/- SeamMore's walk. -/
import Derived.Test.YtjfakhfkbnnbcaaP16
namespace Go.Proofs.Ytjfakhfkbnnbcaa
open Go.RowKit

theorem hdC_inv {n : Nm} {l : List Sh} {hd b E : Int} (hY : hdC n l hd b E = 0) : nmB n = true ∧ shsB l = true ∧ inB hd 1 12 = true ∧ ranB b E = true := by
  unfold hdC at hY
  generalize nmB n = P1 at hY ⊢
  generalize shsB l = P2 at hY ⊢
  generalize inB hd 1 12 = P3 at hY ⊢
  generalize ranB b E = P4 at hY ⊢
  cases P1 <;> cases P2 <;> cases P3 <;> cases P4 <;> simp at hY ⊢
theorem hdC_mk {n : Nm} {l : List Sh} {hd b E : Int} (h1 : nmB n = true) (h2 : shsB l = true) (h3 : inB hd 1 12 = true) (h4 : ranB b E = true) : hdC n l hd b E = 0 := by
  unfold hdC
  rw [h1, h2, h3, h4]
  rfl
/-- Stretches that are held lie in the range. -/
theorem held_raw {l : List Ck} {H : List Int} {b E : Int} {m : List Pr} (hc : Canon m) (hm : ∀ t, inP m t ↔ inP (allT hdF b E l H) t) (hb : 0 ≤ b) (hE : E ≤ 100000000) : RawL m := by
  intro p hp
  have h0 := canon_mem hc hp
  have h1 := (held_iff hb).1 ((hm p.x).1 ⟨p, hp, Int.le_refl _, h0⟩)
  have h2 := (held_iff hb).1 ((hm (p.y - 1)).1 ⟨p, hp, by omega, by omega⟩)
  omega
theorem wide_sub {l : List Ck} {k : Nat} {b E : Int} {m1 m2 : List Pr} (h1 : ∀ t, inP m1 t ↔ inP (allT hdF b E l (upL k)) t) (h2 : ∀ t, inP m2 t ↔ inP (allT hdF b E l (upL (k + 1))) t) (hb : 0 ≤ b) : ∀ t, inP m1 t → inP m2 t := by
  intro t h
  obtain ⟨a, c, d⟩ := (held_iff hb).1 ((h1 t).1 h)
  exact (h2 t).2 ((held_iff hb).2 ⟨a, c, unsafe_more d⟩)
theorem less_sub {G : Sh → Bool} {l : List Sh} {i : Nat} {H : List Int} {b E : Int} {m1 m2 : List Pr} (hs : shsB l = true) (hi : i < l.length) (hg : G l[i] = true) (h1 : ∀ t, inP m1 t ↔ inP (allT hdF b E (cksL G l) H) t) (h2 : ∀ t, inP m2 t ↔ inP (allT hdF b E (cksL G (lessL l i)) H) t) (hb : 0 ≤ b) (hE : E ≤ 100000000) : ∀ t, inP m1 t → inP m2 t := by
  intro t h
  obtain ⟨a, c, d⟩ := (held_iff hb).1 ((h1 t).1 h)
  refine (h2 t).2 ((held_iff hb).2 ⟨a, c, ?_⟩)
  have d1 := (safe_iff (shs_asc hs) (by omega) (by omega)).1 d
  refine (safe_iff (shs_asc (shs_less hs)) (by omega) (by omega)).2 ?_
  cases e : sfB (cksL G (lessL l i)) H t
  · rfl
  · rw [sfB_more hi hg e] at d1; cases d1
theorem wpList_wanted {P : Program} {ops : Array Oper} {Q : Exit → Act → World → Prop} {o : Oper} {rest : List Oper} {a : Act} {w : World} (hw : Region.wanted o (yielded ops a.tmps) = true) (h : wpList P ops Q ({ o with guard := none } :: rest) a w) : wpList P ops Q (o :: rest) a w := by
  unfold wpList at h ⊢
  rw [if_pos hw]
  rw [if_pos (by simp [Region.wanted])] at h
  exact h
/-- What an append of sheets reads. -/
theorem rowH_src {w : World} {a : Addr} {n c : Nat} {l : List Sh} (h : RowH w (.slice (some a) n c) l) : ∀ j u, (shvs l)[j]? = some u → w.cell? (a.add j) = some u := by
  intro j u hu
  have hl : 0 < l.length := by
    have := (List.getElem?_eq_some_iff.1 hu).1
    rw [shvs_len] at this
    omega
  obtain ⟨b, o, e, hat⟩ := h.get hl
  injection e with e
  subst e
  have := shvs_cells l o hat j u hu
  simp only [Addr.add]
  split
  · rename_i h0
    subst h0
    simpa using this
  · exact this
theorem bl_new (w : World) : Hid (Below w.heap.size w w.drew) := (Below.refl _ _).drew
theorem bl_alloc {w W : World} {o : Obj} (h : Hid (Below w.heap.size w W)) : Hid (Below w.heap.size w (W.alloc o)) := h.out.alloc h.out.size o
set_option maxRecDepth 20000 in
set_option maxHeartbeats 32000000 in
theorem more_walk (n : Nm) (v : Value) (l : List Sh) (hd b E : Int) (w : World) (hr : RowH w v l) (wf1 : (Lit.int .i64 hd).wf = true) (_ : (Lit.int .i64 b).wf = true) (_ : (Lit.int .i64 E).wf = true) : Calls Try.prog 6 #[.agg #[.int .i64 n.bl, .int .i64 n.bh, .int .i64 n.cl, .int .i64 n.ch, .int .i64 n.pc, .int .i64 n.wr, .int .i64 n.tl, .int .i64 n.th, .int .i64 n.sl, .int .i64 n.sh], v, .agg #[.int .i64 hd, .int .i64 b, .int .i64 E]] w fun e w' => e = .returned (.bool true) ∧ Below w.heap.size w w' := by
  obtain ⟨i0, hi, hz0, hz1, hz2⟩ := infoX_parts
  obtain ⟨j0, hj, hy0, hy1, hy2⟩ := infoH
  have HR := hid (fun w1 (g : Below w.heap.size w w1) => hr.keep g)
  have hm := hr.most
  unfold maxLen at hm
  clear hr
  have HX0 := hid (box2_start (w := w) (A := #[.int .i64 n.bl, .int .i64 n.bh, .int .i64 n.cl, .int .i64 n.ch, .int .i64 n.pc, .int .i64 n.wr, .int .i64 n.tl, .int .i64 n.th, .int .i64 n.sl, .int .i64 n.sh]) (B := #[.int .i64 hd, .int .i64 b, .int .i64 E]) (T := 23) (T' := 26) (fz := (0, 0)) (fz' := (0, 0)))
  obtain ⟨va, vc, rfl⟩ := (HR.out _ (Below.refl _ _)).shape
  obtain ⟨m, hn⟩ : ∃ m, m = l.length := ⟨_, rfl⟩
  have HN := hid hn
  rw [← hn] at hm HR ⊢
  clear hn
  have hlo : -9223372036854775808 ≤ hd := (bounds_i64 wf1).1
  by_cases h5 : m ≤ 60
  case neg =>
    have h5' : (60 : Int) < m := by omega
    clear h5
    go_enter Try.func6, Try.ntmps6
    go_wp2_with fail
    refine (kawake_any _).mono ?_
    rintro e w2 ⟨rfl, hb⟩
    have HB2 := hid (bstep HX0.out.low HX0.out.low.size hb)
    clear hb
    go_wp2_with fail
    go_ret
    exact ⟨rfl, HB2.out⟩
  have h5' : ¬ (60 : Int) < m := by omega
  by_cases h6 : m = 0
  · subst h6
    clear h5
    go_enter Try.func6, Try.ntmps6
    go_wp2_with fail
    refine (kawake_any _).mono ?_
    rintro e w2 ⟨rfl, hb⟩
    have HB2 := hid (bstep HX0.out.low HX0.out.low.size hb)
    clear hb
    go_wp2_with fail
    go_ret
    exact ⟨rfl, HB2.out⟩
  have h6' : ((m : Int) == 0) = false := by simp; omega
  have h6'' : (m == 0) = false := by simp; omega
  by_cases h7 : 12 ≤ hd
  · clear h5 h6
    go_enter Try.func6, Try.ntmps6
    go_wp2_with fail
    refine (kawake_any _).mono ?_
    rintro e w2 ⟨rfl, hb⟩
    have HB2 := hid (bstep HX0.out.low HX0.out.low.size hb)
    clear hb
    go_wp2_with fail
    go_ret
    exact ⟨rfl, HB2.out⟩
  have h7' : decide (12 ≤ hd) = false := decide_eq_false h7
  have HL := hid (show l.length ≤ 60 by rw [← HN.out]; exact h5)
  have hw1 : IntKind.i64.wrap (hd + 1) = hd + 1 := IntWalk.i64_in _ ⟨by omega, by omega⟩
  have HC3 := hid (fun w1 (g : Below w.heap.size w w1) => heldk_any n _ l hd b E w1 (HR.out w1 g) (by have := HL.out; omega))
  have HC4 := hid (fun w1 (g : Below w.heap.size w w1) => heldk_any n _ l (hd + 1) b E w1 (HR.out w1 g) (by have := HL.out; omega))
  obtain ⟨Y, hY⟩ : ∃ Y, hdC n l hd b E = Y := ⟨_, rfl⟩
  obtain ⟨Z, hZ⟩ : ∃ Z, hdC n l (hd + 1) b E = Z := ⟨_, rfl⟩
  rw [hY] at HC3
  rw [hZ] at HC4
  have HY := hid hY
  have HZ := hid hZ
  clear hY hZ h5
  by_cases y0 : Y = 0
  case neg =>
    have y1 : (Y == 0) = false := by simpa using y0
    have y2 : (Y != 0) = true := by simpa using y0
    go_enter Try.func6, Try.ntmps6
    go_wp2_with fail
    refine (HC3.out _ HX0.out.low).mono ?_
    rintro e w3 ⟨u1, m1, rfl, ho1, hb, hm1, -⟩
    have HX3 := hid (HX0.out.keep hb)
    have HQ1 := hid (fun W (g : Below w3.heap.size w3 W) => ho1.row.keep g)
    obtain ⟨ua1, uc1, rfl⟩ := ownX_shape ho1
    clear hb ho1
    obtain ⟨n0, n1, n2, n3, n4, n5, n6, n7, n8, n9, s0, s1, s2⟩ := HX3.out.span
    go_wp2_with fail
    refine (HC4.out _ HX3.out.low).mono ?_
    rintro e w4 ⟨u2, m2, rfl, ho2, hb, hm2, -⟩
    have HX4 := hid (HX3.out.keep hb)
    have HB4 := hid hb
    obtain ⟨ua2, uc2, rfl⟩ := ownX_shape ho2
    clear hb
    go_wp2_with fail
    refine (kawake_any _).mono ?_
    rintro e w5 ⟨rfl, hb⟩
    have HB5 := hid (bstep HX4.out.low HX4.out.low.size hb)
    clear hb
    go_wp2_with fail
    go_ret
    exact ⟨rfl, HB5.out⟩
  by_cases z0 : Z = 0
  case neg =>
    have z1 : (Z == 0) = false := by simpa using z0
    have z2 : (Z != 0) = true := by simpa using z0
    subst y0
    go_enter Try.func6, Try.ntmps6
    go_wp2_with fail
    refine (HC3.out _ HX0.out.low).mono ?_
    rintro e w3 ⟨u1, m1, rfl, ho1, hb, hm1, -⟩
    have HX3 := hid (HX0.out.keep hb)
    have HQ1 := hid (fun W (g : Below w3.heap.size w3 W) => ho1.row.keep g)
    obtain ⟨ua1, uc1, rfl⟩ := ownX_shape ho1
    clear hb ho1
    obtain ⟨n0, n1, n2, n3, n4, n5, n6, n7, n8, n9, s0, s1, s2⟩ := HX3.out.span
    go_wp2_with fail
    refine (HC4.out _ HX3.out.low).mono ?_
    rintro e w4 ⟨u2, m2, rfl, ho2, hb, hm2, -⟩
    have HX4 := hid (HX3.out.keep hb)
    have HB4 := hid hb
    obtain ⟨ua2, uc2, rfl⟩ := ownX_shape ho2
    clear hb
    go_wp2_with fail
    refine (kawake_any _).mono ?_
    rintro e w5 ⟨rfl, hb⟩
    have HB5 := hid (bstep HX4.out.low HX4.out.low.size hb)
    clear hb
    go_wp2_with fail
    go_ret
    exact ⟨rfl, HB5.out⟩
  subst y0
  subst z0
  obtain ⟨iv1, iv2, iv3, iv4⟩ := hdC_inv HY.out
  have HIV1 := hid iv1
  have HIV2 := hid iv2
  have HIV3 := hid iv3
  have HIV4 := hid iv4
  obtain ⟨r1, r2, r3⟩ := ranB_iff.1 iv4
  have HGD := hid (fun (x : Sh) (hx : x ∈ l) (w1 : World) => show Calls Try.prog 18 #[.agg #[.int .i64 n.bl, .int .i64 n.bh, .int .i64 n.cl, .int .i64 n.ch, .int .i64 n.pc, .int .i64 n.wr, .int .i64 n.tl, .int .i64 n.th, .int .i64 n.sl, .int .i64 n.sh], .agg #[.int .i64 x.tk, .int .i64 x.hd, .int .i64 x.bh, .int .i64 x.ch, .int .i64 x.ht, .int .i64 x.ep, .int .i64 x.bp, .int .i64 x.wr, .int .i64 x.th, .int .i64 x.cs]] w1 (BoolP (goodB n x) 0 w1) from by
    have h := kxgood_any n x w1
    have e : okG n x = true := by unfold okG; rw [HIV1.out, shs_all HIV2.out x hx]; rfl
    rw [e] at h
    simpa using h)
  have hh1 : 1 ≤ hd := (inB_iff.1 iv3).1
  have HTN := hid (show (hd + 1).toNat = hd.toNat + 1 by omega)
  clear iv1 iv2 iv3 iv4
  go_enter Try.func6, Try.ntmps6
  go_wp2_with fail
  refine (HC3.out _ HX0.out.low).mono ?_
  rintro e w3 ⟨u1, m1, rfl, ho1, hb, hm1, -⟩
  have HX3 := hid (HX0.out.keep hb)
  have HQ1 := hid (fun W (g : Below w3.heap.size w3 W) => ho1.row.keep g)
  obtain ⟨ua1, uc1, rfl⟩ := ownX_shape ho1
  clear hb ho1
  obtain ⟨n0, n1, n2, n3, n4, n5, n6, n7, n8, n9, s0, s1, s2⟩ := HX3.out.span
  go_wp2_with fail
  refine (HC4.out _ HX3.out.low).mono ?_
  rintro e w4 ⟨u2, m2, rfl, ho2, hb, hm2, -⟩
  have HX4 := hid (HX3.out.keep hb)
  have HB4 := hid hb
  obtain ⟨ua2, uc2, rfl⟩ := ownX_shape ho2
  clear hb
  have HM1 := hid (hm1 (by first | rfl | trivial))
  have HM2 := hid (hm2 (by first | rfl | trivial))
  have HF1 := hid (show m1.length ≤ 732 by have := HM1.out.2.2; have := HL.out; omega)
  have HF2 := hid (show m2.length ≤ 732 by have := HM2.out.2.2; have := HL.out; omega)
  have HFF := hid (And.intro HF1.out HF2.out)
  have HRA := hid (fun W (g : Below w4.heap.size w4 W) => (HQ1.out _ HB4.out).keep g)
  have HRB := hid (fun W (g : Below w4.heap.size w4 W) => ho2.row.keep g)
  have HRW1 := hid (held_raw HM1.out.1 HM1.out.2.1 r1 r3)
  have HRW2 := hid (held_raw HM2.out.1 HM2.out.2.1 r1 r3)
  have HWS := hid (wide_sub (k := hd.toNat) HM1.out.2.1 (by rw [← HTN.out]; exact HM2.out.2.1) r1)
  clear hm1 hm2 ho2 n0 n1 n2 n3 n4 n5 n6 n7 n8 n9 s0 s1 s2
  have HA0 := hid (own_empty (W := w4) (E := 68) (n := 2) (cs := #[]) rfl)
  have HP1 := hid ((Below.refl w4.heap.size w4).alloc (Nat.le_refl _) (.cells #[] 68))
  have HS1 := hid ((HRA.out _ HP1.out).src)
  go_wp2_with (at_builtin; first
    | (refine wpList_appX rfl _ _ 28 rfl w4.heap.size 68 i0 (.agg #[.int .i64 0, .int .i64 0]) Try.underlying28 hi hz0 hz1 hz2 rfl _ _ _ rfl HA0.out _ m1 rfl HS1.out (by have := HFF.out; omega) (by simp) ?_
       intro v1 x3 hown3 hgrow3
       replace hown3 := own_app0 hown3
       obtain ⟨xa, xc, hsh⟩ := own_shape2 hown3
       subst hsh
       have HP3 := hid (HP1.out.grown hgrow3 (by simp) (fun k hk => by cases hk; exact Nat.le_refl _))
       have HZ3 := hid (show w4.heap.size ≤ x3.heap.size from Nat.le_trans (by simp) hgrow3.size)
       have HO3 := hid hown3
       have HS2 := hid ((HRB.out _ HP3.out).src)
       clear hown3 hgrow3)
    | (refine wpList_appX rfl _ _ 28 rfl w4.heap.size 68 i0 (.agg #[.int .i64 0, .int .i64 0]) Try.underlying28 hi hz0 hz1 hz2 rfl _ _ _ rfl HO3.out _ m2 rfl HS2.out (by have := HFF.out; omega) HZ3.out ?_
       intro v2 x4 hown4 hgrow4))
  have HO4 : Hid (OwnX x4 w4.heap.size 68 v2 (m1 ++ m2)) := by
    show OwnX _ _ _ _ _
    unfold OwnX
    rw [List.length_append, pvs_app]
    exact hown4
  have HP4 := hid (HP3.out.grown hgrow4 HP3.out.size (fun k hk => (World.ownsRow.lt HO3.out k hk).1))
  clear hown4 hgrow4
  have HC5 := hid (length_any v2 (m1 ++ m2) x4 HO4.out.row (by have := HFF.out; rw [List.length_append]; omega) (raw_app HRW1.out HRW2.out))
  go_wp2_with fail
  refine HC5.out.mono ?_
  rintro e x5 ⟨z, hz, rfl, hb⟩
  have HZZ := hid hz
  have HP5 := hid (bstep HP4.out HP4.out.size hb)
  clear hz hb HC5
  have HC6 := hid (length_any _ m2 x5 (HRB.out _ HP5.out) (by have := HFF.out; omega) HRW2.out)
  go_wp2_with fail
  refine HC6.out.mono ?_
  rintro e x6 ⟨z2, hz2', rfl, hb⟩
  have HE := hid (uni_sub HM2.out.1 HZZ.out hz2' HWS.out)
  have HP6 := hid (bstep HP5.out HP5.out.size hb)
  have HX6 := hid (HX4.out.keep HP6.out)
  rw [← HE.out]
  clear hz2' hb HC6
  generalize lenP z = LZ
  go_wp2
  go_loopw [11] (fun a wr => ∃ k : Nat, k ≤ m ∧ a = .int .i64 (k : Int) ∧ Hid (Box2 w wr #[.int .i64 n.bl, .int .i64 n.bh, .int .i64 n.cl, .int .i64 n.ch, .int .i64 n.pc, .int .i64 n.wr, .int .i64 n.tl, .int .i64 n.th, .int .i64 n.sl, .int .i64 n.sh] #[.int .i64 hd, .int .i64 b, .int .i64 E]) ∧ Hid (Below w4.heap.size w4 wr)) (fun a _ => m - (intOf a).toNat)
  case atStart => exact ⟨0, Nat.zero_le _, rfl, HX6, HP6⟩
  case round =>
    obtain ⟨i, hi', rfl, hX, hB⟩ := hrel
    by_cases hlt : i < m
    · have hlt' : (i : Int) < m := by omega
      have hkw : IntKind.i64.wrap ((i : Int) + 1) = (i : Int) + 1 := IntWalk.i64_in _ ⟨by omega, by omega⟩
      have hiw : IntKind.i64.wrap (i : Int) = (i : Int) := IntWalk.i64_in _ ⟨by omega, by omega⟩
      have hil : i < l.length := by rw [← HN.out]; exact hlt
      obtain ⟨b0, o, hva, hat⟩ := (HR.out _ hX.out.low).get (by omega)
      subst hva
      have HAT := hid (hat i hil)
      have hgd := fun p : LowBy wr => low_of (HGD.out (l[i]'hil) (List.getElem_mem hil) p.W)
      have HIL := hid hil
      have HLT := hid hlt
      obtain ⟨g, hg⟩ : ∃ g, goodB n (l[i]'hil) = g := ⟨_, rfl⟩
      rw [hg] at hgd
      have HG := hid hg
      generalize l[i]'hil = x at HAT hgd
      clear hat hlt hg
      have hp := fun p : LowBy wr => (hX.out.keep p.low).span
      have hq := fun p : LowBy wr => HAT.out.keep p.low
      obtain ⟨p0, p1, p2, p3, p4, p5, p6, p7, p8, p9, p10, p11, p12⟩ : _ ∧ _ ∧ _ ∧ _ ∧ _ ∧ _ ∧ _ ∧ _ ∧ _ ∧ _ ∧ _ ∧ _ ∧ _ := ⟨fun p => (hp p).1, fun p => (hp p).2.1, fun p => (hp p).2.2.1, fun p => (hp p).2.2.2.1, fun p => (hp p).2.2.2.2.1, fun p => (hp p).2.2.2.2.2.1, fun p => (hp p).2.2.2.2.2.2.1, fun p => (hp p).2.2.2.2.2.2.2.1, fun p => (hp p).2.2.2.2.2.2.2.2.1, fun p => (hp p).2.2.2.2.2.2.2.2.2.1, fun p => (hp p).2.2.2.2.2.2.2.2.2.2.1, fun p => (hp p).2.2.2.2.2.2.2.2.2.2.2.1, fun p => (hp p).2.2.2.2.2.2.2.2.2.2.2.2⟩
      obtain ⟨q0, q1, q2, q3, q4, q5, q6, q7, q8, q9⟩ : _ ∧ _ ∧ _ ∧ _ ∧ _ ∧ _ ∧ _ ∧ _ ∧ _ ∧ _ := ⟨fun p => (hq p).1, fun p => (hq p).2.1, fun p => (hq p).2.2.1, fun p => (hq p).2.2.2.1, fun p => (hq p).2.2.2.2.1, fun p => (hq p).2.2.2.2.2.1, fun p => (hq p).2.2.2.2.2.2.1, fun p => (hq p).2.2.2.2.2.2.2.1, fun p => (hq p).2.2.2.2.2.2.2.2.1, fun p => (hq p).2.2.2.2.2.2.2.2.2⟩
      clear hp hq
      go_wp2
      refine wp_region_low (by kernel_rfl) (by kernel_rfl) (fun R hR => ?_)
      repeat (refine low_step (by assumption) ?_; intro R hR K hK; go_simp; first | (refine hK _ ?_; clear hK K) | (apply Exists.intro; refine ⟨fun _ => ?_, hK _ ?_⟩; (go_at_call 18; exact hgd _); clear hK K))
      refine low_nil (by assumption) ?_; intro W1 hw'; obtain ⟨⟨wq, hlow⟩, hw''⟩ := hw'; subst hw''; have HLOW := hid hlow; clear hlow; (try simp only)
      clear p0 p1 p2 p3 p4 p5 p6 p7 p8 p9 p10 p11 p12 q0 q1 q2 q3 q4 q5 q6 q7 q8 q9
      clear hgd
      have HX1 := hid (hX.out.keep HLOW.out)
      have HB1 := hid (bstep hB.out hB.out.size HLOW.out)
      cases g
      case false =>
        go_wp2
        go_roundw
        case rel => exact ⟨i + 1, HLT.out, by go_num, HX1, HB1⟩
        case measure => have := HLT.out; simp [intOf]; omega
      obtain ⟨hbeg, hrun1⟩ := (HR.out _ HX1.out.low).beg (q := i) (by omega)
      obtain ⟨ad, hback, hrun2'⟩ := (HR.out _ HX1.out.low).back (lo := i + 1) (by omega) (by omega)
      have hrun2 : ∀ W : World, (Instr.sliceAt 24 (.slice (some ⟨b0, o, none⟩) m vc) (some (.int .i64 ((i : Int) + 1))) none none).run Try.prog W = .ok (.slice (some ad) (m - (i + 1)) (vc - (i + 1))) W := fun W => by have := hrun2' W; simpa using this
      clear hrun2'
      have HBG := hid hbeg
      have HBK := hid hback
      have HLI := hid (show (l.take i).length = i by rw [List.length_take]; omega)
      have HLD := hid (show (l.drop (i + 1)).length = m - (i + 1) by rw [List.length_drop, ← HN.out])
      have HS1 := hid (fun W (g : Below W1.heap.size W1 W) => rowH_src (a := ⟨b0, o, none⟩) (HBG.out.keep g))
      have HS2 := hid (fun W (g : Below W1.heap.size W1 W) => rowH_src (HBK.out.keep g))
      have HM60 := hid (show m ≤ 60 by have := HL.out; rw [HN.out]; exact this)
      clear hbeg hback
      go_wp2
      go_region_held3 (fun w' => Hid (Below W1.heap.size W1 w')) (first | exact bl_new W1 | exact bl_alloc (by assumption) | assumption)
        ((first
          | (refine step_own rfl (.tmp 89) (.tmp 92) 24 rfl W1.heap.size 39 j0 _ 10 80 Try.underlying24 hj hy0 hy1 hy2 rfl (by decide) _ 0 [] rfl (own_empty rfl) ⟨b0, o, none⟩ i vc (shvs (l.take i)) rfl (by rw [shvs_len, HLI.out]) (HS1.out _ (bl_alloc (bl_new W1)).out) (shvs_one _) (by have := HLT.out; have := HM60.out; unfold maxLen; omega) (by have := HLT.out; have := HM60.out; omega) (by simp) ?_; intro v5 w5 hown5 hgrow5; have HB5 : Hid (Below W1.heap.size W1 w5) := hid ((bl_alloc (bl_new W1)).out.grown hgrow5 (bl_alloc (bl_new W1)).out.size (fun j e => by cases e; exact Nat.le_refl _)); have HO5 : Hid (w5.ownsRow W1.heap.size 39 10 v5 i (shvs (l.take i))) := hid (by simpa using hown5); clear hown5 hgrow5)
          | (refine step_own rfl (.tmp 93) (.tmp 97) 24 rfl W1.heap.size 39 j0 _ 10 80 Try.underlying24 hj hy0 hy1 hy2 rfl (by decide) _ i (shvs (l.take i)) rfl HO5.out ad (m - (i + 1)) (vc - (i + 1)) (shvs (l.drop (i + 1))) rfl (by rw [shvs_len, HLD.out]) (HS2.out _ HB5.out) (shvs_one _) (by have := HLT.out; have := HM60.out; unfold maxLen; omega) (by have := HLT.out; have := HM60.out; omega) HB5.out.size ?_; intro v6 w6 hown6 hgrow6; have HB6 : Hid (Below W1.heap.size W1 w6) := hid (HB5.out.grown hgrow6 HB5.out.size (fun j e => (World.ownsRow.lt HO5.out j e).1)); have HO6 := hid hown6; clear hown6 hgrow6)))
      have HOL : Hid (OwnH w6 W1.heap.size v6 (lessL l i)) := by
        have e : (lessL l i).length = i + (m - (i + 1)) := by unfold lessL; rw [List.length_append, HLI.out, HLD.out]
        show OwnH _ _ _ _
        unfold OwnH
        rw [e]
        unfold lessL
        rw [shvs_app]
        exact HO6.out
      have HLE := hid (show (lessL l i).length ≤ 60 by have := lessL_len HIL.out; have := HL.out; omega)
      have HX6 := hid (HX1.out.keep HB6.out)
      have HC6 := hid (bstep HB1.out HB1.out.size HB6.out)
      have HHL := hid (heldk_any n v6 (lessL l i) hd b E w6 HOL.out.row (by have := HLE.out; omega))
      rw [hdC_mk HIV1.out (shs_less HIV2.out) HIV3.out HIV4.out] at HHL
      have HLS := hid (fun m2 h2 => less_sub (b := b) (E := E) (H := upL hd.toNat) (m1 := m1) (m2 := m2) HIV2.out HIL.out HG.out HM1.out.2.1 h2 r1 r3)
      clear hrun1 hrun2
      obtain ⟨va6, vc6, hv6⟩ := HOL.out.row.shape
      subst hv6
      obtain ⟨n0, n1, n2, n3, n4, n5, n6, n7, n8, n9, s0, s1, s2⟩ := HX6.out.span
      go_wp2_with fail
      refine HHL.out.mono ?_
      rintro e w7 ⟨u7, m7, rfl, ho7, hb, hm7, -⟩
      have HX7 := hid (HX6.out.keep hb)
      have HC7 := hid (bstep HC6.out HC6.out.size hb)
      have HM7 := hid (hm7 (by first | rfl | trivial))
      have HF7 := hid (show m7.length ≤ 732 by have := HM7.out.2.2; have := HLE.out; omega)
      have HFF7 := hid (And.intro HF1.out HF7.out)
      have HRA7 := hid (fun W (g : Below w7.heap.size w7 W) => HRA.out W (bstep HC7.out HC7.out.size g))
      have HRB7 := hid (fun W (g : Below w7.heap.size w7 W) => ho7.row.keep g)
      have HRW7 := hid (held_raw HM7.out.1 HM7.out.2.1 r1 r3)
      obtain ⟨ua7, uc7, rfl⟩ := ownX_shape ho7
      clear hb ho7 hm7 n0 n1 n2 n3 n4 n5 n6 n7 n8 n9 s0 s1 s2
      have HA0 := hid (own_empty (W := w7) (E := 68) (n := 2) (cs := #[]) rfl)
      have HP1 := hid ((Below.refl w7.heap.size w7).alloc (Nat.le_refl _) (.cells #[] 68))
      have HS1 := hid ((HRA7.out _ HP1.out).src)
      go_wp2_with (at_builtin; first
        | (refine wpList_wanted rfl ?_; refine wpList_appX rfl _ _ 28 rfl w7.heap.size 68 i0 (.agg #[.int .i64 0, .int .i64 0]) Try.underlying28 hi hz0 hz1 hz2 rfl _ _ _ rfl HA0.out _ m1 rfl HS1.out (by have := HFF7.out; omega) (by simp) ?_
           intro v1 x3 hown3 hgrow3
           replace hown3 := own_app0 hown3
           obtain ⟨xa, xc, hsh⟩ := own_shape2 hown3
           subst hsh
           have HP3 := hid (HP1.out.grown hgrow3 (by simp) (fun k hk => by cases hk; exact Nat.le_refl _))
           have HZ3 := hid (show w7.heap.size ≤ x3.heap.size from Nat.le_trans (by simp) hgrow3.size)
           have HO3 := hid hown3
           have HS2 := hid ((HRB7.out _ HP3.out).src)
           clear hown3 hgrow3)
        | (refine wpList_wanted rfl ?_; refine wpList_appX rfl _ _ 28 rfl w7.heap.size 68 i0 (.agg #[.int .i64 0, .int .i64 0]) Try.underlying28 hi hz0 hz1 hz2 rfl _ _ _ rfl HO3.out _ m7 rfl HS2.out (by have := HFF7.out; omega) HZ3.out ?_
           intro v2 x4 hown4 hgrow4))
      have HO4 : Hid (OwnX x4 w7.heap.size 68 v2 (m1 ++ m7)) := by
        show OwnX _ _ _ _ _
        unfold OwnX
        rw [List.length_append, pvs_app]
        exact hown4
      have HP4 := hid (HP3.out.grown hgrow4 HP3.out.size (fun k hk => (World.ownsRow.lt HO3.out k hk).1))
      clear hown4 hgrow4
      have HC5 := hid (length_any v2 (m1 ++ m7) x4 HO4.out.row (by have := HFF7.out; rw [List.length_append]; omega) (raw_app HRW1.out HRW7.out))
      go_wp2_with fail
      refine HC5.out.mono ?_
      rintro e x5 ⟨z, hz, rfl, hb⟩
      have HZZ := hid hz
      have HP5 := hid (bstep HP4.out HP4.out.size hb)
      clear hz hb HC5
      have HC6' := hid (length_any _ m7 x5 (HRB7.out _ HP5.out) (by have := HFF7.out; omega) HRW7.out)
      go_wp2_with fail
      refine HC6'.out.mono ?_
      rintro e x6 ⟨z2, hz2', rfl, hb⟩
      have HE := hid (uni_sub HM7.out.1 HZZ.out hz2' (HLS.out m7 HM7.out.2.1))
      have HP6 := hid (bstep HP5.out HP5.out.size hb)
      have HX8 := hid (HX7.out.keep HP6.out)
      have HB8 := hid (bstep HC7.out HC7.out.size HP6.out)
      rw [← HE.out]
      clear hz2' hb HC6'
      generalize lenP z = LZ2
      go_wp2
      go_roundw
      case rel => exact ⟨i + 1, HLT.out, by go_num, HX8, HB8⟩
      case measure => have := HLT.out; simp [intOf]; omega
    · obtain rfl : i = m := by omega
      go_wp2_with fail
      refine (kawake_any _).mono ?_
      rintro e w7 ⟨rfl, hb⟩
      have HB7 := hid (bstep hX.out.low hX.out.low.size hb)
      clear hb
      go_wp2_with fail
      go_ret
      exact ⟨rfl, HB7.out⟩
end Go.Proofs.Ytjfakhfkbnnbcaa
