/- Walk of SeamLengths. -/
import Derived.Test.YtacakfnomniejabIg
namespace Go.Proofs.Ytacakfnomniejab
open Go.RowKit

/-- What an append reads. -/
def SrcX (w : World) (u : Value) (l : List Pr) : Prop := (∃ c, u = .slice none 0 c ∧ l = []) ∨ ∃ ad c, u = .slice (some ad) l.length c ∧ ∀ j x, (pvs l)[j]? = some x → w.cell? (ad.add j) = some x
theorem RowX.src {w : World} {v : Value} {l : List Pr} (h : RowX w v l) : SrcX w v l := by
  obtain ⟨va, vc, rfl⟩ := h.shape
  rcases va with _ | ⟨b, o, z⟩
  · rcases l with _ | ⟨p, l⟩
    · exact .inl ⟨_, rfl, rfl⟩
    · obtain ⟨b, o, g, _⟩ := h.get (k := 0) (by simp)
      cases g
  · refine .inr ⟨_, _, rfl, fun j u hu => ?_⟩
    have hl : 0 < l.length := by
      have := (List.getElem?_eq_some_iff.1 hu).1
      rw [pvs_len] at this
      omega
    obtain ⟨b', o', g, _⟩ := h.get (k := 0) hl
    injection g with g
    injection g with h1 h2 h3
    subst h1 h2 h3
    exact h.cells j u hu
section
variable {P : Program} {w : World}
theorem run_appX_none {base t ty e : Nat} {i : TypeInfo} (ht : P.underlying t = some (.slice e)) (hi : P.info? e = some i) {v : Value} {n : Nat} {xs : List Value} (hown : w.ownsRow base e 2 v n xs) (c : Nat) :
    (Builtin.append_ #[t, t] ty #[v, .slice none 0 c]).run P w = .ok v w := by
  have hU := run_underlying ht (P := P)
  rcases hown.2 with ⟨rfl, rfl⟩ | ⟨g, cap, cur, rfl, _, _, h, _⟩
  · simp [Builtin.append_, hU, sizeOf, typeInfo, hi, Builtin.lenOf, Builtin.firstCells]
  · simp [Builtin.append_, hU, sizeOf, typeInfo, hi, Builtin.lenOf, Builtin.firstCells, storeCells, h]
theorem wpList_appX {ops : Array Oper} {rest : List Oper} {o : Oper} {a : Act} {Q : Exit → Act → World → Prop} (hgd : o.guard = none) (s x : Operand) (t : TypeId) (ho : o.op = .call { callee := .builtin .append, args := #[s, x], argTypes := #[t, t] })
    (base e : Nat) (i : TypeInfo) (z : Value) (ht : P.underlying t = some (.slice e)) (hi : P.info? e = some i) (hz : i.zero = some z) (hs : i.size = 2) (hb : i.bytes = 16) (hzs : z.cells.size = 2)
    (v : Value) (n : Nat) (xs : List Value) (hv : a.eval s = v) (hown : w.ownsRow base e 2 v n xs) (u : Value) (l : List Pr) (hu : a.eval x = u) (hl : SrcX w u l) (hn : n + l.length ≤ 1000000) (hbase : base ≤ w.heap.size)
    (h : ∀ v' w', w'.ownsRow base e 2 v' (n + l.length) (xs ++ pvs l) → w.grownBy w' v.ownBlock → wpList P ops Q rest (a.put o.dst v') w') : wpList P ops Q (o :: rest) a w := by
  rcases hl with ⟨c, rfl, rfl⟩ | ⟨ad, c, rfl, hc⟩
  · refine wpList_plain hgd fun _ hK => ?_
    unfold Oper.wp execOp
    simp only [ho, resolve, invoke, builtin, Sem.run_bind, Sem.run_pure, Result.andThen_ok, List.map_toArray, List.map_cons, List.map_nil, hv, hu, run_appX_none (ty := o.type) ht hi hown c]
    exact hK _ _ (h v w (by simpa [pvs] using hown) (World.grownBy.refl w _))
  · exact wpList_append_own _ hgd s x t ho base e i z 2 16 ht hi hz hs hb hzs (by decide) v n xs hv hown ad l.length c (pvs l) hu (pvs_len l) hc (pvs_one l) (by unfold maxLen; omega) (by omega) hbase fun v' w' h1 h2 _ => h v' w' h1 h2
end
theorem own_shape2 {w : World} {base e n : Nat} {v : Value} {xs : List Value} (h : w.ownsRow base e 2 v n xs) : ∃ a c, v = .slice a n c := by
  rcases h.2 with ⟨rfl, h0⟩ | ⟨g, cap, cur, rfl, _⟩
  · exact ⟨none, 0, by rw [h0]⟩
  · exact ⟨_, _, rfl⟩
theorem own_app0 {w : World} {base e : Nat} {v : Value} {n : Nat} {xs : List Value} (h : w.ownsRow base e 2 v (0 + n) ([] ++ xs)) : w.ownsRow base e 2 v n xs := by
  rw [Nat.zero_add, List.nil_append] at h
  exact h
theorem pvs_all (l m : List Pr) : pvs l ++ pvs m = pvs (l ++ m) := (pvs_app l m).symm
/-- Two stretches have no tick in common. -/
def sepP (p q : Pr) : Prop := ¬ max p.x q.x < min p.y q.y
theorem sep_all {l m : List Pr} (h : ∀ i (hi : i < l.length) k (hk : k < m.length), sepP l[i] m[k]) : ∀ t, inP l t → inP m t → False := by
  rintro t ⟨p, hp, g1⟩ ⟨q, hq, g2⟩
  obtain ⟨i, hi, rfl⟩ := List.getElem_of_mem hp
  obtain ⟨k, hk, rfl⟩ := List.getElem_of_mem hq
  have := h i hi k hk
  unfold sepP at this
  omega
theorem raw_app {l m : List Pr} (h : RawL l) (g : RawL m) : RawL (l ++ m) := fun p hp => (List.mem_append.1 hp).elim (h p) (g p)
theorem len_of {l u : List Pr} (h : Uni u l) (g : RawL l) (k : l.length ≤ 1000) : 0 ≤ lenP u ∧ lenP u ≤ 2000000000000000000 := by
  have h1 := lenP_some (uni_raw h g) h.can u.length (Nat.le_refl _)
  rw [List.take_length] at h1
  have := h.few
  omega
theorem len_sum {u v z l m : List Pr} (hu : Uni u l) (hv : Uni v m) (hz : Uni z (l ++ m)) (gl : RawL l) (gm : RawL m) (hd : ∀ t, inP l t → inP m t → False) : lenP z = lenP u + lenP v :=
  lenP_add (lo := -1000000000000000) (n := 2000000000000000) hu hv hz (fun p hp => by have := gl p hp; omega) (fun p hp => by have := gm p hp; omega) hd
set_option maxRecDepth 20000 in
set_option maxHeartbeats 8000000 in
theorem lengths_walk (u : Value) (l : List Pr) (v : Value) (m : List Pr) (w : World) (hu : RowX w u l) (hv : RowX w v m) : Calls Try.prog 3 #[u, v] w fun e w' => e = .returned (.bool true) ∧ Below w.heap.size w w' := by
  obtain ⟨i0, hi, hz0, hz1, hz2⟩ := infoX_parts
  have HU := hid (fun w1 (g : Below w.heap.size w w1) => hu.keep g)
  have HV := hid (fun w1 (g : Below w.heap.size w w1) => hv.keep g)
  have h1 := hu.most
  have h2 := hv.most
  unfold maxLen at h1 h2
  clear hu hv
  cases r1 : rawB l
  · have R1 := hid r1
    clear r1
    go_enter Try.func3, Try.ntmps3
    go_wp2_with fail
    refine (raw_any u l w (HU.out _ (Below.refl _ _))).mono ?_
    rintro e w1 ⟨rfl, hb⟩
    rw [R1.out]
    have HB := hid hb
    clear hb
    go_wp2_with fail
    refine (kawake_any _).mono ?_
    rintro e w2 ⟨rfl, hb⟩
    have HB2 := hid (bstep HB.out HB.out.size hb)
    clear hb
    go_wp2_with fail
    go_ret
    exact ⟨rfl, HB2.out⟩
  cases r2 : rawB m
  · have R1 := hid r1
    have R2 := hid r2
    clear r1 r2
    go_enter Try.func3, Try.ntmps3
    go_wp2_with fail
    refine (raw_any u l w (HU.out _ (Below.refl _ _))).mono ?_
    rintro e w1 ⟨rfl, hb⟩
    rw [R1.out]
    have HB := hid hb
    clear hb
    go_wp2_with fail
    refine (raw_any v m w1 (HV.out _ HB.out)).mono ?_
    rintro e w2 ⟨rfl, hb⟩
    rw [R2.out]
    have HB := hid (bstep HB.out HB.out.size hb)
    clear hb
    go_wp2_with fail
    refine (kawake_any _).mono ?_
    rintro e w3 ⟨rfl, hb⟩
    have HB2 := hid (bstep HB.out HB.out.size hb)
    clear hb
    go_wp2_with fail
    go_ret
    exact ⟨rfl, HB2.out⟩
  have R1 := hid r1
  have R2 := hid r2
  have RL := hid (rawB_iff.1 r1)
  have RM := hid (rawB_iff.1 r2)
  clear r1 r2
  obtain ⟨n, hn⟩ : ∃ n, n = l.length := ⟨_, rfl⟩
  obtain ⟨q, hq⟩ : ∃ n, n = m.length := ⟨_, rfl⟩
  have HN := hid hn
  have HQ := hid hq
  have hn3 : n ≤ 300 := by rw [hn]; exact RL.out.1
  have hq3 : q ≤ 300 := by rw [hq]; exact RM.out.1
  clear hn hq h1 h2
  go_enter Try.func3, Try.ntmps3
  go_wp2_with fail
  refine (raw_any u l w (HU.out _ (Below.refl _ _))).mono ?_
  rintro e w1 ⟨rfl, hb⟩
  rw [R1.out]
  have HB := hid hb
  clear hb
  go_wp2_with fail
  refine (raw_any v m w1 (HV.out _ HB.out)).mono ?_
  rintro e w2 ⟨rfl, hb⟩
  rw [R2.out]
  have HB := hid (bstep HB.out HB.out.size hb)
  clear hb
  obtain ⟨ua, uc, rfl⟩ := (HU.out _ HB.out).shape
  obtain ⟨va, vc, rfl⟩ := (HV.out _ HB.out).shape
  have HU := hid (fun w1 (g : Below w.heap.size w w1) => (show RowX w1 (.slice ua n uc) l by have h := HU.out w1 g; rw [← HN.out] at h; exact h))
  have HV := hid (fun w1 (g : Below w.heap.size w w1) => (show RowX w1 (.slice va q vc) m by have h := HV.out w1 g; rw [← HQ.out] at h; exact h))
  rw [← HN.out, ← HQ.out]
  go_wp2
  go_loopw [5] (fun t wr => ∃ i : Nat, i ≤ n ∧ t = .int .i64 (i : Int) ∧ Hid (∀ j (hj : j < l.length) k (hk : k < m.length), j < i → sepP l[j] m[k]) ∧ Hid (Below w.heap.size w wr)) (fun t _ => n - (intOf t).toNat)
  case atStart => exact ⟨0, Nat.zero_le _, rfl, fun j _ _ _ h => absurd h (Nat.not_lt_zero j), HB⟩
  case round =>
    obtain ⟨i, hile, rfl, hok, hB⟩ := hrel
    by_cases hlt : i < n
    · have hlt' : (i : Int) < n := by omega
      have hil : i < l.length := by rw [← HN.out]; exact hlt
      have HLT := hid hlt
      clear hlt
      go_wp2
      go_loopw [6] (fun t wr => ∃ k : Nat, k ≤ q ∧ t = .int .i64 (k : Int) ∧ Hid (∀ k' (hk' : k' < m.length), k' < k → sepP l[i] m[k']) ∧ Hid (Below w.heap.size w wr)) (fun t _ => q - (intOf t).toNat)
      case atStart => exact ⟨0, Nat.zero_le _, rfl, fun j _ h => absurd h (Nat.not_lt_zero j), hB⟩
      case round =>
        obtain ⟨k, hkle, rfl, hok2, hB2⟩ := hrel
        by_cases hlt2 : k < q
        · have hlt2' : (k : Int) < q := by omega
          have hkl : k < m.length := by rw [← HQ.out]; exact hlt2
          obtain ⟨b, o, hva, c0, c1⟩ := (HU.out _ hB2.out).get hil
          obtain ⟨b2, o2, hvb, d0, d1⟩ := (HV.out _ hB2.out).get hkl
          subst hva hvb
          have HST := hid (fun (h : sepP l[i] m[k]) => show ∀ k' (hk' : k' < m.length), k' < k + 1 → sepP l[i] m[k'] from fun k' g2 g3 => by
            rcases Nat.lt_succ_iff_lt_or_eq.1 g3 with g | rfl
            · exact hok2.out k' g2 g
            · exact h)
          have HSEP := hid (show sepP l[i] m[k] ↔ ¬ max l[i].x m[k].x < min l[i].y m[k].y from Iff.rfl)
          have HLT2 := hid hlt2
          clear hlt2
          generalize l[i].x = a1 at c0 HSEP
          generalize l[i].y = a2 at c1 HSEP
          generalize m[k].x = a3 at d0 HSEP
          generalize m[k].y = a4 at d1 HSEP
          by_cases hs : max a1 a3 < min a2 a4
          · have g1 : decide (max a1 a3 < min a2 a4) = true := decide_eq_true hs
            clear hs
            go_wp2
            go_quiet (fail)
            have HB3 := hid (bdrewN (n := nq) hB2.out)
            go_wp2_with fail
            refine (kawake_any _).mono ?_
            rintro e w3 ⟨rfl, hb⟩
            have HB4 := hid (bstep HB3.out HB3.out.size hb)
            clear hb
            go_wp2_with fail
            go_ret
            exact ⟨rfl, HB4.out⟩
          · have HE := hid (HST.out (HSEP.out.2 hs))
            have g1 : decide (max a1 a3 < min a2 a4) = false := decide_eq_false hs
            clear hs
            go_wp2
            go_quiet (fail)
            have HB3 := hid (bdrewN (n := nq) hB2.out)
            go_wp2
            go_roundw
            case rel => exact ⟨k + 1, HLT2.out, by go_num, HE, HB3⟩
            case measure => have := HLT2.out; simp [intOf]; omega
        · obtain rfl : k = q := by omega
          have HE : Hid (∀ j (hj : j < l.length) k (hk : k < m.length), j < i + 1 → sepP l[j] m[k]) := by
            intro j hj k' hk' hji
            rcases Nat.lt_succ_iff_lt_or_eq.1 hji with g | rfl
            · exact hok.out j hj k' hk' g
            · exact hok2.out k' hk' (by rw [HQ.out]; exact hk')
          go_wp2
          go_roundw
          case rel => exact ⟨i + 1, HLT.out, by go_num, HE, hB2⟩
          case measure => have := HLT.out; simp [intOf]; omega
    · obtain rfl : i = n := by omega
      have HD := hid (sep_all (l := l) (m := m) (fun j hj k hk => hok.out j hj k hk (by rw [HN.out]; exact hj)))
      have HA := hid (own_empty (W := wr) (E := 26) (n := 2) (cs := #[]) rfl)
      have HB1 := hid (hB.out.alloc hB.out.size (.cells #[] 26))
      have HS1 := hid ((HU.out _ HB1.out).src)
      have hl3 : l.length ≤ 300 := RL.out.1
      have hm3 : m.length ≤ 300 := RM.out.1
      have HLM := hid (And.intro hl3 hm3)
      clear hl3 hm3
      go_wp2_with (at_builtin; first
        | (refine wpList_appX rfl _ _ 22 rfl wr.heap.size 26 i0 (.agg #[.int .i64 0, .int .i64 0]) Try.underlying22 hi hz0 hz1 hz2 rfl _ _ _ rfl HA.out _ l rfl HS1.out (by have := HLM.out; omega) (by simp) ?_
           intro v1 w3 hown3 hgrow3
           replace hown3 := own_app0 hown3
           obtain ⟨xa, xc, hsh⟩ := own_shape2 hown3
           subst hsh
           have HB3 := hid (HB1.out.grown hgrow3 (by have := hB.out.size; simp; omega) (fun k hk => by cases hk; exact hB.out.size))
           have HZ3 := hid (show wr.heap.size ≤ w3.heap.size from Nat.le_trans (by simp) hgrow3.size)
           have HO3 := hid hown3
           have HS2 := hid ((HV.out _ HB3.out).src)
           clear hown3 hgrow3)
        | (refine wpList_appX rfl _ _ 22 rfl wr.heap.size 26 i0 (.agg #[.int .i64 0, .int .i64 0]) Try.underlying22 hi hz0 hz1 hz2 rfl _ _ _ rfl HO3.out _ m rfl HS2.out (by have := HLM.out; omega) HZ3.out ?_
           intro v2 w4 hown4 hgrow4))
      have HO4 : Hid (OwnX w4 wr.heap.size 26 v2 (l ++ m)) := by
        show OwnX _ _ _ _ _
        unfold OwnX
        rw [List.length_append, pvs_app]
        exact hown4
      have HB4 := hid (HB3.out.grown hgrow4 HB3.out.size (fun k hk => Nat.le_trans hB.out.size (World.ownsRow.lt HO3.out k hk).1))
      clear hown4 hgrow4
      have HC4 := hid (length_any v2 (l ++ m) w4 HO4.out.row (by have := HLM.out; rw [List.length_append]; omega) (raw_app RL.out.2 RM.out.2))
      go_wp2_with fail
      refine HC4.out.mono ?_
      rintro e w5 ⟨z, hz, rfl, hb⟩
      have HZ := hid hz
      have HB5 := hid (bstep HB4.out HB4.out.size hb)
      clear hz hb HC4
      have HC5 := hid (length_any (.slice ua i uc) l w5 (HU.out _ HB5.out) (by have := HLM.out; omega) RL.out.2)
      go_wp2_with fail
      refine HC5.out.mono ?_
      rintro e w6 ⟨x, hx, rfl, hb⟩
      have HX := hid hx
      have HB6 := hid (bstep HB5.out HB5.out.size hb)
      clear hx hb HC5
      have HC6 := hid (length_any (.slice va q vc) m w6 (HV.out _ HB6.out) (by have := HLM.out; omega) RM.out.2)
      go_wp2_with fail
      refine HC6.out.mono ?_
      rintro e w7 ⟨y, hy, rfl, hb⟩
      have HB7 := hid (bstep HB6.out HB6.out.size hb)
      have hsum := len_sum HX.out hy HZ.out RL.out.2 RM.out.2 HD.out
      obtain ⟨a1, a2⟩ := len_of HX.out RL.out.2 (by have := HLM.out; omega)
      obtain ⟨b1, b2⟩ := len_of hy RM.out.2 (by have := HLM.out; omega)
      clear hy hb HC6
      rw [hsum]
      generalize lenP x = X at *
      generalize lenP y = Y at *
      have hw1 : IntKind.i64.wrap (X + Y) = X + Y := IntWalk.i64_in _ ⟨by omega, by omega⟩
      go_wp2_with fail
      refine (kawake_any _).mono ?_
      rintro e w8 ⟨rfl, hb⟩
      have HB8 := hid (bstep HB7.out HB7.out.size hb)
      clear hb
      go_wp2_with fail
      go_ret
      exact ⟨rfl, HB8.out⟩
end Go.Proofs.Ytacakfnomniejab
