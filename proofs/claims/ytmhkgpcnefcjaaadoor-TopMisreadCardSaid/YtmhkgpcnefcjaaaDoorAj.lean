/- Walk of CodeNear: contract. -/
import Derived.Test.YtmhkgpcnefcjaaaDoorAi
namespace Go.Proofs.YtmhkgpcnefcjaaaDoor
open Go.RowKit

theorem rows_eq {l m : List Int} (hl : l.length = m.length) (h : ∀ j (h : j < l.length) (h' : j < m.length), j < l.length → l[j] = m[j]) : decide (l = m) = true := by
  rw [decide_eq_true_iff]
  exact List.ext_getElem hl fun j h1 h2 => h j h1 h2 h1
theorem rows_ne {l m : List Int} {k : Nat} (hk : k < l.length) (hk' : k < m.length) (h : l[k] ≠ m[k]) : decide (l = m) = false := by
  rw [decide_eq_false_iff_not]
  rintro rfl
  exact h rfl
theorem RowI.most {w : World} {v : Value} {l : List Int} (h : RowI w v l) : l.length ≤ maxLen := by
  rcases h with ⟨_, _, _, rfl⟩ | ⟨_, _, _, _, h, _⟩
  · simp [maxLen]
  · exact h
set_option maxHeartbeats 2000000 in
theorem ints_any (w : World) (v u : Value) (l m : List Int) (hl : RowI w v l) (hm : RowI w u m) :
    Calls Tryd.prog 17 #[v, u] w fun e w' => e = .returned (.bool (decide (l = m))) ∧ ∃ n, w' = w.drewN n := by
  have hM := hl.most
  unfold maxLen at hM
  obtain ⟨a, b, o, cap, rfl, ha, hc, _⟩ := hl.form
  obtain ⟨a', b', o', cap', rfl, ha', hc', _⟩ := hm.form
  have HA := hid ha
  have HA' := hid ha'
  have HC := hid hc
  have HC' := hid hc'
  clear ha ha' hc hc' hl hm
  by_cases hlen : l.length = m.length
  · have h2 : ((l.length : Int) != (m.length : Int)) = false := by simp; omega
    have HL := hid hlen
    clear hlen
    go_enter Tryd.func17, Tryd.ntmps17
    go_wp2
    go_loopw [5] (fun i wr => ∃ k : Nat, k ≤ l.length ∧ i = .int .i64 (k : Int) ∧ Hid (∀ j (h : j < l.length) (h' : j < m.length), j < k → l[j] = m[j]) ∧ ∃ n, wr = w.drewN n) (fun i _ => l.length - (intOf i).toNat)
    case atStart => exact ⟨0, Nat.zero_le _, rfl, fun j _ _ h => absurd h (Nat.not_lt_zero _), 0, rfl⟩
    case round =>
      obtain ⟨k, hk, rfl, hok, n, rfl⟩ := hrel
      by_cases hlt : k < l.length
      · have hlm : k < m.length := by have := HL.out; omega
        have ex := HC.out k hlt
        have ey := HC'.out k hlm
        rcases HA.out with h0 | rfl
        · exact absurd hlt (by rw [h0]; simp)
        rcases HA'.out with h0 | rfl
        · exact absurd hlm (by rw [h0]; simp)
        clear HA HA'
        by_cases he : l[k] = m[k]
        · have hst : Hid (∀ j (h : j < l.length) (h' : j < m.length), j < k + 1 → l[j] = m[j]) := fun j hj hj' h => by
            rcases Nat.lt_or_ge j k with h1 | h1
            · exact hok.out j hj hj' h1
            · obtain rfl : j = k := by omega
              exact he
          rw [← he] at ey
          generalize l[k] = x at ex ey
          clear he
          go_wp2
          go_quiet (fail)
          go_wp2
          go_roundw
          case rel => exact ⟨k + 1, by omega, by go_num, hst, by first | exact ⟨_, rfl⟩ | exact ⟨_, World.drewN_drewN _ _ _⟩⟩
          case measure => simp [intOf]; omega
        · have hE := hid (rows_ne hlt hlm he)
          have hne : (l[k] != m[k]) = true := by simpa using he
          generalize l[k] = x at ex hne
          generalize m[k] = y at ey hne
          clear he
          go_wp2
          go_quiet (fail)
          go_wp2
          go_ret
          exact ⟨ret_bool hE.out.symm, by first | exact ⟨_, rfl⟩ | exact ⟨_, World.drewN_drewN _ _ _⟩⟩
      · obtain rfl : k = l.length := by omega
        have hE := hid (rows_eq HL.out hok.out)
        go_wp2
        go_ret
        exact ⟨ret_bool hE.out.symm, n, rfl⟩
  · have h2 : ((l.length : Int) != (m.length : Int)) = true := by simp; omega
    have hE : Hid (decide (l = m) = false) := by rw [Hid, decide_eq_false_iff_not]; exact fun h => hlen (by rw [h])
    clear hlen
    go_enter Tryd.func17, Tryd.ntmps17
    go_wp2
    go_ret
    exact ⟨ret_bool hE.out.symm, by first | exact ⟨0, rfl⟩ | exact ⟨_, rfl⟩⟩

theorem ints_same (w : World) (v u : Value) (l : List Int) (hl : RowI w v l) (hm : RowI w u l) :
    Calls Tryd.prog 17 #[v, u] w fun e w' => e = .returned (.bool true) ∧ Below w.heap.size w w' :=
  (ints_any w v u l l hl hm).mono fun e w' h => by
    obtain ⟨h1, n, rfl⟩ := h
    exact ⟨by rw [h1]; simp, bdrewN (Below.refl _ _)⟩
theorem on_facts {s : ByteArray} {ls : List ByteArray} {most : Int} {L : List Int} {d c : Int} (hn : Nr s ls L d c) (h : onB (dbO s ls most) (dsC s ls most) = true) : dsC s ls most = 0 ∧ ∃ x, dbO s ls most = [x] ∧ L = [x] ∧ onI (dbO s ls most) (dsC s ls most) = x := by
  unfold onB at h
  by_cases h0 : dsC s ls most = 0
  · rw [if_pos h0, decide_eq_true_iff] at h
    obtain ⟨x, hx⟩ := List.length_eq_one_iff.1 h
    have hq : upQ most (dsL s ls) = [x] := by
      unfold dbO at hx
      rw [if_pos h0] at hx
      exact hx
    have hle := dsC_len h0
    have h9 : dsC s ls 9 = 0 := by
      unfold dsC at h0 ⊢
      split at h0
      · rename_i ho
        rw [if_pos ho, if_pos (by decide), if_neg (by omega)]
      · cases h0
    have hne : ls ≠ [] := by
      rintro rfl
      cases hq
    obtain ⟨g1, g2, _⟩ := hn.some h9 hne
    refine ⟨h0, x, hx, by rw [g2]; exact only_near g1 hq, ?_⟩
    rw [hx, h0]
    rfl
  · rw [if_neg h0] at h
    cases h
theorem more_facts {s : ByteArray} {ls : List ByteArray} {most : Int} (h : dsC s ls most = 0) (h2 : dsC s ls (IntKind.i64.wrap (most + 1)) = 0) : (dbO s ls most).length ≤ (dbO s ls (IntKind.i64.wrap (most + 1))).length := by
  have hin : 0 ≤ most ∧ most ≤ 9 := by
    unfold dsC at h
    split at h
    · split at h
      · rename_i g; exact inB_iff.1 g
      · cases h
    · cases h
  have e : IntKind.i64.wrap (most + 1) = most + 1 := IntWalk.i64_in _ ⟨by omega, by omega⟩
  rw [e] at h2 ⊢
  unfold dbO
  rw [if_pos h, if_pos h2]
  exact upQ_more most _
set_option maxRecDepth 100000 in
set_option maxHeartbeats 8000000 in
theorem near_walk (s : ByteArray) (v : Value) (ls : List ByteArray) (most : Int) (w : World) (hr : RowS w v ls) (hw : Wts w) :
    Calls Tryd.prog 4 #[.string s, v, .int .i64 most] w fun e w' => e = .returned (.bool true) ∧ Below w.heap.size w w' := by
  have HW := hid hw
  have HR := hid (fun w1 (g : Below w.heap.size w w1) => hr.keep g)
  have hnm := hr.most
  unfold maxLen at hnm
  obtain ⟨a, b, o, cap, rfl, _, _, _⟩ := hr
  by_cases hlen : ls.length ≤ 2100
  case neg =>
    have hgt : (2100 : Int) < (ls.length : Int) := by omega
    clear hw hlen
    go_enter Tryd.func4, Tryd.ntmps4
    go_wp2_with fail
    refine (awake6_any w HW.out).mono ?_
    rintro e w1 ⟨rfl, hb⟩
    have HB1 := hid hb
    clear hb
    go_wp2_with fail
    go_ret
    exact ⟨rfl, HB1.out⟩
  have hgt : ¬ (2100 : Int) < (ls.length : Int) := by omega
  have HLEN := hid hlen
  obtain ⟨L, d, c, hn⟩ := nr_ex s ls
  have HN := hid hn
  have HON := hid (fun h => on_facts (most := most) hn h)
  obtain ⟨M, hM⟩ : ∃ M, IntKind.i64.wrap (most + 1) = M := ⟨_, rfl⟩
  have HMORE := hid (fun h h2 => more_facts (s := s) (ls := ls) (most := most) h h2)
  rw [hM] at HMORE
  have HM := hid (show wrap64 (most + 1) = M by rw [← hM, IntKind.wrap_i64]; unfold wrap64; rfl)
  have HD1 := hid (fun w1 (g : Below w.heap.size w w1) => cdoubt_any s _ ls most w1 (HR.out _ g))
  have HD2 := hid (fun w1 (g : Below w.heap.size w w1) => xdoubt_any s _ ls most w1 (HR.out _ g) HLEN.out)
  have HO1 := hid (fun w1 (g : Below w.heap.size w w1) => conly_any s _ ls most w1 (HR.out _ g))
  have HO2 := hid (fun w1 (g : Below w.heap.size w w1) => xonly_any s _ ls most w1 (HR.out _ g) HLEN.out)
  have HD3 := hid (fun w1 (g : Below w.heap.size w w1) => cdoubt_any s _ ls M w1 (HR.out _ g))
  generalize dbO s ls most = P at *
  generalize dsC s ls most = g0 at *
  generalize dbO s ls M = Q at *
  generalize dsC s ls M = m0 at *
  obtain ⟨i0, hi0⟩ : ∃ i0, onI P g0 = i0 := ⟨_, rfl⟩
  obtain ⟨ok, hok⟩ : ∃ ok, onB P g0 = ok := ⟨_, rfl⟩
  rw [hi0, hok] at HO1 HO2
  rw [hi0, hok] at HON
  have hdd : (d != d) = false := by simp
  have hcc : (c != c) = false := by simp
  have hgg : (g0 != g0) = false := by simp
  have hii : (i0 != i0) = false := by simp
  have hoo : (ok != ok) = false := by simp
  clear hw hlen hn hM hi0 hok
  go_enter Tryd.func4, Tryd.ntmps4
  go_wp2_with fail
  refine (awake6_any w HW.out).mono ?_
  rintro e w1 ⟨rfl, hb⟩
  have HB1 := hid hb
  clear hb
  go_wp2_with fail
  refine (cnear_any s _ ls L d c w1 (HR.out _ HB1.out) HN.out).mono ?_
  rintro e w2 ⟨u1, rfl, hu1, hb⟩
  obtain ⟨ua1, uc1, rfl⟩ := hu1.shape
  have HB2 := hid (bstep HB1.out HB1.out.size hb)
  have HU1 := hid hu1
  clear hb hu1
  go_wp2_with fail
  refine (xnear_any s _ ls L d c w2 (HR.out _ HB2.out) HLEN.out HN.out).mono ?_
  rintro e w3 ⟨u2, rfl, hu2, hb⟩
  obtain ⟨ua2, uc2, rfl⟩ := hu2.shape
  have HB3 := hid (bstep HB2.out HB2.out.size hb)
  have HU1 := hid (HU1.out.keep hb)
  have HI := hid (ints_same w3 _ _ L HU1.out hu2)
  clear hb hu2
  go_wp2_with fail
  refine HI.out.mono ?_
  rintro e w4 ⟨rfl, hb⟩
  have HB4 := hid (bstep HB3.out HB3.out.size hb)
  have HU1 := hid (HU1.out.keep hb)
  clear hb
  go_wp2_with fail
  refine (HD1.out _ HB4.out).mono ?_
  rintro e w5 ⟨u3, rfl, hu3, hb⟩
  obtain ⟨ua3, uc3, rfl⟩ := hu3.shape
  have HB5 := hid (bstep HB4.out HB4.out.size hb)
  have HU1 := hid (HU1.out.keep hb)
  have HU3 := hid hu3
  clear hb hu3
  go_wp2_with fail
  refine (HD2.out _ HB5.out).mono ?_
  rintro e w6 ⟨u4, rfl, hu4, hb⟩
  obtain ⟨ua4, uc4, rfl⟩ := hu4.shape
  have HB6 := hid (bstep HB5.out HB5.out.size hb)
  have HU1 := hid (HU1.out.keep hb)
  have HU3 := hid (HU3.out.keep hb)
  have HI2 := hid (ints_same w6 _ _ P HU3.out hu4)
  clear hb hu4
  go_wp2_with fail
  refine HI2.out.mono ?_
  rintro e w7 ⟨rfl, hb⟩
  have HB7 := hid (bstep HB6.out HB6.out.size hb)
  have HU1 := hid (HU1.out.keep hb)
  have HU3 := hid (HU3.out.keep hb)
  clear hb
  go_wp2_with fail
  refine (HO1.out _ HB7.out).mono ?_
  rintro e w8 ⟨rfl, hb⟩
  have HB8 := hid (bstep HB7.out HB7.out.size hb)
  have HU1 := hid (HU1.out.keep hb)
  have HU3 := hid (HU3.out.keep hb)
  clear hb
  go_wp2_with fail
  refine (HO2.out _ HB8.out).mono ?_
  rintro e w9 ⟨rfl, hb⟩
  have HB9 := hid (bstep HB8.out HB8.out.size hb)
  have HU1 := hid (HU1.out.keep hb)
  have HU3 := hid (HU3.out.keep hb)
  clear hb
  cases ok
  case true =>
    obtain ⟨hg, x, hP, hL, hix⟩ := HON.out rfl
    subst hP hL hix hg
    obtain ⟨y1, b1, o1, z1, e1, ha1, hc1, _⟩ := HU1.out.form
    obtain ⟨y3, b3, o3, z3, e3, ha3, hc3, _⟩ := HU3.out.form
    injection e1 with e1 _ _
    injection e3 with e3 _ _
    subst e1 e3
    rcases ha1 with h0 | rfl
    · cases h0
    rcases ha3 with h0 | rfl
    · cases h0
    have k1 := hc1 0 (by simp)
    have k3 := hc3 0 (by simp)
    simp only [List.length_singleton, List.getElem_cons_zero, Nat.add_zero] at k1 k3 ⊢
    clear hc1 hc3
    go_wp2_with fail
    rw [HM.out]
    refine (HD3.out _ HB9.out).mono ?_
    rintro e w10 ⟨u5, rfl, hu5, hb⟩
    obtain ⟨ua5, uc5, rfl⟩ := hu5.shape
    have HB10 := hid (bstep HB9.out HB9.out.size hb)
    clear hb hu5 k1 k3
    by_cases hm : m0 = 0
    · subst hm
      have hle := HMORE.out (by simp) (by simp)
      simp only [List.length_singleton] at hle
      have hle2 : (1 : Int) ≤ (Q.length : Int) := by omega
      go_wp2_with fail
      go_ret
      exact ⟨by first | rfl | simp, HB10.out⟩
    · have hm2 : (m0 != 0) = true := by simpa using hm
      go_wp2_with fail
      go_ret
      exact ⟨rfl, HB10.out⟩
  case false =>
    go_wp2_with fail
    rw [HM.out]
    refine (HD3.out _ HB9.out).mono ?_
    rintro e w10 ⟨u5, rfl, hu5, hb⟩
    obtain ⟨ua5, uc5, rfl⟩ := hu5.shape
    have HB10 := hid (bstep HB9.out HB9.out.size hb)
    clear hb hu5
    by_cases hg : g0 = 0
    · subst hg
      by_cases hm : m0 = 0
      · subst hm
        have hle := HMORE.out (by simp) (by simp)
        have hle2 : (P.length : Int) ≤ (Q.length : Int) := by omega
        go_wp2_with fail
        go_ret
        exact ⟨by first | rfl | simp, HB10.out⟩
      · have hm2 : (m0 != 0) = true := by simpa using hm
        go_wp2_with fail
        go_ret
        exact ⟨rfl, HB10.out⟩
    · have hg2 : (g0 != 0) = true := by simpa using hg
      go_wp2_with fail
      go_ret
      exact ⟨rfl, HB10.out⟩
end Go.Proofs.YtmhkgpcnefcjaaaDoor
