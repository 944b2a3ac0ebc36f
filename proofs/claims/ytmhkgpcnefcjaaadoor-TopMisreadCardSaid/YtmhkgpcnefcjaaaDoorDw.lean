/- Walks of the reference's ValidDate, DateOf: contracts. -/
import Derived.Test.YtmhkgpcnefcjaaaDoorDs
import Derived.StillTailTactics
namespace Go.Proofs.YtmhkgpcnefcjaaaDoor
open Go.RowKit

theorem xwithin_l (a b c : Int) (r : Bool) (w : World) (h : inB a b c = r) : Calls Tryd.prog 52 #[.int .i64 a, .int .i64 b, .int .i64 c] w fun e w' => e = .returned (.bool r) ∧ w' = w := by
  subst h; exact (xwithin_any a b c w).mono fun _ _ ⟨h, g⟩ => ⟨h, g.symm⟩
theorem days_q (y m : Int) (w : World) (h1 : 1 ≤ m) (h2 : m ≤ 12) : Calls Tryd.prog 97 #[.int .i64 y, .int .i64 m] w fun e w' => e = .returned (.int .i64 (mlen y m)) ∧ w' = w :=
  (days_any y m w h1 h2).mono fun _ _ ⟨h, g⟩ => ⟨h, g.symm⟩
theorem year_q (y : Int) (w : World) : Calls Tryd.prog 96 #[.int .i64 y] w fun e w' => e = .returned (.int .i64 (ylen y)) ∧ w' = w :=
  (year_any y w).mono fun _ _ ⟨h, g⟩ => ⟨h, g.symm⟩
set_option maxRecDepth 100000 in
set_option maxHeartbeats 2000000 in
theorem xvdate_any (y m d : Int) (w : World) :
    Calls Tryd.prog 110 #[.agg #[.int .i64 y, .int .i64 m, .int .i64 d]] w fun e w' => e = .returned (.bool (dateB y m d)) ∧ Below w.heap.size w w' := by
  have HX := bx_new w 61 #[.int .i64 y, .int .i64 m, .int .i64 d]
  obtain ⟨c0, c1, c2⟩ := HX.three
  have HB := hid HX.low
  clear HX
  have HD := hid (dateB_eq y m d)
  cases h1 : inB y 2000 2199
  · have H1 := hid h1
    rw [h1, Bool.false_and, Bool.false_and] at HD
    clear h1
    go_enter Tryd.func110, Tryd.ntmps110
    go_wp2_with fail
    generalize World.alloc w _ = W1 at *
    go_quiet ((go_at_call 52; exact Calls.quiet_of_same (xwithin_l _ _ _ _ _ H1.out)))
    go_wp2_with fail
    go_ret
    exact ⟨ret_bool HD.out.symm, bdrewN HB.out⟩
  · have H1 := hid h1
    cases h2 : inB m 1 12
    · have H2 := hid h2
      rw [h1, h2, Bool.and_false, Bool.false_and] at HD
      clear h1 h2
      go_enter Tryd.func110, Tryd.ntmps110
      go_wp2_with fail
      generalize World.alloc w _ = W1 at *
      go_quiet ((go_at_call 52; first | exact Calls.quiet_of_same (xwithin_l _ _ _ _ _ H1.out) | exact Calls.quiet_of_same (xwithin_l _ _ _ _ _ H2.out)))
      go_wp2_with fail
      go_ret
      exact ⟨ret_bool HD.out.symm, bdrewN HB.out⟩
    · have H2 := hid h2
      obtain ⟨m1, m2⟩ := inB_iff.1 h2
      rw [h1, h2, Bool.and_true, Bool.true_and] at HD
      generalize hq3 : inB d 1 (mlen y m) = b3 at HD
      have H4 := hid hq3
      have P1 := hid m1
      have P2 := hid m2
      clear h1 h2 hq3
      go_enter Tryd.func110, Tryd.ntmps110
      go_wp2_with fail
      generalize World.alloc w _ = W1 at *
      go_quiet ((first
        | (go_at_call 52; first | exact Calls.quiet_of_same (xwithin_l _ _ _ _ _ H1.out) | exact Calls.quiet_of_same (xwithin_l _ _ _ _ _ H2.out) | exact Calls.quiet_of_same (xwithin_l _ _ _ _ _ H4.out))
        | (go_at_call 97; exact Calls.quiet_of_same (days_q _ _ _ P1.out P2.out))))
      go_wp2_with fail
      go_ret
      exact ⟨ret_bool HD.out.symm, bdrewN HB.out⟩
/-- A cell's number. -/
def cellI (W : World) (b k : Nat) : Int := match W.cell? ⟨b, k, none⟩ with
  | some (.int _ z) => z
  | _ => 0
theorem cellI_of {W : World} {b k : Nat} {z : Int} (h : W.cell? ⟨b, k, none⟩ = some (.int .i64 z)) : cellI W b k = z := by unfold cellI; rw [h]
theorem Bx.dr1 {w W : World} {b : Nat} {T : TypeId} {cs : Array Value} (h : Bx w W b T cs) : Bx w W.drew b T cs := ⟨h.row, h.new, h.low.drew⟩
theorem Bx.drwN {w W : World} {b : Nat} {T : TypeId} {cs : Array Value} (h : Bx w W b T cs) (n : Nat) : Bx w (W.drewN n) b T cs := ⟨h.row, h.new, bdrewN h.low⟩
set_option maxRecDepth 100000 in
set_option maxHeartbeats 4000000 in
theorem xdate_ok (n y m d : Int) (w : World) (h : IsDate n y m d) :
    Calls Tryd.prog 74 #[.int .i64 n] w fun e w' => e = .returned (.tuple #[.agg #[.int .i64 y, .int .i64 m, .int .i64 d], .int .i64 0]) ∧ Below w.heap.size w w' := by
  have H := hid h
  obtain ⟨n1, n2⟩ := isYear_nn h.1
  have HIN := hid (show inB n 0 73048 = true from inB_iff.2 ⟨n1, n2⟩)
  have HA := (bx_new w 61 #[.int .i64 0, .int .i64 0, .int .i64 0]).keep ((Below.refl (w.alloc (.cells #[.int .i64 0, .int .i64 0, .int .i64 0] 61)).heap.size _).alloc (Nat.le_refl _) (.cells #[.int .i64 2000, .int .i64 1, .int .i64 (n + 1)] 61))
  have HA1 := hid HA
  have HA2 := hid (show Bx w ((w.alloc (.cells #[.int .i64 0, .int .i64 0, .int .i64 0] 61)).alloc (.cells #[.int .i64 2000, .int .i64 1, .int .i64 (n + 1)] 61)) (w.heap.size + 1) 61 #[.int .i64 2000, .int .i64 1, .int .i64 (n + 1)] from
    ⟨by have := heap_alloc_new (w.alloc (.cells #[.int .i64 0, .int .i64 0, .int .i64 0] 61)) (.cells #[.int .i64 2000, .int .i64 1, .int .i64 (n + 1)] 61); simpa using this, Nat.le_succ _, HA.low⟩)
  clear h HA
  go_enter Tryd.func74, Tryd.ntmps74
  go_wp2_with (go_at_call 76; refine (xday_any _ _).mono ?_; rintro e w' ⟨rfl, rfl⟩; rw [HIN.out])
  generalize World.alloc (World.alloc w _) _ = W1 at *
  have HS1 := hid (show soY 2000 + (n + 1) - 1 = n by rw [soY_2000]; omega)
  go_loopw [12] (fun _ wr => ∃ z D : Int, 2000 ≤ z ∧ z ≤ y ∧ Hid (soY z + D - 1 = n) ∧ Hid (Bx w wr w.heap.size 61 #[.int .i64 0, .int .i64 0, .int .i64 0]) ∧ Hid (Bx w wr (w.heap.size + 1) 61 #[.int .i64 z, .int .i64 1, .int .i64 D])) (fun _ wr => (y - cellI wr (w.heap.size + 1) 0).toNat)
  case atStart => exact ⟨2000, n + 1, by omega, H.out.1.1, HS1, HA1, HA2⟩
  case round =>
    obtain ⟨z, D, z1, z2, HE, HX, HZ⟩ := hrel
    obtain ⟨c0, c1, c2⟩ := HZ.out.three
    have z3 : z ≤ 2199 := by have := H.out.1.2.1; omega
    have hyl : 365 ≤ ylen z ∧ ylen z ≤ 366 := by rw [ylen_lp]; rcases lp_01 z with ⟨_, h2⟩ | ⟨_, h2⟩ <;> omega
    have hsz := soY_day z1 z3
    have hsc := soY_succ z1
    have hE := HE.out
    have hD : 0 ≤ D ∧ D ≤ 73049 := by
      have h1 := soY_le z1 z2
      have h2 := H.out.1.2.2.1
      omega
    by_cases hlt : z < y
    · have hgt : ylen z < D := by
        have h1 := soY_le (y := z + 1) (z := y) (by omega) (by omega)
        have h2 := H.out.1.2.2.1
        omega
      have HLT := hid hlt
      have hwr : IntKind.i64.wrap (D - ylen z) = D - ylen z := IntWalk.i64_in _ ⟨by omega, by omega⟩
      have HYL := hid (fun W => year_q z W)
      have HE2 := hid (show soY (z + 1) + (D - ylen z) - 1 = n by omega)
      clear hsz hsc hE hlt
      go_wp2_with fail
      go_quiet ((go_at_call 96; exact Calls.quiet_of_same (year_q _ _)))
      have HX2 := hid (HX.out.drwN nq)
      have HZ2 := hid (HZ.out.drwN nq)
      generalize World.drewN wr nq = W2 at *
      obtain ⟨e0, e1, e2⟩ := HZ2.out.three
      have f2 := HZ2.out.frz 2
      have f0 := HZ2.out.frz 0
      have HX4 := hid (((HX2.out.other (show w.heap.size ≠ w.heap.size + 1 by omega) (Nat.le_succ _) 2 (.int .i64 (D - ylen z))).other (show w.heap.size ≠ w.heap.size + 1 by omega) (Nat.le_succ _) 0 (.int .i64 (z + 1))).dr1)
      have HZ4 := hid (((HZ2.out.set 2 (.int .i64 (D - ylen z)) (ms := #[.int .i64 z, .int .i64 1, .int .i64 (D - ylen z)]) rfl).set 0 (.int .i64 (z + 1)) (ms := #[.int .i64 (z + 1), .int .i64 1, .int .i64 (D - ylen z)]) rfl).dr1)
      go_wp2_with fail
      refine wp_region_still_tail 7 (by kernel_rfl) (by kernel_rfl) ?_
      simp only [List.take_succ_cons, List.take_zero, List.drop_succ_cons, List.drop_zero]
      iterate 4 still_step
      still_call (HYL.out _)
      iterate 2 still_step
      refine wpStill_nil ?_
      clear c0 c1 c2
      go_wp2_with fail
      go_roundw
      case rel => exact ⟨z + 1, D - ylen z, by omega, by have := HLT.out; omega, HE2, HX4, HZ4⟩
      case measure =>
        have q1 := cellI_of HZ4.out.three.1
        have q2 := cellI_of HZ.out.three.1
        show (y - cellI (World.drew (World.setCell (World.setCell W2 ⟨w.heap.size + 1, 2, none⟩ (.int .i64 (D - ylen z))) ⟨w.heap.size + 1, 0, none⟩ (.int .i64 (z + 1)))) (w.heap.size + 1) 0).toNat < (y - cellI wr (w.heap.size + 1) 0).toNat
        rw [q1, q2]
        have := HLT.out
        omega
    · obtain rfl : z = y := by omega
      have hgt : ¬ ylen z < D := by have h2 := H.out.1.2.2.2; omega
      clear hlt hsc hsz
      go_wp2_with fail
      go_quiet ((go_at_call 96; exact Calls.quiet_of_same (year_q _ _)))
      have HX2 := hid (HX.out.drwN nq)
      have HZ2 := hid (HZ.out.drwN nq)
      generalize World.drewN wr nq = W2 at *
      go_wp2_with fail
      have HL := hid (show n - soY z = D - 1 by omega)
      go_loopw [29] (fun _ wr => ∃ k E : Int, 1 ≤ k ∧ k ≤ m ∧ Hid (dB z k + E - 1 = D - 1) ∧ Hid (Bx w wr w.heap.size 61 #[.int .i64 0, .int .i64 0, .int .i64 0]) ∧ Hid (Bx w wr (w.heap.size + 1) 61 #[.int .i64 z, .int .i64 k, .int .i64 E])) (fun _ wr => (m - cellI wr (w.heap.size + 1) 1).toNat)
      case atStart => exact ⟨1, D, by omega, H.out.2.1, by show dB z 1 + D - 1 = D - 1; rw [dB_1]; omega, HX2, HZ2⟩
      case round =>
        obtain ⟨k, E, k1, k2, HEk, HXk, HZk⟩ := hrel
        have hEk := HEk.out
        have hml := mlen_pos z k
        have k3 : k ≤ 12 := by have := H.out.2.2.1; omega
        have hbk := dB_bd (y := z) (m := k) k1 (by omega)
        have hmk := dB_succ (y := z) k1 k3
        have hLd := isDate_le H.out
        have hLq := HL.out
        have hEb : 0 ≤ E ∧ E ≤ 400 := by
          have h1 := dB_le (y := z) (m := k) (k := m) k1 k2 (by have := H.out.2.2.1; omega)
          have h2 := (dB_bd (y := z) (m := m + 1) (by have := H.out.2.1; omega) (by have := H.out.2.2.1; omega)).2
          omega
        have P1 := hid k1
        have P2 := hid k3
        by_cases hk : k < m
        · have hgk : mlen z k < E := by
            have h1 := dB_le (y := z) (m := k + 1) (k := m) (by omega) (by omega) (by have := H.out.2.2.1; omega)
            omega
          have HLT := hid hk
          have hwr : IntKind.i64.wrap (E - mlen z k) = E - mlen z k := IntWalk.i64_in _ ⟨by omega, by omega⟩
          have HYL := hid (fun W => days_q z k W k1 k3)
          have HE2 := hid (show dB z (k + 1) + (E - mlen z k) - 1 = D - 1 by omega)
          obtain ⟨c0, c1, c2⟩ := HZk.out.three
          clear hEk hml hbk hmk hLd hLq hk
          go_wp2_with fail
          go_quiet ((go_at_call 97; exact Calls.quiet_of_same (days_q _ _ _ P1.out P2.out)))
          have HX5 := hid (HXk.out.drwN nq)
          have HZ5 := hid (HZk.out.drwN nq)
          generalize World.drewN wr nq = W5 at *
          obtain ⟨e0, e1, e2⟩ := HZ5.out.three
          have f2 := HZ5.out.frz 2
          have f1 := HZ5.out.frz 1
          have HX6 := hid (((HX5.out.other (show w.heap.size ≠ w.heap.size + 1 by omega) (Nat.le_succ _) 2 (.int .i64 (E - mlen z k))).other (show w.heap.size ≠ w.heap.size + 1 by omega) (Nat.le_succ _) 1 (.int .i64 (k + 1))).dr1)
          have HZ6 := hid (((HZ5.out.set 2 (.int .i64 (E - mlen z k)) (ms := #[.int .i64 z, .int .i64 k, .int .i64 (E - mlen z k)]) rfl).set 1 (.int .i64 (k + 1)) (ms := #[.int .i64 z, .int .i64 (k + 1), .int .i64 (E - mlen z k)]) rfl).dr1)
          go_wp2_with fail
          refine wp_region_still_tail 9 (by kernel_rfl) (by kernel_rfl) ?_
          simp only [List.take_succ_cons, List.take_zero, List.drop_succ_cons, List.drop_zero]
          iterate 6 still_step
          still_call (HYL.out _)
          iterate 2 still_step
          refine wpStill_nil ?_
          clear c0 c1 c2
          go_wp2_with fail
          go_roundw
          case rel => exact ⟨k + 1, E - mlen z k, by have := P1.out; omega, by have := HLT.out; omega, HE2, HX6, HZ6⟩
          case measure =>
            have q1 := cellI_of HZ6.out.three.2.1
            have q2 := cellI_of HZk.out.three.2.1
            show (m - cellI (World.drew (World.setCell (World.setCell W5 ⟨w.heap.size + 1, 2, none⟩ (.int .i64 (E - mlen z k))) ⟨w.heap.size + 1, 1, none⟩ (.int .i64 (k + 1)))) (w.heap.size + 1) 1).toNat < (m - cellI wr (w.heap.size + 1) 1).toNat
            rw [q1, q2]
            have := HLT.out
            omega
        · obtain rfl : k = m := by omega
          have hgk : ¬ mlen z k < E := by omega
          have hEd : E = d := by have := H.out.2.2.2.2.2; omega
          subst hEd
          obtain ⟨c0, c1, c2⟩ := HZk.out.three
          clear hEk hml hbk hmk hLd hLq hk
          go_wp2_with fail
          go_quiet ((go_at_call 97; exact Calls.quiet_of_same (days_q _ _ _ P1.out P2.out)))
          have HX5 := HXk.out.drwN nq
          have HZ5 := HZk.out.drwN nq
          generalize World.drewN wr nq = W5 at *
          obtain ⟨e0, e1, e2⟩ := HZ5.three
          obtain ⟨g0, g1, g2⟩ := HX5.three
          have f0 := HX5.frz 0
          have f1 := HX5.frz 1
          have f2 := HX5.frz 2
          have HQ := hid (HX5.put3 (.int .i64 z) (.int .i64 k) (.int .i64 E))
          go_wp2_with fail
          obtain ⟨x0, x1, x2⟩ := HQ.out.three
          exact bodyPost_ret (v := .tuple #[.agg #[.int .i64 z, .int .i64 k, .int .i64 E], .int .i64 0]) (by simp [results, Tryd.results74, go_sem, x0, x1, x2]) rfl ⟨rfl, HQ.out.low⟩
end Go.Proofs.YtmhkgpcnefcjaaaDoor
