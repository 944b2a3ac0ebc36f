/- Walk of RetortRecords. -/
import Derived.Test.YtpkcnojcklmhmaaXh
import Derived.Test.YtpkcnojcklmhmaaXi
namespace Go.Proofs.Ytpkcnojcklmhmaa
open Go.RowKit

/-- What is told of a record. -/
structure RecOk (m : Nat) (P : Nat → St) (n : Nat) (N : Nat) (r : Nat → Rd) : Prop where
  m1 : 1 ≤ m ∧ m ≤ 16
  le : N ≤ 2000
  ok : recB m P N r = true
  wh : wholeB m P N r = true
  vt : ∀ i, i < m → VentOk P N r i
  bt : ∀ k, k < N → (r k).b ≤ (r k).t
  sd : (n = 0 ∧ ∀ i, i < m → (P i).k = 3 → 0 < i ∧ (P (i - 1)).k = 2 ∧ (P (i - 1)).s = (P i).s) → devL P r N = []
theorem run_rec (s : ByteArray) (h c v p ch : Int) (u : Value) (m : Nat) (P : Nat → St) (z : Value) (n : Nat) (q : Nat → Tri) (T : Int) (hs : s.size ≤ maxLen) :
    ∃ (Z : Ld) (N : Nat) (E : Int) (r : Nat → Rd),
      (∀ w, RowP w u m P → RowT w z n q → Calls Try.prog 37 #[.agg #[.string s, .int .i64 h, .int .i64 c, .int .i64 v, .int .i64 p, .int .i64 ch], u, z, .agg #[.int .i64 0, .int .i64 0, .int .i64 0, .int .i64 T, .int .i64 1000]] w (RunG Z N E r w)) ∧
      (E ≠ 0 ∨ (E = 0 ∧ RecOk m P n N r)) := by
  cases hg : goodB s h c v p ch m P n q ⟨0, 0, 0, T, 1000⟩
  · refine ⟨⟨0, 0, 0, 0, 0⟩, 0, 1, fun _ => ⟨0, 0, 0, 0⟩, fun w hp hq => ?_, .inl (by decide)⟩
    exact (run_bad ⟨s, h, c, v, p, ch, m, P, n, q⟩ ⟨0, 0, 0, T, 1000⟩ u z w hs hp hq hg).mono fun e w' h => runG_bad h
  · obtain ⟨K, hK⟩ := Jb.stops_ex ⟨s, h, c, v, p, ch, m, P, n, q⟩ ⟨0, 0, 0, T, 1000⟩
    have f1 := fun (w : World) (hp : RowP w u m P) (hq : RowT w z n q) => (run_job ⟨s, h, c, v, p, ch, m, P, n, q⟩ ⟨0, 0, 0, T, 1000⟩ u z w K hs hp hq hg hK).mono fun e w' h => runG_of h
    refine ⟨_, _, _, _, f1, ?_⟩
    obtain ⟨hJ, hx⟩ := Jb.ok_of (J := ⟨s, h, c, v, p, ch, m, P, n, q⟩) (x := ⟨0, 0, 0, T, 1000⟩) hs hg
    by_cases hfin : (Jb.lds ⟨s, h, c, v, p, ch, m, P, n, q⟩ ⟨0, 0, 0, T, 1000⟩ K).step = (m : Int)
    · right
      have hE := Jb.end_done (J := ⟨s, h, c, v, p, ch, m, P, n, q⟩) hfin K
      have hB : Beg ⟨s, h, c, v, p, ch, m, P, n, q⟩ ⟨0, 0, 0, T, 1000⟩ K := ⟨hJ, hx, hK, rfl, rfl, hfin⟩
      refine ⟨hE.1, ?_⟩
      rw [hE.2.2]
      exact ⟨hJ.m, hK.le, hB.recd, hB.whole, hB.vented, fun k hk => hB.bath hk, fun hs => hB.steady hs K (Nat.le_refl _)⟩
    · left
      by_cases ht : (Jb.lds ⟨s, h, c, v, p, ch, m, P, n, q⟩ ⟨0, 0, 0, T, 1000⟩ K).tick = 100000000
      · rw [(Jb.end_late (J := ⟨s, h, c, v, p, ch, m, P, n, q⟩) hfin ht K).1]; decide
      · rw [(Jb.end_none (J := ⟨s, h, c, v, p, ch, m, P, n, q⟩) hfin ht K).1]; decide
theorem VentV.yes {m : Nat} {p : Nat → St} {n : Nat} {r : Nat → Rd} {b : Bool} {c : Int} (h : VentV m p n r b c) (h1 : recB m p n r = true) (h2 : ∀ i, i < m → VentOk p n r i) : b = true ∧ c = 0 := by
  rcases h with ⟨g, _, _⟩ | ⟨_, rfl, rfl, _⟩ | ⟨_, _, _, i, hi, g⟩
  · rw [h1] at g; cases g
  · exact ⟨rfl, rfl⟩
  · exact absurd (h2 i hi) g
set_option maxRecDepth 100000 in
set_option maxHeartbeats 8000000 in
theorem records_walk (s : ByteArray) (h c v p ch : Int) (u : Value) (m : Nat) (P : Nat → St) (z : Value) (n : Nat) (q : Nat → Tri) (t st g tc ai : Int) (T : Int) (w : World) (hs : s.size ≤ maxLen) (hp : RowP w u m P) (hq : RowT w z n q) (wx : (Lit.int .i64 T).wf = true) :
    Calls Try.prog 9 #[.agg (jobA s h c v p ch u z t st g tc ai), .int .i64 T] w fun e w' => e = .returned (.bool true) ∧ Below w.heap.size w w' := by
  clear wx
  unfold jobA
  have HP := hid (fun w1 (g : Below w.heap.size w w1) => (show RowP w1 u m P from RowT.keep hp g))
  have HQ := hid (fun w1 (g : Below w.heap.size w w1) => hq.keep g)
  obtain ⟨pa, pc, rfl⟩ := RowT.shape hp
  obtain ⟨qa, qc, rfl⟩ := hq.shape
  have HPW := hid hp
  have hmm := RowT.most hp
  unfold maxLen at hmm
  obtain ⟨Z, N, E, r, hC1, hE⟩ := run_rec s h c v p ch (.slice pa m pc) m P (.slice qa n qc) n q T hs
  have C1 := hid hC1
  clear hp hq hs hC1
  have HV := hid (vj_start (w := w) (J := #[.string s, .int .i64 h, .int .i64 c, .int .i64 v, .int .i64 p, .int .i64 ch, .slice pa m pc, .slice qa n qc, .int .i64 t, .int .i64 st, .int .i64 g, .int .i64 tc, .int .i64 ai]))
  obtain ⟨j0, j1, j2, j3, j4, j5, j6, j7, j8, j9, j10, j11, j12⟩ := HV.out.cells
  cases hbr : (decide (m ≤ 40) && decide (n ≤ 40))
  · go_enter Try.func9, Try.ntmps9
    go_wp2_with fail
    refine (vbrief_any _ _ _ _ _ _ _ _ _ _ _ _ _ _ _ _ _ _).mono ?_
    rintro e w1 ⟨rfl, hb⟩
    rw [hbr]
    have HV := hid (HV.out.keep hb)
    clear hb
    go_wp2_with fail
    refine (vawake_any _).mono ?_
    rintro e w9 ⟨rfl, hb⟩
    have HV := hid (HV.out.keep hb)
    clear hb
    go_wp2_with fail
    go_ret
    exact ⟨rfl, HV.out.low⟩
  cases hT : inB T (-50000) 200000
  · have HB := hid (fun w1 => begin_any T w1)
    rw [show begT T = 0 by unfold begT; rw [hT]; rfl, show begA T = 0 by unfold begA; rw [hT]; rfl, show begE T = 7 by unfold begE; rw [hT]; rfl] at HB
    go_enter Try.func9, Try.ntmps9
    go_wp2_with fail
    refine (vbrief_any _ _ _ _ _ _ _ _ _ _ _ _ _ _ _ _ _ _).mono ?_
    rintro e w1 ⟨rfl, hb⟩
    rw [hbr]
    have HV := hid (HV.out.keep hb)
    clear hb
    go_wp2_with fail
    refine (HB.out _).mono ?_
    rintro e w2 ⟨rfl, hb⟩
    have HV := hid (HV.out.keep hb)
    clear hb
    go_wp2_with (refine wpList_store_row rfl 57 _ _ rfl w2.heap.size (ldA ⟨0, 0, 0, 0, 0⟩) rfl rfl 57 _ (heap_alloc_new w2 _) (infoLd _) (by rfl) (ldA_one _) ?_; generalize hW : World.setRow _ _ _ = W3; have H3 := hid (new_row hW); clear hW)
    have HV := hid (HV.out.keep H3.out.2.1)
    refine (vawake_any _).mono ?_
    rintro e w9 ⟨rfl, hb⟩
    have HV := hid (HV.out.keep hb)
    clear hb
    go_wp2_with fail
    go_ret
    exact ⟨rfl, HV.out.low⟩
  have HB := hid (fun w1 => begin_any T w1)
  rw [show begT T = T by unfold begT; rw [hT]; rfl, show begA T = 1000 by unfold begA; rw [hT]; rfl, show begE T = 0 by unfold begE; rw [hT]; rfl] at HB
  go_enter Try.func9, Try.ntmps9
  go_wp2_with fail
  refine (vbrief_any _ _ _ _ _ _ _ _ _ _ _ _ _ _ _ _ _ _).mono ?_
  rintro e w1 ⟨rfl, hb⟩
  rw [hbr]
  have HV := hid (HV.out.keep hb)
  clear hb
  go_wp2_with fail
  refine (HB.out _).mono ?_
  rintro e w2 ⟨rfl, hb⟩
  have HV := hid (HV.out.keep hb)
  clear hb j0 j1 j2 j3 j4 j5 j6 j7 j8 j9 j10 j11 j12
  go_wp2_with (refine wpList_store_row rfl 57 _ _ rfl w2.heap.size (ldA ⟨0, 0, 0, T, 1000⟩) rfl rfl 57 _ (heap_alloc_new w2 _) (infoLd _) (by rfl) (ldA_one _) ?_; generalize hW : World.setRow _ _ _ = W3; have H3 := hid (new_row hW); clear hW; have HV := hid (HV.out.keep H3.out.2.1); obtain ⟨j0, j1, j2, j3, j4, j5, j6, j7, j8, j9, j10, j11, j12⟩ := HV.out.cells; have p0 := cell_of_row _ _ 0 _ _ _ H3.out.1; have p1 := cell_of_row _ _ 1 _ _ _ H3.out.1; have p2 := cell_of_row _ _ 2 _ _ _ H3.out.1; have p3 := cell_of_row _ _ 3 _ _ _ H3.out.1; have p4 := cell_of_row _ _ 4 _ _ _ H3.out.1; simp only [ldA, List.getElem?_toArray, List.getElem?_cons_zero, List.getElem?_cons_succ] at p0 p1 p2 p3 p4)
  refine (C1.out _ (HP.out _ HV.out.low) (HQ.out _ HV.out.low)).mono ?_
  rintro e w4 ⟨a1, c1, rfl, hr1, hb⟩
  have HV := hid (HV.out.keep hb)
  have HR1 := hid hr1
  clear hb hr1 j0 j1 j2 j3 j4 j5 j6 j7 j8 j9 j10 j11 j12 p0 p1 p2 p3 p4 H3
  rcases hE with hE | ⟨rfl, hE⟩
  · have hE' : (E != 0) = true := by simpa using hE
    clear hE
    go_wp2_with (refine wpList_store_row rfl 57 _ _ rfl w4.heap.size (ldA Z) rfl rfl 57 _ (heap_alloc_new w4 _) (infoLd _) (by rfl) (ldA_one _) ?_; generalize hW : World.setRow _ _ _ = W5; have H5 := hid (new_row hW); clear hW)
    have HV := hid (HV.out.keep H5.out.2.1)
    refine (vawake_any _).mono ?_
    rintro e w9 ⟨rfl, hb⟩
    have HV := hid (HV.out.keep hb)
    clear hb
    go_wp2_with fail
    go_ret
    exact ⟨rfl, HV.out.low⟩
  have HE := hid hE
  clear hE
  go_wp2_with (refine wpList_store_row rfl 57 _ _ rfl w4.heap.size (ldA Z) rfl rfl 57 _ (heap_alloc_new w4 _) (infoLd _) (by rfl) (ldA_one _) ?_; generalize hW : World.setRow _ _ _ = W5; have H5 := hid (new_row hW); clear hW; have HV := hid (HV.out.keep H5.out.2.1); have HR1 := hid (HR1.out.keep H5.out.2.1); obtain ⟨j0, j1, j2, j3, j4, j5, j6, j7, j8, j9, j10, j11, j12⟩ := HV.out.cells)
  refine (vvent_any _ _ _ _ _ _ _ (HP.out _ HV.out.low) HR1.out).mono ?_
  rintro e w6 ⟨b6, c6, rfl, hv6, hb⟩
  obtain ⟨rfl, rfl⟩ := hv6.yes HE.out.ok HE.out.vt
  have HV := hid (HV.out.keep hb)
  have HR1 := hid (HR1.out.keep hb)
  clear hb hv6 j0 j1 j2 j3 j4 j5 j6 j7 j8 j9 j10 j11 j12
  obtain ⟨j0, j1, j2, j3, j4, j5, j6, j7, j8, j9, j10, j11, j12⟩ := HV.out.cells
  go_wp2_with fail
  refine (dev_any _ _ _ _ _ _ _ (HP.out _ HV.out.low) HR1.out).mono ?_
  rintro e w7 ⟨v7, l, c7, rfl, hl7, hr7, hb⟩
  obtain ⟨hc7, hl⟩ : c7 = 0 ∧ l = devL P r N := by
    rcases hl7 with ⟨_, h1, h2⟩ | ⟨h0, _, _⟩
    · exact ⟨h1, h2⟩
    · rw [HE.out.ok] at h0; cases h0
  subst hc7
  have HL := hid hl
  have HV := hid (HV.out.keep hb)
  have HR1 := hid (HR1.out.keep hb)
  obtain ⟨da, dc, rfl⟩ := RowT.shape hr7
  clear hb hl7 hl hr7 j0 j1 j2 j3 j4 j5 j6 j7 j8 j9 j10 j11 j12
  obtain ⟨j0, j1, j2, j3, j4, j5, j6, j7, j8, j9, j10, j11, j12⟩ := HV.out.cells
  have HB0 := hid HV.out.low
  go_wp2_with (first
    | (go_at_call 43; refine (vrec_any _ _ _ _ _ _ _ (HP.out _ HV.out.low) HR1.out).mono ?_; rintro e w8 ⟨rfl, hb⟩; rw [HE.out.ok]; have HV := hid (HV.out.keep hb); have HR1 := hid (HR1.out.keep hb); clear hb j0 j1 j2 j3 j4 j5 j6 j7 j8 j9 j10 j11 j12; obtain ⟨j0, j1, j2, j3, j4, j5, j6, j7, j8, j9, j10, j11, j12⟩ := HV.out.cells)
    | (go_at_call 44; refine (vwhole_any _ _ _ _ _ _ _ (HP.out _ HV.out.low) HR1.out).mono ?_; rintro e w9 ⟨rfl, hb⟩; rw [HE.out.wh]; have HV := hid (HV.out.keep hb); have HR1 := hid (HR1.out.keep hb); clear hb j0 j1 j2 j3 j4 j5 j6 j7 j8 j9 j10 j11 j12; obtain ⟨j0, j1, j2, j3, j4, j5, j6, j7, j8, j9, j10, j11, j12⟩ := HV.out.cells))
  have HNL := hid HE.out.le
  go_loopw [14] (fun i wr => ∃ k : Nat, k ≤ N ∧ i = .int .i64 (k : Int) ∧ Hid (Below w9.heap.size w9 wr)) (fun i _ => N - (intOf i).toNat)
  case atStart => exact ⟨0, Nat.zero_le _, rfl, Below.refl _ _⟩
  case round =>
    obtain ⟨k, hk, rfl, HBW⟩ := hrel
    have hnl := HNL.out
    by_cases hlt : k < N
    · have hlt' : (k : Int) < N := by omega
      obtain ⟨a', b', o', cap', hv, _, _, ha', hcell⟩ := HR1.out.keep HBW.out
      injection hv with hv1 hv2 hv3
      subst hv1 hv3
      rcases ha' with h0 | rfl
      · omega
      obtain ⟨x0, x1, x2, x3⟩ := hcell k hlt
      have hbt := HE.out.bt k hlt
      generalize (r k).b = rb at hbt x3
      generalize (r k).t = rt at hbt x1
      have hng : decide (rt < rb) = false := by simp; omega
      clear hcell hv2 j0 j1 j2 j3 j4 j5 j6 j7 j8 j9 j10 j11 j12
      go_wp2
      go_quiet (fail)
      go_wp2
      go_roundw
      case rel => exact ⟨k + 1, by omega, by go_num, (by first | exact bdrewN HBW.out | exact HBW.out.drew)⟩
      case measure => simp [intOf]; omega
    · obtain rfl : k = N := by omega
      have HV := hid (HV.out.keep HBW.out)
      clear j0 j1 j2 j3 j4 j5 j6 j7 j8 j9 j10 j11 j12
      obtain ⟨j0, j1, j2, j3, j4, j5, j6, j7, j8, j9, j10, j11, j12⟩ := HV.out.cells
      go_wp2
      go_loopw [15, 16] (fun b i wq => ∃ i0 : Nat, i0 ≤ m ∧ i = .int .i64 (i0 : Int) ∧ ∃ b0 : Bool, b = .bool b0 ∧ Hid (b0 = true → n = 0 ∧ ∀ j, j < i0 → (P j).k = 3 → 0 < j ∧ (P (j - 1)).k = 2 ∧ (P (j - 1)).s = (P j).s) ∧ Hid (Below wr.heap.size wr wq)) (fun _ i _ => m - (intOf i).toNat)
      case atStart => exact ⟨0, Nat.zero_le _, rfl, _, rfl, hid (fun h => ⟨by simpa using h, fun j hj => absurd hj (Nat.not_lt_zero _)⟩), Below.refl _ _⟩
      case round =>
        rename_i wq
        obtain ⟨i, hi, rfl, b0, rfl, HS, HB2⟩ := hrel
        have HV2 := hid (HV.out.keep HB2.out)
        clear j0 j1 j2 j3 j4 j5 j6 j7 j8 j9 j10 j11 j12
        obtain ⟨j0, j1, j2, j3, j4, j5, j6, j7, j8, j9, j10, j11, j12⟩ := HV2.out.cells
        by_cases hlt2 : i < m
        · have hlt2' : (i : Int) < m := by omega
          obtain ⟨a', b', o', cap', hv, _, _, ha', hcell⟩ := (show RowP _ _ _ _ from HP.out _ HV2.out.low)
          injection hv with hv1 hv2 hv3
          subst hv1 hv3
          rcases ha' with h0 | rfl
          · omega
          obtain ⟨d0, d1, d2⟩ := hcell i hlt2
          simp only at d0 d1 d2
          by_cases k3 : (P i).k = 3
          · have k3' : ((P i).k == 3) = true := by simpa using k3
            rcases Nat.eq_zero_or_pos i with hi0 | hpos
            · subst hi0
              clear hcell hv2
              simp only [Nat.zero_mul, Nat.add_zero] at d0 d1 d2
              rw [show ((0 : Nat) : Int) = 0 from rfl] at hlt2' ⊢
              go_wp2
              go_quiet (fail)
              go_wp2
              go_roundw
              case rel => exact ⟨0 + 1, by omega, by go_num, false, rfl, hid (fun h => by cases h), (by first | exact bdrewN HB2.out | exact HB2.out.drew)⟩
              case measure => simp [intOf]; omega
            · obtain ⟨i1, rfl⟩ : ∃ i1, i = i1 + 1 := ⟨i - 1, by omega⟩
              obtain ⟨e0, e1, e2⟩ := hcell i1 (by omega)
              simp only at e0 e1 e2
              have fz : (((i1 : Int) + 1) == 0) = false := by simp; omega
              by_cases k2 : (P i1).k = 2
              · have k2' : ((P i1).k != 2) = false := by simpa using k2
                by_cases ss : (P i1).s = (P (i1 + 1)).s
                · have HS2 : Hid (b0 = true → n = 0 ∧ ∀ j, j < i1 + 1 + 1 → (P j).k = 3 → 0 < j ∧ (P (j - 1)).k = 2 ∧ (P (j - 1)).s = (P j).s) := hid (fun hb => ⟨(HS.out hb).1, fun j hj hj3 => by
                    rcases Nat.lt_or_ge j (i1 + 1) with g1 | g1
                    · exact (HS.out hb).2 j g1 hj3
                    · obtain rfl : j = i1 + 1 := by omega
                      exact ⟨by omega, by rw [Nat.add_sub_cancel]; exact k2, by rw [Nat.add_sub_cancel]; exact ss⟩⟩)
                  have ss' : ((P i1).s != (P (i1 + 1)).s) = false := by simpa using ss
                  generalize (P i1).k = y0 at e0 k2'
                  generalize (P i1).s = y1 at e1 ss'
                  generalize (P (i1 + 1)).k = y2 at d0 k3'
                  generalize (P (i1 + 1)).s = y3 at d1 ss'
                  clear hcell hv2 k2 ss k3
                  go_wp2
                  go_quiet (fail)
                  go_wp2
                  go_roundw
                  case rel => exact ⟨i1 + 1 + 1, by omega, by go_num, b0, rfl, HS2, (by first | exact bdrewN HB2.out | exact HB2.out.drew)⟩
                  case measure => simp [intOf]; omega
                · have ss' : ((P i1).s != (P (i1 + 1)).s) = true := by simpa using ss
                  generalize (P i1).k = y0 at e0 k2'
                  generalize (P i1).s = y1 at e1 ss'
                  generalize (P (i1 + 1)).k = y2 at d0 k3'
                  generalize (P (i1 + 1)).s = y3 at d1 ss'
                  clear hcell hv2 k2 ss k3
                  go_wp2
                  go_quiet (fail)
                  go_wp2
                  go_roundw
                  case rel => exact ⟨i1 + 1 + 1, by omega, by go_num, false, rfl, hid (fun h => by cases h), (by first | exact bdrewN HB2.out | exact HB2.out.drew)⟩
                  case measure => simp [intOf]; omega
              · have k2' : ((P i1).k != 2) = true := by simpa using k2
                generalize (P i1).k = y0 at e0 k2'
                generalize (P (i1 + 1)).k = y2 at d0 k3'
                clear hcell hv2 k2 k3
                go_wp2
                go_quiet (fail)
                go_wp2
                go_roundw
                case rel => exact ⟨i1 + 1 + 1, by omega, by go_num, false, rfl, hid (fun h => by cases h), (by first | exact bdrewN HB2.out | exact HB2.out.drew)⟩
                case measure => simp [intOf]; omega
          · have k3' : ((P i).k == 3) = false := by simpa using k3
            have HS2 : Hid (b0 = true → n = 0 ∧ ∀ j, j < i + 1 → (P j).k = 3 → 0 < j ∧ (P (j - 1)).k = 2 ∧ (P (j - 1)).s = (P j).s) := hid (fun hb => ⟨(HS.out hb).1, fun j hj hj3 => by
              rcases Nat.lt_or_ge j i with g1 | g1
              · exact (HS.out hb).2 j g1 hj3
              · obtain rfl : j = i := by omega
                exact absurd hj3 k3⟩)
            generalize (P i).k = y2 at d0 k3'
            clear hcell hv2 k3
            go_wp2
            go_quiet (fail)
            go_wp2
            go_roundw
            case rel => exact ⟨i + 1, by omega, by go_num, b0, rfl, HS2, (by first | exact bdrewN HB2.out | exact HB2.out.drew)⟩
            case measure => simp [intOf]; omega
        · obtain rfl : i = m := by omega
          cases b0
          · go_wp2_with (go_at_call 36; refine (vawake_any _).mono ?_; rintro e wz ⟨rfl, hbz⟩; have HBZ := hid hbz; clear hbz)
            go_ret
            exact ⟨rfl, bstep HV2.out.low HV2.out.low.size HBZ.out⟩
          · have hl0 : l = [] := by rw [HL.out]; exact HE.out.sd (HS.out rfl)
            have hll : ((l.length : Int) == 0) = true := by rw [hl0]; rfl
            go_wp2_with (go_at_call 36; refine (vawake_any _).mono ?_; rintro e wz ⟨rfl, hbz⟩; have HBZ := hid hbz; clear hbz)
            go_ret
            exact ⟨rfl, bstep HV2.out.low HV2.out.low.size HBZ.out⟩
end Go.Proofs.Ytpkcnojcklmhmaa
