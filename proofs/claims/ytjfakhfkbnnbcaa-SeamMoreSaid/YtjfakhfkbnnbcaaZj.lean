/- Walk of the reference's Overdue: contract. -/
import Derived.Test.YtjfakhfkbnnbcaaP7
namespace Go.Proofs.Ytjfakhfkbnnbcaa
open Go.RowKit

/-- The error of Overdue. -/
def ovC (l : List Sh) (hd ev b E : Int) : Int := if shsB l then (if rangesB hd b E && inB ev 1 100000000 then 0 else 7) else 1
def OvP (l : List Sh) (hd ev b E : Int) (w : World) (e : Ending) (w' : World) : Prop := ∃ u m, e = .returned (.tuple #[u, .int .i64 (ovC l hd ev b E)]) ∧ OwnX w' w.heap.size 68 u m ∧ Below w.heap.size w w' ∧ (ovC l hd ev b E = 0 → Uni m (gapsN ev b E l hd.toNat)) ∧ (ovC l hd ev b E ≠ 0 → m = [])
theorem uni_neL {u l : List Pr} (h : Uni u (neL l)) : Uni u l := ⟨h.can, fun t => (h.same t).trans neL_in, Nat.le_trans h.few (neL_len l)⟩
theorem shs_ticks {l : List Sh} (h : shsB l = true) : ∀ k (hk : k < l.length), 0 ≤ l[k].tk ∧ l[k].tk ≤ 100000000 := by
  intro k hk
  unfold shsB at h
  simp only [Bool.and_eq_true, decide_eq_true_iff] at h
  have h1 := allB_iff.1 h.2 k hk
  unfold oneS at h1
  simp only [Bool.and_eq_true] at h1
  have e : l.getD k shD = l[k] := by simp [List.getD, hk]
  rw [e] at h1
  have h2 := h1.1
  unfold shB at h2
  simp only [Bool.and_eq_true, inB_iff] at h2
  omega
theorem RowH.at {w : World} {b o n c k : Nat} {l : List Sh} (h : RowH w (.slice (some ⟨b, o, none⟩) n c) l) (hk : k < l.length) : ShAt w b (o + k * 10) l[k] := by
  obtain ⟨b', o', e, hat⟩ := h.get (by omega)
  injection e with e
  injection e with e1 e2
  subst e1 e2
  exact hat k hk
theorem ov_no {l : List Sh} {hd ev b E : Int} {w w' : World} {c : Int} (hc : ovC l hd ev b E = c) (h0 : c ≠ 0) (hb : Below w.heap.size w w') : OvP l hd ev b E w (.returned (.tuple #[.slice none 0 0, .int .i64 c])) w' :=
  ⟨_, [], by rw [hc], ownX_nil _ _ _, hb, fun h => absurd (hc.symm.trans h) h0, fun _ => rfl⟩
set_option maxRecDepth 20000 in
set_option maxHeartbeats 16000000 in
theorem xover_any (v : Value) (l : List Sh) (hd ev b E : Int) (w : World) (hr : RowH w v l) (hl : l.length ≤ 200) : Calls Try.prog 21 #[v, .int .i64 hd, .int .i64 ev, .int .i64 b, .int .i64 E] w (OvP l hd ev b E w) := by
  obtain ⟨i0, hi, hz0, hz1, hz2⟩ := infoX_parts
  have HR := hid (fun w1 (g : Below w.heap.size w w1) => hr.keep g)
  have HC := hid (kxsheets_any v l w hr)
  obtain ⟨va, vc, rfl⟩ := hr.shape
  clear hr
  obtain ⟨A, hA⟩ : ∃ A, shsB l = A := ⟨_, rfl⟩
  obtain ⟨B, hB⟩ : ∃ B, rangesB hd b E = B := ⟨_, rfl⟩
  obtain ⟨D, hD⟩ : ∃ D, inB ev 1 100000000 = D := ⟨_, rfl⟩
  have HRG := hid (fun w1 => ranges_any hd b E w1)
  have HWI := hid (fun w1 => kxwithin_any ev 1 100000000 w1)
  have HV := hid (show ovC l hd ev b E = if A then (if B && D then 0 else 7) else 1 by rw [← hA, ← hB, ← hD]; rfl)
  rw [hA] at HC
  rw [hB] at HRG
  rw [hD] at HWI
  cases A
  · clear hA hB hD
    go_enter Try.func21, Try.ntmps21
    go_wp2_with fail
    refine HC.out.mono ?_
    rintro e w1 ⟨rfl, hb⟩
    have HB1 := hid hb
    clear hb
    go_wp2_with fail
    refine bodyPost_ret (v := .tuple #[.slice none 0 0, .int .i64 1]) (by simp [results, Try.results21, go_sem]) rfl ?_
    exact ov_no (by rw [HV.out]; rfl) (by decide) HB1.out
  cases B
  · clear hA hB hD
    go_enter Try.func21, Try.ntmps21
    go_wp2_with fail
    refine HC.out.mono ?_
    rintro e w1 ⟨rfl, hb⟩
    have HB1 := hid hb
    clear hb
    go_wp2_with fail
    refine (HRG.out _).mono ?_
    rintro e w2 ⟨rfl, rfl⟩
    go_wp2_with fail
    refine bodyPost_ret (v := .tuple #[.slice none 0 0, .int .i64 7]) (by simp [results, Try.results21, go_sem]) rfl ?_
    exact ov_no (by rw [HV.out]; rfl) (by decide) HB1.out
  cases D
  · clear hA hB hD
    go_enter Try.func21, Try.ntmps21
    go_wp2_with fail
    refine HC.out.mono ?_
    rintro e w1 ⟨rfl, hb⟩
    have HB1 := hid hb
    clear hb
    go_wp2_with fail
    refine (HRG.out _).mono ?_
    rintro e w2 ⟨rfl, rfl⟩
    go_wp2_with fail
    refine (HWI.out _).mono ?_
    rintro e w2 ⟨rfl, rfl⟩
    go_wp2_with fail
    refine bodyPost_ret (v := .tuple #[.slice none 0 0, .int .i64 7]) (by simp [results, Try.results21, go_sem]) rfl ?_
    exact ov_no (by rw [HV.out]; rfl) (by decide) HB1.out
  have hE1 := hB
  unfold rangesB at hE1
  rw [Bool.and_eq_true, inB_iff, ranB_iff] at hE1
  obtain ⟨⟨h1, h2⟩, g1, g2, g3⟩ := hE1
  obtain ⟨d1, d2⟩ := inB_iff.1 hD
  have HTK := hid (shs_ticks hA)
  obtain ⟨H, hH⟩ : ∃ H : Nat, (H : Int) = hd := ⟨hd.toNat, by omega⟩
  have hH12 : H ≤ 12 := by omega
  obtain ⟨n, hn⟩ : ∃ n, n = l.length := ⟨_, rfl⟩
  have HN := hid hn
  have hn2 : n ≤ 200 := by omega
  have HHN := hid (show hd.toNat = H by omega)
  rw [← hn] at HR HC ⊢
  clear hA hB hD hl hn
  subst hH
  go_enter Try.func21, Try.ntmps21
  go_wp2_with fail
  refine HC.out.mono ?_
  rintro e w1 ⟨rfl, hb⟩
  have HB1 := hid hb
  clear hb
  go_wp2_with fail
  refine (HRG.out _).mono ?_
  rintro e w2 ⟨rfl, rfl⟩
  go_wp2_with fail
  refine (HWI.out _).mono ?_
  rintro e w3 ⟨rfl, rfl⟩
  go_wp2
  go_loopw [12, 13] (fun a t wr => ∃ k : Nat, k ≤ H ∧ t = .int .i64 ((k : Int) + 1) ∧ Hid (OwnX wr w1.heap.size 68 a (neL (gapsN ev b E l k))) ∧ Hid (Below w1.heap.size w1 wr)) (fun _ t _ => H + 1 - (intOf t).toNat)
  case atStart => exact ⟨0, Nat.zero_le _, rfl, ownX_nil _ _ _, Below.refl _ _⟩
  case round =>
    obtain ⟨k, hk, rfl, hO, hB⟩ := hrel
    by_cases hlt : k < H
    · have hlt' : (k : Int) + 1 ≤ H := by omega
      have hkw : IntKind.i64.wrap ((k : Int) + 1 + 1) = (k : Int) + 1 + 1 := IntWalk.i64_in _ ⟨by omega, by omega⟩
      have HLT := hid hlt
      have HGL := hid (show (gapsN ev b E l k).length ≤ 12 * 201 by
        have := gapsN_len ev b E l k
        have h2 : k * (l.length + 1) ≤ 12 * 201 := Nat.mul_le_mul (by omega) (by have := HN.out; omega)
        omega)
      have HGK := hid (show gapsN ev b E l (k + 1) = gapsN ev b E l k ++ gapL ((k : Int) + 1) ev b E l from rfl)
      clear hlt
      generalize gapsN ev b E l k = G at *
      go_wp2
      go_loopw [12, 14, 15] (fun a f t wr => ∃ i : Nat, i ≤ n + 1 ∧ t = .int .i64 (i : Int) ∧ ∃ fr : Int, f = .int .i64 fr ∧ (i ≤ n → Hid (max fr b = max (gapF ((k : Int) + 1) ev b E (l.take i)).2 b) ∧ Hid (OwnX wr w1.heap.size 68 a (neL (G ++ (gapF ((k : Int) + 1) ev b E (l.take i)).1)))) ∧ (i = n + 1 → Hid (OwnX wr w1.heap.size 68 a (neL (gapsN ev b E l (k + 1))))) ∧ Hid (Below w1.heap.size w1 wr)) (fun _ _ t _ => n + 1 - (intOf t).toNat)
      case atStart => exact ⟨0, Nat.zero_le _, rfl, b, rfl, fun _ => ⟨rfl, by simpa [gapF] using hO⟩, fun h => absurd h (by omega), hB⟩
      case round =>
        clear hO hB
        obtain ⟨i, hin, rfl, fr, rfl, hA1, hA2, hB⟩ := hrel
        by_cases hle : i ≤ n
        · have hle' : (i : Int) ≤ n := by omega
          obtain ⟨HM, HO⟩ := hA1 hle
          have HFL := hid (gapF_len ((k : Int) + 1) ev b E (l.take i))
          have HLE := hid hle
          clear hA1 hA2 hin
          by_cases hlt : i < n
          · have hlt' : (i : Int) < n := by omega
            have hil : i < l.length := by rw [← HN.out]; exact hlt
            obtain ⟨bb, oo, hva, hat⟩ := (HR.out _ (bstep HB1.out HB1.out.size hB.out)).get (by omega)
            subst hva
            have c0 := (hat i hil).1
            have HCK := hid (fun W (g : Below w.heap.size w W) => ((HR.out W g).at hil).1)
            have c1 := (hat i hil).2.1
            have hT := HTK.out i hil
            have HY := hid (fun g => gapF_yes (h := (k : Int) + 1) (ev := ev) (b := b) (E := E) hil g)
            have HNO := hid (fun g => gapF_no (h := (k : Int) + 1) (ev := ev) (b := b) (E := E) hil g)
            have HLI := hid (show (l.take i).length ≤ 200 by rw [List.length_take]; omega)
            generalize gapF ((k : Int) + 1) ev b E (l.take i) = S at *
            generalize l[i].hd = xh at *
            generalize l[i].tk = xt at *
            have HIT := hid hlt
            clear hlt hil hat
            by_cases hx : xh = (k : Int) + 1
            · have HS := hid (HY.out hx)
              subst hx
              have hwt : IntKind.i64.wrap (xt + ev) = xt + ev := IntWalk.i64_in _ ⟨by omega, by omega⟩
              by_cases q1 : E < xt
              · by_cases q2 : fr < b
                · by_cases w0 : b < E
                  · have HLL := hid (show neL (G ++ (S.1 ++ [⟨max S.2 b, min xt E⟩])) = neL (G ++ S.1) ++ neL [⟨b, E⟩] from gap_one (by rw [← HM.out]; omega) (by omega))
                    have HN2 := hid (show (neL (G ++ S.1)).length ≤ 3000 by have h1 := neL_len (G ++ S.1); rw [List.length_append] at h1; have := HGL.out; have := HFL.out; have := HLI.out; omega)
                    rw [neL_one (show (⟨b, E⟩ : Pr).x < (⟨b, E⟩ : Pr).y from w0)] at HLL
                    generalize neL (G ++ S.1) = lo at *
                    obtain ⟨ox, oc, rfl⟩ := ownX_shape HO.out
                    have HOQ := hid (show wr.ownsRow w1.heap.size 68 2 (.slice ox lo.length oc) lo.length (pvs lo) from HO.out)
                    go_wp2_with (at_builtin; refine wpList_append_own _ rfl _ _ 28 rfl w1.heap.size 68 i0 (.agg #[.int .i64 0, .int .i64 0]) 2 16 Try.underlying28 hi hz0 hz1 hz2 rfl (by decide) _ _ _ rfl (World.ownsRow.alloc HOQ.out _) ⟨wr.heap.size, 0, none⟩ 1 1 [.int .i64 b, .int .i64 E] rfl rfl (cell_two_new (by simp)) two_cell1 (by have := HN2.out; unfold maxLen; omega) (by have := HN2.out; omega) (by have := hB.out.size; simp at this ⊢; omega) ?_; intro v1 w5 hown5 hgrow5 _; have HB5 := hid (below_prs hB.out (show OwnX _ _ _ _ lo from HOQ.out) (Nat.le_refl _) hgrow5); have c5 := HCK.out _ (bstep HB1.out HB1.out.size HB5.out); have HR5 := hid (OwnX.app (l := lo) (d := ⟨b, E⟩) hown5); clear hown5 hgrow5)
                    go_roundw
                    case rel => exact ⟨i + 1, by have := HIT.out; omega, by go_num, xt + ev, rfl, fun _ => ⟨(by rw [HS.out]; exact rfl), by rw [HS.out]; show Hid (OwnX _ _ _ _ (neL (G ++ (S.1 ++ [⟨max S.2 b, min xt E⟩])))); rw [HLL.out]; exact HR5⟩, fun h => absurd h (by have := HIT.out; omega), HB5⟩
                    case measure => have := HLE.out; simp [intOf]; omega
                  · have HLL := hid (show neL (G ++ (S.1 ++ [⟨max S.2 b, min xt E⟩])) = neL (G ++ S.1) ++ neL [⟨b, E⟩] from gap_one (by rw [← HM.out]; omega) (by omega))
                    have HN2 := hid (show (neL (G ++ S.1)).length ≤ 3000 by have h1 := neL_len (G ++ S.1); rw [List.length_append] at h1; have := HGL.out; have := HFL.out; have := HLI.out; omega)
                    rw [neL_none (show ¬ (⟨b, E⟩ : Pr).x < (⟨b, E⟩ : Pr).y from w0), List.append_nil] at HLL
                    generalize neL (G ++ S.1) = lo at *
                    go_wp2
                    go_roundw
                    case rel => exact ⟨i + 1, by have := HIT.out; omega, by go_num, xt + ev, rfl, fun _ => ⟨(by rw [HS.out]; exact rfl), by rw [HS.out]; show Hid (OwnX _ _ _ _ (neL (G ++ (S.1 ++ [⟨max S.2 b, min xt E⟩])))); rw [HLL.out]; exact HO⟩, fun h => absurd h (by have := HIT.out; omega), hB⟩
                    case measure => have := HLE.out; simp [intOf]; omega
                · by_cases w0 : fr < E
                  · have HLL := hid (show neL (G ++ (S.1 ++ [⟨max S.2 b, min xt E⟩])) = neL (G ++ S.1) ++ neL [⟨fr, E⟩] from gap_one (by rw [← HM.out]; omega) (by omega))
                    have HN2 := hid (show (neL (G ++ S.1)).length ≤ 3000 by have h1 := neL_len (G ++ S.1); rw [List.length_append] at h1; have := HGL.out; have := HFL.out; have := HLI.out; omega)
                    rw [neL_one (show (⟨fr, E⟩ : Pr).x < (⟨fr, E⟩ : Pr).y from w0)] at HLL
                    generalize neL (G ++ S.1) = lo at *
                    obtain ⟨ox, oc, rfl⟩ := ownX_shape HO.out
                    have HOQ := hid (show wr.ownsRow w1.heap.size 68 2 (.slice ox lo.length oc) lo.length (pvs lo) from HO.out)
                    go_wp2_with (at_builtin; refine wpList_append_own _ rfl _ _ 28 rfl w1.heap.size 68 i0 (.agg #[.int .i64 0, .int .i64 0]) 2 16 Try.underlying28 hi hz0 hz1 hz2 rfl (by decide) _ _ _ rfl (World.ownsRow.alloc HOQ.out _) ⟨wr.heap.size, 0, none⟩ 1 1 [.int .i64 fr, .int .i64 E] rfl rfl (cell_two_new (by simp)) two_cell1 (by have := HN2.out; unfold maxLen; omega) (by have := HN2.out; omega) (by have := hB.out.size; simp at this ⊢; omega) ?_; intro v1 w5 hown5 hgrow5 _; have HB5 := hid (below_prs hB.out (show OwnX _ _ _ _ lo from HOQ.out) (Nat.le_refl _) hgrow5); have c5 := HCK.out _ (bstep HB1.out HB1.out.size HB5.out); have HR5 := hid (OwnX.app (l := lo) (d := ⟨fr, E⟩) hown5); clear hown5 hgrow5)
                    go_roundw
                    case rel => exact ⟨i + 1, by have := HIT.out; omega, by go_num, xt + ev, rfl, fun _ => ⟨(by rw [HS.out]; exact rfl), by rw [HS.out]; show Hid (OwnX _ _ _ _ (neL (G ++ (S.1 ++ [⟨max S.2 b, min xt E⟩])))); rw [HLL.out]; exact HR5⟩, fun h => absurd h (by have := HIT.out; omega), HB5⟩
                    case measure => have := HLE.out; simp [intOf]; omega
                  · have HLL := hid (show neL (G ++ (S.1 ++ [⟨max S.2 b, min xt E⟩])) = neL (G ++ S.1) ++ neL [⟨fr, E⟩] from gap_one (by rw [← HM.out]; omega) (by omega))
                    have HN2 := hid (show (neL (G ++ S.1)).length ≤ 3000 by have h1 := neL_len (G ++ S.1); rw [List.length_append] at h1; have := HGL.out; have := HFL.out; have := HLI.out; omega)
                    rw [neL_none (show ¬ (⟨fr, E⟩ : Pr).x < (⟨fr, E⟩ : Pr).y from w0), List.append_nil] at HLL
                    generalize neL (G ++ S.1) = lo at *
                    go_wp2
                    go_roundw
                    case rel => exact ⟨i + 1, by have := HIT.out; omega, by go_num, xt + ev, rfl, fun _ => ⟨(by rw [HS.out]; exact rfl), by rw [HS.out]; show Hid (OwnX _ _ _ _ (neL (G ++ (S.1 ++ [⟨max S.2 b, min xt E⟩])))); rw [HLL.out]; exact HO⟩, fun h => absurd h (by have := HIT.out; omega), hB⟩
                    case measure => have := HLE.out; simp [intOf]; omega
              · by_cases q2 : fr < b
                · by_cases w0 : b < xt
                  · have HLL := hid (show neL (G ++ (S.1 ++ [⟨max S.2 b, min xt E⟩])) = neL (G ++ S.1) ++ neL [⟨b, xt⟩] from gap_one (by rw [← HM.out]; omega) (by omega))
                    have HN2 := hid (show (neL (G ++ S.1)).length ≤ 3000 by have h1 := neL_len (G ++ S.1); rw [List.length_append] at h1; have := HGL.out; have := HFL.out; have := HLI.out; omega)
                    rw [neL_one (show (⟨b, xt⟩ : Pr).x < (⟨b, xt⟩ : Pr).y from w0)] at HLL
                    generalize neL (G ++ S.1) = lo at *
                    obtain ⟨ox, oc, rfl⟩ := ownX_shape HO.out
                    have HOQ := hid (show wr.ownsRow w1.heap.size 68 2 (.slice ox lo.length oc) lo.length (pvs lo) from HO.out)
                    go_wp2_with (at_builtin; refine wpList_append_own _ rfl _ _ 28 rfl w1.heap.size 68 i0 (.agg #[.int .i64 0, .int .i64 0]) 2 16 Try.underlying28 hi hz0 hz1 hz2 rfl (by decide) _ _ _ rfl (World.ownsRow.alloc HOQ.out _) ⟨wr.heap.size, 0, none⟩ 1 1 [.int .i64 b, .int .i64 xt] rfl rfl (cell_two_new (by simp)) two_cell1 (by have := HN2.out; unfold maxLen; omega) (by have := HN2.out; omega) (by have := hB.out.size; simp at this ⊢; omega) ?_; intro v1 w5 hown5 hgrow5 _; have HB5 := hid (below_prs hB.out (show OwnX _ _ _ _ lo from HOQ.out) (Nat.le_refl _) hgrow5); have c5 := HCK.out _ (bstep HB1.out HB1.out.size HB5.out); have HR5 := hid (OwnX.app (l := lo) (d := ⟨b, xt⟩) hown5); clear hown5 hgrow5)
                    go_roundw
                    case rel => exact ⟨i + 1, by have := HIT.out; omega, by go_num, xt + ev, rfl, fun _ => ⟨(by rw [HS.out]; exact rfl), by rw [HS.out]; show Hid (OwnX _ _ _ _ (neL (G ++ (S.1 ++ [⟨max S.2 b, min xt E⟩])))); rw [HLL.out]; exact HR5⟩, fun h => absurd h (by have := HIT.out; omega), HB5⟩
                    case measure => have := HLE.out; simp [intOf]; omega
                  · have HLL := hid (show neL (G ++ (S.1 ++ [⟨max S.2 b, min xt E⟩])) = neL (G ++ S.1) ++ neL [⟨b, xt⟩] from gap_one (by rw [← HM.out]; omega) (by omega))
                    have HN2 := hid (show (neL (G ++ S.1)).length ≤ 3000 by have h1 := neL_len (G ++ S.1); rw [List.length_append] at h1; have := HGL.out; have := HFL.out; have := HLI.out; omega)
                    rw [neL_none (show ¬ (⟨b, xt⟩ : Pr).x < (⟨b, xt⟩ : Pr).y from w0), List.append_nil] at HLL
                    generalize neL (G ++ S.1) = lo at *
                    go_wp2
                    go_roundw
                    case rel => exact ⟨i + 1, by have := HIT.out; omega, by go_num, xt + ev, rfl, fun _ => ⟨(by rw [HS.out]; exact rfl), by rw [HS.out]; show Hid (OwnX _ _ _ _ (neL (G ++ (S.1 ++ [⟨max S.2 b, min xt E⟩])))); rw [HLL.out]; exact HO⟩, fun h => absurd h (by have := HIT.out; omega), hB⟩
                    case measure => have := HLE.out; simp [intOf]; omega
                · by_cases w0 : fr < xt
                  · have HLL := hid (show neL (G ++ (S.1 ++ [⟨max S.2 b, min xt E⟩])) = neL (G ++ S.1) ++ neL [⟨fr, xt⟩] from gap_one (by rw [← HM.out]; omega) (by omega))
                    have HN2 := hid (show (neL (G ++ S.1)).length ≤ 3000 by have h1 := neL_len (G ++ S.1); rw [List.length_append] at h1; have := HGL.out; have := HFL.out; have := HLI.out; omega)
                    rw [neL_one (show (⟨fr, xt⟩ : Pr).x < (⟨fr, xt⟩ : Pr).y from w0)] at HLL
                    generalize neL (G ++ S.1) = lo at *
                    obtain ⟨ox, oc, rfl⟩ := ownX_shape HO.out
                    have HOQ := hid (show wr.ownsRow w1.heap.size 68 2 (.slice ox lo.length oc) lo.length (pvs lo) from HO.out)
                    go_wp2_with (at_builtin; refine wpList_append_own _ rfl _ _ 28 rfl w1.heap.size 68 i0 (.agg #[.int .i64 0, .int .i64 0]) 2 16 Try.underlying28 hi hz0 hz1 hz2 rfl (by decide) _ _ _ rfl (World.ownsRow.alloc HOQ.out _) ⟨wr.heap.size, 0, none⟩ 1 1 [.int .i64 fr, .int .i64 xt] rfl rfl (cell_two_new (by simp)) two_cell1 (by have := HN2.out; unfold maxLen; omega) (by have := HN2.out; omega) (by have := hB.out.size; simp at this ⊢; omega) ?_; intro v1 w5 hown5 hgrow5 _; have HB5 := hid (below_prs hB.out (show OwnX _ _ _ _ lo from HOQ.out) (Nat.le_refl _) hgrow5); have c5 := HCK.out _ (bstep HB1.out HB1.out.size HB5.out); have HR5 := hid (OwnX.app (l := lo) (d := ⟨fr, xt⟩) hown5); clear hown5 hgrow5)
                    go_roundw
                    case rel => exact ⟨i + 1, by have := HIT.out; omega, by go_num, xt + ev, rfl, fun _ => ⟨(by rw [HS.out]; exact rfl), by rw [HS.out]; show Hid (OwnX _ _ _ _ (neL (G ++ (S.1 ++ [⟨max S.2 b, min xt E⟩])))); rw [HLL.out]; exact HR5⟩, fun h => absurd h (by have := HIT.out; omega), HB5⟩
                    case measure => have := HLE.out; simp [intOf]; omega
                  · have HLL := hid (show neL (G ++ (S.1 ++ [⟨max S.2 b, min xt E⟩])) = neL (G ++ S.1) ++ neL [⟨fr, xt⟩] from gap_one (by rw [← HM.out]; omega) (by omega))
                    have HN2 := hid (show (neL (G ++ S.1)).length ≤ 3000 by have h1 := neL_len (G ++ S.1); rw [List.length_append] at h1; have := HGL.out; have := HFL.out; have := HLI.out; omega)
                    rw [neL_none (show ¬ (⟨fr, xt⟩ : Pr).x < (⟨fr, xt⟩ : Pr).y from w0), List.append_nil] at HLL
                    generalize neL (G ++ S.1) = lo at *
                    go_wp2
                    go_roundw
                    case rel => exact ⟨i + 1, by have := HIT.out; omega, by go_num, xt + ev, rfl, fun _ => ⟨(by rw [HS.out]; exact rfl), by rw [HS.out]; show Hid (OwnX _ _ _ _ (neL (G ++ (S.1 ++ [⟨max S.2 b, min xt E⟩])))); rw [HLL.out]; exact HO⟩, fun h => absurd h (by have := HIT.out; omega), hB⟩
                    case measure => have := HLE.out; simp [intOf]; omega
            · have HS := hid (HNO.out hx)
              have hx' : (xh != (k : Int) + 1) = true := by simpa using hx
              clear hx
              go_wp2
              go_roundw
              case rel => exact ⟨i + 1, by have := HIT.out; omega, by go_num, fr, rfl, fun _ => ⟨by rw [HS.out]; exact HM, by rw [HS.out]; exact HO⟩, fun h => absurd h (by have := HIT.out; omega), hB⟩
              case measure => have := HLE.out; simp [intOf]; omega
          · obtain rfl : i = n := by omega
            have HTK2 := hid (show l.take i = l from List.take_of_length_le (by have := HN.out; omega))
            rw [HTK2.out] at HM HO HFL
            have HFL2 := hid (show (gapF ((k : Int) + 1) ev b E l).1.length ≤ 200 by have := HFL.out; have := HN.out; omega)
            have HGN := hid (show gapsN ev b E l (k + 1) = G ++ ((gapF ((k : Int) + 1) ev b E l).1 ++ [⟨max (gapF ((k : Int) + 1) ev b E l).2 b, E⟩]) by rw [HGK.out]; rfl)
            generalize gapF ((k : Int) + 1) ev b E l = S at *
            clear hlt
            by_cases q2 : fr < b
            · by_cases w0 : b < E
              · have HLL := hid (show neL (G ++ (S.1 ++ [⟨max S.2 b, E⟩])) = neL (G ++ S.1) ++ neL [⟨b, E⟩] from gap_one (by rw [← HM.out]; omega) (by omega))
                have HN2 := hid (show (neL (G ++ S.1)).length ≤ 3000 by have h1 := neL_len (G ++ S.1); rw [List.length_append] at h1; have := HGL.out; have := HFL2.out; omega)
                rw [neL_one (show (⟨b, E⟩ : Pr).x < (⟨b, E⟩ : Pr).y from w0)] at HLL
                generalize neL (G ++ S.1) = lo at *
                obtain ⟨ox, oc, rfl⟩ := ownX_shape HO.out
                have HOQ := hid (show wr.ownsRow w1.heap.size 68 2 (.slice ox lo.length oc) lo.length (pvs lo) from HO.out)
                go_wp2_with (at_builtin; refine wpList_append_own _ rfl _ _ 28 rfl w1.heap.size 68 i0 (.agg #[.int .i64 0, .int .i64 0]) 2 16 Try.underlying28 hi hz0 hz1 hz2 rfl (by decide) _ _ _ rfl (World.ownsRow.alloc HOQ.out _) ⟨wr.heap.size, 0, none⟩ 1 1 [.int .i64 b, .int .i64 E] rfl rfl (cell_two_new (by simp)) two_cell1 (by have := HN2.out; unfold maxLen; omega) (by have := HN2.out; omega) (by have := hB.out.size; simp at this ⊢; omega) ?_; intro v1 w5 hown5 hgrow5 _; have HB5 := hid (below_prs hB.out (show OwnX _ _ _ _ lo from HOQ.out) (Nat.le_refl _) hgrow5); have HR5 := hid (OwnX.app (l := lo) (d := ⟨b, E⟩) hown5); clear hown5 hgrow5)
                go_roundw
                case rel => exact ⟨i + 1, Nat.le_refl _, by go_num, _, rfl, fun h => absurd h (by omega), fun _ => (by rw [HGN.out, HLL.out]; exact HR5), HB5⟩
                case measure => simp [intOf] <;> omega
              · have HLL := hid (show neL (G ++ (S.1 ++ [⟨max S.2 b, E⟩])) = neL (G ++ S.1) ++ neL [⟨b, E⟩] from gap_one (by rw [← HM.out]; omega) (by omega))
                have HN2 := hid (show (neL (G ++ S.1)).length ≤ 3000 by have h1 := neL_len (G ++ S.1); rw [List.length_append] at h1; have := HGL.out; have := HFL2.out; omega)
                rw [neL_none (show ¬ (⟨b, E⟩ : Pr).x < (⟨b, E⟩ : Pr).y from w0), List.append_nil] at HLL
                generalize neL (G ++ S.1) = lo at *
                go_wp2
                go_roundw
                case rel => exact ⟨i + 1, Nat.le_refl _, by go_num, _, rfl, fun h => absurd h (by omega), fun _ => (by rw [HGN.out, HLL.out]; exact HO), hB⟩
                case measure => simp [intOf] <;> omega
            · by_cases w0 : fr < E
              · have HLL := hid (show neL (G ++ (S.1 ++ [⟨max S.2 b, E⟩])) = neL (G ++ S.1) ++ neL [⟨fr, E⟩] from gap_one (by rw [← HM.out]; omega) (by omega))
                have HN2 := hid (show (neL (G ++ S.1)).length ≤ 3000 by have h1 := neL_len (G ++ S.1); rw [List.length_append] at h1; have := HGL.out; have := HFL2.out; omega)
                rw [neL_one (show (⟨fr, E⟩ : Pr).x < (⟨fr, E⟩ : Pr).y from w0)] at HLL
                generalize neL (G ++ S.1) = lo at *
                obtain ⟨ox, oc, rfl⟩ := ownX_shape HO.out
                have HOQ := hid (show wr.ownsRow w1.heap.size 68 2 (.slice ox lo.length oc) lo.length (pvs lo) from HO.out)
                go_wp2_with (at_builtin; refine wpList_append_own _ rfl _ _ 28 rfl w1.heap.size 68 i0 (.agg #[.int .i64 0, .int .i64 0]) 2 16 Try.underlying28 hi hz0 hz1 hz2 rfl (by decide) _ _ _ rfl (World.ownsRow.alloc HOQ.out _) ⟨wr.heap.size, 0, none⟩ 1 1 [.int .i64 fr, .int .i64 E] rfl rfl (cell_two_new (by simp)) two_cell1 (by have := HN2.out; unfold maxLen; omega) (by have := HN2.out; omega) (by have := hB.out.size; simp at this ⊢; omega) ?_; intro v1 w5 hown5 hgrow5 _; have HB5 := hid (below_prs hB.out (show OwnX _ _ _ _ lo from HOQ.out) (Nat.le_refl _) hgrow5); have HR5 := hid (OwnX.app (l := lo) (d := ⟨fr, E⟩) hown5); clear hown5 hgrow5)
                go_roundw
                case rel => exact ⟨i + 1, Nat.le_refl _, by go_num, _, rfl, fun h => absurd h (by omega), fun _ => (by rw [HGN.out, HLL.out]; exact HR5), HB5⟩
                case measure => simp [intOf] <;> omega
              · have HLL := hid (show neL (G ++ (S.1 ++ [⟨max S.2 b, E⟩])) = neL (G ++ S.1) ++ neL [⟨fr, E⟩] from gap_one (by rw [← HM.out]; omega) (by omega))
                have HN2 := hid (show (neL (G ++ S.1)).length ≤ 3000 by have h1 := neL_len (G ++ S.1); rw [List.length_append] at h1; have := HGL.out; have := HFL2.out; omega)
                rw [neL_none (show ¬ (⟨fr, E⟩ : Pr).x < (⟨fr, E⟩ : Pr).y from w0), List.append_nil] at HLL
                generalize neL (G ++ S.1) = lo at *
                go_wp2
                go_roundw
                case rel => exact ⟨i + 1, Nat.le_refl _, by go_num, _, rfl, fun h => absurd h (by omega), fun _ => (by rw [HGN.out, HLL.out]; exact HO), hB⟩
                case measure => simp [intOf] <;> omega
        · obtain rfl : i = n + 1 := by omega
          have hle' : (n : Int) < (n : Int) + 1 := by omega
          have HO := hA2 rfl
          clear hA1 hA2 hle
          go_wp2
          go_roundw
          case rel => exact ⟨k + 1, HLT.out, by go_num, HO, hB⟩
          case measure => have := HLT.out; simp [intOf]; omega
    · obtain rfl : k = H := by omega
      have HU := hid (xunion_any u12 (neL (gapsN ev b E l k)) wr hO.out.row (by
        have h1 := neL_len (gapsN ev b E l k)
        have h2 := gapsN_len ev b E l k
        have h3 : k * (l.length + 1) ≤ 12 * 201 := Nat.mul_le_mul (by omega) (by have := HN.out; omega)
        omega))
      go_wp2_with fail
      refine HU.out.mono ?_
      rintro e w9 ⟨u, m, rfl, hm, hown, hb⟩
      have HB9 := hid (bstep (bstep HB1.out HB1.out.size hB.out) (bstep HB1.out HB1.out.size hB.out).size hb)
      have HM := hid (uni_neL hm)
      have HW := hid (OwnX.low hown (bstep HB1.out HB1.out.size hB.out).size)
      clear hm hown hb HU
      go_wp2_with fail
      refine bodyPost_ret (v := .tuple #[u, .int .i64 0]) (by simp [results, Try.results21, go_sem]) rfl ?_
      exact ⟨u, m, by rw [HV.out]; rfl, HW.out, HB9.out, fun _ => by rw [HHN.out]; exact HM.out, fun h => absurd (by rw [HV.out]; rfl) h⟩
end Go.Proofs.Ytjfakhfkbnnbcaa
