/- Walk of retort's Vented: contract. -/
import Derived.Test.YtpkcnojcklmhmaaYl
namespace Go.Proofs.Ytpkcnojcklmhmaa
open Go.RowKit

/-- A step that is vented enough. -/
def VentOk (p : Nat → St) (n : Nat) (r : Nat → Rd) (i : Nat) : Prop := (p i).k = 1 → ∃ f t : Nat, PartP n r i f t ∧ f < t ∧ (p i).n ≤ (t : Int) - f ∧ (p i).s ≤ (r (t - 1)).t
/-- What Vented answers. -/
def VentV (m : Nat) (p : Nat → St) (n : Nat) (r : Nat → Rd) (b : Bool) (c : Int) : Prop :=
  (recB m p n r = false ∧ b = false ∧ c = 1) ∨ (recB m p n r = true ∧ c = 0 ∧ b = true ∧ ∀ i, i < m → VentOk p n r i) ∨ (recB m p n r = true ∧ c = 0 ∧ b = false ∧ ∃ i, i < m ∧ ¬ VentOk p n r i)
def VentP (m : Nat) (p : Nat → St) (n : Nat) (r : Nat → Rd) (w : World) (e : Ending) (w' : World) : Prop :=
  ∃ b c, e = .returned (.tuple #[.bool b, .int .i64 c]) ∧ VentV m p n r b c ∧ Below w.heap.size w w'
theorem VentV.one {m : Nat} {p : Nat → St} {n : Nat} {r : Nat → Rd} {b b2 : Bool} {c c2 : Int} (h : VentV m p n r b c) (g : VentV m p n r b2 c2) : b = b2 ∧ c = c2 := by
  rcases h with ⟨h1, rfl, rfl⟩ | ⟨h1, rfl, rfl, h2⟩ | ⟨h1, rfl, rfl, i, hi, h2⟩ <;> rcases g with ⟨g1, rfl, rfl⟩ | ⟨g1, rfl, rfl, g2⟩ | ⟨g1, rfl, rfl, j, hj, g2⟩
  all_goals first
    | exact ⟨rfl, rfl⟩
    | (rw [h1] at g1; cases g1; done)
    | exact absurd (h2 _ hj) g2
    | exact absurd (g2 _ hi) h2
theorem vent_all {p : Nat → St} {n : Nat} {r : Nat → Rd} {k : Nat} (h : ∀ i, i < k → VentOk p n r i) (g : VentOk p n r k) : ∀ i, i < k + 1 → VentOk p n r i := by
  intro i hi
  rcases Nat.lt_succ_iff_lt_or_eq.1 hi with h1 | h1
  · exact h i h1
  · subst h1; exact g
/-- The box of a step. -/
theorem s3_new {w wr : World} {k s t : Value} {T : TypeId} (hB : Below w.heap.size w wr) :
    (wr.alloc (.cells #[k, s, t] T)).drew.cell? ⟨wr.heap.size, 0, none⟩ = some k ∧ (wr.alloc (.cells #[k, s, t] T)).drew.cell? ⟨wr.heap.size, 1, none⟩ = some s ∧ (wr.alloc (.cells #[k, s, t] T)).drew.cell? ⟨wr.heap.size, 2, none⟩ = some t ∧ Below w.heap.size w (wr.alloc (.cells #[k, s, t] T)).drew := by
  have ha := heap_alloc_new wr (.cells #[k, s, t] T)
  exact ⟨cell_of_row _ _ 0 _ _ _ ha, cell_of_row _ _ 1 _ _ _ ha, cell_of_row _ _ 2 _ _ _ ha, (hB.alloc hB.size _).drew⟩
theorem s3_keep {w W w2 : World} {b : Nat} {k s t : Value} (hb : Below W.heap.size W w2) (h : W.cell? ⟨b, 0, none⟩ = some k ∧ W.cell? ⟨b, 1, none⟩ = some s ∧ W.cell? ⟨b, 2, none⟩ = some t ∧ Below w.heap.size w W) :
    w2.cell? ⟨b, 0, none⟩ = some k ∧ w2.cell? ⟨b, 1, none⟩ = some s ∧ w2.cell? ⟨b, 2, none⟩ = some t ∧ Below w.heap.size w w2 :=
  ⟨keep_cell hb h.1, keep_cell hb h.2.1, keep_cell hb h.2.2.1, bstep h.2.2.2 h.2.2.2.size hb⟩
set_option maxRecDepth 20000 in
set_option maxHeartbeats 4000000 in
theorem vvent_any (u : Value) (m : Nat) (p : Nat → St) (v : Value) (n : Nat) (r : Nat → Rd) (w : World) (hp : RowP w u m p) (hr : RowR w v n r) :
    Calls Try.prog 41 #[u, v] w (VentP m p n r w) := by
  have HK := hid (fun w1 (g : Below w.heap.size w w1) => hr.keep g)
  have HQ := hid (fun w1 (g : Below w.heap.size w w1) => (show RowP w1 u m p from RowT.keep hp g))
  have HP := hid hp
  have HR := hid hr
  have hnm := hr.most
  have hmm := RowT.most hp
  have HVC := hid (show ∀ va vc, v = .slice va n vc → n ≤ vc ∧ (0 < n → ∃ b o, va = some ⟨b, o, none⟩) from fun va vc e => by
    obtain ⟨a', b', o', cap', hv, g1, g2, g3, g4⟩ := hr
    rw [hv] at e
    injection e with e1 e2 e3
    refine ⟨by omega, fun h => ?_⟩
    rcases g3 with h0 | h0
    · omega
    · exact ⟨b', o', by rw [← e1, h0]⟩)
  unfold maxLen at hnm hmm
  obtain ⟨pa, pc, rfl⟩ := RowT.shape hp
  obtain ⟨va, vc, rfl⟩ := hr.shape
  clear hp hr
  obtain ⟨hnc, hva⟩ := HVC.out va vc rfl
  have HVA := hid hva
  clear HVC hva
  cases hrec : recB m p n r
  · have HREC := hid hrec
    go_enter Try.func41, Try.ntmps41
    go_wp2_with (go_at_call 43; refine (vrec_any _ _ _ _ _ _ _ HP.out HR.out).mono ?_; rintro e w1 ⟨rfl, hb⟩; rw [hrec]; have HB := hid hb; clear hb)
    refine bodyPost_ret (v := .tuple #[.bool false, .int .i64 1]) (by simp [results, Try.results41, go_sem]) rfl ?_
    exact ⟨_, _, rfl, .inl ⟨HREC.out, rfl, rfl⟩, HB.out⟩
  obtain ⟨hn, hm1, hm16, hst⟩ := rec_step hrec
  have HREC := hid hrec
  have HMO := hid (rec_mono hrec).2
  have HN4 := hid (show n ≤ 4000000000000000000 by omega)
  clear hst
  go_enter Try.func41, Try.ntmps41
  go_wp2_with (go_at_call 43; refine (vrec_any _ _ _ _ _ _ _ HP.out HR.out).mono ?_; rintro e w1 ⟨rfl, hb⟩; rw [hrec]; have HB := hid hb; clear hb)
  clear hrec
  go_loopw [14] (fun i wr => ∃ k : Nat, k ≤ m ∧ i = .int .i64 (k : Int) ∧ Hid (∀ i, i < k → VentOk p n r i) ∧ Hid (Below w.heap.size w wr)) (fun i _ => m - (intOf i).toNat)
  case atStart => exact ⟨0, Nat.zero_le _, rfl, fun i h => absurd h (Nat.not_lt_zero i), HB⟩
  case round =>
    obtain ⟨k, hk, rfl, hok, hB⟩ := hrel
    by_cases hlt : k < m
    · have hlt' : (k : Int) < m := by omega
      obtain ⟨a2, b2, o2, cap2, hv, _, _, ha2, hcell2⟩ := HQ.out _ hB.out
      injection hv with hv1 hv2 hv3
      subst hv1 hv3
      rcases ha2 with h0 | rfl
      · omega
      obtain ⟨d0, d1, d2⟩ := hcell2 k hlt
      simp only at d0 d1 d2
      have HVO := hid (show VentOk p n r k = ((p k).k = 1 → ∃ f t : Nat, PartP n r k f t ∧ f < t ∧ (p k).n ≤ (t : Int) - f ∧ (p k).s ≤ (r (t - 1)).t) from rfl)
      generalize (p k).k = yk at d0 HVO
      generalize (p k).s = ys at d1 HVO
      generalize (p k).n = yn at d2 HVO
      clear hcell2 hv2
      have HLT := hid hlt
      clear hlt
      have HB1 := hid (hB.out.alloc hB.out.size (.cells #[.int .i64 yk, .int .i64 ys, .int .i64 yn] 76))
      by_cases hc1 : yk = 1
      case neg =>
        have g1 : (yk == 1) = false := by simpa using hc1
        have HV := hid (vent_all hok.out (by rw [HVO.out]; exact fun h => absurd h hc1))
        clear hc1
        go_wp2
        go_quiet (fail)
        go_wp2
        go_roundw
        case rel => exact ⟨k + 1, by have := HLT.out; omega, by go_num, HV, hid (bdrewN HB1.out)⟩
        case measure => have := HLT.out; simp [intOf]; omega
      subst hc1
      have hk1 : IntKind.i64.wrap ((k : Int) + 1) = (k : Int) + 1 := IntWalk.i64_in _ ⟨by omega, by omega⟩
      have HF1 := bef_found (st := (k : Int)) HMO.out
      have HF2 := bef_found (st := (k : Int) + 1) HMO.out
      obtain ⟨q1, hq1⟩ : ∃ q, q = befN r (k : Int) n := ⟨_, rfl⟩
      obtain ⟨q2, hq2⟩ : ∃ q, q = befN r ((k : Int) + 1) n := ⟨_, rfl⟩
      have HQ1 := hid hq1.symm
      have HQ2 := hid hq2.symm
      rw [← hq1] at HF1
      rw [← hq2] at HF2
      clear hq1 hq2
      by_cases hq : q1 = q2
      · subst hq
        have HPN := part_none HMO.out HF1 HF2 rfl
        have HV : Hid (¬ VentOk p n r k) := by
          show ¬ VentOk p n r k
          rw [HVO.out]
          intro h
          obtain ⟨f, t, h1, h2, _⟩ := h rfl
          obtain ⟨rfl, rfl⟩ := HPN.one h1
          omega
        have hq0 : (q1 : Int) ≤ (vc : Int) := by have := HF1.1; omega
        have hqq : (q1 : Int) ≤ (q1 : Int) := Int.le_refl _
        clear HF1 HF2 HPN
        by_cases hvc : vc = q1
        · subst hvc
          go_wp2
          go_region_held3 (fun w' => w'.cell? ⟨wr.heap.size, 0, none⟩ = some (.int .i64 1) ∧ w'.cell? ⟨wr.heap.size, 1, none⟩ = some (.int .i64 ys) ∧ w'.cell? ⟨wr.heap.size, 2, none⟩ = some (.int .i64 yn) ∧ Below w.heap.size w w') (first | exact s3_new hB.out | exact s3_keep (by assumption) (by assumption)) (first | (go_at_call 80; refine (befc_any _ _ _ _ _ (HK.out _ (And.right (And.right (And.right (by assumption))))) HN4.out HMO.out).mono ?_; rintro e w2 ⟨rfl, hb⟩; (first | rw [HQ1.out] | rw [hk1, HQ2.out] | rw [HQ2.out])) | (go_at_call 79; refine (vented_none _ _ _ _ _ _).mono ?_; rintro e w2 ⟨rfl, hb⟩))
          rename_i hS
          obtain ⟨_, _, _, hB9⟩ := hS
          go_wp2
          refine bodyPost_ret (v := .tuple #[.bool false, .int .i64 0]) (by simp [results, Try.results41, go_sem]) rfl ?_
          exact ⟨_, _, rfl, .inr (.inr ⟨HREC.out, rfl, rfl, _, HLT.out, HV.out⟩), hB9⟩
        · go_wp2
          go_region_held3 (fun w' => w'.cell? ⟨wr.heap.size, 0, none⟩ = some (.int .i64 1) ∧ w'.cell? ⟨wr.heap.size, 1, none⟩ = some (.int .i64 ys) ∧ w'.cell? ⟨wr.heap.size, 2, none⟩ = some (.int .i64 yn) ∧ Below w.heap.size w w') (first | exact s3_new hB.out | exact s3_keep (by assumption) (by assumption)) (first | (go_at_call 80; refine (befc_any _ _ _ _ _ (HK.out _ (And.right (And.right (And.right (by assumption))))) HN4.out HMO.out).mono ?_; rintro e w2 ⟨rfl, hb⟩; (first | rw [HQ1.out] | rw [hk1, HQ2.out] | rw [HQ2.out])) | (go_at_call 79; refine (vented_none _ _ _ _ _ _).mono ?_; rintro e w2 ⟨rfl, hb⟩))
          rename_i hS
          obtain ⟨_, _, _, hB9⟩ := hS
          go_wp2
          refine bodyPost_ret (v := .tuple #[.bool false, .int .i64 0]) (by simp [results, Try.results41, go_sem]) rfl ?_
          exact ⟨_, _, rfl, .inr (.inr ⟨HREC.out, rfl, rfl, _, HLT.out, HV.out⟩), hB9⟩
      have HPS := part_some HMO.out HF1 HF2 hq
      have hlt12 : q1 < q2 := by have := HPS.le; omega
      have htop := HPS.top
      clear HF1 HF2 hq
      obtain ⟨j, hj⟩ : ∃ j, q2 = q1 + (j + 1) := ⟨q2 - q1 - 1, by omega⟩
      obtain ⟨b, o, rfl⟩ := HVA.out (by omega)
      obtain ⟨r', hr'⟩ : ∃ r' : Nat → Rd, r' = fun i => r (q1 + i) := ⟨_, rfl⟩
      have HSUB := hid (show ∀ w1, Below w.heap.size w w1 → RowR w1 (.slice (some ⟨b, o + q1 * 4, none⟩) (q2 - q1) (vc - q1)) (q2 - q1) r' from fun w1 g => by
        have h := rowR_sub (HK.out w1 g) (Nat.le_of_lt hlt12) htop (by omega)
        rw [hr']
        exact h)
      have hrj : (r' j).t = (r (q1 + j)).t := by rw [hr']
      have HRJ := hid hrj
      clear hr' hrj
      have hvc : ¬ vc = q1 := by omega
      have hq0 : (q1 : Int) ≤ (q2 : Int) := by omega
      have hq2c : (q2 : Int) ≤ (vc : Int) := by omega
      have hj6 : j ≤ 1000000 := by omega
      have HIFF : VentOk p n r k ↔ (yn ≤ (j : Int) + 1 ∧ ys ≤ (r' j).t) := by
        rw [HVO.out, HRJ.out]
        constructor
        · intro h
          obtain ⟨f, t, h1, h2, h3, h4⟩ := h rfl
          obtain ⟨rfl, rfl⟩ := HPS.one h1
          refine ⟨by omega, ?_⟩
          rwa [show q2 - 1 = q1 + j by omega] at h4
        · intro ⟨h1, h2⟩ _
          exact ⟨q1, q2, HPS, hlt12, by omega, by rwa [show q2 - 1 = q1 + j by omega]⟩
      have HIFF := hid HIFF
      have HJ := hid (show q2 - q1 = j + 1 by omega)
      clear HPS htop hlt12 hj
      cases hvb : (decide (yn ≤ (j : Int) + 1) && decide (ys ≤ (r' j).t))
      · have HVB := hid hvb
        have HV : Hid (¬ VentOk p n r k) := by
          show ¬ VentOk p n r k
          rw [HIFF.out]
          intro ⟨h1, h2⟩
          rw [decide_eq_true h1, decide_eq_true h2] at hvb
          cases hvb
        clear hvb
        go_wp2
        go_region_held3 (fun w' => w'.cell? ⟨wr.heap.size, 0, none⟩ = some (.int .i64 1) ∧ w'.cell? ⟨wr.heap.size, 1, none⟩ = some (.int .i64 ys) ∧ w'.cell? ⟨wr.heap.size, 2, none⟩ = some (.int .i64 yn) ∧ Below w.heap.size w w') (first | exact s3_new hB.out | exact s3_keep (by assumption) (by assumption)) (first | (go_at_call 80; refine (befc_any _ _ _ _ _ (HK.out _ (And.right (And.right (And.right (by assumption))))) HN4.out HMO.out).mono ?_; rintro e w2 ⟨rfl, hb⟩; (first | rw [HQ1.out] | rw [hk1, HQ2.out] | rw [HQ2.out])) | (go_at_call 79; refine (vented_len _ _ _ b (o + q1 * 4) j (q2 - q1) (vc - q1) r' _ HJ.out (HSUB.out _ (And.right (And.right (And.right (by assumption))))) hj6).mono ?_; rintro e w2 ⟨rfl, hb⟩; rw [HVB.out]))
        rename_i hS
        obtain ⟨_, _, _, hB9⟩ := hS
        go_wp2
        refine bodyPost_ret (v := .tuple #[.bool false, .int .i64 0]) (by simp [results, Try.results41, go_sem]) rfl ?_
        exact ⟨_, _, rfl, .inr (.inr ⟨HREC.out, rfl, rfl, _, HLT.out, HV.out⟩), hB9⟩
      · have HVB := hid hvb
        have HV := hid (vent_all hok.out (HIFF.out.2 (by simpa using hvb)))
        clear hvb
        go_wp2
        go_region_held3 (fun w' => w'.cell? ⟨wr.heap.size, 0, none⟩ = some (.int .i64 1) ∧ w'.cell? ⟨wr.heap.size, 1, none⟩ = some (.int .i64 ys) ∧ w'.cell? ⟨wr.heap.size, 2, none⟩ = some (.int .i64 yn) ∧ Below w.heap.size w w') (first | exact s3_new hB.out | exact s3_keep (by assumption) (by assumption)) (first | (go_at_call 80; refine (befc_any _ _ _ _ _ (HK.out _ (And.right (And.right (And.right (by assumption))))) HN4.out HMO.out).mono ?_; rintro e w2 ⟨rfl, hb⟩; (first | rw [HQ1.out] | rw [hk1, HQ2.out] | rw [HQ2.out])) | (go_at_call 79; refine (vented_len _ _ _ b (o + q1 * 4) j (q2 - q1) (vc - q1) r' _ HJ.out (HSUB.out _ (And.right (And.right (And.right (by assumption))))) hj6).mono ?_; rintro e w2 ⟨rfl, hb⟩; rw [HVB.out]))
        rename_i hS
        obtain ⟨_, _, _, hB9⟩ := hS
        go_wp2
        go_roundw
        case rel => exact ⟨k + 1, by have := HLT.out; omega, by go_num, HV, hB9⟩
        case measure => have := HLT.out; simp [intOf]; omega
    · obtain rfl : k = m := by omega
      go_wp2
      refine bodyPost_ret (v := .tuple #[.bool true, .int .i64 0]) (by simp [results, Try.results41, go_sem]) rfl ?_
      exact ⟨_, _, rfl, .inr (.inl ⟨HREC.out, rfl, rfl, hok.out⟩), hB.out⟩
end Go.Proofs.Ytpkcnojcklmhmaa
