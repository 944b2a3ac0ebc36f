/- Texts of this seat, one behind the other. -/
import Derived.Test.YtihbjimnjhfpeaaGreatR35
import Derived.Test.YtihbjimnjhfpeaaGreatR34
/- Walk of retort's Vented: contract. -/
namespace Go.Proofs.YtihbjimnjhfpeaaGreat.Rt
open Go.RowKit

/-- A step that is vented enough. -/
def VentOk (p : Nat → St) (n : Nat) (r : Nat → Rd) (i : Nat) : Prop := (p i).k = 1 → ∃ f t : Nat, PartP n r i f t ∧ f < t ∧ (p i).n ≤ (t : Int) - f ∧ (p i).s ≤ (r (t - 1)).t
/-- What Vented answers. -/
def VentV (m : Nat) (p : Nat → St) (n : Nat) (r : Nat → Rd) (b : Bool) (c : Int) : Prop :=
  (recB m p n r = false ∧ b = false ∧ c = 1) ∨ (recB m p n r = true ∧ c = 0 ∧ b = true ∧ ∀ i, i < m → VentOk p n r i) ∨ (recB m p n r = true ∧ c = 0 ∧ b = false ∧ ∃ i, i < m ∧ ¬ VentOk p n r i)
def VentP (m : Nat) (p : Nat → St) (n : Nat) (r : Nat → Rd) (w : World) (e : Ending) (w' : World) : Prop :=
  ∃ b c, e = .returned (.tuple #[.bool b, .int .i64 c]) ∧ VentV m p n r b c ∧ Below w.heap.size w w'
theorem VentV.one {m : Nat} {p : Nat → St} {n : Nat} {r : Nat → Rd} {b b2 : Bool} {c c2 : Int} (h : VentV m p n r b c) (g : VentV m p n r b2 c2) : b = b2 ∧ c = c2 := by
  rcases h with ⟨h1, rfl, rfl⟩ | ⟨h1, rfl, rfl, h2⟩ | ⟨h1, rfl, rfl, i, hi, h2⟩ <;> rcases g with ⟨g1, rfl, rfl⟩ | ⟨g1, rfl, rfl, g2⟩ | ⟨g1, rfl, rfl, j, hj, g2⟩
  all_goals first
    | exact ⟨rfl, rfl⟩
    | (rw [h1] at g1; cases g1; done)
    | exact absurd (h2 _ hj) g2
    | exact absurd (g2 _ hi) h2
theorem vent_all {p : Nat → St} {n : Nat} {r : Nat → Rd} {k : Nat} (h : ∀ i, i < k → VentOk p n r i) (g : VentOk p n r k) : ∀ i, i < k + 1 → VentOk p n r i := by
  intro i hi
  rcases Nat.lt_succ_iff_lt_or_eq.1 hi with h1 | h1
  · exact h i h1
  · subst h1; exact g
/-- The box of a step. -/
theorem s3_new {w wr : World} {k s t : Value} {T : TypeId} (hB : Below w.heap.size w wr) :
    (wr.alloc (.cells #[k, s, t] T)).drew.cell? ⟨wr.heap.size, 0, none⟩ = some k ∧ (wr.alloc (.cells #[k, s, t] T)).drew.cell? ⟨wr.heap.size, 1, none⟩ = some s ∧ (wr.alloc (.cells #[k, s, t] T)).drew.cell? ⟨wr.heap.size, 2, none⟩ = some t ∧ Below w.heap.size w (wr.alloc (.cells #[k, s, t] T)).drew := by
  have ha := heap_alloc_new wr (.cells #[k, s, t] T)
  exact ⟨cell_of_row _ _ 0 _ _ _ ha, cell_of_row _ _ 1 _ _ _ ha, cell_of_row _ _ 2 _ _ _ ha, (hB.alloc hB.size _).drew⟩
theorem s3_keep {w W w2 : World} {b : Nat} {k s t : Value} (hb : Below W.heap.size W w2) (h : W.cell? ⟨b, 0, none⟩ = some k ∧ W.cell? ⟨b, 1, none⟩ = some s ∧ W.cell? ⟨b, 2, none⟩ = some t ∧ Below w.heap.size w W) :
    w2.cell? ⟨b, 0, none⟩ = some k ∧ w2.cell? ⟨b, 1, none⟩ = some s ∧ w2.cell? ⟨b, 2, none⟩ = some t ∧ Below w.heap.size w w2 :=
  ⟨keep_cell hb h.1, keep_cell hb h.2.1, keep_cell hb h.2.2.1, bstep h.2.2.2 h.2.2.2.size hb⟩
set_option maxRecDepth 20000 in
set_option maxHeartbeats 4000000 in
theorem vvent_any (u : Value) (m : Nat) (p : Nat → St) (v : Value) (n : Nat) (r : Nat → Rd) (w : World) (hp : RowP w u m p) (hr : RowR w v n r) :
    Calls Tryz.prog 131 #[u, v] w (VentP m p n r w) := by
  have HK := hid (fun w1 (g : Below w.heap.size w w1) => hr.keep g)
  have HQ := hid (fun w1 (g : Below w.heap.size w w1) => (show RowP w1 u m p from RowT.keep hp g))
  have HP := hid hp
  have HR := hid hr
  have hnm := hr.most
  have hmm := RowT.most hp
  have HVC := hid (show ∀ va vc, v = .slice va n vc → n ≤ vc ∧ (0 < n → ∃ b o, va = some ⟨b, o, none⟩) from fun va vc e => by
    obtain ⟨a', b', o', cap', hv, g1, g2, g3, g4⟩ := hr
    rw [hv] at e
    injection e with e1 e2 e3
    refine ⟨by omega, fun h => ?_⟩
    rcases g3 with h0 | h0
    · omega
    · exact ⟨b', o', by rw [← e1, h0]⟩)
  unfold maxLen at hnm hmm
  obtain ⟨pa, pc, rfl⟩ := RowT.shape hp
  obtain ⟨va, vc, rfl⟩ := hr.shape
  clear hp hr
  obtain ⟨hnc, hva⟩ := HVC.out va vc rfl
  have HVA := hid hva
  clear HVC hva
  cases hrec : recB m p n r
  · have HREC := hid hrec
    go_enter Tryz.func131, Tryz.ntmps131
    go_wp2_with (go_at_call 41; refine (vrec_any _ _ _ _ _ _ _ HP.out HR.out).mono ?_; rintro e w1 ⟨rfl, hb⟩; rw [hrec]; have HB := hid hb; clear hb)
    refine bodyPost_ret (v := .tuple #[.bool false, .int .i64 1]) (by simp [results, Tryz.results131, go_sem]) rfl ?_
    exact ⟨_, _, rfl, .inl ⟨HREC.out, rfl, rfl⟩, HB.out⟩
  obtain ⟨hn, hm1, hm16, hst⟩ := rec_step hrec
  have HREC := hid hrec
  have HMO := hid (rec_mono hrec).2
  have HN4 := hid (show n ≤ 4000000000000000000 by omega)
  clear hst
  go_enter Tryz.func131, Tryz.ntmps131
  go_wp2_with (go_at_call 41; refine (vrec_any _ _ _ _ _ _ _ HP.out HR.out).mono ?_; rintro e w1 ⟨rfl, hb⟩; rw [hrec]; have HB := hid hb; clear hb)
  clear hrec
  go_loopw [14] (fun i wr => ∃ k : Nat, k ≤ m ∧ i = .int .i64 (k : Int) ∧ Hid (∀ i, i < k → VentOk p n r i) ∧ Hid (Below w.heap.size w wr)) (fun i _ => m - (intOf i).toNat)
  case atStart => exact ⟨0, Nat.zero_le _, rfl, fun i h => absurd h (Nat.not_lt_zero i), HB⟩
  case round =>
    obtain ⟨k, hk, rfl, hok, hB⟩ := hrel
    by_cases hlt : k < m
    · have hlt' : (k : Int) < m := by omega
      obtain ⟨a2, b2, o2, cap2, hv, _, _, ha2, hcell2⟩ := HQ.out _ hB.out
      injection hv with hv1 hv2 hv3
      subst hv1 hv3
      rcases ha2 with h0 | rfl
      · omega
      obtain ⟨d0, d1, d2⟩ := hcell2 k hlt
      simp only at d0 d1 d2
      have HVO := hid (show VentOk p n r k = ((p k).k = 1 → ∃ f t : Nat, PartP n r k f t ∧ f < t ∧ (p k).n ≤ (t : Int) - f ∧ (p k).s ≤ (r (t - 1)).t) from rfl)
      generalize (p k).k = yk at d0 HVO
      generalize (p k).s = ys at d1 HVO
      generalize (p k).n = yn at d2 HVO
      clear hcell2 hv2
      have HLT := hid hlt
      clear hlt
      have HB1 := hid (hB.out.alloc hB.out.size (.cells #[.int .i64 yk, .int .i64 ys, .int .i64 yn] 105))
      by_cases hc1 : yk = 1
      case neg =>
        have g1 : (yk == 1) = false := by simpa using hc1
        have HV := hid (vent_all hok.out (by rw [HVO.out]; exact fun h => absurd h hc1))
        clear hc1
        go_wp2
        go_quiet (fail)
        go_wp2
        go_roundw
        case rel => exact ⟨k + 1, by have := HLT.out; omega, by go_num, HV, hid (bdrewN HB1.out)⟩
        case measure => have := HLT.out; simp [intOf]; omega
      subst hc1
      have hk1 : IntKind.i64.wrap ((k : Int) + 1) = (k : Int) + 1 := IntWalk.i64_in _ ⟨by omega, by omega⟩
      have HF1 := bef_found (st := (k : Int)) HMO.out
      have HF2 := bef_found (st := (k : Int) + 1) HMO.out
      obtain ⟨q1, hq1⟩ : ∃ q, q = befN r (k : Int) n := ⟨_, rfl⟩
      obtain ⟨q2, hq2⟩ : ∃ q, q = befN r ((k : Int) + 1) n := ⟨_, rfl⟩
      have HQ1 := hid hq1.symm
      have HQ2 := hid hq2.symm
      rw [← hq1] at HF1
      rw [← hq2] at HF2
      clear hq1 hq2
      by_cases hq : q1 = q2
      · subst hq
        have HPN := part_none HMO.out HF1 HF2 rfl
        have HV : Hid (¬ VentOk p n r k) := by
          show ¬ VentOk p n r k
          rw [HVO.out]
          intro h
          obtain ⟨f, t, h1, h2, _⟩ := h rfl
          obtain ⟨rfl, rfl⟩ := HPN.one h1
          omega
        have hq0 : (q1 : Int) ≤ (vc : Int) := by have := HF1.1; omega
        have hqq : (q1 : Int) ≤ (q1 : Int) := Int.le_refl _
        clear HF1 HF2 HPN
        by_cases hvc : vc = q1
        · subst hvc
          go_wp2
          go_region_held3 (fun w' => w'.cell? ⟨wr.heap.size, 0, none⟩ = some (.int .i64 1) ∧ w'.cell? ⟨wr.heap.size, 1, none⟩ = some (.int .i64 ys) ∧ w'.cell? ⟨wr.heap.size, 2, none⟩ = some (.int .i64 yn) ∧ Below w.heap.size w w') (first | exact s3_new hB.out | exact s3_keep (by assumption) (by assumption)) (first | (go_at_call 156; refine (befc_any _ _ _ _ _ (HK.out _ (And.right (And.right (And.right (by assumption))))) HN4.out HMO.out).mono ?_; rintro e w2 ⟨rfl, hb⟩; (first | rw [HQ1.out] | rw [hk1, HQ2.out] | rw [HQ2.out])) | (go_at_call 155; refine (vented_none _ _ _ _ _ _).mono ?_; rintro e w2 ⟨rfl, hb⟩))
          rename_i hS
          obtain ⟨_, _, _, hB9⟩ := hS
          go_wp2
          refine bodyPost_ret (v := .tuple #[.bool false, .int .i64 0]) (by simp [results, Tryz.results131, go_sem]) rfl ?_
          exact ⟨_, _, rfl, .inr (.inr ⟨HREC.out, rfl, rfl, _, HLT.out, HV.out⟩), hB9⟩
        · go_wp2
          go_region_held3 (fun w' => w'.cell? ⟨wr.heap.size, 0, none⟩ = some (.int .i64 1) ∧ w'.cell? ⟨wr.heap.size, 1, none⟩ = some (.int .i64 ys) ∧ w'.cell? ⟨wr.heap.size, 2, none⟩ = some (.int .i64 yn) ∧ Below w.heap.size w w') (first | exact s3_new hB.out | exact s3_keep (by assumption) (by assumption)) (first | (go_at_call 156; refine (befc_any _ _ _ _ _ (HK.out _ (And.right (And.right (And.right (by assumption))))) HN4.out HMO.out).mono ?_; rintro e w2 ⟨rfl, hb⟩; (first | rw [HQ1.out] | rw [hk1, HQ2.out] | rw [HQ2.out])) | (go_at_call 155; refine (vented_none _ _ _ _ _ _).mono ?_; rintro e w2 ⟨rfl, hb⟩))
          rename_i hS
          obtain ⟨_, _, _, hB9⟩ := hS
          go_wp2
          refine bodyPost_ret (v := .tuple #[.bool false, .int .i64 0]) (by simp [results, Tryz.results131, go_sem]) rfl ?_
          exact ⟨_, _, rfl, .inr (.inr ⟨HREC.out, rfl, rfl, _, HLT.out, HV.out⟩), hB9⟩
      have HPS := part_some HMO.out HF1 HF2 hq
      have hlt12 : q1 < q2 := by have := HPS.le; omega
      have htop := HPS.top
      clear HF1 HF2 hq
      obtain ⟨j, hj⟩ : ∃ j, q2 = q1 + (j + 1) := ⟨q2 - q1 - 1, by omega⟩
      obtain ⟨b, o, rfl⟩ := HVA.out (by omega)
      obtain ⟨r', hr'⟩ : ∃ r' : Nat → Rd, r' = fun i => r (q1 + i) := ⟨_, rfl⟩
      have HSUB := hid (show ∀ w1, Below w.heap.size w w1 → RowR w1 (.slice (some ⟨b, o + q1 * 4, none⟩) (q2 - q1) (vc - q1)) (q2 - q1) r' from fun w1 g => by
        have h := rowR_sub (HK.out w1 g) (Nat.le_of_lt hlt12) htop (by omega)
        rw [hr']
        exact h)
      have hrj : (r' j).t = (r (q1 + j)).t := by rw [hr']
      have HRJ := hid hrj
      clear hr' hrj
      have hvc : ¬ vc = q1 := by omega
      have hq0 : (q1 : Int) ≤ (q2 : Int) := by omega
      have hq2c : (q2 : Int) ≤ (vc : Int) := by omega
      have hj6 : j ≤ 1000000 := by omega
      have HIFF : VentOk p n r k ↔ (yn ≤ (j : Int) + 1 ∧ ys ≤ (r' j).t) := by
        rw [HVO.out, HRJ.out]
        constructor
        · intro h
          obtain ⟨f, t, h1, h2, h3, h4⟩ := h rfl
          obtain ⟨rfl, rfl⟩ := HPS.one h1
          refine ⟨by omega, ?_⟩
          rwa [show q2 - 1 = q1 + j by omega] at h4
        · intro ⟨h1, h2⟩ _
          exact ⟨q1, q2, HPS, hlt12, by omega, by rwa [show q2 - 1 = q1 + j by omega]⟩
      have HIFF := hid HIFF
      have HJ := hid (show q2 - q1 = j + 1 by omega)
      clear HPS htop hlt12 hj
      cases hvb : (decide (yn ≤ (j : Int) + 1) && decide (ys ≤ (r' j).t))
      · have HVB := hid hvb
        have HV : Hid (¬ VentOk p n r k) := by
          show ¬ VentOk p n r k
          rw [HIFF.out]
          intro ⟨h1, h2⟩
          rw [decide_eq_true h1, decide_eq_true h2] at hvb
          cases hvb
        clear hvb
        go_wp2
        go_region_held3 (fun w' => w'.cell? ⟨wr.heap.size, 0, none⟩ = some (.int .i64 1) ∧ w'.cell? ⟨wr.heap.size, 1, none⟩ = some (.int .i64 ys) ∧ w'.cell? ⟨wr.heap.size, 2, none⟩ = some (.int .i64 yn) ∧ Below w.heap.size w w') (first | exact s3_new hB.out | exact s3_keep (by assumption) (by assumption)) (first | (go_at_call 156; refine (befc_any _ _ _ _ _ (HK.out _ (And.right (And.right (And.right (by assumption))))) HN4.out HMO.out).mono ?_; rintro e w2 ⟨rfl, hb⟩; (first | rw [HQ1.out] | rw [hk1, HQ2.out] | rw [HQ2.out])) | (go_at_call 155; refine (vented_len _ _ _ b (o + q1 * 4) j (q2 - q1) (vc - q1) r' _ HJ.out (HSUB.out _ (And.right (And.right (And.right (by assumption))))) hj6).mono ?_; rintro e w2 ⟨rfl, hb⟩; rw [HVB.out]))
        rename_i hS
        obtain ⟨_, _, _, hB9⟩ := hS
        go_wp2
        refine bodyPost_ret (v := .tuple #[.bool false, .int .i64 0]) (by simp [results, Tryz.results131, go_sem]) rfl ?_
        exact ⟨_, _, rfl, .inr (.inr ⟨HREC.out, rfl, rfl, _, HLT.out, HV.out⟩), hB9⟩
      · have HVB := hid hvb
        have HV := hid (vent_all hok.out (HIFF.out.2 (by simpa using hvb)))
        clear hvb
        go_wp2
        go_region_held3 (fun w' => w'.cell? ⟨wr.heap.size, 0, none⟩ = some (.int .i64 1) ∧ w'.cell? ⟨wr.heap.size, 1, none⟩ = some (.int .i64 ys) ∧ w'.cell? ⟨wr.heap.size, 2, none⟩ = some (.int .i64 yn) ∧ Below w.heap.size w w') (first | exact s3_new hB.out | exact s3_keep (by assumption) (by assumption)) (first | (go_at_call 156; refine (befc_any _ _ _ _ _ (HK.out _ (And.right (And.right (And.right (by assumption))))) HN4.out HMO.out).mono ?_; rintro e w2 ⟨rfl, hb⟩; (first | rw [HQ1.out] | rw [hk1, HQ2.out] | rw [HQ2.out])) | (go_at_call 155; refine (vented_len _ _ _ b (o + q1 * 4) j (q2 - q1) (vc - q1) r' _ HJ.out (HSUB.out _ (And.right (And.right (And.right (by assumption))))) hj6).mono ?_; rintro e w2 ⟨rfl, hb⟩; rw [HVB.out]))
        rename_i hS
        obtain ⟨_, _, _, hB9⟩ := hS
        go_wp2
        go_roundw
        case rel => exact ⟨k + 1, by have := HLT.out; omega, by go_num, HV, hB9⟩
        case measure => have := HLT.out; simp [intOf]; omega
    · obtain rfl : k = m := by omega
      go_wp2
      refine bodyPost_ret (v := .tuple #[.bool true, .int .i64 0]) (by simp [results, Tryz.results131, go_sem]) rfl ?_
      exact ⟨_, _, rfl, .inr (.inl ⟨HREC.out, rfl, rfl, hok.out⟩), hB.out⟩
end Go.Proofs.YtihbjimnjhfpeaaGreat.Rt

/- Walk of the reference's Vented: contract. -/
namespace Go.Proofs.YtihbjimnjhfpeaaGreat.Rt
open Go.RowKit

set_option maxRecDepth 20000 in
set_option maxHeartbeats 4000000 in
theorem xvent_any (u : Value) (m : Nat) (p : Nat → St) (v : Value) (n : Nat) (r : Nat → Rd) (w : World) (hp : RowP w u m p) (hr : RowR w v n r) :
    Calls Tryz.prog 13 #[u, v] w (VentP m p n r w) := by
  have HK := hid (fun w1 (g : Below w.heap.size w w1) => hr.keep g)
  have HQ := hid (fun w1 (g : Below w.heap.size w w1) => (show RowP w1 u m p from RowT.keep hp g))
  have HP := hid hp
  have HR := hid hr
  have hnm := hr.most
  have hmm := RowT.most hp
  unfold maxLen at hnm hmm
  obtain ⟨pa, pc, rfl⟩ := RowT.shape hp
  obtain ⟨va, vc, rfl⟩ := hr.shape
  clear hp hr
  cases hrec : recB m p n r
  · have HREC := hid hrec
    go_enter Tryz.func13, Tryz.ntmps13
    go_wp2_with (go_at_call 47; refine (xrec_any _ _ _ _ _ _ _ HP.out HR.out).mono ?_; rintro e w1 ⟨rfl, hb⟩; rw [hrec]; have HB := hid hb; clear hb)
    refine bodyPost_ret (v := .tuple #[.bool false, .int .i64 1]) (by simp [results, Tryz.results13, go_sem]) rfl ?_
    exact ⟨_, _, rfl, .inl ⟨HREC.out, rfl, rfl⟩, HB.out⟩
  obtain ⟨hn, hm1, hm16, hst⟩ := rec_step hrec
  have HREC := hid hrec
  clear hst
  go_enter Tryz.func13, Tryz.ntmps13
  go_wp2_with (go_at_call 47; refine (xrec_any _ _ _ _ _ _ _ HP.out HR.out).mono ?_; rintro e w1 ⟨rfl, hb⟩; rw [hrec]; have HB := hid hb; clear hb)
  clear hrec
  go_loopw [6] (fun i wr => ∃ k : Nat, k ≤ m ∧ i = .int .i64 (k : Int) ∧ Hid (∀ i, i < k → VentOk p n r i) ∧ Hid (Below w.heap.size w wr)) (fun i _ => m - (intOf i).toNat)
  case atStart => exact ⟨0, Nat.zero_le _, rfl, fun i h => absurd h (Nat.not_lt_zero i), HB⟩
  case round =>
    obtain ⟨k, hk, rfl, hok, hB⟩ := hrel
    by_cases hlt : k < m
    · have hlt' : (k : Int) < m := by omega
      have HLT := hid hlt
      clear hlt
      go_wp2_with fail
      refine (xpart_any _ _ _ _ _ (HK.out _ hB.out)).mono ?_
      rintro e w2 ⟨f, t, hpp, rfl, hb⟩
      have HB2 := hid (bstep hB.out hB.out.size hb)
      have htop := hpp.top
      have hle := hpp.le
      have HPP := hid hpp
      clear hpp hb
      obtain ⟨a2, b2, o2, cap2, hv, _, _, ha2, hcell2⟩ := HQ.out _ HB2.out
      injection hv with hv1 hv2 hv3
      subst hv1 hv3
      rcases ha2 with h0 | rfl
      · have := HLT.out; omega
      obtain ⟨d0, d1, d2⟩ := hcell2 k HLT.out
      simp only at d0 d1 d2
      have HVO := hid (show VentOk p n r k = ((p k).k = 1 → ∃ f t : Nat, PartP n r k f t ∧ f < t ∧ (p k).n ≤ (t : Int) - f ∧ (p k).s ≤ (r (t - 1)).t) from rfl)
      generalize (p k).k = yk at d0 HVO
      generalize (p k).s = ys at d1 HVO
      generalize (p k).n = yn at d2 HVO
      clear hcell2 hv2
      by_cases hc1 : yk = 1
      case neg =>
        have g1 : (yk == 1) = false := by simpa using hc1
        have HV := hid (vent_all hok.out (by rw [HVO.out]; exact fun h => absurd h hc1))
        clear hc1 htop hle
        go_wp2
        go_quiet (fail)
        go_wp2
        go_roundw
        case rel => exact ⟨k + 1, by have := HLT.out; omega, by go_num, HV, hid (bdrewN HB2.out)⟩
        case measure => have := HLT.out; simp [intOf]; omega
      subst hc1
      by_cases hft : f = t
      · subst hft
        have HV : Hid (¬ VentOk p n r k) := by
          show ¬ VentOk p n r k
          rw [HVO.out]
          intro h
          obtain ⟨f2, t2, h1, h2, _⟩ := h rfl
          obtain ⟨rfl, rfl⟩ := HPP.out.one h1
          omega
        clear htop hle
        go_wp2
        go_quiet (fail)
        go_wp2
        refine bodyPost_ret (v := .tuple #[.bool false, .int .i64 0]) (by simp [results, Tryz.results13, go_sem]) rfl ?_
        exact ⟨_, _, rfl, .inr (.inr ⟨HREC.out, rfl, rfl, _, HLT.out, HV.out⟩), bdrewN HB2.out⟩
      obtain ⟨j, rfl⟩ : ∃ j, t = j + 1 := ⟨t - 1, by omega⟩
      have HIFF : VentOk p n r k ↔ (yn ≤ (j : Int) + 1 - f ∧ ys ≤ (r j).t) := by
        rw [HVO.out]
        constructor
        · intro h
          obtain ⟨f2, t2, h1, h2, h3, h4⟩ := h rfl
          obtain ⟨rfl, rfl⟩ := HPP.out.one h1
          rw [Nat.add_sub_cancel] at h4
          exact ⟨by omega, h4⟩
        · intro ⟨h1, h2⟩ _
          exact ⟨f, j + 1, HPP.out, by omega, by omega, by rwa [Nat.add_sub_cancel]⟩
      have HIFF := hid HIFF
      obtain ⟨a3, b3, o3, cap3, hv, _, _, ha3, hcell3⟩ := HK.out _ HB2.out
      injection hv with hv1 hv2 hv3
      subst hv1 hv3
      rcases ha3 with h0 | rfl
      · omega
      obtain ⟨c0, c1, c2, c3⟩ := hcell3 j (by omega)
      clear hcell3 hv2 c0 c2 c3
      generalize (r j).t = x at c1 HIFF
      have g2 : ((f : Int) == (j : Int) + 1) = false := by simp; omega
      have hjn : (j : Int) < n := by omega
      have hfj : f ≤ j := by omega
      have hw1 : IntKind.i64.wrap ((j : Int) + 1 - (f : Int)) = (j : Int) + 1 - (f : Int) := IntWalk.i64_in _ ⟨by omega, by omega⟩
      have hw2 : IntKind.i64.wrap (j : Int) = (j : Int) := IntWalk.i64_in _ ⟨by omega, by omega⟩
      clear htop hle hft
      by_cases h1 : (j : Int) + 1 - f < yn
      · have HV : Hid (¬ VentOk p n r k) := by
          show ¬ VentOk p n r k
          rw [HIFF.out]
          intro ⟨h2, h3⟩
          omega
        go_wp2
        go_quiet (fail)
        go_wp2
        refine bodyPost_ret (v := .tuple #[.bool false, .int .i64 0]) (by simp [results, Tryz.results13, go_sem]) rfl ?_
        exact ⟨_, _, rfl, .inr (.inr ⟨HREC.out, rfl, rfl, _, HLT.out, HV.out⟩), bdrewN HB2.out⟩
      have h1' : decide ((j : Int) + 1 - f < yn) = false := decide_eq_false h1
      by_cases h2 : x < ys
      · have HV : Hid (¬ VentOk p n r k) := by
          show ¬ VentOk p n r k
          rw [HIFF.out]
          intro ⟨h3, h4⟩
          omega
        clear h1
        go_wp2
        go_quiet (fail)
        go_wp2
        refine bodyPost_ret (v := .tuple #[.bool false, .int .i64 0]) (by simp [results, Tryz.results13, go_sem]) rfl ?_
        exact ⟨_, _, rfl, .inr (.inr ⟨HREC.out, rfl, rfl, _, HLT.out, HV.out⟩), bdrewN HB2.out⟩
      · have h2' : decide (x < ys) = false := decide_eq_false h2
        have HV := hid (vent_all hok.out (HIFF.out.2 ⟨by omega, by omega⟩))
        clear h1 h2
        go_wp2
        go_quiet (fail)
        go_wp2
        go_roundw
        case rel => exact ⟨k + 1, by have := HLT.out; omega, by go_num, HV, hid (bdrewN HB2.out)⟩
        case measure => have := HLT.out; simp [intOf]; omega
    · obtain rfl : k = m := by omega
      go_wp2
      refine bodyPost_ret (v := .tuple #[.bool true, .int .i64 0]) (by simp [results, Tryz.results13, go_sem]) rfl ?_
      exact ⟨_, _, rfl, .inr (.inl ⟨HREC.out, rfl, rfl, hok.out⟩), hB.out⟩
end Go.Proofs.YtihbjimnjhfpeaaGreat.Rt

/- Walks of the reference's cold and Deviations: contracts. -/
namespace Go.Proofs.YtihbjimnjhfpeaaGreat.Rt
open Go.RowKit

theorem OwnT.keep {W w2 : World} {base : Nat} {v : Value} {l : List Tri} (h : OwnT W base v l) (hb : Below W.heap.size W w2) : OwnT w2 base v l := by
  refine ⟨h.1, ?_⟩
  rcases h.2 with hn | ⟨g, cap, cur, rfl, hg, hgg, rest⟩
  · exact .inl hn
  · exact .inr ⟨g, cap, cur, rfl, hg, (hb.block g (Array.getElem?_eq_some_iff.1 hgg).1).trans hgg, rest⟩
set_option maxRecDepth 20000 in
set_option maxHeartbeats 4000000 in
theorem xcold_any (pa : Option Addr) (m pc : Nat) (p : Nat → St) (q : Nat) (t c b : Int) (w : World) (hp : RowP w (.slice pa m pc) m p) (hq : q < m) :
    Calls Tryz.prog 53 #[.slice pa m pc, .agg #[.int .i64 q, .int .i64 t, .int .i64 c, .int .i64 b]] w fun e w' => e = .returned (.bool (decide ((p q).k = 3) && decide (t < (p q).s))) ∧ Below w.heap.size w w' := by
  have hmm := RowT.most hp
  unfold maxLen at hmm
  have hq' : (q : Int) < m := by omega
  obtain ⟨a2, b2, o2, cap2, hv, _, _, ha2, hcell2⟩ := (show RowP _ _ _ _ from RowT.keep hp ((Below.refl w.heap.size w).alloc (Nat.le_refl _) (.cells #[.int .i64 q, .int .i64 t, .int .i64 c, .int .i64 b] 56)))
  injection hv with hv1 hv2 hv3
  subst hv1 hv3
  rcases ha2 with h0 | rfl
  · omega
  obtain ⟨d0, d1, d2⟩ := hcell2 q hq
  simp only at d0 d1 d2
  clear hcell2 hv2 hp hq d2
  generalize (p q).k = yk at d0
  generalize (p q).s = ys at d1
  have HB := hid ((Below.refl w.heap.size w).alloc (Nat.le_refl _) (.cells #[.int .i64 q, .int .i64 t, .int .i64 c, .int .i64 b] 56))
  by_cases h1 : yk = 3
  · have g1 : (yk == 3) = true := by simpa using h1
    have hE := hid (show decide (t < ys) = (decide (yk = 3) && decide (t < ys)) by rw [decide_eq_true h1]; rfl)
    go_enter Tryz.func53, Tryz.ntmps53
    go_wp2
    go_quiet (fail)
    go_wp2
    go_ret
    exact ⟨ret_bool hE.out, bdrewN HB.out⟩
  · have g1 : (yk == 3) = false := by simpa using h1
    have hE := hid (show false = (decide (yk = 3) && decide (t < ys)) by rw [decide_eq_false h1]; rfl)
    go_enter Tryz.func53, Tryz.ntmps53
    go_wp2
    go_quiet (fail)
    go_wp2
    go_ret
    exact ⟨ret_bool hE.out, bdrewN HB.out⟩
end Go.Proofs.YtihbjimnjhfpeaaGreat.Rt

/- Walk of the reference's Deviations: contract. -/
namespace Go.Proofs.YtihbjimnjhfpeaaGreat.Rt
open Go.RowKit

set_option maxRecDepth 20000 in
set_option maxHeartbeats 4000000 in
theorem xdev_any (u : Value) (m : Nat) (p : Nat → St) (v : Value) (n : Nat) (r : Nat → Rd) (w : World) (hp : RowP w u m p) (hr : RowR w v n r) :
    Calls Tryz.prog 16 #[u, v] w (DevP m p n r w) := by
  have HK := hid (fun w1 (g : Below w.heap.size w w1) => hr.keep g)
  have HQ := hid (fun w1 (g : Below w.heap.size w w1) => (show RowP w1 u m p from RowT.keep hp g))
  have HP := hid hp
  have HR := hid hr
  have hnm := hr.most
  have hmm := RowT.most hp
  unfold maxLen at hnm hmm
  obtain ⟨pa, pc, rfl⟩ := RowT.shape hp
  obtain ⟨va, vc, rfl⟩ := hr.shape
  clear hp hr
  obtain ⟨i0, hi, hz0, hz1, hz2⟩ := info_parts infoT
  cases hrec : recB m p n r
  · have HREC := hid hrec
    go_enter Tryz.func16, Tryz.ntmps16
    go_wp2_with (go_at_call 47; refine (xrec_any _ _ _ _ _ _ _ HP.out HR.out).mono ?_; rintro e w1 ⟨rfl, hb⟩; rw [hrec]; have HB := hid hb; clear hb)
    refine bodyPost_ret (v := .tuple #[.slice none 0 0, .int .i64 1]) (by simp [results, Tryz.results16, go_sem]) rfl ?_
    exact ⟨_, _, _, rfl, .inr ⟨HREC.out, rfl, rfl⟩, OwnT.row (World.ownsRow_nil w1 0 _ _), HB.out⟩
  obtain ⟨hn, hm1, hm16, hst⟩ := rec_step hrec
  have HREC := hid hrec
  have HST := hid hst
  clear hst
  go_enter Tryz.func16, Tryz.ntmps16
  go_wp2_with (go_at_call 47; refine (xrec_any _ _ _ _ _ _ _ HP.out HR.out).mono ?_; rintro e w1 ⟨rfl, hb⟩; rw [hrec]; have HB := hid hb; clear hb)
  clear hrec
  go_loopw [6, 7] (fun v t wr => ∃ k : Nat, k ≤ n ∧ t = .int .i64 (k : Int) ∧ Hid (OwnT wr w.heap.size v (devL p r k)) ∧ Hid (Below w.heap.size w wr)) (fun _ t _ => n - (intOf t).toNat)
  case atStart => exact ⟨0, Nat.zero_le _, rfl, World.ownsRow_nil _ _ _ _, HB⟩
  case round =>
    obtain ⟨k, hk, rfl, hrow, hB⟩ := hrel
    by_cases hlt : k < n
    · have hlt' : (k : Int) < n := by omega
      obtain ⟨a', b', o', cap', hv, _, _, ha', hcell⟩ := HK.out _ hB.out
      injection hv with hv1 hv2 hv3
      subst hv1 hv3
      rcases ha' with h0 | rfl
      · omega
      obtain ⟨c0, c1, c2, c3⟩ := hcell k hlt
      obtain ⟨hs0, hs1⟩ := HST.out k hlt
      obtain ⟨x, hX⟩ : ∃ x, x = r k := ⟨_, rfl⟩
      rw [← hX] at c0 c1 c2 c3 hs0 hs1
      have HX := hid hX
      clear hcell hX hv2
      obtain ⟨xs, xt, xc, xb⟩ := x
      simp only at c0 c1 c2 c3 hs0 hs1
      obtain ⟨q, rfl⟩ : ∃ q : Nat, xs = q := ⟨xs.toNat, by omega⟩
      have HQM := hid (show q < m by omega)
      have HPk := hid (HQ.out _ hB.out)
      have HCB := hid (show coldB p ⟨q, xt, xc, xb⟩ = (decide ((p q).k = 3) && decide (xt < (p q).s)) from rfl)
      rw [HX.out] at HCB
      have HLT := hid hlt
      clear hlt
      have hr4 : ∀ wA, Below w.heap.size w wA → ∀ j, j < n → RdAt wA b' (o' + j * 4) (r j) := by
        intro wA hA j hj
        obtain ⟨a3, b3, o3, cap3, hv, _, _, ha3, hc3⟩ := HK.out _ hA
        injection hv with hv1 hv2 hv3
        rcases ha3 with h0 | h0
        · omega
        · rw [h0] at hv1
          cases hv1
          exact hc3 j hj
      have HR4 := hid hr4
      clear hr4
      cases hcb : coldB p (r k)
      · have HN := hid (dev_no hcb)
        go_wp2_with (go_at_call 53; refine (xcold_any _ _ _ _ _ _ _ _ _ HPk.out HQM.out).mono ?_; rintro e w4 ⟨rfl, hb⟩; rw [← HCB.out, hcb]; have HB4 := hid (bstep hB.out hB.out.size hb); have HO2 := hid (OwnT.keep hrow.out hb); clear hb)
        go_roundw
        case rel => exact ⟨k + 1, by have := HLT.out; omega, by go_num, by rw [HN.out]; exact HO2, HB4⟩
        case measure => have := HLT.out; simp [intOf]; omega
      have HCT := hid hcb
      have HXT := hid (show (r k).t = xt by rw [← HX.out])
      have HFEW := hid (dev_ok p r k).few
      rcases last_or (devL p r k) with hl | ⟨l0, d, hl⟩
      · have HE := hid (dev_first HCT.out hl)
        rw [HXT.out] at HE
        obtain ⟨ua, uc, hu⟩ := ownT_shape hrow.out
        rw [hl] at hu
        simp only [List.length_nil] at hu
        subst hu
        replace hrow : Hid (OwnT wr w.heap.size (.slice ua ([] : List Tri).length uc) []) := by
          have h := hrow.out
          rw [hl] at h
          exact h
        clear hl
        go_wp2_with (go_at_call 53; refine (xcold_any _ _ _ _ _ _ _ _ _ HPk.out HQM.out).mono ?_; rintro e w4 ⟨rfl, hb⟩; rw [← HCB.out, hcb]; have HB4 := hid (bstep hB.out hB.out.size hb); have HO2 := hid (OwnT.keep hrow.out hb); clear hb)
        obtain ⟨c0, c1, c2, c3⟩ := HR4.out _ HB4.out k HLT.out
        rw [HXT.out] at c1
        have HO4 := HO2
        go_quiet (fail)
        go_wp2_with (at_builtin; refine wpList_append_own _ rfl _ _ 50 rfl w.heap.size 108 i0 (.agg #[.int .i64 0, .int .i64 0, .int .i64 0]) 3 24 Tryz.underlying50 hi hz0 hz1 hz2 rfl (by decide) _ _ _ rfl (World.ownsRow.alloc HO4.out _) ⟨w4.heap.size, 0, none⟩ 1 1 [.int .i64 k, .int .i64 ((k : Int) + 1), .int .i64 xt] rfl rfl (cell_three_new (by simp)) three_cell1 (by have := HFEW.out; unfold maxLen; simp only [List.length_nil] at *; omega) (by have := HFEW.out; simp only [List.length_nil] at *; omega) (by have := HB4.out.size; simp at this ⊢; omega) ?_; intro v1 w3 hown3 hgrow3 _)
        have HB3 := hid (below_dev HB4.out HO2.out (Nat.le_refl _) hgrow3)
        have HR3 : Hid (OwnT w3 w.heap.size v1 (devL p r (k + 1))) := by rw [HE.out]; exact OwnT.app (l := []) (d := ⟨k, (k : Int) + 1, xt⟩) hown3
        clear hown3 hgrow3
        go_roundw
        case rel => exact ⟨k + 1, by have := HLT.out; omega, by go_num, HR3, HB3⟩
        case measure => have := HLT.out; simp [intOf]; omega
      obtain ⟨dx, dy, dz⟩ := d
      obtain ⟨g, uc, hu, _⟩ := ownT_some (l := l0) (d := ⟨dx, dy, dz⟩) (by have h := hrow.out; rw [hl] at h; exact h)
      subst hu
      replace hrow : Hid (OwnT wr w.heap.size (.slice (some ⟨g, 0, none⟩) (l0.length + 1) uc) (l0 ++ [⟨dx, dy, dz⟩])) := by
        have h := hrow.out
        rw [hl] at h
        exact h
      have HFEW := hid (show l0.length + 1 ≤ k by have := HFEW.out; rw [hl] at this; simpa using this)
      have HL := hid hl
      clear hl
      obtain ⟨M, hM⟩ : ∃ M, M = l0.length := ⟨_, rfl⟩
      rw [← hM] at HFEW
      have hMi : (M : Int) < (M : Int) + 1 := by omega
      have HM := hid hM
      rw [← hM] at hrow
      rw [← hM]
      clear hM
      have hMk := HFEW.out
      have hO4 : ∀ wA, OwnT wA w.heap.size (.slice (some ⟨g, 0, none⟩) (M + 1) uc) (l0 ++ [⟨dx, dy, dz⟩]) → World.ownsRow wA w.heap.size 108 3 (.slice (some ⟨g, 0, none⟩) (M + 1) uc) (M + 1) (tvs (l0 ++ [⟨dx, dy, dz⟩])) := by
        intro wA h
        unfold OwnT at h
        rw [List.length_append, ← HM.out] at h
        exact h
      have HO5 := hid hO4
      clear hO4
      have hlast : ∀ wA (d : Tri), OwnT wA w.heap.size (.slice (some ⟨g, 0, none⟩) (M + 1) uc) (l0 ++ [d]) → wA.cell? ⟨g, M * 3 + 1, none⟩ = some (.int .i64 d.y) ∧ wA.cell? ⟨g, M * 3 + 2, none⟩ = some (.int .i64 d.z) ∧ wA.frozen? ⟨g, M * 3 + 1, none⟩ = false ∧ wA.frozen? ⟨g, M * 3 + 2, none⟩ = false := by
        intro wA d h
        rw [HM.out] at h ⊢
        exact h.last
      have HLS := hid hlast
      clear hlast
      by_cases h1 : dy = (k : Int)
      case neg =>
        have HE := hid (dev_next HCT.out HL.out (fun h => h1 h.1))
        rw [HXT.out] at HE
        have g2 : (dy == (k : Int)) = false := by simpa using h1
        go_wp2_with (go_at_call 53; refine (xcold_any _ _ _ _ _ _ _ _ _ HPk.out HQM.out).mono ?_; rintro e w4 ⟨rfl, hb⟩; rw [← HCB.out, hcb]; have HB4 := hid (bstep hB.out hB.out.size hb); have HO2 := hid (OwnT.keep hrow.out hb); clear hb)
        obtain ⟨c0, c1, c2, c3⟩ := HR4.out _ HB4.out k HLT.out
        rw [HXT.out] at c1
        obtain ⟨e1, e2, e3, e4⟩ := HLS.out _ _ HO2.out
        simp only at e1 e2
        have HO4 := hid (HO5.out _ HO2.out)
        go_quiet (fail)
        go_wp2_with (at_builtin; refine wpList_append_own _ rfl _ _ 50 rfl w.heap.size 108 i0 (.agg #[.int .i64 0, .int .i64 0, .int .i64 0]) 3 24 Tryz.underlying50 hi hz0 hz1 hz2 rfl (by decide) _ _ _ rfl (World.ownsRow.alloc HO4.out _) ⟨w4.heap.size, 0, none⟩ 1 1 [.int .i64 k, .int .i64 ((k : Int) + 1), .int .i64 xt] rfl rfl (cell_three_new (by simp)) three_cell1 (by have := HFEW.out; unfold maxLen; omega) (by have := HFEW.out; omega) (by have := HB4.out.size; simp at this ⊢; omega) ?_; intro v1 w3 hown3 hgrow3 _)
        have HB3 := hid (below_dev HB4.out HO2.out (Nat.le_refl _) hgrow3)
        have HR3 : Hid (OwnT w3 w.heap.size v1 (devL p r (k + 1))) := by rw [HE.out]; exact OwnT.app (d := ⟨_, _, _⟩) (by rw [List.length_append, ← HM.out]; exact hown3)
        clear hown3 hgrow3
        go_roundw
        case rel => exact ⟨k + 1, by have := HLT.out; omega, by go_num, HR3, HB3⟩
        case measure => have := HLT.out; simp [intOf]; omega
      obtain ⟨j, rfl⟩ : ∃ j, k = j + 1 := ⟨k - 1, by omega⟩
      have hj1 : (j : Int) + 1 < n := by have := HLT.out; omega
      have hj2 : (j : Int) < n := by omega
      have hj3 : IntKind.i64.wrap (j : Int) = (j : Int) := IntWalk.i64_in _ ⟨by omega, by omega⟩
      have hjM : M ≤ j := by omega
      clear hlt' hMk
      have HXS := hid (show (r (j + 1)).s = (q : Int) by rw [← HX.out])
      by_cases h2 : (r j).s = q
      case neg =>
        have HE := hid (dev_next HCT.out HL.out (fun h => h2 (by rw [Nat.add_sub_cancel] at h; rw [h.2, HXS.out])))
        rw [HXT.out] at HE
        have g3 : ((r j).s == (q : Int)) = false := by simpa using h2
        have g2 : (dy == ((j : Int) + 1)) = true := by rw [h1]; simp
        have hf : dy = (j : Int) + 1 := by rw [h1]; simp
        clear h1 h2
        go_wp2_with (go_at_call 53; refine (xcold_any _ _ _ _ _ _ _ _ _ HPk.out HQM.out).mono ?_; rintro e w4 ⟨rfl, hb⟩; rw [← HCB.out, hcb]; have HB4 := hid (bstep hB.out hB.out.size hb); have HO2 := hid (OwnT.keep hrow.out hb); clear hb)
        obtain ⟨c0, c1, c2, c3⟩ := HR4.out _ HB4.out (j + 1) HLT.out
        rw [HXT.out] at c1
        rw [HXS.out] at c0
        obtain ⟨f0, _, _, _⟩ := HR4.out _ HB4.out j (by have := HLT.out; omega)
        obtain ⟨e1, e2, e3, e4⟩ := HLS.out _ _ HO2.out
        simp only at e1 e2
        generalize (r j).s = s0 at f0 g3
        have HO4 := hid (HO5.out _ HO2.out)
        go_quiet (fail)
        go_wp2_with (at_builtin; refine wpList_append_own _ rfl _ _ 50 rfl w.heap.size 108 i0 (.agg #[.int .i64 0, .int .i64 0, .int .i64 0]) 3 24 Tryz.underlying50 hi hz0 hz1 hz2 rfl (by decide) _ _ _ rfl (World.ownsRow.alloc HO4.out _) ⟨w4.heap.size, 0, none⟩ 1 1 [.int .i64 ((j : Int) + 1), .int .i64 ((j : Int) + 1 + 1), .int .i64 xt] rfl rfl (cell_three_new (by simp)) three_cell1 (by have := HFEW.out; unfold maxLen; omega) (by have := HFEW.out; omega) (by have := HB4.out.size; simp at this ⊢; omega) ?_; intro v1 w3 hown3 hgrow3 _)
        have HB3 := hid (below_dev HB4.out HO2.out (Nat.le_refl _) hgrow3)
        have HR3 : Hid (OwnT w3 w.heap.size v1 (devL p r (j + 1 + 1))) := by rw [HE.out]; exact OwnT.app (d := ⟨_, _, _⟩) (by rw [List.length_append, ← HM.out]; exact hown3)
        clear hown3 hgrow3
        go_roundw
        case rel => exact ⟨j + 1 + 1, by have := HLT.out; omega, by go_num, HR3, HB3⟩
        case measure => have := HLT.out; simp [intOf]; omega
      have HE := hid (dev_more HCT.out HL.out h1 (by rw [Nat.add_sub_cancel, h2, HXS.out]))
      rw [HXT.out] at HE
      have HS : ∀ wA i W3, OwnT wA w.heap.size (.slice (some ⟨g, 0, none⟩) (M + 1) uc) (l0 ++ [⟨dx, dy, dz⟩]) → Below w.heap.size w wA → (wA.drewN i).setCell ⟨g, M * 3 + 1, none⟩ (.int .i64 ((j : Int) + 1 + 1)) = W3 → OwnT W3 w.heap.size (.slice (some ⟨g, 0, none⟩) (M + 1) uc) (l0 ++ [⟨dx, (j : Int) + 1 + 1, dz⟩]) ∧ Below w.heap.size w W3 := by
        rintro wA i W3 hA hBA rfl
        have h3 : OwnT (wA.drewN i) w.heap.size (.slice (some ⟨g, 0, none⟩) (l0.length + 1) uc) (l0 ++ [⟨dx, dy, dz⟩]) := by rw [← HM.out]; exact hA
        have q1 := h3.set1 ((j : Int) + 1 + 1)
        have q3 := OwnT.below (j := M * 3 + 1) (x := .int .i64 ((j : Int) + 1 + 1)) (bdrewN (n := i) hBA) h3 (Nat.le_refl _)
        rw [← HM.out] at q1
        exact ⟨q1, q3⟩
      have HS := hid HS
      have HS2 : ∀ wA i, OwnT wA w.heap.size (.slice (some ⟨g, 0, none⟩) (M + 1) uc) (l0 ++ [⟨dx, (j : Int) + 1 + 1, dz⟩]) → Below w.heap.size w wA → OwnT ((wA.drewN i).setCell ⟨g, M * 3 + 2, none⟩ (.int .i64 xt)) w.heap.size (.slice (some ⟨g, 0, none⟩) (M + 1) uc) (l0 ++ [⟨dx, (j : Int) + 1 + 1, xt⟩]) ∧ Below w.heap.size w ((wA.drewN i).setCell ⟨g, M * 3 + 2, none⟩ (.int .i64 xt)) := by
        intro wA i hA hBA
        have h3 : OwnT (wA.drewN i) w.heap.size (.slice (some ⟨g, 0, none⟩) (l0.length + 1) uc) (l0 ++ [⟨dx, (j : Int) + 1 + 1, dz⟩]) := by rw [← HM.out]; exact hA
        have q1 := h3.set2 xt
        have q3 := OwnT.below (j := M * 3 + 2) (x := .int .i64 xt) (bdrewN (n := i) hBA) h3 (Nat.le_refl _)
        rw [← HM.out] at q1
        exact ⟨q1, q3⟩
      have HS2 := hid HS2
      have HRJ := hid h2
      have g2 : (dy == ((j : Int) + 1)) = true := by rw [h1]; simp
      have hf : dy = (j : Int) + 1 := by rw [h1]; simp
      clear h1 h2
      go_wp2_with (go_at_call 53; refine (xcold_any _ _ _ _ _ _ _ _ _ HPk.out HQM.out).mono ?_; rintro e w4 ⟨rfl, hb⟩; rw [← HCB.out, hcb]; have HB4 := hid (bstep hB.out hB.out.size hb); have HO2 := hid (OwnT.keep hrow.out hb); clear hb)
      obtain ⟨c0, c1, c2, c3⟩ := HR4.out _ HB4.out (j + 1) HLT.out
      rw [HXT.out] at c1
      rw [HXS.out] at c0
      obtain ⟨f0, _, _, _⟩ := HR4.out _ HB4.out j (by have := HLT.out; omega)
      rw [HRJ.out] at f0
      obtain ⟨e1, e2, e3, e4⟩ := HLS.out _ _ HO2.out
      simp only at e1 e2
      go_quiet (fail)
      clear c0 c1 c2 c3
      go_wp2
      generalize hW : World.setCell _ _ _ = W3
      obtain ⟨k1, k2⟩ := HS.out _ _ _ HO2.out HB4.out hW
      have HK1 := hid k1
      have HK2 := hid k2
      clear hW HS k1 k2 e1 e2 e3 e4 f0
      obtain ⟨e1, e2, e3, e4⟩ := HLS.out _ _ HK1.out
      simp only at e1 e2
      obtain ⟨c0, c1, c2, c3⟩ := HR4.out _ HK2.out (j + 1) HLT.out
      rw [HXT.out] at c1
      rcases (show (dz ≤ xt ∧ min dz xt = dz) ∨ (xt < dz ∧ min dz xt = xt) by omega) with ⟨hxy, hmn⟩ | ⟨hxy, hmn⟩
      · rw [hmn] at HE
        clear hmn
        go_quiet (fail)
        go_wp2
        go_roundw
        case rel => exact ⟨j + 1 + 1, by have := HLT.out; omega, by go_num, by rw [HE.out]; exact HK1, hid (bdrewN HK2.out)⟩
        case measure => have := HLT.out; simp [intOf]; omega
      · rw [hmn] at HE
        clear hmn
        go_quiet (fail)
        go_wp2
        go_roundw
        case rel => exact ⟨j + 1 + 1, by have := HLT.out; omega, by go_num, by rw [HE.out]; exact hid (HS2.out _ _ HK1.out HK2.out).1, hid (HS2.out _ _ HK1.out HK2.out).2⟩
        case measure => have := HLT.out; simp [intOf]; omega
    · obtain rfl : k = n := by omega
      go_wp2
      refine bodyPost_ret (v := .tuple #[u6, .int .i64 0]) (by simp [results, Tryz.results16, go_sem]) rfl ?_
      exact ⟨_, _, _, rfl, .inl ⟨HREC.out, rfl, rfl⟩, hrow.out.row, hB.out⟩
end Go.Proofs.YtihbjimnjhfpeaaGreat.Rt
