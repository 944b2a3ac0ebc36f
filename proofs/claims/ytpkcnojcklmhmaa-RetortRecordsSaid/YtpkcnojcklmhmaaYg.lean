/- Walk of retort's Deviations: contract. -/
import Derived.Test.YtpkcnojcklmhmaaYf
import Derived.Test.YtpkcnojcklmhmaaVx
namespace Go.Proofs.Ytpkcnojcklmhmaa
open Go.RowKit

def OwnT (w : World) (base : Nat) (v : Value) (l : List Tri) : Prop := w.ownsRow base 124 3 v l.length (tvs l)
theorem infoT : (Try.prog.info? 124).map (fun i => (i.zero, i.size, i.bytes)) = some (some (.agg #[.int .i64 0, .int .i64 0, .int .i64 0]), 3, 24) := by kernel_rfl
/-- A list of triples of the call's own, read. -/
def RowD (w : World) (v : Value) (l : List Tri) : Prop := RowT w v l.length fun i => l.getD i ⟨0, 0, 0⟩
theorem OwnT.row {w : World} {base : Nat} {v : Value} {l : List Tri} (h : OwnT w base v l) : RowD w v l := by
  rcases h.2 with ⟨rfl, h0⟩ | ⟨g, cap, cur, rfl, _, hg, hcap, hmx, hcs, ht⟩
  · exact ⟨none, 0, 0, 0, by rw [h0], by omega, by simp, .inl h0, fun k hk => by omega⟩
  · refine ⟨some ⟨g, 0, none⟩, g, 0, cap, rfl, hcap, hmx, .inr rfl, fun k hk => ?_⟩
    obtain ⟨h1, h2, h3⟩ := tvs_at l k hk
    rw [← ht] at h1 h2 h3
    rw [List.getElem?_take_of_lt (by omega)] at h1 h2 h3
    have e : l.getD k ⟨0, 0, 0⟩ = l[k] := by simp [List.getD, hk]
    simp only [e, Nat.zero_add]
    refine ⟨?_, ?_, ?_⟩ <;> rw [cell_of_row w g _ cur _ _ hg]
    · simpa using h1
    · simpa using h2
    · simpa using h3
theorem ownT_shape {w : World} {base : Nat} {v : Value} {l : List Tri} (h : OwnT w base v l) : ∃ ua uc, v = .slice ua l.length uc := by
  rcases h.2 with ⟨rfl, h0⟩ | ⟨g, cap, cur, rfl, _⟩
  · exact ⟨_, _, by rw [h0]⟩
  · exact ⟨_, _, rfl⟩
theorem ownT_some {w : World} {base : Nat} {v : Value} {l : List Tri} {d : Tri} (h : OwnT w base v (l ++ [d])) : ∃ g uc, v = .slice (some ⟨g, 0, none⟩) (l.length + 1) uc ∧ base ≤ g := by
  rcases h.2 with ⟨rfl, h0⟩ | ⟨g, cap, cur, rfl, hb, _⟩
  · simp at h0
  · exact ⟨g, cap, by simp, hb⟩
theorem OwnT.last {w : World} {base g uc : Nat} {l : List Tri} {d : Tri} (h : OwnT w base (.slice (some ⟨g, 0, none⟩) (l.length + 1) uc) (l ++ [d])) :
    w.cell? ⟨g, l.length * 3 + 1, none⟩ = some (.int .i64 d.y) ∧ w.cell? ⟨g, l.length * 3 + 2, none⟩ = some (.int .i64 d.z) ∧ w.frozen? ⟨g, l.length * 3 + 1, none⟩ = false ∧ w.frozen? ⟨g, l.length * 3 + 2, none⟩ = false := by
  have e : (l ++ [d]).length = l.length + 1 := by simp
  unfold OwnT at h
  rw [e] at h
  obtain ⟨h1, h2, h3⟩ := tvs_at (l ++ [d]) l.length (by simp)
  have ed : (l ++ [d])[l.length]'(by simp) = d := by simp
  rw [ed] at h1 h2 h3
  exact ⟨(h.cellAt _ (by omega)).trans h2, (h.cellAt _ (by omega)).trans h3, h.frozenAt _, h.frozenAt _⟩
theorem OwnT.set1 {w : World} {base g uc : Nat} {l : List Tri} {d : Tri} (h : OwnT w base (.slice (some ⟨g, 0, none⟩) (l.length + 1) uc) (l ++ [d])) (y : Int) :
    OwnT (w.setCell ⟨g, l.length * 3 + 1, none⟩ (.int .i64 y)) base (.slice (some ⟨g, 0, none⟩) (l.length + 1) uc) (l ++ [⟨d.x, y, d.z⟩]) := by
  have e : ∀ d : Tri, (l ++ [d]).length = l.length + 1 := by simp
  unfold OwnT at h ⊢
  rw [e] at h ⊢
  have := (h.stored (l.length * 3 + 1) (.int .i64 y)).1
  rwa [tvs_set1] at this
theorem OwnT.set2 {w : World} {base g uc : Nat} {l : List Tri} {d : Tri} (h : OwnT w base (.slice (some ⟨g, 0, none⟩) (l.length + 1) uc) (l ++ [d])) (z : Int) :
    OwnT (w.setCell ⟨g, l.length * 3 + 2, none⟩ (.int .i64 z)) base (.slice (some ⟨g, 0, none⟩) (l.length + 1) uc) (l ++ [⟨d.x, d.y, z⟩]) := by
  have e : ∀ d : Tri, (l ++ [d]).length = l.length + 1 := by simp
  unfold OwnT at h ⊢
  rw [e] at h ⊢
  have := (h.stored (l.length * 3 + 2) (.int .i64 z)).1
  rwa [tvs_set2] at this
theorem OwnT.app {w : World} {base : Nat} {v : Value} {l : List Tri} {d : Tri} (h : w.ownsRow base 124 3 v (l.length + 1) (tvs l ++ [.int .i64 d.x, .int .i64 d.y, .int .i64 d.z])) : OwnT w base v (l ++ [d]) := by
  unfold OwnT
  rw [List.length_append, tvs_last]
  exact h
theorem cell_three_new {w : World} {u v x : Value} {T : TypeId} {m : Nat} (hm : w.heap.size = m) : ∀ j y, [u, v, x][j]? = some y → (w.alloc (.cells #[u, v, x] T)).cell? ((⟨m, 0, none⟩ : Addr).add j) = some y := by
  subst hm
  intro j y h
  match j with
  | 0 => simp at h; subst h; simp [Addr.add]
  | 1 => simp at h; subst h; simp [Addr.add]
  | 2 => simp at h; subst h; simp [Addr.add]
  | j + 3 => simp at h
theorem three_cell1 {x y z : Int} : ∀ u ∈ [Value.int .i64 x, .int .i64 y, .int .i64 z], u.oneCell' = true := by intro u hu; simp at hu; rcases hu with rfl | rfl | rfl <;> rfl
theorem below_dev {W W2 w1 : World} {base nq : Nat} {v : Value} {l : List Tri} {o : Obj} (hW : Below W.heap.size W W2) (h : OwnT W2 base v l) (hb : W.heap.size ≤ base) (hg : ((W2.drewN nq).alloc o).grownBy w1 v.ownBlock) : Below W.heap.size W w1 :=
  ((bdrewN hW).alloc hW.size _).grown hg (by have := hW.size; simp; omega) (fun k hk => by have := (World.ownsRow.lt h k hk).1; omega)
theorem OwnT.below {w w0 : World} {base g uc n j : Nat} {l : List Tri} {x : Value} (hB : Below w0.heap.size w0 w) (h : OwnT w base (.slice (some ⟨g, 0, none⟩) n uc) l) (hb : w0.heap.size ≤ base) : Below w0.heap.size w0 (w.setCell ⟨g, j, none⟩ x) :=
  hB.setCell (p := ⟨g, j, none⟩) (Nat.le_trans hb (World.ownsRow.lt h g rfl).1) _
theorem bxD (w : World) (A B : Array Value) (t u : TypeId) : ((w.alloc (.cells A t)).alloc (.cells B u)).heap[w.heap.size]? = some (.cells A t (0, 0)) := by
  have ha := heap_alloc_new w (.cells A t)
  exact (Below.heap_alloc _ _ _ (Array.getElem?_eq_some_iff.1 ha).1).trans ha
/-- What Deviations answers. -/
def DevP (m : Nat) (p : Nat → St) (n : Nat) (r : Nat → Rd) (w : World) (e : Ending) (w' : World) : Prop :=
  ∃ v l c, e = .returned (.tuple #[v, .int .i64 c]) ∧ (recB m p n r = true ∧ c = 0 ∧ l = devL p r n ∨ recB m p n r = false ∧ c = 1 ∧ l = []) ∧ RowD w' v l ∧ Below w.heap.size w w'
theorem rec_step {m : Nat} {p : Nat → St} {n : Nat} {r : Nat → Rd} (h : recB m p n r = true) : n ≤ 2000 ∧ 1 ≤ m ∧ m ≤ 16 ∧ ∀ k, k < n → 0 ≤ (r k).s ∧ (r k).s < m := by
  obtain ⟨h1, h2, h3⟩ := recB_iff.1 h
  obtain ⟨hm1, hm2⟩ := progB_one h1
  refine ⟨h2, hm1, hm2, fun k hk => ?_⟩
  have := rec_bd hm1 (k := k + 1) (fun j hj => h3 j (by omega))
  have e1 : loS r (k + 1) = (r k).s := rfl
  rw [e1] at this
  omega
set_option maxRecDepth 20000 in
set_option maxHeartbeats 4000000 in
theorem dev_any (u : Value) (m : Nat) (p : Nat → St) (v : Value) (n : Nat) (r : Nat → Rd) (w : World) (hp : RowP w u m p) (hr : RowR w v n r) :
    Calls Try.prog 42 #[u, v] w (DevP m p n r w) := by
  have HK := hid (fun w1 (g : Below w.heap.size w w1) => hr.keep g)
  have HQ := hid (fun w1 (g : Below w.heap.size w w1) => (show RowP w1 u m p from RowT.keep hp g))
  have HP := hid hp
  have HR := hid hr
  have hnm := hr.most
  have hmm := RowT.most hp
  unfold maxLen at hnm hmm
  obtain ⟨pa, pc, rfl⟩ := RowT.shape hp
  obtain ⟨va, vc, rfl⟩ := hr.shape
  clear hp hr
  obtain ⟨i0, hi, hz0, hz1, hz2⟩ := info_parts infoT
  cases hrec : recB m p n r
  · have HREC := hid hrec
    go_enter Try.func42, Try.ntmps42
    go_wp2_with (go_at_call 43; refine (vrec_any _ _ _ _ _ _ _ HP.out HR.out).mono ?_; rintro e w1 ⟨rfl, hb⟩; rw [hrec]; have HB := hid hb; clear hb)
    refine bodyPost_ret (v := .tuple #[.slice none 0 0, .int .i64 1]) (by simp [results, Try.results42, go_sem]) rfl ?_
    exact ⟨_, _, _, rfl, .inr ⟨HREC.out, rfl, rfl⟩, OwnT.row (World.ownsRow_nil w1 0 _ _), HB.out⟩
  obtain ⟨hn, hm1, hm16, hst⟩ := rec_step hrec
  have HREC := hid hrec
  have HST := hid hst
  clear hst
  go_enter Try.func42, Try.ntmps42
  go_wp2_with (go_at_call 43; refine (vrec_any _ _ _ _ _ _ _ HP.out HR.out).mono ?_; rintro e w1 ⟨rfl, hb⟩; rw [hrec]; have HB := hid hb; clear hb)
  clear hrec
  go_loopw [6, 17] (fun v t wr => ∃ k : Nat, k ≤ n ∧ t = .int .i64 (k : Int) ∧ Hid (OwnT wr w.heap.size v (devL p r k)) ∧ Hid (Below w.heap.size w wr)) (fun _ t _ => n - (intOf t).toNat)
  case atStart => exact ⟨0, Nat.zero_le _, rfl, World.ownsRow_nil _ _ _ _, HB⟩
  case round =>
    obtain ⟨k, hk, rfl, hrow, hB⟩ := hrel
    by_cases hlt : k < n
    · have hlt' : (k : Int) < n := by omega
      obtain ⟨a', b', o', cap', hv, _, _, ha', hcell⟩ := HK.out _ hB.out
      injection hv with hv1 hv2 hv3
      subst hv1 hv3
      rcases ha' with h0 | rfl
      · omega
      obtain ⟨c0, c1, c2, c3⟩ := hcell k hlt
      obtain ⟨hs0, hs1⟩ := HST.out k hlt
      obtain ⟨x, hX⟩ : ∃ x, x = r k := ⟨_, rfl⟩
      rw [← hX] at c0 c1 c2 c3 hs0 hs1
      have HX := hid hX
      have HC := hid hcell
      clear hcell hX hv2
      obtain ⟨xs, xt, xc, xb⟩ := x
      simp only at c0 c1 c2 c3 hs0 hs1
      obtain ⟨q, rfl⟩ : ∃ q : Nat, xs = q := ⟨xs.toNat, by omega⟩
      have hq : q < m := by omega
      have HB1 := hid (hB.out.alloc hB.out.size (.cells #[.int .i64 q, .int .i64 xt, .int .i64 xc, .int .i64 xb] 74))
      obtain ⟨a2, b2, o2, cap2, hv, _, _, ha2, hcell2⟩ := HQ.out _ HB1.out
      injection hv with hv1 hv2 hv3
      subst hv1 hv3
      rcases ha2 with h0 | rfl
      · omega
      obtain ⟨d0, d1, d2⟩ := hcell2 q hq
      have HPQ := hid (show (p q).k = (p q).k ∧ (p q).s = (p q).s from ⟨rfl, rfl⟩)
      have HCB := hid (show coldB p ⟨q, xt, xc, xb⟩ = (decide ((p q).k = 3) && decide (xt < (p q).s)) from rfl)
      rw [HX.out] at HCB
      obtain ⟨y, hY⟩ : ∃ y, y = p q := ⟨_, rfl⟩
      simp only [← hY] at d0 d1 d2 HCB
      obtain ⟨yk, ys, yn⟩ := y
      simp only at d0 d1 d2
      clear hcell2 hv2 hY HPQ
      have HCB := hid (show coldB p (r k) = (decide (yk = 3) && decide (xt < ys)) from HCB.out)
      have HB2 := hid (HB1.out.alloc HB1.out.size (.cells #[.int .i64 yk, .int .i64 ys, .int .i64 yn] 76))
      have HO2 := hid (World.ownsRow.alloc (World.ownsRow.alloc hrow.out (.cells #[.int .i64 q, .int .i64 xt, .int .i64 xc, .int .i64 xb] 74)) (.cells #[.int .i64 yk, .int .i64 ys, .int .i64 yn] 76))
      have HLT := hid hlt
      clear hlt
      by_cases hc1 : yk = 3
      case neg =>
        have g1 : (yk != 3) = true := by simpa using hc1
        have HN : Hid (OwnT ((wr.alloc (.cells #[.int .i64 q, .int .i64 xt, .int .i64 xc, .int .i64 xb] 74)).alloc (.cells #[.int .i64 yk, .int .i64 ys, .int .i64 yn] 76)) w.heap.size u6 (devL p r (k + 1))) := by
          rw [dev_no (by rw [HCB.out, decide_eq_false hc1]; rfl)]; exact HO2.out
        go_wp2
        go_roundw
        case rel => exact ⟨k + 1, by have := HLT.out; omega, by go_num, HN, HB2⟩
        case measure => have := HLT.out; simp [intOf]; omega
      subst hc1
      by_cases hc2 : xt < ys
      case neg =>
        have g1 : ys ≤ xt := by omega
        have HN : Hid (OwnT ((wr.alloc (.cells #[.int .i64 q, .int .i64 xt, .int .i64 xc, .int .i64 xb] 74)).alloc (.cells #[.int .i64 3, .int .i64 ys, .int .i64 yn] 76)) w.heap.size u6 (devL p r (k + 1))) := by
          rw [dev_no (by rw [HCB.out, decide_eq_false hc2, Bool.and_false])]; exact HO2.out
        go_wp2
        go_roundw
        case rel => exact ⟨k + 1, by have := HLT.out; omega, by go_num, HN, HB2⟩
        case measure => have := HLT.out; simp [intOf]; omega
      have HCT := hid (show coldB p (r k) = true by rw [HCB.out, decide_eq_true hc2]; rfl)
      have HXT := hid (show (r k).t = xt by rw [← HX.out])
      have HFEW := hid (dev_ok p r k).few
      rcases last_or (devL p r k) with hl | ⟨l0, d, hl⟩
      · have HE := hid (dev_first HCT.out hl)
        rw [HXT.out] at HE
        obtain ⟨ua, uc, hu⟩ := ownT_shape hrow.out
        rw [hl] at hu
        simp only [List.length_nil] at hu
        have HO3 : Hid (OwnT ((wr.alloc (.cells #[.int .i64 q, .int .i64 xt, .int .i64 xc, .int .i64 xb] 74)).alloc (.cells #[.int .i64 3, .int .i64 ys, .int .i64 yn] 76)) w.heap.size (.slice ua ([] : List Tri).length uc) []) := by
          have h := HO2.out
          rw [hl, hu] at h
          exact h
        subst hu
        clear hl
        go_wp2
        go_quiet (fail)
        go_wp2_with (at_builtin; refine wpList_append_own _ rfl _ _ 69 rfl w.heap.size 124 i0 (.agg #[.int .i64 0, .int .i64 0, .int .i64 0]) 3 24 Try.underlying69 hi hz0 hz1 hz2 rfl (by decide) _ _ _ rfl (World.ownsRow.alloc HO3.out _) ⟨wr.heap.size + 1 + 1, 0, none⟩ 1 1 [.int .i64 k, .int .i64 ((k : Int) + 1), .int .i64 xt] rfl rfl (cell_three_new (by simp)) three_cell1 (by unfold maxLen; have := HFEW.out; simp only [List.length_append, List.length_singleton, List.length_nil] at *; omega) (by have := HFEW.out; simp only [List.length_append, List.length_singleton, List.length_nil] at *; omega) (by have := HB2.out.size; simp at this ⊢; omega) ?_; intro v1 w3 hown3 hgrow3 _)
        have HB3 := hid (below_dev HB2.out HO3.out (Nat.le_refl _) hgrow3)
        have HR3 : Hid (OwnT w3 w.heap.size v1 (devL p r (k + 1))) := by rw [HE.out]; exact OwnT.app (l := []) (d := ⟨k, (k : Int) + 1, xt⟩) hown3
        clear hown3 hgrow3
        go_roundw
        case rel => exact ⟨k + 1, by have := HLT.out; omega, by go_num, HR3, HB3⟩
        case measure => have := HLT.out; simp [intOf]; omega
      obtain ⟨dx, dy, dz⟩ := d
      obtain ⟨g, uc, hu, _⟩ := ownT_some (l := l0) (d := ⟨dx, dy, dz⟩) (by have h := hrow.out; rw [hl] at h; exact h)
      have HO3 : Hid (OwnT ((wr.alloc (.cells #[.int .i64 q, .int .i64 xt, .int .i64 xc, .int .i64 xb] 74)).alloc (.cells #[.int .i64 3, .int .i64 ys, .int .i64 yn] 76)) w.heap.size (.slice (some ⟨g, 0, none⟩) (l0.length + 1) uc) (l0 ++ [⟨dx, dy, dz⟩])) := by
        have h := HO2.out
        rw [hl, hu] at h
        exact h
      obtain ⟨e1, e2, e3, e4⟩ := HO3.out.last
      simp only at e1 e2
      have HFEW := hid (show l0.length + 1 ≤ k by have := HFEW.out; rw [hl] at this; simpa using this)
      have HL := hid hl
      subst hu
      clear hl
      obtain ⟨M, hM⟩ : ∃ M, M = l0.length := ⟨_, rfl⟩
      rw [← hM] at e1 e2 e3 e4 HFEW
      have HO4 : Hid (World.ownsRow ((wr.alloc (.cells #[.int .i64 q, .int .i64 xt, .int .i64 xc, .int .i64 xb] 74)).alloc (.cells #[.int .i64 3, .int .i64 ys, .int .i64 yn] 76)) w.heap.size 124 3 (.slice (some ⟨g, 0, none⟩) (M + 1) uc) (M + 1) (tvs (l0 ++ [⟨dx, dy, dz⟩]))) := by
        have h := HO3.out
        unfold OwnT at h
        rw [List.length_append, ← hM] at h
        exact h
      have hMk := HFEW.out
      have hMi : (M : Int) < (M : Int) + 1 := by omega
      rw [← hM]
      by_cases h1 : dy = (k : Int)
      case neg =>
        have HE := hid (dev_next HCT.out HL.out (fun h => h1 h.1))
        rw [HXT.out] at HE
        have HM := hid hM
        clear hM
        have g2 : (dy == (k : Int)) = false := by simpa using h1
        go_wp2
        go_quiet (fail)
        go_wp2_with (at_builtin; refine wpList_append_own _ rfl _ _ 69 rfl w.heap.size 124 i0 (.agg #[.int .i64 0, .int .i64 0, .int .i64 0]) 3 24 Try.underlying69 hi hz0 hz1 hz2 rfl (by decide) _ _ _ rfl (World.ownsRow.alloc HO4.out _) ⟨wr.heap.size + 1 + 1, 0, none⟩ 1 1 [.int .i64 k, .int .i64 ((k : Int) + 1), .int .i64 xt] rfl rfl (cell_three_new (by simp)) three_cell1 (by have := HFEW.out; unfold maxLen; omega) (by have := HFEW.out; omega) (by have := HB2.out.size; simp at this ⊢; omega) ?_; intro v1 w3 hown3 hgrow3 _)
        have HB3 := hid (below_dev HB2.out (l := l0 ++ [⟨dx, dy, dz⟩]) (by rw [← HM.out] at HO3; exact HO3.out) (Nat.le_refl _) hgrow3)
        have HR3 : Hid (OwnT w3 w.heap.size v1 (devL p r (k + 1))) := by rw [HE.out]; exact OwnT.app (d := ⟨_, _, _⟩) (by rw [List.length_append, ← HM.out]; exact hown3)
        clear hown3 hgrow3
        go_roundw
        case rel => exact ⟨k + 1, by have := HLT.out; omega, by go_num, HR3, HB3⟩
        case measure => have := HLT.out; simp [intOf]; omega
      obtain ⟨j, rfl⟩ : ∃ j, k = j + 1 := ⟨k - 1, by omega⟩
      obtain ⟨f0, _, _, _⟩ := (HC.out j (by have := HLT.out; omega)).keep (((Below.refl wr.heap.size wr).alloc (Nat.le_refl _) (.cells #[.int .i64 q, .int .i64 xt, .int .i64 xc, .int .i64 xb] 74)).alloc (by simp) (.cells #[.int .i64 3, .int .i64 ys, .int .i64 yn] 76))
      have hj1 : (j : Int) + 1 < n := by have := HLT.out; omega
      have hj2 : (j : Int) < n := by omega
      have hj3 : IntKind.i64.wrap (j : Int) = (j : Int) := IntWalk.i64_in _ ⟨by omega, by omega⟩
      have hjM : M ≤ j := by omega
      clear hlt' hMk
      by_cases h2 : (r j).s = q
      case neg =>
        have HE := hid (dev_next HCT.out HL.out (fun h => h2 (by rw [Nat.add_sub_cancel] at h; rw [h.2, ← HX.out])))
        rw [HXT.out] at HE
        have HM := hid hM
        clear hM
        have g3 : ((r j).s == (q : Int)) = false := by simpa using h2
        generalize (r j).s = s0 at f0 g3
        have g2 : (dy == ((j : Int) + 1)) = true := by rw [h1]; simp
        have hf : dy = (j : Int) + 1 := by rw [h1]; simp
        clear h1 h2
        go_wp2
        go_quiet (fail)
        go_wp2_with (at_builtin; refine wpList_append_own _ rfl _ _ 69 rfl w.heap.size 124 i0 (.agg #[.int .i64 0, .int .i64 0, .int .i64 0]) 3 24 Try.underlying69 hi hz0 hz1 hz2 rfl (by decide) _ _ _ rfl (World.ownsRow.alloc HO4.out _) ⟨wr.heap.size + 1 + 1, 0, none⟩ 1 1 [.int .i64 ((j : Int) + 1), .int .i64 ((j : Int) + 1 + 1), .int .i64 xt] rfl rfl (cell_three_new (by simp)) three_cell1 (by have := HFEW.out; unfold maxLen; omega) (by have := HFEW.out; omega) (by have := HB2.out.size; simp at this ⊢; omega) ?_; intro v1 w3 hown3 hgrow3 _)
        have HB3 := hid (below_dev HB2.out (l := l0 ++ [⟨dx, dy, dz⟩]) (by rw [← HM.out] at HO3; exact HO3.out) (Nat.le_refl _) hgrow3)
        have HR3 : Hid (OwnT w3 w.heap.size v1 (devL p r (j + 1 + 1))) := by rw [HE.out]; exact OwnT.app (d := ⟨_, _, _⟩) (by rw [List.length_append, ← HM.out]; exact hown3)
        clear hown3 hgrow3
        go_roundw
        case rel => exact ⟨j + 1 + 1, by have := HLT.out; omega, by go_num, HR3, HB3⟩
        case measure => have := HLT.out; simp [intOf]; omega
      have HE := hid (dev_more HCT.out HL.out h1 (by rw [Nat.add_sub_cancel, h2, ← HX.out]))
      rw [HXT.out] at HE
      have hgw : g ≠ wr.heap.size := by have := (World.ownsRow.lt hrow.out g rfl).2; omega
      have HS : ∀ i W3, (((wr.alloc (.cells #[.int .i64 q, .int .i64 xt, .int .i64 xc, .int .i64 xb] 74)).alloc (.cells #[.int .i64 3, .int .i64 ys, .int .i64 yn] 76)).drewN i).setCell ⟨g, M * 3 + 1, none⟩ (.int .i64 ((j : Int) + 1 + 1)) = W3 → W3.cell? ⟨wr.heap.size, 1, none⟩ = some (.int .i64 xt) ∧ W3.cell? ⟨g, M * 3 + 2, none⟩ = some (.int .i64 dz) ∧ W3.frozen? ⟨g, M * 3 + 2, none⟩ = false ∧ ∀ z, min dz xt = z → Hid (OwnT (W3.setCell ⟨g, M * 3 + 2, none⟩ (.int .i64 z)) w.heap.size (.slice (some ⟨g, 0, none⟩) (M + 1) uc) (devL p r (j + 1 + 1))) ∧ Hid (Below w.heap.size w (W3.setCell ⟨g, M * 3 + 2, none⟩ (.int .i64 z))) := by
        rintro i W3 rfl
        have h3 : OwnT (((wr.alloc (.cells #[.int .i64 q, .int .i64 xt, .int .i64 xc, .int .i64 xb] 74)).alloc (.cells #[.int .i64 3, .int .i64 ys, .int .i64 yn] 76)).drewN i) w.heap.size (.slice (some ⟨g, 0, none⟩) (l0.length + 1) uc) (l0 ++ [⟨dx, dy, dz⟩]) := HO3.out
        have q1 := h3.set1 ((j : Int) + 1 + 1)
        obtain ⟨_, k2, _, k4⟩ := q1.last
        rw [← hM] at k2 k4
        refine ⟨?_, k2, k4, fun z hz => ?_⟩
        · have hh := heap_setCell_other (((wr.alloc (.cells #[.int .i64 q, .int .i64 xt, .int .i64 xc, .int .i64 xb] 74)).alloc (.cells #[.int .i64 3, .int .i64 ys, .int .i64 yn] 76)).drewN i) ⟨g, M * 3 + 1, none⟩ wr.heap.size (.int .i64 ((j : Int) + 1 + 1)) (fun e => hgw e.symm)
          rw [World.cell?_of_block hh]
          exact cell_of_row _ _ 1 _ _ _ (bxD wr _ _ _ _)
        · have q2 := q1.set2 z
          rw [← hM] at q2
          refine ⟨?_, ?_⟩
          · show OwnT _ _ _ _
            rw [HE.out]
            simp only [hz]
            exact q2
          · have q3 := OwnT.below (j := M * 3 + 2) (x := .int .i64 z) (OwnT.below (bdrewN HB2.out) h3 (Nat.le_refl _)) q1 (Nat.le_refl _)
            rw [← hM] at q3
            exact q3
      have HS := hid HS
      have HM := hid hM
      clear hM
      rw [h2] at f0
      have g2 : (dy == ((j : Int) + 1)) = true := by rw [h1]; simp
      have hf : dy = (j : Int) + 1 := by rw [h1]; simp
      clear h1 h2
      subst hf
      rcases (show (dz ≤ xt ∧ min dz xt = dz) ∨ (xt < dz ∧ min dz xt = xt) by omega) with ⟨hxy, hmn⟩ | ⟨hxy, hmn⟩
      · have HMN := hid hmn
        clear hmn
        go_wp2
        go_quiet (fail)
        go_wp2
        generalize hW : World.setCell _ _ _ = W3
        obtain ⟨k1, k2, k3, k4⟩ := HS.out _ _ hW
        obtain ⟨HS1, HS2⟩ := k4 _ HMN.out
        clear hW k4 HS
        go_region
        go_wp2
        go_roundw
        case rel => exact ⟨j + 1 + 1, by have := HLT.out; omega, by go_num, HS1, hid HS2.out.drew⟩
        case measure => have := HLT.out; simp [intOf]; omega
      · have HMN := hid hmn
        clear hmn
        go_wp2
        go_quiet (fail)
        go_wp2
        generalize hW : World.setCell _ _ _ = W3
        obtain ⟨k1, k2, k3, k4⟩ := HS.out _ _ hW
        obtain ⟨HS1, HS2⟩ := k4 _ HMN.out
        clear hW k4 HS
        go_region
        go_wp2
        go_roundw
        case rel => exact ⟨j + 1 + 1, by have := HLT.out; omega, by go_num, HS1, hid HS2.out.drew⟩
        case measure => have := HLT.out; simp [intOf]; omega
    · obtain rfl : k = n := by omega
      go_wp2
      refine bodyPost_ret (v := .tuple #[u6, .int .i64 0]) (by simp [results, Try.results42, go_sem]) rfl ?_
      exact ⟨_, _, _, rfl, .inl ⟨HREC.out, rfl, rfl⟩, hrow.out.row, hB.out⟩
end Go.Proofs.Ytpkcnojcklmhmaa
