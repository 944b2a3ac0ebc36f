/- Texts of this seat, one behind the other. -/
import Derived.Test.YtihbjimnjhfpeaaGreatG38
import Derived.Test.YtihbjimnjhfpeaaGreatG37
/- Walk of retort's Deviations: contract. -/
namespace Go.Proofs.YtihbjimnjhfpeaaGreat.Rt
open Go.RowKit

def OwnT (w : World) (base : Nat) (v : Value) (l : List Tri) : Prop := w.ownsRow base 108 3 v l.length (tvs l)
theorem infoT : (Tryz.prog.info? 108).map (fun i => (i.zero, i.size, i.bytes)) = some (some (.agg #[.int .i64 0, .int .i64 0, .int .i64 0]), 3, 24) := by kernel_rfl
/-- A list of triples of the call's own, read. -/
def RowD (w : World) (v : Value) (l : List Tri) : Prop := RowT w v l.length fun i => l.getD i ⟨0, 0, 0⟩
theorem OwnT.row {w : World} {base : Nat} {v : Value} {l : List Tri} (h : OwnT w base v l) : RowD w v l := by
  rcases h.2 with ⟨rfl, h0⟩ | ⟨g, cap, cur, rfl, _, hg, hcap, hmx, hcs, ht⟩
  · exact ⟨none, 0, 0, 0, by rw [h0], by omega, by simp, .inl h0, fun k hk => by omega⟩
  · refine ⟨some ⟨g, 0, none⟩, g, 0, cap, rfl, hcap, hmx, .inr rfl, fun k hk => ?_⟩
    obtain ⟨h1, h2, h3⟩ := tvs_at l k hk
    rw [← ht] at h1 h2 h3
    rw [List.getElem?_take_of_lt (by omega)] at h1 h2 h3
    have e : l.getD k ⟨0, 0, 0⟩ = l[k] := by simp [List.getD, hk]
    simp only [e, Nat.zero_add]
    refine ⟨?_, ?_, ?_⟩ <;> rw [cell_of_row w g _ cur _ _ hg]
    · simpa using h1
    · simpa using h2
    · simpa using h3
theorem ownT_shape {w : World} {base : Nat} {v : Value} {l : List Tri} (h : OwnT w base v l) : ∃ ua uc, v = .slice ua l.length uc := by
  rcases h.2 with ⟨rfl, h0⟩ | ⟨g, cap, cur, rfl, _⟩
  · exact ⟨_, _, by rw [h0]⟩
  · exact ⟨_, _, rfl⟩
theorem ownT_some {w : World} {base : Nat} {v : Value} {l : List Tri} {d : Tri} (h : OwnT w base v (l ++ [d])) : ∃ g uc, v = .slice (some ⟨g, 0, none⟩) (l.length + 1) uc ∧ base ≤ g := by
  rcases h.2 with ⟨rfl, h0⟩ | ⟨g, cap, cur, rfl, hb, _⟩
  · simp at h0
  · exact ⟨g, cap, by simp, hb⟩
theorem OwnT.last {w : World} {base g uc : Nat} {l : List Tri} {d : Tri} (h : OwnT w base (.slice (some ⟨g, 0, none⟩) (l.length + 1) uc) (l ++ [d])) :
    w.cell? ⟨g, l.length * 3 + 1, none⟩ = some (.int .i64 d.y) ∧ w.cell? ⟨g, l.length * 3 + 2, none⟩ = some (.int .i64 d.z) ∧ w.frozen? ⟨g, l.length * 3 + 1, none⟩ = false ∧ w.frozen? ⟨g, l.length * 3 + 2, none⟩ = false := by
  have e : (l ++ [d]).length = l.length + 1 := by simp
  unfold OwnT at h
  rw [e] at h
  obtain ⟨h1, h2, h3⟩ := tvs_at (l ++ [d]) l.length (by simp)
  have ed : (l ++ [d])[l.length]'(by simp) = d := by simp
  rw [ed] at h1 h2 h3
  exact ⟨(h.cellAt _ (by omega)).trans h2, (h.cellAt _ (by omega)).trans h3, h.frozenAt _, h.frozenAt _⟩
theorem OwnT.set1 {w : World} {base g uc : Nat} {l : List Tri} {d : Tri} (h : OwnT w base (.slice (some ⟨g, 0, none⟩) (l.length + 1) uc) (l ++ [d])) (y : Int) :
    OwnT (w.setCell ⟨g, l.length * 3 + 1, none⟩ (.int .i64 y)) base (.slice (some ⟨g, 0, none⟩) (l.length + 1) uc) (l ++ [⟨d.x, y, d.z⟩]) := by
  have e : ∀ d : Tri, (l ++ [d]).length = l.length + 1 := by simp
  unfold OwnT at h ⊢
  rw [e] at h ⊢
  have := (h.stored (l.length * 3 + 1) (.int .i64 y)).1
  rwa [tvs_set1] at this
theorem OwnT.set2 {w : World} {base g uc : Nat} {l : List Tri} {d : Tri} (h : OwnT w base (.slice (some ⟨g, 0, none⟩) (l.length + 1) uc) (l ++ [d])) (z : Int) :
    OwnT (w.setCell ⟨g, l.length * 3 + 2, none⟩ (.int .i64 z)) base (.slice (some ⟨g, 0, none⟩) (l.length + 1) uc) (l ++ [⟨d.x, d.y, z⟩]) := by
  have e : ∀ d : Tri, (l ++ [d]).length = l.length + 1 := by simp
  unfold OwnT at h ⊢
  rw [e] at h ⊢
  have := (h.stored (l.length * 3 + 2) (.int .i64 z)).1
  rwa [tvs_set2] at this
theorem OwnT.app {w : World} {base : Nat} {v : Value} {l : List Tri} {d : Tri} (h : w.ownsRow base 108 3 v (l.length + 1) (tvs l ++ [.int .i64 d.x, .int .i64 d.y, .int .i64 d.z])) : OwnT w base v (l ++ [d]) := by
  unfold OwnT
  rw [List.length_append, tvs_last]
  exact h
theorem cell_three_new {w : World} {u v x : Value} {T : TypeId} {m : Nat} (hm : w.heap.size = m) : ∀ j y, [u, v, x][j]? = some y → (w.alloc (.cells #[u, v, x] T)).cell? ((⟨m, 0, none⟩ : Addr).add j) = some y := by
  subst hm
  intro j y h
  match j with
  | 0 => simp at h; subst h; simp [Addr.add]
  | 1 => simp at h; subst h; simp [Addr.add]
  | 2 => simp at h; subst h; simp [Addr.add]
  | j + 3 => simp at h
theorem three_cell1 {x y z : Int} : ∀ u ∈ [Value.int .i64 x, .int .i64 y, .int .i64 z], u.oneCell' = true := by intro u hu; simp at hu; rcases hu with rfl | rfl | rfl <;> rfl
theorem below_dev {W W2 w1 : World} {base nq : Nat} {v : Value} {l : List Tri} {o : Obj} (hW : Below W.heap.size W W2) (h : OwnT W2 base v l) (hb : W.heap.size ≤ base) (hg : ((W2.drewN nq).alloc o).grownBy w1 v.ownBlock) : Below W.heap.size W w1 :=
  ((bdrewN hW).alloc hW.size _).grown hg (by have := hW.size; simp; omega) (fun k hk => by have := (World.ownsRow.lt h k hk).1; omega)
theorem OwnT.below {w w0 : World} {base g uc n j : Nat} {l : List Tri} {x : Value} (hB : Below w0.heap.size w0 w) (h : OwnT w base (.slice (some ⟨g, 0, none⟩) n uc) l) (hb : w0.heap.size ≤ base) : Below w0.heap.size w0 (w.setCell ⟨g, j, none⟩ x) :=
  hB.setCell (p := ⟨g, j, none⟩) (Nat.le_trans hb (World.ownsRow.lt h g rfl).1) _
theorem bxD (w : World) (A B : Array Value) (t u : TypeId) : ((w.alloc (.cells A t)).alloc (.cells B u)).heap[w.heap.size]? = some (.cells A t (0, 0)) := by
  have ha := heap_alloc_new w (.cells A t)
  exact (Below.heap_alloc _ _ _ (Array.getElem?_eq_some_iff.1 ha).1).trans ha
/-- What Deviations answers. -/
def DevP (m : Nat) (p : Nat → St) (n : Nat) (r : Nat → Rd) (w : World) (e : Ending) (w' : World) : Prop :=
  ∃ v l c, e = .returned (.tuple #[v, .int .i64 c]) ∧ (recB m p n r = true ∧ c = 0 ∧ l = devL p r n ∨ recB m p n r = false ∧ c = 1 ∧ l = []) ∧ RowD w' v l ∧ Below w.heap.size w w'
theorem rec_step {m : Nat} {p : Nat → St} {n : Nat} {r : Nat → Rd} (h : recB m p n r = true) : n ≤ 2000 ∧ 1 ≤ m ∧ m ≤ 16 ∧ ∀ k, k < n → 0 ≤ (r k).s ∧ (r k).s < m := by
  obtain ⟨h1, h2, h3⟩ := recB_iff.1 h
  obtain ⟨hm1, hm2⟩ := progB_one h1
  refine ⟨h2, hm1, hm2, fun k hk => ?_⟩
  have := rec_bd hm1 (k := k + 1) (fun j hj => h3 j (by omega))
  have e1 : loS r (k + 1) = (r k).s := rfl
  rw [e1] at this
  omega
set_option maxRecDepth 20000 in
set_option maxHeartbeats 4000000 in
theorem dev_any (u : Value) (m : Nat) (p : Nat → St) (v : Value) (n : Nat) (r : Nat → Rd) (w : World) (hp : RowP w u m p) (hr : RowR w v n r) :
    Calls Tryz.prog 134 #[u, v] w (DevP m p n r w) := by
  have HK := hid (fun w1 (g : Below w.heap.size w w1) => hr.keep g)
  have HQ := hid (fun w1 (g : Below w.heap.size w w1) => (show RowP w1 u m p from RowT.keep hp g))
  have HP := hid hp
  have HR := hid hr
  have hnm := hr.most
  have hmm := RowT.most hp
  unfold maxLen at hnm hmm
  obtain ⟨pa, pc, rfl⟩ := RowT.shape hp
  obtain ⟨va, vc, rfl⟩ := hr.shape
  clear hp hr
  obtain ⟨i0, hi, hz0, hz1, hz2⟩ := info_parts infoT
  cases hrec : recB m p n r
  · have HREC := hid hrec
    go_enter Tryz.func134, Tryz.ntmps134
    go_wp2_with (go_at_call 41; refine (vrec_any _ _ _ _ _ _ _ HP.out HR.out).mono ?_; rintro e w1 ⟨rfl, hb⟩; rw [hrec]; have HB := hid hb; clear hb)
    refine bodyPost_ret (v := .tuple #[.slice none 0 0, .int .i64 1]) (by simp [results, Tryz.results134, go_sem]) rfl ?_
    exact ⟨_, _, _, rfl, .inr ⟨HREC.out, rfl, rfl⟩, OwnT.row (World.ownsRow_nil w1 0 _ _), HB.out⟩
  obtain ⟨hn, hm1, hm16, hst⟩ := rec_step hrec
  have HREC := hid hrec
  have HST := hid hst
  clear hst
  go_enter Tryz.func134, Tryz.ntmps134
  go_wp2_with (go_at_call 41; refine (vrec_any _ _ _ _ _ _ _ HP.out HR.out).mono ?_; rintro e w1 ⟨rfl, hb⟩; rw [hrec]; have HB := hid hb; clear hb)
  clear hrec
  go_loopw [6, 17] (fun v t wr => ∃ k : Nat, k ≤ n ∧ t = .int .i64 (k : Int) ∧ Hid (OwnT wr w.heap.size v (devL p r k)) ∧ Hid (Below w.heap.size w wr)) (fun _ t _ => n - (intOf t).toNat)
  case atStart => exact ⟨0, Nat.zero_le _, rfl, World.ownsRow_nil _ _ _ _, HB⟩
  case round =>
    obtain ⟨k, hk, rfl, hrow, hB⟩ := hrel
    by_cases hlt : k < n
    · have hlt' : (k : Int) < n := by omega
      obtain ⟨a', b', o', cap', hv, _, _, ha', hcell⟩ := HK.out _ hB.out
      injection hv with hv1 hv2 hv3
      subst hv1 hv3
      rcases ha' with h0 | rfl
      · omega
      obtain ⟨c0, c1, c2, c3⟩ := hcell k hlt
      obtain ⟨hs0, hs1⟩ := HST.out k hlt
      obtain ⟨x, hX⟩ : ∃ x, x = r k := ⟨_, rfl⟩
      rw [← hX] at c0 c1 c2 c3 hs0 hs1
      have HX := hid hX
      have HC := hid hcell
      clear hcell hX hv2
      obtain ⟨xs, xt, xc, xb⟩ := x
      simp only at c0 c1 c2 c3 hs0 hs1
      obtain ⟨q, rfl⟩ : ∃ q : Nat, xs = q := ⟨xs.toNat, by omega⟩
      have hq : q < m := by omega
      have HB1 := hid (hB.out.alloc hB.out.size (.cells #[.int .i64 q, .int .i64 xt, .int .i64 xc, .int .i64 xb] 56))
      obtain ⟨a2, b2, o2, cap2, hv, _, _, ha2, hcell2⟩ := HQ.out _ HB1.out
      injection hv with hv1 hv2 hv3
      subst hv1 hv3
      rcases ha2 with h0 | rfl
      · omega
      obtain ⟨d0, d1, d2⟩ := hcell2 q hq
      have HPQ := hid (show (p q).k = (p q).k ∧ (p q).s = (p q).s from ⟨rfl, rfl⟩)
      have HCB := hid (show coldB p ⟨q, xt, xc, xb⟩ = (decide ((p q).k = 3) && decide (xt < (p q).s)) from rfl)
      rw [HX.out] at HCB
      obtain ⟨y, hY⟩ : ∃ y, y = p q := ⟨_, rfl⟩
      simp only [← hY] at d0 d1 d2 HCB
      obtain ⟨yk, ys, yn⟩ := y
      simp only at d0 d1 d2
      clear hcell2 hv2 hY HPQ
      have HCB := hid (show coldB p (r k) = (decide (yk = 3) && decide (xt < ys)) from HCB.out)
      have HB2 := hid (HB1.out.alloc HB1.out.size (.cells #[.int .i64 yk, .int .i64 ys, .int .i64 yn] 105))
      have HO2 := hid (World.ownsRow.alloc (World.ownsRow.alloc hrow.out (.cells #[.int .i64 q, .int .i64 xt, .int .i64 xc, .int .i64 xb] 56)) (.cells #[.int .i64 yk, .int .i64 ys, .int .i64 yn] 105))
      have HLT := hid hlt
      clear hlt
      by_cases hc1 : yk = 3
      case neg =>
        have g1 : (yk != 3) = true := by simpa using hc1
        have HN : Hid (OwnT ((wr.alloc (.cells #[.int .i64 q, .int .i64 xt, .int .i64 xc, .int .i64 xb] 56)).alloc (.cells #[.int .i64 yk, .int .i64 ys, .int .i64 yn] 105)) w.heap.size u6 (devL p r (k + 1))) := by
          rw [dev_no (by rw [HCB.out, decide_eq_false hc1]; rfl)]; exact HO2.out
        go_wp2
        go_roundw
        case rel => exact ⟨k + 1, by have := HLT.out; omega, by go_num, HN, HB2⟩
        case measure => have := HLT.out; simp [intOf]; omega
      subst hc1
      by_cases hc2 : xt < ys
      case neg =>
        have g1 : ys ≤ xt := by omega
        have HN : Hid (OwnT ((wr.alloc (.cells #[.int .i64 q, .int .i64 xt, .int .i64 xc, .int .i64 xb] 56)).alloc (.cells #[.int .i64 3, .int .i64 ys, .int .i64 yn] 105)) w.heap.size u6 (devL p r (k + 1))) := by
          rw [dev_no (by rw [HCB.out, decide_eq_false hc2, Bool.and_false])]; exact HO2.out
        go_wp2
        go_roundw
        case rel => exact ⟨k + 1, by have := HLT.out; omega, by go_num, HN, HB2⟩
        case measure => have := HLT.out; simp [intOf]; omega
      have HCT := hid (show coldB p (r k) = true by rw [HCB.out, decide_eq_true hc2]; rfl)
      have HXT := hid (show (r k).t = xt by rw [← HX.out])
      have HFEW := hid (dev_ok p r k).few
      rcases last_or (devL p r k) with hl | ⟨l0, d, hl⟩
      · have HE := hid (dev_first HCT.out hl)
        rw [HXT.out] at HE
        obtain ⟨ua, uc, hu⟩ := ownT_shape hrow.out
        rw [hl] at hu
        simp only [List.length_nil] at hu
        have HO3 : Hid (OwnT ((wr.alloc (.cells #[.int .i64 q, .int .i64 xt, .int .i64 xc, .int .i64 xb] 56)).alloc (.cells #[.int .i64 3, .int .i64 ys, .int .i64 yn] 105)) w.heap.size (.slice ua ([] : List Tri).length uc) []) := by
          have h := HO2.out
          rw [hl, hu] at h
          exact h
        subst hu
        clear hl
        go_wp2
        go_quiet (fail)
        go_wp2_with (at_builtin; refine wpList_append_own _ rfl _ _ 50 rfl w.heap.size 108 i0 (.agg #[.int .i64 0, .int .i64 0, .int .i64 0]) 3 24 Tryz.underlying50 hi hz0 hz1 hz2 rfl (by decide) _ _ _ rfl (World.ownsRow.alloc HO3.out _) ⟨wr.heap.size + 1 + 1, 0, none⟩ 1 1 [.int .i64 k, .int .i64 ((k : Int) + 1), .int .i64 xt] rfl rfl (cell_three_new (by simp)) three_cell1 (by unfold maxLen; have := HFEW.out; simp only [List.length_nil] at *; omega) (by have := HFEW.out; simp only [List.length_nil] at *; omega) (by have := HB2.out.size; simp at this ⊢; omega) ?_; intro v1 w3 hown3 hgrow3 _)
        have HB3 := hid (below_dev HB2.out HO3.out (Nat.le_refl _) hgrow3)
        have HR3 : Hid (OwnT w3 w.heap.size v1 (devL p r (k + 1))) := by rw [HE.out]; exact OwnT.app (l := []) (d := ⟨k, (k : Int) + 1, xt⟩) hown3
        clear hown3 hgrow3
        go_roundw
        case rel => exact ⟨k + 1, by have := HLT.out; omega, by go_num, HR3, HB3⟩
        case measure => have := HLT.out; simp [intOf]; omega
      obtain ⟨dx, dy, dz⟩ := d
      obtain ⟨g, uc, hu, _⟩ := ownT_some (l := l0) (d := ⟨dx, dy, dz⟩) (by have h := hrow.out; rw [hl] at h; exact h)
      have HO3 : Hid (OwnT ((wr.alloc (.cells #[.int .i64 q, .int .i64 xt, .int .i64 xc, .int .i64 xb] 56)).alloc (.cells #[.int .i64 3, .int .i64 ys, .int .i64 yn] 105)) w.heap.size (.slice (some ⟨g, 0, none⟩) (l0.length + 1) uc) (l0 ++ [⟨dx, dy, dz⟩])) := by
        have h := HO2.out
        rw [hl, hu] at h
        exact h
      obtain ⟨e1, e2, e3, e4⟩ := HO3.out.last
      simp only at e1 e2
      have HFEW := hid (show l0.length + 1 ≤ k by have := HFEW.out; rw [hl] at this; simpa using this)
      have HL := hid hl
      subst hu
      clear hl
      obtain ⟨M, hM⟩ : ∃ M, M = l0.length := ⟨_, rfl⟩
      rw [← hM] at e1 e2 e3 e4 HFEW
      have HO4 : Hid (World.ownsRow ((wr.alloc (.cells #[.int .i64 q, .int .i64 xt, .int .i64 xc, .int .i64 xb] 56)).alloc (.cells #[.int .i64 3, .int .i64 ys, .int .i64 yn] 105)) w.heap.size 108 3 (.slice (some ⟨g, 0, none⟩) (M + 1) uc) (M + 1) (tvs (l0 ++ [⟨dx, dy, dz⟩]))) := by
        have h := HO3.out
        unfold OwnT at h
        rw [List.length_append, ← hM] at h
        exact h
      have hMk := HFEW.out
      have hMi : (M : Int) < (M : Int) + 1 := by omega
      rw [← hM]
      by_cases h1 : dy = (k : Int)
      case neg =>
        have HE := hid (dev_next HCT.out HL.out (fun h => h1 h.1))
        rw [HXT.out] at HE
        have HM := hid hM
        clear hM
        have g2 : (dy == (k : Int)) = false := by simpa using h1
        go_wp2
        go_quiet (fail)
        go_wp2_with (at_builtin; refine wpList_append_own _ rfl _ _ 50 rfl w.heap.size 108 i0 (.agg #[.int .i64 0, .int .i64 0, .int .i64 0]) 3 24 Tryz.underlying50 hi hz0 hz1 hz2 rfl (by decide) _ _ _ rfl (World.ownsRow.alloc HO4.out _) ⟨wr.heap.size + 1 + 1, 0, none⟩ 1 1 [.int .i64 k, .int .i64 ((k : Int) + 1), .int .i64 xt] rfl rfl (cell_three_new (by simp)) three_cell1 (by have := HFEW.out; unfold maxLen; omega) (by have := HFEW.out; omega) (by have := HB2.out.size; simp at this ⊢; omega) ?_; intro v1 w3 hown3 hgrow3 _)
        have HB3 := hid (below_dev HB2.out (l := l0 ++ [⟨dx, dy, dz⟩]) (by rw [← HM.out] at HO3; exact HO3.out) (Nat.le_refl _) hgrow3)
        have HR3 : Hid (OwnT w3 w.heap.size v1 (devL p r (k + 1))) := by rw [HE.out]; exact OwnT.app (d := ⟨_, _, _⟩) (by rw [List.length_append, ← HM.out]; exact hown3)
        clear hown3 hgrow3
        go_roundw
        case rel => exact ⟨k + 1, by have := HLT.out; omega, by go_num, HR3, HB3⟩
        case measure => have := HLT.out; simp [intOf]; omega
      obtain ⟨j, rfl⟩ : ∃ j, k = j + 1 := ⟨k - 1, by omega⟩
      obtain ⟨f0, _, _, _⟩ := (HC.out j (by have := HLT.out; omega)).keep (((Below.refl wr.heap.size wr).alloc (Nat.le_refl _) (.cells #[.int .i64 q, .int .i64 xt, .int .i64 xc, .int .i64 xb] 56)).alloc (by simp) (.cells #[.int .i64 3, .int .i64 ys, .int .i64 yn] 105))
      have hj1 : (j : Int) + 1 < n := by have := HLT.out; omega
      have hj2 : (j : Int) < n := by omega
      have hj3 : IntKind.i64.wrap (j : Int) = (j : Int) := IntWalk.i64_in _ ⟨by omega, by omega⟩
      have hjM : M ≤ j := by omega
      clear hlt' hMk
      by_cases h2 : (r j).s = q
      case neg =>
        have HE := hid (dev_next HCT.out HL.out (fun h => h2 (by rw [Nat.add_sub_cancel] at h; rw [h.2, ← HX.out])))
        rw [HXT.out] at HE
        have HM := hid hM
        clear hM
        have g3 : ((r j).s == (q : Int)) = false := by simpa using h2
        generalize (r j).s = s0 at f0 g3
        have g2 : (dy == ((j : Int) + 1)) = true := by rw [h1]; simp
        have hf : dy = (j : Int) + 1 := by rw [h1]; simp
        clear h1 h2
        go_wp2
        go_quiet (fail)
        go_wp2_with (at_builtin; refine wpList_append_own _ rfl _ _ 50 rfl w.heap.size 108 i0 (.agg #[.int .i64 0, .int .i64 0, .int .i64 0]) 3 24 Tryz.underlying50 hi hz0 hz1 hz2 rfl (by decide) _ _ _ rfl (World.ownsRow.alloc HO4.out _) ⟨wr.heap.size + 1 + 1, 0, none⟩ 1 1 [.int .i64 ((j : Int) + 1), .int .i64 ((j : Int) + 1 + 1), .int .i64 xt] rfl rfl (cell_three_new (by simp)) three_cell1 (by have := HFEW.out; unfold maxLen; omega) (by have := HFEW.out; omega) (by have := HB2.out.size; simp at this ⊢; omega) ?_; intro v1 w3 hown3 hgrow3 _)
        have HB3 := hid (below_dev HB2.out (l := l0 ++ [⟨dx, dy, dz⟩]) (by rw [← HM.out] at HO3; exact HO3.out) (Nat.le_refl _) hgrow3)
        have HR3 : Hid (OwnT w3 w.heap.size v1 (devL p r (j + 1 + 1))) := by rw [HE.out]; exact OwnT.app (d := ⟨_, _, _⟩) (by rw [List.length_append, ← HM.out]; exact hown3)
        clear hown3 hgrow3
        go_roundw
        case rel => exact ⟨j + 1 + 1, by have := HLT.out; omega, by go_num, HR3, HB3⟩
        case measure => have := HLT.out; simp [intOf]; omega
      have HE := hid (dev_more HCT.out HL.out h1 (by rw [Nat.add_sub_cancel, h2, ← HX.out]))
      rw [HXT.out] at HE
      have hgw : g ≠ wr.heap.size := by have := (World.ownsRow.lt hrow.out g rfl).2; omega
      have HS : ∀ i W3, (((wr.alloc (.cells #[.int .i64 q, .int .i64 xt, .int .i64 xc, .int .i64 xb] 56)).alloc (.cells #[.int .i64 3, .int .i64 ys, .int .i64 yn] 105)).drewN i).setCell ⟨g, M * 3 + 1, none⟩ (.int .i64 ((j : Int) + 1 + 1)) = W3 → W3.cell? ⟨wr.heap.size, 1, none⟩ = some (.int .i64 xt) ∧ W3.cell? ⟨g, M * 3 + 2, none⟩ = some (.int .i64 dz) ∧ W3.frozen? ⟨g, M * 3 + 2, none⟩ = false ∧ ∀ z, min dz xt = z → Hid (OwnT (W3.setCell ⟨g, M * 3 + 2, none⟩ (.int .i64 z)) w.heap.size (.slice (some ⟨g, 0, none⟩) (M + 1) uc) (devL p r (j + 1 + 1))) ∧ Hid (Below w.heap.size w (W3.setCell ⟨g, M * 3 + 2, none⟩ (.int .i64 z))) := by
        rintro i W3 rfl
        have h3 : OwnT (((wr.alloc (.cells #[.int .i64 q, .int .i64 xt, .int .i64 xc, .int .i64 xb] 56)).alloc (.cells #[.int .i64 3, .int .i64 ys, .int .i64 yn] 105)).drewN i) w.heap.size (.slice (some ⟨g, 0, none⟩) (l0.length + 1) uc) (l0 ++ [⟨dx, dy, dz⟩]) := HO3.out
        have q1 := h3.set1 ((j : Int) + 1 + 1)
        obtain ⟨_, k2, _, k4⟩ := q1.last
        rw [← hM] at k2 k4
        refine ⟨?_, k2, k4, fun z hz => ?_⟩
        · have hh := heap_setCell_other (((wr.alloc (.cells #[.int .i64 q, .int .i64 xt, .int .i64 xc, .int .i64 xb] 56)).alloc (.cells #[.int .i64 3, .int .i64 ys, .int .i64 yn] 105)).drewN i) ⟨g, M * 3 + 1, none⟩ wr.heap.size (.int .i64 ((j : Int) + 1 + 1)) (fun e => hgw e.symm)
          rw [World.cell?_of_block hh]
          exact cell_of_row _ _ 1 _ _ _ (bxD wr _ _ _ _)
        · have q2 := q1.set2 z
          rw [← hM] at q2
          refine ⟨?_, ?_⟩
          · show OwnT _ _ _ _
            rw [HE.out]
            simp only [hz]
            exact q2
          · have q3 := OwnT.below (j := M * 3 + 2) (x := .int .i64 z) (OwnT.below (bdrewN HB2.out) h3 (Nat.le_refl _)) q1 (Nat.le_refl _)
            rw [← hM] at q3
            exact q3
      have HS := hid HS
      have HM := hid hM
      clear hM
      rw [h2] at f0
      have g2 : (dy == ((j : Int) + 1)) = true := by rw [h1]; simp
      have hf : dy = (j : Int) + 1 := by rw [h1]; simp
      clear h1 h2
      subst hf
      rcases (show (dz ≤ xt ∧ min dz xt = dz) ∨ (xt < dz ∧ min dz xt = xt) by omega) with ⟨hxy, hmn⟩ | ⟨hxy, hmn⟩
      · have HMN := hid hmn
        clear hmn
        go_wp2
        go_quiet (fail)
        go_wp2
        generalize hW : World.setCell _ _ _ = W3
        obtain ⟨k1, k2, k3, k4⟩ := HS.out _ _ hW
        obtain ⟨HS1, HS2⟩ := k4 _ HMN.out
        clear hW k4 HS
        go_region
        go_wp2
        go_roundw
        case rel => exact ⟨j + 1 + 1, by have := HLT.out; omega, by go_num, HS1, hid HS2.out.drew⟩
        case measure => have := HLT.out; simp [intOf]; omega
      · have HMN := hid hmn
        clear hmn
        go_wp2
        go_quiet (fail)
        go_wp2
        generalize hW : World.setCell _ _ _ = W3
        obtain ⟨k1, k2, k3, k4⟩ := HS.out _ _ hW
        obtain ⟨HS1, HS2⟩ := k4 _ HMN.out
        clear hW k4 HS
        go_region
        go_wp2
        go_roundw
        case rel => exact ⟨j + 1 + 1, by have := HLT.out; omega, by go_num, HS1, hid HS2.out.drew⟩
        case measure => have := HLT.out; simp [intOf]; omega
    · obtain rfl : k = n := by omega
      go_wp2
      refine bodyPost_ret (v := .tuple #[u6, .int .i64 0]) (by simp [results, Tryz.results134, go_sem]) rfl ?_
      exact ⟨_, _, _, rfl, .inl ⟨HREC.out, rfl, rfl⟩, hrow.out.row, hB.out⟩
end Go.Proofs.YtihbjimnjhfpeaaGreat.Rt

/- Walks of retort's before (counted), vented and Vented: contracts. -/
namespace Go.Proofs.YtihbjimnjhfpeaaGreat.Rt
open Go.RowKit

/-- How many of the first n readings are of earlier steps. -/
def befN (r : Nat → Rd) (st : Int) : Nat → Nat
  | 0 => 0
  | k + 1 => if (r k).s < st then befN r st k + 1 else befN r st k
theorem befN_low {r : Nat → Rd} {st : Int} : ∀ {k : Nat}, (∀ j, j < k → (r j).s < st) → befN r st k = k
  | 0, _ => rfl
  | k + 1, h => by rw [befN, if_pos (h k (by omega)), befN_low fun j hj => h j (by omega)]
theorem befN_mid {r : Nat → Rd} {st : Int} {q : Nat} : ∀ {k : Nat}, q ≤ k → (∀ j, j < q → (r j).s < st) → (∀ j, q ≤ j → j < k → st ≤ (r j).s) → befN r st k = q
  | 0, h, _, _ => by simp only [befN]; omega
  | k + 1, h, h1, h2 => by
    rcases Nat.lt_or_ge k q with hq | hq
    · obtain rfl : q = k + 1 := by omega
      exact befN_low h1
    · have := h2 k hq (by omega)
      rw [befN, if_neg (by omega)]
      exact befN_mid hq h1 fun j hj hj2 => h2 j hj (by omega)
theorem bef_det {n : Nat} {r : Nat → Rd} {st : Int} {q : Nat} (hm : ∀ i j, i ≤ j → j < n → (r i).s ≤ (r j).s) (h : FoundB n (fun m => decide (st ≤ (r m).s)) q) : befN r st n = q :=
  befN_mid h.1 (fun j hj => found_low hm h j hj) (fun j hj hj2 => found_high hm h j hj hj2)
theorem bef_found {n : Nat} {r : Nat → Rd} {st : Int} (hm : ∀ i j, i ≤ j → j < n → (r i).s ≤ (r j).s) : FoundB n (fun m => decide (st ≤ (r m).s)) (befN r st n) := by
  have hex : ∀ k, k ≤ n → ∃ q, q ≤ k ∧ (∀ j, j < q → (r j).s < st) ∧ (∀ j, q ≤ j → j < k → st ≤ (r j).s) := by
    intro k
    induction k with
    | zero => intro _; exact ⟨0, Nat.le_refl _, fun j h => absurd h (Nat.not_lt_zero j), fun j _ h => absurd h (Nat.not_lt_zero j)⟩
    | succ k ih =>
      intro hk
      obtain ⟨q, h1, h2, h3⟩ := ih (by omega)
      by_cases hs : (r k).s < st
      · refine ⟨k + 1, Nat.le_refl _, fun j hj => ?_, fun j h h' => absurd h (Nat.not_le.2 h')⟩
        have := hm j k (by omega) (by omega)
        omega
      · refine ⟨q, by omega, h2, fun j hj hj2 => ?_⟩
        rcases Nat.lt_succ_iff_lt_or_eq.1 hj2 with h | h
        · exact h3 j hj h
        · subst h; omega
  obtain ⟨q, h1, h2, h3⟩ := hex n (Nat.le_refl _)
  rw [befN_mid h1 h2 h3]
  refine ⟨h1, ?_, ?_⟩
  · rcases Nat.eq_zero_or_pos q with h | h
    · exact .inl h
    · exact .inr (by have := h2 (q - 1) (by omega); simp; omega)
  · rcases Nat.lt_or_ge q n with h | h
    · exact .inr (by have := h3 q (Nat.le_refl _) h; simp; omega)
    · exact .inl (by omega)
theorem befc_any (v : Value) (n : Nat) (r : Nat → Rd) (st : Int) (w : World) (hr : RowR w v n r) (hn : n ≤ 4000000000000000000) (hm : ∀ i j, i ≤ j → j < n → (r i).s ≤ (r j).s) :
    Calls Tryz.prog 156 #[v, .int .i64 st] w fun e w' => e = .returned (.int .i64 (befN r st n : Int)) ∧ Below w.heap.size w w' := by
  refine (before_any v n r st w hr hn).mono ?_
  rintro e w' ⟨q, rfl, hf, hb⟩
  exact ⟨by rw [bef_det hm hf], hb⟩
/-- A part of a record. -/
theorem rowR_sub {w : World} {b o n vc q1 q2 : Nat} {r : Nat → Rd} (h : RowR w (.slice (some ⟨b, o, none⟩) n vc) n r) (h1 : q1 ≤ q2) (h2 : q2 ≤ n) (h3 : 0 < n) : RowR w (.slice (some ⟨b, o + q1 * 4, none⟩) (q2 - q1) (vc - q1)) (q2 - q1) fun j => r (q1 + j) := by
  obtain ⟨a', b', o', cap', hv, g1, g2, g3, g4⟩ := h
  injection hv with hv1 hv2 hv3
  subst hv3
  rcases g3 with h0 | h0
  · omega
  · rw [← hv1] at h0
    cases h0
    refine ⟨_, b, o + q1 * 4, vc - q1, rfl, by omega, by omega, .inr rfl, fun k hk => ?_⟩
    have := g4 (q1 + k) (by omega)
    rwa [show o + (q1 + k) * 4 = o + q1 * 4 + k * 4 by omega] at this
set_option maxRecDepth 20000 in
set_option maxHeartbeats 4000000 in
theorem vented_none (k s t : Int) (sa : Option Addr) (sc : Nat) (w : World) :
    Calls Tryz.prog 155 #[.agg #[.int .i64 k, .int .i64 s, .int .i64 t], .slice sa 0 sc] w fun e w' => e = .returned (.bool false) ∧ Below w.heap.size w w' := by
  have HB := hid ((Below.refl w.heap.size w).alloc (Nat.le_refl _) (.cells #[.int .i64 k, .int .i64 s, .int .i64 t] 105))
  go_enter Tryz.func155, Tryz.ntmps155
  go_wp2
  go_quiet (fail)
  go_wp2
  go_ret
  exact ⟨rfl, bdrewN HB.out⟩
set_option maxRecDepth 20000 in
set_option maxHeartbeats 4000000 in
theorem vented_some (k s t : Int) (b o j sc : Nat) (r : Nat → Rd) (w : World) (hr : RowR w (.slice (some ⟨b, o, none⟩) (j + 1) sc) (j + 1) r) (hj : j ≤ 1000000) :
    Calls Tryz.prog 155 #[.agg #[.int .i64 k, .int .i64 s, .int .i64 t], .slice (some ⟨b, o, none⟩) (j + 1) sc] w fun e w' => e = .returned (.bool (decide (t ≤ (j : Int) + 1) && decide (s ≤ (r j).t))) ∧ Below w.heap.size w w' := by
  have HB := hid ((Below.refl w.heap.size w).alloc (Nat.le_refl _) (.cells #[.int .i64 k, .int .i64 s, .int .i64 t] 105))
  obtain ⟨a2, b2, o2, cap2, hv, _, _, ha2, hcell2⟩ := hr.keep ((Below.refl w.heap.size w).alloc (Nat.le_refl _) (.cells #[.int .i64 k, .int .i64 s, .int .i64 t] 105))
  injection hv with hv1 hv2 hv3
  rcases ha2 with h0 | h0
  · omega
  rw [← hv1] at h0
  cases h0
  obtain ⟨c0, c1, c2, c3⟩ := hcell2 j (by omega)
  clear hcell2 hv1 hv2 hv3 hr c0 c2 c3
  generalize (r j).t = x at c1
  have hj1 : (j : Int) < (j : Int) + 1 := by omega
  have hj2 : 0 < (j : Int) + 1 := by omega
  have hj3 : IntKind.i64.wrap (j : Int) = (j : Int) := IntWalk.i64_in _ ⟨by omega, by omega⟩
  by_cases h1 : t ≤ (j : Int) + 1
  · have hE := hid (show decide (s ≤ x) = (decide (t ≤ (j : Int) + 1) && decide (s ≤ x)) by rw [decide_eq_true h1]; rfl)
    go_enter Tryz.func155, Tryz.ntmps155
    go_wp2
    go_quiet (fail)
    go_wp2
    go_ret
    exact ⟨ret_bool hE.out, bdrewN HB.out⟩
  · have hE := hid (show false = (decide (t ≤ (j : Int) + 1) && decide (s ≤ x)) by rw [decide_eq_false h1]; rfl)
    have h1' : decide (t ≤ (j : Int) + 1) = false := decide_eq_false h1
    go_enter Tryz.func155, Tryz.ntmps155
    go_wp2
    go_quiet (fail)
    go_wp2
    go_ret
    exact ⟨ret_bool hE.out, bdrewN HB.out⟩
theorem vented_len (k s t : Int) (b o j len sc : Nat) (r : Nat → Rd) (w : World) (hl : len = j + 1) (hr : RowR w (.slice (some ⟨b, o, none⟩) len sc) len r) (hj : j ≤ 1000000) :
    Calls Tryz.prog 155 #[.agg #[.int .i64 k, .int .i64 s, .int .i64 t], .slice (some ⟨b, o, none⟩) len sc] w fun e w' => e = .returned (.bool (decide (t ≤ (j : Int) + 1) && decide (s ≤ (r j).t))) ∧ Below w.heap.size w w' := by
  subst hl
  exact vented_some k s t b o j sc r w hr hj
end Go.Proofs.YtihbjimnjhfpeaaGreat.Rt

/- Walk of retort's Vented: contract. -/
namespace Go.Proofs.YtihbjimnjhfpeaaGreat.Rt
open Go.RowKit

/-- A step that is vented enough. -/
def VentOk (p : Nat → St) (n : Nat) (r : Nat → Rd) (i : Nat) : Prop := (p i).k = 1 → ∃ f t : Nat, PartP n r i f t ∧ f < t ∧ (p i).n ≤ (t : Int) - f ∧ (p i).s ≤ (r (t - 1)).t
/-- What Vented answers. -/
def VentV (m : Nat) (p : Nat → St) (n : Nat) (r : Nat → Rd) (b : Bool) (c : Int) : Prop :=
  (recB m p n r = false ∧ b = false ∧ c = 1) ∨ (recB m p n r = true ∧ c = 0 ∧ b = true ∧ ∀ i, i < m → VentOk p n r i) ∨ (recB m p n r = true ∧ c = 0 ∧ b = false ∧ ∃ i, i < m ∧ ¬ VentOk p n r i)
def VentP (m : Nat) (p : Nat → St) (n : Nat) (r : Nat → Rd) (w : World) (e : Ending) (w' : World) : Prop :=
  ∃ b c, e = .returned (.tuple #[.bool b, .int .i64 c]) ∧ VentV m p n r b c ∧ Below w.heap.size w w'
theorem VentV.one {m : Nat} {p : Nat → St} {n : Nat} {r : Nat → Rd} {b b2 : Bool} {c c2 : Int} (h : VentV m p n r b c) (g : VentV m p n r b2 c2) : b = b2 ∧ c = c2 := by
  rcases h with ⟨h1, rfl, rfl⟩ | ⟨h1, rfl, rfl, h2⟩ | ⟨h1, rfl, rfl, i, hi, h2⟩ <;> rcases g with ⟨g1, rfl, rfl⟩ | ⟨g1, rfl, rfl, g2⟩ | ⟨g1, rfl, rfl, j, hj, g2⟩
  all_goals first
    | exact ⟨rfl, rfl⟩
    | (rw [h1] at g1; cases g1; done)
    | exact absurd (h2 _ hj) g2
    | exact absurd (g2 _ hi) h2
theorem vent_all {p : Nat → St} {n : Nat} {r : Nat → Rd} {k : Nat} (h : ∀ i, i < k → VentOk p n r i) (g : VentOk p n r k) : ∀ i, i < k + 1 → VentOk p n r i := by
  intro i hi
  rcases Nat.lt_succ_iff_lt_or_eq.1 hi with h1 | h1
  · exact h i h1
  · subst h1; exact g
/-- The box of a step. -/
theorem s3_new {w wr : World} {k s t : Value} {T : TypeId} (hB : Below w.heap.size w wr) :
    (wr.alloc (.cells #[k, s, t] T)).drew.cell? ⟨wr.heap.size, 0, none⟩ = some k ∧ (wr.alloc (.cells #[k, s, t] T)).drew.cell? ⟨wr.heap.size, 1, none⟩ = some s ∧ (wr.alloc (.cells #[k, s, t] T)).drew.cell? ⟨wr.heap.size, 2, none⟩ = some t ∧ Below w.heap.size w (wr.alloc (.cells #[k, s, t] T)).drew := by
  have ha := heap_alloc_new wr (.cells #[k, s, t] T)
  exact ⟨cell_of_row _ _ 0 _ _ _ ha, cell_of_row _ _ 1 _ _ _ ha, cell_of_row _ _ 2 _ _ _ ha, (hB.alloc hB.size _).drew⟩
theorem s3_keep {w W w2 : World} {b : Nat} {k s t : Value} (hb : Below W.heap.size W w2) (h : W.cell? ⟨b, 0, none⟩ = some k ∧ W.cell? ⟨b, 1, none⟩ = some s ∧ W.cell? ⟨b, 2, none⟩ = some t ∧ Below w.heap.size w W) :
    w2.cell? ⟨b, 0, none⟩ = some k ∧ w2.cell? ⟨b, 1, none⟩ = some s ∧ w2.cell? ⟨b, 2, none⟩ = some t ∧ Below w.heap.size w w2 :=
  ⟨keep_cell hb h.1, keep_cell hb h.2.1, keep_cell hb h.2.2.1, bstep h.2.2.2 h.2.2.2.size hb⟩
set_option maxRecDepth 20000 in
set_option maxHeartbeats 4000000 in
theorem vvent_any (u : Value) (m : Nat) (p : Nat → St) (v : Value) (n : Nat) (r : Nat → Rd) (w : World) (hp : RowP w u m p) (hr : RowR w v n r) :
    Calls Tryz.prog 131 #[u, v] w (VentP m p n r w) := by
  have HK := hid (fun w1 (g : Below w.heap.size w w1) => hr.keep g)
  have HQ := hid (fun w1 (g : Below w.heap.size w w1) => (show RowP w1 u m p from RowT.keep hp g))
  have HP := hid hp
  have HR := hid hr
  have hnm := hr.most
  have hmm := RowT.most hp
  have HVC := hid (show ∀ va vc, v = .slice va n vc → n ≤ vc ∧ (0 < n → ∃ b o, va = some ⟨b, o, none⟩) from fun va vc e => by
    obtain ⟨a', b', o', cap', hv, g1, g2, g3, g4⟩ := hr
    rw [hv] at e
    injection e with e1 e2 e3
    refine ⟨by omega, fun h => ?_⟩
    rcases g3 with h0 | h0
    · omega
    · exact ⟨b', o', by rw [← e1, h0]⟩)
  unfold maxLen at hnm hmm
  obtain ⟨pa, pc, rfl⟩ := RowT.shape hp
  obtain ⟨va, vc, rfl⟩ := hr.shape
  clear hp hr
  obtain ⟨hnc, hva⟩ := HVC.out va vc rfl
  have HVA := hid hva
  clear HVC hva
  cases hrec : recB m p n r
  · have HREC := hid hrec
    go_enter Tryz.func131, Tryz.ntmps131
    go_wp2_with (go_at_call 41; refine (vrec_any _ _ _ _ _ _ _ HP.out HR.out).mono ?_; rintro e w1 ⟨rfl, hb⟩; rw [hrec]; have HB := hid hb; clear hb)
    refine bodyPost_ret (v := .tuple #[.bool false, .int .i64 1]) (by simp [results, Tryz.results131, go_sem]) rfl ?_
    exact ⟨_, _, rfl, .inl ⟨HREC.out, rfl, rfl⟩, HB.out⟩
  obtain ⟨hn, hm1, hm16, hst⟩ := rec_step hrec
  have HREC := hid hrec
  have HMO := hid (rec_mono hrec).2
  have HN4 := hid (show n ≤ 4000000000000000000 by omega)
  clear hst
  go_enter Tryz.func131, Tryz.ntmps131
  go_wp2_with (go_at_call 41; refine (vrec_any _ _ _ _ _ _ _ HP.out HR.out).mono ?_; rintro e w1 ⟨rfl, hb⟩; rw [hrec]; have HB := hid hb; clear hb)
  clear hrec
  go_loopw [14] (fun i wr => ∃ k : Nat, k ≤ m ∧ i = .int .i64 (k : Int) ∧ Hid (∀ i, i < k → VentOk p n r i) ∧ Hid (Below w.heap.size w wr)) (fun i _ => m - (intOf i).toNat)
  case atStart => exact ⟨0, Nat.zero_le _, rfl, fun i h => absurd h (Nat.not_lt_zero i), HB⟩
  case round =>
    obtain ⟨k, hk, rfl, hok, hB⟩ := hrel
    by_cases hlt : k < m
    · have hlt' : (k : Int) < m := by omega
      obtain ⟨a2, b2, o2, cap2, hv, _, _, ha2, hcell2⟩ := HQ.out _ hB.out
      injection hv with hv1 hv2 hv3
      subst hv1 hv3
      rcases ha2 with h0 | rfl
      · omega
      obtain ⟨d0, d1, d2⟩ := hcell2 k hlt
      simp only at d0 d1 d2
      have HVO := hid (show VentOk p n r k = ((p k).k = 1 → ∃ f t : Nat, PartP n r k f t ∧ f < t ∧ (p k).n ≤ (t : Int) - f ∧ (p k).s ≤ (r (t - 1)).t) from rfl)
      generalize (p k).k = yk at d0 HVO
      generalize (p k).s = ys at d1 HVO
      generalize (p k).n = yn at d2 HVO
      clear hcell2 hv2
      have HLT := hid hlt
      clear hlt
      have HB1 := hid (hB.out.alloc hB.out.size (.cells #[.int .i64 yk, .int .i64 ys, .int .i64 yn] 105))
      by_cases hc1 : yk = 1
      case neg =>
        have g1 : (yk == 1) = false := by simpa using hc1
        have HV := hid (vent_all hok.out (by rw [HVO.out]; exact fun h => absurd h hc1))
        clear hc1
        go_wp2
        go_quiet (fail)
        go_wp2
        go_roundw
        case rel => exact ⟨k + 1, by have := HLT.out; omega, by go_num, HV, hid (bdrewN HB1.out)⟩
        case measure => have := HLT.out; simp [intOf]; omega
      subst hc1
      have hk1 : IntKind.i64.wrap ((k : Int) + 1) = (k : Int) + 1 := IntWalk.i64_in _ ⟨by omega, by omega⟩
      have HF1 := bef_found (st := (k : Int)) HMO.out
      have HF2 := bef_found (st := (k : Int) + 1) HMO.out
      obtain ⟨q1, hq1⟩ : ∃ q, q = befN r (k : Int) n := ⟨_, rfl⟩
      obtain ⟨q2, hq2⟩ : ∃ q, q = befN r ((k : Int) + 1) n := ⟨_, rfl⟩
      have HQ1 := hid hq1.symm
      have HQ2 := hid hq2.symm
      rw [← hq1] at HF1
      rw [← hq2] at HF2
      clear hq1 hq2
      by_cases hq : q1 = q2
      · subst hq
        have HPN := part_none HMO.out HF1 HF2 rfl
        have HV : Hid (¬ VentOk p n r k) := by
          show ¬ VentOk p n r k
          rw [HVO.out]
          intro h
          obtain ⟨f, t, h1, h2, _⟩ := h rfl
          obtain ⟨rfl, rfl⟩ := HPN.one h1
          omega
        have hq0 : (q1 : Int) ≤ (vc : Int) := by have := HF1.1; omega
        have hqq : (q1 : Int) ≤ (q1 : Int) := Int.le_refl _
        clear HF1 HF2 HPN
        by_cases hvc : vc = q1
        · subst hvc
          go_wp2
          go_region_held3 (fun w' => w'.cell? ⟨wr.heap.size, 0, none⟩ = some (.int .i64 1) ∧ w'.cell? ⟨wr.heap.size, 1, none⟩ = some (.int .i64 ys) ∧ w'.cell? ⟨wr.heap.size, 2, none⟩ = some (.int .i64 yn) ∧ Below w.heap.size w w') (first | exact s3_new hB.out | exact s3_keep (by assumption) (by assumption)) (first | (go_at_call 156; refine (befc_any _ _ _ _ _ (HK.out _ (And.right (And.right (And.right (by assumption))))) HN4.out HMO.out).mono ?_; rintro e w2 ⟨rfl, hb⟩; (first | rw [HQ1.out] | rw [hk1, HQ2.out] | rw [HQ2.out])) | (go_at_call 155; refine (vented_none _ _ _ _ _ _).mono ?_; rintro e w2 ⟨rfl, hb⟩))
          rename_i hS
          obtain ⟨_, _, _, hB9⟩ := hS
          go_wp2
          refine bodyPost_ret (v := .tuple #[.bool false, .int .i64 0]) (by simp [results, Tryz.results131, go_sem]) rfl ?_
          exact ⟨_, _, rfl, .inr (.inr ⟨HREC.out, rfl, rfl, _, HLT.out, HV.out⟩), hB9⟩
        · go_wp2
          go_region_held3 (fun w' => w'.cell? ⟨wr.heap.size, 0, none⟩ = some (.int .i64 1) ∧ w'.cell? ⟨wr.heap.size, 1, none⟩ = some (.int .i64 ys) ∧ w'.cell? ⟨wr.heap.size, 2, none⟩ = some (.int .i64 yn) ∧ Below w.heap.size w w') (first | exact s3_new hB.out | exact s3_keep (by assumption) (by assumption)) (first | (go_at_call 156; refine (befc_any _ _ _ _ _ (HK.out _ (And.right (And.right (And.right (by assumption))))) HN4.out HMO.out).mono ?_; rintro e w2 ⟨rfl, hb⟩; (first | rw [HQ1.out] | rw [hk1, HQ2.out] | rw [HQ2.out])) | (go_at_call 155; refine (vented_none _ _ _ _ _ _).mono ?_; rintro e w2 ⟨rfl, hb⟩))
          rename_i hS
          obtain ⟨_, _, _, hB9⟩ := hS
          go_wp2
          refine bodyPost_ret (v := .tuple #[.bool false, .int .i64 0]) (by simp [results, Tryz.results131, go_sem]) rfl ?_
          exact ⟨_, _, rfl, .inr (.inr ⟨HREC.out, rfl, rfl, _, HLT.out, HV.out⟩), hB9⟩
      have HPS := part_some HMO.out HF1 HF2 hq
      have hlt12 : q1 < q2 := by have := HPS.le; omega
      have htop := HPS.top
      clear HF1 HF2 hq
      obtain ⟨j, hj⟩ : ∃ j, q2 = q1 + (j + 1) := ⟨q2 - q1 - 1, by omega⟩
      obtain ⟨b, o, rfl⟩ := HVA.out (by omega)
      obtain ⟨r', hr'⟩ : ∃ r' : Nat → Rd, r' = fun i => r (q1 + i) := ⟨_, rfl⟩
      have HSUB := hid (show ∀ w1, Below w.heap.size w w1 → RowR w1 (.slice (some ⟨b, o + q1 * 4, none⟩) (q2 - q1) (vc - q1)) (q2 - q1) r' from fun w1 g => by
        have h := rowR_sub (HK.out w1 g) (Nat.le_of_lt hlt12) htop (by omega)
        rw [hr']
        exact h)
      have hrj : (r' j).t = (r (q1 + j)).t := by rw [hr']
      have HRJ := hid hrj
      clear hr' hrj
      have hvc : ¬ vc = q1 := by omega
      have hq0 : (q1 : Int) ≤ (q2 : Int) := by omega
      have hq2c : (q2 : Int) ≤ (vc : Int) := by omega
      have hj6 : j ≤ 1000000 := by omega
      have HIFF : VentOk p n r k ↔ (yn ≤ (j : Int) + 1 ∧ ys ≤ (r' j).t) := by
        rw [HVO.out, HRJ.out]
        constructor
        · intro h
          obtain ⟨f, t, h1, h2, h3, h4⟩ := h rfl
          obtain ⟨rfl, rfl⟩ := HPS.one h1
          refine ⟨by omega, ?_⟩
          rwa [show q2 - 1 = q1 + j by omega] at h4
        · intro ⟨h1, h2⟩ _
          exact ⟨q1, q2, HPS, hlt12, by omega, by rwa [show q2 - 1 = q1 + j by omega]⟩
      have HIFF := hid HIFF
      have HJ := hid (show q2 - q1 = j + 1 by omega)
      clear HPS htop hlt12 hj
      cases hvb : (decide (yn ≤ (j : Int) + 1) && decide (ys ≤ (r' j).t))
      · have HVB := hid hvb
        have HV : Hid (¬ VentOk p n r k) := by
          show ¬ VentOk p n r k
          rw [HIFF.out]
          intro ⟨h1, h2⟩
          rw [decide_eq_true h1, decide_eq_true h2] at hvb
          cases hvb
        clear hvb
        go_wp2
        go_region_held3 (fun w' => w'.cell? ⟨wr.heap.size, 0, none⟩ = some (.int .i64 1) ∧ w'.cell? ⟨wr.heap.size, 1, none⟩ = some (.int .i64 ys) ∧ w'.cell? ⟨wr.heap.size, 2, none⟩ = some (.int .i64 yn) ∧ Below w.heap.size w w') (first | exact s3_new hB.out | exact s3_keep (by assumption) (by assumption)) (first | (go_at_call 156; refine (befc_any _ _ _ _ _ (HK.out _ (And.right (And.right (And.right (by assumption))))) HN4.out HMO.out).mono ?_; rintro e w2 ⟨rfl, hb⟩; (first | rw [HQ1.out] | rw [hk1, HQ2.out] | rw [HQ2.out])) | (go_at_call 155; refine (vented_len _ _ _ b (o + q1 * 4) j (q2 - q1) (vc - q1) r' _ HJ.out (HSUB.out _ (And.right (And.right (And.right (by assumption))))) hj6).mono ?_; rintro e w2 ⟨rfl, hb⟩; rw [HVB.out]))
        rename_i hS
        obtain ⟨_, _, _, hB9⟩ := hS
        go_wp2
        refine bodyPost_ret (v := .tuple #[.bool false, .int .i64 0]) (by simp [results, Tryz.results131, go_sem]) rfl ?_
        exact ⟨_, _, rfl, .inr (.inr ⟨HREC.out, rfl, rfl, _, HLT.out, HV.out⟩), hB9⟩
      · have HVB := hid hvb
        have HV := hid (vent_all hok.out (HIFF.out.2 (by simpa using hvb)))
        clear hvb
        go_wp2
        go_region_held3 (fun w' => w'.cell? ⟨wr.heap.size, 0, none⟩ = some (.int .i64 1) ∧ w'.cell? ⟨wr.heap.size, 1, none⟩ = some (.int .i64 ys) ∧ w'.cell? ⟨wr.heap.size, 2, none⟩ = some (.int .i64 yn) ∧ Below w.heap.size w w') (first | exact s3_new hB.out | exact s3_keep (by assumption) (by assumption)) (first | (go_at_call 156; refine (befc_any _ _ _ _ _ (HK.out _ (And.right (And.right (And.right (by assumption))))) HN4.out HMO.out).mono ?_; rintro e w2 ⟨rfl, hb⟩; (first | rw [HQ1.out] | rw [hk1, HQ2.out] | rw [HQ2.out])) | (go_at_call 155; refine (vented_len _ _ _ b (o + q1 * 4) j (q2 - q1) (vc - q1) r' _ HJ.out (HSUB.out _ (And.right (And.right (And.right (by assumption))))) hj6).mono ?_; rintro e w2 ⟨rfl, hb⟩; rw [HVB.out]))
        rename_i hS
        obtain ⟨_, _, _, hB9⟩ := hS
        go_wp2
        go_roundw
        case rel => exact ⟨k + 1, by have := HLT.out; omega, by go_num, HV, hB9⟩
        case measure => have := HLT.out; simp [intOf]; omega
    · obtain rfl : k = m := by omega
      go_wp2
      refine bodyPost_ret (v := .tuple #[.bool true, .int .i64 0]) (by simp [results, Tryz.results131, go_sem]) rfl ?_
      exact ⟨_, _, rfl, .inr (.inl ⟨HREC.out, rfl, rfl, hok.out⟩), hB.out⟩
end Go.Proofs.YtihbjimnjhfpeaaGreat.Rt
