/- Walks of heap.Push, heap.Pop, put, take: contracts. -/
import Derived.Test.YtikjgbfbbkmmcaaQvj
namespace Go.Proofs.Ytikjgbfbbkmmcaa
open Go.RowKit

/-- A pool that is a heap of vessels. -/
def HpAt (pb base : Nat) (l : List Pr) (W : World) : Prop := ∃ m, m.Perm l ∧ HeapB m m.length ∧ PoolAt pb base m W ∧ base ≤ W.heap.size ∧ pb < base
theorem HpAt.keep {pb base : Nat} {l : List Pr} {W W' : World} (h : HpAt pb base l W) (hb : Below W.heap.size W W') : HpAt pb base l W' := by
  obtain ⟨m, h1, h2, h3, h4, h5⟩ := h
  exact ⟨m, h1, h2, h3.keep hb, Nat.le_trans h4 hb.size, h5⟩
theorem HpAt.perm {pb base : Nat} {l l' : List Pr} {W : World} (h : HpAt pb base l W) (hp : l.Perm l') : HpAt pb base l' W := by
  obtain ⟨m, h1, h2⟩ := h
  exact ⟨m, h1.trans hp, h2⟩
theorem PoolAt.cell {pb base : Nat} {l : List Pr} {W : World} (h : PoolAt pb base l W) : ∃ v, W.cell? ⟨pb, 0, none⟩ = some v ∧ RowE encV W v l := by
  obtain ⟨v, h1, h2⟩ := h
  have := cell_of_row _ _ 0 _ _ _ h1
  exact ⟨v, by simpa using this, h2.row⟩
set_option maxRecDepth 20000 in
set_option maxHeartbeats 4000000 in
theorem hpush_any (pb base : Nat) (l : List Pr) (d : Pr) (w : World) (hP : HpAt pb base l w) (hm : l.length ≤ 900) :
    Calls Try.prog 93 #[poolV pb, .iface 99 (.agg #[.int .i64 d.x, .int .i64 d.y])] w fun e w' => e = .returned (.tuple #[]) ∧ HpAt pb base (d :: l) w' ∧ Tn TV pb w w' := by
  obtain ⟨m, h1, h2, h3, h4, h5⟩ := hP
  have hlen := h1.length_eq
  have HC := hid (ppush_any pb base m d w h3 h5 h4 (by omega))
  have HM := hid (And.intro h1 (And.intro h2 (And.intro h4 hlen)))
  have q0 := fun n => meth_push n pb w
  obtain ⟨k, hk⟩ : ∃ k, k = m.length := ⟨_, rfl⟩
  have hkm : k ≤ 900 := by omega
  have HK := hid hk
  clear h1 h2 h3 h4 hlen hk
  go_enter Try.func93, Try.ntmps93
  go_wp2_with fail
  refine HC.out.mono ?_
  rintro e w1 ⟨rfl, hp1, ht1⟩
  obtain ⟨v, hv, hr⟩ := hp1.cell
  have hl1 : Hid ((m ++ [d]).length = k + 1) := by show (m ++ [d]).length = k + 1; rw [HK.out]; simp
  have HL := hid (len_any v (m ++ [d]) w1 hr)
  rw [hl1.out] at HL
  have HU := hid (up_any pb base pb k (m ++ [d]) w1 hp1 (Nat.le_of_lt h5) (by rw [HK.out]; exact upOk_start HM.out.2.1) (by rw [hl1.out]; omega) (by rw [hl1.out]; omega))
  have HT := hid ht1
  have q1 := fun n => meth_len n pb v w1 hv
  have e1 : ((k + 1 : Nat) : Int) - 1 = (k : Nat) := by omega
  clear hp1 ht1 hr HC q0 hl1
  go_wp2_with fail
  refine HL.out.mono ?_
  rintro e w2 ⟨rfl, rfl⟩
  go_wp2_with fail
  refine HU.out.mono ?_
  rintro e w2 ⟨rfl, m', g1, g2, g3, g4⟩
  have HE : Hid (HpAt pb base (d :: l) w2 ∧ Tn TV pb w w2) :=
    ⟨⟨m', g1.trans ((List.perm_append_singleton _ _).trans (HM.out.1.cons _)), g2, g3, Nat.le_trans HM.out.2.2.1 (Nat.le_trans HT.out.size g4.size), h5⟩, HT.out.trans g4⟩
  clear g1 g2 g3 g4 HU HL HT HM HK
  go_wp2
  go_end0
  exact ⟨rfl, HE.out⟩
set_option maxRecDepth 20000 in
set_option maxHeartbeats 4000000 in
theorem hpop_any (pb base rb : Nat) (l : List Pr) (d : Pr) (t : List Pr) (w : World) (hP : HpAt pb base l w) (hm : l.length ≤ 900) (hl : l ≠ []) (hrb : rb < w.heap.size ∧ rb ≠ pb ∧ ∀ g cap m, PoolO pb base g cap m w → rb ≠ g) (hd : ∀ m : List Pr, m.Perm l → HeapB m m.length → vat m 0 = d ∧ ∀ t', (d :: t').Perm l → t'.Perm t) :
    Calls Try.prog 92 #[poolV pb] w fun e w' => e = .returned (.iface 99 (.agg #[.int .i64 d.x, .int .i64 d.y])) ∧ HpAt pb base t w' ∧ Tn TV pb w w' ∧ w'.heap[rb]? = w.heap[rb]? ∧ ∀ v, w'.cell? ⟨pb, 0, none⟩ = some v → v.ownBlock ≠ some rb := by
  obtain ⟨m, h1, h2, h3, h4, h5⟩ := hP
  have hlen := h1.length_eq
  obtain ⟨n, hn⟩ : ∃ n, m.length = n + 1 := ⟨m.length - 1, by have : l.length ≠ 0 := fun e => hl (List.length_eq_zero_iff.1 e); omega⟩
  obtain ⟨hd0, hdt⟩ := hd m h1 h2
  obtain ⟨g, cap, hpo⟩ := poolO_of h3 (fun e => by rw [e] at hn; simp at hn)
  obtain ⟨cur, hb, ho, hbg, hg, hne⟩ := hpo.facts
  have HRB := hid (And.intro hrb.1 (And.intro hrb.2.1 (hrb.2.2 g cap m hpo)))
  clear hrb hpo
  have hv := cell_of_row _ _ 0 _ _ _ hb
  simp only [List.getElem?_toArray, List.getElem?_cons_zero] at hv
  have q0 := fun k => meth_len k pb _ w hv
  have q1 := fun k => meth_swap k pb _ w hv
  have HL := hid (len_any _ m w ho.row)
  have HS := hid (swap_any g cap m 0 n base w ho (by omega) (by omega))
  have HS2 := hid (fun W hW => pool_swappedO (W := W) (B := pb) hb ho hg hne (by omega) (show 0 < m.length by omega) (show n < m.length by omega) hW)
  have HD := hid (dnOk_start (l := m) (n := n) (by omega) h2)
  have HM0 := hid h1
  rw [hn] at HL HS hv q0 q1
  have HN := hid hn
  have hn9 : n ≤ 900 := by omega
  have e1 : ((n + 1 : Nat) : Int) - 1 = (n : Nat) := by omega
  have HH : Hid (vat m 0 = d ∧ ∀ t', (d :: t').Perm l → t'.Perm t) := ⟨hd0, hdt⟩
  have HB4 := hid h4
  clear h1 h2 h3 hlen hn hd hd0 hdt hb ho hg hl
  go_enter Try.func92, Try.ntmps92
  go_wp2_with fail
  refine HL.out.mono ?_
  rintro e w1 ⟨rfl, rfl⟩
  go_wp2_with fail
  refine HS.out.mono ?_
  rintro e w1 ⟨rfl, hw1⟩
  obtain ⟨hp1, ht1, hst1⟩ := HS2.out w1 hw1
  have HT1 := hid ht1; have HST1 := hid hst1
  have HDN := hid (down_any pb base pb g cap n (swp m 0 n) w1 hp1 (Nat.le_of_lt h5) HD.out (by rw [swp_len]; exact HN.out) (by omega))
  clear hw1 hp1 ht1 hst1 HS HS2 HL q0 q1 hv HD
  go_wp2_with fail
  refine HDN.out.mono ?_
  rintro e w2 ⟨⟨vv, rfl⟩, m', g1, g2, g3, g4, g5, g6, g7⟩
  have hlm : m'.length = n + 1 := by rw [g2, swp_len]; exact HN.out
  have HP := hid (ppop_any pb base g cap n m' w2 g5 h5 hlm (by omega))
  have hN := HN.out
  have hdv : vat m' n = d := by
    rw [g4, swp_at (by omega) (by omega), if_pos rfl]
    exact HH.out.1
  rw [hdv] at HP
  have hpm : m'.Perm l := by
    have hq := g1.trans (swp_perm (l := m) (i := 0) (j := n) (by omega) (by omega))
    exact hq.trans (by have := HM0.out; exact this)
  have HE : Hid (∀ w3, PoolAt pb base (m'.take n) w3 → Tn TV pb w2 w3 → StG pb g w2 w3 → w3.cell? ⟨pb, 0, none⟩ = some (.slice (some ⟨g, 0, none⟩) n cap) → HpAt pb base t w3 ∧ Tn TV pb w w3 ∧ w3.heap[rb]? = w.heap[rb]? ∧ ∀ v, w3.cell? ⟨pb, 0, none⟩ = some v → v.ownBlock ≠ some rb) := fun w3 k1 k2 k3 k4 => by
    refine ⟨⟨m'.take n, HH.out.2 _ ?_, heap_take g3 (by omega), k1, ?_, h5⟩, (HT1.out.trans g6).trans k2, (((HST1.out.trans g7 HT1.out.size).trans k3 (Nat.le_trans HT1.out.size g6.size)) rb HRB.out.1 HRB.out.2.1 HRB.out.2.2), fun v hv2 e => by
      rw [k4] at hv2
      cases hv2
      exact HRB.out.2.2 (Option.some.inj e).symm⟩
    · rw [← hdv]; exact (last_perm hlm).trans hpm
    · exact Nat.le_trans HB4.out (Nat.le_trans HT1.out.size (Nat.le_trans g6.size k2.size))
  have q2 := fun k => meth_pop k pb w2
  clear g1 g2 g3 g4 g5 g6 g7 HDN hlm hN hdv hpm
  go_wp2_with fail
  refine HP.out.mono ?_
  rintro e w3 ⟨rfl, k1, k2, k3, k4⟩
  have HR := hid (HE.out w3 k1 k2 k3 k4)
  clear k1 k2 k3 k4 HP HE
  go_wp2
  go_ret
  exact ⟨rfl, HR.out⟩
end Go.Proofs.Ytikjgbfbbkmmcaa
