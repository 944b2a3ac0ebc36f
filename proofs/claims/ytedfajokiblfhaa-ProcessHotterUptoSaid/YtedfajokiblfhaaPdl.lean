/- Cook: contract. -/
import Derived.Test.YtedfajokiblfhaaPdk
import Derived.Test.YtedfajokiblfhaaC8
namespace Go.Proofs.Ytedfajokiblfhaa
open Go.RowKit Go.Lib

def cookB (t n cold cooling : Int) : Bool := okL [t, cold] && ticksB [n, cooling]
def cookL (t n cold cooling : Int) : List Int := if cookB t n cold cooling = true then List.replicate n.toNat t ++ List.replicate cooling.toNat cold else []
def CookP (t n cold cooling : Int) (w : World) (e : Ending) (w' : World) : Prop :=
  ∃ v, e = .returned (.tuple #[v, .int .i64 (if cookB t n cold cooling = true then 0 else 7)]) ∧ RowI w' v (cookL t n cold cooling) ∧ Below w.heap.size w w'
theorem repP_row {w' : World} {l : List Int} {g : Nat} (h : w'.heap[g]? = some (.cells (ivs l).toArray 3 (0, 0))) (hl : l.length ≤ 100000) : RowI w' (.slice (some ⟨g, 0, none⟩) l.length l.length) l := rowI_of_block (cap := l.length) h (by omega)
theorem ticksB_two {n m : Int} : ticksB [n, m] = true ↔ 0 ≤ n ∧ 0 ≤ m ∧ n + m ≤ 2000 := by
  simp [ticksB, tick1]
  omega
set_option maxRecDepth 20000 in
set_option maxHeartbeats 4000000 in
theorem cook_any (t n cold cooling : Int) (w : World) : Calls Try.prog 12 #[.int .i64 t, .int .i64 n, .int .i64 cold, .int .i64 cooling] w (CookP t n cold cooling w) := by
  have HT := hid (fun (W : World) (b : Nat) (h : W.heap.size = b) => ptemps_any (W.alloc (.cells #[.int .i64 t, .int .i64 cold] 3)) _ [t, cold] (two_row t cold 3 h))
  have HK := hid (fun (W : World) (b : Nat) (h : W.heap.size = b) => ticks_any (W.alloc (.cells #[.int .i64 n, .int .i64 cooling] 3)) _ [n, cooling] (two_row n cooling 3 h) (by simp))
  have HTW := hid (ticksB_two (n := n) (m := cooling))
  unfold CookP cookL
  cases h1 : okL [t, cold]
  · have hE : cookB t n cold cooling = false := by unfold cookB; rw [h1]; rfl
    have HEE := hid hE
    rw [hE]
    clear hE HTW
    rw [h1] at HT
    clear h1
    go_enter Try.func12, Try.ntmps12
    go_wp2_with (go_at_call 31; refine (HT.out _ _ (by simp)).mono ?_; rintro e w' ⟨rfl, rfl⟩)
    refine bodyPost_ret (v := .tuple #[.slice none 0 0, .int .i64 7]) (by simp [results, Try.results12, go_sem]) rfl ⟨_, rfl, .inl ⟨none, 0, rfl, rfl⟩, (Below.refl _ _).alloc (Nat.le_refl _) _⟩
  · cases h2 : ticksB [n, cooling]
    · have hE : cookB t n cold cooling = false := by unfold cookB; rw [h1, h2]; rfl
      rw [hE]
      clear hE HTW
      rw [h1] at HT
      rw [h2] at HK
      clear h1 h2
      go_enter Try.func12, Try.ntmps12
      go_wp2_with (first
        | (go_at_call 31; refine (HT.out _ _ (by simp)).mono ?_; rintro e w' ⟨rfl, rfl⟩)
        | (go_at_call 32; refine (HK.out _ _ (by simp)).mono ?_; rintro e w' ⟨rfl, rfl⟩))
      refine bodyPost_ret (v := .tuple #[.slice none 0 0, .int .i64 7]) (by simp [results, Try.results12, go_sem]) rfl ⟨_, rfl, .inl ⟨none, 0, rfl, rfl⟩, ((Below.refl _ _).alloc (Nat.le_refl _) _).alloc (by simp) _⟩
    · have hE : cookB t n cold cooling = true := by unfold cookB; rw [h1, h2]; rfl
      obtain ⟨b1, b2, b3⟩ := HTW.out.1 h2
      rw [hE, if_pos rfl, if_pos rfl]
      clear hE HTW
      rw [h1] at HT
      rw [h2] at HK
      clear h1 h2
      obtain ⟨n', rfl⟩ := Int.eq_ofNat_of_zero_le b1
      obtain ⟨m', rfl⟩ := Int.eq_ofNat_of_zero_le b2
      rw [Int.toNat_natCast, Int.toNat_natCast]
      have HB := hid (show n' ≤ 2000 ∧ m' ≤ 2000 ∧ n' + m' ≤ 2000 by omega)
      clear b1 b2 b3
      have HR1 := hid (fun (W : World) (b : Nat) (h : W.heap.size = b) => rep_any (W.alloc (.cells #[.int .i64 t] 3)) b 0 1 n' t (by rw [← h]; exact cell_alloc_new _ _ _ _ 0) (by have := HB.out; omega))
      have HR2 := hid (fun (W : World) (b : Nat) (h : W.heap.size = b) => rep_any (W.alloc (.cells #[.int .i64 cold] 3)) b 0 1 m' cold (by rw [← h]; exact cell_alloc_new _ _ _ _ 0) (by have := HB.out; omega))
      go_enter Try.func12, Try.ntmps12
      go_wp2_with (first
        | (go_at_call 31; refine (HT.out _ _ (by simp)).mono ?_; rintro e w' ⟨rfl, rfl⟩)
        | (go_at_call 32; refine (HK.out _ _ (by simp)).mono ?_; rintro e w' ⟨rfl, rfl⟩))
      refine (HR1.out _ _ (by simp)).mono ?_
      rintro e w2 ⟨g1, rfl, hg1, hk1, hb1⟩
      rw [List.length_replicate]
      have HK1 := hid hk1
      have HB1 : Hid (Below w.heap.size w w2) := bstep ((((Below.refl _ w).alloc (Nat.le_refl _) _).alloc (by simp) _).alloc (by simp; omega) _) (by simp; omega) hb1
      clear hk1 hb1 hg1
      go_wp2_with fail
      refine (HR2.out _ _ (by simp)).mono ?_
      rintro e w3 ⟨g2, rfl, hg2, hk2, hb2⟩
      rw [List.length_replicate]
      have HK2 := hid hk2
      have hb2' := (((Below.refl _ w2).alloc (Nat.le_refl _) (.cells #[.int .i64 cold] 3)).trans (hb2.mono (by simp)))
      have HK1 := hid ((hb2'.block _ (lt_of_block HK1.out)).trans HK1.out)
      have HB3 : Hid (Below w.heap.size w w3) := bstep HB1.out HB1.out.size hb2'
      clear hk2 hb2 hg2 hb2' HB1
      go_wp2_with fail
      have hrl : ∀ (k : Nat) (x : Int), (List.replicate k x).length = k := fun k x => List.length_replicate
      have hba := (Below.refl _ w3).alloc (Nat.le_refl _) (.cells #[.slice (some ⟨g1, 0, none⟩) n' n', .slice (some ⟨g2, 0, none⟩) m' m'] 28)
      have HR1' := hid (show RowI w3 (.slice (some ⟨g1, 0, none⟩) n' n') (List.replicate n' t) by have h := rowI_of_block (cap := n') HK1.out (by rw [hrl]; have := HB.out; omega); rwa [hrl] at h)
      have HR2' := hid (show RowI w3 (.slice (some ⟨g2, 0, none⟩) m' m') (List.replicate m' cold) by have h := rowI_of_block (cap := m') HK2.out (by rw [hrl]; have := HB.out; omega); rwa [hrl] at h)
      have HCC := hid (fun (b : Nat) (h : w3.heap.size = b) => concat2_any (W := w3.alloc (.cells #[.slice (some ⟨g1, 0, none⟩) n' n', .slice (some ⟨g2, 0, none⟩) m' m'] 28)) (b := b) ⟨by rw [← h]; exact cell_alloc_new _ _ _ _ 0, by rw [← h]; exact cell_alloc_new _ _ _ _ 1⟩ (HR1'.out.keep hba) (HR2'.out.keep hba) (by rw [List.length_append, hrl, hrl]; have := HB.out; omega))
      have HBA := hid hba
      clear hba hrl
      refine (HCC.out _ rfl).mono ?_
      rintro e w4 ⟨u, rfl, ho, hb4⟩
      have HRC := hid (NewI.rowI ho (by rw [List.length_append, List.length_replicate, List.length_replicate]; have := HB.out; omega))
      have HB4 := hid (bstep HB3.out HB3.out.size (HBA.out.trans (hb4.mono (by simp))))
      clear ho hb4
      go_wp2_with fail
      refine bodyPost_ret (v := .tuple #[u, .int .i64 0]) (by simp [results, Try.results12, go_sem]) rfl ⟨u, rfl, HRC.out, HB4.out⟩
end Go.Proofs.Ytedfajokiblfhaa
