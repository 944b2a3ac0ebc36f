/- Walk of slices.Repeat over one number: contract. -/
import Derived.Test.YtpkcnojcklmhmaaHx
import Derived.Test.YtpkcnojcklmhmaaMu
import Derived.Laws.CopyOwn
import Derived.Deep.RegionLaw
import Derived.Deep.OwnRows
namespace Go.Proofs.Ytpkcnojcklmhmaa
open Go.RowKit

/-- What has been filled: m times t, then zeros. -/
def filL (t : Int) (n m : Nat) : List Int := List.replicate m t ++ List.replicate (n - m) 0
theorem filL_all (t : Int) (n : Nat) : filL t n n = List.replicate n t := by simp [filL]
theorem filL_len {t : Int} {n m : Nat} (h : m ≤ n) : (filL t n m).length = n := by simp [filL]; omega
theorem ivs_append (l m : List Int) : ivs (l ++ m) = ivs l ++ ivs m := by simp [ivs]
theorem ivs_rep (t : Int) (n : Nat) : ivs (List.replicate n t) = List.replicate n (.int .i64 t) := by simp [ivs]
theorem filL_one {t : Int} {n : Nat} (h : 1 ≤ n) : splice (List.replicate n (Value.int .i64 0)) 0 [.int .i64 t] = ivs (filL t n 1) := by
  have e := splice_mid ([] : List Value) (List.replicate n (Value.int .i64 0)) [] [.int .i64 t] (by rw [List.length_replicate]; exact h)
  rw [List.nil_append, List.append_nil] at e
  rw [List.length_nil] at e
  rw [e]
  simp [filL, ivs]
theorem filL_step {t : Int} {n m k : Nat} (h : m + k ≤ n) : splice (ivs (filL t n m)) m (ivs (List.replicate k t)) = ivs (filL t n (m + k)) := by
  have e := splice_mid (List.replicate m (Value.int .i64 t)) (List.replicate (n - m) (Value.int .i64 0)) [] (List.replicate k (.int .i64 t)) (by simp; omega)
  rw [List.length_replicate, List.append_nil] at e
  unfold filL
  rw [ivs_append, ivs_append, ivs_rep, ivs_rep, ivs_rep, ivs_rep, e]
  rw [List.length_replicate, List.drop_replicate, List.append_nil, ← List.append_assoc, List.replicate_append_replicate, show n - m - k = n - (m + k) by omega, ivs_rep]
theorem filL_at {t : Int} {n m j : Nat} (h : j < m) : (filL t n m)[j]? = some t := by
  unfold filL
  rw [List.getElem?_append_left (by simpa using h)]
  simp [h]
/-- A row of ints in memory that is new since w. -/
def RepP (w : World) (l : List Int) (e : Ending) (w' : World) : Prop := ∃ g, e = .returned (.slice (some ⟨g, 0, none⟩) l.length l.length) ∧ w.heap.size ≤ g ∧ w'.heap[g]? = some (.cells (ivs l).toArray 3 (0, 0)) ∧ Below w.heap.size w w'

set_option maxRecDepth 100000 in
set_option maxHeartbeats 2000000 in
theorem repeat_any (w : World) (b o cap n : Nat) (t : Int) (hc : w.cell? ⟨b, o, none⟩ = some (.int .i64 t)) (hn1 : 1 ≤ n) (hn2 : n ≤ 4096) :
    Calls Try.prog 61 #[.slice (some ⟨b, o, none⟩) 1 cap, .int .i64 (n : Int)] w (RepP w (List.replicate n t)) := by
  have hmk := run_make_row' (P := Try.prog) 24 3 (.int .i64 0) 8 Try.underlying24 infoIf rfl .i64 .i64 n (by omega) (by omega)
  have HSRC := hid (src_cells (w := w.alloc (.cells (madeCells #[.int .i64 0] n) 3)) (b := b) (o := o) (l := [t]) (fun k hk => by obtain rfl : k = 0 := (by simpa using hk); exact keep_cell ((Below.refl _ w).alloc (Nat.le_refl _) (.cells (madeCells #[.int .i64 0] n) 3)) hc))
  have hmin : ([t].map (Value.int .i64)).length = Nat.min 1 n := by simp; exact (Nat.min_eq_left hn1).symm
  have HMIN := hid hmin
  have hfit : 0 + ([t].map (Value.int .i64)).length ≤ (List.replicate n (Value.int .i64 0)).length := by simp; omega
  have HFIT := hid hfit
  have HONE := hid (filL_one (t := t) hn1)
  clear hmin hfit
  have HC := hid (keep_cell ((Below.refl _ w).alloc (Nat.le_refl _) (.cells (madeCells #[.int .i64 0] n) 3)) hc)
  have h0 : ¬ (n : Int) < 0 := by omega
  have hbig : decide ((9223372036854775807 : Int) < n) = false := by simp; omega
  clear hc
  go_enter Try.func61, Try.ntmps61
  go_wp2_with (first
    | (go_at_call 91; refine (mul_one n _ hn1 hn2).mono ?_; rintro e w' ⟨rfl, rfl⟩)
    | (refine wpList_copy_splice rfl (.tmp 31) (.tmp 32) 24 24 rfl 3 Try.underlying24 infoI (some ⟨w.heap.size, 0, none⟩) (some ⟨b, o, none⟩) n n 1 cap rfl rfl w.heap.size 0 (List.replicate n (Value.int .i64 0)) 3 (made_at w n 3) ([t].map (.int .i64)) HMIN.out (fun _ => ⟨rfl, _, rfl, HSRC.out⟩) HFIT.out (ints_one [t]) w.heap.size w ((Below.refl _ w).alloc (Nat.le_refl _) _) (Nat.le_refl _) ?_; intro w6 HG6 hB6))
  have hg6 := HG6.out
  rw [List.map_cons, List.map_nil, HONE.out] at hg6
  have HG := hid hg6
  have HB6 := hid hB6
  clear HG6 hg6 hB6
  clear HSRC HMIN HFIT HONE hmk HC
  go_loopw [8] (fun i wr => ∃ m : Nat, 1 ≤ m ∧ m ≤ n ∧ i = .int .i64 (m : Int) ∧ Hid (wr.heap[w.heap.size]? = some (.cells (ivs (filL t n m)).toArray 3 (0, 0))) ∧ Hid (Below w.heap.size w wr)) (fun i _ => n - (intOf i).toNat)
  case atStart => exact ⟨1, Nat.le_refl _, hn1, rfl, HG, HB6⟩
  case round =>
    obtain ⟨m, hm1, hm2, rfl, HW, HB⟩ := hrel
    by_cases hlt : m < n
    · have hlt' : (m : Int) < n := by omega
      have hne : ¬ n = m := by omega
      obtain ⟨k, hk⟩ : ∃ k, k = Nat.min m (n - m) := ⟨_, rfl⟩
      have hk1 : 1 ≤ k := by rw [hk]; exact Nat.le_min.2 ⟨hm1, by omega⟩
      have hk2 : m + k ≤ n := by have := Nat.min_le_right m (n - m); rw [hk]; show m + Nat.min m (n - m) ≤ n; have h2 : Nat.min m (n - m) ≤ n - m := this; omega
      have hk3 : k ≤ m := by rw [hk]; exact Nat.min_le_left m (n - m)
      have HCS := hid (show (ivs (List.replicate k t)).length = Nat.min m (n - m) by rw [ivs_len, List.length_replicate, hk])
      have HFT := hid (show m + (ivs (List.replicate k t)).length ≤ (ivs (filL t n m)).length by rw [ivs_len, ivs_len, List.length_replicate, filL_len hm2]; exact hk2)
      have HSR := hid (src_cells (w := wr.drew) (b := w.heap.size) (o := 0) (l := List.replicate k t) (fun j hj => by
        rw [List.length_replicate] at hj
        rw [Nat.zero_add]
        refine (cell_of_row wr w.heap.size j _ _ _ HW.out).trans ?_
        have := ivs_at (filL_at (t := t) (n := n) (show j < m by omega))
        simpa using this))
      have HSTEP := hid (filL_step (t := t) hk2)
      have HONE := hid (ivs_one (List.replicate k t))
      clear hk
      go_wp2
      go_region_held3 (fun w' => Below w.heap.size w w') (first | exact HB.out.drew | exact hB7) ((refine step_copy_splice rfl (.tmp 41) (.tmp 44) 24 24 rfl 3 Try.underlying24 infoI (some ⟨w.heap.size, m, none⟩) (some ⟨w.heap.size, 0, none⟩) (n - m) (n - m) m n rfl rfl w.heap.size m (ivs (filL t n m)) 3 HW.out (ivs (List.replicate k t)) HCS.out (fun _ => ⟨rfl, _, rfl, HSR.out⟩) HFT.out HONE.out w.heap.size w HB.out.drew (Nat.le_refl _) ?_; intro w7 HG7 hB7))
      have HG8 := hid HG7.out
      rw [HSTEP.out] at HG8
      have HB8 := hid hB7
      clear HG7 hB7
      go_wp2
      go_roundw
      case rel => exact ⟨m + k, by omega, hk2, by rw [ivs_len, List.length_replicate, wrap_i64 (n := (m : Int) + k) (by omega) (by omega)]; go_num, HG8, HB8⟩
      case measure =>
        rw [ivs_len, List.length_replicate, wrap_i64 (n := (m : Int) + k) (by omega) (by omega)]
        simp [intOf]; omega
    · obtain rfl : m = n := by omega
      rw [filL_all] at HW
      go_wp2
      go_ret
      refine ⟨w.heap.size, ?_, Nat.le_refl _, HW.out, HB.out⟩
      rw [List.length_replicate]
      rfl
end Go.Proofs.Ytpkcnojcklmhmaa
