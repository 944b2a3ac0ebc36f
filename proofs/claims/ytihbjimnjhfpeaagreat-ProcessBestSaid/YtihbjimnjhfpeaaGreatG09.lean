/- Texts of this seat, one behind the other. -/
import Derived.Test.YtihbjimnjhfpeaaGreatG01
import Derived.Test.YtihbjimnjhfpeaaGreatG08
import Derived.Lib.AppendZeros
import Derived.Shelf.Bits.Mul64
import Derived.Laws.CopyOwn
import Derived.Deep.RegionLaw
import Derived.Deep.OwnRows
import Derived.Deep.DeepCutAuto
/- slices.Concat of rows of ints, slices.Min, Max, Index over one: contracts. -/
namespace Go.Proofs.YtihbjimnjhfpeaaGreat
open Go.RowKit Go.Shelf Go.Lib

/-- Rows of ints, one behind the other. -/
def flN (ls : Nat → List Int) (k : Nat) : List Int := (List.range k).flatMap ls
theorem flN_succ (ls : Nat → List Int) (k : Nat) : flN ls (k + 1) = flN ls k ++ ls k := by
  unfold flN; rw [List.range_succ, List.flatMap_append]; simp
theorem flN_two (ls : Nat → List Int) : flN ls 2 = ls 0 ++ ls 1 := by rw [flN_succ, flN_succ]; simp [flN]
theorem flN_mono (ls : Nat → List Int) {j k : Nat} (h : j ≤ k) : (flN ls j).length ≤ (flN ls k).length := by
  induction k with
  | zero => obtain rfl : j = 0 := by omega
            exact Nat.le_refl _
  | succ k ih =>
    rcases Nat.lt_or_ge j (k + 1) with h1 | h1
    · have := ih (by omega); rw [flN_succ, List.length_append]; omega
    · obtain rfl : j = k + 1 := by omega
      exact Nat.le_refl _
theorem infoQc : (Tryz.prog.info? 3).map (fun i => (i.zero, i.size, i.bytes)) = some (some (.int .i64 0), 1, 8) := by kernel_rfl
/-- A row of ints that the call made, maybe none. -/
def NewI (w : World) (l : List Int) (e : Ending) (w' : World) : Prop := ∃ v, e = .returned v ∧ w'.ownsRow w.heap.size 3 1 v (ivs l).length (ivs l) ∧ Below w.heap.size w w'
theorem NewI.rowI {w w' : World} {l : List Int} {v : Value} (h : w'.ownsRow w.heap.size 3 1 v (ivs l).length (ivs l)) (hl : l.length ≤ 1000000) : RowI w' v l := own_rowI (by rwa [ivs_len] at h) hl
theorem own_shapeP {w : World} {base e n : Nat} {v : Value} {xs : List Value} (h : w.ownsRow base e 1 v n xs) : ∃ a c, v = .slice a n c := by
  rcases h.2 with ⟨rfl, rfl⟩ | ⟨g, cap, cur, rfl, _⟩
  · exact ⟨none, 0, rfl⟩
  · exact ⟨_, _, rfl⟩
set_option maxRecDepth 20000 in
set_option maxHeartbeats 2000000 in
theorem growN_any (n : Nat) (w : World) (hm : n ≤ 1000000) :
    Calls Tryz.prog 114 #[.slice none 0 0, .int .i64 (n : Int)] w (NewI w []) := by
  rcases Nat.eq_zero_or_pos n with rfl | h0
  · go_enter Tryz.func114, Tryz.ntmps114
    go_wp2
    go_ret
    exact ⟨_, rfl, World.ownsRow_nil _ _ _ _, Below.refl _ _⟩
  obtain ⟨i0, hi, hz0, hz1, hz2⟩ := info_parts infoQc
  have hr := fun W : World => run_append_nil_zeros (P := Tryz.prog) W 28 3 28 3 i0 _ .i64 .i64 Tryz.underlying28 Tryz.underlying3 hi hz0 n h0 (by rw [hz1]; omega) (by omega) (by rw [hz2]; omega)
  have h1 : ¬ (n : Int) < 0 := by omega
  have h2 : (0 : Int) < (n : Int) := by omega
  go_enter Tryz.func114, Tryz.ntmps114
  go_wp2_with (refine wpList_append_run _ rfl _ _ 28 3 rfl _ _ rfl rfl _ _ (hr _) ?_)
  go_ret
  have g1 := grownCap_ge w n 0 3
  have g2 := grownCap_le_maxLen w n 0 3 (by unfold maxLen; omega)
  refine ⟨_, rfl, ⟨rfl, .inr ⟨w.heap.size, _, _, rfl, Nat.le_refl _, (heap_alloc_new w _), Nat.zero_le _, g2, ?_, by simp [ivs]⟩⟩, ((Below.refl _ w).alloc (Nat.le_refl _) _).drew⟩
  simp [size_zeroCells]
  omega
set_option maxRecDepth 20000 in
set_option maxHeartbeats 4000000 in
theorem concatN_any (g cap L : Nat) (vs : Nat → Value) (ls : Nat → List Int) (w : World) (hbig : (flN ls L).length ≤ 100000) (hLb : L ≤ 1000)
    (hrow : ∀ j, j < L → w.cell? ⟨g, j, none⟩ = some (vs j)) (hl : ∀ j, j < L → RowI w (vs j) (ls j)) :
    Calls Tryz.prog 72 #[.slice (some ⟨g, 0, none⟩) L cap] w (NewI w (flN ls L)) := by
  have HROW := hid (fun (w1 : World) (hb : Below w.heap.size w w1) j (hj : j < L) => And.intro (keep_cell hb (hrow j hj)) ((hl j hj).keep hb))
  have HBIG := hid hbig
  clear hrow hl hbig
  go_enter Tryz.func72, Tryz.ntmps72
  go_wp2
  go_loop [3, 11] (fun s t => ∃ k : Nat, k ≤ L ∧ s = .int .i64 (((flN ls k).length : Nat) : Int) ∧ t = .int .i64 (k : Int)) (fun _ t => L - (intOf t).toNat)
  case atStart => exact ⟨0, Nat.zero_le _, by simp [flN], rfl⟩
  case round =>
    obtain ⟨k, hk, rfl, rfl⟩ := hrel
    by_cases hlt : k < L
    · have hlt' : (k : Int) < L := by omega
      obtain ⟨e1, e2⟩ := HROW.out w (Below.refl _ _) k hlt
      obtain ⟨a, c, hv⟩ := e2.shape
      rw [hv] at e1
      have HS := hid (show (flN ls (k + 1)).length = (flN ls k).length + (ls k).length by rw [flN_succ, List.length_append])
      have hle := flN_mono ls (show k + 1 ≤ L from hlt)
      rw [HS.out] at hle
      have hle2 := HBIG.out
      generalize (ls k).length = R at *
      obtain ⟨S, hS⟩ : ∃ S, S = (flN ls k).length := ⟨_, rfl⟩
      rw [← hS] at hle HS
      rw [← hS]
      have hn0 : ¬ ((S : Int) + (R : Int) < 0) := by omega
      have hle3 : S + R ≤ 100000 := by omega
      clear hS hv e2 hle hle2
      go_wp2
      go_round
      case rel => exact ⟨k + 1, hlt, by rw [HS.out]; go_num, by go_num⟩
      case measure => simp [intOf]; omega
    · obtain rfl : k = L := by omega
      clear hlt hk
      obtain ⟨S, hS⟩ : ∃ S, S = (flN ls k).length := ⟨_, rfl⟩
      have HS := hid hS
      have hbS : S ≤ 100000 := by rw [hS]; exact HBIG.out
      rw [← hS]
      clear hS
      go_wp2_with fail
      refine (growN_any S w (by omega)).mono ?_
      rintro e w1 ⟨u, rfl, hu, hb⟩
      have HU := hid hu
      have HB := hid hb
      clear hu hb
      obtain ⟨u0, c0, rfl⟩ := own_shapeP HU.out
      obtain ⟨i0, hi, hz0, hz1, hz2⟩ := info_parts infoQc
      go_wp2_with fail
      go_loopw [6, 27] (fun u t wr => ∃ m : Nat, m ≤ k ∧ t = .int .i64 (m : Int) ∧ Hid (wr.ownsRow w.heap.size 3 1 u (ivs (flN ls m)).length (ivs (flN ls m))) ∧ Hid (Below w.heap.size w wr)) (fun _ t _ => k - (intOf t).toNat)
      case atStart => exact ⟨0, Nat.zero_le _, rfl, HU, HB⟩
      case round =>
        obtain ⟨m, hm, rfl, hO, hB⟩ := hrel
        obtain ⟨ua, uc, rfl⟩ := own_shapeP hO.out
        by_cases hlt : m < k
        · have hlt' : (m : Int) < k := by omega
          obtain ⟨e1, e2⟩ := HROW.out _ hB.out m hlt
          obtain ⟨a, c, hv⟩ := e2.shape
          have HSRC := hid e2.src
          rw [hv] at e1 HSRC
          have HSUC := hid (flN_succ ls m)
          have hle := flN_mono ls (show m + 1 ≤ k from hlt)
          rw [flN_succ, List.length_append] at hle
          have hle2 := HBIG.out
          have HBD := hid (show (ivs (flN ls m)).length + (ls m).length ≤ 1000000 by rw [ivs_len]; omega)
          have HLT := hid hlt
          generalize flN ls m = F at *
          generalize ls m = C at *
          clear hle hle2 hlt hv e2
          go_wp2_with (at_builtin; (refine wpList_app rfl (.tmp 31) (.tmp 32) 28 rfl w.heap.size 3 i0 Tryz.underlying28 hi hz0 hz1 hz2 _ (ivs F) rfl hO.out _ C rfl HSRC.out HBD.out hB.out.size ?_); intro v3 w6 hA1; have HB6 := hid (app_low hB.out hO.out (Nat.le_refl _) hA1); have HO6 := hid (app_next hA1); obtain ⟨a3, c3, rfl⟩ := own_shapeP HO6.out; clear hA1)
          go_roundw
          case rel => exact ⟨m + 1, HLT.out, by go_num, by have h := HO6.out; rw [List.length_append] at h; rw [HSUC.out, ivs_len, List.length_append]; exact hid h, HB6⟩
          case measure => have := HLT.out; simp [intOf]; omega
        · obtain rfl : m = k := by omega
          go_wp2_with fail
          go_ret
          exact ⟨_, rfl, hO.out, hB.out⟩

/-- The least, and the greatest, of the first numbers of a list. -/
def minK (ds : List Int) : Nat → Int
  | 0 => ds.getD 0 0
  | k + 1 => min (minK ds k) (ds.getD (k + 1) 0)
def maxK (ds : List Int) : Nat → Int
  | 0 => ds.getD 0 0
  | k + 1 => max (maxK ds k) (ds.getD (k + 1) 0)
def minA (ds : List Int) : Int := minK ds (ds.length - 1)
def maxA (ds : List Int) : Int := maxK ds (ds.length - 1)
theorem getD_here {ds : List Int} {k : Nat} (h : k < ds.length) : ds.getD k 0 = ds[k] := by simp [List.getD, h]
theorem minK_mem {ds : List Int} : ∀ {k : Nat}, k < ds.length → minK ds k ∈ ds
  | 0, h => by unfold minK; rw [getD_here h]; exact List.getElem_mem h
  | k + 1, h => by
    have h1 := minK_mem (ds := ds) (k := k) (by omega)
    have h2 := List.getElem_mem h
    unfold minK
    rw [getD_here h]
    by_cases g : minK ds k ≤ ds[k + 1]
    · rw [Int.min_eq_left g]; exact h1
    · rw [Int.min_eq_right (by omega)]; exact h2
theorem maxK_mem {ds : List Int} : ∀ {k : Nat}, k < ds.length → maxK ds k ∈ ds
  | 0, h => by unfold maxK; rw [getD_here h]; exact List.getElem_mem h
  | k + 1, h => by
    have h1 := maxK_mem (ds := ds) (k := k) (by omega)
    have h2 := List.getElem_mem h
    unfold maxK
    rw [getD_here h]
    by_cases g : maxK ds k ≤ ds[k + 1]
    · rw [Int.max_eq_right g]; exact h2
    · rw [Int.max_eq_left (by omega)]; exact h1
theorem minK_le {ds : List Int} : ∀ {k : Nat}, k < ds.length → ∀ j ≤ k, ∀ hj : j < ds.length, minK ds k ≤ ds[j]
  | 0, h, j, hj, hl => by
    obtain rfl : j = 0 := by omega
    unfold minK; rw [getD_here h]; exact Int.le_refl _
  | k + 1, h, j, hj, hl => by
    unfold minK
    rw [getD_here h]
    by_cases g : j = k + 1
    · subst g; exact Int.min_le_right ..
    · have := minK_le (ds := ds) (k := k) (by omega) j (by omega) hl
      have := Int.min_le_left (minK ds k) ds[k + 1]
      omega
theorem maxK_ge {ds : List Int} : ∀ {k : Nat}, k < ds.length → ∀ j ≤ k, ∀ hj : j < ds.length, ds[j] ≤ maxK ds k
  | 0, h, j, hj, hl => by
    obtain rfl : j = 0 := by omega
    unfold maxK; rw [getD_here h]; exact Int.le_refl _
  | k + 1, h, j, hj, hl => by
    unfold maxK
    rw [getD_here h]
    by_cases g : j = k + 1
    · subst g; exact Int.le_max_right ..
    · have := maxK_ge (ds := ds) (k := k) (by omega) j (by omega) hl
      have := Int.le_max_left (maxK ds k) ds[k + 1]
      omega
theorem minA_mem {ds : List Int} (h : 0 < ds.length) : minA ds ∈ ds := minK_mem (by omega)
theorem maxA_mem {ds : List Int} (h : 0 < ds.length) : maxA ds ∈ ds := maxK_mem (by omega)
theorem minA_le {ds : List Int} {x : Int} (hx : x ∈ ds) : minA ds ≤ x := by
  obtain ⟨j, hj, rfl⟩ := List.getElem_of_mem hx
  exact minK_le (by omega) j (by omega) hj
theorem maxA_ge {ds : List Int} {x : Int} (hx : x ∈ ds) : x ≤ maxA ds := by
  obtain ⟨j, hj, rfl⟩ := List.getElem_of_mem hx
  exact maxK_ge (by omega) j (by omega) hj
theorem minA_uniq {ds : List Int} {D : Int} (h : D ∈ ds) (g : ∀ x ∈ ds, D ≤ x) : D = minA ds := by
  have h1 := g _ (minA_mem (List.length_pos_of_mem h))
  have h2 := minA_le h
  omega
theorem minK_succ {ds : List Int} {k : Nat} (h : k + 1 < ds.length) : minK ds (k + 1) = min (minK ds k) ds[k + 1] := by
  simp only [minK, getD_here h]
theorem maxK_succ {ds : List Int} {k : Nat} (h : k + 1 < ds.length) : maxK ds (k + 1) = max (maxK ds k) ds[k + 1] := by
  simp only [maxK, getD_here h]
theorem minK_zero {ds : List Int} (h : 0 < ds.length) : minK ds 0 = ds[0] := by simp only [minK, getD_here h]
theorem maxK_zero {ds : List Int} (h : 0 < ds.length) : maxK ds 0 = ds[0] := by simp only [maxK, getD_here h]

set_option maxRecDepth 20000 in
set_option maxHeartbeats 4000000 in
theorem minA_any (v : Value) (ds : List Int) (w : World) (hr : RowI w v ds) (h0 : 0 < ds.length) (hlen : ds.length ≤ 100000) : Calls Tryz.prog 94 #[v] w fun e w' => e = .returned (.int .i64 (minA ds)) ∧ w = w' := by
  obtain ⟨a, b, o, cap, rfl, ha, hc, hbl⟩ := hr.form
  obtain ⟨n, hn⟩ : ∃ n, ds.length = n + 1 := ⟨ds.length - 1, by omega⟩
  have HD := hid (show minA ds = minK ds n by unfold minA; rw [hn]; rfl)
  rcases ha with h1 | rfl
  · rw [h1] at h0; simp at h0
  have c0 := hc 0 h0
  have hz := minK_zero h0
  rw [← hz, Nat.add_zero] at c0
  clear hz
  have HC := hid hc
  have HN := hid hn
  rw [hn]
  have hn2 : n + 1 ≤ 100000 := by omega
  have hcast : (((n + 1 : Nat)) : Int) = (n : Int) + 1 := by omega
  have hlt1 : ¬ (((n + 1 : Nat)) : Int) < 1 := by omega
  clear hn hr hbl hc h0 hlen
  go_enter Tryz.func94, Tryz.ntmps94
  go_wp2_with fail
  go_loop [3, 4] (fun m t => ∃ k : Nat, k ≤ n ∧ m = .int .i64 (minK ds k) ∧ t = .int .i64 ((k : Int) + 1)) (fun _ t => (n : Int) + 1 - intOf t |>.toNat)
  case atStart => exact ⟨0, by omega, rfl, rfl⟩
  case round =>
    obtain ⟨k, hk, rfl, rfl⟩ := hrel
    by_cases hlt : k < n
    · have hlt' : (k : Int) + 1 < (((n + 1 : Nat)) : Int) := by omega
      have hkd : k + 1 < ds.length := by rw [HN.out]; omega
      have ck := HC.out (k + 1) hkd
      have HS := hid (minK_succ hkd)
      generalize ds[k + 1]'hkd = x at *
      have HLT := hid hlt
      clear hlt hkd
      go_wp2_with fail
      go_round
      case rel => exact ⟨k + 1, HLT.out, by rw [HS.out]; exact int_eq (by split <;> omega), by go_num⟩
      case measure => have := HLT.out; simp [intOf]; omega
    · obtain rfl : k = n := by omega
      have hge : ¬ (k : Int) + 1 < (((k + 1 : Nat)) : Int) := by omega
      go_wp2_with fail
      go_ret
      exact ⟨ret_int HD.out.symm, rfl⟩
set_option maxRecDepth 20000 in
set_option maxHeartbeats 4000000 in
theorem maxA_any (v : Value) (ds : List Int) (w : World) (hr : RowI w v ds) (h0 : 0 < ds.length) (hlen : ds.length ≤ 100000) : Calls Tryz.prog 33 #[v] w fun e w' => e = .returned (.int .i64 (maxA ds)) ∧ w = w' := by
  obtain ⟨a, b, o, cap, rfl, ha, hc, hbl⟩ := hr.form
  obtain ⟨n, hn⟩ : ∃ n, ds.length = n + 1 := ⟨ds.length - 1, by omega⟩
  have HD := hid (show maxA ds = maxK ds n by unfold maxA; rw [hn]; rfl)
  rcases ha with h1 | rfl
  · rw [h1] at h0; simp at h0
  have c0 := hc 0 h0
  have hz := maxK_zero h0
  rw [← hz, Nat.add_zero] at c0
  clear hz
  have HC := hid hc
  have HN := hid hn
  rw [hn]
  have hn2 : n + 1 ≤ 100000 := by omega
  have hcast : (((n + 1 : Nat)) : Int) = (n : Int) + 1 := by omega
  have hlt1 : ¬ (((n + 1 : Nat)) : Int) < 1 := by omega
  clear hn hr hbl hc h0 hlen
  go_enter Tryz.func33, Tryz.ntmps33
  go_wp2_with fail
  go_loop [3, 4] (fun m t => ∃ k : Nat, k ≤ n ∧ m = .int .i64 (maxK ds k) ∧ t = .int .i64 ((k : Int) + 1)) (fun _ t => (n : Int) + 1 - intOf t |>.toNat)
  case atStart => exact ⟨0, by omega, rfl, rfl⟩
  case round =>
    obtain ⟨k, hk, rfl, rfl⟩ := hrel
    by_cases hlt : k < n
    · have hlt' : (k : Int) + 1 < (((n + 1 : Nat)) : Int) := by omega
      have hkd : k + 1 < ds.length := by rw [HN.out]; omega
      have ck := HC.out (k + 1) hkd
      have HS := hid (maxK_succ hkd)
      generalize ds[k + 1]'hkd = x at *
      have HLT := hid hlt
      clear hlt hkd
      go_wp2_with fail
      go_round
      case rel => exact ⟨k + 1, HLT.out, by rw [HS.out]; exact int_eq (by split <;> omega), by go_num⟩
      case measure => have := HLT.out; simp [intOf]; omega
    · obtain rfl : k = n := by omega
      have hge : ¬ (k : Int) + 1 < (((k + 1 : Nat)) : Int) := by omega
      go_wp2_with fail
      go_ret
      exact ⟨ret_int HD.out.symm, rfl⟩

/-- Where a list has a number first: the length where it has none. -/
def idxA (ds : List Int) (x : Int) : Nat := ds.findIdx (· == x)
set_option maxRecDepth 20000 in
set_option maxHeartbeats 4000000 in
theorem index_any (v : Value) (ds : List Int) (x : Int) (w : World) (hr : RowI w v ds) (hx : x ∈ ds) (hlen : ds.length ≤ 100000) : Calls Tryz.prog 95 #[v, .int .i64 x] w fun e w' => e = .returned (.int .i64 (idxA ds x : Nat)) ∧ w = w' := by
  obtain ⟨a, b, o, cap, rfl, ha, hc, hbl⟩ := hr.form
  have h0 := List.length_pos_of_mem hx
  rcases ha with h1 | rfl
  · rw [h1] at h0; simp at h0
  have HC := hid hc
  have HX := hid hx
  clear hr hbl hc h0 hx
  go_enter Tryz.func95, Tryz.ntmps95
  go_wp2_with fail
  go_loop [8] (fun t => ∃ k : Nat, k ≤ idxA ds x ∧ t = .int .i64 (k : Int)) (fun t => ds.length - (intOf t).toNat)
  case atStart => exact ⟨0, Nat.zero_le _, rfl⟩
  case round =>
    obtain ⟨k, hk, rfl⟩ := hrel
    have hlt : idxA ds x < ds.length := List.findIdx_lt_length_of_exists ⟨x, HX.out, by simp⟩
    have hkl : k < ds.length := by omega
    have hkl' : (k : Int) < ds.length := by omega
    have ck := HC.out k hkl
    by_cases he : ds[k] = x
    · have HI := hid (show idxA ds x = k by
        refine Nat.le_antisymm ?_ hk
        refine Nat.not_lt.1 fun g => ?_
        have := List.not_of_lt_findIdx g
        simp [he] at this)
      rw [he] at ck
      clear hlt hkl hk he
      go_wp2_with fail
      go_ret
      exact ⟨ret_int (by rw [HI.out]), rfl⟩
    · have HI := hid (show k + 1 ≤ idxA ds x by
        refine Nat.lt_of_le_of_ne hk fun g => he ?_
        have h1 := List.findIdx_getElem (p := fun y => y == x) (xs := ds) (w := hlt)
        simp only [beq_iff_eq] at h1
        have h2 : ds[k] = ds[ds.findIdx (fun y => y == x)]'hlt := by congr 1
        rw [h2]; exact h1)
      have hne : (x == ds[k]) = false := by simpa using (fun h => he h.symm)
      have HKL := hid hkl
      generalize ds[k] = y at *
      clear hlt hkl hk he
      go_wp2_with fail
      go_round
      case rel => exact ⟨k + 1, HI.out, by go_num⟩
      case measure => have := HKL.out; simp [intOf]; omega
end Go.Proofs.YtihbjimnjhfpeaaGreat

/- Walk of math/bits.Mul where one factor is 1 and the other one small: contract. -/
namespace Go.Proofs.YtihbjimnjhfpeaaGreat
open Go.RowKit Go.Lib

set_option maxRecDepth 100000 in
set_option maxHeartbeats 1000000 in
theorem mul64_one (n : Nat) (w : World) (h1 : 1 ≤ n) (h2 : n ≤ 4096) :
    Calls Tryz.prog 148 #[.int .u64 1, .int .u64 (n : Int)] w fun e w' => e = .returned (.tuple #[.int .u64 0, .int .u64 (n : Int)]) ∧ w = w' := by
  have e1 : bits .and .u64 1 4294967295 = 1 := by decide
  have e2 : bits .and .u64 (n : Int) 4294967295 = (n : Int) := by rw [Mul64.maskN n (by omega)]; omega
  have e3 : bits .and .u64 0 4294967295 = 0 := by decide
  have e4 : (n : Int) / 4294967296 = 0 := by omega
  go_enter Tryz.func148, Tryz.ntmps148
  go_wp2
  go_ret2
  exact ⟨rfl, rfl⟩
set_option maxRecDepth 100000 in
set_option maxHeartbeats 1000000 in
theorem mul_one (n : Nat) (w : World) (h1 : 1 ≤ n) (h2 : n ≤ 4096) :
    Calls Tryz.prog 120 #[.int .u64 1, .int .u64 (n : Int)] w fun e w' => e = .returned (.tuple #[.int .u64 0, .int .u64 (n : Int)]) ∧ w = w' := by
  go_enter Tryz.func120, Tryz.ntmps120
  go_wp2_with (go_at_call 148; refine (mul64_one n _ h1 h2).mono ?_; rintro e w' ⟨rfl, rfl⟩)
  go_ret2
  exact ⟨rfl, rfl⟩
end Go.Proofs.YtihbjimnjhfpeaaGreat

/- Walk of slices.Repeat over one number: contract. -/
namespace Go.Proofs.YtihbjimnjhfpeaaGreat
open Go.RowKit

/-- What has been filled: m times t, then zeros. -/
def filL (t : Int) (n m : Nat) : List Int := List.replicate m t ++ List.replicate (n - m) 0
theorem filL_all (t : Int) (n : Nat) : filL t n n = List.replicate n t := by simp [filL]
theorem filL_len {t : Int} {n m : Nat} (h : m ≤ n) : (filL t n m).length = n := by simp [filL]; omega
theorem ivs_append (l m : List Int) : ivs (l ++ m) = ivs l ++ ivs m := by simp [ivs]
theorem ivs_rep (t : Int) (n : Nat) : ivs (List.replicate n t) = List.replicate n (.int .i64 t) := by simp [ivs]
theorem filL_one {t : Int} {n : Nat} (h : 1 ≤ n) : splice (List.replicate n (Value.int .i64 0)) 0 [.int .i64 t] = ivs (filL t n 1) := by
  have e := splice_mid ([] : List Value) (List.replicate n (Value.int .i64 0)) [] [.int .i64 t] (by rw [List.length_replicate]; exact h)
  rw [List.nil_append, List.append_nil] at e
  rw [List.length_nil] at e
  rw [e]
  simp [filL, ivs]
theorem filL_step {t : Int} {n m k : Nat} (h : m + k ≤ n) : splice (ivs (filL t n m)) m (ivs (List.replicate k t)) = ivs (filL t n (m + k)) := by
  have e := splice_mid (List.replicate m (Value.int .i64 t)) (List.replicate (n - m) (Value.int .i64 0)) [] (List.replicate k (.int .i64 t)) (by simp; omega)
  rw [List.length_replicate, List.append_nil] at e
  unfold filL
  rw [ivs_append, ivs_append, ivs_rep, ivs_rep, ivs_rep, ivs_rep, e]
  rw [List.length_replicate, List.drop_replicate, List.append_nil, ← List.append_assoc, List.replicate_append_replicate, show n - m - k = n - (m + k) by omega, ivs_rep]
theorem filL_at {t : Int} {n m j : Nat} (h : j < m) : (filL t n m)[j]? = some t := by
  unfold filL
  rw [List.getElem?_append_left (by simpa using h)]
  simp [h]
/-- A row of ints in memory that is new since w. -/
def RepP (w : World) (l : List Int) (e : Ending) (w' : World) : Prop := ∃ g, e = .returned (.slice (some ⟨g, 0, none⟩) l.length l.length) ∧ w.heap.size ≤ g ∧ w'.heap[g]? = some (.cells (ivs l).toArray 3 (0, 0)) ∧ Below w.heap.size w w'

set_option maxRecDepth 100000 in
set_option maxHeartbeats 2000000 in
theorem repeat_any (w : World) (b o cap n : Nat) (t : Int) (hc : w.cell? ⟨b, o, none⟩ = some (.int .i64 t)) (hn1 : 1 ≤ n) (hn2 : n ≤ 4096) :
    Calls Tryz.prog 74 #[.slice (some ⟨b, o, none⟩) 1 cap, .int .i64 (n : Int)] w (RepP w (List.replicate n t)) := by
  have hmk := run_make_row' (P := Tryz.prog) 28 3 (.int .i64 0) 8 Tryz.underlying28 infoIf rfl .i64 .i64 n (by omega) (by omega)
  have HSRC := hid (src_cells (w := w.alloc (.cells (madeCells #[.int .i64 0] n) 3)) (b := b) (o := o) (l := [t]) (fun k hk => by obtain rfl : k = 0 := (by simpa using hk); exact keep_cell ((Below.refl _ w).alloc (Nat.le_refl _) (.cells (madeCells #[.int .i64 0] n) 3)) hc))
  have hmin : ([t].map (Value.int .i64)).length = Nat.min 1 n := by simp; exact (Nat.min_eq_left hn1).symm
  have HMIN := hid hmin
  have hfit : 0 + ([t].map (Value.int .i64)).length ≤ (List.replicate n (Value.int .i64 0)).length := by simp; omega
  have HFIT := hid hfit
  have HONE := hid (filL_one (t := t) hn1)
  clear hmin hfit
  have HC := hid (keep_cell ((Below.refl _ w).alloc (Nat.le_refl _) (.cells (madeCells #[.int .i64 0] n) 3)) hc)
  have h0 : ¬ (n : Int) < 0 := by omega
  have hbig : decide ((9223372036854775807 : Int) < n) = false := by simp; omega
  clear hc
  go_enter Tryz.func74, Tryz.ntmps74
  go_wp2_with (first
    | (go_at_call 120; refine (mul_one n _ hn1 hn2).mono ?_; rintro e w' ⟨rfl, rfl⟩)
    | (refine wpList_copy_splice rfl (.tmp 31) (.tmp 32) 28 28 rfl 3 Tryz.underlying28 infoI (some ⟨w.heap.size, 0, none⟩) (some ⟨b, o, none⟩) n n 1 cap rfl rfl w.heap.size 0 (List.replicate n (Value.int .i64 0)) 3 (made_at w n 3) ([t].map (.int .i64)) HMIN.out (fun _ => ⟨rfl, _, rfl, HSRC.out⟩) HFIT.out (ints_one [t]) w.heap.size w ((Below.refl _ w).alloc (Nat.le_refl _) _) (Nat.le_refl _) ?_; intro w6 HG6 hB6))
  have hg6 := HG6.out
  rw [List.map_cons, List.map_nil, HONE.out] at hg6
  have HG := hid hg6
  have HB6 := hid hB6
  clear HG6 hg6 hB6
  clear HSRC HMIN HFIT HONE hmk HC
  go_loopw [8] (fun i wr => ∃ m : Nat, 1 ≤ m ∧ m ≤ n ∧ i = .int .i64 (m : Int) ∧ Hid (wr.heap[w.heap.size]? = some (.cells (ivs (filL t n m)).toArray 3 (0, 0))) ∧ Hid (Below w.heap.size w wr)) (fun i _ => n - (intOf i).toNat)
  case atStart => exact ⟨1, Nat.le_refl _, hn1, rfl, HG, HB6⟩
  case round =>
    obtain ⟨m, hm1, hm2, rfl, HW, HB⟩ := hrel
    by_cases hlt : m < n
    · have hlt' : (m : Int) < n := by omega
      have hne : ¬ n = m := by omega
      obtain ⟨k, hk⟩ : ∃ k, k = Nat.min m (n - m) := ⟨_, rfl⟩
      have hk1 : 1 ≤ k := by rw [hk]; exact Nat.le_min.2 ⟨hm1, by omega⟩
      have hk2 : m + k ≤ n := by have := Nat.min_le_right m (n - m); rw [hk]; show m + Nat.min m (n - m) ≤ n; have h2 : Nat.min m (n - m) ≤ n - m := this; omega
      have hk3 : k ≤ m := by rw [hk]; exact Nat.min_le_left m (n - m)
      have HCS := hid (show (ivs (List.replicate k t)).length = Nat.min m (n - m) by rw [ivs_len, List.length_replicate, hk])
      have HFT := hid (show m + (ivs (List.replicate k t)).length ≤ (ivs (filL t n m)).length by rw [ivs_len, ivs_len, List.length_replicate, filL_len hm2]; exact hk2)
      have HSR := hid (src_cells (w := wr.drew) (b := w.heap.size) (o := 0) (l := List.replicate k t) (fun j hj => by
        rw [List.length_replicate] at hj
        rw [Nat.zero_add]
        refine (cell_of_row wr w.heap.size j _ _ _ HW.out).trans ?_
        have := ivs_at (filL_at (t := t) (n := n) (show j < m by omega))
        simpa using this))
      have HSTEP := hid (filL_step (t := t) hk2)
      have HONE := hid (ivs_one (List.replicate k t))
      clear hk
      go_wp2
      go_region_held3 (fun w' => Below w.heap.size w w') (first | exact HB.out.drew | exact hB7) ((refine step_copy_splice rfl (.tmp 41) (.tmp 44) 28 28 rfl 3 Tryz.underlying28 infoI (some ⟨w.heap.size, m, none⟩) (some ⟨w.heap.size, 0, none⟩) (n - m) (n - m) m n rfl rfl w.heap.size m (ivs (filL t n m)) 3 HW.out (ivs (List.replicate k t)) HCS.out (fun _ => ⟨rfl, _, rfl, HSR.out⟩) HFT.out HONE.out w.heap.size w HB.out.drew (Nat.le_refl _) ?_; intro w7 HG7 hB7))
      have HG8 := hid HG7.out
      rw [HSTEP.out] at HG8
      have HB8 := hid hB7
      clear HG7 hB7
      go_wp2
      go_roundw
      case rel => exact ⟨m + k, by omega, hk2, by rw [ivs_len, List.length_replicate, wrap_i64 (n := (m : Int) + k) (by omega) (by omega)]; go_num, HG8, HB8⟩
      case measure =>
        rw [ivs_len, List.length_replicate, wrap_i64 (n := (m : Int) + k) (by omega) (by omega)]
        simp [intOf]; omega
    · obtain rfl : m = n := by omega
      rw [filL_all] at HW
      go_wp2
      go_ret
      refine ⟨w.heap.size, ?_, Nat.le_refl _, HW.out, HB.out⟩
      rw [List.length_replicate]
      rfl
end Go.Proofs.YtihbjimnjhfpeaaGreat

/- Walk of Even of both: contracts. -/
namespace Go.Proofs.YtihbjimnjhfpeaaGreat
open Go.RowKit

/-- What Even hands back. -/
def evenO (r l a b k a2 b2 t : Int) : Bd × Int :=
  if canB r l a b k a2 b2 = false then (([], false), 1) else if okT t = false then (([], false), 7) else ((List.replicate (cnOf r l a b k a2 b2).P t, decide (0 < k) && decide (k ≤ t)), 0)
theorem evenO_can {r l a b k a2 b2 t : Int} (h : canB r l a b k a2 b2 = false) : evenO r l a b k a2 b2 t = (([], false), 1) := by unfold evenO; rw [if_pos h]
theorem evenO_far {r l a b k a2 b2 t : Int} (h : canB r l a b k a2 b2 = true) (g : okT t = false) : evenO r l a b k a2 b2 t = (([], false), 7) := by unfold evenO; rw [if_neg (by rw [h]; simp), if_pos g]
theorem evenO_ok {c : Cn} {t : Int} (h : c.V) (g : okT t = true) : evenO c.R c.L c.A c.B c.K c.A2 c.B2 t = ((List.replicate c.P t, decide (0 < c.K) && decide (c.K ≤ t)), 0) := by
  unfold evenO; rw [if_neg (by rw [show canB (c.R : Int) c.L c.A c.B c.K c.A2 c.B2 = true from h]; simp), if_neg (by rw [g]; simp), cnOf_cn]
/-- The boxes of a can and of the body that comes back, whole. -/
structure R2 (w w1 : World) (A R : Array Value) : Prop where
  can : w1.heap[w.heap.size]? = some (.cells A 23 (0, 0))
  res : w1.heap[w.heap.size + 1]? = some (.cells R 87 (0, 0))
  low : Below w.heap.size w w1
theorem R2.keep {w w1 w2 : World} {A R : Array Value} (h : R2 w w1 A R) (hb : Below w1.heap.size w1 w2) : R2 w w2 A R :=
  ⟨(hb.block _ (lt_of_block h.can)).trans h.can, (hb.block _ (lt_of_block h.res)).trans h.res, bstep h.low h.low.size hb⟩
theorem r2_start {w : World} {A R : Array Value} : R2 w ((w.alloc (.cells A 23)).alloc (.cells R 87)) A R :=
  ⟨heap_alloc2_old w _ _, heap_alloc2_new w _ _, ((Below.refl _ _).alloc (Nat.le_refl _) _).alloc (by simp) _⟩
theorem R2.cell {w w1 : World} {A R : Array Value} (h : R2 w w1 A R) : (∀ i, w1.cell? ⟨w.heap.size, i, none⟩ = A[i]?) ∧ (∀ i, w1.cell? ⟨w.heap.size + 1, i, none⟩ = R[i]?) ∧ (∀ i, w1.frozen? ⟨w.heap.size + 1, i, none⟩ = false) :=
  ⟨fun i => cell_of_row _ _ i _ _ _ h.can, fun i => cell_of_row _ _ i _ _ _ h.res, fun i => frozen_of_row _ _ i _ _ h.res⟩
theorem R2.set {w W : World} {A : Array Value} {u v d0 d1 : Value} (h : R2 w W A #[d0, d1]) : ((W.setCell ⟨w.heap.size + 1, 0, none⟩ u).setCell ⟨w.heap.size + 1, 1, none⟩ v).cell? ⟨w.heap.size + 1, 0, none⟩ = some u ∧ ((W.setCell ⟨w.heap.size + 1, 0, none⟩ u).setCell ⟨w.heap.size + 1, 1, none⟩ v).cell? ⟨w.heap.size + 1, 1, none⟩ = some v ∧ Below w.heap.size w ((W.setCell ⟨w.heap.size + 1, 0, none⟩ u).setCell ⟨w.heap.size + 1, 1, none⟩ v) := by
  have h1 := heap_setCell_same W (w.heap.size + 1) 0 _ _ u h.res
  have h2 := heap_setCell_same _ (w.heap.size + 1) 1 _ _ v h1
  exact ⟨cell_of_row _ _ 0 _ _ _ h2, cell_of_row _ _ 1 _ _ _ h2, (h.low.setCell (p := ⟨w.heap.size + 1, 0, none⟩) (Nat.le_succ _) u).setCell (p := ⟨w.heap.size + 1, 1, none⟩) (Nat.le_succ _) v⟩
theorem R2.facts {w W : World} {c0 c1 c2 c3 c4 c5 c6 d0 d1 : Value} (h : R2 w W #[c0, c1, c2, c3, c4, c5, c6] #[d0, d1]) :
    W.cell? ⟨w.heap.size, 0, none⟩ = some c0 ∧ W.cell? ⟨w.heap.size, 1, none⟩ = some c1 ∧ W.cell? ⟨w.heap.size, 2, none⟩ = some c2 ∧ W.cell? ⟨w.heap.size, 3, none⟩ = some c3 ∧ W.cell? ⟨w.heap.size, 4, none⟩ = some c4 ∧ W.cell? ⟨w.heap.size, 5, none⟩ = some c5 ∧ W.cell? ⟨w.heap.size, 6, none⟩ = some c6 ∧
    W.cell? ⟨w.heap.size + 1, 0, none⟩ = some d0 ∧ W.cell? ⟨w.heap.size + 1, 1, none⟩ = some d1 ∧ W.frozen? ⟨w.heap.size + 1, 0, none⟩ = false ∧ W.frozen? ⟨w.heap.size + 1, 1, none⟩ = false ∧ w.heap.size + 1 < W.heap.size :=
  ⟨h.cell.1 0, h.cell.1 1, h.cell.1 2, h.cell.1 3, h.cell.1 4, h.cell.1 5, h.cell.1 6, h.cell.2.1 0, h.cell.2.1 1, h.cell.2.2 0, h.cell.2.2 1, lt_of_block h.res⟩

set_option maxRecDepth 100000 in
set_option maxHeartbeats 2000000 in
theorem even_no (r l a b k a2 b2 : Int) (w : World) (t : Int) (hn : canB r l a b k a2 b2 = false ∨ okT t = false) :
    Calls Tryz.prog 121 #[.agg #[.int .i64 r, .int .i64 l, .int .i64 a, .int .i64 b, .int .i64 k, .int .i64 a2, .int .i64 b2], .int .i64 t] w (OutB (evenO r l a b k a2 b2 t) w) := by
  have HS := hid (r2_start (w := w) (A := #[.int .i64 r, .int .i64 l, .int .i64 a, .int .i64 b, .int .i64 k, .int .i64 a2, .int .i64 b2]) (R := #[.slice none 0 0, .bool false]))
  cases hc : canB r l a b k a2 b2
  · rw [evenO_can hc]
    clear hn
    go_enter Tryz.func121, Tryz.ntmps121
    go_wp2_with fail
    refine (vcan_any _ _ _ _ _ _ _ _).mono ?_
    rintro e w1 ⟨rfl, hb⟩
    rw [hc]
    have H1 := hid (HS.out.keep hb)
    obtain ⟨k0, k1, k2, k3, k4, k5, k6, d0, d1, f0, f1, hz⟩ := H1.out.facts
    go_wp2_with fail
    obtain ⟨c6, c7, c9⟩ := H1.out.set (u := .slice none 0 0) (v := .bool false)
    exact bodyPost_ret (v := .tuple #[.agg #[.slice none 0 0, .bool false], .int .i64 1]) (by simp [results, Tryz.results121, go_sem, c6, c7]) rfl (outB_nil rfl c9)
  · have ho := hn.resolve_left (by rw [hc]; simp)
    rw [evenO_far hc ho]
    have HO := hid (show okL [t] = false by simp [okL, ho])
    clear hn ho
    go_enter Tryz.func121, Tryz.ntmps121
    go_wp2_with fail
    refine (vcan_any _ _ _ _ _ _ _ _).mono ?_
    rintro e w1 ⟨rfl, hb⟩
    rw [hc]
    have H1 := hid (HS.out.keep hb)
    obtain ⟨k0, k1, k2, k3, k4, k5, k6, d0, d1, f0, f1, hz⟩ := H1.out.facts
    go_wp2_with (go_at_call 149; refine (temps_any _ _ [t] (one_at _ _ rfl)).mono ?_; rintro e w' ⟨rfl, rfl⟩; rw [HO.out])
    obtain ⟨c6, c7, c9⟩ := H1.out.set (u := .slice none 0 0) (v := .bool false)
    generalize World.setCell _ _ (.bool false) = W8 at c6 c7 c9 ⊢
    have hb8 := (Below.refl _ W8).alloc (Nat.le_refl _) (.cells #[.int .i64 t] 3)
    have c6 := keep_cell hb8 c6
    have c7 := keep_cell hb8 c7
    have c9 := bstep c9 c9.size hb8
    exact bodyPost_ret (v := .tuple #[.agg #[.slice none 0 0, .bool false], .int .i64 7]) (by simp [results, Tryz.results121, go_sem, c6, c7]) rfl (outB_nil rfl c9)

/-- R2, whatever the body's cells hold. -/
def R2e (c : Cn) (w w1 : World) : Prop := ∃ d0 d1, R2 w w1 #[.int .i64 (c.R : Int), .int .i64 (c.L : Int), .int .i64 c.A, .int .i64 c.B, .int .i64 c.K, .int .i64 c.A2, .int .i64 c.B2] #[d0, d1]
theorem r2e_set {c : Cn} {w W : World} {u v : Value} (h : R2e c w W) : R2e c w ((W.setCell ⟨w.heap.size + 1, 0, none⟩ u).setCell ⟨w.heap.size + 1, 1, none⟩ v) := by
  obtain ⟨d0, d1, h⟩ := h
  have h1 := heap_setCell_same W (w.heap.size + 1) 0 _ _ u h.res
  have h2 := heap_setCell_same _ (w.heap.size + 1) 1 _ _ v h1
  exact ⟨u, v, (heap_setCell_other _ _ _ _ (show w.heap.size ≠ w.heap.size + 1 by omega)).trans ((heap_setCell_other _ _ _ _ (show w.heap.size ≠ w.heap.size + 1 by omega)).trans h.can), h2, h.set.2.2⟩
/-- R2 with the can's cells laid out. -/
def RawR (c : Cn) (w w1 : World) : Prop := w1.cell? ⟨w.heap.size, 0, none⟩ = some (.int .i64 (c.R : Int)) ∧ w1.cell? ⟨w.heap.size, 1, none⟩ = some (.int .i64 (c.L : Int)) ∧ w1.cell? ⟨w.heap.size, 2, none⟩ = some (.int .i64 c.A) ∧ w1.cell? ⟨w.heap.size, 3, none⟩ = some (.int .i64 c.B) ∧ w1.cell? ⟨w.heap.size, 4, none⟩ = some (.int .i64 c.K) ∧ w1.cell? ⟨w.heap.size, 5, none⟩ = some (.int .i64 c.A2) ∧ w1.cell? ⟨w.heap.size, 6, none⟩ = some (.int .i64 c.B2) ∧ R2e c w w1
theorem rawR {c : Cn} {w w1 : World} (h : R2e c w w1) : RawR c w w1 := by
  have h0 := h
  obtain ⟨d0, d1, h⟩ := h
  obtain ⟨k0, k1, k2, k3, k4, k5, k6, _⟩ := h.facts
  exact ⟨k0, k1, k2, k3, k4, k5, k6, h0⟩
theorem RawR.r2 {c : Cn} {w w1 : World} (h : RawR c w w1) : R2e c w w1 := h.2.2.2.2.2.2.2
theorem R2e.keep {c : Cn} {w w1 w2 : World} (h : R2e c w w1) (hb : Below w1.heap.size w1 w2) : R2e c w w2 := by
  obtain ⟨d0, d1, h⟩ := h
  exact ⟨d0, d1, h.keep hb⟩
theorem rawR_keep {c : Cn} {w w1 w2 : World} (h : RawR c w w1) (hb : Below w1.heap.size w1 w2) : RawR c w w2 := rawR (h.r2.keep hb)

set_option maxRecDepth 100000 in
set_option maxHeartbeats 4000000 in
theorem even_yes (c : Cn) (t : Int) (w : World) (hv : c.V) (ho : okT t = true) (hk : 0 < c.K) :
    Calls Tryz.prog 121 #[.agg #[.int .i64 (c.R : Int), .int .i64 (c.L : Int), .int .i64 c.A, .int .i64 c.B, .int .i64 c.K, .int .i64 c.A2, .int .i64 c.B2], .int .i64 t] w (OutB (evenO c.R c.L c.A c.B c.K c.A2 c.B2 t) w) := by
  rw [evenO_ok hv ho]
  have HS := hid (r2_start (w := w) (A := #[.int .i64 (c.R : Int), .int .i64 (c.L : Int), .int .i64 c.A, .int .i64 c.B, .int .i64 c.K, .int .i64 c.A2, .int .i64 c.B2]) (R := #[.slice none 0 0, .bool false]))
  have hp := hv.ok.p
  have HP := hid hp
  have HV := hid hv
  have HO := hid (show okL [t] = true by simp [okL, ho])
  have hc : canB (c.R : Int) c.L c.A c.B c.K c.A2 c.B2 = true := hv
  have HC := hid hc
  clear ho hv hc hp
  go_enter Tryz.func121, Tryz.ntmps121
  go_wp2_with fail
  refine (vcan_any _ _ _ _ _ _ _ _).mono ?_
  rintro e w1 ⟨rfl, hb⟩
  rw [HC.out]
  have H1 := hid (HS.out.keep hb)
  obtain ⟨k0, k1, k2, k3, k4, k5, k6, d0, d1, f0, f1, hz⟩ := H1.out.facts
  clear hb
  go_wp2_with (go_at_call 149; refine (temps_any _ _ [t] (one_at _ _ rfl)).mono ?_; rintro e w' ⟨rfl, rfl⟩; rw [HO.out])
  have hb2 := (Below.refl _ w1).alloc (Nat.le_refl _) (.cells #[.int .i64 t] 3)
  have H2 := hid (H1.out.keep hb2)
  clear k0 k1 k2 k3 k4 k5 k6 d0 d1 f0 f1 hz
  generalize World.alloc w1 _ = W2 at *
  obtain ⟨k0, k1, k2, k3, k4, k5, k6, d0, d1, f0, f1, hz⟩ := H2.out.facts
  first
  | go_region_held3 (fun w' => w'.cell? ⟨w.heap.size, 0, none⟩ = some (.int .i64 c.R) ∧ w'.cell? ⟨w.heap.size, 1, none⟩ = some (.int .i64 c.L) ∧ w'.cell? ⟨w.heap.size, 2, none⟩ = some (.int .i64 c.A) ∧ w'.cell? ⟨w.heap.size, 3, none⟩ = some (.int .i64 c.B) ∧ w'.cell? ⟨w.heap.size, 4, none⟩ = some (.int .i64 c.K) ∧ w'.cell? ⟨w.heap.size, 5, none⟩ = some (.int .i64 c.A2) ∧ w'.cell? ⟨w.heap.size, 6, none⟩ = some (.int .i64 c.B2) ∧ R2e c w w') (first | exact rawR (R2e.keep ⟨_, _, H2.out⟩ (Below.refl _ _).drew) | exact rawR_keep (by assumption) hb | exact rawR_keep (by assumption) ((Below.refl _ _).alloc (Nat.le_refl _) _) | exact rawR (r2e_set (RawR.r2 (by assumption))))
    (first
      | (go_at_call 150; refine (places_yes c _ HV.out).mono ?_; rintro e w3 ⟨rfl, hb⟩; (first | (have q0 : w3.cell? ⟨W2.heap.size, 0, none⟩ = some (.int .i64 t) := keep_cell hb (cell_alloc_new W2.drew _ _ _ 0); have HRW := hid q0) | skip))
      | (go_at_call 74; have HE := RawR.r2 (c := c) (w := w) (by assumption); refine (repeat_any _ _ 0 1 c.P t (by first | exact HRW.out | exact cell_alloc_new _ _ _ _ 0) HP.out.1 (by have := HP.out; omega)).mono ?_; rintro e w5 ⟨g, rfl, hg1, hg2, hb⟩; have HE2 := HE.keep hb; have HGE := hid (Nat.lt_of_lt_of_le (by obtain ⟨_, _, h⟩ := HE; exact lt_of_block h.res) hg1); obtain ⟨d0, d1, H5⟩ := HE2; obtain ⟨_, _, _, _, _, _, _, d0, d1, f0, f1, hz⟩ := H5.facts; have HG := hid hg2; have HH5 := hid H5; clear H5))
  | fail
  all_goals
    go_wp2_with fail
    obtain ⟨c6, c7, c9⟩ := HH5.out.set (u := .slice (some ⟨g, 0, none⟩) c.P c.P) (v := .bool (decide (0 < c.K) && decide (c.K ≤ t)))
    have hge : g ≠ w.heap.size + 1 := by have := HGE.out; omega
    have hri := rowI_far (m := w.heap.size + 1) (i := 0) (j := 1) (u := .slice (some ⟨g, 0, none⟩) c.P c.P) (v := .bool (decide (0 < c.K) && decide (c.K ≤ t))) (rowI_of_block (cap := c.P) HG.out (by rw [List.length_replicate]; have := HP.out; omega)) hge
    rw [List.length_replicate] at hri
    (try simp only [hk, decide_true, Bool.true_and] at c6 c7 c9 hri ⊢)
    refine bodyPost_ret (v := .tuple #[.agg #[.slice (some ⟨g, 0, none⟩) c.P c.P, .bool _], .int .i64 0]) (by simp [results, Tryz.results121, go_sem, c6, c7]; rfl) rfl ⟨some ⟨g, 0, none⟩, c.P, by dsimp only; rw [List.length_replicate], by dsimp only; rw [List.length_replicate]; exact hri, c9⟩
end Go.Proofs.YtihbjimnjhfpeaaGreat
