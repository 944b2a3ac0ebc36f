/- Texts of this seat, one behind the other. -/
import Derived.Test.YtihbjimnjhfpeaaG14
import Derived.Lib.AppendZeros
import Derived.Test.YtihbjimnjhfpeaaG24
/- slices.Concat of rows of ints, slices.Min, Max, Index over one: contracts. -/
namespace Go.Proofs.Ytihbjimnjhfpeaa
open Go.RowKit Go.Shelf Go.Lib

/-- Rows of ints, one behind the other. -/
def flN (ls : Nat → List Int) (k : Nat) : List Int := (List.range k).flatMap ls
theorem flN_succ (ls : Nat → List Int) (k : Nat) : flN ls (k + 1) = flN ls k ++ ls k := by
  unfold flN; rw [List.range_succ, List.flatMap_append]; simp
theorem flN_two (ls : Nat → List Int) : flN ls 2 = ls 0 ++ ls 1 := by rw [flN_succ, flN_succ]; simp [flN]
theorem flN_mono (ls : Nat → List Int) {j k : Nat} (h : j ≤ k) : (flN ls j).length ≤ (flN ls k).length := by
  induction k with
  | zero => obtain rfl : j = 0 := by omega
            exact Nat.le_refl _
  | succ k ih =>
    rcases Nat.lt_or_ge j (k + 1) with h1 | h1
    · have := ih (by omega); rw [flN_succ, List.length_append]; omega
    · obtain rfl : j = k + 1 := by omega
      exact Nat.le_refl _
theorem infoQc : (Try.prog.info? 3).map (fun i => (i.zero, i.size, i.bytes)) = some (some (.int .i64 0), 1, 8) := by kernel_rfl
/-- A row of ints that the call made, maybe none. -/
def NewI (w : World) (l : List Int) (e : Ending) (w' : World) : Prop := ∃ v, e = .returned v ∧ w'.ownsRow w.heap.size 3 1 v (ivs l).length (ivs l) ∧ Below w.heap.size w w'
theorem NewI.rowI {w w' : World} {l : List Int} {v : Value} (h : w'.ownsRow w.heap.size 3 1 v (ivs l).length (ivs l)) (hl : l.length ≤ 1000000) : RowI w' v l := own_rowI (by rwa [ivs_len] at h) hl
theorem own_shapeP {w : World} {base e n : Nat} {v : Value} {xs : List Value} (h : w.ownsRow base e 1 v n xs) : ∃ a c, v = .slice a n c := by
  rcases h.2 with ⟨rfl, rfl⟩ | ⟨g, cap, cur, rfl, _⟩
  · exact ⟨none, 0, rfl⟩
  · exact ⟨_, _, rfl⟩
set_option maxRecDepth 20000 in
set_option maxHeartbeats 2000000 in
theorem growN_any (n : Nat) (w : World) (hm : n ≤ 1000000) :
    Calls Try.prog 44 #[.slice none 0 0, .int .i64 (n : Int)] w (NewI w []) := by
  rcases Nat.eq_zero_or_pos n with rfl | h0
  · go_enter Try.func44, Try.ntmps44
    go_wp2
    go_ret
    exact ⟨_, rfl, World.ownsRow_nil _ _ _ _, Below.refl _ _⟩
  obtain ⟨i0, hi, hz0, hz1, hz2⟩ := info_parts infoQc
  have hr := fun W : World => run_append_nil_zeros (P := Try.prog) W 44 3 44 3 i0 _ .i64 .i64 Try.underlying44 Try.underlying3 hi hz0 n h0 (by rw [hz1]; omega) (by omega) (by rw [hz2]; omega)
  have h1 : ¬ (n : Int) < 0 := by omega
  have h2 : (0 : Int) < (n : Int) := by omega
  go_enter Try.func44, Try.ntmps44
  go_wp2_with (refine wpList_append_run _ rfl _ _ 44 3 rfl _ _ rfl rfl _ _ (hr _) ?_)
  go_ret
  have g1 := grownCap_ge w n 0 3
  have g2 := grownCap_le_maxLen w n 0 3 (by unfold maxLen; omega)
  refine ⟨_, rfl, ⟨rfl, .inr ⟨w.heap.size, _, _, rfl, Nat.le_refl _, (heap_alloc_new w _), Nat.zero_le _, g2, ?_, by simp [ivs]⟩⟩, ((Below.refl _ w).alloc (Nat.le_refl _) _).drew⟩
  simp [size_zeroCells]
  omega
set_option maxRecDepth 20000 in
set_option maxHeartbeats 4000000 in
theorem concatN_any (g cap L : Nat) (vs : Nat → Value) (ls : Nat → List Int) (w : World) (hbig : (flN ls L).length ≤ 100000) (hLb : L ≤ 1000)
    (hrow : ∀ j, j < L → w.cell? ⟨g, j, none⟩ = some (vs j)) (hl : ∀ j, j < L → RowI w (vs j) (ls j)) :
    Calls Try.prog 28 #[.slice (some ⟨g, 0, none⟩) L cap] w (NewI w (flN ls L)) := by
  have HROW := hid (fun (w1 : World) (hb : Below w.heap.size w w1) j (hj : j < L) => And.intro (keep_cell hb (hrow j hj)) ((hl j hj).keep hb))
  have HBIG := hid hbig
  clear hrow hl hbig
  go_enter Try.func28, Try.ntmps28
  go_wp2
  go_loop [3, 11] (fun s t => ∃ k : Nat, k ≤ L ∧ s = .int .i64 (((flN ls k).length : Nat) : Int) ∧ t = .int .i64 (k : Int)) (fun _ t => L - (intOf t).toNat)
  case atStart => exact ⟨0, Nat.zero_le _, by simp [flN], rfl⟩
  case round =>
    obtain ⟨k, hk, rfl, rfl⟩ := hrel
    by_cases hlt : k < L
    · have hlt' : (k : Int) < L := by omega
      obtain ⟨e1, e2⟩ := HROW.out w (Below.refl _ _) k hlt
      obtain ⟨a, c, hv⟩ := e2.shape
      rw [hv] at e1
      have HS := hid (show (flN ls (k + 1)).length = (flN ls k).length + (ls k).length by rw [flN_succ, List.length_append])
      have hle := flN_mono ls (show k + 1 ≤ L from hlt)
      rw [HS.out] at hle
      have hle2 := HBIG.out
      generalize (ls k).length = R at *
      obtain ⟨S, hS⟩ : ∃ S, S = (flN ls k).length := ⟨_, rfl⟩
      rw [← hS] at hle HS
      rw [← hS]
      have hn0 : ¬ ((S : Int) + (R : Int) < 0) := by omega
      have hle3 : S + R ≤ 100000 := by omega
      clear hS hv e2 hle hle2
      go_wp2
      go_round
      case rel => exact ⟨k + 1, hlt, by rw [HS.out]; go_num, by go_num⟩
      case measure => simp [intOf]; omega
    · obtain rfl : k = L := by omega
      clear hlt hk
      obtain ⟨S, hS⟩ : ∃ S, S = (flN ls k).length := ⟨_, rfl⟩
      have HS := hid hS
      have hbS : S ≤ 100000 := by rw [hS]; exact HBIG.out
      rw [← hS]
      clear hS
      go_wp2_with fail
      refine (growN_any S w (by omega)).mono ?_
      rintro e w1 ⟨u, rfl, hu, hb⟩
      have HU := hid hu
      have HB := hid hb
      clear hu hb
      obtain ⟨u0, c0, rfl⟩ := own_shapeP HU.out
      obtain ⟨i0, hi, hz0, hz1, hz2⟩ := info_parts infoQc
      go_wp2_with fail
      go_loopw [6, 27] (fun u t wr => ∃ m : Nat, m ≤ k ∧ t = .int .i64 (m : Int) ∧ Hid (wr.ownsRow w.heap.size 3 1 u (ivs (flN ls m)).length (ivs (flN ls m))) ∧ Hid (Below w.heap.size w wr)) (fun _ t _ => k - (intOf t).toNat)
      case atStart => exact ⟨0, Nat.zero_le _, rfl, HU, HB⟩
      case round =>
        obtain ⟨m, hm, rfl, hO, hB⟩ := hrel
        obtain ⟨ua, uc, rfl⟩ := own_shapeP hO.out
        by_cases hlt : m < k
        · have hlt' : (m : Int) < k := by omega
          obtain ⟨e1, e2⟩ := HROW.out _ hB.out m hlt
          obtain ⟨a, c, hv⟩ := e2.shape
          have HSRC := hid e2.src
          rw [hv] at e1 HSRC
          have HSUC := hid (flN_succ ls m)
          have hle := flN_mono ls (show m + 1 ≤ k from hlt)
          rw [flN_succ, List.length_append] at hle
          have hle2 := HBIG.out
          have HBD := hid (show (ivs (flN ls m)).length + (ls m).length ≤ 1000000 by rw [ivs_len]; omega)
          have HLT := hid hlt
          generalize flN ls m = F at *
          generalize ls m = C at *
          clear hle hle2 hlt hv e2
          go_wp2_with (at_builtin; (refine wpList_app rfl (.tmp 31) (.tmp 32) 44 rfl w.heap.size 3 i0 Try.underlying44 hi hz0 hz1 hz2 _ (ivs F) rfl hO.out _ C rfl HSRC.out HBD.out hB.out.size ?_); intro v3 w6 hA1; have HB6 := hid (app_low hB.out hO.out (Nat.le_refl _) hA1); have HO6 := hid (app_next hA1); obtain ⟨a3, c3, rfl⟩ := own_shapeP HO6.out; clear hA1)
          go_roundw
          case rel => exact ⟨m + 1, HLT.out, by go_num, by have h := HO6.out; rw [List.length_append] at h; rw [HSUC.out, ivs_len, List.length_append]; exact hid h, HB6⟩
          case measure => have := HLT.out; simp [intOf]; omega
        · obtain rfl : m = k := by omega
          go_wp2_with fail
          go_ret
          exact ⟨_, rfl, hO.out, hB.out⟩

/-- The least, and the greatest, of the first numbers of a list. -/
def minK (ds : List Int) : Nat → Int
  | 0 => ds.getD 0 0
  | k + 1 => min (minK ds k) (ds.getD (k + 1) 0)
def maxK (ds : List Int) : Nat → Int
  | 0 => ds.getD 0 0
  | k + 1 => max (maxK ds k) (ds.getD (k + 1) 0)
def minA (ds : List Int) : Int := minK ds (ds.length - 1)
def maxA (ds : List Int) : Int := maxK ds (ds.length - 1)
theorem getD_here {ds : List Int} {k : Nat} (h : k < ds.length) : ds.getD k 0 = ds[k] := by simp [List.getD, h]
theorem minK_mem {ds : List Int} : ∀ {k : Nat}, k < ds.length → minK ds k ∈ ds
  | 0, h => by unfold minK; rw [getD_here h]; exact List.getElem_mem h
  | k + 1, h => by
    have h1 := minK_mem (ds := ds) (k := k) (by omega)
    have h2 := List.getElem_mem h
    unfold minK
    rw [getD_here h]
    by_cases g : minK ds k ≤ ds[k + 1]
    · rw [Int.min_eq_left g]; exact h1
    · rw [Int.min_eq_right (by omega)]; exact h2
theorem maxK_mem {ds : List Int} : ∀ {k : Nat}, k < ds.length → maxK ds k ∈ ds
  | 0, h => by unfold maxK; rw [getD_here h]; exact List.getElem_mem h
  | k + 1, h => by
    have h1 := maxK_mem (ds := ds) (k := k) (by omega)
    have h2 := List.getElem_mem h
    unfold maxK
    rw [getD_here h]
    by_cases g : maxK ds k ≤ ds[k + 1]
    · rw [Int.max_eq_right g]; exact h2
    · rw [Int.max_eq_left (by omega)]; exact h1
theorem minK_le {ds : List Int} : ∀ {k : Nat}, k < ds.length → ∀ j ≤ k, ∀ hj : j < ds.length, minK ds k ≤ ds[j]
  | 0, h, j, hj, hl => by
    obtain rfl : j = 0 := by omega
    unfold minK; rw [getD_here h]; exact Int.le_refl _
  | k + 1, h, j, hj, hl => by
    unfold minK
    rw [getD_here h]
    by_cases g : j = k + 1
    · subst g; exact Int.min_le_right ..
    · have := minK_le (ds := ds) (k := k) (by omega) j (by omega) hl
      have := Int.min_le_left (minK ds k) ds[k + 1]
      omega
theorem maxK_ge {ds : List Int} : ∀ {k : Nat}, k < ds.length → ∀ j ≤ k, ∀ hj : j < ds.length, ds[j] ≤ maxK ds k
  | 0, h, j, hj, hl => by
    obtain rfl : j = 0 := by omega
    unfold maxK; rw [getD_here h]; exact Int.le_refl _
  | k + 1, h, j, hj, hl => by
    unfold maxK
    rw [getD_here h]
    by_cases g : j = k + 1
    · subst g; exact Int.le_max_right ..
    · have := maxK_ge (ds := ds) (k := k) (by omega) j (by omega) hl
      have := Int.le_max_left (maxK ds k) ds[k + 1]
      omega
theorem minA_mem {ds : List Int} (h : 0 < ds.length) : minA ds ∈ ds := minK_mem (by omega)
theorem maxA_mem {ds : List Int} (h : 0 < ds.length) : maxA ds ∈ ds := maxK_mem (by omega)
theorem minA_le {ds : List Int} {x : Int} (hx : x ∈ ds) : minA ds ≤ x := by
  obtain ⟨j, hj, rfl⟩ := List.getElem_of_mem hx
  exact minK_le (by omega) j (by omega) hj
theorem maxA_ge {ds : List Int} {x : Int} (hx : x ∈ ds) : x ≤ maxA ds := by
  obtain ⟨j, hj, rfl⟩ := List.getElem_of_mem hx
  exact maxK_ge (by omega) j (by omega) hj
theorem minA_uniq {ds : List Int} {D : Int} (h : D ∈ ds) (g : ∀ x ∈ ds, D ≤ x) : D = minA ds := by
  have h1 := g _ (minA_mem (List.length_pos_of_mem h))
  have h2 := minA_le h
  omega
theorem minK_succ {ds : List Int} {k : Nat} (h : k + 1 < ds.length) : minK ds (k + 1) = min (minK ds k) ds[k + 1] := by
  simp only [minK, getD_here h]
theorem maxK_succ {ds : List Int} {k : Nat} (h : k + 1 < ds.length) : maxK ds (k + 1) = max (maxK ds k) ds[k + 1] := by
  simp only [maxK, getD_here h]
theorem minK_zero {ds : List Int} (h : 0 < ds.length) : minK ds 0 = ds[0] := by simp only [minK, getD_here h]
theorem maxK_zero {ds : List Int} (h : 0 < ds.length) : maxK ds 0 = ds[0] := by simp only [maxK, getD_here h]

set_option maxRecDepth 20000 in
set_option maxHeartbeats 4000000 in
theorem minA_any (v : Value) (ds : List Int) (w : World) (hr : RowI w v ds) (h0 : 0 < ds.length) (hlen : ds.length ≤ 100000) : Calls Try.prog 33 #[v] w fun e w' => e = .returned (.int .i64 (minA ds)) ∧ w = w' := by
  obtain ⟨a, b, o, cap, rfl, ha, hc, hbl⟩ := hr.form
  obtain ⟨n, hn⟩ : ∃ n, ds.length = n + 1 := ⟨ds.length - 1, by omega⟩
  have HD := hid (show minA ds = minK ds n by unfold minA; rw [hn]; rfl)
  rcases ha with h1 | rfl
  · rw [h1] at h0; simp at h0
  have c0 := hc 0 h0
  have hz := minK_zero h0
  rw [← hz, Nat.add_zero] at c0
  clear hz
  have HC := hid hc
  have HN := hid hn
  rw [hn]
  have hn2 : n + 1 ≤ 100000 := by omega
  have hcast : (((n + 1 : Nat)) : Int) = (n : Int) + 1 := by omega
  have hlt1 : ¬ (((n + 1 : Nat)) : Int) < 1 := by omega
  clear hn hr hbl hc h0 hlen
  go_enter Try.func33, Try.ntmps33
  go_wp2_with fail
  go_loop [3, 4] (fun m t => ∃ k : Nat, k ≤ n ∧ m = .int .i64 (minK ds k) ∧ t = .int .i64 ((k : Int) + 1)) (fun _ t => (n : Int) + 1 - intOf t |>.toNat)
  case atStart => exact ⟨0, by omega, rfl, rfl⟩
  case round =>
    obtain ⟨k, hk, rfl, rfl⟩ := hrel
    by_cases hlt : k < n
    · have hlt' : (k : Int) + 1 < (((n + 1 : Nat)) : Int) := by omega
      have hkd : k + 1 < ds.length := by rw [HN.out]; omega
      have ck := HC.out (k + 1) hkd
      have HS := hid (minK_succ hkd)
      generalize ds[k + 1]'hkd = x at *
      have HLT := hid hlt
      clear hlt hkd
      go_wp2_with fail
      go_round
      case rel => exact ⟨k + 1, HLT.out, by rw [HS.out]; exact int_eq (by split <;> omega), by go_num⟩
      case measure => have := HLT.out; simp [intOf]; omega
    · obtain rfl : k = n := by omega
      have hge : ¬ (k : Int) + 1 < (((k + 1 : Nat)) : Int) := by omega
      go_wp2_with fail
      go_ret
      exact ⟨ret_int HD.out.symm, rfl⟩
set_option maxRecDepth 20000 in
set_option maxHeartbeats 4000000 in
theorem maxA_any (v : Value) (ds : List Int) (w : World) (hr : RowI w v ds) (h0 : 0 < ds.length) (hlen : ds.length ≤ 100000) : Calls Try.prog 40 #[v] w fun e w' => e = .returned (.int .i64 (maxA ds)) ∧ w = w' := by
  obtain ⟨a, b, o, cap, rfl, ha, hc, hbl⟩ := hr.form
  obtain ⟨n, hn⟩ : ∃ n, ds.length = n + 1 := ⟨ds.length - 1, by omega⟩
  have HD := hid (show maxA ds = maxK ds n by unfold maxA; rw [hn]; rfl)
  rcases ha with h1 | rfl
  · rw [h1] at h0; simp at h0
  have c0 := hc 0 h0
  have hz := maxK_zero h0
  rw [← hz, Nat.add_zero] at c0
  clear hz
  have HC := hid hc
  have HN := hid hn
  rw [hn]
  have hn2 : n + 1 ≤ 100000 := by omega
  have hcast : (((n + 1 : Nat)) : Int) = (n : Int) + 1 := by omega
  have hlt1 : ¬ (((n + 1 : Nat)) : Int) < 1 := by omega
  clear hn hr hbl hc h0 hlen
  go_enter Try.func40, Try.ntmps40
  go_wp2_with fail
  go_loop [3, 4] (fun m t => ∃ k : Nat, k ≤ n ∧ m = .int .i64 (maxK ds k) ∧ t = .int .i64 ((k : Int) + 1)) (fun _ t => (n : Int) + 1 - intOf t |>.toNat)
  case atStart => exact ⟨0, by omega, rfl, rfl⟩
  case round =>
    obtain ⟨k, hk, rfl, rfl⟩ := hrel
    by_cases hlt : k < n
    · have hlt' : (k : Int) + 1 < (((n + 1 : Nat)) : Int) := by omega
      have hkd : k + 1 < ds.length := by rw [HN.out]; omega
      have ck := HC.out (k + 1) hkd
      have HS := hid (maxK_succ hkd)
      generalize ds[k + 1]'hkd = x at *
      have HLT := hid hlt
      clear hlt hkd
      go_wp2_with fail
      go_round
      case rel => exact ⟨k + 1, HLT.out, by rw [HS.out]; exact int_eq (by split <;> omega), by go_num⟩
      case measure => have := HLT.out; simp [intOf]; omega
    · obtain rfl : k = n := by omega
      have hge : ¬ (k : Int) + 1 < (((k + 1 : Nat)) : Int) := by omega
      go_wp2_with fail
      go_ret
      exact ⟨ret_int HD.out.symm, rfl⟩

/-- Where a list has a number first: the length where it has none. -/
def idxA (ds : List Int) (x : Int) : Nat := ds.findIdx (· == x)
set_option maxRecDepth 20000 in
set_option maxHeartbeats 4000000 in
theorem index_any (v : Value) (ds : List Int) (x : Int) (w : World) (hr : RowI w v ds) (hx : x ∈ ds) (hlen : ds.length ≤ 100000) : Calls Try.prog 34 #[v, .int .i64 x] w fun e w' => e = .returned (.int .i64 (idxA ds x : Nat)) ∧ w = w' := by
  obtain ⟨a, b, o, cap, rfl, ha, hc, hbl⟩ := hr.form
  have h0 := List.length_pos_of_mem hx
  rcases ha with h1 | rfl
  · rw [h1] at h0; simp at h0
  have HC := hid hc
  have HX := hid hx
  clear hr hbl hc h0 hx
  go_enter Try.func34, Try.ntmps34
  go_wp2_with fail
  go_loop [8] (fun t => ∃ k : Nat, k ≤ idxA ds x ∧ t = .int .i64 (k : Int)) (fun t => ds.length - (intOf t).toNat)
  case atStart => exact ⟨0, Nat.zero_le _, rfl⟩
  case round =>
    obtain ⟨k, hk, rfl⟩ := hrel
    have hlt : idxA ds x < ds.length := List.findIdx_lt_length_of_exists ⟨x, HX.out, by simp⟩
    have hkl : k < ds.length := by omega
    have hkl' : (k : Int) < ds.length := by omega
    have ck := HC.out k hkl
    by_cases he : ds[k] = x
    · have HI := hid (show idxA ds x = k by
        refine Nat.le_antisymm ?_ hk
        refine Nat.not_lt.1 fun g => ?_
        have := List.not_of_lt_findIdx g
        simp [he] at this)
      rw [he] at ck
      clear hlt hkl hk he
      go_wp2_with fail
      go_ret
      exact ⟨ret_int (by rw [HI.out]), rfl⟩
    · have HI := hid (show k + 1 ≤ idxA ds x by
        refine Nat.lt_of_le_of_ne hk fun g => he ?_
        have h1 := List.findIdx_getElem (p := fun y => y == x) (xs := ds) (w := hlt)
        simp only [beq_iff_eq] at h1
        have h2 : ds[k] = ds[ds.findIdx (fun y => y == x)]'hlt := by congr 1
        rw [h2]; exact h1)
      have hne : (x == ds[k]) = false := by simpa using (fun h => he h.symm)
      have HKL := hid hkl
      generalize ds[k] = y at *
      clear hlt hkl hk he
      go_wp2_with fail
      go_round
      case rel => exact ⟨k + 1, HI.out, by go_num⟩
      case measure => have := HKL.out; simp [intOf]; omega
end Go.Proofs.Ytihbjimnjhfpeaa

/- Walk of Table of package lethal: contracts. -/
namespace Go.Proofs.Ytihbjimnjhfpeaa.Lt
open Go.RowKit Go.Lib Go.Maps

/-- What Table works on behind k rates: the rates at L (their map at mb). -/
structure LT (s : ByteArray) (r : Int) (Z : Nat) (d g : Int) (L mb : Nat) (w : World) (k : Nat) (wr : World) : Prop where
  box : Box6 wr L s r Z d g mb
  map : MapI r Z wr mb k
  lt : mb < L
  ge : w.heap.size ≤ mb
  low : Below w.heap.size w wr
theorem LT.grown {s : ByteArray} {r : Int} {Z : Nat} {d g : Int} {L mb : Nat} {w : World} {k : Nat} {wr w1 : World} {row : Option Nat} (h : LT s r Z d g L mb w k wr) (hg : wr.grownBy w1 row) (hr : ∀ j, row = some j → L < j) : LT s r Z d g L mb w k w1 := by
  have h1 := h.lt; have h2 := h.ge
  exact ⟨h.box.grown hg (fun e => by have := hr _ e.symm; omega), h.map.kept hg (fun e => by have := hr _ e.symm; omega), h1, h2, h.low.grown hg h.low.size (fun j hj => by have := hr j hj; omega)⟩
theorem LT.append {s : ByteArray} {r : Int} {Z : Nat} {d g : Int} {L mb : Nat} {w : World} {k : Nat} {wr w1 : World} {v : Value} {l : List Nat} {o : Obj} (h : LT s r Z d g L mb w k wr) (hv : RowV wr (L + 1) v l) (hg : (wr.alloc o).grownBy w1 v.ownBlock) : LT s r Z d g L mb w k w1 :=
  (h.grown (World.grownBy_alloc wr o none) (fun k hk => by cases hk)).grown hg (fun k hk => (World.ownsRow.lt hv k hk).1)
theorem LT.call {s : ByteArray} {r : Int} {Z : Nat} {d g : Int} {L mb : Nat} {w : World} {k : Nat} {wr w1 : World} (h : LT s r Z d g L mb w k wr) (hg : wr.grownBy w1 (some mb)) (hm : MapI r Z w1 mb (k + 1)) : LT s r Z d g L mb w (k + 1) w1 := by
  have h1 := h.lt; have h2 := h.ge
  exact ⟨h.box.grown hg (fun e => by cases e; omega), hm, h1, h2, h.low.grown hg h.low.size (fun j hj => by cases hj; omega)⟩
theorem RowV.past {w w1 : World} {L mb : Nat} {v : Value} {l : List Nat} (h : RowV w (L + 1) v l) (hg : w.grownBy w1 (some mb)) (hlt : mb < L) : RowV w1 (L + 1) v l :=
  World.ownsRow.kept h hg (.inr fun e => by have := (World.ownsRow.lt h _ e).1; omega)
theorem lt_start {w w1 w2 : World} {s : ByteArray} {r : Int} {Z : Nat} {d g : Int} {mb : Nat} {T : TypeId} (hm : MapI r Z w2 mb 0) (hB : Below w.heap.size w w1) (hb : Below w1.heap.size w1 w2) (hmb : w1.heap.size ≤ mb) :
    LT s r Z d g w2.heap.size mb w 0 (w2.alloc (.cells #[.string s, .int .i64 r, .int .i64 Z, .int .i64 d, .int .i64 g, .map (some mb)] T)) := by
  have hb2 : Below w2.heap.size w2 (w2.alloc (.cells #[.string s, .int .i64 r, .int .i64 Z, .int .i64 d, .int .i64 g, .map (some mb)] T)) := (Below.refl _ _).alloc (Nat.le_refl _) _
  have hlt := hm.lt
  have h1 := hB.size
  have h2 := hb.size
  refine ⟨⟨?_, ?_, ?_, ?_, ?_, ?_, by simp⟩, hm.below hb2, hlt, by omega, (hB.trans (hb.mono h1)).trans (hb2.mono (by omega))⟩ <;> rw [cell_alloc_new] <;> rfl

theorem alloc_size (w : World) (o : Obj) : (w.alloc o).heap.size = w.heap.size + 1 := by simp

set_option maxRecDepth 20000 in
set_option maxHeartbeats 4000000 in
theorem lTable_ok (s : ByteArray) (r d g lo : Int) (Z n : Nat) (w : World) (hs : s.size ≤ maxLen) (hv : validB s.data.toList r Z d g = true)
    (l1 : -1000 ≤ lo) (l2 : lo + n ≤ 2000) (hn : n ≤ 1000) :
    Calls Try.prog 41 #[.agg #[.string s, .int .i64 r, .int .i64 Z, .int .i64 d, .int .i64 g], .int .i64 lo, .int .i64 (lo + n)] w (TableP r Z lo (n + 1) w) := by
  obtain ⟨_, ⟨r1, r2⟩, ⟨z1, z2⟩, _, _⟩ := validB_iff.1 hv
  obtain ⟨i0, hi, hz0, hz1, hz2⟩ := info_parts info_int
  have h1 : (decide (-1000 ≤ lo) && decide (lo ≤ 2000)) = true := by simp; omega
  have h2 : (decide (lo ≤ lo + (n : Int)) && decide (lo + (n : Int) ≤ 2000)) = true := by simp; omega
  have h4 : lo + (n : Int) - lo = n := by omega
  go_enter Try.func41, Try.ntmps41
  go_wp2_with (first
    | (go_at_call 37; refine (lvalid_any _ _ _ _ _ _ hs).mono ?_; rintro e w1 ⟨rfl, hb⟩; obtain ⟨b0, b1, b2, b3, b4, hz, hB⟩ := box5_below hb; clear hb)
    | (go_at_call 53; refine (within_any _ _ _ _).mono ?_; rintro e w1 ⟨rfl, rfl⟩)
    | (go_at_call 57; refine (ratesOf_any _ _ _ _ _ _ hs).mono ?_; rintro e w2 ⟨mb, rfl, hmb, hb2, hM⟩; have HS := hid (lt_start (T := 93) (s := s) (d := d) (g := g) (hM Z) hB hb2 hmb); clear hM hb2)
    | (at_make; refine wpList_make_own _ rfl _ _ 44 rfl (w2.heap.size + 1) 3 i0 (.int .i64 0) 1 Try.underlying44 hi hz0 hz1 _ _ _ (n + 1) rfl rfl (by omega) (by rw [hz2]; omega) (by unfold maxLen; omega) (by simp) ?_; intro w0 hown0 hgrow0))
  have HS0 := hid (HS.out.grown hgrow0 (fun j hj => by cases hj))
  rw [alloc_size] at hown0
  have HR0 := hid hown0
  clear hgrow0 HS b0 b1 b2 b3 b4 hown0
  generalize hL : w2.heap.size = L at HS0 HR0 ⊢
  clear hL
  go_loopw [9, 10] (fun v t wr => ∃ k : Nat, k ≤ n + 1 ∧ t = .int .i64 (lo + k) ∧ RowV wr (L + 1) v (ratesL r Z lo k) ∧ Hid (LT s r Z d g L mb w k wr)) (fun _ t _ => (n + 1) - (intOf t - lo).toNat)
  case atStart => exact ⟨0, Nat.zero_le _, by simp, HR0.out, HS0⟩
  case round =>
    obtain ⟨k, hk, rfl, hrow, hK⟩ := hrel
    obtain ⟨b0, b1, b2, b3, b4, b5, hzL⟩ := hK.out.box
    have hlen := ratesL_len r Z lo k
    have hmL := hK.out.lt
    by_cases hlt : k ≤ n
    · have hle : lo + (k : Int) ≤ lo + n := by omega
      have hx := Pm.rateD_le r Z (lo + k) z1
      obtain ⟨x, hX⟩ : ∃ x, x = Pm.rateD r Z (lo + k) := ⟨_, rfl⟩
      rw [← hX] at hx
      have HX := hid hX; clear hX
      go_wp2_with (first
        | (go_at_call 58; refine (down_any _ _ _ _ (lo + k) Z mb k _ r1 r2 (by omega) (by omega) (by omega) (by omega) (by omega) hK.out.map).mono ?_; rintro e w3 ⟨rfl, hg3, hM3⟩; rw [← HX.out]; have hrow2 := RowV.past hrow hg3 hmL; have HK2 := hid (LT.call hK.out hg3 hM3); have hs2 := Nat.lt_of_lt_of_le hzL hg3.size; clear hg3 hM3)
        | (at_builtin; refine wpList_append_own _ rfl _ _ 44 rfl (L + 1) 3 i0 (.int .i64 0) 1 8 Try.underlying44 hi hz0 hz1 hz2 rfl (by decide) _ _ _ rfl (World.ownsRow.alloc hrow2 _) ⟨w3.heap.size, 0, none⟩ 1 1 [.int .i64 (x : Int)] rfl rfl cell_one_at one_cell (by unfold maxLen; omega) (by omega) (by simp; omega) ?_; intro v1 w4 hown4 hgrow4 _))
      go_roundw
      case rel => exact ⟨k + 1, by omega, by go_num, by rw [ratesL_succ, ← HX.out]; exact row_append rfl hown4, HK2.out.append hrow2 hgrow4⟩
      case measure => simp [intOf]; omega
    · obtain rfl : k = n + 1 := by omega
      have hgt : ¬ lo + ((n + 1 : Nat) : Int) ≤ lo + n := by omega
      go_wp2
      go_ret2
      exact ⟨_, rfl, hrow.reads, hK.out.low⟩
end Go.Proofs.Ytihbjimnjhfpeaa.Lt
