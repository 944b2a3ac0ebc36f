/- Walks of Min, and of the code's Nearest, Doubtful, Only: contracts. -/
import Derived.Test.YtmhkgpcnefcjaaaDoorAf
namespace Go.Proofs.YtmhkgpcnefcjaaaDoor
open Go.RowKit

/-- The least of the first numbers of a list. -/
def minN (ds : List Int) : Nat → Int
  | 0 => ds.getD 0 0
  | k + 1 => min (minN ds k) (ds.getD (k + 1) 0)
theorem minN_mem {ds : List Int} : ∀ {k : Nat}, k < ds.length → minN ds k ∈ ds
  | 0, h => by
    have : ds.getD 0 0 = ds[0] := by simp [List.getD, h]
    unfold minN
    rw [this]
    exact List.getElem_mem h
  | k + 1, h => by
    have h1 := minN_mem (ds := ds) (k := k) (by omega)
    have : ds.getD (k + 1) 0 = ds[k + 1] := by simp [List.getD, h]
    unfold minN
    rw [this]
    have h2 := List.getElem_mem h
    by_cases g : minN ds k ≤ ds[k + 1]
    · rw [Int.min_eq_left g]; exact h1
    · rw [Int.min_eq_right (by omega)]; exact h2
theorem minN_le {ds : List Int} : ∀ {k : Nat}, k < ds.length → ∀ j ≤ k, ∀ hj : j < ds.length, minN ds k ≤ ds[j]
  | 0, h, j, hj, hl => by
    obtain rfl : j = 0 := by omega
    simp [minN, List.getD, h]
  | k + 1, h, j, hj, hl => by
    have e : ds.getD (k + 1) 0 = ds[k + 1] := by simp [List.getD, h]
    unfold minN
    rw [e]
    by_cases g : j = k + 1
    · subst g; exact Int.min_le_right ..
    · have := minN_le (ds := ds) (k := k) (by omega) j (by omega) hl
      have := Int.min_le_left (minN ds k) ds[k + 1]
      omega
theorem minN_is {ds : List Int} {k : Nat} (h : ds.length = k + 1) : IsMin (minN ds k) ds :=
  ⟨minN_mem (by omega), fun x hx => by
    obtain ⟨j, hj, rfl⟩ := List.getElem_of_mem hx
    exact minN_le (by omega) j (by omega) hj⟩
theorem minN_succ {ds : List Int} {k : Nat} (h : k + 1 < ds.length) : minN ds (k + 1) = min (minN ds k) ds[k + 1] := by
  have : ds.getD (k + 1) 0 = ds[k + 1] := by simp [List.getD, h]
  simp only [minN, this]
theorem minN_zero {ds : List Int} (h : 0 < ds.length) : minN ds 0 = ds[0] := by simp [minN, List.getD, h]
set_option maxRecDepth 20000 in
set_option maxHeartbeats 4000000 in
theorem min_any (v : Value) (ds : List Int) (D : Int) (w : World) (hr : RowI w v ds) (h0 : 0 < ds.length) (hlen : ds.length ≤ 2100) (hD : IsMin D ds) : Calls Tryd.prog 48 #[v] w fun e w' => e = .returned (.int .i64 D) ∧ w' = w := by
  obtain ⟨a, b, o, cap, rfl, ha, hc, hbl⟩ := hr.form
  obtain ⟨n, hn⟩ : ∃ n, ds.length = n + 1 := ⟨ds.length - 1, by omega⟩
  have HD := hid (hD.uniq (minN_is hn))
  rcases ha with h1 | rfl
  · rw [h1] at h0; simp at h0
  have c0 := hc 0 h0
  have hz := minN_zero h0
  rw [← hz, Nat.add_zero] at c0
  clear hz
  have HC := hid hc
  have HN := hid hn
  rw [hn]
  have hn2 : n + 1 ≤ 2100 := by omega
  have hcast : (((n + 1 : Nat)) : Int) = (n : Int) + 1 := by omega
  have hlt1 : ¬ (((n + 1 : Nat)) : Int) < 1 := by omega
  clear hn hr hbl hc h0 hlen hD
  go_enter Tryd.func48, Tryd.ntmps48
  go_wp2_with fail
  go_loop [3, 4] (fun m t => ∃ k : Nat, k ≤ n ∧ m = .int .i64 (minN ds k) ∧ t = .int .i64 ((k : Int) + 1)) (fun _ t => (n : Int) + 1 - intOf t |>.toNat)
  case atStart => exact ⟨0, by omega, rfl, rfl⟩
  case round =>
    obtain ⟨k, hk, rfl, rfl⟩ := hrel
    by_cases hlt : k < n
    · have hlt' : (k : Int) + 1 < (((n + 1 : Nat)) : Int) := by omega
      have hkd : k + 1 < ds.length := by rw [HN.out]; omega
      have ck := HC.out (k + 1) hkd
      have HS := hid (minN_succ hkd)
      generalize ds[k + 1]'hkd = x at *
      have HLT := hid hlt
      clear hlt hkd
      go_wp2_with fail
      go_round
      case rel => exact ⟨k + 1, HLT.out, by rw [HS.out]; exact int_eq (by split <;> omega), by go_num⟩
      case measure => have := HLT.out; simp [intOf]; omega
    · obtain rfl : k = n := by omega
      have hge : ¬ (k : Int) + 1 < (((k + 1 : Nat)) : Int) := by omega
      go_wp2_with fail
      go_ret
      exact ⟨ret_int HD.out.symm, rfl⟩
/-- What Nearest answers: no number where there is an error. -/
def NrP (L : List Int) (d c : Int) (w : World) (e : Ending) (w' : World) : Prop := ∃ u, e = .returned (.tuple #[u, .int .i64 d, .int .i64 c]) ∧ RowI w' u L ∧ Below w.heap.size w w'
set_option maxRecDepth 20000 in
set_option maxHeartbeats 4000000 in
theorem cnear_no (s : ByteArray) (v : Value) (ls : List ByteArray) (c : Int) (w : World) (hr : RowS w v ls) (hc : dsC s ls 9 = c) (h0 : c ≠ 0) : Calls Tryd.prog 15 #[.string s, v] w (NrP [] 0 c w) := by
  have HD := hid (cdists_any s v ls 9 w hr)
  rw [hc, show dsO s ls 9 = [] by unfold dsO; rw [hc, if_neg h0]] at HD
  have hne : (c != 0) = true := by simpa using h0
  clear hr hc h0
  go_enter Tryd.func15, Tryd.ntmps15
  go_wp2_with fail
  refine HD.out.mono ?_
  rintro e w2 ⟨u, rfl, hu, hb⟩
  have HB := hid hb
  clear hb hu
  go_wp2_with fail
  refine bodyPost_ret (v := .tuple #[.slice none 0 0, .int .i64 0, .int .i64 c]) (by simp [results, Tryd.results15, go_sem]) rfl ?_
  exact ⟨_, rfl, .inl ⟨_, _, rfl, rfl⟩, HB.out⟩
set_option maxRecDepth 20000 in
set_option maxHeartbeats 4000000 in
theorem cnear_none (s : ByteArray) (v : Value) (w : World) (hr : RowS w v []) (hc : dsC s [] 9 = 0) : Calls Tryd.prog 15 #[.string s, v] w (NrP [] 0 8 w) := by
  have HD := hid (cdists_any s v [] 9 w hr)
  rw [hc, show dsO s [] 9 = [] by unfold dsO; rw [hc, if_pos rfl]; rfl] at HD
  clear hr hc
  go_enter Tryd.func15, Tryd.ntmps15
  go_wp2_with fail
  refine HD.out.mono ?_
  rintro e w2 ⟨u, rfl, hu, hb⟩
  obtain ⟨ua, uc, rfl⟩ := hu.shape
  simp only [List.length_nil]
  have HB := hid hb
  clear hb hu
  go_wp2_with fail
  refine bodyPost_ret (v := .tuple #[.slice none 0 0, .int .i64 0, .int .i64 8]) (by simp [results, Tryd.results15, go_sem]) rfl ?_
  exact ⟨_, rfl, .inl ⟨_, _, rfl, rfl⟩, HB.out⟩
set_option maxRecDepth 20000 in
set_option maxHeartbeats 4000000 in
theorem cnear_ok (s : ByteArray) (v : Value) (ls : List ByteArray) (D : Int) (w : World) (hr : RowS w v ls) (hc : dsC s ls 9 = 0) (h0 : 0 < ls.length) (hD : IsMin D (dsL s ls)) : Calls Tryd.prog 15 #[.string s, v] w (NrP (upQ D (dsL s ls)) D 0 w) := by
  have HD := hid (cdists_any s v ls 9 w hr)
  rw [hc, show dsO s ls 9 = dsL s ls by unfold dsO; rw [hc, if_pos rfl]] at HD
  have hlen : ls.length ≤ 2000 := by
    unfold dsC at hc
    split at hc
    · split at hc
      · split at hc
        · cases hc
        · omega
      · cases hc
    · cases hc
  have hl := dsL_len s ls
  rw [← hl] at hlen h0
  have HM := hid hD
  have HLEN := hid hlen
  have H0 := hid h0
  generalize dsL s ls = ds at *
  have hne : ((ds.length : Int) == 0) = false := by rw [beq_eq_false_iff_ne]; omega
  clear hr hc hlen h0 hl hD
  go_enter Tryd.func15, Tryd.ntmps15
  go_wp2_with fail
  refine HD.out.mono ?_
  rintro e w2 ⟨u, rfl, hu, hb⟩
  obtain ⟨ua, uc, rfl⟩ := hu.shape
  have HU := hid hu
  have HB := hid hb
  clear hb hu
  go_wp2_with fail
  refine (min_any _ ds D _ HU.out H0.out (by have := HLEN.out; omega) HM.out).mono ?_
  rintro e w3 ⟨rfl, rfl⟩
  go_wp2_with fail
  refine (cupto_any D _ ds _ HU.out (by have := HLEN.out; omega)).mono ?_
  rintro e w4 ⟨u2, rfl, ho, hb⟩
  obtain ⟨xa, xc, rfl⟩ := ownJ_shape ho
  have HO := hid ho
  have HB2 := hid (bstep HB.out HB.out.size hb)
  clear ho hb
  go_wp2_with fail
  refine bodyPost_ret (v := .tuple #[.slice xa (upQ D ds).length xc, .int .i64 D, .int .i64 0]) (by simp [results, Tryd.results15, go_sem]) rfl ?_
  exact ⟨_, rfl, HO.out.rowI, HB2.out⟩
/-- What Doubtful answers. -/
def dbO (s : ByteArray) (ls : List ByteArray) (most : Int) : List Int := if dsC s ls most = 0 then upQ most (dsL s ls) else []
theorem dsC_len {s : ByteArray} {ls : List ByteArray} {most : Int} (h : dsC s ls most = 0) : ls.length ≤ 2000 := by
  unfold dsC at h
  split at h
  · split at h
    · split at h
      · cases h
      · omega
    · cases h
  · cases h
set_option maxRecDepth 20000 in
set_option maxHeartbeats 4000000 in
theorem cdoubt_any (s : ByteArray) (v : Value) (ls : List ByteArray) (most : Int) (w : World) (hr : RowS w v ls) : Calls Tryd.prog 18 #[.string s, v, .int .i64 most] w (DsP (dbO s ls most) (dsC s ls most) w) := by
  have HD := hid (cdists_any s v ls most w hr)
  clear hr
  by_cases h : dsC s ls most = 0
  · have hl := dsC_len h
    rw [← dsL_len s ls] at hl
    rw [h, show dsO s ls most = dsL s ls by unfold dsO; rw [h, if_pos rfl]] at HD
    rw [h, show dbO s ls most = upQ most (dsL s ls) by unfold dbO; rw [h, if_pos rfl]]
    have HLEN := hid hl
    generalize dsL s ls = ds at *
    clear h hl
    go_enter Tryd.func18, Tryd.ntmps18
    go_wp2_with fail
    refine HD.out.mono ?_
    rintro e w2 ⟨u, rfl, hu, hb⟩
    obtain ⟨ua, uc, rfl⟩ := hu.shape
    have HU := hid hu
    have HB := hid hb
    clear hb hu
    go_wp2_with fail
    refine (cupto_any most _ ds _ HU.out (by have := HLEN.out; omega)).mono ?_
    rintro e w4 ⟨u2, rfl, ho, hb⟩
    obtain ⟨xa, xc, rfl⟩ := ownJ_shape ho
    have HO := hid ho
    have HB2 := hid (bstep HB.out HB.out.size hb)
    clear ho hb
    go_wp2_with fail
    go_ret2
    exact ⟨_, rfl, HO.out.rowI, HB2.out⟩
  · rw [show dsO s ls most = [] by unfold dsO; rw [if_neg h]] at HD
    rw [show dbO s ls most = [] by unfold dbO; rw [if_neg h]]
    have hne : (dsC s ls most != 0) = true := by simpa using h
    generalize dsC s ls most = c at *
    clear h
    go_enter Tryd.func18, Tryd.ntmps18
    go_wp2_with fail
    refine HD.out.mono ?_
    rintro e w2 ⟨u, rfl, hu, hb⟩
    have HB := hid hb
    clear hb hu
    go_wp2_with fail
    go_ret2
    exact ⟨_, rfl, .inl ⟨_, _, rfl, rfl⟩, HB.out⟩
/-- What Only answers of a list of indexes. -/
def onI (L : List Int) (c : Int) : Int := if c = 0 then (match L with | [i] => i | _ => -1) else 0
def onB (L : List Int) (c : Int) : Bool := if c = 0 then decide (L.length = 1) else false
set_option maxRecDepth 20000 in
set_option maxHeartbeats 4000000 in
theorem conly_any (s : ByteArray) (v : Value) (ls : List ByteArray) (most : Int) (w : World) (hr : RowS w v ls) :
    Calls Tryd.prog 20 #[.string s, v, .int .i64 most] w fun e w' => e = .returned (.tuple #[.int .i64 (onI (dbO s ls most) (dsC s ls most)), .bool (onB (dbO s ls most) (dsC s ls most)), .int .i64 (dsC s ls most)]) ∧ Below w.heap.size w w' := by
  have HD := hid (cdoubt_any s v ls most w hr)
  clear hr
  generalize dbO s ls most = L at *
  generalize dsC s ls most = c at *
  by_cases h : c = 0
  · subst h
    match L, HD with
    | [], HD =>
      go_enter Tryd.func20, Tryd.ntmps20
      go_wp2_with fail
      refine HD.out.mono ?_
      rintro e w2 ⟨u, rfl, hu, hb⟩
      obtain ⟨ua, uc, rfl⟩ := hu.shape
      simp only [List.length_nil]
      have HB := hid hb
      clear hb hu
      go_wp2_with fail
      refine bodyPost_ret (v := .tuple #[.int .i64 (-1), .bool false, .int .i64 0]) (by simp [results, Tryd.results20, go_sem]) rfl ?_
      exact ⟨rfl, HB.out⟩
    | [x], HD =>
      go_enter Tryd.func20, Tryd.ntmps20
      go_wp2_with fail
      refine HD.out.mono ?_
      rintro e w2 ⟨u, rfl, hu, hb⟩
      obtain ⟨ua, b', o', uc, rfl, ha, hc, _⟩ := hu.form
      rcases ha with h0 | rfl
      · cases h0
      have c0 := hc 0 (by simp)
      simp only [List.length_singleton, List.getElem_cons_zero, Nat.add_zero] at c0 ⊢
      have HB := hid hb
      clear hb hu hc
      go_wp2_with fail
      refine bodyPost_ret (v := .tuple #[.int .i64 x, .bool true, .int .i64 0]) (by simp [results, Tryd.results20, go_sem]) rfl ?_
      exact ⟨rfl, HB.out⟩
    | x :: y :: t, HD =>
      go_enter Tryd.func20, Tryd.ntmps20
      go_wp2_with fail
      refine HD.out.mono ?_
      rintro e w2 ⟨u, rfl, hu, hb⟩
      obtain ⟨ua, uc, rfl⟩ := hu.shape
      have hne : (((x :: y :: t).length : Int) != 1) = true := by simp; omega
      have HON := hid (show onB (x :: y :: t) 0 = false by simp [onB])
      have HB := hid hb
      clear hb hu
      go_wp2_with fail
      refine bodyPost_ret (v := .tuple #[.int .i64 (-1), .bool false, .int .i64 0]) (by simp [results, Tryd.results20, go_sem]) rfl ?_
      exact ⟨by rw [HON.out]; rfl, HB.out⟩
  · have hne : (c != 0) = true := by simpa using h
    have HOI := hid (show onI L c = 0 by unfold onI; rw [if_neg h])
    have HOB := hid (show onB L c = false by unfold onB; rw [if_neg h])
    clear h
    go_enter Tryd.func20, Tryd.ntmps20
    go_wp2_with fail
    refine HD.out.mono ?_
    rintro e w2 ⟨u, rfl, hu, hb⟩
    have HB := hid hb
    clear hb hu
    go_wp2_with fail
    refine bodyPost_ret (v := .tuple #[.int .i64 0, .bool false, .int .i64 c]) (by simp [results, Tryd.results20, go_sem]) rfl ?_
    exact ⟨by rw [HOI.out, HOB.out], HB.out⟩
end Go.Proofs.YtmhkgpcnefcjaaaDoor
