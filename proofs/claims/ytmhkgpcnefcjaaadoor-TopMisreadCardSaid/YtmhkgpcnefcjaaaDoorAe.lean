/- Walks of the code's distances: contracts. -/
import Derived.Test.YtmhkgpcnefcjaaaDoorAd
import Derived.Laws.OwnMore
namespace Go.Proofs.YtmhkgpcnefcjaaaDoor
open Go.RowKit

theorem d1_any (s : ByteArray) (w : World) : Calls Tryd.prog 73 #[.string s] w fun e w' => e = .returned (.bool (!nineB s)) ∧ Below w.heap.size w w' := by
  have HE := hid (show speltB s 9 = nineB s from rfl)
  go_enter Tryd.func73, Tryd.ntmps73
  go_wp2_with fail
  refine (spelt_any s 9 _).mono ?_
  rintro e w2 ⟨rfl, hb⟩
  rw [HE.out]
  have HB := hid hb
  clear hb
  go_wp2_with fail
  go_ret
  exact ⟨rfl, HB.out⟩
theorem all_step {ls : List ByteArray} {k : Nat} (hk : k < ls.length) (h : nineB ls[k] = true) (g : ∀ j (hj : j < ls.length), j < k → nineB ls[j] = true) : ∀ j (hj : j < ls.length), j < k + 1 → nineB ls[j] = true := by
  intro j hj hj2
  rcases Nat.lt_succ_iff_lt_or_eq.1 hj2 with h1 | h1
  · exact g j hj h1
  · subst h1; exact h
theorem all_end {ls : List ByteArray} (g : ∀ j (hj : j < ls.length), nineB ls[j] = true) : ls.all nineB = true := by
  rw [List.all_eq_true]
  intro x hx
  obtain ⟨j, hj, rfl⟩ := List.getElem_of_mem hx
  exact g j hj
theorem all_bad {ls : List ByteArray} {k : Nat} (hk : k < ls.length) (h : nineB ls[k] = false) : ls.all nineB = false := by
  rw [Bool.eq_false_iff]
  intro g
  rw [List.all_eq_true.1 g _ (List.getElem_mem hk)] at h
  cases h
set_option maxRecDepth 20000 in
set_option maxHeartbeats 4000000 in
theorem idx_any (v : Value) (ls : List ByteArray) (w : World) (hr : RowS w v ls) :
    Calls Tryd.prog 95 #[v, .func (.func 73) #[] #[]] w fun e w' => ∃ z : Int, e = .returned (.int .i64 z) ∧ decide (0 ≤ z) = (!ls.all nineB) ∧ Below w.heap.size w w' := by
  have HK := hid (fun w1 (g : Below w.heap.size w w1) => hr.keep g)
  have hnm := hr.most
  unfold maxLen at hnm
  obtain ⟨a, b, o, cap, rfl, ha, _, _⟩ := hr
  obtain ⟨n, hn⟩ : ∃ n, n = ls.length := ⟨_, rfl⟩
  have HN := hid hn
  have HA := hid ha
  rw [← hn] at hnm HK ⊢
  clear ha hn
  go_enter Tryd.func95, Tryd.ntmps95
  go_wp2
  go_loopw [8] (fun t wr => ∃ k : Nat, k ≤ n ∧ t = .int .i64 (k : Int) ∧ Hid (∀ j (hj : j < ls.length), j < k → nineB ls[j] = true) ∧ Hid (Below w.heap.size w wr)) (fun t _ => n - (intOf t).toNat)
  case atStart => exact ⟨0, Nat.zero_le _, rfl, fun j _ h => absurd h (Nat.not_lt_zero _), Below.refl _ _⟩
  case round =>
    obtain ⟨k, hk, rfl, hok, hB⟩ := hrel
    by_cases hlt : k < n
    · have hlt' : (k : Int) < n := by omega
      have hkl : k < ls.length := by rw [← HN.out]; exact hlt
      obtain ⟨a', b', o', cap', hv, ha', _, hcell⟩ := HK.out _ hB.out
      injection hv with hv1 hv2 hv3
      subst hv1 hv3
      rcases ha' with h0 | rfl
      · rw [h0] at hkl; simp at hkl
      have c0 := hcell k hkl
      have HST := hid (fun h => all_step hkl h hok.out)
      have HBAD := hid (fun h => all_bad hkl h)
      have HLT := hid hlt
      clear hcell hv2 hlt
      generalize ls[k]'hkl = s at *
      clear hkl
      cases f1 : nineB s
      · have HF := hid (HBAD.out f1)
        have HS := hid f1
        clear f1
        go_wp2_with (go_at_call 73; refine (d1_any _ _).mono ?_; rintro e w2 ⟨rfl, hb⟩; rw [HS.out])
        go_ret
        exact ⟨_, rfl, by rw [HF.out]; simp, bstep hB.out hB.out.size hb⟩
      · have HF := hid (HST.out f1)
        have HS := hid f1
        clear f1
        go_wp2_with (go_at_call 73; refine (d1_any _ _).mono ?_; rintro e w2 ⟨rfl, hb⟩; rw [HS.out])
        go_roundw
        case rel => exact ⟨k + 1, HLT.out, by go_num, HF, hid (bstep hB.out hB.out.size hb)⟩
        case measure => have := HLT.out; simp [intOf]; omega
    · obtain rfl : k = n := by omega
      have hE := hid (all_end (ls := ls) fun j hj => hok.out j hj (by rw [HN.out]; exact hj))
      go_wp2
      go_ret
      exact ⟨_, rfl, by rw [hE.out]; simp, hB.out⟩
theorem contains_any (v : Value) (ls : List ByteArray) (w : World) (hr : RowS w v ls) :
    Calls Tryd.prog 72 #[v, .func (.func 73) #[] #[]] w fun e w' => e = .returned (.bool (!ls.all nineB)) ∧ Below w.heap.size w w' := by
  have HR := hid hr
  clear hr
  go_enter Tryd.func72, Tryd.ntmps72
  go_wp2_with fail
  refine (idx_any _ _ _ HR.out).mono ?_
  rintro e w2 ⟨z, rfl, hz, hb⟩
  have HZ := hid hz
  have HB := hid hb
  clear hz hb
  go_wp2_with fail
  go_ret
  exact ⟨ret_bool HZ.out, HB.out⟩
/-- The distances up to a place, zeros behind it. -/
def rowD (ds : List Int) (k : Nat) : List Int := (List.range ds.length).map fun i : Nat => if i < k then ds.getD i 0 else 0
theorem rowD_len (ds : List Int) (k : Nat) : (rowD ds k).length = ds.length := by simp [rowD]
theorem rowD_zero (ds : List Int) : rowD ds 0 = List.replicate ds.length 0 := by
  apply List.ext_getElem (by simp [rowD])
  intro i h1 h2
  simp [rowD]
theorem rowD_all (ds : List Int) : rowD ds ds.length = ds := by
  apply List.ext_getElem (by simp [rowD])
  intro i h1 h2
  simp [rowD, h2, List.getD]
theorem rowD_set {ds : List Int} {k : Nat} (h : k < ds.length) : ((rowD ds k).map (Value.int .i64)).set k (.int .i64 ds[k]) = (rowD ds (k + 1)).map (Value.int .i64) := by
  apply List.ext_getElem (by simp [rowD])
  intro i h1 h2
  rw [List.getElem_set]
  by_cases e : k = i
  · subst e; simp [rowD, h, List.getD]
  · rw [if_neg e]
    have : i < k ↔ i < k + 1 := by omega
    simp only [rowD, List.getElem_map, List.getElem_range, this]
theorem rowD_at {ds : List Int} {k : Nat} (h : k < ds.length) : ((rowD ds k).map (Value.int .i64))[k]? = some (.int .i64 0) := by simp [rowD, h]
theorem made_zero (n : Nat) : (madeCells (Value.int .i64 0).cells (n * 1)).toList = List.replicate n (Value.int .i64 0) := by
  apply List.ext_getElem (by simp [madeCells])
  intro i h1 h2
  simp [madeCells, Value.cells, Nat.mod_one]
end Go.Proofs.YtmhkgpcnefcjaaaDoor
