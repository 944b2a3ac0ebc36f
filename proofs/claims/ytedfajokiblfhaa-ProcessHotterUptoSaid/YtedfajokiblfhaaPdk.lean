/- slices.Repeat no times; ticks; Cook: contracts. -/
import Derived.Test.YtedfajokiblfhaaPdj
import Derived.Test.YtedfajokiblfhaaA7
namespace Go.Proofs.Ytedfajokiblfhaa
open Go.RowKit Go.Lib

set_option maxRecDepth 100000 in
set_option maxHeartbeats 1000000 in
theorem mul64_none (w : World) :
    Calls Try.prog 84 #[.int .u64 1, .int .u64 0] w fun e w' => e = .returned (.tuple #[.int .u64 0, .int .u64 0]) ∧ w = w' := by
  have e1 : bits .and .u64 1 4294967295 = 1 := by decide
  have e3 : bits .and .u64 0 4294967295 = 0 := by decide
  go_enter Try.func84, Try.ntmps84
  go_wp2
  go_ret2
  exact ⟨rfl, rfl⟩
set_option maxRecDepth 100000 in
set_option maxHeartbeats 1000000 in
theorem mul_none (w : World) :
    Calls Try.prog 59 #[.int .u64 1, .int .u64 0] w fun e w' => e = .returned (.tuple #[.int .u64 0, .int .u64 0]) ∧ w = w' := by
  go_enter Try.func59, Try.ntmps59
  go_wp2_with (go_at_call 84; refine (mul64_none _).mono ?_; rintro e w' ⟨rfl, rfl⟩)
  go_ret2
  exact ⟨rfl, rfl⟩
set_option maxRecDepth 100000 in
set_option maxHeartbeats 2000000 in
theorem repeat_none (w : World) (b o cap : Nat) :
    Calls Try.prog 34 #[.slice (some ⟨b, o, none⟩) 1 cap, .int .i64 0] w (RepP w []) := by
  have hmk := run_make_row' (P := Try.prog) 28 3 (.int .i64 0) 8 Try.underlying28 infoIf rfl .i64 .i64 0 (by omega) (by omega)
  simp only [show ((0 : Nat) : Int) = 0 from rfl] at hmk
  go_enter Try.func34, Try.ntmps34
  go_wp2_with (first
    | (go_at_call 59; refine (mul_none _).mono ?_; rintro e w' ⟨rfl, rfl⟩)
    | (refine wpList_copy_splice rfl (.tmp 31) (.tmp 32) 28 28 rfl 3 Try.underlying28 infoI (some ⟨w.heap.size, 0, none⟩) (some ⟨b, o, none⟩) 0 0 1 cap rfl rfl w.heap.size 0 (List.replicate 0 (Value.int .i64 0)) 3 (made_at w 0 3) [] rfl (fun h => absurd h (Nat.lt_irrefl 0)) (by simp) (ints_one []) w.heap.size w ((Below.refl _ w).alloc (Nat.le_refl _) _) (Nat.le_refl _) ?_; intro w6 HG6 hB6))
  have hg6 := HG6.out
  simp only [List.replicate_zero, splice, List.take_nil, List.drop_nil, List.append_nil] at hg6
  have HG := hid hg6
  have HB6 := hid hB6
  clear HG6 hg6 hB6 hmk
  go_loopw [8] (fun i wr => i = .int .i64 0 ∧ Hid (wr.heap[w.heap.size]? = some (.cells (ivs []).toArray 3 (0, 0))) ∧ Hid (Below w.heap.size w wr)) (fun i _ => 0)
  case atStart => exact ⟨rfl, HG, HB6⟩
  case round =>
    obtain ⟨rfl, HW, HB⟩ := hrel
    go_wp2
    go_ret
    exact ⟨w.heap.size, rfl, Nat.le_refl _, HW.out, HB.out⟩

theorem rep_any (w : World) (b o cap n : Nat) (t : Int) (hc : w.cell? ⟨b, o, none⟩ = some (.int .i64 t)) (hn : n ≤ 4096) :
    Calls Try.prog 34 #[.slice (some ⟨b, o, none⟩) 1 cap, .int .i64 (n : Int)] w (RepP w (List.replicate n t)) := by
  rcases Nat.eq_zero_or_pos n with rfl | h
  · exact repeat_none w b o cap
  · exact repeat_any w b o cap n t hc h hn
def tick1 (x : Int) : Bool := decide (0 ≤ x) && decide (x ≤ 2000)
def ticksB (l : List Int) : Bool := l.all tick1 && decide (l.sum ≤ 2000)
theorem ticks_bad {l : List Int} {k : Nat} (hk : k < l.length) (h : tick1 l[k] = false) : ticksB l = false := by
  have : l.all tick1 = false := by
    rw [List.all_eq_false]
    exact ⟨l[k], List.getElem_mem hk, by rw [h]; simp⟩
  unfold ticksB
  rw [this]; rfl
theorem sum_take {l : List Int} {k : Nat} (hk : k < l.length) : (l.take (k + 1)).sum = (l.take k).sum + l[k] := by
  rw [List.take_add_one, List.getElem?_eq_getElem hk, Option.toList_some, List.sum_append, List.sum_singleton]
theorem sum_bd {l : List Int} (h : ∀ j (hj : j < l.length), tick1 l[j] = true) : 0 ≤ l.sum ∧ l.sum ≤ 2000 * l.length := by
  induction l with
  | nil => simp
  | cons x l ih =>
    have h0 := h 0 (by simp)
    have h1 := ih (fun j hj => by have := h (j + 1) (by simp; omega); simpa using this)
    simp [tick1] at h0
    simp only [List.sum_cons, List.length_cons]
    omega
set_option maxHeartbeats 2000000 in
theorem ticks_any (w : World) (v : Value) (l : List Int) (hl : RowI w v l) (hlen : l.length ≤ 1000) :
    Calls Try.prog 32 #[v] w fun e w' => e = .returned (.bool (ticksB l)) ∧ w = w' := by
  rcases hl with ⟨a0, c0, rfl, rfl⟩ | ⟨b, o, cap, rfl, hm, hc⟩
  · go_enter Try.func32, Try.ntmps32
    go_wp2
    refine wp_loop_rounds 1 ?_
    rw [rounds_succ]
    go_wp2
    go_ret
    exact ⟨rfl, rfl⟩
  · have HC := hid hc; clear hc hm
    go_enter Try.func32, Try.ntmps32
    go_wp2
    go_loop [3, 8] (fun s i => ∃ k : Nat, k ≤ l.length ∧ i = .int .i64 (k : Int) ∧ s = .int .i64 (l.take k).sum ∧ Hid (∀ j (hj : j < l.length), j < k → tick1 l[j] = true)) (fun s i => l.length - (intOf i).toNat)
    case atStart => exact ⟨0, Nat.zero_le _, rfl, rfl, fun j _ h => absurd h (Nat.not_lt_zero _)⟩
    case round =>
      obtain ⟨k, hk, rfl, rfl, hok⟩ := hrel
      have hbd : 0 ≤ (l.take k).sum ∧ (l.take k).sum ≤ 2000 * k := by
        have := sum_bd (l := l.take k) (fun j hj => by rw [List.length_take] at hj; rw [List.getElem_take]; exact hok.out j (by omega) (by omega))
        rw [List.length_take, Nat.min_eq_left hk] at this
        exact this
      by_cases hlt : k < l.length
      · have ex := HC.out k hlt
        have hlt' : (k : Int) < l.length := by omega
        have HSU := hid (sum_take hlt)
        cases ho : tick1 l[k]
        · have hE := hid (ticks_bad hlt ho)
          generalize (l.take k).sum = sm at *
          generalize l[k] = x at ex ho
          change (decide (0 ≤ x) && decide (x ≤ 2000)) = false at ho
          go_wp2_with (go_at_call 57; refine (pwithin_any _ _ _ _).mono ?_; rintro e w' ⟨rfl, rfl⟩)
          go_ret
          exact ⟨by rw [hE.out]; rfl, rfl⟩
        · have hst : Hid (∀ j (hj : j < l.length), j < k + 1 → tick1 l[j] = true) := fun j hj h => by
            rcases Nat.lt_or_ge j k with h1 | h1
            · exact hok.out j hj h1
            · obtain rfl : j = k := by omega
              exact ho
          have hxb : 0 ≤ l[k] ∧ l[k] ≤ 2000 := by simpa [tick1] using ho
          generalize (l.take k).sum = sm at *
          generalize l[k] = x at ex ho HSU hxb
          change (decide (0 ≤ x) && decide (x ≤ 2000)) = true at ho
          go_wp2_with (go_at_call 57; refine (pwithin_any _ _ _ _).mono ?_; rintro e w' ⟨rfl, rfl⟩)
          go_round
          case rel => exact ⟨k + 1, by omega, by go_num, by rw [HSU.out], hst⟩
          case measure => simp [intOf]; omega
      · obtain rfl : k = l.length := by omega
        rw [List.take_length] at *
        have hE := hid (show ticksB l = decide (l.sum ≤ 2000) by
          unfold ticksB
          rw [show l.all tick1 = true from List.all_eq_true.2 fun x hx => by
            obtain ⟨j, hj, e⟩ := List.mem_iff_getElem.1 hx
            rw [← e]
            exact hok.out j hj hj]
          rfl)
        generalize l.sum = sm at *
        go_wp2
        go_ret
        exact ⟨by rw [hE.out]; rfl, rfl⟩
end Go.Proofs.Ytedfajokiblfhaa
