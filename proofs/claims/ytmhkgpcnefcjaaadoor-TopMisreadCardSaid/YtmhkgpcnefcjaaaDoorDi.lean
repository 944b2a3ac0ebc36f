/- Walks of the reference's Value, Sign, all, Nine: contracts. -/
import Derived.Test.YtmhkgpcnefcjaaaDoorDh
namespace Go.Proofs.YtmhkgpcnefcjaaaDoor
open Go.RowKit

theorem indexByte_first {l : List UInt8} {c : UInt8} {k : Nat} (hk : k < l.length) (h : ∀ j (hj : j < l.length), j < k → l[j] ≠ c) (e : l[k] = c) : Lib.indexByte l c = k := by
  induction l generalizing k with
  | nil => simp at hk
  | cons b l ih =>
    unfold Lib.indexByte
    cases k with
    | zero =>
      have : (b == c) = true := by simpa using e
      rw [this]; rfl
    | succ k =>
      have hb : (b == c) = false := by
        have := h 0 (by simp) (Nat.succ_pos _)
        simpa using this
      have := ih (k := k) (by simpa using hk) (fun j hj hjk => by have := h (j + 1) (by simpa using hj) (by omega); simpa using this) (by simpa using e)
      rw [hb, this]
      have h1 : ((k : Int) == -1) = false := by simp
      simp [h1]
theorem sgs_run (k : Nat) (hk : k < 31) (w : World) : (Instr.index 9 (.string ⟨#[48, 49, 50, 51, 52, 53, 54, 55, 56, 57, 65, 66, 67, 68, 69, 70, 71, 72, 74, 75, 76, 77, 78, 80, 81, 82, 83, 84, 85, 86, 87]⟩) (.int .i64 (k : Int))).run Tryd.prog w = .ok (.int .u8 ((sg.getD k 0).toNat : Int)) w := by
  rw [run_index_string w 9 ⟨#[48, 49, 50, 51, 52, 53, 54, 55, 56, 57, 65, 66, 67, 68, 69, 70, 71, 72, 74, 75, 76, 77, 78, 80, 81, 82, 83, 84, 85, 86, 87]⟩ .i64 k Tryd.underlying9]
  have hsz : (⟨#[48, 49, 50, 51, 52, 53, 54, 55, 56, 57, 65, 66, 67, 68, 69, 70, 71, 72, 74, 75, 76, 77, 78, 80, 81, 82, 83, 84, 85, 86, 87]⟩ : ByteArray).size = 31 := rfl
  rw [dif_pos ⟨by omega, by rw [hsz]; omega⟩]
  congr 1
  have := sgs_at k (by rw [hsz]; omega)
  simp only [Int.toNat_natCast]
  rw [this]
theorem u8_beq (a b : UInt8) : ((a.toNat : Int) == (b.toNat : Int)) = decide (a = b) := by
  by_cases h : a = b
  · subst h; simp
  · have : ¬ (a.toNat : Int) = b.toNat := by
      intro g
      exact h (UInt8.toNat.inj (by omega))
    simp [h, this]
set_option maxRecDepth 100000 in
set_option maxHeartbeats 1000000 in
theorem xvalue_any (c : UInt8) (w : World) :
    Calls Tryd.prog 81 #[.int .u8 (c.toNat : Int)] w fun e w' => e = .returned (.int .i64 (valB c)) ∧ w' = w := by
  go_enter Tryd.func81, Tryd.ntmps81
  go_wp2_with fail
  go_loop [3] (fun t => ∃ k : Nat, k ≤ 31 ∧ t = .int .i64 (k : Int) ∧ Hid (∀ j (hj : j < sg.length), j < k → sg[j] ≠ c)) (fun t => 31 - (intOf t).toNat)
  case atStart => exact ⟨0, by omega, rfl, fun j _ h => absurd h (Nat.not_lt_zero j)⟩
  case round =>
    obtain ⟨k, hk, rfl, hok⟩ := hrel
    by_cases hlt : k < 31
    · have hlt' : (k : Int) < 31 := by omega
      have hix := sgs_run k hlt w
      have hkl : k < sg.length := hlt
      have hgd : sg.getD k 0 = sg[k] := by rw [List.getD_eq_getElem?_getD, List.getElem?_eq_getElem hkl]; rfl
      rw [hgd] at hix
      have HF := hid (fun e => indexByte_first hkl hok.out e)
      have HST := hid (fun (h : sg[k] ≠ c) => show ∀ j (hj : j < sg.length), j < k + 1 → sg[j] ≠ c from fun j hj hj2 => by
        rcases Nat.lt_succ_iff_lt_or_eq.1 hj2 with h1 | h1
        · exact hok.out j hj h1
        · subst h1; exact h)
      clear hgd
      generalize sg[k] = b at hix HF HST
      by_cases hbc : b = c
      · have hbq : ((b.toNat : Int) == (c.toNat : Int)) = true := by rw [u8_beq, decide_eq_true hbc]
        have HE := hid (HF.out hbc)
        clear hbc
        go_wp2_with fail
        go_ret
        exact ⟨ret_int (show (k : Int) = Lib.indexByte sg c from HE.out.symm), rfl⟩
      · have hbq : ((b.toNat : Int) == (c.toNat : Int)) = false := by rw [u8_beq, decide_eq_false hbc]
        have HE := hid (HST.out hbc)
        have HLT := hid hlt
        clear hbc
        go_wp2_with fail
        go_round
        case rel => exact ⟨k + 1, HLT.out, by go_num, HE⟩
        case measure => have := HLT.out; simp [intOf]; omega
    · obtain rfl : k = 31 := by omega
      have HE := hid (show Lib.indexByte sg c = -1 from indexByte_none fun b hb hbc => by
        obtain ⟨j, hj, rfl⟩ := List.getElem_of_mem hb
        exact hok.out j hj hj hbc)
      clear hok
      go_wp2_with fail
      go_ret
      exact ⟨ret_int (show (-1 : Int) = Lib.indexByte sg c from HE.out.symm), rfl⟩
set_option maxRecDepth 100000 in
set_option maxHeartbeats 1000000 in
theorem xsign_any (v : Int) (w : World) : Calls Tryd.prog 29 #[.int .i64 v] w fun e w' => e = .returned (.int .u8 ((sgn v).toNat : Int)) ∧ w' = w := by
  by_cases h : 0 ≤ v ∧ v ≤ 30
  · have hb : inB v 0 30 = true := inB_iff.2 h
    obtain ⟨k, rfl⟩ : ∃ k : Nat, v = k := ⟨v.toNat, by omega⟩
    have HB := hid hb
    have hk : k < 31 := by omega
    have hs : (Instr.index 9 (.string ⟨#[48, 49, 50, 51, 52, 53, 54, 55, 56, 57, 65, 66, 67, 68, 69, 70, 71, 72, 74, 75, 76, 77, 78, 80, 81, 82, 83, 84, 85, 86, 87]⟩) (.int .i64 (k : Int))).run Tryd.prog w = .ok (.int .u8 ((sgn k).toNat : Int)) w := by
      rw [sgs_run k hk]
      unfold sgn
      rw [if_pos h, Int.toNat_natCast]
    clear hb h
    go_enter Tryd.func29, Tryd.ntmps29
    go_wp2_with (go_at_call 52; refine (xwithin_any _ _ _ _).mono ?_; rintro e w' ⟨rfl, rfl⟩; rw [HB.out])
    go_ret
    exact ⟨rfl, rfl⟩
  · have hb : inB v 0 30 = false := by rw [Bool.eq_false_iff]; exact fun g => h (inB_iff.1 g)
    have HB := hid hb
    have HE := hid (show (sgn v) = 0 by unfold sgn; rw [if_neg h])
    clear hb h
    go_enter Tryd.func29, Tryd.ntmps29
    go_wp2_with (go_at_call 52; refine (xwithin_any _ _ _ _).mono ?_; rintro e w' ⟨rfl, rfl⟩; rw [HB.out])
    go_ret
    exact ⟨by rw [HE.out]; rfl, rfl⟩
theorem str_run (s : ByteArray) (k : Nat) (hk : k < s.size) (w : World) : (Instr.index 9 (.string s) (.int .i64 (k : Int))).run Tryd.prog w = .ok (.int .u8 ((s[k]'hk).toNat : Int)) w := by
  rw [run_index_string w 9 s .i64 k Tryd.underlying9]
  rw [dif_pos ⟨by omega, by omega⟩]
  congr 1
set_option maxRecDepth 100000 in
set_option maxHeartbeats 1000000 in
theorem xall_any (s : ByteArray) (hs : s.size ≤ maxLen) (w : World) :
    Calls Tryd.prog 64 #[.string s] w fun e w' => e = .returned (.bool (allSg s.data.toList)) ∧ w' = w := by
  unfold maxLen at hs
  go_enter Tryd.func64, Tryd.ntmps64
  go_wp2_with fail
  go_loop [3] (fun t => ∃ k : Nat, k ≤ s.size ∧ t = .int .i64 (k : Int) ∧ Hid (∀ j (hj : j < s.size), j < k → 0 ≤ valB (s[j]'hj))) (fun t => s.size - (intOf t).toNat)
  case atStart => exact ⟨0, by omega, rfl, fun j _ h => absurd h (Nat.not_lt_zero j)⟩
  case round =>
    obtain ⟨k, hk, rfl, hok⟩ := hrel
    by_cases hlt : k < s.size
    · have hlt' : (k : Int) < s.size := by omega
      have hix := str_run s k hlt w
      have HST := hid (sg_step hlt hok.out)
      have HBD := hid (fun h => allSg_bad (s := s) hlt h)
      generalize s[k]'hlt = c at hix HST HBD
      have HLT := hid hlt
      by_cases hv : 0 ≤ valB c
      · have HG := hid (HST.out hv)
        have hv2 : ¬ valB c < 0 := by omega
        clear hlt
        go_wp2_with (go_at_call 81; refine (xvalue_any _ _).mono ?_; rintro e w' ⟨rfl, rfl⟩)
        go_round
        case rel => exact ⟨k + 1, HLT.out, by go_num, HG⟩
        case measure => have := HLT.out; simp [intOf]; omega
      · have HG := hid (HBD.out hv)
        have hv2 : valB c < 0 := by omega
        clear hlt
        go_wp2_with (go_at_call 81; refine (xvalue_any _ _).mono ?_; rintro e w' ⟨rfl, rfl⟩)
        go_ret
        exact ⟨ret_bool HG.out.symm, rfl⟩
    · obtain rfl : k = s.size := by omega
      have HE := hid (allSg_end (s := s) fun j hj => hok.out j hj hj)
      clear hok
      go_wp2_with fail
      go_ret
      exact ⟨ret_bool HE.out.symm, rfl⟩
def nineB (s : ByteArray) : Bool := decide ((s.size : Int) = 9) && allSg s.data.toList
set_option maxRecDepth 100000 in
set_option maxHeartbeats 1000000 in
theorem xnine_any (s : ByteArray) (w : World) :
    Calls Tryd.prog 38 #[.string s] w fun e w' => e = .returned (.bool (nineB s)) ∧ w' = w := by
  by_cases h : (s.size : Int) = 9
  · have h2 : ((s.size : Int) == 9) = true := by simpa using h
    have HS := hid (show s.size ≤ maxLen by unfold maxLen; omega)
    have HE := hid (show nineB s = allSg s.data.toList by unfold nineB; rw [decide_eq_true h, Bool.true_and])
    clear h
    go_enter Tryd.func38, Tryd.ntmps38
    go_wp2_with (go_at_call 64; refine (xall_any _ HS.out _).mono ?_; rintro e w' ⟨rfl, rfl⟩)
    go_ret
    exact ⟨ret_bool HE.out.symm, rfl⟩
  · have h2 : ((s.size : Int) == 9) = false := by simpa using h
    have HE := hid (show nineB s = false by unfold nineB; rw [decide_eq_false h, Bool.false_and])
    clear h
    go_enter Tryd.func38, Tryd.ntmps38
    go_wp2_with fail
    go_ret
    exact ⟨ret_bool HE.out.symm, rfl⟩
end Go.Proofs.YtmhkgpcnefcjaaaDoor
