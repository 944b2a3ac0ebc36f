/- Lists of ints as rows of one-cell things; the reference's put: contract. -/
import Derived.Test.YtikjgbfbbkmmcaaQwh
import Derived.Test.YtikjgbfbbkmmcaaQuf
import Derived.Test.YtikjgbfbbkmmcaaQwe
namespace Go.Proofs.Ytikjgbfbbkmmcaa
open Go.RowKit

def encI : Enc Int where
  cs x := [.int .i64 x]
  n := 1
  len _ := rfl
  one := by
    intro x u hu
    simp only [List.mem_cons, List.not_mem_nil, or_false] at hu
    subst hu
    rfl
theorem RowE.int {w : World} {a : Option Addr} {n c k : Nat} {l : List Int} (h : RowE encI w (.slice a n c) l) (hk : k < l.length) : ∃ b o, a = some ⟨b, o, none⟩ ∧ w.cell? ⟨b, o + k, none⟩ = some (.int .i64 l[k]) := by
  obtain ⟨b, o, e, hc⟩ := h.get hk
  refine ⟨b, o, e, ?_⟩
  have := hc 0 _ rfl
  rw [show o + k * encI.n + 0 = o + k by show o + k * 1 + 0 = o + k; omega] at this
  exact this
theorem rowE_int {w : World} {v : Value} {l : List Int} (h : RowE encI w v l) : RowI w v l := by
  obtain ⟨a, b, o, cap, rfl, h2, h3, h4, h5⟩ := h
  rcases h4 with rfl | rfl
  · exact .inl ⟨_, _, rfl, rfl⟩
  · refine .inr ⟨b, o, cap, rfl, by omega, fun k hk => ?_⟩
    have := h5 k hk 0 _ rfl
    rw [show o + k * encI.n + 0 = o + k by show o + k * 1 + 0 = o + k; omega] at this
    exact this
theorem infoQi : ∃ i, Try.prog.info? 3 = some i ∧ i.zero = some (.int .i64 0) ∧ i.size = 1 ∧ i.bytes = 8 := by
  have h : (Try.prog.info? 3).map (fun i => (i.zero, i.size, i.bytes)) = some (some (.int .i64 0), 1, 8) := by kernel_rfl
  cases ho : Try.prog.info? 3 with
  | none => rw [ho] at h; cases h
  | some i =>
    rw [ho] at h
    simp only [Option.map_some, Option.some.injEq, Prod.mk.injEq] at h
    exact ⟨i, rfl, h.1, h.2.1, h.2.2⟩
theorem flt_next {l : List Int} {k : Nat} (hk : k < l.length) (f : Int → Bool) : (l.take (k + 1)).filter f = if f l[k] then (l.take k).filter f ++ [l[k]] else (l.take k).filter f := by
  rw [List.take_succ_eq_append_getElem hk, List.filter_append]
  cases h : f l[k] <;> simp [h]
theorem flt_len (l : List Int) (k : Nat) (f : Int → Bool) : ((l.take k).filter f).length ≤ l.length :=
  Nat.le_trans (List.length_filter_le _ _) (by rw [List.length_take]; omega)
set_option maxRecDepth 20000 in
set_option maxHeartbeats 4000000 in
theorem xput_any (v : Value) (s : List Int) (x : Int) (w : World) (hr : RowE encI w v s) (hf : s.length ≤ 1000) : Calls Try.prog 84 #[v, .int .i64 x] w fun e w' => ∃ u, e = .returned u ∧ OwnE encI w' w.heap.size 3 u (insK x s) ∧ Below w.heap.size w w' := by
  have HR := hid (fun w1 (g : Below w.heap.size w w1) => hr.keep g)
  obtain ⟨va, vc, rfl⟩ := hr.shape
  obtain ⟨n, hn⟩ : ∃ n, n = s.length := ⟨_, rfl⟩
  have HN := hid hn
  have HLF := hid (flt_len s)
  rw [← hn] at hf HR HLF ⊢
  have HF := hid hf
  clear hr hn
  obtain ⟨i0, hi, hz0, hz1, hz2⟩ := infoQi
  go_enter Try.func84, Try.ntmps84
  go_wp2
  go_loopw [5, 6] (fun u t wr => ∃ k : Nat, k ≤ n ∧ t = .int .i64 (k : Int) ∧ Hid (OwnE encI wr w.heap.size 3 u ((s.take k).filter fun y => decide (y < x))) ∧ Hid (Below w.heap.size w wr)) (fun _ t _ => n - (intOf t).toNat)
  case atStart => exact ⟨0, Nat.zero_le _, rfl, ownE_nil _ _ _ _, Below.refl _ _⟩
  case round =>
    obtain ⟨k, hk, rfl, hO, hB⟩ := hrel
    by_cases hlt : k < n
    · have hlt' : (k : Int) < n := by omega
      have hks : k < s.length := by rw [← HN.out]; exact hlt
      obtain ⟨b0, o0, hva, c0⟩ := (HR.out _ hB.out).int hks
      subst hva
      have HNX := hid (flt_next hks fun y => decide (y < x))
      have HLT := hid hlt
      have HBD := hid (HLF.out k fun y => decide (y < x))
      obtain ⟨ua, uc, rfl⟩ := hO.out.shape
      generalize s[k] = z at *
      generalize (s.take k).filter (fun y => decide (y < x)) = pre at *
      by_cases hz : z < x
      · have HNY := hid (show (s.take (k + 1)).filter (fun y => decide (y < x)) = pre ++ [z] by rw [HNX.out]; simp [hz])
        have HNW := hid (rowE_new (C := encI) (W := wr) (T := 3) (l := [z]) (cs := #[.int .i64 z]) rfl (by show 1 ≤ maxLen; unfold maxLen; omega))
        have HBA := hid ((Below.refl wr.heap.size wr).alloc (Nat.le_refl _) (.cells #[.int .i64 z] 3))
        have HOA := hid (hO.out.keep HBA.out)
        have HBW := hid (bstep hB.out hB.out.size HBA.out)
        have HBX := hid (show pre.length + [z].length ≤ 1000000 by have := HBD.out; have := HF.out; simp only [List.length_singleton]; omega)
        clear hlt hks hO hB hk
        go_wp2_with (at_builtin; (refine wpList_appE encI rfl (.tmp 20) (.tmp 25) 42 rfl w.heap.size 3 8 i0 _ Try.underlying42 hi hz0 hz1 hz2 rfl (by decide) (by decide) _ pre rfl HOA.out _ [z] rfl HNW.out HBX.out HBW.out.size ?_); intro v3 w6 hA1; have HB6 := hid (hA1.low HBW.out HOA.out); have HO6 := hid hA1.1; obtain ⟨a3, c3, rfl⟩ := HO6.out.shape; clear hA1)
        go_roundw
        case rel =>
          have hO7 := HO6.out
          rw [List.length_append] at hO7
          refine ⟨k + 1, HLT.out, by go_num, ?_, HB6⟩
          rw [HNY.out]
          exact hO7
        case measure => have := HLT.out; simp [intOf]; omega
      · have HNY := hid (show (s.take (k + 1)).filter (fun y => decide (y < x)) = pre by rw [HNX.out]; simp [hz])
        clear hlt hks hk
        go_wp2
        go_roundw
        case rel => exact ⟨k + 1, HLT.out, by go_num, by rw [HNY.out]; exact hO, hB⟩
        case measure => have := HLT.out; simp [intOf]; omega
    · obtain rfl : n = k := by omega
      have HFU := hid (show (s.take n).filter (fun y => decide (y < x)) = s.filter (fun y => decide (y < x)) by rw [HN.out, List.take_length])
      have HBD := hid (HLF.out n fun y => decide (y < x))
      rw [HFU.out] at hO HBD
      obtain ⟨ua, uc, rfl⟩ := hO.out.shape
      generalize hpr : s.filter (fun y => decide (y < x)) = pre at *
      have HPR := hid hpr
      have HNW := hid (rowE_new (C := encI) (W := wr) (T := 3) (l := [x]) (cs := #[.int .i64 x]) rfl (by show 1 ≤ maxLen; unfold maxLen; omega))
      have HBA := hid ((Below.refl wr.heap.size wr).alloc (Nat.le_refl _) (.cells #[.int .i64 x] 3))
      have HOA := hid (hO.out.keep HBA.out)
      have HBW := hid (bstep hB.out hB.out.size HBA.out)
      have HBX := hid (show pre.length + [x].length ≤ 1000000 by have := HBD.out; have := HF.out; simp only [List.length_singleton]; omega)
      clear hlt hO hB hk hpr
      go_wp2_with (at_builtin; (refine wpList_appE encI rfl (.tmp 27) (.tmp 29) 42 rfl w.heap.size 3 8 i0 _ Try.underlying42 hi hz0 hz1 hz2 rfl (by decide) (by decide) _ pre rfl HOA.out _ [x] rfl HNW.out HBX.out HBW.out.size ?_); intro v3 w6 hA1; have HB6 := hid (hA1.low HBW.out HOA.out); have HO6 := hid hA1.1; obtain ⟨a3, c3, rfl⟩ := HO6.out.shape; clear hA1)
      have HO7 : Hid (OwnE encI w6 w.heap.size 3 (.slice a3 (pre.length + 1) c3) (pre ++ [x] ++ (s.take 0).filter fun y => decide (x < y))) := by
        have h := HO6.out
        rw [List.length_append] at h
        rw [List.take_zero, List.filter_nil, List.append_nil]
        exact h
      clear HO6 HNW HBA HOA HBW HBX
      go_loopw [5, 7] (fun u t wr => ∃ k : Nat, k ≤ n ∧ t = .int .i64 (k : Int) ∧ Hid (OwnE encI wr w.heap.size 3 u (pre ++ [x] ++ (s.take k).filter fun y => decide (x < y))) ∧ Hid (Below w.heap.size w wr)) (fun _ t _ => n - (intOf t).toNat)
      case atStart => exact ⟨0, Nat.zero_le _, rfl, HO7, HB6⟩
      case round =>
        obtain ⟨k, hk, rfl, hO, hB⟩ := hrel
        by_cases hlt : k < n
        · have hlt' : (k : Int) < n := by omega
          have hks : k < s.length := by rw [← HN.out]; exact hlt
          obtain ⟨b0, o0, hva, c0⟩ := (HR.out _ hB.out).int hks
          subst hva
          have HNX := hid (flt_next hks fun y => decide (x < y))
          have HLT := hid hlt
          have HBD2 := hid (HLF.out k fun y => decide (x < y))
          obtain ⟨ua, uc, rfl⟩ := hO.out.shape
          generalize s[k] = z at *
          generalize (s.take k).filter (fun y => decide (x < y)) = pst at *
          have HBE := hid (show (pre ++ [x] ++ pst).length ≤ 2 * n + 1 by have := HBD.out; have := HBD2.out; simp only [List.length_append, List.length_singleton]; omega)
          by_cases hz : z > x
          · have HNY := hid (show pre ++ [x] ++ (s.take (k + 1)).filter (fun y => decide (x < y)) = (pre ++ [x] ++ pst) ++ [z] by rw [HNX.out, if_pos (by simpa using hz), List.append_assoc (pre ++ [x])])
            generalize pre ++ [x] ++ pst = F at *
            have HNW := hid (rowE_new (C := encI) (W := wr) (T := 3) (l := [z]) (cs := #[.int .i64 z]) rfl (by show 1 ≤ maxLen; unfold maxLen; omega))
            have HBA := hid ((Below.refl wr.heap.size wr).alloc (Nat.le_refl _) (.cells #[.int .i64 z] 3))
            have HOA := hid (hO.out.keep HBA.out)
            have HBW := hid (bstep hB.out hB.out.size HBA.out)
            have HBX := hid (show F.length + [z].length ≤ 1000000 by have := HBE.out; have := HF.out; simp only [List.length_singleton]; omega)
            clear hlt hks hO hB hk
            go_wp2_with (at_builtin; (refine wpList_appE encI rfl (.tmp 43) (.tmp 48) 42 rfl w.heap.size 3 8 i0 _ Try.underlying42 hi hz0 hz1 hz2 rfl (by decide) (by decide) _ F rfl HOA.out _ [z] rfl HNW.out HBX.out HBW.out.size ?_); intro v3 w6 hA1; have HB6 := hid (hA1.low HBW.out HOA.out); have HO6 := hid hA1.1; obtain ⟨a3, c3, rfl⟩ := HO6.out.shape; clear hA1)
            go_roundw
            case rel =>
              have hO7 := HO6.out
              rw [List.length_append] at hO7
              refine ⟨k + 1, HLT.out, by go_num, ?_, HB6⟩
              rw [HNY.out]
              exact hO7
            case measure => have := HLT.out; simp [intOf]; omega
          · have HNY := hid (show pre ++ [x] ++ (s.take (k + 1)).filter (fun y => decide (x < y)) = pre ++ [x] ++ pst by rw [HNX.out, if_neg (by simpa using hz)])
            clear hlt hks hk
            go_wp2
            go_roundw
            case rel => exact ⟨k + 1, HLT.out, by go_num, by rw [HNY.out]; exact hO, hB⟩
            case measure => have := HLT.out; simp [intOf]; omega
        · obtain rfl : n = k := by omega
          have HIN := hid (show pre ++ [x] ++ (s.take n).filter (fun y => decide (x < y)) = insK x s by rw [HN.out, List.take_length, ← HPR.out]; unfold insK; simp)
          rw [HIN.out] at hO
          clear hlt hk
          obtain ⟨ua, uc, rfl⟩ := hO.out.shape
          go_wp2
          go_ret
          exact ⟨_, rfl, hO.out, hB.out⟩
end Go.Proofs.Ytikjgbfbbkmmcaa
