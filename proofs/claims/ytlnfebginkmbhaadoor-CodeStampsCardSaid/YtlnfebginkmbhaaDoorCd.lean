/- Walk of CodeReads. -/
import Derived.Test.YtlnfebginkmbhaaDoorCc
namespace Go.Proofs.YtlnfebginkmbhaaDoor
open Go.RowKit

theorem readV_form (s : ByteArray) (u v7 : Int) (R : Option Int) : ∃ (p q r : ByteArray) (t v e0 : Int), readV s u v7 R = .tuple #[.agg #[.string p, .string q, .string r, .int .i64 t, .int .i64 v], .int .i64 e0] := by
  cases R with
  | none => exact ⟨_, _, _, _, _, _, rfl⟩
  | some z => exact ⟨_, _, _, _, _, _, rfl⟩
theorem reads_both (s : ByteArray) (n : Int) : ∃ (p q r : ByteArray) (t v e0 : Int),
    (∀ W, Wts W → Calls Tryd.prog 34 #[.string s, .int .i64 n] W fun e w' => e = .returned (.tuple #[.agg #[.string p, .string q, .string r, .int .i64 t, .int .i64 v], .int .i64 e0]) ∧ Below W.heap.size W w') ∧
    (∀ W, Calls Tryd.prog 35 #[.string s, .int .i64 n] W fun e w' => e = .returned (.tuple #[.agg #[.string p, .string q, .string r, .int .i64 t, .int .i64 v], .int .i64 e0]) ∧ Below W.heap.size W w') := by
  cases hn : nineB s
  · exact ⟨_, _, _, _, _, _, fun W _ => cread_2 s n W hn, fun W => xread_2 s n W hn⟩
  · cases hs : soundS s
    · exact ⟨_, _, _, _, _, _, fun W hw => cread_12 s n W hn hs hw, fun W => xread_12 s n W hn hs⟩
    · cases hok : inB n 0 73048
      · exact ⟨_, _, _, _, _, _, fun W hw => cread_7 s n W hn hs hw false hok (.inr rfl), fun W => xread_7 s n W hn hs false hok (.inr rfl)⟩
      · by_cases hu : 365 < 31 * (vals s).getD 4 0 + (vals s).getD 5 0
        · exact ⟨_, _, _, _, _, _, fun W hw => cread_7 s n W hn hs hw true hok (.inl hu), fun W => xread_7 s n W hn hs true hok (.inl hu)⟩
        · obtain ⟨q0, q1⟩ := inB_iff.1 hok
          obtain ⟨yy, mm, dd, hd⟩ := date_ex q0 q1
          obtain ⟨p, q, r, t, v, e0, hf⟩ := readV_form s (31 * (vals s).getD 4 0 + (vals s).getD 5 0) ((vals s).getD 7 0) (srch ((vals s).getD 3 0) (31 * (vals s).getD 4 0 + (vals s).getD 5 0) n (yy - 1999).toNat)
          refine ⟨p, q, r, t, v, e0, fun W hw => ?_, fun W => ?_⟩
          · rw [← hf]; exact cread_R s n yy _ W hn hs hw hd.1 (by omega) rfl
          · rw [← hf]; exact xread_R s n yy mm dd _ W hn hs hd (by omega) rfl
set_option maxRecDepth 100000 in
set_option maxHeartbeats 4000000 in
theorem reads_walk (s : ByteArray) (n : Int) (w : World) (hw : Wts w) :
    Calls Tryd.prog 6 #[.string s, .int .i64 n] w fun e w' => e = .returned (.bool true) ∧ Below w.heap.size w w' := by
  have HW := hid hw
  obtain ⟨p, q, r, t, v, e0, h1, h2⟩ := reads_both s n
  have H1 := hid h1
  have H2 := hid h2
  clear hw h1 h2
  go_enter Tryd.func6, Tryd.ntmps6
  go_wp2_with fail
  refine (awake6_any _ HW.out).mono ?_
  rintro e w1 ⟨rfl, hb⟩
  have HB1 := hid hb
  clear hb
  go_wp2_with fail
  refine (H1.out _ (HW.out.keep HB1.out)).mono ?_
  rintro e w2 ⟨rfl, hb⟩
  have HB2 := bstep HB1.out HB1.out.size hb
  have HX := hid (show Bx w (w2.alloc (.cells #[.string p, .string q, .string r, .int .i64 t, .int .i64 v] 40)) w2.heap.size 40 #[.string p, .string q, .string r, .int .i64 t, .int .i64 v] from
    ⟨heap_alloc_new _ _, HB2.size, bstep HB2 HB2.size ((Below.refl _ _).alloc (Nat.le_refl _) _)⟩)
  clear hb HB2
  go_wp2_with fail
  refine (H2.out _).mono ?_
  rintro e w3 ⟨rfl, hb⟩
  have HX2 := HX.out.keep hb
  have HX3 := hid (HX2.keep ((Below.refl w3.heap.size w3).alloc (Nat.le_refl _) (.cells #[.string p, .string q, .string r, .int .i64 t, .int .i64 v] 40)))
  clear hb HX2 HX
  obtain ⟨c0, c1, c2, c3, c4⟩ := HX3.out.five
  go_wp2_with fail
  go_ret
  exact ⟨rfl, HX3.out.low⟩
end Go.Proofs.YtlnfebginkmbhaaDoor
