/- Walk of SeamShifts, all cases. -/
import Derived.Test.YtlhjiikbehmamaaDoorNh
namespace Go.Proofs.YtlhjiikbehmamaaDoor
open Go.RowKit

set_option maxRecDepth 20000 in
set_option maxHeartbeats 8000000 in
theorem shifts_walk (M S : Int) (v : Value) (l : List Int) (z : Int) (w : World) (hr : RowQ w v l) (hR : Rls w) :
    Calls Tryd.prog 3 #[.agg #[.int .i64 M, .int .i64 S], v, .int .i64 z] w fun e w' => e = .returned (.bool true) ∧ Below w.heap.size w w' := by
  have HR := hid hr
  have HRL := hid hR
  have hm := hr.most
  unfold maxLen at hm
  obtain ⟨va, vc, rfl⟩ : ∃ a c, v = .slice a l.length c := hr.rowI.shape
  obtain ⟨n, hn⟩ : ∃ n, n = l.length := ⟨_, rfl⟩
  have HN := hid hn
  rw [← hn] at hm HR ⊢
  have HB0 := hid (box1_start (w := w) (A := #[.int .i64 M, .int .i64 S]) (T := 23) (fz := (0, 0))).low
  clear hr hR hn
  rcases (show 500 < n ∨ (n ≤ 500 ∧ z < -1000000000) ∨ (n ≤ 500 ∧ 1000000000 < z) ∨ (n ≤ 500 ∧ -1000000000 ≤ z ∧ z ≤ 1000000000) by omega) with h1 | ⟨h1, h2⟩ | ⟨h1, h2⟩ | ⟨h1, h2, h3⟩
  case inr.inr.inr =>
    go_enter Tryd.func3, Tryd.ntmps3
    go_wp2
    have HBX := hid (box2_start (w := w) (A := #[.int .i64 M, .int .i64 S]) (B := #[.int .i64 (wrap64 (M + z)), .int .i64 S]) (T := 23) (T' := 23) (fz := (0, 0)) (fz' := (0, 0)))
    obtain ⟨D, hD⟩ : ∃ D, D = wrap64 (M + z) := ⟨_, rfl⟩
    rw [← hD] at HBX ⊢
    have HD := hid hD
    clear hD
    obtain ⟨i0, hti, hz0, hz1, hz2⟩ := info_parts infoI
    generalize World.alloc (World.alloc w _) _ = W at *
    go_loopw [8, 9] (fun s t wr => ∃ k : Nat, k ≤ n ∧ t = .int .i64 (k : Int) ∧ Hid (OwnI wr (w.heap.size + 2) s (shL z (l.take k))) ∧ Hid (Box2 w wr #[.int .i64 M, .int .i64 S] #[.int .i64 D, .int .i64 S])) (fun _ t _ => n - (intOf t).toNat)
    case atStart => exact ⟨0, Nat.zero_le _, rfl, ownI_nil _ _, HBX⟩
    case round =>
      obtain ⟨k, hk, rfl, hown, hbx⟩ := hrel
      by_cases hlt : k < n
      · have hlt' : (k : Int) < n := by omega
        have k1 : k < l.length := by rw [← HN.out]; exact hlt
        obtain ⟨b, o, hva, hcell⟩ := rowI_get (HR.out.keep hbx.out.low).rowI HN.out k1
        subst hva
        have HSX := hid (shL_take (z := z) k1)
        obtain ⟨x, hx⟩ : ∃ x, x = l[k] := ⟨_, rfl⟩
        rw [← hx] at hcell HSX
        obtain ⟨y, hy⟩ : ∃ y, wrap64 (x + z) = y := ⟨_, rfl⟩
        have HSY := hid (show shL z (l.take (k + 1)) = shL z (l.take k) ++ [y] by rw [HSX.out, ← hy])
        obtain ⟨N, hN⟩ : ∃ N, N = (shL z (l.take k)).length := ⟨_, rfl⟩
        have hN5 : N ≤ 500 := by rw [hN, shL_len, List.length_take]; omega
        have HOR := hid (show wr.ownsRow (w.heap.size + 2) 3 1 u8 N ((shL z (l.take k)).map (Value.int .i64)) by rw [hN]; exact hown.out)
        have HNN := hid hN
        have HLT := hid hlt
        clear hx hN k1 hlt
        go_wp2_with (at_builtin; refine wpList_append_own _ rfl _ _ 24 rfl (w.heap.size + 2) 3 i0 (.int .i64 0) 1 8 Tryd.underlying24 hti hz0 hz1 hz2 rfl (by decide) _ _ _ rfl (World.ownsRow.alloc HOR.out _) ⟨wr.heap.size, 0, none⟩ 1 1 [.int .i64 y] rfl rfl (cell_one_new rfl) one_cell1 (by unfold maxLen; omega) (by omega) (by have := hbx.out.sz; simp; omega) ?_; intro v1 w6 hown6 hgrow6 _)
        have HX6 := hid (hbx.out.grownI (Nat.lt_succ_self _) hown.out hgrow6)
        have HO6 : Hid (OwnI w6 (w.heap.size + 2) v1 (shL z (l.take (k + 1)))) := by rw [HSY.out]; exact OwnI.app (by rw [← HNN.out]; exact hown6)
        clear hown6 hgrow6
        go_roundw
        case rel => exact ⟨k + 1, HLT.out, by go_num, HO6, HX6⟩
        case measure => have := HLT.out; simp [intOf]; omega
      · obtain rfl : k = n := by omega
        have HFULL := hid (show l.take k = l from List.take_of_length_le (by rw [HN.out]; exact Nat.le_refl _))
        rw [HFULL.out] at hown
        have HBXK := hid (fun w2 (g : Below wr.heap.size wr w2) => hbx.out.keep g)
        obtain ⟨p0, p1⟩ := show wr.cell? ⟨w.heap.size, 0, none⟩ = some (.int .i64 M) ∧ wr.cell? ⟨w.heap.size, 1, none⟩ = some (.int .i64 S) from ⟨hbx.out.fst 0, hbx.out.fst 1⟩
        have HOQ := hid hown.out.rowQ
        clear hown
        go_wp2_with fail
        refine (signals_any M S _ _ l [] _ (HR.out.keep hbx.out.low) (rowQ_nil _) (HRL.out.keep hbx.out.low)).mono ?_
        rintro e w2 ⟨xa, rfl, hxa, hb2⟩
        have HXA := hid hxa
        have HX2 := hid (HBXK.out _ hb2)
        have HOQ2 := hid (HOQ.out.keep hb2)
        obtain ⟨p2, p3⟩ := show w2.cell? ⟨w.heap.size + 1, 0, none⟩ = some (.int .i64 D) ∧ w2.cell? ⟨w.heap.size + 1, 1, none⟩ = some (.int .i64 S) from ⟨HX2.out.snd 0, HX2.out.snd 1⟩
        obtain ⟨E1, hE1⟩ : ∃ E, E = sgE M S l [] := ⟨_, rfl⟩
        rw [← hE1] at HXA ⊢
        have HE1 := hid hE1
        obtain ⟨E2, hE2⟩ : ∃ E, E = sgE D S (shL z l) [] := ⟨_, rfl⟩
        have HE2 := hid hE2
        have HZ := hid (show -1000000000 ≤ z ∧ z ≤ 1000000000 from ⟨h2, h3⟩)
        clear p0 p1 hxa hb2 hE1 hE2
        go_wp2_with fail
        refine (signals_any D S _ _ (shL z l) [] _ HOQ2.out (rowQ_nil _) (HRL.out.keep HX2.out.low)).mono ?_
        rintro e w3 ⟨ya, rfl, hya, hb3⟩
        have HYA := hid hya
        have HX3 := hid (HX2.out.keep hb3)
        have HXA3 := hid (HXA.out.keep hb3)
        rw [← HE2.out] at HYA ⊢
        have HB3 := hid HX3.out.low
        clear p2 p3 hya hb3
        by_cases g1 : E1 = 0
        · by_cases g2 : E2 = 0
          · have HSAME := hid (shift_same HZ.out (HE1.out.symm.trans g1))
            subst g1 g2
            have HYA2 : Hid (RowX w3 ya (sgL M S l [] l.length)) := by
              have h := HYA.out
              rw [if_pos rfl] at h
              rw [← HSAME.out]
              have hd : D = wrap64 (M + z) := HD.out
              rw [← hd]
              exact h
            have HXA2 : Hid (RowX w3 xa (sgL M S l [] l.length)) := by
              have h := HXA3.out
              rw [if_pos rfl] at h
              exact h
            go_wp2_with fail
            refine (pairs_any _ _ _ _ _ HXA2.out HYA2.out).mono ?_
            rintro e w4 ⟨rfl, hb4⟩
            have HB4 := hid (bstep HB3.out HB3.out.size hb4)
            have hdt : decide (sgL M S l [] l.length = sgL M S l [] l.length) = true := decide_eq_true rfl
            rw [hdt]
            clear hb4 hdt
            go_wp2_with fail
            refine (kawake_any _).mono ?_
            rintro e w5 ⟨rfl, hb5⟩
            have HB5 := hid (bstep HB4.out HB4.out.size hb5)
            clear hb5
            go_wp2_with fail
            go_ret
            exact ⟨rfl, HB5.out⟩
          · subst g1
            have g2' : (E2 != 0) = true := by simpa using g2
            clear g2
            go_wp2_with fail
            refine (kawake_any _).mono ?_
            rintro e w5 ⟨rfl, hb5⟩
            have HB5 := hid (bstep HB3.out HB3.out.size hb5)
            clear hb5
            go_wp2_with fail
            go_ret
            exact ⟨rfl, HB5.out⟩
        · have g1' : (E1 != 0) = true := by simpa using g1
          clear g1
          go_wp2_with fail
          refine (kawake_any _).mono ?_
          rintro e w5 ⟨rfl, hb5⟩
          have HB5 := hid (bstep HB3.out HB3.out.size hb5)
          clear hb5
          go_wp2_with fail
          go_ret
          exact ⟨rfl, HB5.out⟩
  all_goals
    go_enter Tryd.func3, Tryd.ntmps3
    go_wp2_with (go_at_call 5; refine (kawake_any _).mono ?_; rintro e w2 ⟨rfl, hb⟩; have HB1 := hid (bstep HB0.out HB0.out.size hb); clear hb)
    go_ret
    exact ⟨rfl, HB1.out⟩
end Go.Proofs.YtlhjiikbehmamaaDoor
