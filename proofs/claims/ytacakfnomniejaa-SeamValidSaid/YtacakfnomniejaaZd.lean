/- Walk of the reference's Heads: contract. -/
import Derived.Test.YtacakfnomniejaaZc
namespace Go.Proofs.Ytacakfnomniejaa
open Go.RowKit

set_option maxRecDepth 20000 in
set_option maxHeartbeats 8000000 in
theorem kxheads_any (v : Value) (l : List Sh) (w : World) (hr : RowH w v l) : Calls Try.prog 18 #[v] w (HdsP l w) := by
  obtain ⟨i0, hi, hz0, hz1, hz2⟩ := infoJ
  have HR := hid (fun w1 (g : Below w.heap.size w w1) => hr.keep g)
  have hm := hr.most
  unfold maxLen at hm
  clear hr
  cases hs : shsB l
  · have HS := hid hs
    have HE := hid (show hdsB l = [] by unfold hdsB; rw [hs]; rfl)
    have HC := hid (fun w1 (g : Below w.heap.size w w1) => kxsheets_any v l w1 (HR.out _ g))
    rw [hs] at HC
    clear hs
    go_enter Try.func18, Try.ntmps18
    go_wp2
    go_loopw [3, 4] (fun a t wr => t = .int .i64 1 ∧ a = .slice none 0 0 ∧ Hid (Below w.heap.size w wr)) (fun _ _ _ => 0)
    case atStart => exact ⟨rfl, rfl, Below.refl _ _⟩
    case round =>
      obtain ⟨rfl, rfl, hB⟩ := hrel
      go_wp2_with fail
      refine (HC.out _ hB.out).mono ?_
      rintro e w2 ⟨rfl, hb⟩
      have HB := hid (bstep hB.out hB.out.size hb)
      clear hb
      go_wp2_with fail
      go_ret
      exact ⟨_, rfl, by rw [HE.out]; exact ownJ_nil _ _, HB.out⟩
  have HE := hid (show hdsB l = hdsN l 12 by unfold hdsB; rw [hs]; rfl)
  have HC := hid (fun w1 (g : Below w.heap.size w w1) => kxsheets_any v l w1 (HR.out _ g))
  rw [hs] at HC
  clear hs
  obtain ⟨va, vc, rfl⟩ := (HR.out _ (Below.refl _ _)).shape
  obtain ⟨n, hn⟩ : ∃ n, n = l.length := ⟨_, rfl⟩
  have HN := hid hn
  rw [← hn] at hm HR HC ⊢
  clear hn
  go_enter Try.func18, Try.ntmps18
  go_wp2
  go_loopw [3, 4] (fun a t wr => ∃ k : Nat, k ≤ 12 ∧ t = .int .i64 ((k : Int) + 1) ∧ Hid (OwnJ wr w.heap.size a (hdsN l k)) ∧ Hid (Below w.heap.size w wr)) (fun _ t _ => 13 - (intOf t).toNat)
  case atStart => exact ⟨0, by omega, rfl, ownJ_nil _ _, Below.refl _ _⟩
  case round =>
    obtain ⟨k, hk, rfl, hO, hB⟩ := hrel
    obtain ⟨oa, oc, rfl⟩ := ownJ_shape hO.out
    have HLN := hid (hdsN_len l k)
    by_cases hlt : k < 12
    · have hlt' : (k : Int) + 1 ≤ 12 := by omega
      have hw2 : IntKind.i64.wrap ((k : Int) + 1 + 1) = (k : Int) + 1 + 1 := IntWalk.i64_in _ ⟨by omega, by omega⟩
      have HLT := hid hlt
      clear hlt
      have HCC := hid (HC.out _ hB.out)
      go_wp2_with fail
      refine HCC.out.mono ?_
      rintro e w2 ⟨rfl, hb⟩
      have HB2 := hid (bstep hB.out hB.out.size hb)
      have HO2 : Hid (w2.ownsRow w.heap.size 3 1 (.slice oa (hdsN l k).length oc) (hdsN l k).length ((hdsN l k).map (Value.int .i64))) := by
        have h := hO.out
        refine ⟨h.1, ?_⟩
        rcases h.2 with h2 | ⟨g, cap, cur, h1, h2, h3, h4⟩
        · exact .inl h2
        · exact .inr ⟨g, cap, cur, h1, h2, (hb.block g (Array.getElem?_eq_some_iff.1 h3).1).trans h3, h4⟩
      have HY := hid (fun h => hdsN_yes (l := l) (n := k) h)
      have HO := hid (fun h => hdsN_no (l := l) (n := k) h)
      clear hb HCC
      obtain ⟨h, hh⟩ : ∃ h : Int, h = (k : Int) + 1 := ⟨_, rfl⟩
      generalize hdsN l k = lo at *
      go_wp2
      go_loopw [3, 5] (fun a t wr => ∃ j : Nat, j ≤ n ∧ t = .int .i64 (j : Int) ∧ a = .slice oa lo.length oc ∧ Hid (hasH (l.take j) ((k : Int) + 1) = false) ∧ Hid (wr.ownsRow w.heap.size 3 1 (.slice oa lo.length oc) lo.length (lo.map (Value.int .i64))) ∧ Hid (Below w.heap.size w wr)) (fun _ t _ => n - (intOf t).toNat)
      case atStart => exact ⟨0, Nat.zero_le _, rfl, rfl, rfl, HO2, HB2⟩
      case round =>
        clear HO2 HB2
        obtain ⟨j, hj, rfl, rfl, hno, HO2, HB2⟩ := hrel
        by_cases hlt : j < n
        · have hlt2 : (j : Int) < n := by omega
          have hjl : j < l.length := by rw [← HN.out]; exact hlt
          obtain ⟨b, o, hva, hat⟩ := (HR.out _ HB2.out).get (by omega)
          subst hva
          have hx := (hat j hjl).2.1
          have HYES := hid (fun g => hasH_at (h := (k : Int) + 1) hjl g)
          have HT := hid (hasH_take (h := (k : Int) + 1) hjl)
          generalize l[j].hd = z at *
          have HJT := hid hlt
          clear hlt hjl hat
          by_cases hz : z = (k : Int) + 1
          · have HEE := hid (HY.out (HYES.out hz))
            subst hz
            go_wp2_with (at_builtin; refine wpList_append_own _ rfl _ _ 32 rfl w.heap.size 3 i0 (.int .i64 0) 1 8 Try.underlying32 hi hz0 hz1 hz2 rfl (by decide) _ _ _ rfl (World.ownsRow.alloc HO2.out _) ⟨wr.heap.size, 0, none⟩ 1 1 [.int .i64 ((k : Int) + 1)] rfl rfl (cellJ rfl) oneJ (by have := HLN.out; unfold maxLen; omega) (by have := HLN.out; omega) (by have := HB2.out.size; simp; omega) ?_; intro v1 w3 hown3 hgrow3 _; have HB3 := hid (belowJ HB2.out (show OwnJ _ _ _ lo from HO2.out) (Nat.le_refl _) hgrow3); have HR3 := hid (OwnJ.app (l := lo) hown3); clear hown3 hgrow3)
            go_roundw
            case rel => exact ⟨k + 1, HLT.out, by go_num, by rw [HEE.out]; exact HR3, HB3⟩
            case measure => have := HLT.out; simp [intOf]; omega
          · have HEE : Hid (hasH (l.take (j + 1)) ((k : Int) + 1) = false) := by
              show hasH _ _ = false
              rw [HT.out, hno.out, decide_eq_false hz]; rfl
            have hz' : (z == (k : Int) + 1) = false := by simpa using hz
            clear hz
            go_wp2
            go_roundw
            case rel => exact ⟨j + 1, HJT.out, by go_num, rfl, HEE, HO2, HB2⟩
            case measure => have := HJT.out; simp [intOf]; omega
        · obtain rfl : j = n := by omega
          have HEE := hid (HO.out (by have h := hno.out; rw [HN.out, List.take_length] at h; exact h))
          go_wp2
          go_roundw
          case rel => exact ⟨k + 1, HLT.out, by go_num, by rw [HEE.out]; exact HO2, HB2⟩
          case measure => have := HLT.out; simp [intOf]; omega
    · obtain rfl : k = 12 := by omega
      go_wp2
      go_ret
      exact ⟨_, rfl, by rw [HE.out]; exact hO.out, hB.out⟩
end Go.Proofs.Ytacakfnomniejaa
