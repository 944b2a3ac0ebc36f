/- Walks of the distances of two texts: contracts. -/
import Derived.Test.YtmhkgpcnefcjaaaDoorAb
namespace Go.Proofs.YtmhkgpcnefcjaaaDoor
open Go.RowKit

theorem ix9_at {l : List Int} (hl : l.length = 9) {k : Nat} (hk : k < 9) (w : World) : Sem.run Tryd.prog (Instr.index 66 (.agg (cvs l)) (.int .i64 (k : Int))) w = .ok (.int .i64 (l[k]'(by omega))) w := by
  obtain ⟨a, b, c, d, e, f, g, h, i, rfl⟩ := nine_list hl
  have : k = 0 ∨ k = 1 ∨ k = 2 ∨ k = 3 ∨ k = 4 ∨ k = 5 ∨ k = 6 ∨ k = 7 ∨ k = 8 := by omega
  rcases this with rfl | rfl | rfl | rfl | rfl | rfl | rfl | rfl | rfl
  · exact ix9_0 ..
  · exact ix9_1 ..
  · exact ix9_2 ..
  · exact ix9_3 ..
  · exact ix9_4 ..
  · exact ix9_5 ..
  · exact ix9_6 ..
  · exact ix9_7 ..
  · exact ix9_8 ..
theorem difN_eq {l m : List Int} {k : Nat} (hl : k < l.length) (hm : k < m.length) (h : l[k] = m[k]) : difN l m (k + 1) = difN l m k := difN_yes (by rw [List.getElem?_eq_getElem hl, List.getElem?_eq_getElem hm, h])
theorem difN_ne {l m : List Int} {k : Nat} (hl : k < l.length) (hm : k < m.length) (h : ¬ l[k] = m[k]) : difN l m (k + 1) = difN l m k + 1 := difN_no (by rw [List.getElem?_eq_getElem hl, List.getElem?_eq_getElem hm]; simpa using h)
set_option maxRecDepth 100000 in
set_option maxHeartbeats 4000000 in
theorem distance_any (l m : List Int) (w : World) (hl : l.length = 9) (hm : m.length = 9) :
    Calls Tryd.prog 37 #[.agg (cvs l), .agg (cvs m)] w fun e w' => e = .returned (.int .i64 (dist9 l m)) ∧ Below w.heap.size w w' := by
  have HL := hid hl
  have HM := hid hm
  have HA0 := vb_new w l
  have HA1 := HA0.keep ((Below.refl (w.alloc (.cells (cvs l) 66)).heap.size _).alloc (Nat.le_refl _) (.cells (cvs m) 66))
  have HB := hid HA1.low
  have HA2 := hid (show Vb w ((w.alloc (.cells (cvs l) 66)).alloc (.cells (cvs m) 66)) (w.heap.size + 1) m from
    ⟨by have := heap_alloc_new (w.alloc (.cells (cvs l) 66)) (.cells (cvs m) 66); simpa using this, Nat.le_succ _, HA1.low⟩)
  have HIX := hid (fun (k : Nat) (hk : k < 9) W => ix9_at hl hk W)
  obtain ⟨a, b, c, d, e, f, g, h, i, hl'⟩ := nine_list hl
  obtain ⟨a', b', c', d', e', f', g', h', i', hm'⟩ := nine_list hm
  have hcl : cvs l = #[.int .i64 a, .int .i64 b, .int .i64 c, .int .i64 d, .int .i64 e, .int .i64 f, .int .i64 g, .int .i64 h, .int .i64 i] := by rw [hl']; rfl
  have hcm : cvs m = #[.int .i64 a', .int .i64 b', .int .i64 c', .int .i64 d', .int .i64 e', .int .i64 f', .int .i64 g', .int .i64 h', .int .i64 i'] := by rw [hm']; rfl
  rw [hcl] at HB HA2 HIX ⊢
  rw [hcm] at HB HA2 ⊢
  clear hl' hm' hcl hcm HA0 HA1
  go_enter Tryd.func37, Tryd.ntmps37
  go_wp2_with fail
  generalize World.alloc (World.alloc w _) _ = W1 at *
  go_loop [5, 9] (fun n t => ∃ k : Nat, k ≤ 9 ∧ n = .int .i64 (difN l m k) ∧ t = .int .i64 (k : Int)) (fun _ t => 9 - (intOf t).toNat)
  case atStart => exact ⟨0, by omega, rfl, rfl⟩
  case round =>
    obtain ⟨k, hk, rfl, rfl⟩ := hrel
    by_cases hlt : k < 9
    · have hlt' : (k : Int) < 9 := by omega
      have hc := HA2.out.cell k
      rw [cvs_at _ (show k < m.length by rw [HM.out]; exact hlt)] at hc
      have hix := HIX.out k hlt
      have hbd := difN_bd l m k
      have HLT := hid hlt
      have HY := hid (difN_eq (k := k) (l := l) (m := m) (by rw [HL.out]; exact hlt) (by rw [HM.out]; exact hlt))
      have HN := hid (difN_ne (k := k) (l := l) (m := m) (by rw [HL.out]; exact hlt) (by rw [HM.out]; exact hlt))
      generalize difN l m k = D at *
      generalize l[k]'_ = x at *
      generalize m[k]'_ = y at *
      by_cases hxy : x = y
      · have hD := hid (HY.out hxy)
        subst hxy
        clear hlt
        go_wp2_with fail
        go_round
        case rel => exact ⟨k + 1, HLT.out, by rw [hD.out], by go_num⟩
        case measure => have := HLT.out; simp [intOf]; omega
      · have hD := hid (HN.out hxy)
        have hne : (y != x) = true := by simpa using fun g => hxy g.symm
        have hD9 : D + 1 ≤ 10 := by omega
        clear hlt
        go_wp2_with fail
        go_round
        case rel => exact ⟨k + 1, HLT.out, by rw [hD.out], by go_num⟩
        case measure => have := HLT.out; simp [intOf]; omega
    · obtain rfl : k = 9 := by omega
      go_wp2_with fail
      go_ret
      exact ⟨rfl, HB.out⟩
end Go.Proofs.YtmhkgpcnefcjaaaDoor
