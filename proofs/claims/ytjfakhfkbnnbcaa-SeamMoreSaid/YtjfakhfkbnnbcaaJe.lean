/- Walk of the reference's bad: contract. -/
import Derived.Test.YtjfakhfkbnnbcaaJd
namespace Go.Proofs.Ytjfakhfkbnnbcaa
open Go.RowKit

theorem RowW.most {w : World} {v : Value} {l : List Ck} (h : RowW w v l) : l.length ≤ maxLen := by
  obtain ⟨a, b, o, cap, rfl, h2, h3, h4, h5⟩ := h; omega
theorem RowW.shape {w : World} {v : Value} {l : List Ck} (h : RowW w v l) : ∃ a cap, v = .slice a l.length cap := by
  obtain ⟨a, b, o, cap, rfl, h2, h3, h4, h5⟩ := h; exact ⟨_, _, rfl⟩
theorem RowW.get {w : World} {a : Option Addr} {n c : Nat} {l : List Ck} (h : RowW w (.slice a n c) l) (hk : 0 < l.length) : ∃ b o, a = some ⟨b, o, none⟩ ∧ ∀ k (h : k < l.length), w.cell? ⟨b, o + k * 2, none⟩ = some (.int .i64 l[k].tk) ∧ w.cell? ⟨b, o + k * 2 + 1, none⟩ = some (.bool l[k].gd) := by
  obtain ⟨a', b, o, cap, hv, h2, h3, h4, h5⟩ := h
  injection hv with e1 e2 e3
  subst e1
  rcases h4 with rfl | rfl
  · simp at hk
  · exact ⟨b, o, rfl, h5⟩
theorem bd_put {F : List Ck} {b E : Int} {i : Nat} {fr tv : Int} (hf : bdF F b E i = fr) (ht : bdT F E i = tv) (hs : bdS F i = false) (hlt : fr < tv) : bdO F b E (i + 1) = bdO F b E i ++ [⟨fr, tv⟩] ∧ bdF F b E (i + 1) = tv := by
  refine ⟨?_, ?_⟩
  · simp only [bdO, hf, ht, hs]
    rw [if_pos (by simp; omega)]
  · simp only [bdF, hf, ht]; omega
theorem bd_safe {F : List Ck} {b E : Int} {i : Nat} {fr tv : Int} (hf : bdF F b E i = fr) (ht : bdT F E i = tv) (hs : bdS F i = true) (hlt : fr < tv) : bdO F b E (i + 1) = bdO F b E i ∧ bdF F b E (i + 1) = tv := by
  refine ⟨?_, ?_⟩
  · simp only [bdO, hs]; simp
  · simp only [bdF, hf, ht]; omega
theorem bd_skip {F : List Ck} {b E : Int} {i : Nat} {fr tv : Int} (hf : bdF F b E i = fr) (ht : bdT F E i = tv) (hlt : ¬ fr < tv) : bdO F b E (i + 1) = bdO F b E i ∧ bdF F b E (i + 1) = fr := by
  refine ⟨?_, ?_⟩
  · simp only [bdO, hf, ht]
    rw [if_neg (by simp; omega)]; simp
  · simp only [bdF, hf, ht]; omega
theorem bdT_lt {F : List Ck} {E : Int} {i : Nat} (h : i < F.length) : bdT F E i = min F[i].tk E := by
  unfold bdT; rw [if_pos h]; simp [List.getD, h]
theorem bdT_end {F : List Ck} {E : Int} {i : Nat} (h : i = F.length) : bdT F E i = E := by
  unfold bdT; rw [if_neg (by omega)]; omega
theorem bdS_zero (F : List Ck) : bdS F 0 = false := by simp [bdS]
theorem bdS_end {F : List Ck} {i : Nat} (h : i = F.length) : bdS F i = false := by simp [bdS, h]
theorem bdS_mid {F : List Ck} {j : Nat} (h : j + 1 < F.length) : bdS F (j + 1) = ((F[j]'(by omega)).gd && F[j + 1].gd) := by
  have e1 : decide (0 < j + 1) = true := decide_eq_true (by omega)
  have e2 : decide (j + 1 < F.length) = true := decide_eq_true h
  have e3 : F.getD (j + 1) (ckLong 0) = F[j + 1] := by simp [List.getD, h]
  have e4 : F.getD j (ckLong 0) = F[j]'(by omega) := by simp [List.getD]; rw [List.getElem?_eq_getElem (by omega)]; rfl
  unfold bdS
  rw [e1, e2, e3, Nat.add_sub_cancel, e4]
  simp
set_option maxRecDepth 20000 in
set_option maxHeartbeats 32000000 in
theorem bad_any (F : List Ck) (v : Value) (b E : Int) (w : World) (hr : RowW w v F) (hF : F.length ≤ 500) : Calls Try.prog 37 #[v, .int .i64 b, .int .i64 E] w (UniP (bdO F b E (F.length + 1)) w) := by
  obtain ⟨i0, hi, hz0, hz1, hz2⟩ := infoX_parts
  have HR := hid (fun w1 (g : Below w.heap.size w w1) => hr.keep g)
  obtain ⟨va, vc, rfl⟩ := hr.shape
  obtain ⟨n, hn⟩ : ∃ n, n = F.length := ⟨_, rfl⟩
  have HN := hid hn
  have hn5 : n ≤ 500 := by omega
  rw [← hn] at HR ⊢
  clear hr hn hF
  go_enter Try.func37, Try.ntmps37
  go_wp2
  go_loopw [7, 8, 9] (fun a f t wr => ∃ i : Nat, i ≤ n + 1 ∧ t = .int .i64 (i : Int) ∧ ∃ fr : Int, f = .int .i64 fr ∧ Hid (bdF F b E i = fr) ∧ Hid (OwnX wr w.heap.size 68 a (bdO F b E i)) ∧ Hid (Below w.heap.size w wr)) (fun _ _ t _ => n + 1 - (intOf t).toNat)
  case atStart => exact ⟨0, Nat.zero_le _, rfl, b, rfl, rfl, ownX_nil _ _ _, Below.refl _ _⟩
  case round =>
    obtain ⟨i, hle, rfl, fr, rfl, hfr, hO, hB⟩ := hrel
    have HLN := hid (show (bdO F b E i).length ≤ 501 by have := bdO_len F b E i; omega)
    have HLE := hid hle
    rcases Nat.lt_trichotomy i n with hlt | heq | hgt
    · have hil : i < F.length := by rw [← HN.out]; exact hlt
      obtain ⟨bb, o, hva, hat⟩ := (HR.out _ hB.out).get (by omega)
      subst hva
      obtain ⟨c0, c1⟩ := hat i hil
      have HTT := hid (bdT_lt (E := E) hil)
      rcases i with _ | j
      · have HS := hid (bdS_zero F)
        have hlt' : (0 : Int) < n := by omega
        have hlt2 : 0 < n := hlt
        generalize F[0] = x at *
        obtain ⟨xt, xh, xg⟩ := x
        simp only [Nat.zero_mul, Nat.add_zero] at c0 c1 HTT
        clear hil hat hlt hle c1
        by_cases hq : E < xt
        · by_cases hw0 : fr < E
          · have hz := bd_put hfr.out (HTT.out.trans (by omega)) (by rw [HS.out]) hw0
            have HZ1 := hid hz.1
            have HZ2 := hid hz.2
            have HN2 := hid HLN.out
            clear hz
            generalize bdO F b E 0 = lo at *
            obtain ⟨ox, oc, rfl⟩ := ownX_shape hO.out
            have HOQ := hid (show wr.ownsRow w.heap.size 68 2 (.slice ox lo.length oc) lo.length (pvs lo) from hO.out)
            go_wp2_with (at_builtin; refine wpList_append_own _ rfl _ _ 28 rfl w.heap.size 68 i0 (.agg #[.int .i64 0, .int .i64 0]) 2 16 Try.underlying28 hi hz0 hz1 hz2 rfl (by decide) _ _ _ rfl (World.ownsRow.alloc HOQ.out _) ⟨wr.heap.size, 0, none⟩ 1 1 [.int .i64 fr, .int .i64 E] rfl rfl (cell_two_new (by simp)) two_cell1 (by have := HN2.out; unfold maxLen; omega) (by have := HN2.out; omega) (by have := hB.out.size; simp at this ⊢; omega) ?_; intro v1 w5 hown5 hgrow5 _; have HB5 := hid (below_prs hB.out (show OwnX _ _ _ _ lo from HOQ.out) (Nat.le_refl _) hgrow5); have HR5 := hid (OwnX.app (l := lo) (d := ⟨fr, E⟩) hown5); clear hown5 hgrow5)
            go_roundw
            case rel => exact ⟨0 + 1, by have := HLE.out; omega, by go_num, E, rfl, HZ2.out, (by rw [HZ1.out]; exact HR5), HB5⟩
            case measure => have := HLE.out; simp [intOf] <;> omega
          · have hz := bd_skip hfr.out (HTT.out.trans (by omega)) hw0
            have HZ1 := hid hz.1
            have HZ2 := hid hz.2
            clear hz
            go_wp2
            go_roundw
            case rel => exact ⟨0 + 1, by have := HLE.out; omega, by go_num, fr, rfl, HZ2.out, (by rw [HZ1.out]; exact hO), hB⟩
            case measure => have := HLE.out; simp [intOf] <;> omega
        · by_cases hw0 : fr < xt
          · have hz := bd_put hfr.out (HTT.out.trans (by omega)) (by rw [HS.out]) hw0
            have HZ1 := hid hz.1
            have HZ2 := hid hz.2
            have HN2 := hid HLN.out
            clear hz
            generalize bdO F b E 0 = lo at *
            obtain ⟨ox, oc, rfl⟩ := ownX_shape hO.out
            have HOQ := hid (show wr.ownsRow w.heap.size 68 2 (.slice ox lo.length oc) lo.length (pvs lo) from hO.out)
            go_wp2_with (at_builtin; refine wpList_append_own _ rfl _ _ 28 rfl w.heap.size 68 i0 (.agg #[.int .i64 0, .int .i64 0]) 2 16 Try.underlying28 hi hz0 hz1 hz2 rfl (by decide) _ _ _ rfl (World.ownsRow.alloc HOQ.out _) ⟨wr.heap.size, 0, none⟩ 1 1 [.int .i64 fr, .int .i64 xt] rfl rfl (cell_two_new (by simp)) two_cell1 (by have := HN2.out; unfold maxLen; omega) (by have := HN2.out; omega) (by have := hB.out.size; simp at this ⊢; omega) ?_; intro v1 w5 hown5 hgrow5 _; have HB5 := hid (below_prs hB.out (show OwnX _ _ _ _ lo from HOQ.out) (Nat.le_refl _) hgrow5); have HR5 := hid (OwnX.app (l := lo) (d := ⟨fr, xt⟩) hown5); clear hown5 hgrow5)
            go_roundw
            case rel => exact ⟨0 + 1, by have := HLE.out; omega, by go_num, xt, rfl, HZ2.out, (by rw [HZ1.out]; exact HR5), HB5⟩
            case measure => have := HLE.out; simp [intOf] <;> omega
          · have hz := bd_skip hfr.out (HTT.out.trans (by omega)) hw0
            have HZ1 := hid hz.1
            have HZ2 := hid hz.2
            clear hz
            go_wp2
            go_roundw
            case rel => exact ⟨0 + 1, by have := HLE.out; omega, by go_num, fr, rfl, HZ2.out, (by rw [HZ1.out]; exact hO), hB⟩
            case measure => have := HLE.out; simp [intOf] <;> omega
      · have hjl : j < F.length := by omega
        obtain ⟨d0, d1⟩ := hat j hjl
        have HS := hid (bdS_mid hil)
        have hlt' : ((j + 1 : Nat) : Int) < n := by omega
        have hlt2 : (j : Int) + 1 < n := by omega
        have hj1 : (j : Int) < n := by omega
        have hjw : IntKind.i64.wrap ((j : Int) + 1 - 1) = (j : Int) := by rw [IntWalk.i64_in _ ⟨by omega, by omega⟩]; omega
        generalize F[j + 1] = x at *
        generalize F[j] = y at *
        obtain ⟨xt, xh, xg⟩ := x
        obtain ⟨yt, yh, yg⟩ := y
        simp only at c0 c1 d1 HTT HS
        clear hil hat hlt hle hjl d0
        cases yg
        · have HS := hid (show bdS F (j + 1) = false by rw [HS.out]; rfl)
          clear c1
          by_cases hq : E < xt
          · by_cases hw0 : fr < E
            · have hz := bd_put hfr.out (HTT.out.trans (by omega)) (by rw [HS.out]) hw0
              have HZ1 := hid hz.1
              have HZ2 := hid hz.2
              have HN2 := hid HLN.out
              clear hz
              generalize bdO F b E (j + 1) = lo at *
              obtain ⟨ox, oc, rfl⟩ := ownX_shape hO.out
              have HOQ := hid (show wr.ownsRow w.heap.size 68 2 (.slice ox lo.length oc) lo.length (pvs lo) from hO.out)
              go_wp2_with (at_builtin; refine wpList_append_own _ rfl _ _ 28 rfl w.heap.size 68 i0 (.agg #[.int .i64 0, .int .i64 0]) 2 16 Try.underlying28 hi hz0 hz1 hz2 rfl (by decide) _ _ _ rfl (World.ownsRow.alloc HOQ.out _) ⟨wr.heap.size, 0, none⟩ 1 1 [.int .i64 fr, .int .i64 E] rfl rfl (cell_two_new (by simp)) two_cell1 (by have := HN2.out; unfold maxLen; omega) (by have := HN2.out; omega) (by have := hB.out.size; simp at this ⊢; omega) ?_; intro v1 w5 hown5 hgrow5 _; have HB5 := hid (below_prs hB.out (show OwnX _ _ _ _ lo from HOQ.out) (Nat.le_refl _) hgrow5); have HR5 := hid (OwnX.app (l := lo) (d := ⟨fr, E⟩) hown5); clear hown5 hgrow5)
              go_roundw
              case rel => exact ⟨(j + 1) + 1, by have := HLE.out; omega, by go_num, E, rfl, HZ2.out, (by rw [HZ1.out]; exact HR5), HB5⟩
              case measure => have := HLE.out; simp [intOf] <;> omega
            · have hz := bd_skip hfr.out (HTT.out.trans (by omega)) hw0
              have HZ1 := hid hz.1
              have HZ2 := hid hz.2
              clear hz
              go_wp2
              go_roundw
              case rel => exact ⟨(j + 1) + 1, by have := HLE.out; omega, by go_num, fr, rfl, HZ2.out, (by rw [HZ1.out]; exact hO), hB⟩
              case measure => have := HLE.out; simp [intOf] <;> omega
          · by_cases hw0 : fr < xt
            · have hz := bd_put hfr.out (HTT.out.trans (by omega)) (by rw [HS.out]) hw0
              have HZ1 := hid hz.1
              have HZ2 := hid hz.2
              have HN2 := hid HLN.out
              clear hz
              generalize bdO F b E (j + 1) = lo at *
              obtain ⟨ox, oc, rfl⟩ := ownX_shape hO.out
              have HOQ := hid (show wr.ownsRow w.heap.size 68 2 (.slice ox lo.length oc) lo.length (pvs lo) from hO.out)
              go_wp2_with (at_builtin; refine wpList_append_own _ rfl _ _ 28 rfl w.heap.size 68 i0 (.agg #[.int .i64 0, .int .i64 0]) 2 16 Try.underlying28 hi hz0 hz1 hz2 rfl (by decide) _ _ _ rfl (World.ownsRow.alloc HOQ.out _) ⟨wr.heap.size, 0, none⟩ 1 1 [.int .i64 fr, .int .i64 xt] rfl rfl (cell_two_new (by simp)) two_cell1 (by have := HN2.out; unfold maxLen; omega) (by have := HN2.out; omega) (by have := hB.out.size; simp at this ⊢; omega) ?_; intro v1 w5 hown5 hgrow5 _; have HB5 := hid (below_prs hB.out (show OwnX _ _ _ _ lo from HOQ.out) (Nat.le_refl _) hgrow5); have HR5 := hid (OwnX.app (l := lo) (d := ⟨fr, xt⟩) hown5); clear hown5 hgrow5)
              go_roundw
              case rel => exact ⟨(j + 1) + 1, by have := HLE.out; omega, by go_num, xt, rfl, HZ2.out, (by rw [HZ1.out]; exact HR5), HB5⟩
              case measure => have := HLE.out; simp [intOf] <;> omega
            · have hz := bd_skip hfr.out (HTT.out.trans (by omega)) hw0
              have HZ1 := hid hz.1
              have HZ2 := hid hz.2
              clear hz
              go_wp2
              go_roundw
              case rel => exact ⟨(j + 1) + 1, by have := HLE.out; omega, by go_num, fr, rfl, HZ2.out, (by rw [HZ1.out]; exact hO), hB⟩
              case measure => have := HLE.out; simp [intOf] <;> omega
        · cases xg
          · have HS := hid (show bdS F (j + 1) = false by rw [HS.out]; rfl)
            by_cases hq : E < xt
            · by_cases hw0 : fr < E
              · have hz := bd_put hfr.out (HTT.out.trans (by omega)) (by rw [HS.out]) hw0
                have HZ1 := hid hz.1
                have HZ2 := hid hz.2
                have HN2 := hid HLN.out
                clear hz
                generalize bdO F b E (j + 1) = lo at *
                obtain ⟨ox, oc, rfl⟩ := ownX_shape hO.out
                have HOQ := hid (show wr.ownsRow w.heap.size 68 2 (.slice ox lo.length oc) lo.length (pvs lo) from hO.out)
                go_wp2_with (at_builtin; refine wpList_append_own _ rfl _ _ 28 rfl w.heap.size 68 i0 (.agg #[.int .i64 0, .int .i64 0]) 2 16 Try.underlying28 hi hz0 hz1 hz2 rfl (by decide) _ _ _ rfl (World.ownsRow.alloc HOQ.out _) ⟨wr.heap.size, 0, none⟩ 1 1 [.int .i64 fr, .int .i64 E] rfl rfl (cell_two_new (by simp)) two_cell1 (by have := HN2.out; unfold maxLen; omega) (by have := HN2.out; omega) (by have := hB.out.size; simp at this ⊢; omega) ?_; intro v1 w5 hown5 hgrow5 _; have HB5 := hid (below_prs hB.out (show OwnX _ _ _ _ lo from HOQ.out) (Nat.le_refl _) hgrow5); have HR5 := hid (OwnX.app (l := lo) (d := ⟨fr, E⟩) hown5); clear hown5 hgrow5)
                go_roundw
                case rel => exact ⟨(j + 1) + 1, by have := HLE.out; omega, by go_num, E, rfl, HZ2.out, (by rw [HZ1.out]; exact HR5), HB5⟩
                case measure => have := HLE.out; simp [intOf] <;> omega
              · have hz := bd_skip hfr.out (HTT.out.trans (by omega)) hw0
                have HZ1 := hid hz.1
                have HZ2 := hid hz.2
                clear hz
                go_wp2
                go_roundw
                case rel => exact ⟨(j + 1) + 1, by have := HLE.out; omega, by go_num, fr, rfl, HZ2.out, (by rw [HZ1.out]; exact hO), hB⟩
                case measure => have := HLE.out; simp [intOf] <;> omega
            · by_cases hw0 : fr < xt
              · have hz := bd_put hfr.out (HTT.out.trans (by omega)) (by rw [HS.out]) hw0
                have HZ1 := hid hz.1
                have HZ2 := hid hz.2
                have HN2 := hid HLN.out
                clear hz
                generalize bdO F b E (j + 1) = lo at *
                obtain ⟨ox, oc, rfl⟩ := ownX_shape hO.out
                have HOQ := hid (show wr.ownsRow w.heap.size 68 2 (.slice ox lo.length oc) lo.length (pvs lo) from hO.out)
                go_wp2_with (at_builtin; refine wpList_append_own _ rfl _ _ 28 rfl w.heap.size 68 i0 (.agg #[.int .i64 0, .int .i64 0]) 2 16 Try.underlying28 hi hz0 hz1 hz2 rfl (by decide) _ _ _ rfl (World.ownsRow.alloc HOQ.out _) ⟨wr.heap.size, 0, none⟩ 1 1 [.int .i64 fr, .int .i64 xt] rfl rfl (cell_two_new (by simp)) two_cell1 (by have := HN2.out; unfold maxLen; omega) (by have := HN2.out; omega) (by have := hB.out.size; simp at this ⊢; omega) ?_; intro v1 w5 hown5 hgrow5 _; have HB5 := hid (below_prs hB.out (show OwnX _ _ _ _ lo from HOQ.out) (Nat.le_refl _) hgrow5); have HR5 := hid (OwnX.app (l := lo) (d := ⟨fr, xt⟩) hown5); clear hown5 hgrow5)
                go_roundw
                case rel => exact ⟨(j + 1) + 1, by have := HLE.out; omega, by go_num, xt, rfl, HZ2.out, (by rw [HZ1.out]; exact HR5), HB5⟩
                case measure => have := HLE.out; simp [intOf] <;> omega
              · have hz := bd_skip hfr.out (HTT.out.trans (by omega)) hw0
                have HZ1 := hid hz.1
                have HZ2 := hid hz.2
                clear hz
                go_wp2
                go_roundw
                case rel => exact ⟨(j + 1) + 1, by have := HLE.out; omega, by go_num, fr, rfl, HZ2.out, (by rw [HZ1.out]; exact hO), hB⟩
                case measure => have := HLE.out; simp [intOf] <;> omega
          · have HS := hid (show bdS F (j + 1) = true by rw [HS.out]; rfl)
            by_cases hq : E < xt
            · by_cases hw0 : fr < E
              · have hz := bd_safe hfr.out (HTT.out.trans (by omega)) (by rw [HS.out]) hw0
                have HZ1 := hid hz.1
                have HZ2 := hid hz.2
                clear hz
                go_wp2
                go_roundw
                case rel => exact ⟨(j + 1) + 1, by have := HLE.out; omega, by go_num, E, rfl, HZ2.out, (by rw [HZ1.out]; exact hO), hB⟩
                case measure => have := HLE.out; simp [intOf] <;> omega
              · have hz := bd_skip hfr.out (HTT.out.trans (by omega)) hw0
                have HZ1 := hid hz.1
                have HZ2 := hid hz.2
                clear hz
                go_wp2
                go_roundw
                case rel => exact ⟨(j + 1) + 1, by have := HLE.out; omega, by go_num, fr, rfl, HZ2.out, (by rw [HZ1.out]; exact hO), hB⟩
                case measure => have := HLE.out; simp [intOf] <;> omega
            · by_cases hw0 : fr < xt
              · have hz := bd_safe hfr.out (HTT.out.trans (by omega)) (by rw [HS.out]) hw0
                have HZ1 := hid hz.1
                have HZ2 := hid hz.2
                clear hz
                go_wp2
                go_roundw
                case rel => exact ⟨(j + 1) + 1, by have := HLE.out; omega, by go_num, xt, rfl, HZ2.out, (by rw [HZ1.out]; exact hO), hB⟩
                case measure => have := HLE.out; simp [intOf] <;> omega
              · have hz := bd_skip hfr.out (HTT.out.trans (by omega)) hw0
                have HZ1 := hid hz.1
                have HZ2 := hid hz.2
                clear hz
                go_wp2
                go_roundw
                case rel => exact ⟨(j + 1) + 1, by have := HLE.out; omega, by go_num, fr, rfl, HZ2.out, (by rw [HZ1.out]; exact hO), hB⟩
                case measure => have := HLE.out; simp [intOf] <;> omega
    · have HTT := hid (bdT_end (E := E) (heq.trans HN.out))
      have HS := hid (bdS_end (heq.trans HN.out))
      subst heq
      clear hle
      have hii : ¬ (i : Int) < i := by omega
      rcases i with _ | j
      · by_cases hw0 : fr < E
        · have hz := bd_put hfr.out (HTT.out) (by rw [HS.out]) hw0
          have HZ1 := hid hz.1
          have HZ2 := hid hz.2
          have HN2 := hid HLN.out
          clear hz
          generalize bdO F b E 0 = lo at *
          obtain ⟨ox, oc, rfl⟩ := ownX_shape hO.out
          have HOQ := hid (show wr.ownsRow w.heap.size 68 2 (.slice ox lo.length oc) lo.length (pvs lo) from hO.out)
          go_wp2_with (at_builtin; refine wpList_append_own _ rfl _ _ 28 rfl w.heap.size 68 i0 (.agg #[.int .i64 0, .int .i64 0]) 2 16 Try.underlying28 hi hz0 hz1 hz2 rfl (by decide) _ _ _ rfl (World.ownsRow.alloc HOQ.out _) ⟨wr.heap.size, 0, none⟩ 1 1 [.int .i64 fr, .int .i64 E] rfl rfl (cell_two_new (by simp)) two_cell1 (by have := HN2.out; unfold maxLen; omega) (by have := HN2.out; omega) (by have := hB.out.size; simp at this ⊢; omega) ?_; intro v1 w5 hown5 hgrow5 _; have HB5 := hid (below_prs hB.out (show OwnX _ _ _ _ lo from HOQ.out) (Nat.le_refl _) hgrow5); have HR5 := hid (OwnX.app (l := lo) (d := ⟨fr, E⟩) hown5); clear hown5 hgrow5)
          go_roundw
          case rel => exact ⟨0 + 1, by have := HLE.out; omega, by go_num, E, rfl, HZ2.out, (by rw [HZ1.out]; exact HR5), HB5⟩
          case measure => have := HLE.out; simp [intOf] <;> omega
        · have hz := bd_skip hfr.out (HTT.out) hw0
          have HZ1 := hid hz.1
          have HZ2 := hid hz.2
          clear hz
          go_wp2
          go_roundw
          case rel => exact ⟨0 + 1, by have := HLE.out; omega, by go_num, fr, rfl, HZ2.out, (by rw [HZ1.out]; exact hO), hB⟩
          case measure => have := HLE.out; simp [intOf] <;> omega
      · have hj0 : (0 : Int) < (j : Int) + 1 := by omega
        by_cases hw0 : fr < E
        · have hz := bd_put hfr.out (HTT.out) (by rw [HS.out]) hw0
          have HZ1 := hid hz.1
          have HZ2 := hid hz.2
          have HN2 := hid HLN.out
          clear hz
          generalize bdO F b E (j + 1) = lo at *
          obtain ⟨ox, oc, rfl⟩ := ownX_shape hO.out
          have HOQ := hid (show wr.ownsRow w.heap.size 68 2 (.slice ox lo.length oc) lo.length (pvs lo) from hO.out)
          go_wp2_with (at_builtin; refine wpList_append_own _ rfl _ _ 28 rfl w.heap.size 68 i0 (.agg #[.int .i64 0, .int .i64 0]) 2 16 Try.underlying28 hi hz0 hz1 hz2 rfl (by decide) _ _ _ rfl (World.ownsRow.alloc HOQ.out _) ⟨wr.heap.size, 0, none⟩ 1 1 [.int .i64 fr, .int .i64 E] rfl rfl (cell_two_new (by simp)) two_cell1 (by have := HN2.out; unfold maxLen; omega) (by have := HN2.out; omega) (by have := hB.out.size; simp at this ⊢; omega) ?_; intro v1 w5 hown5 hgrow5 _; have HB5 := hid (below_prs hB.out (show OwnX _ _ _ _ lo from HOQ.out) (Nat.le_refl _) hgrow5); have HR5 := hid (OwnX.app (l := lo) (d := ⟨fr, E⟩) hown5); clear hown5 hgrow5)
          go_roundw
          case rel => exact ⟨(j + 1) + 1, by have := HLE.out; omega, by go_num, E, rfl, HZ2.out, (by rw [HZ1.out]; exact HR5), HB5⟩
          case measure => have := HLE.out; simp [intOf] <;> omega
        · have hz := bd_skip hfr.out (HTT.out) hw0
          have HZ1 := hid hz.1
          have HZ2 := hid hz.2
          clear hz
          go_wp2
          go_roundw
          case rel => exact ⟨(j + 1) + 1, by have := HLE.out; omega, by go_num, fr, rfl, HZ2.out, (by rw [HZ1.out]; exact hO), hB⟩
          case measure => have := HLE.out; simp [intOf] <;> omega
    · obtain rfl : i = n + 1 := by omega
      have hgt' : (n : Int) < (n : Int) + 1 := by omega
      have HL2 := hid hO.out.row
      clear hgt
      go_wp2_with fail
      refine (xunion_any _ _ wr HL2.out (by have := HLN.out; omega)).mono ?_
      rintro e w9 ⟨u, m, rfl, hm, hown, hb⟩
      have HM := hid hm
      have HO9 := hid (OwnX.low hown hB.out.size)
      have HB9 := hid (bstep hB.out hB.out.size hb)
      obtain ⟨ua, uc, rfl⟩ := ownX_shape hown
      clear hm hown hb
      go_wp2_with fail
      go_ret
      exact ⟨_, m, rfl, HM.out, HO9.out, HB9.out⟩
end Go.Proofs.Ytjfakhfkbnnbcaa
