/- Walk of Shifted: contract. -/
import Derived.Test.YtpkcnojcklmhmaaHv
import Derived.Test.YtpkcnojcklmhmaaGb
import Derived.Laws.OwnMore
namespace Go.Proofs.Ytpkcnojcklmhmaa
open Go.RowKit

/-- What Shifted hands back: a body and an error. -/
def shiftO (r l a b k a2 b2 : Int) (x : Bd) (s : Int) : Bd × Int :=
  if bothB r l a b k a2 b2 x.1 x.2 = false then (([], false), 1) else if (decide (-250000 ≤ s) && decide (s ≤ 250000)) = false then (([], false), 7)
  else if okL (x.1.map (· + s)) = false then (([], false), 7) else ((x.1.map (· + s), x.2), 0)
theorem shiftO_can {r l a b k a2 b2 : Int} {x : Bd} {s : Int} (h : bothB r l a b k a2 b2 x.1 x.2 = false) : shiftO r l a b k a2 b2 x s = (([], false), 1) := by unfold shiftO; rw [if_pos h]
theorem shiftO_far {r l a b k a2 b2 : Int} {x : Bd} {s : Int} (h : bothB r l a b k a2 b2 x.1 x.2 = true) (g : (decide (-250000 ≤ s) && decide (s ≤ 250000)) = false) : shiftO r l a b k a2 b2 x s = (([], false), 7) := by unfold shiftO; rw [if_neg (by rw [h]; simp), if_pos g]
theorem shiftO_bad {r l a b k a2 b2 : Int} {x : Bd} {s : Int} (h : bothB r l a b k a2 b2 x.1 x.2 = true) (g : (decide (-250000 ≤ s) && decide (s ≤ 250000)) = true) (h2 : okL (x.1.map (· + s)) = false) : shiftO r l a b k a2 b2 x s = (([], false), 7) := by unfold shiftO; rw [if_neg (by rw [h]; simp), if_neg (by rw [g]; simp), if_pos h2]
theorem shiftO_ok {r l a b k a2 b2 : Int} {x : Bd} {s : Int} (h : bothB r l a b k a2 b2 x.1 x.2 = true) (g : (decide (-250000 ≤ s) && decide (s ≤ 250000)) = true) (h2 : okL (x.1.map (· + s)) = true) : shiftO r l a b k a2 b2 x s = ((x.1.map (· + s), x.2), 0) := by unfold shiftO; rw [if_neg (by rw [h]; simp), if_neg (by rw [g]; simp), if_neg (by rw [h2]; simp)]

/-- A row of ints that the call made. -/
def CloneP (w : World) (l : List Int) (e : Ending) (w' : World) : Prop := ∃ (g cap : Nat), e = .returned (.slice (some ⟨g, 0, none⟩) l.length cap) ∧ w'.ownsRow w.heap.size 3 1 (.slice (some ⟨g, 0, none⟩) l.length cap) (ivs l).length (ivs l) ∧ Below w.heap.size w w'
set_option maxRecDepth 100000 in
set_option maxHeartbeats 1000000 in
theorem clone_yes (w : World) (v : Value) (l : List Int) (hl : RowI w v l) (h0 : 0 < l.length) (hm : l.length ≤ 1000000) : Calls Try.prog 71 #[v] w (CloneP w l) := by
  obtain ⟨b, o, cap, rfl, hc⟩ := hl.some h0
  have HS := hid (RowI.src (hl.keep ((Below.refl _ w).alloc (Nat.le_refl _) (.cells #[] 3))))
  obtain ⟨i0, hi, hz0, hz1', hz2'⟩ := info_parts infoIf
  have H0 := hid h0
  clear hl hc h0
  have hnil := Go.Lib.run_eql_slice_nil (P := Try.prog) w 24 3 (some ⟨b, o, none⟩) l.length cap 0 0 Try.underlying24
  go_enter Try.func71, Try.ntmps71
  go_wp2_with (first
    | (refine wpList_app rfl (.tmp 5) (.tmp 6) 24 rfl w.heap.size 3 i0 Try.underlying24 hi hz0 hz1' hz2' _ [] rfl (own_new rfl (Nat.le_refl _)) _ l rfl HS.out (by simp; omega) (by simp) ?_; intro v3 w6 hA1; have HB6 := hid (app_low ((Below.refl _ w).alloc (Nat.le_refl _) _) (own_new rfl (Nat.le_refl _)) (Nat.le_refl _) hA1); have HO6 := hid (app_first hA1); clear hA1))
  go_ret
  have ho := HO6.out
  rcases ho.2 with ⟨_, h1⟩ | ⟨g, cap', cur, rfl, _⟩
  · rw [ivs_len] at h1; have := H0.out; omega
  · rw [ivs_len] at ho ⊢
    exact ⟨g, cap', rfl, by rw [ivs_len]; exact ho, HB6.out⟩

/-- The temperatures when n have been shifted. -/
def midS (T : List Int) (s : Int) (n : Nat) : List Int := (T.take n).map (· + s) ++ T.drop n
theorem midS_zero (T : List Int) (s : Int) : midS T s 0 = T := by simp [midS]
theorem midS_all (T : List Int) (s : Int) : midS T s T.length = T.map (· + s) := by simp [midS]
theorem midS_len (T : List Int) (s : Int) (n : Nat) : (midS T s n).length = T.length := by simp [midS]; omega
theorem midS_at {T : List Int} {s : Int} {n : Nat} (h : n < T.length) : (midS T s n)[n]? = some T[n] := by
  unfold midS
  rw [List.getElem?_append_right (by simp; omega)]
  simp [show n - min n T.length = 0 by omega, h]
theorem midS_set {T : List Int} {s : Int} {n : Nat} (h : n < T.length) : (midS T s n).set n (T[n] + s) = midS T s (n + 1) := by
  have e : T.drop n = T[n] :: T.drop (n + 1) := List.drop_eq_getElem_cons h
  have e2 : T.take (n + 1) = T.take n ++ [T[n]] := by rw [List.take_add_one, List.getElem?_eq_getElem h]; rfl
  unfold midS
  rw [e, e2, List.set_append_right _ _ (by simp; omega), List.length_map, List.length_take, show n - min n T.length = 0 by omega, List.set_cons_zero, List.map_append, List.append_assoc]
  rfl
theorem ivs_set (l : List Int) (n : Nat) (x : Int) : (ivs l).set n (.int .i64 x) = ivs (l.set n x) := by simp [ivs, List.map_set]
theorem ivs_at {l : List Int} {n : Nat} {x : Int} (h : l[n]? = some x) : (ivs l)[n]? = some (.int .i64 x) := by simp [ivs, h]
theorem R3.other {w W : World} {A B R : Array Value} {g j : Nat} {u : Value} (h : R3 w W A B R) (hg : w.heap.size + 1 + 1 < g) : R3 w (W.setCell ⟨g, j, none⟩ u) A B R :=
  ⟨(heap_setCell_other _ _ _ _ (show w.heap.size ≠ g by omega)).trans h.can, (heap_setCell_other _ _ _ _ (show w.heap.size + 1 ≠ g by omega)).trans h.bod, (heap_setCell_other _ _ _ _ (show w.heap.size + 1 + 1 ≠ g by omega)).trans h.res, h.low.setCell (p := ⟨g, j, none⟩) (by show w.heap.size ≤ g; omega) u⟩
theorem R3.nil {w W : World} {A B : Array Value} {u v : Value} (h : R3 w W A B #[.slice none 0 0, .bool false]) : ((W.setCell ⟨w.heap.size + 1 + 1, 0, none⟩ u).setCell ⟨w.heap.size + 1 + 1, 1, none⟩ v).cell? ⟨w.heap.size + 1 + 1, 0, none⟩ = some u ∧ ((W.setCell ⟨w.heap.size + 1 + 1, 0, none⟩ u).setCell ⟨w.heap.size + 1 + 1, 1, none⟩ v).cell? ⟨w.heap.size + 1 + 1, 1, none⟩ = some v ∧ Below w.heap.size w ((W.setCell ⟨w.heap.size + 1 + 1, 0, none⟩ u).setCell ⟨w.heap.size + 1 + 1, 1, none⟩ v) := by
  obtain ⟨c6, c7, _, c9⟩ := res_set (u := u) (v := v) h
  exact ⟨c6, c7, c9⟩

theorem rowI_far {W : World} {l : List Int} {g n cap m i j : Nat} {u v : Value} (h : RowI W (.slice (some ⟨g, 0, none⟩) n cap) l) (hne : g ≠ m) : RowI ((W.setCell ⟨m, i, none⟩ u).setCell ⟨m, j, none⟩ v) (.slice (some ⟨g, 0, none⟩) n cap) l := by
  rcases h with h | ⟨b, o, c, hz, hm, hc⟩
  · exact .inl h
  · cases hz
    refine .inr ⟨g, 0, cap, rfl, hm, fun k hk => ?_⟩
    rw [← hc k hk]
    exact World.cell?_of_block (a := ⟨g, 0 + k, none⟩) (by rw [heap_setCell_other _ _ _ _ hne, heap_setCell_other _ _ _ _ hne])
set_option maxRecDepth 20000 in
set_option maxHeartbeats 2000000 in
theorem shifted_all (r l a b k a2 b2 : Int) (w : World) (v : Value) (T : List Int) (br : Bool) (s : Int) (hl : RowI w v T) :
    Calls Try.prog 33 #[.agg #[.int .i64 r, .int .i64 l, .int .i64 a, .int .i64 b, .int .i64 k, .int .i64 a2, .int .i64 b2], .agg #[v, .bool br], .int .i64 s] w (OutB (shiftO r l a b k a2 b2 (T, br) s) w) := by
  have HL := hid (fun w1 (g : Below w.heap.size w w1) => hl.keep g)
  obtain ⟨a0, cap, rfl⟩ := hl.shape
  have HS := hid (r3_start (w := w) (A := #[.int .i64 r, .int .i64 l, .int .i64 a, .int .i64 b, .int .i64 k, .int .i64 a2, .int .i64 b2]) (B := #[.slice a0 T.length cap, .bool br]) (R := #[.slice none 0 0, .bool false]))
  clear hl
  cases hbb : bothB r l a b k a2 b2 T br
  · rw [shiftO_can hbb]
    go_enter Try.func33, Try.ntmps33
    go_wp2_with fail
    refine (vboth_any _ _ _ _ _ _ _ _ _ T _ (HL.out _ HS.out.low)).mono ?_
    rintro e w1 ⟨rfl, hb⟩
    rw [hbb]
    have H1 := hid (HS.out.keep hb)
    have k0 := H1.out.cell.2.2.1 0; have k1 := H1.out.cell.2.2.1 1; have k2 := H1.out.cell.2.2.2 0; have k3 := H1.out.cell.2.2.2 1
    simp only [List.getElem?_toArray, List.getElem?_cons_zero, List.getElem?_cons_succ] at k0 k1
    go_wp2_with fail
    obtain ⟨c6, c7, c9⟩ := H1.out.nil (u := .slice none 0 0) (v := .bool false)
    exact bodyPost_ret (v := .tuple #[.agg #[.slice none 0 0, .bool false], .int .i64 1]) (by simp [results, Try.results33, go_sem, c6, c7]) rfl (outB_nil rfl c9)
  cases hfar : (decide (-250000 ≤ s) && decide (s ≤ 250000))
  · rw [shiftO_far hbb hfar]
    go_enter Try.func33, Try.ntmps33
    go_wp2_with fail
    refine (vboth_any _ _ _ _ _ _ _ _ _ T _ (HL.out _ HS.out.low)).mono ?_
    rintro e w1 ⟨rfl, hb⟩
    rw [hbb]
    have H1 := hid (HS.out.keep hb)
    have k0 := H1.out.cell.2.2.1 0; have k1 := H1.out.cell.2.2.1 1; have k2 := H1.out.cell.2.2.2 0; have k3 := H1.out.cell.2.2.2 1
    simp only [List.getElem?_toArray, List.getElem?_cons_zero, List.getElem?_cons_succ] at k0 k1
    go_wp2_with (go_at_call 56; refine (within_any _ _ _ _).mono ?_; rintro e w' ⟨rfl, rfl⟩)
    obtain ⟨c6, c7, c9⟩ := H1.out.nil (u := .slice none 0 0) (v := .bool false)
    exact bodyPost_ret (v := .tuple #[.agg #[.slice none 0 0, .bool false], .int .i64 7]) (by simp [results, Try.results33, go_sem, c6, c7]) rfl (outB_nil rfl c9)
  have hT : 0 < T.length ∧ T.length ≤ 48 ∧ okL T = true := by
    obtain ⟨c, hcv, _, hbv, hwm⟩ := both_open hbb
    obtain ⟨h1, _, h3⟩ := bodyV_iff.1 hbv
    have := hcv.ok.p
    exact ⟨by omega, by omega, h3⟩
  obtain ⟨hT0, hT48, hTo⟩ := hT
  have HTB := hid (okL_bd hTo)
  have hs : -250000 ≤ s ∧ s ≤ 250000 := by simpa using hfar
  obtain ⟨hs1, hs2⟩ := hs
  have HM := hid (midS_zero T s)
  have HO0 := hid (And.intro hbb hfar)
  clear hTo
  go_enter Try.func33, Try.ntmps33
  go_wp2_with fail
  refine (vboth_any _ _ _ _ _ _ _ _ _ T _ (HL.out _ HS.out.low)).mono ?_
  rintro e w1 ⟨rfl, hb⟩
  rw [hbb]
  have H1 := hid (HS.out.keep hb)
  have k2 := H1.out.cell.2.1 0; have k3 := H1.out.cell.2.1 1
  simp only [List.getElem?_toArray, List.getElem?_cons_zero, List.getElem?_cons_succ] at k2 k3
  clear hb
  go_wp2_with (go_at_call 56; refine (within_any _ _ _ _).mono ?_; rintro e w' ⟨rfl, rfl⟩)
  refine (clone_yes _ _ T (HL.out _ H1.out.low) hT0 (by omega)).mono ?_
  rintro e w2 ⟨g, capg, rfl, ho, hb⟩
  have hg : w1.heap.size ≤ g := ((World.ownsRow.lt ho g rfl).1)
  have hg2 : w.heap.size + 1 + 1 < g := Nat.lt_of_lt_of_le (lt_of_block H1.out.res) hg
  have H2 := hid (H1.out.keep hb)
  have HO := hid ho
  clear ho hb k2 k3
  go_wp2_with fail
  go_loopw [24] (fun i wr => ∃ n : Nat, n ≤ T.length ∧ i = .int .i64 (n : Int) ∧ Hid (wr.ownsRow w1.heap.size 3 1 (.slice (some ⟨g, 0, none⟩) T.length capg) T.length (ivs (midS T s n))) ∧ Hid (R3 w wr #[.int .i64 r, .int .i64 l, .int .i64 a, .int .i64 b, .int .i64 k, .int .i64 a2, .int .i64 b2] #[.slice a0 T.length cap, .bool br] #[.slice none 0 0, .bool false])) (fun i _ => T.length - (intOf i).toNat)
  case atStart => exact ⟨0, Nat.zero_le _, rfl, by have h := HO.out; rw [ivs_len] at h; rw [HM.out]; exact h, H2⟩
  case round =>
    obtain ⟨n, hn, rfl, HN, HW⟩ := hrel
    by_cases hlt : n < T.length
    · have hlt' : (n : Int) < T.length := by omega
      have ex := (HN.out.cellAt n (by omega)).trans (ivs_at (midS_at hlt))
      have ef := HN.out.frozenAt n
      have hbd := HTB.out T[n] (List.getElem_mem hlt)
      have HST := hid (HN.out.stored n (.int .i64 (T[n] + s))).1
      rw [ivs_set, midS_set hlt] at HST
      have HW2 := hid (HW.out.other (j := n) (u := .int .i64 (T[n] + s)) hg2)
      generalize T[n] = t at ex hbd HST HW2
      obtain ⟨hb1, hb2⟩ := hbd
      go_wp2
      go_roundw
      case rel => exact ⟨n + 1, by omega, by go_num, HST, HW2⟩
      case measure => simp [intOf]; omega
    · obtain rfl : n = T.length := by omega
      have HR := hid HN.out
      rw [midS_all] at HR
      have hr : RowI wr (.slice (some ⟨g, 0, none⟩) T.length capg) (T.map (· + s)) := own_rowI (by rw [List.length_map]; exact HR.out) (by rw [List.length_map]; omega)
      have HRI := hid hr
      have k2 := HW.out.cell.2.1 0; have k3 := HW.out.cell.2.1 1
      have k0 := HW.out.cell.2.2.1 0; have k1 := HW.out.cell.2.2.1 1; have k4 := HW.out.cell.2.2.2 0; have k5 := HW.out.cell.2.2.2 1
      simp only [List.getElem?_toArray, List.getElem?_cons_zero, List.getElem?_cons_succ] at k2 k3 k0 k1
      clear hr HO
      cases hok : okL (T.map (· + s))
      · have HE := hid (shiftO_bad (x := (T, br)) HO0.out.1 HO0.out.2 hok)
        have HOK := hid hok
        clear hok
        go_wp2_with (go_at_call 72; refine (temps_any _ _ _ HRI.out).mono ?_; rintro e w' ⟨rfl, rfl⟩; rw [HOK.out])
        obtain ⟨c6, c7, c9⟩ := HW.out.nil (u := .slice none 0 0) (v := .bool false)
        rw [HE.out]
        exact bodyPost_ret (v := .tuple #[.agg #[.slice none 0 0, .bool false], .int .i64 7]) (by simp [results, Try.results33, go_sem, c6, c7]) rfl (outB_nil rfl c9)
      · have HE := hid (shiftO_ok (x := (T, br)) HO0.out.1 HO0.out.2 hok)
        have HOK := hid hok
        clear hok
        go_wp2_with (go_at_call 72; refine (temps_any _ _ _ HRI.out).mono ?_; rintro e w' ⟨rfl, rfl⟩; rw [HOK.out])
        obtain ⟨c6, c7, c9⟩ := HW.out.nil (u := .slice (some ⟨g, 0, none⟩) T.length capg) (v := .bool br)
        rw [HE.out]
        refine bodyPost_ret (v := .tuple #[.agg #[.slice (some ⟨g, 0, none⟩) T.length capg, .bool br], .int .i64 0]) (by simp [results, Try.results33, go_sem, c6, c7]) rfl ⟨some ⟨g, 0, none⟩, capg, by rw [List.length_map], ?_, c9⟩
        rw [List.length_map]
        exact rowI_far HRI.out (by omega)
end Go.Proofs.Ytpkcnojcklmhmaa
