/- queue's Inside: contract. -/
import Derived.Test.YtikjgbfbbkmmcaaQxe
import Derived.Test.YtikjgbfbbkmmcaaQxs
import Derived.Shelf.SlIterI.Nil
import Derived.Shelf.SortM.Plain
import Derived.Shelf.SortM.SortNone
namespace Go.Proofs.Ytikjgbfbbkmmcaa
open Go.RowKit Go.Maps Go.Sort Go.Shelf

/-- slices.Sort's two contracts at this program. -/
theorem sortsQ (m : Nat) : AnyZI.SortsIn Try.prog Try.sortedQ_ren Fence.wide m :=
  ⟨fun blk off cap ss W hH hblk hsz => callsIn_wide.2 (AnyM.slices_Sort_int Try.sortQ blk off cap ss W hH hblk hsz),
   fun p cap W => callsIn_wide.2 (AnyM.slices_Sort_int_none Try.sortQ p cap W)⟩
theorem keysQ_any (mb : Option Nat) (w : World) : Calls Try.prog 64 #[.map mb] w fun e w' => e = .returned (.func (.func 83) #[] #[.pointer (some ⟨w.heap.size, 0, none⟩)]) ∧ w' = w.alloc (.cells #[.map mb] 76) :=
  (callsIn_wide (n := 5)).1 (AnyZI.keys_in Try.keysQ Fence.wide 5 trivial rfl mb w)
set_option maxHeartbeats 1000000 in
theorem sortedQ_any {H : Type} (b nn : Nat) (D0 : DataW H) (R : Value → Option (DataW H × List MemPlace)) (w : World) (hown : w.ownsMap Try.prog 3 R b nn D0) (hmax : Maps.size D0 ≤ maxLen) (hbytes : Maps.size D0 * 8 ≤ 140737488355328) :
    Calls Try.prog 63 #[.func (.func 83) #[] #[.pointer (some ⟨w.heap.size, 0, none⟩)]] (w.alloc (.cells #[.map (some b)] 76)) fun e w' => ∃ (v : Value) (ss : List Int), e = .returned v ∧ ss.Perm (intKeys D0) ∧
      w'.ownsRow w.heap.size 3 1 v ss.length ((ss.mergeSort (fun x y => decide (x ≤ y))).map encZ) ∧ Below w.heap.size w w' := by
  have hbl := hown.lt
  have hseq : SeqGives Fence.wide 2 Try.prog 83 #[.pointer (some ⟨w.heap.size, 0, none⟩)] encZ (fun ss => ss.Perm (intKeys D0)) (Maps.size D0) (w.alloc (.cells #[.map (some b)] 76)) :=
    AnyZI.keys_gives (ρ := Try.keysQ_ren) { Try.keysQ with } Fence.wide _ trivial rfl (by omega) w.heap.size b nn D0 _ (by simp) (by simp) (by
      obtain ⟨es, clock, hb, Ft, hs, hD⟩ := hown
      exact ⟨es, clock, (Below.heap_alloc _ _ b hbl).trans hb, Ft, hs, hD⟩)
  have cS := AnyZI.sorted_in Try.sortedQ Fence.wide 5 trivial trivial trivial trivial rfl (by omega) (sortsQ _) (enters_of Try.func75 (by kernel_rfl) rfl) 83 #[.pointer (some ⟨w.heap.size, 0, none⟩)] trivial (enters_of Try.func83 (by kernel_rfl) rfl) _ _ hmax hbytes _ hseq
  have cT := (callsIn_wide (n := 5)).1 cS
  refine cT.mono ?_
  rintro e w' ⟨v, ss, rfl, hS, hrow, hnil, hb⟩
  exact ⟨v, ss, rfl, hS, ownsRow_base_a hrow (by simp), ((Below.refl _ w).alloc (Nat.le_refl _) _).trans (hb.mono (by simp))⟩
theorem keys_setD (s : List Int) : intKeys (setD s) = s := by
  show (setK s).map _ = s
  unfold setK
  rw [List.map_map]
  conv => rhs; rw [← List.map_id s]
  rfl
theorem sort_asc {s ss : List Int} (hs : s.Pairwise (· < ·)) (hp : ss.Perm s) : ss.mergeSort (fun x y => decide (x ≤ y)) = s := by
  have h1 : (ss.mergeSort fun x y => decide (x ≤ y)).Pairwise (fun x y => decide (x ≤ y) = true) := List.pairwise_mergeSort (fun a b c h1 h2 => by simp at h1 h2 ⊢; omega) (fun a b => by simp; omega) ss
  have h2 : (ss.mergeSort fun x y => decide (x ≤ y)).Perm s := (List.mergeSort_perm ss _).trans hp
  have h3 : s.Pairwise (fun x y => x ≠ y) := hs.imp fun h => by omega
  have h4 := (h2.pairwise_iff (fun h e => h e.symm)).2 h3
  have h5 : (ss.mergeSort fun x y => decide (x ≤ y)).Pairwise (· < ·) := (h1.and h4).imp fun {x y} h => by
    have := h.1
    simp at this
    have := h.2
    omega
  exact asc_uniq (fun x y h g => by omega) h5 hs (fun x => h2.mem_iff)
theorem evs_ints : ∀ l : List Int, evs encI l = l.map encZ
  | [] => rfl
  | x :: l => by rw [evs, List.map_cons, evs_ints l]; rfl
theorem ownI_row {w : World} {B E : Nat} {v : Value} {l : List Int} (h : w.ownsRow B E 1 v l.length (l.map encZ)) : RowI w v l := by
  rw [← evs_ints] at h
  exact rowE_int (OwnE.row (C := encI) h)
set_option maxRecDepth 20000 in
set_option maxHeartbeats 2000000 in
theorem qinside_any (v : Value) (l : List Int) (w : World) (hr : RowI w v l) (hb : ∀ x ∈ l, -9223372036854775808 ≤ x ∧ x ≤ 9223372036854775807) (hf : l.length ≤ 100) : Calls Try.prog 29 #[v] w (IdQ l w) := by
  have HC := hid (crossed_any v l w hr hb (by omega))
  clear hr hb
  go_enter Try.func29, Try.ntmps29
  go_wp2_with fail
  refine HC.out.mono ?_
  rintro e w1 ⟨b, n, s, rfl, hn, hm, hi, ha, hbb, hbl, hlo⟩
  have HM := hid hm; have HBL := hid hbl
  by_cases hw : wrgK l < 0
  · have hcs := hi.1 hw
    have hw' : ¬ wrgK l ≥ 0 := by omega
    have HLEN := hid (crsK_inv l hcs).2.2
    have HAS := hid (crsK_inv l hcs).1
    have HE := hid (show insE l = 0 by unfold insE; rw [hcs]; rfl)
    have HG := hid (show (crsK l l.length).getD [] = s by rw [hcs]; rfl)
    have HS := hid (sortedQ_any b n (setD s) _ w1 hm (by rw [setD_size]; have := HLEN.out; unfold maxLen; omega) (by rw [setD_size]; have := HLEN.out; omega))
    generalize hq : wrgK l = q at *
    clear hi ha hm hbl hcs hn hlo HC hq
    go_wp2_with fail
    refine (keysQ_any _ _).mono ?_
    rintro e w2 ⟨rfl, rfl⟩
    go_wp2_with fail
    refine HS.out.mono ?_
    rintro e w3 ⟨u, ss, rfl, hp, hrow, hb3⟩
    rw [keys_setD] at hp
    have hss := sort_asc HAS.out hp
    rw [hss, hp.length_eq] at hrow
    have HR := hid (ownI_row hrow)
    have HB3 := hid (bstep HBL.out HBL.out.size hb3)
    clear hp hrow hb3 hss HS
    go_wp2
    go_ret2
    refine ⟨u, ?_, ?_, HB3.out⟩
    · rw [HE.out]; rfl
    · rw [HG.out]; exact HR.out
  · have hw' : wrgK l ≥ 0 := by omega
    have HN := hid (show crsK l l.length = none by
      cases hs : crsK l l.length with
      | none => rfl
      | some s' =>
        have h1 := wrgK_no hs
        omega)
    have HE := hid (show insE l = 9 by unfold insE; rw [HN.out]; rfl)
    have HG := hid (show (crsK l l.length).getD [] = [] by rw [HN.out]; rfl)
    generalize wrgK l = q at *
    clear hi ha hm hbl hn hlo HC hw
    go_wp2
    go_ret2
    refine ⟨.slice none 0 0, ?_, ?_, HBL.out⟩
    · rw [HE.out]; rfl
    · rw [HG.out]; exact .inl ⟨_, _, rfl, rfl⟩
theorem qcrosses_walk (v : Value) (l : List Int) (w : World) (h : InN w v l) : Calls Try.prog 7 #[v] w fun e w' => e = .returned (.bool true) ∧ Below w.heap.size w w' :=
  qcrosses_of (fun v l w h1 h2 h3 => qinside_any v l w h1 h2 h3) v l w h
end Go.Proofs.Ytikjgbfbbkmmcaa
