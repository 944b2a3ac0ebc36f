/- slices.AppendSeq over what Chunk yields: contract. -/
import Derived.Test.YtpkcnojcklmhmaaQe
namespace Go.Proofs.Ytpkcnojcklmhmaa
open Go.RowKit Go.Shelf
attribute [local go_sem] Oper.semAt_some

theorem chunk_seq (sb nb b o P cap R L : Nat) {T : TypeId} (hR : 0 < R) (hP : P = L * R) (hcap : P ≤ cap) (hbig : P ≤ 1000000) (w : World) (hI : ItC sb nb b o P cap R w.heap.size w) :
    SeqG T Fence.wide 9 Try.prog 93 #[.pointer (some ⟨sb, 0, none⟩), .pointer (some ⟨nb, 0, none⟩)] (ckE b o R) (KpC w.heap.size) (List.range L) w :=
  fun l0 J Jx W hb hJ _ hY h0 => chunk_run l0 sb nb b o P cap R L w.heap.size W.heap.size J Jx hR hP hcap hbig hJ hY W
    (hI.past ⟨hb.size, fun j hj => hb.block j hj⟩) h0
theorem KpC.trans {n0 : Nat} {A B C : World} (h : KpC n0 A B) (k : KpC n0 B C) : KpC n0 A C := ⟨Nat.le_trans h.1 k.1, fun j hj => (k.2 j hj).trans (h.2 j hj)⟩
set_option maxRecDepth 20000 in
set_option maxHeartbeats 8000000 in
theorem appendSeq_any (sb nb b o P cap R L : Nat) (w : World) (hR : 0 < R) (hP : P = L * R) (hcap : P ≤ cap) (hbig : P ≤ 1000000) (hL : L ≤ 1000) (hI : ItC sb nb b o P cap R w.heap.size w) :
    Calls Try.prog 92 #[.slice none 0 0, .func (.func 93) #[] #[.pointer (some ⟨sb, 0, none⟩), .pointer (some ⟨nb, 0, none⟩)]] w fun e w' => ∃ v, e = .returned v ∧ OwnV w' (w.heap.size + 1) v ((List.range L).map (ckV b o R)) ∧ Below w.heap.size w w' := by
  have HST := hid (ap_start w)
  have HI := hid hI
  clear hI
  refine (callsIn_wide (n := 10)).1 ?_
  refine callsIn_of_wp_marks Try.func92 rfl trivial ?_ rfl
  simp only [Try.ntmps92, List.size_toArray, List.length_cons, List.length_nil, Nat.reduceAdd, Nat.reduceSub, Array.replicate_succ, Array.replicate_zero, List.push_toArray, List.append_toArray, List.nil_append, List.cons_append]
  gi_wp2
  obtain ⟨W5, hW5⟩ : ∃ W5, W5 = w.alloc (.cells #[.slice none 0 0] 102) := ⟨_, rfl⟩
  have z5 : W5.heap.size = w.heap.size + 1 := by rw [hW5]; simp
  have hb5 : Below w.heap.size w W5 := by rw [hW5]; exact (Below.refl _ w).alloc (Nat.le_refl _) _
  rw [← hW5] at HST ⊢
  clear hW5
  refine range_cells (T := 4) (F := Fence.wide) (n := 10) (xs := List.range L) (encs := ckE b o R) (Kp := KpC w.heap.size) (w0 := w) rfl (by omega) (gf := 93) (lb := #[.pointer (some ⟨sb, 0, none⟩), .pointer (some ⟨nb, 0, none⟩)]) rfl trivial (enters_of Try.func93 (by kernel_rfl) rfl)
    (chunk_seq sb nb b o P cap R L hR hP hcap hbig w HI.out)
    (fun h k => h.trans k) (fun W l o o' hl h hc _ => ⟨by simp, fun j hj => World.putObj_heap_other (by omega)⟩) hb5 (fun _ => rfl)
    (fun pre W => ∃ v, ApI w (pre.map (ckV b o R)) v W) (fun _ _ => False) ?hI ?hIx ⟨_, HST.out⟩
    (fun i => { tmps := #[.slice none 0 0, .func (.func 93) #[] #[.pointer (some ⟨sb, 0, none⟩), .pointer (some ⟨nb, 0, none⟩)], .pointer (some ⟨w.heap.size, 0, none⟩), undef, .slice none 0 0, ckV b o R i, .func (.func 93) #[] #[.pointer (some ⟨sb, 0, none⟩), .pointer (some ⟨nb, 0, none⟩)], ckV b o R i, undef, undef, undef, undef, undef], defers := [] }) ?assign ?body ?done ?stop
  case stop => rintro D k' W hD h; exact h.elim
  case hIx => rintro pre A B' row h; exact h.elim
  case hI =>
    rintro pre W1 W2 row ⟨v, h⟩ hgr hr
    exact ⟨v, h.turn hgr (fun j e => by
      obtain ⟨h1, h2⟩ := hr j e
      exact ⟨by omega, h2⟩)⟩
  case assign =>
    rintro l' i W K hK
    have HK := hid hK
    clear hK
    simp only [ckE]
    gi_wp2
    exact HK.out
  case body =>
    rintro l' k i W hx ⟨v, h1⟩
    have HTK := hid (ckV_take (b := b) (o := o) (R := R) hx)
    have HLEN := hid (show ((List.range L).take k).length ≤ 1000 by rw [List.length_take, List.length_range]; omega)
    obtain ⟨Ls, hLs⟩ : ∃ Ls, Ls = ((List.range L).take k).map (ckV b o R) := ⟨_, rfl⟩
    have HLS2 := hid (show Ls.length ≤ 1000 by rw [hLs, List.length_map]; exact HLEN.out)
    rw [← hLs] at h1 HTK
    have c0 := cell_of_row _ _ 0 _ _ _ h1.box
    simp only [List.getElem?_toArray, List.getElem?_cons_zero] at c0
    have H1 := hid h1
    obtain ⟨i0, hi, hz0, hz1, hz2⟩ := infoSl_parts
    clear h1 hLs hx
    simp only [ckV]
    gi_wp2_with (refine wpListIn_append_where _ rfl _ _ 102 rfl (w.heap.size + 1) 24 i0 (.slice none 0 0) 1 24 Try.underlying102 hi hz0 hz1 hz2 rfl (by decide) _ _ _ rfl (World.ownsRow.alloc H1.out.own _) ⟨W.heap.size, 0, none⟩ 1 1 [ckV b o R i] rfl rfl (cellJ rfl) oneS (by decide) (by have := HLS2.out; unfold maxLen; omega) (by have := HLS2.out; omega) (by have := H1.out.low.size; simp; omega) ?_; intro v8 w8 hown8 hgrow8 _; have hbx : w8.heap[w.heap.size]? = some (Obj.cells #[v] 102 (0, 0)) := (hgrow8.block _ (by have := (Array.getElem?_eq_some_iff.1 H1.out.box).1; simp at this ⊢; omega) (fun e => by have := World.ownsRow.lt H1.out.own _ e.symm; omega)).trans ((Below.heap_alloc _ _ _ (Array.getElem?_eq_some_iff.1 H1.out.box).1).trans H1.out.box); have f5 := frozen_of_row w8 _ 0 _ _ hbx; have g5 := cell_of_row w8 _ 0 _ _ _ hbx; simp only [List.getElem?_toArray, List.getElem?_cons_zero] at g5; have HBX := hid hbx; obtain ⟨va8, vc8, rfl⟩ := rows_shapeC hown8; have HO8 := hid hown8; have HG8 := hid hgrow8; clear hbx hown8 hgrow8)
    obtain ⟨t1, t2, t3⟩ := ap_end (B := W5.heap.size) H1.out ((Below.refl _ W).alloc (Nat.le_refl _) _) HO8.out HG8.out HBX.out
    exact ⟨t1, t2, _, by rw [HTK.out]; exact t3⟩
  case done =>
    rintro D W hD ⟨v, h1⟩ hW
    have c0 := cell_of_row _ _ 0 _ _ _ h1.box
    simp only [List.getElem?_toArray, List.getElem?_cons_zero] at c0
    have H1 := hid h1
    have HW := hid hW
    have HD := hid hD
    clear h1 hW
    gi_wp2
    refine leaves_marks (B := w.heap.size) [D] W ⟨by simp, fun d hd => by rw [List.mem_singleton] at hd; subst hd; exact ⟨by have := HD.out; omega, HW.out⟩⟩ fun W8 hb8 hc8 => ?_
    refine ⟨v, by simp [results, Try.results92, go_sem], v, rfl, ?_, ?_⟩
    · exact H1.out.own.cells hc8
    · exact H1.out.low.trans hb8
end Go.Proofs.Ytpkcnojcklmhmaa
