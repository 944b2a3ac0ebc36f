/- Walks of the reference's ValidSheet, of Overlap and Percent, and of awake: contracts. -/
import Derived.Test.YtacakfnomniejabKc
namespace Go.Proofs.Ytacakfnomniejab
open Go.RowKit

theorem sixK (a b c d e : Bool) : a = false ∨ (a = true ∧ b = false) ∨ (a = true ∧ b = true ∧ c = false) ∨ (a = true ∧ b = true ∧ c = true ∧ d = false) ∨ (a = true ∧ b = true ∧ c = true ∧ d = true ∧ e = false) ∨ (a = true ∧ b = true ∧ c = true ∧ d = true ∧ e = true) := by cases a <;> cases b <;> cases c <;> cases d <;> cases e <;> simp
theorem shB_eq2 (x : Sh) : shB x = (inB x.tk 0 100000000 && inB x.hd 1 12 && inB x.wr 0 100 && inB x.ep 1 1000 && inB x.bp 1 1000 && allW 0 20000 [x.bh, x.ch, x.ht, x.th, x.cs]) := by
  rw [shB_eq]
  simp only [allW, List.all_cons, List.all_nil, Bool.and_true, Bool.and_assoc]
theorem rowI_get {w : World} {a : Option Addr} {n c k : Nat} {l : List Int} (h : RowI w (.slice a n c) l) (_ : n = l.length) (hk : k < l.length) : ∃ b o, a = some ⟨b, o, none⟩ ∧ w.cell? ⟨b, o + k, none⟩ = some (.int .i64 l[k]) := by
  rcases h with ⟨a', c', _, h0⟩ | ⟨b, o, c', hv, _, hc⟩
  · rw [h0] at hk; simp at hk
  · injection hv with h1 h2 h3
    exact ⟨b, o, h1, hc k hk⟩
set_option maxHeartbeats 4000000 in
theorem koverl_ok (x : Sh) (w : World) (h : shB x = true) : Calls Try.prog 14 #[.agg #[.int .i64 x.tk, .int .i64 x.hd, .int .i64 x.bh, .int .i64 x.ch, .int .i64 x.ht, .int .i64 x.ep, .int .i64 x.bp, .int .i64 x.wr, .int .i64 x.th, .int .i64 x.cs]] w fun e w' => e = .returned (.tuple #[.int .i64 (ovT x / 10), .int .i64 0]) ∧ Below w.heap.size w w' := by
  have HOK := hid (shB_iff.1 h)
  have HH := hid h
  have hO : -1000000 ≤ ovT x ∧ ovT x ≤ 1000000 := by
    obtain ⟨_, _, _, ⟨e1, e2⟩, ⟨p1, p2⟩, ⟨h1, h2⟩, ⟨h3, h4⟩, ⟨h5, h6⟩, _, _⟩ := HOK.out
    unfold ovT; omega
  obtain ⟨O, hO'⟩ : ∃ O, O = ovT x := ⟨_, rfl⟩
  have HO := hid hO'
  rw [← hO'] at hO ⊢
  obtain ⟨o1, o2⟩ := hO
  have HBX := hid (fun W (g : Below (w.alloc (.cells #[.int .i64 x.tk, .int .i64 x.hd, .int .i64 x.bh, .int .i64 x.ch, .int .i64 x.ht, .int .i64 x.ep, .int .i64 x.bp, .int .i64 x.wr, .int .i64 x.th, .int .i64 x.cs] 40)).heap.size (w.alloc (.cells #[.int .i64 x.tk, .int .i64 x.hd, .int .i64 x.bh, .int .i64 x.ch, .int .i64 x.ht, .int .i64 x.ep, .int .i64 x.bp, .int .i64 x.wr, .int .i64 x.th, .int .i64 x.cs] 40)) W) => (boxS_new w x).keep g)
  have HBB := hid (fun W (g : Below (w.alloc (.cells #[.int .i64 x.tk, .int .i64 x.hd, .int .i64 x.bh, .int .i64 x.ch, .int .i64 x.ht, .int .i64 x.ep, .int .i64 x.bp, .int .i64 x.wr, .int .i64 x.th, .int .i64 x.cs] 40)).heap.size (w.alloc (.cells #[.int .i64 x.tk, .int .i64 x.hd, .int .i64 x.bh, .int .i64 x.ch, .int .i64 x.ht, .int .i64 x.ep, .int .i64 x.bp, .int .i64 x.wr, .int .i64 x.th, .int .i64 x.cs] 40)) W) => bstep (boxS_below w x) (boxS_below w x).size g)
  clear hO' h
  go_enter Try.func14, Try.ntmps14
  go_wp2_with fail
  refine (ksheet_any x _).mono ?_
  rintro e w1 ⟨rfl, hb⟩
  rw [HH.out]
  obtain ⟨b0, b1, b2, b3, b4, b5, b6, b7, b8, b9⟩ := HBX.out _ hb
  have HB1 := hid (HBB.out _ hb)
  clear hb
  go_wp2_with fail
  refine (kover_any x _ HOK.out).mono ?_
  rintro e w2 ⟨rfl, hb⟩
  rw [← HO.out]
  have HB2 := hid (bstep HB1.out HB1.out.size hb)
  clear hb
  go_wp2_with fail
  refine (kfloor_any O 10 _ (by omega) (by omega) (by omega)).mono ?_
  rintro e w3 ⟨rfl, rfl⟩
  go_wp2_with fail
  go_ret2
  exact ⟨rfl, HB2.out⟩
set_option maxHeartbeats 4000000 in
theorem kperc_ok (x : Sh) (w : World) (h : shB x = true) : Calls Try.prog 13 #[.agg #[.int .i64 x.tk, .int .i64 x.hd, .int .i64 x.bh, .int .i64 x.ch, .int .i64 x.ht, .int .i64 x.ep, .int .i64 x.bp, .int .i64 x.wr, .int .i64 x.th, .int .i64 x.cs]] w fun e w' => e = .returned (.tuple #[.int .i64 (pctT x), .int .i64 0]) ∧ Below w.heap.size w w' := by
  have HOK := hid (shB_iff.1 h)
  have HH := hid h
  have HBX := hid (fun W (g : Below (w.alloc (.cells #[.int .i64 x.tk, .int .i64 x.hd, .int .i64 x.bh, .int .i64 x.ch, .int .i64 x.ht, .int .i64 x.ep, .int .i64 x.bp, .int .i64 x.wr, .int .i64 x.th, .int .i64 x.cs] 40)).heap.size (w.alloc (.cells #[.int .i64 x.tk, .int .i64 x.hd, .int .i64 x.bh, .int .i64 x.ch, .int .i64 x.ht, .int .i64 x.ep, .int .i64 x.bp, .int .i64 x.wr, .int .i64 x.th, .int .i64 x.cs] 40)) W) => (boxS_new w x).keep g)
  have HBB := hid (fun W (g : Below (w.alloc (.cells #[.int .i64 x.tk, .int .i64 x.hd, .int .i64 x.bh, .int .i64 x.ch, .int .i64 x.ht, .int .i64 x.ep, .int .i64 x.bp, .int .i64 x.wr, .int .i64 x.th, .int .i64 x.cs] 40)).heap.size (w.alloc (.cells #[.int .i64 x.tk, .int .i64 x.hd, .int .i64 x.bh, .int .i64 x.ch, .int .i64 x.ht, .int .i64 x.ep, .int .i64 x.bp, .int .i64 x.wr, .int .i64 x.th, .int .i64 x.cs] 40)) W) => bstep (boxS_below w x) (boxS_below w x).size g)
  clear h
  go_enter Try.func13, Try.ntmps13
  go_wp2_with fail
  refine (ksheet_any x _).mono ?_
  rintro e w1 ⟨rfl, hb⟩
  rw [HH.out]
  obtain ⟨b0, b1, b2, b3, b4, b5, b6, b7, b8, b9⟩ := HBX.out _ hb
  have HB1 := hid (HBB.out _ hb)
  clear hb
  go_wp2_with fail
  refine (kpct_any x _ HOK.out).mono ?_
  rintro e w2 ⟨rfl, hb⟩
  have HB2 := hid (bstep HB1.out HB1.out.size hb)
  clear hb
  go_wp2_with fail
  go_ret2
  exact ⟨rfl, HB2.out⟩
/-- The example's sheet. -/
def shEx : Sh := ⟨0, 1, 2000, 1900, 3000, 200, 180, 0, 0, 0⟩
set_option maxHeartbeats 4000000 in
theorem kawake_any (w : World) : Calls Try.prog 6 #[] w fun e w' => e = .returned (.bool true) ∧ Below w.heap.size w w' := by
  have h1 : shB shEx = true := by decide
  have h2 : pctT shEx = 47 := by decide
  have h3 : ovT shEx / 10 = 1120 := by decide
  have H1 := hid h1
  have H2 := hid h2
  have H3 := hid h3
  have HBX := hid (fun W (g : Below (w.alloc (.cells #[.int .i64 0, .int .i64 1, .int .i64 2000, .int .i64 1900, .int .i64 3000, .int .i64 200, .int .i64 180, .int .i64 0, .int .i64 0, .int .i64 0] 40)).heap.size (w.alloc (.cells #[.int .i64 0, .int .i64 1, .int .i64 2000, .int .i64 1900, .int .i64 3000, .int .i64 200, .int .i64 180, .int .i64 0, .int .i64 0, .int .i64 0] 40)) W) => (boxS_new w shEx).keep g)
  have HBB := hid (fun W (g : Below (w.alloc (.cells #[.int .i64 0, .int .i64 1, .int .i64 2000, .int .i64 1900, .int .i64 3000, .int .i64 200, .int .i64 180, .int .i64 0, .int .i64 0, .int .i64 0] 40)).heap.size (w.alloc (.cells #[.int .i64 0, .int .i64 1, .int .i64 2000, .int .i64 1900, .int .i64 3000, .int .i64 200, .int .i64 180, .int .i64 0, .int .i64 0, .int .i64 0] 40)) W) => bstep (boxS_below w shEx) (boxS_below w shEx).size g)
  clear h1 h2 h3
  go_enter Try.func6, Try.ntmps6
  go_wp2_with fail
  refine (kperc_ok shEx _ H1.out).mono ?_
  rintro e w1 ⟨rfl, hb⟩
  rw [H2.out]
  obtain ⟨b0, b1, b2, b3, b4, b5, b6, b7, b8, b9⟩ := HBX.out _ hb
  simp only [shEx] at b0 b1 b2 b3 b4 b5 b6 b7 b8 b9
  have HB1 := hid (HBB.out _ hb)
  clear hb
  go_wp2_with fail
  refine (koverl_ok shEx _ H1.out).mono ?_
  rintro e w2 ⟨rfl, hb⟩
  rw [H3.out]
  have HB2 := hid (bstep HB1.out HB1.out.size hb)
  clear hb
  go_wp2_with fail
  go_ret
  exact ⟨rfl, HB2.out⟩
end Go.Proofs.Ytacakfnomniejab
