/- Walks of the rate functions that Sum and SumUp hand on: contracts. -/
import Derived.Test.YtfngmpkceceomaaSh
import Derived.Test.YtfngmpkceceomaaTc
namespace Go.Proofs.Ytfngmpkceceomaa
open Go.RowKit Go.Lib Go.Maps

/-- What a rate function works on: the rates at L, their map at mb, c entries at most. -/
def RdS (s : ByteArray) (r : Int) (Z : Nat) (d g : Int) (L mb c : Nat) (w : World) : Prop := Box6 w L s r Z d g mb ∧ mb ≠ L ∧ MapI r Z w mb c
theorem RdS.next {s : ByteArray} {r d g : Int} {Z L mb c c' : Nat} {w w' : World} (h : RdS s r Z d g L mb c w) (hg : w.grownBy w' (some mb)) (hm : MapI r Z w' mb c') : RdS s r Z d g L mb c' w' :=
  ⟨h.1.grown hg (fun e => h.2.1 (Option.some.inj e).symm), h.2.1, hm⟩
theorem RdS.kept {s : ByteArray} {r d g : Int} {Z L mb c : Nat} {w w' : World} {row : Option Nat} (h : RdS s r Z d g L mb c w) (hg : w.grownBy w' row) (h1 : some L ≠ row) (h2 : some mb ≠ row) : RdS s r Z d g L mb c w' :=
  ⟨h.1.grown hg h1, h.2.1, h.2.2.kept hg h2⟩

theorem RdS.cells {s : ByteArray} {r d g : Int} {Z L mb c : Nat} {w' : World} (h : RdS s r Z d g L mb c w') : w'.cell? ⟨L, 0, none⟩ = some (.string s) ∧ w'.cell? ⟨L, 1, none⟩ = some (.int .i64 r) ∧ w'.cell? ⟨L, 2, none⟩ = some (.int .i64 Z) ∧ w'.cell? ⟨L, 3, none⟩ = some (.int .i64 d) ∧ w'.cell? ⟨L, 4, none⟩ = some (.int .i64 g) ∧ w'.cell? ⟨L, 5, none⟩ = some (.map (some mb)) := by
  obtain ⟨⟨b0, b1, b2, b3, b4, b5, _⟩, _⟩ := h
  exact ⟨b0, b1, b2, b3, b4, b5⟩

set_option maxRecDepth 8000 in
set_option maxHeartbeats 2000000 in
theorem rd1_any (s : ByteArray) (r d g t : Int) (Z L mb c : Nat) (w : World) (r1 : -200 ≤ r) (r2 : r ≤ 800) (z1 : 1 ≤ Z) (z2 : Z ≤ 60) (t1 : -50000 ≤ t) (t2 : t ≤ 200000) (hc : c ≤ 1000000000) (hS : RdS s r Z d g L mb c w) :
    Calls Try.prog 87 #[.int .i64 t, .pointer (some ⟨L, 0, none⟩)] w (RateP (dn r Z t) r Z mb c w) := by
  have HS := hid hS; clear hS
  have hx1 : -1000 ≤ t / 250 := by omega
  have hx2 : t / 250 ≤ 1000 := by omega
  have HS0 := hid (RdS.kept HS.out (row := none) (gbelow (Below.refl _ w).drew) (by simp) (by simp))
  go_enter Try.func87, Try.ntmps87
  go_wp2
  go_region_held3 (fun w' => w'.cell? ⟨L, 0, none⟩ = some (.string s) ∧ w'.cell? ⟨L, 1, none⟩ = some (.int .i64 r) ∧ w'.cell? ⟨L, 2, none⟩ = some (.int .i64 Z) ∧ w'.cell? ⟨L, 3, none⟩ = some (.int .i64 d) ∧ w'.cell? ⟨L, 4, none⟩ = some (.int .i64 g) ∧ w'.cell? ⟨L, 5, none⟩ = some (.map (some mb)))
    (first | exact HS0.out.cells | exact (HS0.out.next hg3 hM3).cells)
    (first
      | (go_at_call 36; refine (lQuarter_any t _ (by omega) (by omega)).mono ?_; rintro e w1 ⟨rfl, rfl⟩)
      | (go_at_call 64; refine (down_any _ _ _ _ (t / 250) Z mb c _ r1 r2 (by omega) (by omega) (by omega) (by omega) hc HS0.out.2.2).mono ?_; rintro e w3 ⟨rfl, hg3, hM3⟩))
  go_wp2
  go_ret
  exact ⟨rfl, gtrans (gbelow (Below.refl _ w).drew) hg3, hM3⟩
set_option maxRecDepth 8000 in
set_option maxHeartbeats 2000000 in
theorem ru1_any (s : ByteArray) (r d g t : Int) (Z L mb c : Nat) (w : World) (r1 : -200 ≤ r) (r2 : r ≤ 800) (z1 : 1 ≤ Z) (z2 : Z ≤ 60) (t1 : -50000 ≤ t) (t2 : t ≤ 200000) (hc : c ≤ 1000000000) (hS : RdS s r Z d g L mb c w) :
    Calls Try.prog 88 #[.int .i64 t, .pointer (some ⟨L, 0, none⟩)] w (RateP (up r Z t) r Z mb c w) := by
  have HS := hid hS; clear hS
  have hx : -1000 ≤ qUp t ∧ qUp t ≤ 1000 := by unfold qUp; split <;> omega
  obtain ⟨hx1, hx2⟩ := hx
  have HS0 := hid (RdS.kept HS.out (row := none) (gbelow (Below.refl _ w).drew) (by simp) (by simp))
  go_enter Try.func88, Try.ntmps88
  go_wp2
  go_region_held3 (fun w' => w'.cell? ⟨L, 0, none⟩ = some (.string s) ∧ w'.cell? ⟨L, 1, none⟩ = some (.int .i64 r) ∧ w'.cell? ⟨L, 2, none⟩ = some (.int .i64 Z) ∧ w'.cell? ⟨L, 3, none⟩ = some (.int .i64 d) ∧ w'.cell? ⟨L, 4, none⟩ = some (.int .i64 g) ∧ w'.cell? ⟨L, 5, none⟩ = some (.map (some mb)))
    (first | exact HS0.out.cells | exact (HS0.out.next hg3 hM3).cells)
    (first
      | (go_at_call 89; refine (lAbove_any t _ (by omega) (by omega)).mono ?_; rintro e w1 ⟨rfl, rfl⟩)
      | (go_at_call 67; refine (up_any _ _ _ _ (qUp t) Z mb c _ r1 r2 (by omega) (by omega) (by omega) (by omega) hc HS0.out.2.2).mono ?_; rintro e w3 ⟨rfl, hg3, hM3⟩))
  go_wp2
  go_ret
  exact ⟨rfl, gtrans (gbelow (Below.refl _ w).drew) hg3, hM3⟩

/-- What rateDown and rateUp hand back: the closure over a new rates box. -/
def FnP (f : Fn) (s : ByteArray) (r d g : Int) (Z : Nat) (w : World) (e : Ending) (w' : World) : Prop :=
  ∃ L mb, e = .returned (.func f #[] #[.pointer (some ⟨L, 0, none⟩)]) ∧ RdS s r Z d g L mb 0 w' ∧ w.heap.size ≤ mb ∧ w.heap.size ≤ L ∧ Below w.heap.size w w'
theorem rds_start {w2 : World} {s : ByteArray} {r d g : Int} {Z mb : Nat} {T : TypeId} (hm : MapI r Z w2 mb 0) : RdS s r Z d g w2.heap.size mb 0 (w2.alloc (.cells #[.string s, .int .i64 r, .int .i64 Z, .int .i64 d, .int .i64 g, .map (some mb)] T)) := by
  have hb2 : Below w2.heap.size w2 (w2.alloc (.cells #[.string s, .int .i64 r, .int .i64 Z, .int .i64 d, .int .i64 g, .map (some mb)] T)) := (Below.refl _ _).alloc (Nat.le_refl _) _
  have hlt := hm.lt
  refine ⟨⟨?_, ?_, ?_, ?_, ?_, ?_, by simp⟩, by omega, hm.below hb2⟩ <;> rw [cell_alloc_new] <;> rfl
set_option maxHeartbeats 2000000 in
theorem rateDown_any (s : ByteArray) (r d g : Int) (Z : Nat) (w : World) (hs : s.size ≤ maxLen) : Calls Try.prog 70 #[.agg #[.string s, .int .i64 r, .int .i64 Z, .int .i64 d, .int .i64 g]] w (FnP (.func 87) s r d g Z w) := by
  go_enter Try.func70, Try.ntmps70
  go_wp2_with (go_at_call 63; refine (ratesOf_any _ _ _ _ _ _ hs).mono ?_; rintro e w2 ⟨mb, rfl, hmb, hb2, hM⟩; have HM := hid (hM Z); have HB := hid hb2; clear hM hb2)
  go_ret
  have hsz := HB.out.size
  rw [alloc_size] at hmb hsz
  exact ⟨_, mb, rfl, rds_start HM.out, by omega, by omega, (balloc HB.out).alloc (by omega) _⟩
set_option maxHeartbeats 2000000 in
theorem rateUp_any (s : ByteArray) (r d g : Int) (Z : Nat) (w : World) (hs : s.size ≤ maxLen) : Calls Try.prog 71 #[.agg #[.string s, .int .i64 r, .int .i64 Z, .int .i64 d, .int .i64 g]] w (FnP (.func 88) s r d g Z w) := by
  go_enter Try.func71, Try.ntmps71
  go_wp2_with (go_at_call 63; refine (ratesOf_any _ _ _ _ _ _ hs).mono ?_; rintro e w2 ⟨mb, rfl, hmb, hb2, hM⟩; have HM := hid (hM Z); have HB := hid hb2; clear hM hb2)
  go_ret
  have hsz := HB.out.size
  rw [alloc_size] at hmb hsz
  exact ⟨_, mb, rfl, rds_start HM.out, by omega, by omega, (balloc HB.out).alloc (by omega) _⟩
end Go.Proofs.Ytfngmpkceceomaa
