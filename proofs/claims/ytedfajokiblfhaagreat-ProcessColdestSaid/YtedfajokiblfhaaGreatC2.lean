/- Texts of this seat, one behind the other. -/
import Derived.Test.YtedfajokiblfhaaGreatB5
/- Walk of Table of package lethal: contracts. -/
namespace Go.Proofs.YtedfajokiblfhaaGreat.Lt
open Go.RowKit Go.Lib Go.Maps

/-- What Table works on behind k rates: the rates at L (their map at mb). -/
structure LT (s : ByteArray) (r : Int) (Z : Nat) (d g : Int) (L mb : Nat) (w : World) (k : Nat) (wr : World) : Prop where
  box : Box6 wr L s r Z d g mb
  map : MapI r Z wr mb k
  lt : mb < L
  ge : w.heap.size ≤ mb
  low : Below w.heap.size w wr
theorem LT.grown {s : ByteArray} {r : Int} {Z : Nat} {d g : Int} {L mb : Nat} {w : World} {k : Nat} {wr w1 : World} {row : Option Nat} (h : LT s r Z d g L mb w k wr) (hg : wr.grownBy w1 row) (hr : ∀ j, row = some j → L < j) : LT s r Z d g L mb w k w1 := by
  have h1 := h.lt; have h2 := h.ge
  exact ⟨h.box.grown hg (fun e => by have := hr _ e.symm; omega), h.map.kept hg (fun e => by have := hr _ e.symm; omega), h1, h2, h.low.grown hg h.low.size (fun j hj => by have := hr j hj; omega)⟩
theorem LT.append {s : ByteArray} {r : Int} {Z : Nat} {d g : Int} {L mb : Nat} {w : World} {k : Nat} {wr w1 : World} {v : Value} {l : List Nat} {o : Obj} (h : LT s r Z d g L mb w k wr) (hv : RowV wr (L + 1) v l) (hg : (wr.alloc o).grownBy w1 v.ownBlock) : LT s r Z d g L mb w k w1 :=
  (h.grown (World.grownBy_alloc wr o none) (fun k hk => by cases hk)).grown hg (fun k hk => (World.ownsRow.lt hv k hk).1)
theorem LT.call {s : ByteArray} {r : Int} {Z : Nat} {d g : Int} {L mb : Nat} {w : World} {k : Nat} {wr w1 : World} (h : LT s r Z d g L mb w k wr) (hg : wr.grownBy w1 (some mb)) (hm : MapI r Z w1 mb (k + 1)) : LT s r Z d g L mb w (k + 1) w1 := by
  have h1 := h.lt; have h2 := h.ge
  exact ⟨h.box.grown hg (fun e => by cases e; omega), hm, h1, h2, h.low.grown hg h.low.size (fun j hj => by cases hj; omega)⟩
theorem RowV.past {w w1 : World} {L mb : Nat} {v : Value} {l : List Nat} (h : RowV w (L + 1) v l) (hg : w.grownBy w1 (some mb)) (hlt : mb < L) : RowV w1 (L + 1) v l :=
  World.ownsRow.kept h hg (.inr fun e => by have := (World.ownsRow.lt h _ e).1; omega)
theorem lt_start {w w1 w2 : World} {s : ByteArray} {r : Int} {Z : Nat} {d g : Int} {mb : Nat} {T : TypeId} (hm : MapI r Z w2 mb 0) (hB : Below w.heap.size w w1) (hb : Below w1.heap.size w1 w2) (hmb : w1.heap.size ≤ mb) :
    LT s r Z d g w2.heap.size mb w 0 (w2.alloc (.cells #[.string s, .int .i64 r, .int .i64 Z, .int .i64 d, .int .i64 g, .map (some mb)] T)) := by
  have hb2 : Below w2.heap.size w2 (w2.alloc (.cells #[.string s, .int .i64 r, .int .i64 Z, .int .i64 d, .int .i64 g, .map (some mb)] T)) := (Below.refl _ _).alloc (Nat.le_refl _) _
  have hlt := hm.lt
  have h1 := hB.size
  have h2 := hb.size
  refine ⟨⟨?_, ?_, ?_, ?_, ?_, ?_, by simp⟩, hm.below hb2, hlt, by omega, (hB.trans (hb.mono h1)).trans (hb2.mono (by omega))⟩ <;> rw [cell_alloc_new] <;> rfl

theorem alloc_size (w : World) (o : Obj) : (w.alloc o).heap.size = w.heap.size + 1 := by simp

set_option maxRecDepth 20000 in
set_option maxHeartbeats 4000000 in
theorem lTable_ok (s : ByteArray) (r d g lo : Int) (Z n : Nat) (w : World) (hs : s.size ≤ maxLen) (hv : validB s.data.toList r Z d g = true)
    (l1 : -1000 ≤ lo) (l2 : lo + n ≤ 2000) (hn : n ≤ 1000) :
    Calls Tryz.prog 71 #[.agg #[.string s, .int .i64 r, .int .i64 Z, .int .i64 d, .int .i64 g], .int .i64 lo, .int .i64 (lo + n)] w (TableP r Z lo (n + 1) w) := by
  obtain ⟨_, ⟨r1, r2⟩, ⟨z1, z2⟩, _, _⟩ := validB_iff.1 hv
  obtain ⟨i0, hi, hz0, hz1, hz2⟩ := info_parts info_int
  have h1 : (decide (-1000 ≤ lo) && decide (lo ≤ 2000)) = true := by simp; omega
  have h2 : (decide (lo ≤ lo + (n : Int)) && decide (lo + (n : Int) ≤ 2000)) = true := by simp; omega
  have h4 : lo + (n : Int) - lo = n := by omega
  go_enter Tryz.func71, Tryz.ntmps71
  go_wp2_with (first
    | (go_at_call 80; refine (lvalid_any _ _ _ _ _ _ hs).mono ?_; rintro e w1 ⟨rfl, hb⟩; obtain ⟨b0, b1, b2, b3, b4, hz, hB⟩ := box5_below hb; clear hb)
    | (go_at_call 112; refine (within_any _ _ _ _).mono ?_; rintro e w1 ⟨rfl, rfl⟩)
    | (go_at_call 113; refine (ratesOf_any _ _ _ _ _ _ hs).mono ?_; rintro e w2 ⟨mb, rfl, hmb, hb2, hM⟩; have HS := hid (lt_start (T := 137) (s := s) (d := d) (g := g) (hM Z) hB hb2 hmb); clear hM hb2)
    | (at_make; refine wpList_make_own _ rfl _ _ 28 rfl (w2.heap.size + 1) 3 i0 (.int .i64 0) 1 Tryz.underlying28 hi hz0 hz1 _ _ _ (n + 1) rfl rfl (by omega) (by rw [hz2]; omega) (by unfold maxLen; omega) (by simp) ?_; intro w0 hown0 hgrow0))
  have HS0 := hid (HS.out.grown hgrow0 (fun j hj => by cases hj))
  rw [alloc_size] at hown0
  have HR0 := hid hown0
  clear hgrow0 HS b0 b1 b2 b3 b4 hown0
  generalize hL : w2.heap.size = L at HS0 HR0 ⊢
  clear hL
  go_loopw [9, 10] (fun v t wr => ∃ k : Nat, k ≤ n + 1 ∧ t = .int .i64 (lo + k) ∧ RowV wr (L + 1) v (ratesL r Z lo k) ∧ Hid (LT s r Z d g L mb w k wr)) (fun _ t _ => (n + 1) - (intOf t - lo).toNat)
  case atStart => exact ⟨0, Nat.zero_le _, by simp, HR0.out, HS0⟩
  case round =>
    obtain ⟨k, hk, rfl, hrow, hK⟩ := hrel
    obtain ⟨b0, b1, b2, b3, b4, b5, hzL⟩ := hK.out.box
    have hlen := ratesL_len r Z lo k
    have hmL := hK.out.lt
    by_cases hlt : k ≤ n
    · have hle : lo + (k : Int) ≤ lo + n := by omega
      have hx := Pm.rateD_le r Z (lo + k) z1
      obtain ⟨x, hX⟩ : ∃ x, x = Pm.rateD r Z (lo + k) := ⟨_, rfl⟩
      rw [← hX] at hx
      have HX := hid hX; clear hX
      go_wp2_with (first
        | (go_at_call 114; refine (down_any _ _ _ _ (lo + k) Z mb k _ r1 r2 (by omega) (by omega) (by omega) (by omega) (by omega) hK.out.map).mono ?_; rintro e w3 ⟨rfl, hg3, hM3⟩; rw [← HX.out]; have hrow2 := RowV.past hrow hg3 hmL; have HK2 := hid (LT.call hK.out hg3 hM3); have hs2 := Nat.lt_of_lt_of_le hzL hg3.size; clear hg3 hM3)
        | (at_builtin; refine wpList_append_own _ rfl _ _ 28 rfl (L + 1) 3 i0 (.int .i64 0) 1 8 Tryz.underlying28 hi hz0 hz1 hz2 rfl (by decide) _ _ _ rfl (World.ownsRow.alloc hrow2 _) ⟨w3.heap.size, 0, none⟩ 1 1 [.int .i64 (x : Int)] rfl rfl cell_one_at one_cell (by unfold maxLen; omega) (by omega) (by simp; omega) ?_; intro v1 w4 hown4 hgrow4 _))
      go_roundw
      case rel => exact ⟨k + 1, by omega, by go_num, by rw [ratesL_succ, ← HX.out]; exact row_append rfl hown4, HK2.out.append hrow2 hgrow4⟩
      case measure => simp [intOf]; omega
    · obtain rfl : k = n + 1 := by omega
      have hgt : ¬ lo + ((n + 1 : Nat) : Int) ≤ lo + n := by omega
      go_wp2
      go_ret2
      exact ⟨_, rfl, hrow.reads, hK.out.low⟩
end Go.Proofs.YtedfajokiblfhaaGreat.Lt

/- Walks of Table of both where there is none: contracts. -/
namespace Go.Proofs.YtedfajokiblfhaaGreat.Lt
open Go.RowKit Go.Lib

def tabB (lo hi : Int) : Bool := decide (-1000 ≤ lo) && decide (lo ≤ 2000) && (decide (lo ≤ hi) && decide (hi ≤ 2000)) && decide (hi - lo ≤ 1000)
def tabE (v : Bool) : Int := if v then 7 else 1

set_option maxHeartbeats 4000000 in
theorem lTable_no (s : ByteArray) (r z d g : Int) (w : World) (hs : s.size ≤ maxLen) (lo hi : Int) (h : (validB s.data.toList r z d g && tabB lo hi) = false) :
    Calls Tryz.prog 71 #[.agg #[.string s, .int .i64 r, .int .i64 z, .int .i64 d, .int .i64 g], .int .i64 lo, .int .i64 hi] w fun e w' => e = .returned (.tuple #[.slice none 0 0, .int .i64 (tabE (validB s.data.toList r z d g))]) ∧ Below w.heap.size w w' := by
  cases hv : validB s.data.toList r z d g
  · go_enter Tryz.func71, Tryz.ntmps71
    go_wp2_with (first | (go_at_call 80; refine (lvalid_any _ _ _ _ _ _ hs).mono ?_; rintro e w1 ⟨rfl, hb⟩; obtain ⟨b0, b1, b2, b3, b4, hz, hB⟩ := box5_below hb; clear hb) | (go_at_call 112; refine (within_any _ _ _ _).mono ?_; rintro e w1 ⟨rfl, rfl⟩))
    go_ret2
    exact ⟨rfl, hB⟩
  rw [hv, Bool.true_and] at h
  cases h1 : (decide (-1000 ≤ lo) && decide (lo ≤ 2000))
  · go_enter Tryz.func71, Tryz.ntmps71
    go_wp2_with (first | (go_at_call 80; refine (lvalid_any _ _ _ _ _ _ hs).mono ?_; rintro e w1 ⟨rfl, hb⟩; obtain ⟨b0, b1, b2, b3, b4, hz, hB⟩ := box5_below hb; clear hb) | (go_at_call 112; refine (within_any _ _ _ _).mono ?_; rintro e w1 ⟨rfl, rfl⟩))
    go_ret2
    exact ⟨rfl, hB⟩
  cases h2 : (decide (lo ≤ hi) && decide (hi ≤ 2000))
  · go_enter Tryz.func71, Tryz.ntmps71
    go_wp2_with (first | (go_at_call 80; refine (lvalid_any _ _ _ _ _ _ hs).mono ?_; rintro e w1 ⟨rfl, hb⟩; obtain ⟨b0, b1, b2, b3, b4, hz, hB⟩ := box5_below hb; clear hb) | (go_at_call 112; refine (within_any _ _ _ _).mono ?_; rintro e w1 ⟨rfl, rfl⟩))
    go_ret2
    exact ⟨rfl, hB⟩
  have h3 : ¬ hi - lo ≤ 1000 := by
    unfold tabB at h; rw [h1, h2] at h; simpa using h
  have l1 : -1000 ≤ lo ∧ lo ≤ 2000 := by simpa using h1
  have l2 : lo ≤ hi ∧ hi ≤ 2000 := by simpa using h2
  obtain ⟨l1, l3⟩ := l1
  obtain ⟨l2, l4⟩ := l2
  go_enter Tryz.func71, Tryz.ntmps71
  go_wp2_with (first | (go_at_call 80; refine (lvalid_any _ _ _ _ _ _ hs).mono ?_; rintro e w1 ⟨rfl, hb⟩; obtain ⟨b0, b1, b2, b3, b4, hz, hB⟩ := box5_below hb; clear hb) | (go_at_call 112; refine (within_any _ _ _ _).mono ?_; rintro e w1 ⟨rfl, rfl⟩))
  go_ret2
  exact ⟨rfl, hB⟩


theorem RowR.shape {w : World} {v : Value} {l : List Nat} (h : RowR w v l) (hl : l ≠ []) : ∃ g cap, v = .slice (some ⟨g, 0, none⟩) l.length cap ∧ ∀ k (h : k < l.length), w.cell? ⟨g, k, none⟩ = some (.int .i64 (l[k] : Nat)) := by
  rcases h with ⟨_, h⟩ | h
  · exact absurd h hl
  · exact h
end Go.Proofs.YtedfajokiblfhaaGreat.Lt
