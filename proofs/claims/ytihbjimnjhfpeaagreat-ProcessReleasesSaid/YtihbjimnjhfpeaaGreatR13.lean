/- Texts of this seat, one behind the other. -/
import Derived.Test.YtihbjimnjhfpeaaGreatR09
import Derived.Test.YtihbjimnjhfpeaaGreatR12
/- Walks of Reached and Reductions of both: contracts. -/
namespace Go.Proofs.YtihbjimnjhfpeaaGreat.Lt
open Go.RowKit

def shareV (v : Bool) (f n : Int) : Int := if v && (decide (0 ≤ f) && decide (f ≤ 1000000000000000000)) then f * 1000 / n else 0
theorem third (v b : Bool) : v = false ∨ (v = true ∧ b = false) ∨ (v = true ∧ b = true) := by cases v <;> cases b <;> simp

end Go.Proofs.YtihbjimnjhfpeaaGreat.Lt

/- Walks of checkTemperature, Rate, RateUp of package lethal: contracts. -/
namespace Go.Proofs.YtihbjimnjhfpeaaGreat.Lt
open Go.RowKit Go.Lib Go.Maps

def chkT (v : Bool) (t : Int) : Int := if v then (if -1000 ≤ t ∧ t ≤ 2000 then 0 else 7) else 1
theorem chkT_no (t : Int) : chkT false t = 1 := rfl
theorem chkT_out (t : Int) (h : (decide (-1000 ≤ t) && decide (t ≤ 2000)) = false) : chkT true t = 7 := by
  unfold chkT; simp at h; simp; omega
theorem chkT_in (t : Int) (h : (decide (-1000 ≤ t) && decide (t ≤ 2000)) = true) : chkT true t = 0 := by
  unfold chkT; simp at h; simp; omega

set_option maxHeartbeats 1000000 in
theorem checkT_any (s : ByteArray) (r z d g : Int) (w : World) (hs : s.size ≤ maxLen) (t : Int) :
    Calls Tryz.prog 109 #[.agg #[.string s, .int .i64 r, .int .i64 z, .int .i64 d, .int .i64 g], .int .i64 t] w fun e w' => e = .returned (.int .i64 (chkT (validB s.data.toList r z d g) t)) ∧ Below w.heap.size w w' := by
  rcases third (validB s.data.toList r z d g) (decide (-1000 ≤ t) && decide (t ≤ 2000)) with hv | ⟨hv, ht⟩ | ⟨hv, ht⟩
  · go_enter Tryz.func109, Tryz.ntmps109
    go_wp2_with (first | (go_at_call 65; refine (lvalid_any _ _ _ _ _ _ hs).mono ?_; rintro e w1 ⟨rfl, hb⟩; obtain ⟨b0, b1, b2, b3, b4, hz, hB⟩ := box5_below hb; clear hb) | (go_at_call 104; refine (within_any _ _ _ _).mono ?_; rintro e w' ⟨rfl, rfl⟩))
    go_ret
    exact ⟨by rw [hv]; rfl, hB⟩
  · have c := hid (chkT_out t ht)
    go_enter Tryz.func109, Tryz.ntmps109
    go_wp2_with (first | (go_at_call 65; refine (lvalid_any _ _ _ _ _ _ hs).mono ?_; rintro e w1 ⟨rfl, hb⟩; obtain ⟨b0, b1, b2, b3, b4, hz, hB⟩ := box5_below hb; clear hb) | (go_at_call 104; refine (within_any _ _ _ _).mono ?_; rintro e w' ⟨rfl, rfl⟩))
    go_ret
    exact ⟨by rw [hv, c.out]; rfl, hB⟩
  · have c := hid (chkT_in t ht)
    go_enter Tryz.func109, Tryz.ntmps109
    go_wp2_with (first | (go_at_call 65; refine (lvalid_any _ _ _ _ _ _ hs).mono ?_; rintro e w1 ⟨rfl, hb⟩; obtain ⟨b0, b1, b2, b3, b4, hz, hB⟩ := box5_below hb; clear hb) | (go_at_call 104; refine (within_any _ _ _ _).mono ?_; rintro e w' ⟨rfl, rfl⟩))
    go_ret
    exact ⟨by rw [hv, c.out]; rfl, hB⟩

/-- What Rate and RateUp answer: the rate where the killer and the temperature are good. -/
def rateA (v : Bool) (x : Nat) (t : Int) : Int := if v && (decide (-1000 ≤ t) && decide (t ≤ 2000)) then x else 0
theorem rateA_out (x : Nat) (t : Int) (h : (decide (-1000 ≤ t) && decide (t ≤ 2000)) = false) : rateA true x t = 0 := by unfold rateA; rw [h]; rfl
theorem rateA_in (x : Nat) (t : Int) (h : (decide (-1000 ≤ t) && decide (t ≤ 2000)) = true) : rateA true x t = x := by unfold rateA; rw [h]; rfl


set_option maxHeartbeats 2000000 in
theorem lRateUp_any (s : ByteArray) (r z d g : Int) (w : World) (hs : s.size ≤ maxLen) (t : Int) :
    Calls Tryz.prog 69 #[.agg #[.string s, .int .i64 r, .int .i64 z, .int .i64 d, .int .i64 g], .int .i64 t] w fun e w' => e = .returned (.tuple #[.int .i64 (rateA (validB s.data.toList r z d g) (Pm.rateU r z t) t), .int .i64 (chkT (validB s.data.toList r z d g) t)]) ∧ Below w.heap.size w w' := by
  rcases third (validB s.data.toList r z d g) (decide (-1000 ≤ t) && decide (t ≤ 2000)) with hv | ⟨hv, ht⟩ | ⟨hv, ht⟩
  · have c := hid (chkT_no t)
    go_enter Tryz.func69, Tryz.ntmps69
    go_wp2_with (first | (go_at_call 109; refine (checkT_any _ _ _ _ _ _ hs t).mono ?_; rintro e w1 ⟨rfl, hb⟩; rw [hv, c.out]; obtain ⟨b0, b1, b2, b3, b4, hz, hB⟩ := box5_below hb; clear hb))
    go_ret2
    exact ⟨by rw [hv, c.out]; rfl, hB⟩
  · have c := hid (chkT_out t ht)
    have c2 := hid (rateA_out (Pm.rateU r z t) t ht)
    go_enter Tryz.func69, Tryz.ntmps69
    go_wp2_with (first | (go_at_call 109; refine (checkT_any _ _ _ _ _ _ hs t).mono ?_; rintro e w1 ⟨rfl, hb⟩; rw [hv, c.out]; obtain ⟨b0, b1, b2, b3, b4, hz, hB⟩ := box5_below hb; clear hb))
    go_ret2
    exact ⟨by rw [hv, c.out, c2.out]; rfl, hB⟩
  · have c := hid (chkT_in t ht)
    have c2 := hid (rateA_in (Pm.rateU r z t) t ht)
    obtain ⟨_, ⟨r1, r2⟩, ⟨z1, z2⟩, _, _⟩ := validB_iff.1 hv
    obtain ⟨Z, rfl⟩ := Int.eq_ofNat_of_zero_le (show 0 ≤ z by omega)
    have ht' : -1000 ≤ t ∧ t ≤ 2000 := by simpa using ht
    obtain ⟨t1, t2⟩ := ht'
    go_enter Tryz.func69, Tryz.ntmps69
    go_wp2_with (first
      | (go_at_call 109; refine (checkT_any _ _ _ _ _ _ hs t).mono ?_; rintro e w1 ⟨rfl, hb⟩; rw [hv, c.out]; obtain ⟨b0, b1, b2, b3, b4, hz, hB⟩ := box5_below hb; clear hb)
      | (go_at_call 110; refine (ratesOf_any _ _ _ _ _ _ hs).mono ?_; rintro e w2 ⟨mb, rfl, hmb, hb2, hM⟩; have HM := hid (hM Z); have HB2 := hid hb2; clear hM)
      | (go_at_call 111; refine (up_any _ _ _ _ t Z mb 0 _ r1 r2 (by omega) (by omega) (by omega) (by omega) (by omega) HM.out).mono ?_; rintro e w3 ⟨rfl, hg3, _⟩))
    go_ret2
    exact ⟨by rw [hv, c.out, c2.out]; rfl, (hB.trans (HB2.out.mono (by omega))).grown hg3 (Nat.le_trans (Nat.le_of_lt hz) HB2.out.size) (fun k hk => by cases hk; omega)⟩
end Go.Proofs.YtihbjimnjhfpeaaGreat.Lt

/- Walks of the reference's Root, rates, told, Rate and RateUp: contracts. -/
namespace Go.Proofs.YtihbjimnjhfpeaaGreat.Lt
open Go.RowKit Go.Lib



end Go.Proofs.YtihbjimnjhfpeaaGreat.Lt

/- Walks of Least of package lethal, with sort.Search over its test: contracts. -/
namespace Go.Proofs.YtihbjimnjhfpeaaGreat.Lt
open Go.RowKit Go.Lib Go.Maps

/-- The least temperature with at least a rate. -/
structure IsLeast (r : Int) (Z : Nat) (rate T : Int) : Prop where
  lo : -1000 ≤ T
  hi : T ≤ 2000
  warm : rate ≤ (Pm.rateD r Z T : Nat)
  less : T = -1000 ∨ ((Pm.rateD r Z (T - 1) : Nat) : Int) < rate
theorem IsLeast.same {r : Int} {Z : Nat} {q T U : Int} (hz : 1 ≤ Z) (h1 : IsLeast r Z q T) (h2 : IsLeast r Z q U) : T = U := by
  rcases Int.lt_trichotomy T U with h | h | h
  · rcases h2.less with h3 | h3
    · have := h1.lo; omega
    · have := Pm.rateD_mono (r := r) (z := Z) (show 1 ≤ (Z : Int) by omega) (show T ≤ U - 1 by omega)
      have := h1.warm; omega
  · exact h
  · rcases h1.less with h3 | h3
    · have := h2.lo; omega
    · have := Pm.rateD_mono (r := r) (z := Z) (show 1 ≤ (Z : Int) by omega) (show U ≤ T - 1 by omega)
      have := h2.warm; omega
def testB (r : Int) (Z : Nat) (q : Int) (m : Nat) : Bool := decide (q ≤ (Pm.rateD r Z (-1000 + m) : Nat))
/-- The cells of a rates box at block L. -/
def Box6 (wr : World) (L : Nat) (s : ByteArray) (r : Int) (Z : Nat) (d g : Int) (mb : Nat) : Prop :=
  wr.cell? ⟨L, 0, none⟩ = some (.string s) ∧ wr.cell? ⟨L, 1, none⟩ = some (.int .i64 r) ∧ wr.cell? ⟨L, 2, none⟩ = some (.int .i64 Z) ∧ wr.cell? ⟨L, 3, none⟩ = some (.int .i64 d) ∧ wr.cell? ⟨L, 4, none⟩ = some (.int .i64 g) ∧ wr.cell? ⟨L, 5, none⟩ = some (.map (some mb)) ∧ L < wr.heap.size
theorem grown_cell {w w' : World} {row : Option Nat} {b o : Nat} {v : Value} (hg : w.grownBy w' row) (hb : b < w.heap.size) (hne : some b ≠ row) (h : w.cell? ⟨b, o, none⟩ = some v) : w'.cell? ⟨b, o, none⟩ = some v := by
  rw [World.cell?_of_block (a := ⟨b, o, none⟩) (hg.block b hb hne)]; exact h
theorem Box6.grown {w w' : World} {row : Option Nat} {L mb : Nat} {s : ByteArray} {r d g : Int} {Z : Nat} (h : Box6 w L s r Z d g mb) (hg : w.grownBy w' row) (hne : some L ≠ row) : Box6 w' L s r Z d g mb := by
  obtain ⟨h0, h1, h2, h3, h4, h5, h6⟩ := h
  exact ⟨grown_cell hg h6 hne h0, grown_cell hg h6 hne h1, grown_cell hg h6 hne h2, grown_cell hg h6 hne h3, grown_cell hg h6 hne h4, grown_cell hg h6 hne h5, Nat.lt_of_lt_of_le h6 hg.size⟩
/-- What Least's test works on: the rates at L (their map at mb), the rate at Q. -/
def LsS (s : ByteArray) (r : Int) (Z : Nat) (d g q : Int) (L Q mb : Nat) (W : World) (c : Nat) (wr : World) : Prop :=
  Box6 wr L s r Z d g mb ∧ wr.cell? ⟨Q, 0, none⟩ = some (.int .i64 q) ∧ Q < wr.heap.size ∧ mb ≠ L ∧ mb ≠ Q ∧ MapI r Z wr mb c ∧ W.grownBy wr (some mb)

theorem LsS.cells {s : ByteArray} {r : Int} {Z : Nat} {d g q : Int} {L Q mb : Nat} {W : World} {c : Nat} {wr : World} (h : LsS s r Z d g q L Q mb W c wr) :
    wr.cell? ⟨L, 0, none⟩ = some (.string s) ∧ wr.cell? ⟨L, 1, none⟩ = some (.int .i64 r) ∧ wr.cell? ⟨L, 2, none⟩ = some (.int .i64 Z) ∧ wr.cell? ⟨L, 3, none⟩ = some (.int .i64 d) ∧ wr.cell? ⟨L, 4, none⟩ = some (.int .i64 g) ∧ wr.cell? ⟨L, 5, none⟩ = some (.map (some mb)) ∧ wr.cell? ⟨Q, 0, none⟩ = some (.int .i64 q) := by
  obtain ⟨⟨h0, h1, h2, h3, h4, h5, _⟩, h6, _⟩ := h
  exact ⟨h0, h1, h2, h3, h4, h5, h6⟩
theorem LsS.next {s : ByteArray} {r : Int} {Z : Nat} {d g q : Int} {L Q mb : Nat} {W : World} {c : Nat} {w w' : World} (h : LsS s r Z d g q L Q mb W c w) (hg : w.grownBy w' (some mb)) (hM : MapI r Z w' mb (c + 1)) : LsS s r Z d g q L Q mb W (c + 1) w' := by
  obtain ⟨h1, h2, h3, h4, h5, _, h7⟩ := h
  exact ⟨h1.grown hg (fun e => h4 (Option.some.inj e).symm), grown_cell hg h3 (fun e => h5 (Option.some.inj e).symm) h2, Nat.lt_of_lt_of_le h3 hg.size, h4, h5, hM, gtrans h7 hg⟩

theorem LsS.below {s : ByteArray} {r : Int} {Z : Nat} {d g q : Int} {L Q mb : Nat} {W : World} {c : Nat} {w w' : World} (h : LsS s r Z d g q L Q mb W c w) (hb : Below w.heap.size w w') : LsS s r Z d g q L Q mb W c w' := by
  obtain ⟨h1, h2, h3, h4, h5, h6, h7⟩ := h
  exact ⟨h1.grown (gbelow hb) (fun e => h4 (Option.some.inj e).symm), keep_cell hb h2, Nat.lt_of_lt_of_le h3 hb.size, h4, h5, h6.below hb, gtrans h7 (gbelow hb)⟩

end Go.Proofs.YtihbjimnjhfpeaaGreat.Lt

/- Walks of SameInts and Table of both: contracts. -/
namespace Go.Proofs.YtihbjimnjhfpeaaGreat.Lt
open Go.RowKit Go.Lib Go.Maps


/-- The rates at lo, lo + 1, .. -/
def ratesL (r : Int) (Z : Nat) (lo : Int) (n : Nat) : List Nat := (List.range n).map fun i => Pm.rateD r Z (lo + (i : Nat))
theorem ratesL_len (r : Int) (Z : Nat) (lo : Int) (n : Nat) : (ratesL r Z lo n).length = n := by simp [ratesL]
theorem ratesL_succ (r : Int) (Z : Nat) (lo : Int) (n : Nat) : ratesL r Z lo (n + 1) = ratesL r Z lo n ++ [Pm.rateD r Z (lo + (n : Nat))] := by simp [ratesL, List.range_succ]
theorem ratesL_get (r : Int) (Z : Nat) (lo : Int) (n k : Nat) (h : k < (ratesL r Z lo n).length) : (ratesL r Z lo n)[k] = Pm.rateD r Z (lo + (k : Nat)) := by simp [ratesL]

/-- A killer's cells at the foot of w, in a later world. -/
def KBox (s : ByteArray) (r z d g : Int) (w wr : World) : Prop :=
  wr.cell? ⟨w.heap.size, 0, none⟩ = some (.string s) ∧ wr.cell? ⟨w.heap.size, 1, none⟩ = some (.int .i64 r) ∧ wr.cell? ⟨w.heap.size, 2, none⟩ = some (.int .i64 z) ∧ wr.cell? ⟨w.heap.size, 3, none⟩ = some (.int .i64 d) ∧ wr.cell? ⟨w.heap.size, 4, none⟩ = some (.int .i64 g) ∧ w.heap.size < wr.heap.size ∧ Below w.heap.size w wr
theorem KBox.grown {s : ByteArray} {r z d g : Int} {w wr w1 : World} {row : Option Nat} (h : KBox s r z d g w wr) (hg : wr.grownBy w1 row) (hr : ∀ k, row = some k → w.heap.size < k) : KBox s r z d g w w1 := by
  obtain ⟨h0, h1, h2, h3, h4, h5, h6⟩ := h
  have hne : some w.heap.size ≠ row := fun e => absurd (hr _ e.symm) (Nat.lt_irrefl _)
  exact ⟨grown_cell hg h5 hne h0, grown_cell hg h5 hne h1, grown_cell hg h5 hne h2, grown_cell hg h5 hne h3, grown_cell hg h5 hne h4, Nat.lt_of_lt_of_le h5 hg.size, h6.grown hg h6.size (fun k hk => Nat.le_of_lt (hr k hk))⟩
theorem KBox.append {s : ByteArray} {r z d g : Int} {w wr w1 : World} {v : Value} {l : List Nat} {o : Obj} (h : KBox s r z d g w wr) (hv : RowV wr (w.heap.size + 1) v l) (hg : (wr.alloc o).grownBy w1 v.ownBlock) : KBox s r z d g w w1 :=
  (h.grown (World.grownBy_alloc wr o none) (fun k hk => by cases hk)).grown hg (fun k hk => (World.ownsRow.lt hv k hk).1)
theorem RowV.keep {w w2 : World} {base : Nat} {v : Value} {l : List Nat} (h : RowV w base v l) (hb : Below w.heap.size w w2) : RowV w2 base v l :=
  World.ownsRow.kept h ⟨hb.os, hb.tape, hb.output, hb.size, fun j hj _ => hb.block j hj⟩ (row := none) (by cases v.ownBlock <;> simp)

/-- What Table hands back. -/
def TableP (r : Int) (Z : Nat) (lo : Int) (n : Nat) (w : World) (e : Ending) (w' : World) : Prop := ∃ v, e = .returned (.tuple #[v, .int .i64 0]) ∧ RowR w' v (ratesL r Z lo n) ∧ Below w.heap.size w w'

end Go.Proofs.YtihbjimnjhfpeaaGreat.Lt

/- Walks of Quarter of both, quarterAbove, Cut: contracts. -/
namespace Go.Proofs.YtihbjimnjhfpeaaGreat.Lt
open Go.RowKit Go.Lib Go.Maps

theorem q_pos {t : Int} (h : 0 ≤ t) : t.tdiv 250 = t / 250 ∧ t.tmod 250 = t % 250 := ⟨Int.tdiv_eq_ediv_of_nonneg h, Int.tmod_eq_emod_of_nonneg h⟩
theorem q_neg0 {t : Int} (hd : t % 250 = 0) : t.tdiv 250 = t / 250 ∧ t.tmod 250 = 0 := by
  have hdvd : (250 : Int) ∣ t := Int.dvd_of_emod_eq_zero hd
  rw [Int.tdiv_eq_ediv, Int.tmod_eq_emod, if_pos (.inr hdvd), if_pos (.inr hdvd)]
  omega
theorem q_neg1 {t : Int} (h : t < 0) (hd : t % 250 ≠ 0) : t.tdiv 250 = t / 250 + 1 ∧ t.tmod 250 = t % 250 - 250 := by
  have hn : ¬ (0 ≤ t ∨ (250 : Int) ∣ t) := by
    rintro (h1 | h1)
    · omega
    · exact hd (Int.emod_eq_zero_of_dvd h1)
  rw [Int.tdiv_eq_ediv, Int.tmod_eq_emod, if_neg hn, if_neg hn]
  exact ⟨rfl, rfl⟩

set_option maxHeartbeats 1000000 in
theorem lQuarter_any (t : Int) (w : World) (h1 : -9223372036854775808 ≤ t) (h2 : t ≤ 9223372036854775807) : Calls Tryz.prog 108 #[.int .i64 t] w fun e w' => e = .returned (.int .i64 (t / 250)) ∧ w = w' := by
  rcases Int.lt_or_le t 0 with h | h
  · by_cases hd : t % 250 = 0
    · obtain ⟨e1, e2⟩ := q_neg0 hd
      go_enter Tryz.func108, Tryz.ntmps108
      go_wp2
      go_ret
      exact ⟨rfl, rfl⟩
    · obtain ⟨e1, e2⟩ := q_neg1 h hd
      have d : decide (t % 250 - 250 < 0) = true := by simp; omega
      go_enter Tryz.func108, Tryz.ntmps108
      go_wp2
      go_ret
      exact ⟨ret_int (by omega), rfl⟩
  · obtain ⟨e1, e2⟩ := q_pos h
    have d : decide (t % 250 < 0) = false := by simp; omega
    go_enter Tryz.func108, Tryz.ntmps108
    go_wp2
    go_ret
    exact ⟨rfl, rfl⟩
/-- The quarter that is not below. -/
def qUp (t : Int) : Int := if t % 250 = 0 then t / 250 else t / 250 + 1
/-- A sum, cut. -/
def cutN (a b : Nat) : Nat := min (a + b) 1000000000000000000
set_option maxHeartbeats 1000000 in
theorem cut_any (a b : Nat) (w : World) (h1 : a ≤ 1000000000000000000) (h2 : b ≤ 1000000000000000000) : Calls Tryz.prog 154 #[.int .i64 a, .int .i64 b] w fun e w' => e = .returned (.int .i64 (cutN a b : Nat)) ∧ w = w' := by
  by_cases h : a + b < 1000000000000000000
  · have hc : Hid (((cutN a b : Nat) : Int) = (a : Int) + b) := by unfold Hid cutN; omega
    have d1 : ¬ 1000000000000000000 ≤ (a : Int) := by omega
    have d2 : ¬ 1000000000000000000 ≤ (b : Int) := by omega
    have d3 : ¬ 1000000000000000000 ≤ (a : Int) + b := by omega
    go_enter Tryz.func154, Tryz.ntmps154
    go_wp2
    go_ret
    exact ⟨ret_int hc.out.symm, rfl⟩
  · have hc : Hid (cutN a b = 1000000000000000000) := by unfold Hid cutN; omega
    have d3 : 1000000000000000000 ≤ (a : Int) + b := by omega
    by_cases d1 : 1000000000000000000 ≤ (a : Int)
    · go_enter Tryz.func154, Tryz.ntmps154
      go_wp2
      go_ret
      exact ⟨by rw [hc.out]; rfl, rfl⟩
    by_cases d2 : 1000000000000000000 ≤ (b : Int)
    · go_enter Tryz.func154, Tryz.ntmps154
      go_wp2
      go_ret
      exact ⟨by rw [hc.out]; rfl, rfl⟩
    · go_enter Tryz.func154, Tryz.ntmps154
      go_wp2
      go_ret
      exact ⟨by rw [hc.out]; rfl, rfl⟩
end Go.Proofs.YtihbjimnjhfpeaaGreat.Lt
