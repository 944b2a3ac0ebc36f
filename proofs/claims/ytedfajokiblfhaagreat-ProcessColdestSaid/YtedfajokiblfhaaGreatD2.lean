/- Texts of this seat, one behind the other. -/
import Derived.Test.YtedfajokiblfhaaGreatA6
import Derived.Test.YtedfajokiblfhaaGreatC1
import Derived.Test.YtedfajokiblfhaaGreatC5
/- Walks of Coldest, Hottest and Centre of both: contracts. -/
namespace Go.Proofs.YtedfajokiblfhaaGreat
open Go.RowKit

/-- Three numbers come back. -/
def TripP (p t n : Int) (w : World) (e : Ending) (w' : World) : Prop := e = .returned (.tuple #[.int .i64 p, .int .i64 t, .int .i64 n]) ∧ Below w.heap.size w w'
/-- The foremost place of a body, its temperature, and an error. -/
def bestP (lt : Int → Int → Bool) (v : Bool) (T : List Int) : Int := if v then ((bestT lt T T.length).1 : Nat) else 0
def bestV (lt : Int → Int → Bool) (v : Bool) (T : List Int) : Int := if v then (bestT lt T T.length).2 else 0
def bestE (v : Bool) : Int := if v then 0 else 1
theorem below_two {w w' : World} (h : ∃ n, w' = w.drewN n) : Below w.heap.size w w' := by obtain ⟨n, rfl⟩ := h; exact bdrewN (Below.refl _ _)

/-- What Coldest and Hottest hand back. -/
def BestP (lt : Int → Int → Bool) (v : Bool) (T : List Int) (w : World) : Ending → World → Prop := TripP (bestP lt v T) (bestV lt v T) (bestE v) w
end Go.Proofs.YtedfajokiblfhaaGreat

/- Walks of least, Coldest, Hottest and Centre of the reference, and of Centre: contracts. -/
namespace Go.Proofs.YtedfajokiblfhaaGreat
open Go.RowKit

theorem Box1.two {w w1 : World} {d0 d1 : Value} (h : Box1 w w1 #[d0, d1]) : w1.cell? ⟨w.heap.size, 0, none⟩ = some d0 ∧ w1.cell? ⟨w.heap.size, 1, none⟩ = some d1 := ⟨h.fst 0, h.fst 1⟩
theorem bestT_of {lt : Int → Int → Bool} {T : List Int} {k j : Nat} (hj : j < T.length) (hk : k ≤ T.length) (h : (bestT lt T k).1 = j) : (bestT lt T k).2 = T[j] := by
  obtain ⟨h1, h2⟩ := bestT_at lt T k hk (by omega)
  subst h
  rw [← h2, getD_at h1]
theorem bestT_step {lt : Int → Int → Bool} {T : List Int} {k j : Nat} (hj : j < T.length) (hk : k < T.length) (h : (bestT lt T k).1 = j) : (bestT lt T (k + 1)).1 = if lt T[k] T[j] then k else j := by
  have h2 := bestT_of hj (by omega) h
  cases hb : lt T[k] T[j]
  · rw [bestT_no (v := T[k]) (getD_at hk) (by rw [h2]; exact hb), h]; rfl
  · rw [bestT_yes (v := T[k]) (getD_at hk) (by rw [h2]; exact hb)]; rfl

set_option maxRecDepth 20000 in
set_option maxHeartbeats 2000000 in
theorem least_any (w : World) (v : Value) (T : List Int) (br : Bool) (hl : RowI w v T) (h0 : 0 < T.length) :
    Calls Tryz.prog 142 #[.agg #[v, .bool br]] w fun e w' => e = .returned (.tuple #[.int .i64 ((bestT ltB T T.length).1 : Nat), .int .i64 (bestT ltB T T.length).2]) ∧ Below w.heap.size w w' := by
  obtain ⟨b, o, cap, rfl, hc⟩ := hl.some h0
  have hm : T.length ≤ maxLen := by rcases hl with ⟨_, _, _, h⟩ | ⟨_, _, _, _, h, _⟩ <;> simp_all [maxLen]
  unfold maxLen at hm
  have HC := hid (fun w1 (g : Below w.heap.size w w1) j h => keep_cell g (hc j h))
  clear hc hl
  have BX := hid (box1_start (w := w) (A := #[.slice (some ⟨b, o, none⟩) T.length cap, .bool br]) (T := 67) (fz := (0, 0)))
  obtain ⟨x0, x1⟩ := BX.out.two
  go_enter Tryz.func142, Tryz.ntmps142
  go_wp2_with fail
  go_loopw [4, 5] (fun p i wr => ∃ k j : Nat, k ≤ T.length ∧ j < T.length ∧ p = .int .i64 (j : Int) ∧ i = .int .i64 (k : Int) ∧ Hid ((bestT ltB T k).1 = j) ∧ Hid (Box1 w wr #[.slice (some ⟨b, o, none⟩) T.length cap, .bool br])) (fun _ i _ => T.length - (intOf i).toNat)
  case atStart => exact ⟨0, 0, Nat.zero_le _, h0, rfl, rfl, rfl, BX⟩
  case round =>
    obtain ⟨k, j, hk, hj, rfl, rfl, HB, BX⟩ := hrel
    clear x0 x1
    obtain ⟨x0, x1⟩ := BX.out.two
    have ey := HC.out _ BX.out.low j hj
    by_cases hlt : k < T.length
    · have ex := HC.out _ BX.out.low k hlt
      have HST := hid (bestT_step hj hlt HB.out)
      by_cases he : T[k] < T[j]
      · have hb : ltB T[k] T[j] = true := by simpa [ltB] using he
        rw [hb] at HST
        generalize T[k] = s at ex he
        generalize T[j] = q at ey he
        clear hb
        go_wp2
        go_quiet (fail)
        go_wp2
        go_roundw
        case rel => exact ⟨k + 1, k, by omega, hlt, rfl, by go_num, HST, hid (BX.out.keep (bdrewN (Below.refl _ _)))⟩
        case measure => simp [intOf]; omega
      · have hb : ltB T[k] T[j] = false := by simpa [ltB] using he
        rw [hb] at HST
        generalize T[k] = s at ex he
        generalize T[j] = q at ey he
        clear hb
        go_wp2
        go_quiet (fail)
        go_wp2
        go_roundw
        case rel => exact ⟨k + 1, j, by omega, hj, rfl, by go_num, HST, hid (BX.out.keep (bdrewN (Below.refl _ _)))⟩
        case measure => simp [intOf]; omega
    · obtain rfl : k = T.length := by omega
      have HV := hid (bestT_of hj (Nat.le_refl _) HB.out)
      generalize T[j] = q at ey HV
      go_wp2
      go_quiet (fail)
      go_wp2
      go_ret2
      exact ⟨by rw [HB.out, HV.out]; rfl, bdrewN BX.out.low⟩
end Go.Proofs.YtedfajokiblfhaaGreat

/- Plain facts of the reference's run of a can: its body, what each place has got (down and up), the sum of the coldest temperatures' rates. -/
namespace Go.Proofs.YtedfajokiblfhaaGreat
open Go.RowKit

structure Rs where
  x : Bd
  d : List Nat
  u : List Nat
  k : Nat
def rsT (c : Cn) (f g : Int → Nat) (s : Rs) (b : Int) : Rs := ⟨tickS c s.x b, addD f s.d (tickS c s.x b).1, addD g s.u (tickS c s.x b).1, Lt.cutN s.k (f (minT (tickS c s.x b).1))⟩
def rsR (c : Cn) (f g : Int → Nat) (s : Rs) (l : List Int) : Rs := l.foldl (rsT c f g) s
def rs0 (c : Cn) (t : Int) : Rs := ⟨evB c t, List.replicate c.P 0, List.replicate c.P 0, 0⟩
theorem rsR_nil (c : Cn) (f g : Int → Nat) (s : Rs) : rsR c f g s [] = s := rfl
theorem rsR_append (c : Cn) (f g : Int → Nat) (s : Rs) (l m : List Int) : rsR c f g s (l ++ m) = rsR c f g (rsR c f g s l) m := List.foldl_append
theorem rsR_succ (c : Cn) (f g : Int → Nat) (s : Rs) (l : List Int) (k : Nat) (hk : k < l.length) : rsR c f g s (l.take (k + 1)) = rsT c f g (rsR c f g s (l.take k)) l[k] := by
  rw [List.take_add_one, rsR_append]
  simp [hk, rsR]
theorem rsR_d (c : Cn) (f g : Int → Nat) : ∀ (l : List Int) (s : Rs), ((rsR c f g s l).x, (rsR c f g s l).d) = dishR c f (s.x, s.d) l
  | [], _ => rfl
  | b :: l, s => rsR_d c f g l (rsT c f g s b)
theorem rsR_u (c : Cn) (f g : Int → Nat) : ∀ (l : List Int) (s : Rs), ((rsR c f g s l).x, (rsR c f g s l).u) = dishR c g (s.x, s.u) l
  | [], _ => rfl
  | b :: l, s => rsR_u c f g l (rsT c f g s b)
theorem rsR_down (c : Cn) (f g : Int → Nat) (t : Int) (l : List Int) : (rsR c f g (rs0 c t) l).d = (dishR c f (dish0 c t) l).2 := congrArg Prod.snd (rsR_d c f g l (rs0 c t))
theorem rsR_up (c : Cn) (f g : Int → Nat) (t : Int) (l : List Int) : (rsR c f g (rs0 c t) l).u = (dishR c g (dish0 c t) l).2 := congrArg Prod.snd (rsR_u c f g l (rs0 c t))
/-- The run has a temperature and two sums for each place. -/
structure GoodR (c : Cn) (s : Rs) : Prop where
  down : Good c (s.x, s.d)
  up : Good c (s.x, s.u)
  kle : s.k ≤ 1000000000000000000
theorem rs0_good {c : Cn} {t : Int} (h : okT t = true) : GoodR c (rs0 c t) := ⟨dish0_good h, dish0_good h, Nat.zero_le _⟩
theorem GoodR.tick {c : Cn} {f g : Int → Nat} {s : Rs} {b : Int} (hc : c.Ok) (h : GoodR c s) (hb : okT b = true) : GoodR c (rsT c f g s b) :=
  ⟨h.down.tick hc hb, h.up.tick hc hb, cutN_le _ _⟩
theorem GoodR.run {c : Cn} {f g : Int → Nat} {s : Rs} {l : List Int} (hc : c.Ok) (h : GoodR c s) (hl : okL l = true) : GoodR c (rsR c f g s l) := by
  induction l generalizing s with
  | nil => exact h
  | cons b l ih =>
    unfold okL at hl
    rw [List.all_cons, Bool.and_eq_true] at hl
    exact ih (h.tick hc hl.1) hl.2
theorem GoodR.warm {c : Cn} {s : Rs} (h : GoodR c s) : Warm c (s.x.1, s.x.2) := by
  obtain ⟨h1, _, h3⟩ := bodyV_iff.1 h.down.body
  exact ⟨h1, okL_bd h3⟩
theorem okL_take {l : List Int} (h : okL l = true) (k : Nat) : okL (l.take k) = true :=
  List.all_eq_true.2 fun x hx => List.all_eq_true.1 h x (List.mem_of_mem_take hx)
theorem addD_take {f : Int → Nat} {S : List Nat} {T : List Int} {k : Nat} (h1 : k < S.length) (h2 : k < T.length) : (addD f S T).take (k + 1) = (addD f S T).take k ++ [Lt.cutN S[k] (f T[k])] := by
  have hk : k < (addD f S T).length := by simp [addD]; omega
  rw [List.take_add_one, List.getElem?_eq_getElem hk, addD_get hk h1 h2]
  rfl
/-- The first of the least sums. -/
theorem best_all (S : List Int) (k : Nat) : (∀ i (h : i < S.length), i < k → (bestT ltB S k).2 ≤ S[i]) ∧ (k ≤ S.length → 0 < S.length → ∀ i (h : i < S.length), i < (bestT ltB S k).1 → (bestT ltB S k).2 < S[i]) := by
  induction k with
  | zero => exact ⟨fun i _ h => by omega, fun _ _ i _ h => by simp [bestT] at h⟩
  | succ k ih =>
    refine ⟨fun i h hi => ?_, fun hk h0 i h hi => ?_⟩
    · rcases Nat.lt_or_ge i k with h1 | h1
      · have := ih.1 i h h1
        unfold bestT
        split
        · rename_i g
          simp only [ltB, decide_eq_true_eq] at g
          dsimp only; omega
        · exact this
      · obtain rfl : i = k := by omega
        unfold bestT
        rw [getD_at h]
        split
        · exact Int.le_refl _
        · rename_i g
          simp only [ltB, decide_eq_true_eq] at g
          omega
    · unfold bestT at hi ⊢
      rw [getD_at (by omega : k < S.length)] at hi ⊢
      split at hi
      · rename_i g
        rw [if_pos g]
        simp only [ltB, decide_eq_true_eq] at g
        have := ih.1 i h hi
        dsimp only; omega
      · rename_i g
        rw [if_neg g]
        exact ih.2 (by omega) h0 i h hi
theorem best_min {S : List Int} (h0 : 0 < S.length) : (bestT ltB S S.length).2 = minA S ∧ (bestT ltB S S.length).1 = idxA S (minA S) := by
  obtain ⟨h1, h2⟩ := bestT_at ltB S S.length (Nat.le_refl _) h0
  have hb := best_all S S.length
  have e1 : (bestT ltB S S.length).2 = minA S := minA_uniq (by rw [← h2, getD_at h1]; exact List.getElem_mem _) fun x hx => by
    obtain ⟨i, hi, rfl⟩ := List.getElem_of_mem hx
    exact hb.1 i hi hi
  refine ⟨e1, ?_⟩
  have hlt : idxA S (minA S) < S.length := List.findIdx_lt_length_of_exists ⟨minA S, minA_mem h0, by simp⟩
  have hget : S[idxA S (minA S)] = minA S := by
    have h1 := List.findIdx_getElem (p := fun y => y == minA S) (xs := S) (w := hlt)
    simp only [beq_iff_eq] at h1
    exact h1
  rcases Nat.lt_trichotomy (bestT ltB S S.length).1 (idxA S (minA S)) with g | g | g
  · exfalso
    have := List.not_of_lt_findIdx g
    rw [getD_at h1, e1] at h2
    simp [h2] at this
  · exact g
  · exfalso
    have := hb.2 (Nat.le_refl _) h0 _ hlt g
    rw [hget, e1] at this
    omega
end Go.Proofs.YtedfajokiblfhaaGreat
