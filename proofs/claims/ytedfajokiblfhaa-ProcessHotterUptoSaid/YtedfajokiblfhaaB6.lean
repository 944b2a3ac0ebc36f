/- Texts of this seat, one behind the other. -/
import Derived.Test.YtedfajokiblfhaaB5
import Derived.Maps.AppendAt
/- Walks of Quarter of both, quarterAbove, Cut: contracts. -/
namespace Go.Proofs.Ytedfajokiblfhaa.Lt
open Go.RowKit Go.Lib Go.Maps

theorem q_pos {t : Int} (h : 0 ≤ t) : t.tdiv 250 = t / 250 ∧ t.tmod 250 = t % 250 := ⟨Int.tdiv_eq_ediv_of_nonneg h, Int.tmod_eq_emod_of_nonneg h⟩
theorem q_neg0 {t : Int} (hd : t % 250 = 0) : t.tdiv 250 = t / 250 ∧ t.tmod 250 = 0 := by
  have hdvd : (250 : Int) ∣ t := Int.dvd_of_emod_eq_zero hd
  rw [Int.tdiv_eq_ediv, Int.tmod_eq_emod, if_pos (.inr hdvd), if_pos (.inr hdvd)]
  omega
theorem q_neg1 {t : Int} (h : t < 0) (hd : t % 250 ≠ 0) : t.tdiv 250 = t / 250 + 1 ∧ t.tmod 250 = t % 250 - 250 := by
  have hn : ¬ (0 ≤ t ∨ (250 : Int) ∣ t) := by
    rintro (h1 | h1)
    · omega
    · exact hd (Int.emod_eq_zero_of_dvd h1)
  rw [Int.tdiv_eq_ediv, Int.tmod_eq_emod, if_neg hn, if_neg hn]
  exact ⟨rfl, rfl⟩

set_option maxHeartbeats 1000000 in
theorem lQuarter_any (t : Int) (w : World) (h1 : -9223372036854775808 ≤ t) (h2 : t ≤ 9223372036854775807) : Calls Try.prog 61 #[.int .i64 t] w fun e w' => e = .returned (.int .i64 (t / 250)) ∧ w = w' := by
  rcases Int.lt_or_le t 0 with h | h
  · by_cases hd : t % 250 = 0
    · obtain ⟨e1, e2⟩ := q_neg0 hd
      go_enter Try.func61, Try.ntmps61
      go_wp2
      go_ret
      exact ⟨rfl, rfl⟩
    · obtain ⟨e1, e2⟩ := q_neg1 h hd
      have d : decide (t % 250 - 250 < 0) = true := by simp; omega
      go_enter Try.func61, Try.ntmps61
      go_wp2
      go_ret
      exact ⟨ret_int (by omega), rfl⟩
  · obtain ⟨e1, e2⟩ := q_pos h
    have d : decide (t % 250 < 0) = false := by simp; omega
    go_enter Try.func61, Try.ntmps61
    go_wp2
    go_ret
    exact ⟨rfl, rfl⟩
/-- The quarter that is not below. -/
def qUp (t : Int) : Int := if t % 250 = 0 then t / 250 else t / 250 + 1
/-- A sum, cut. -/
def cutN (a b : Nat) : Nat := min (a + b) 1000000000000000000
end Go.Proofs.Ytedfajokiblfhaa.Lt

/- Walks of asked and checkTemps: contracts. -/
namespace Go.Proofs.Ytedfajokiblfhaa.Lt
open Go.RowKit Go.Lib Go.Maps

/-- A slice of ints that is read, from any place of a row. -/
def RowI (w : World) (v : Value) (l : List Int) : Prop := (∃ a cap, v = .slice a 0 cap ∧ l = []) ∨ ∃ b o cap, v = .slice (some ⟨b, o, none⟩) l.length cap ∧ l.length ≤ maxLen ∧ ∀ k (h : k < l.length), w.cell? ⟨b, o + k, none⟩ = some (.int .i64 l[k])
theorem RowI.keep {W w2 : World} {v : Value} {l : List Int} (h : RowI W v l) (hb : Below W.heap.size W w2) : RowI w2 v l := by
  rcases h with h | ⟨b, o, cap, hv, hm, hc⟩
  · exact .inl h
  · exact .inr ⟨b, o, cap, hv, hm, fun k hk => keep_cell hb (hc k hk)⟩
def okT (t : Int) : Bool := decide (-50000 ≤ t) && decide (t ≤ 200000)
def okL (l : List Int) : Bool := l.all okT
theorem okL_all {l : List Int} (h : okL l = true) (k : Nat) (hk : k < l.length) : okT l[k] = true := List.all_eq_true.1 h _ (List.getElem_mem hk)
theorem okL_end {l : List Int} {k : Nat} (h : ∀ j (hj : j < l.length), j < k → okT l[j] = true) (hk : k = l.length) : okL l = true := by
  subst hk
  refine List.all_eq_true.2 fun x hx => ?_
  obtain ⟨j, hj, rfl⟩ := List.getElem_of_mem hx
  exact h j hj hj
theorem okL_bad {l : List Int} {k : Nat} (hk : k < l.length) (h : okT l[k] = false) : okL l = false := by
  cases ho : okL l with
  | false => rfl
  | true => rw [okL_all ho k hk] at h; cases h
/-- The first error of temperatures. -/
def askE (v : Bool) (l : List Int) : Int := if v = false then 1 else if 10000 < l.length then 4 else if okL l then 0 else 7
theorem askE_inv (l : List Int) : askE false l = 1 := rfl
theorem askE_long {l : List Int} (h : 10000 < l.length) : askE true l = 4 := by unfold askE; rw [if_neg (by simp), if_pos h]
theorem askE_ok {l : List Int} (h : ¬ 10000 < l.length) (ho : okL l = true) : askE true l = 0 := by unfold askE; rw [if_neg (by simp), if_neg h, ho]; rfl
theorem askE_bad {l : List Int} (h : ¬ 10000 < l.length) (ho : okL l = false) : askE true l = 7 := by unfold askE; rw [if_neg (by simp), if_neg h, ho]; rfl


set_option maxHeartbeats 4000000 in
theorem checkTemps_any (s : ByteArray) (r z d g : Int) (w : World) (hs : s.size ≤ maxLen) (v : Value) (l : List Int) (hl : RowI w v l) :
    Calls Try.prog 44 #[.agg #[.string s, .int .i64 r, .int .i64 z, .int .i64 d, .int .i64 g], v] w fun e w' => e = .returned (.int .i64 (askE (validB s.data.toList r z d g) l)) ∧ Below w.heap.size w w' := by
  have hshape : ∃ a cap, v = .slice a l.length cap := by
    rcases hl with ⟨_, _, rfl, rfl⟩ | ⟨b, o, cap, rfl, _, _⟩
    · exact ⟨_, _, rfl⟩
    · exact ⟨_, _, rfl⟩
  cases hv : validB s.data.toList r z d g
  · obtain ⟨a, cap, rfl⟩ := hshape
    clear hl
    go_enter Try.func44, Try.ntmps44
    go_wp2_with (go_at_call 51; refine (lvalid_any _ _ _ _ _ _ hs).mono ?_; rintro e w1 ⟨rfl, hb⟩; obtain ⟨b0, b1, b2, b3, b4, hz, hB⟩ := box5_below hb; clear hb)
    go_ret
    exact ⟨rfl, hB⟩
  by_cases hlen : 10000 < l.length
  · obtain ⟨a, cap, rfl⟩ := hshape
    clear hl
    have hE := hid (askE_long hlen)
    have hlen' : (10000 : Int) < l.length := by omega
    go_enter Try.func44, Try.ntmps44
    go_wp2_with (go_at_call 51; refine (lvalid_any _ _ _ _ _ _ hs).mono ?_; rintro e w1 ⟨rfl, hb⟩; obtain ⟨b0, b1, b2, b3, b4, hz, hB⟩ := box5_below hb; clear hb)
    go_ret
    exact ⟨by rw [hE.out]; rfl, hB⟩
  have hlen' : ¬ (10000 : Int) < l.length := by omega
  rcases hl with ⟨a0, c0, rfl, rfl⟩ | ⟨b, o, cap, rfl, hm, hc⟩
  · have hE := hid (askE_ok hlen (show okL [] = true from rfl))
    go_enter Try.func44, Try.ntmps44
    go_wp2_with (go_at_call 51; refine (lvalid_any _ _ _ _ _ _ hs).mono ?_; rintro e w1 ⟨rfl, hb⟩; obtain ⟨b0, b1, b2, b3, b4, hz, hB⟩ := box5_below hb; clear hb)
    refine wp_loop_rounds 1 ?_
    rw [rounds_succ]
    go_wp2
    go_ret
    exact ⟨by rw [hE.out]; rfl, hB⟩
  · have HC := hid hc; clear hc hshape
    go_enter Try.func44, Try.ntmps44
    go_wp2_with (go_at_call 51; refine (lvalid_any _ _ _ _ _ _ hs).mono ?_; rintro e w1 ⟨rfl, hb⟩; have HC1 := hid (fun k hk => keep_cell (balloc hb) (HC.out k hk)); obtain ⟨b0, b1, b2, b3, b4, hz, hB⟩ := box5_below hb; clear hb)
    have HB := hid hB; clear hB b0 b1 b2 b3 b4 hz
    go_loopw [15] (fun i wr => ∃ k : Nat, k ≤ l.length ∧ i = .int .i64 (k : Int) ∧ Hid (∀ j (hj : j < l.length), j < k → okT l[j] = true) ∧ wr = w1) (fun i _ => l.length - (intOf i).toNat)
    case atStart => exact ⟨0, Nat.zero_le _, rfl, fun j _ h => absurd h (Nat.not_lt_zero _), rfl⟩
    case round =>
      obtain ⟨k, hk, rfl, hok, rfl⟩ := hrel
      by_cases hlt : k < l.length
      · have ex := HC1.out k hlt
        have hlt' : (k : Int) < l.length := by omega
        cases ho : okT l[k]
        · have hE := hid (askE_bad hlen (okL_bad hlt ho))
          generalize l[k] = x at ex ho
          change (decide (-50000 ≤ x) && decide (x ≤ 200000)) = false at ho
          go_wp2_with (go_at_call 72; refine (within_any _ _ _ _).mono ?_; rintro e w' ⟨rfl, rfl⟩)
          go_ret
          exact ⟨by rw [hE.out]; rfl, HB.out⟩
        · have hst : Hid (∀ j (hj : j < l.length), j < k + 1 → okT l[j] = true) := fun j hj h => by
            rcases Nat.lt_or_ge j k with h1 | h1
            · exact hok.out j hj h1
            · obtain rfl : j = k := by omega
              exact ho
          generalize l[k] = x at ex ho
          change (decide (-50000 ≤ x) && decide (x ≤ 200000)) = true at ho
          go_wp2_with (go_at_call 72; refine (within_any _ _ _ _).mono ?_; rintro e w' ⟨rfl, rfl⟩)
          go_roundw
          case rel => exact ⟨k + 1, by omega, by go_num, hst, by first | trivial | rfl⟩
          case measure => simp [intOf]; omega
      · obtain rfl : k = l.length := by omega
        have hE := hid (askE_ok hlen (okL_end hok.out rfl))
        go_wp2
        go_ret
        exact ⟨by rw [hE.out]; rfl, HB.out⟩
end Go.Proofs.Ytedfajokiblfhaa.Lt

/- Walk of For: contract. -/
namespace Go.Proofs.Ytedfajokiblfhaa.Lt
open Go.RowKit Go.Lib Go.Maps

theorem blk_set {w : World} {b i : Nat} {cs : Array Value} {T : TypeId} {fz : Nat × Nat} {v : Value} (h : w.heap[b]? = some (.cells cs T fz)) : (w.setCell ⟨b, i, none⟩ v).heap[b]? = some (.cells (cs.setIfInBounds i v) T fz) := by
  obtain ⟨hlt, hk⟩ := Array.getElem?_eq_some_iff.1 h
  show (w.heap.modify b _)[b]? = _
  rw [Array.getElem?_eq_getElem (by rw [Array.size_modify]; exact hlt), Array.getElem_modify_self, hk]
  rfl
theorem blk_cell {w : World} {b i : Nat} {cs : Array Value} {T : TypeId} {fz : Nat × Nat} (h : w.heap[b]? = some (.cells cs T fz)) : w.cell? ⟨b, i, none⟩ = cs[i]? := by
  unfold World.cell?
  show (match w.heap[b]? with | some (.cells c _ _) => _ | _ => _) = _
  rw [h]
  rfl
theorem blk_free {w : World} {b i : Nat} {cs : Array Value} {T : TypeId} (h : w.heap[b]? = some (.cells cs T (0, 0))) : w.frozen? ⟨b, i, none⟩ = false := by
  unfold World.frozen?
  show (match w.heap[b]? with | some (.cells _ _ (lo, hi)) => (decide (lo ≤ i) && decide (i < hi)) | _ => false) = false
  rw [h]
  simp
def ivI (l : List Int) : List Value := l.map (Value.int .i64)
theorem ivI_append (a b : List Int) : ivI (a ++ b) = ivI a ++ ivI b := by simp [ivI]

theorem row_succ {W : World} {base : Nat} {e : TypeId} {size : Nat} {v : Value} {k : Nat} {xs : List Value} (h : W.ownsRow base e size v (k + 1) xs) : ∃ g cap, v = .slice (some ⟨g, 0, none⟩) (k + 1) cap := by
  rcases h.2 with ⟨_, h0⟩ | ⟨g, cap, _, rfl, _⟩
  · omega
  · exact ⟨g, cap, rfl⟩
theorem size_set (w : World) (a : Addr) (u : Value) : (w.setCell a u).heap.size = w.heap.size := by simp [World.setCell]
theorem cell_one_set {w : World} {a : Addr} {u' c : Value} {T : TypeId} : ∀ j u, [c][j]? = some u → ((w.setCell a u').alloc (.cells #[c] T)).cell? ((⟨w.heap.size, 0, none⟩ : Addr).add j) = some u := by
  have h := cell_one_at (w := w.setCell a u') (c := c) (T := T)
  rw [size_set] at h
  exact h
def negs (k : Nat) : List Int := List.replicate k (-1)
theorem negs_succ (k : Nat) : negs (k + 1) = negs k ++ [-1] := by unfold negs; rw [List.replicate_succ']
theorem negs_len (k : Nat) : (negs k).length = k := by simp [negs]

end Go.Proofs.Ytedfajokiblfhaa.Lt

/- Walk of ask: contract. -/
namespace Go.Proofs.Ytedfajokiblfhaa.Lt
open Go.RowKit Go.Lib Go.Maps

section
variable {s : ByteArray} {r z d g : Int} {w wr w2 : World} {b gD gU cD cU n q : Nat} {l1 l2 : List Int} {vD vU : Value}
end

/-- The rows of kept rates: not asked for, or the rate. -/
def RowsOk (r z : Int) (l1 l2 : List Int) : Prop := l1.length = 1003 ∧ l2.length = 1003 ∧ ∀ q : Nat, q < 1003 → l1[q]? = some (-1) ∨ (l1[q]? = some ((Pm.rateD r z ((q : Int) - 200) : Nat) : Int) ∧ l2[q]? = some ((Pm.rateU r z ((q : Int) - 200) : Nat) : Int))
theorem RowsOk.set {r z : Int} {l1 l2 : List Int} (h : RowsOk r z l1 l2) (q : Nat) : RowsOk r z (l1.set q ((Pm.rateD r z ((q : Int) - 200) : Nat) : Int)) (l2.set q ((Pm.rateU r z ((q : Int) - 200) : Nat) : Int)) := by
  obtain ⟨h1, h2, h3⟩ := h
  refine ⟨by rw [List.length_set]; exact h1, by rw [List.length_set]; exact h2, fun k hk => ?_⟩
  by_cases e : q = k
  · subst e
    exact .inr ⟨by rw [List.getElem?_set_self (by omega)], by rw [List.getElem?_set_self (by omega)]⟩
  · rw [List.getElem?_set_ne e, List.getElem?_set_ne e]; exact h3 k hk
def KnownAt (r z : Int) (l1 l2 : List Int) (q : Nat) : Prop := l1[q]? = some ((Pm.rateD r z ((q : Int) - 200) : Nat) : Int) ∧ l2[q]? = some ((Pm.rateU r z ((q : Int) - 200) : Nat) : Int)
theorem KnownAt.put {r z : Int} {l1 l2 : List Int} {q : Nat} (h1 : q < l1.length) (h2 : q < l2.length) :
    (∀ k, KnownAt r z l1 l2 k → KnownAt r z (l1.set q ((Pm.rateD r z ((q : Int) - 200) : Nat) : Int)) (l2.set q ((Pm.rateU r z ((q : Int) - 200) : Nat) : Int)) k) ∧
    (l1.set q ((Pm.rateD r z ((q : Int) - 200) : Nat) : Int))[q]? = some ((Pm.rateD r z ((q : Int) - 200) : Nat) : Int) ∧ (l2.set q ((Pm.rateU r z ((q : Int) - 200) : Nat) : Int))[q]? = some ((Pm.rateU r z ((q : Int) - 200) : Nat) : Int) := by
  refine ⟨fun k hk => ?_, List.getElem?_set_self h1, List.getElem?_set_self h2⟩
  by_cases e : q = k
  · subst e
    exact ⟨List.getElem?_set_self h1, List.getElem?_set_self h2⟩
  · unfold KnownAt
    rw [List.getElem?_set_ne e, List.getElem?_set_ne e]; exact hk
theorem rowsOk_start (r z : Int) : RowsOk r z (negs 1003) (negs 1003) := ⟨negs_len _, negs_len _, fun q hq => .inl (by unfold negs; rw [List.getElem?_replicate, if_pos hq])⟩


/-- What a cell holds, whatever it is. -/
def cellV (w : World) (g q : Nat) : Value := (w.cell? ⟨g, q, none⟩).getD (.int .i64 0)
theorem cellV_of {w : World} {g q : Nat} {u : Value} (h : w.cell? ⟨g, q, none⟩ = some u) : w.cell? ⟨g, q, none⟩ = some (cellV w g q) := by unfold cellV; rw [h]; rfl
theorem cellV_set {w : World} {g q h k : Nat} {u : Value} (e : w.cell? ⟨g, q, none⟩ = some (cellV w g q)) : (w.setCell ⟨h, k, none⟩ u).cell? ⟨g, q, none⟩ = some (cellV (w.setCell ⟨h, k, none⟩ u) g q) := by
  by_cases he : (⟨h, k, none⟩ : Addr) = ⟨g, q, none⟩
  · exact cellV_of (u := u) (by rw [he]; exact World.cell?_setCell_same' _ _ _ (by rw [e]; rfl))
  · exact cellV_of (u := cellV w g q) (by rw [World.cell?_setCell_other _ _ _ _ he]; exact e)
/-- What a region of ask holds. -/
def AskS (s : ByteArray) (r z d g : Int) (b gD gU cD cU q : Nat) (w' : World) : Prop :=
  w'.cell? ⟨b, 0, none⟩ = some (.string s) ∧ w'.cell? ⟨b, 1, none⟩ = some (.int .i64 r) ∧ w'.cell? ⟨b, 2, none⟩ = some (.int .i64 z) ∧ w'.cell? ⟨b, 3, none⟩ = some (.int .i64 d) ∧ w'.cell? ⟨b, 4, none⟩ = some (.int .i64 g) ∧ w'.cell? ⟨b, 5, none⟩ = some (.slice (some ⟨gD, 0, none⟩) 1003 cD) ∧ w'.cell? ⟨b, 6, none⟩ = some (.slice (some ⟨gU, 0, none⟩) 1003 cU) ∧
  w'.cell? ⟨gD, q, none⟩ = some (cellV w' gD q) ∧ w'.frozen? ⟨gD, q, none⟩ = false ∧ w'.cell? ⟨gU, q, none⟩ = some (cellV w' gU q) ∧ w'.frozen? ⟨gU, q, none⟩ = false
theorem AskS.store {s : ByteArray} {r z d g : Int} {b gD gU cD cU q h k : Nat} {w' : World} {u : Value} (e : AskS s r z d g b gD gU cD cU q w') (hb : h ≠ b) : AskS s r z d g b gD gU cD cU q (w'.setCell ⟨h, k, none⟩ u) := by
  obtain ⟨h0, h1, h2, h3, h4, h5, h6, h7, h8, h9, h10⟩ := e
  have ho : ∀ i v, w'.cell? ⟨b, i, none⟩ = some v → (w'.setCell ⟨h, k, none⟩ u).cell? ⟨b, i, none⟩ = some v := fun i v e => by
    rw [World.cell?_setCell_other _ _ _ _ (fun e => hb (by cases e; rfl))]; exact e
  exact ⟨ho _ _ h0, ho _ _ h1, ho _ _ h2, ho _ _ h3, ho _ _ h4, ho _ _ h5, ho _ _ h6, cellV_set h7, (World.frozen?_setCell _ _ _ _).trans h8, cellV_set h9, (World.frozen?_setCell _ _ _ _).trans h10⟩

/-- All blocks but two stay. -/
structure Still (gD gU : Nat) (w w' : World) : Prop where
  size : w.heap.size ≤ w'.heap.size
  block : ∀ j, j < w.heap.size → j ≠ gD → j ≠ gU → w'.heap[j]? = w.heap[j]?
theorem Still.refl (gD gU : Nat) (w : World) : Still gD gU w w := ⟨Nat.le_refl _, fun _ _ _ _ => rfl⟩
theorem Still.trans {gD gU : Nat} {a b c : World} (h : Still gD gU a b) (h' : Still gD gU b c) : Still gD gU a c :=
  ⟨Nat.le_trans h.size h'.size, fun j hj h1 h2 => (h'.block j (Nat.lt_of_lt_of_le hj h.size) h1 h2).trans (h.block j hj h1 h2)⟩
theorem Still.below {gD gU : Nat} {a b : World} (h : Below a.heap.size a b) : Still gD gU a b := ⟨h.size, fun j hj _ _ => h.block j hj⟩
theorem Still.setD {gD gU q : Nat} {a b : World} {u : Value} (h : Still gD gU a b) : Still gD gU a (b.setCell ⟨gD, q, none⟩ u) :=
  ⟨by rw [size_set]; exact h.size, fun j hj h1 h2 => (Below.heap_setCell b ⟨gD, q, none⟩ u j h1).trans (h.block j hj h1 h2)⟩
theorem Still.setU {gD gU q : Nat} {a b : World} {u : Value} (h : Still gD gU a b) : Still gD gU a (b.setCell ⟨gU, q, none⟩ u) :=
  ⟨by rw [size_set]; exact h.size, fun j hj h1 h2 => (Below.heap_setCell b ⟨gU, q, none⟩ u j h2).trans (h.block j hj h1 h2)⟩

end Go.Proofs.Ytedfajokiblfhaa.Lt

/- Walk of At: contract. -/
namespace Go.Proofs.Ytedfajokiblfhaa.Lt
open Go.RowKit Go.Lib Go.Maps



end Go.Proofs.Ytedfajokiblfhaa.Lt

/- Walks of the reference's Running, SumUp: contracts. -/
namespace Go.Proofs.Ytedfajokiblfhaa.Lt
open Go.RowKit Go.Lib Go.Maps

/-- The sum of a list, cut at each step. -/
def sumL (f : Int → Nat) (l : List Int) : Nat := l.foldl (fun a t => cutN a (f t)) 0
theorem sumL_succ (f : Int → Nat) (l : List Int) (k : Nat) (hk : k < l.length) : sumL f (l.take (k + 1)) = cutN (sumL f (l.take k)) (f l[k]) := by
  unfold sumL
  rw [List.take_add_one, List.foldl_append]
  simp [hk]
theorem sumL_le (f : Int → Nat) (l : List Int) : sumL f l ≤ 1000000000000000000 := by
  unfold sumL
  suffices h : ∀ (l : List Int) (a : Nat), a ≤ 1000000000000000000 → l.foldl (fun a t => cutN a (f t)) a ≤ 1000000000000000000 from h l 0 (Nat.zero_le _)
  intro l
  induction l with
  | nil => intro a h; exact h
  | cons t l ih => intro a _; exact ih _ (Nat.min_le_right _ _)
/-- The first k running sums. -/
def runK (f : Int → Nat) (l : List Int) (k : Nat) : List Nat := (List.range k).map fun i => sumL f (l.take (i + 1))
theorem runK_len (f : Int → Nat) (l : List Int) (k : Nat) : (runK f l k).length = k := by simp [runK]
theorem runK_succ (f : Int → Nat) (l : List Int) (k : Nat) : runK f l (k + 1) = runK f l k ++ [sumL f (l.take (k + 1))] := by simp [runK, List.range_succ]

def dn (r : Int) (Z : Nat) (t : Int) : Nat := Pm.rateD r Z (t / 250)
def up (r : Int) (Z : Nat) (t : Int) : Nat := Pm.rateU r Z (qUp t)
theorem dn_le (r : Int) (Z : Nat) (t : Int) (h : (1 : Int) ≤ Z) : dn r Z t ≤ 10000000000000000 := Pm.rateD_le r Z _ h
theorem up_le (r : Int) (Z : Nat) (t : Int) (h : (1 : Int) ≤ Z) : up r Z t ≤ 10000000000000001 := by
  have := Pm.rateD_le r Z (qUp t) h
  unfold up; rw [Pm.rateU_eq]; split <;> omega

section
variable {s : ByteArray} {r z d g : Int} {w wr w2 : World} {b gD gU base : Nat}
theorem RowV.still {v : Value} {l : List Nat} (h : RowV wr base v l) (hs : Still gD gU wr w2) (hD : gD < base) (hU : gU < base) : RowV w2 base v l := by
  refine ⟨h.1, ?_⟩
  rcases h.2 with h1 | ⟨a, cap, cur, hv, hb, hg, rest⟩
  · exact .inl h1
  · exact .inr ⟨a, cap, cur, hv, hb, (hs.block a (lt_of_block hg) (by omega) (by omega)).trans hg, rest⟩
end

/-- What Running hands back of good lists. -/
def RunP (f : Int → Nat) (l : List Int) (w : World) (e : Ending) (w' : World) : Prop := ∃ v, e = .returned (.tuple #[v, .int .i64 0]) ∧ RowR w' v (runK f l l.length) ∧ Below w.heap.size w w'


end Go.Proofs.Ytedfajokiblfhaa.Lt
