/- Texts of this seat, one behind the other. -/
import Derived.Test.YtihbjimnjhfpeaaG24
import Derived.Maps.AppendAt
/- Walks of Quarter of both, quarterAbove, Cut: contracts. -/
namespace Go.Proofs.Ytihbjimnjhfpeaa.Lt
open Go.RowKit Go.Lib Go.Maps

theorem q_pos {t : Int} (h : 0 ≤ t) : t.tdiv 250 = t / 250 ∧ t.tmod 250 = t % 250 := ⟨Int.tdiv_eq_ediv_of_nonneg h, Int.tmod_eq_emod_of_nonneg h⟩
theorem q_neg0 {t : Int} (hd : t % 250 = 0) : t.tdiv 250 = t / 250 ∧ t.tmod 250 = 0 := by
  have hdvd : (250 : Int) ∣ t := Int.dvd_of_emod_eq_zero hd
  rw [Int.tdiv_eq_ediv, Int.tmod_eq_emod, if_pos (.inr hdvd), if_pos (.inr hdvd)]
  omega
theorem q_neg1 {t : Int} (h : t < 0) (hd : t % 250 ≠ 0) : t.tdiv 250 = t / 250 + 1 ∧ t.tmod 250 = t % 250 - 250 := by
  have hn : ¬ (0 ≤ t ∨ (250 : Int) ∣ t) := by
    rintro (h1 | h1)
    · omega
    · exact hd (Int.emod_eq_zero_of_dvd h1)
  rw [Int.tdiv_eq_ediv, Int.tmod_eq_emod, if_neg hn, if_neg hn]
  exact ⟨rfl, rfl⟩

set_option maxHeartbeats 1000000 in
theorem lQuarter_any (t : Int) (w : World) (h1 : -9223372036854775808 ≤ t) (h2 : t ≤ 9223372036854775807) : Calls Try.prog 39 #[.int .i64 t] w fun e w' => e = .returned (.int .i64 (t / 250)) ∧ w = w' := by
  rcases Int.lt_or_le t 0 with h | h
  · by_cases hd : t % 250 = 0
    · obtain ⟨e1, e2⟩ := q_neg0 hd
      go_enter Try.func39, Try.ntmps39
      go_wp2
      go_ret
      exact ⟨rfl, rfl⟩
    · obtain ⟨e1, e2⟩ := q_neg1 h hd
      have d : decide (t % 250 - 250 < 0) = true := by simp; omega
      go_enter Try.func39, Try.ntmps39
      go_wp2
      go_ret
      exact ⟨ret_int (by omega), rfl⟩
  · obtain ⟨e1, e2⟩ := q_pos h
    have d : decide (t % 250 < 0) = false := by simp; omega
    go_enter Try.func39, Try.ntmps39
    go_wp2
    go_ret
    exact ⟨rfl, rfl⟩
/-- The quarter that is not below. -/
def qUp (t : Int) : Int := if t % 250 = 0 then t / 250 else t / 250 + 1
/-- A sum, cut. -/
def cutN (a b : Nat) : Nat := min (a + b) 1000000000000000000
end Go.Proofs.Ytihbjimnjhfpeaa.Lt

/- Walks of asked and checkTemps: contracts. -/
namespace Go.Proofs.Ytihbjimnjhfpeaa.Lt
open Go.RowKit Go.Lib Go.Maps

/-- A slice of ints that is read, from any place of a row. -/
def RowI (w : World) (v : Value) (l : List Int) : Prop := (∃ a cap, v = .slice a 0 cap ∧ l = []) ∨ ∃ b o cap, v = .slice (some ⟨b, o, none⟩) l.length cap ∧ l.length ≤ maxLen ∧ ∀ k (h : k < l.length), w.cell? ⟨b, o + k, none⟩ = some (.int .i64 l[k])
theorem RowI.keep {W w2 : World} {v : Value} {l : List Int} (h : RowI W v l) (hb : Below W.heap.size W w2) : RowI w2 v l := by
  rcases h with h | ⟨b, o, cap, hv, hm, hc⟩
  · exact .inl h
  · exact .inr ⟨b, o, cap, hv, hm, fun k hk => keep_cell hb (hc k hk)⟩
def okT (t : Int) : Bool := decide (-50000 ≤ t) && decide (t ≤ 200000)
def okL (l : List Int) : Bool := l.all okT
theorem okL_all {l : List Int} (h : okL l = true) (k : Nat) (hk : k < l.length) : okT l[k] = true := List.all_eq_true.1 h _ (List.getElem_mem hk)
theorem okL_end {l : List Int} {k : Nat} (h : ∀ j (hj : j < l.length), j < k → okT l[j] = true) (hk : k = l.length) : okL l = true := by
  subst hk
  refine List.all_eq_true.2 fun x hx => ?_
  obtain ⟨j, hj, rfl⟩ := List.getElem_of_mem hx
  exact h j hj hj
theorem okL_bad {l : List Int} {k : Nat} (hk : k < l.length) (h : okT l[k] = false) : okL l = false := by
  cases ho : okL l with
  | false => rfl
  | true => rw [okL_all ho k hk] at h; cases h
/-- The first error of temperatures. -/
def askE (v : Bool) (l : List Int) : Int := if v = false then 1 else if 10000 < l.length then 4 else if okL l then 0 else 7
theorem askE_inv (l : List Int) : askE false l = 1 := rfl
theorem askE_long {l : List Int} (h : 10000 < l.length) : askE true l = 4 := by unfold askE; rw [if_neg (by simp), if_pos h]
theorem askE_ok {l : List Int} (h : ¬ 10000 < l.length) (ho : okL l = true) : askE true l = 0 := by unfold askE; rw [if_neg (by simp), if_neg h, ho]; rfl
theorem askE_bad {l : List Int} (h : ¬ 10000 < l.length) (ho : okL l = false) : askE true l = 7 := by unfold askE; rw [if_neg (by simp), if_neg h, ho]; rfl


end Go.Proofs.Ytihbjimnjhfpeaa.Lt

/- Walk of For: contract. -/
namespace Go.Proofs.Ytihbjimnjhfpeaa.Lt
open Go.RowKit Go.Lib Go.Maps

theorem blk_set {w : World} {b i : Nat} {cs : Array Value} {T : TypeId} {fz : Nat × Nat} {v : Value} (h : w.heap[b]? = some (.cells cs T fz)) : (w.setCell ⟨b, i, none⟩ v).heap[b]? = some (.cells (cs.setIfInBounds i v) T fz) := by
  obtain ⟨hlt, hk⟩ := Array.getElem?_eq_some_iff.1 h
  show (w.heap.modify b _)[b]? = _
  rw [Array.getElem?_eq_getElem (by rw [Array.size_modify]; exact hlt), Array.getElem_modify_self, hk]
  rfl
theorem blk_cell {w : World} {b i : Nat} {cs : Array Value} {T : TypeId} {fz : Nat × Nat} (h : w.heap[b]? = some (.cells cs T fz)) : w.cell? ⟨b, i, none⟩ = cs[i]? := by
  unfold World.cell?
  show (match w.heap[b]? with | some (.cells c _ _) => _ | _ => _) = _
  rw [h]
  rfl
theorem blk_free {w : World} {b i : Nat} {cs : Array Value} {T : TypeId} (h : w.heap[b]? = some (.cells cs T (0, 0))) : w.frozen? ⟨b, i, none⟩ = false := by
  unfold World.frozen?
  show (match w.heap[b]? with | some (.cells _ _ (lo, hi)) => (decide (lo ≤ i) && decide (i < hi)) | _ => false) = false
  rw [h]
  simp
def ivI (l : List Int) : List Value := l.map (Value.int .i64)
theorem ivI_append (a b : List Int) : ivI (a ++ b) = ivI a ++ ivI b := by simp [ivI]

theorem row_succ {W : World} {base : Nat} {e : TypeId} {size : Nat} {v : Value} {k : Nat} {xs : List Value} (h : W.ownsRow base e size v (k + 1) xs) : ∃ g cap, v = .slice (some ⟨g, 0, none⟩) (k + 1) cap := by
  rcases h.2 with ⟨_, h0⟩ | ⟨g, cap, _, rfl, _⟩
  · omega
  · exact ⟨g, cap, rfl⟩
theorem size_set (w : World) (a : Addr) (u : Value) : (w.setCell a u).heap.size = w.heap.size := by simp [World.setCell]
theorem cell_one_set {w : World} {a : Addr} {u' c : Value} {T : TypeId} : ∀ j u, [c][j]? = some u → ((w.setCell a u').alloc (.cells #[c] T)).cell? ((⟨w.heap.size, 0, none⟩ : Addr).add j) = some u := by
  have h := cell_one_at (w := w.setCell a u') (c := c) (T := T)
  rw [size_set] at h
  exact h
def negs (k : Nat) : List Int := List.replicate k (-1)
theorem negs_succ (k : Nat) : negs (k + 1) = negs k ++ [-1] := by unfold negs; rw [List.replicate_succ']
theorem negs_len (k : Nat) : (negs k).length = k := by simp [negs]

end Go.Proofs.Ytihbjimnjhfpeaa.Lt
