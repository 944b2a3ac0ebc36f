/- Stretches: rows of pairs under the library's sort, Clone of such a row, the sort's contract. -/
import Derived.Test.YtjfakhfkbnnbcaaIa
import Derived.Test.YtjfakhfkbnnbcaaIs
import Derived.Test.YtjfakhfkbnnbcaaOr
import Derived.Shelf.SlSortCmp.NoneTotal
import Derived.Maps.AppendAt
namespace Go.Proofs.Ytjfakhfkbnnbcaa
open Go.RowKit

instance : Inhabited Pr := ⟨⟨0, 0⟩⟩
/-- A stretch's two cells. -/
def encPr (p : Pr) : List Value := [.int .i64 p.x, .int .i64 p.y]
theorem pvs_get {l : List Pr} {j : Nat} (h : j < l.length * 2) : (pvs l)[j]? = some ((encPr l.toArray[j / 2]!)[j % 2]!) := by
  have hk : j / 2 < l.length := by omega
  obtain ⟨h1, h2⟩ := pvs_at l (j / 2) hk
  have e : l.toArray[j / 2]! = l[j / 2] := by rw [getElem!_pos _ _ (by simpa using hk)]; simp
  rw [e]
  rcases (show j % 2 = 0 ∨ j % 2 = 1 by omega) with g | g
  · rw [show j / 2 * 2 = j by omega] at h1
    rw [h1, g]; rfl
  · rw [show j / 2 * 2 + 1 = j by omega] at h2
    rw [h2, g]; rfl
theorem OwnX.holds {w : World} {base E g cap : Nat} {l : List Pr} (h : OwnX w base E (.slice (some ⟨g, 0, none⟩) l.length cap) l) : Go.Sort.HoldsK encPr 2 w g 0 l.toArray := by
  intro j hj
  have hj' : j < l.length * 2 := by simpa using hj
  unfold OwnX at h
  refine ⟨?_, ?_⟩
  · rw [Nat.zero_add, h.cellAt j (by omega), pvs_get hj', Go.Sort.get_flatK _ _ _ _ (by simpa using hj')]; rfl
  · rw [Nat.zero_add]; exact h.frozenAt j
theorem holds_row {W : World} {g cap : Nat} {l : List Pr} (h : Go.Sort.HoldsK encPr 2 W g 0 l.toArray) (h1 : l.length ≤ cap) (h2 : cap ≤ maxLen) : RowX W (.slice (some ⟨g, 0, none⟩) l.length cap) l := by
  have at_ : ∀ j, j < l.length * 2 → W.cell? ⟨g, j, none⟩ = (pvs l)[j]? := fun j hj => by
    have h3 := (h j (by simpa using hj)).1
    rw [Go.Sort.get_flatK _ _ _ _ (by simpa using hj), Nat.zero_add] at h3
    rw [h3, pvs_get hj]; rfl
  refine ⟨some ⟨g, 0, none⟩, g, 0, cap, rfl, h1, h2, .inr rfl, fun k hk => ?_⟩
  obtain ⟨q1, q2⟩ := pvs_at l k hk
  rw [Nat.zero_add]
  exact ⟨(at_ _ (by omega)).trans q1, (at_ _ (by omega)).trans q2⟩
theorem below_sortK {w W : World} {n g : Nat} {d : Array Pr} {os : Array Obj} (h : Below w.heap.size w W) (hg : w.heap.size ≤ g) : Below w.heap.size w (sortWorldK encPr 2 W g 0 n d os) := by
  unfold sortWorldK Go.Sort.putRowK
  refine ⟨h.os, h.tape, h.output, ?_, fun k hk => ?_⟩
  · rw [Go.Sort.size_grow, Go.Sort.size_putRow, Go.Sort.heap_ahead]
    exact Nat.le_trans h.size (Nat.le_add_right _ _)
  · have hk2 : k < W.heap.size := Nat.lt_of_lt_of_le hk h.size
    rw [Go.Sort.heap_grow_old _ _ (by rw [Go.Sort.size_putRow, Go.Sort.heap_ahead]; exact hk2)]
    unfold Go.Sort.putRow Go.Sort.mapBlock
    simp only [Go.Sort.heap_ahead, Array.getElem?_modify]
    rw [if_neg (by omega)]
    exact h.block k hk
theorem holds_sortK {W : World} {n g : Nat} {l ss : List Pr} {os : Array Obj} (h : Go.Sort.HoldsK encPr 2 W g 0 l.toArray) (hs : ss.length = l.length) (hg : g < W.heap.size) : Go.Sort.HoldsK encPr 2 (sortWorldK encPr 2 W g 0 n ss.toArray os) g 0 ss.toArray := by
  unfold sortWorldK Go.Sort.putRowK Go.Sort.HoldsK
  exact Go.Sort.holds_grow _ _ _ _ _ _ (by rw [Go.Sort.size_putRow, Go.Sort.heap_ahead]; exact hg) (Go.Sort.holds_putRow _ _ _ _ (Go.Sort.flatK encPr 2 l.toArray) _ (Go.Sort.holds_ahead _ _ _ _ _ _ h) (by simp [hs]))
def cmpX (p q : Pr) : Int := cmpI p.x q.x
theorem lt_cmpX (p q : Pr) : ltOf cmpX p q = decide (p.x < q.x) := by
  unfold ltOf cmpX cmpI
  by_cases h : p.x < q.x
  · rw [if_pos h]; simp [h]
  · rw [if_neg h]
    by_cases g : q.x < p.x
    · rw [if_pos g]; simp [h]
    · rw [if_neg g]; simp [h]
theorem swo_cmpX : Go.Sort.SWO (ltOf cmpX) where
  irrefl x := by rw [lt_cmpX]; simp
  trans x y z h1 h2 := by rw [lt_cmpX] at *; simp at *; omega
  ntrans x y z h1 h2 := by rw [lt_cmpX] at *; simp at *; omega
theorem u1_any (p q : Pr) (w : World) : Calls Try.prog 65 #[.agg #[.int .i64 p.x, .int .i64 p.y], .agg #[.int .i64 q.x, .int .i64 q.y]] w fun e w' => e = .returned (.int .i64 (cmpX p q)) ∧ ∃ n os, w' = Go.Sort.grow (w.drewN n) os := by
  have HC := hid (fun W => cmp_q p.x q.x (cmpX p q) rfl W)
  generalize cmpX p q = r at HC ⊢
  go_enter Try.func65, Try.ntmps65
  go_wp2_with (go_at_call 66; refine (HC.out _).mono ?_; rintro e w' ⟨rfl, rfl⟩)
  go_ret
  exact ⟨rfl, 0, _, by rw [Go.Sort.alloc_eq_grow, Go.Sort.alloc_eq_grow, Go.Sort.grow_grow]; rfl⟩
theorem u1_lays (g off n : Nat) (w : World) : CmpLays Try.prog 65 #[] encPr 2 cmpX g off n w := fun _ _ _ _ p q => u1_any p q _
theorem sorted_asc {l : List Pr} (h : Go.Sort.SortedIn (ltOf cmpX) 0 l.length l.toArray) : Asc l := by
  rw [Asc, List.pairwise_iff_getElem]
  intro i j hi hj hij
  have h1 := h i j (Nat.zero_le _) hij hj
  rw [lt_cmpX] at h1
  have e : ∀ k (hk : k < l.length), l.toArray[k]! = l[k] := fun k hk => by rw [getElem!_pos _ _ (by simpa using hk)]; simp
  rw [e i hi, e j hj] at h1
  simp at h1
  exact h1
/-- What the sort leaves. -/
def SrtP (l : List Pr) (n : Nat) (v : Value) (w0 : World) (w' : World) : Prop := ∃ ss, ss.Perm l ∧ Asc ss ∧ RowX w' v ss ∧ ss.length = n ∧ Below w0.heap.size w0 w'
theorem sort_any (l : List Pr) (v : Value) (w0 w : World) (hv : OwnX w w0.heap.size 68 v l) (hB : Below w0.heap.size w0 w) (hf : l.length ≤ 1000000) :
    Calls Try.prog 64 #[v, .func (.func 65) #[] #[]] w fun e w' => e = .returned (.tuple #[]) ∧ SrtP l l.length v w0 w' := by
  have hrow := hv.row
  rcases hv.2 with ⟨rfl, h0⟩ | ⟨g, cap, cur, rfl, hb, hg, hc1, hc2, _⟩
  · have : l = [] := List.length_eq_zero_iff.1 h0
    subst this
    have hcon := AnyF.slices_SortFunc_none Try.sortStr none 0 (.func (.func 65) #[] #[]) w
    exact hcon.mono fun e w' ⟨h1, h2⟩ => ⟨h1, [], List.Perm.nil, List.Pairwise.nil, by rw [h2]; exact hrow, rfl, by rw [h2]; exact hB⟩
  · have hgw : g < w.heap.size := (Array.getElem?_eq_some_iff.1 hg).1
    have eg : ∀ args w, (callFunc 65 args).run Try.prog w = .ok (.enter 65 args) w := enters_of Try.func65 (by kernel_rfl) rfl
    have hH := OwnX.holds hv
    have hcon := AnyQ.slices_SortFunc Try.sortStr 2 Try.isAgg68 Try.sizeOf68 encPr (fun _ => rfl) (fun x v hv => by simp [encPr] at hv; rcases hv with rfl | rfl <;> rfl) cmpX swo_cmpX 65 #[] g 0 cap l.toArray w eg (u1_lays _ _ _ _) hH hgw (by simp; omega)
    refine (show Calls Try.prog 64 _ _ _ from hcon).mono ?_
    rintro e w' ⟨h1, d', n, os, hp, hs, rfl⟩
    obtain ⟨ss⟩ := d'
    have hz : ss.length = l.length := by simpa using hp.1
    have hperm : ss.Perm l := by
      have h3 := hp.2.2
      simp only [List.size_toArray, List.extract_toArray, List.extract_eq_take_drop, Nat.sub_zero, List.drop_zero, List.take_length] at h3
      rwa [List.take_of_length_le (by omega)] at h3
    refine ⟨h1, ss, hperm, sorted_asc (by rw [hz]; simpa using hs), ?_, hz, below_sortK hB hb⟩
    rw [← hz]
    exact holds_row (holds_sortK hH hz hgw) (by omega) hc2
end Go.Proofs.Ytjfakhfkbnnbcaa
