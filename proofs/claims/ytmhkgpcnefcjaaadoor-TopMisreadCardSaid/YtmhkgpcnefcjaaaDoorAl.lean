/- Own rows of texts; stamps compared; codes of valid stamps: contracts. -/
import Derived.Test.YtmhkgpcnefcjaaaDoorAk
import Derived.Test.YtmhkgpcnefcjaaaDoorAd
import Derived.Laws.StructEq
namespace Go.Proofs.YtmhkgpcnefcjaaaDoor
open Go.RowKit

/-- Texts in a row of the call's own. -/
def OwnT (w : World) (base : Nat) (v : Value) (l : List ByteArray) : Prop := w.ownsRow base 9 1 v l.length (l.map Value.string)
theorem infoStr2 : (Tryd.prog.info? 9).map (fun i => (i.zero, i.size, i.bytes)) = some (some (.string ⟨#[]⟩), 1, 16) := by kernel_rfl
theorem infoT : ∃ i, Tryd.prog.info? 9 = some i ∧ i.zero = some (.string ⟨#[]⟩) ∧ i.size = 1 ∧ i.bytes = 16 := info_cut infoStr2
theorem OwnT.rowS {w : World} {base : Nat} {v : Value} {l : List ByteArray} (h : OwnT w base v l) : RowS w v l := by
  rcases h.2 with ⟨rfl, h0⟩ | ⟨g, cap, cur, rfl, _, hg, hcap, hmx, hcs, ht⟩
  · obtain rfl := List.length_eq_zero_iff.1 h0
    exact RowS.nil w _ _
  · refine ⟨_, g, 0, cap, rfl, .inr rfl, Nat.le_trans hcap hmx, fun k hk => ?_⟩
    rw [Nat.zero_add, cell_of_row w g k cur _ _ hg]
    have hx : (l.map Value.string)[k]? = some (.string l[k]) := by simp [hk]
    rw [← ht, List.getElem?_take_of_lt (by omega)] at hx
    simpa using hx
theorem ownT_nil (w : World) (base : Nat) : OwnT w base (.slice none 0 0) [] := World.ownsRow_nil w base _ 1
theorem OwnT.app {w : World} {base : Nat} {v : Value} {l : List ByteArray} {x : ByteArray} (h : w.ownsRow base 9 1 v (l.length + 1) (l.map Value.string ++ [.string x])) : OwnT w base v (l ++ [x]) := by
  unfold OwnT
  rw [List.length_append, List.map_append]
  exact h
theorem ownT_shape {w : World} {base : Nat} {v : Value} {l : List ByteArray} (h : OwnT w base v l) : ∃ ua uc, v = .slice ua l.length uc := by
  rcases h.2 with ⟨rfl, h0⟩ | ⟨g, cap, cur, rfl, _⟩
  · exact ⟨_, _, by rw [h0]⟩
  · exact ⟨_, _, rfl⟩
theorem OwnT.keep {w w2 : World} {base : Nat} {v : Value} {l : List ByteArray} (h : OwnT w base v l) (hb : Below w.heap.size w w2) : OwnT w2 base v l := by
  refine ⟨h.1, ?_⟩
  rcases h.2 with h2 | ⟨g, cap, cur, h1, h2, h3, h4⟩
  · exact .inl h2
  · exact .inr ⟨g, cap, cur, h1, h2, (hb.block g (Array.getElem?_eq_some_iff.1 h3).1).trans h3, h4⟩
theorem oneT {x : ByteArray} : ∀ u ∈ [Value.string x], u.oneCell' = true := by intro u hu; simp at hu; subst hu; rfl
theorem belowT {W W2 w1 : World} {base : Nat} {v : Value} {l : List ByteArray} {o : Obj} (hW : Below W.heap.size W W2) (h : OwnT W2 base v l) (hb : W.heap.size ≤ base) (hg : (W2.alloc o).grownBy w1 v.ownBlock) : Below W.heap.size W w1 :=
  (hW.alloc hW.size _).grown hg (by have := hW.size; simp; omega) (fun k hk => by have := (World.ownsRow.lt h k hk).1; omega)
set_option maxRecDepth 100000 in
set_option maxHeartbeats 1000000 in
theorem eq5 (a b c a' b' c' : ByteArray) (d e d' e' : Int) (w : World) : (Op.equalIn 10000 48 (.agg #[.string a, .string b, .string c, .int .i64 d, .int .i64 e]) (.agg #[.string a', .string b', .string c', .int .i64 d', .int .i64 e'])).run Tryd.prog w =
    .ok (a.toList == a'.toList && (b.toList == b'.toList && (c.toList == c'.toList && (d == d' && e == e')))) w := by
  have u3 := Tryd.underlying3
  have a3 := Tryd.isAgg3
  have z3 := Tryd.sizeOf3
  have u9 := Tryd.underlying9
  have a9 := Tryd.isAgg9
  have z9 := Tryd.sizeOf9
  rw [show (10000 : Nat) = 9999 + 1 from rfl, Op.equalIn]
  simp only [Sem.run_bind, run_underlying Tryd.underlying48, Result.andThen_ok]
  go_simp
  by_cases h1 : a.toList = a'.toList
  case neg => simp [h1]
  by_cases h2 : b.toList = b'.toList
  case neg => simp [h1, h2]
  by_cases h3 : c.toList = c'.toList
  case neg => simp [h1, h2, h3]
  by_cases h4 : d = d'
  case neg => simp [h1, h2, h3, h4]
  by_cases h5 : e = e' <;> simp [h1, h2, h3, h4, h5]
theorem text_eq {a b : ByteArray} : a.toList = b.toList ↔ a = b := by
  constructor
  · intro h
    rw [ByteArray.toList_eq, ByteArray.toList_eq] at h
    obtain ⟨⟨x⟩⟩ := a
    obtain ⟨⟨y⟩⟩ := b
    simp at h
    rw [h]
  · intro h
    rw [h]
/-- Two stamps are the same. -/
def sameZ (x y : Stp) : Bool := x.pl.toList == y.pl.toList && (x.pr.toList == y.pr.toList && (x.ln.toList == y.ln.toList && (x.dy == y.dy && x.pe == y.pe)))
theorem sameZ_iff {x y : Stp} : sameZ x y = true ↔ x = y := by
  unfold sameZ
  simp only [Bool.and_eq_true, beq_iff_eq, text_eq]
  constructor
  · rintro ⟨h1, h2, h3, h4, h5⟩
    obtain ⟨a, b, c, d, e⟩ := x
    obtain ⟨a', b', c', d', e'⟩ := y
    simp only at h1 h2 h3 h4 h5
    subst h1 h2 h3 h4 h5
    rfl
  · rintro rfl
    exact ⟨rfl, rfl, rfl, rfl, rfl⟩
/-- What the code's functions answer of a valid stamp. -/
theorem cprint_f {f : Stp → ByteArray} (hf : ∀ x, x.ok = true → IsCode x (f x)) (x : Stp) (w : World) (h : x.ok = true) (hw : Wts w) :
    Calls Tryd.prog 27 #[.agg #[.string x.pl, .string x.pr, .string x.ln, .int .i64 x.dy, .int .i64 x.pe]] w fun e w' => e = .returned (.tuple #[.string (f x), .int .i64 0]) ∧ Below w.heap.size w w' := by
  obtain ⟨y, hy, e⟩ := hf x h
  rw [e]
  exact cprint_ok _ _ _ _ _ y w h hy hw
theorem cprinted_f {f : Stp → ByteArray} (hf : ∀ x, x.ok = true → IsCode x (f x)) (x : Stp) (w : World) (h : x.ok = true) (hw : Wts w) :
    Calls Tryd.prog 54 #[.agg #[.string x.pl, .string x.pr, .string x.ln, .int .i64 x.dy, .int .i64 x.pe]] w fun e w' => e = .returned (.string (f x)) ∧ Below w.heap.size w w' := by
  obtain ⟨y, hy, e⟩ := hf x h
  obtain ⟨h1, h2, h3, _, _⟩ := (stampB_iff ..).1 h
  have q1 := (speltB_iff.1 h1).1
  have q2 := (speltB_iff.1 h2).1
  have q3 := (speltB_iff.1 h3).1
  rw [e]
  exact printed_any _ _ _ _ _ y (x.dy - soY y) w (by omega) (by omega) (by omega) hy rfl (pre_ok h hy) hw
theorem cvalid_f (x : Stp) (w : World) :
    Calls Tryd.prog 53 #[.agg #[.string x.pl, .string x.pr, .string x.ln, .int .i64 x.dy, .int .i64 x.pe]] w fun e w' => e = .returned (.bool x.ok) ∧ Below w.heap.size w w' := cstamp_any _ _ _ _ _ w
end Go.Proofs.YtmhkgpcnefcjaaaDoor
