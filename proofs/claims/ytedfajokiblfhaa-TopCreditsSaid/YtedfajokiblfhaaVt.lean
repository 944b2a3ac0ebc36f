/- Rows of structs that are read: records, programs, faults; and how those that come in are opened. -/
import Derived.Test.YtedfajokiblfhaaVp
import Derived.ProofKit
import Derived.OpenShut
import Derived.ShutString
import Derived.ChangeOld
import Derived.Lib.SmallJoins
import Derived.Deep.Fields
import Derived.Deep.Slices
import Derived.ChangeSame
namespace Go.Proofs.Ytedfajokiblfhaa.Rt
open Go.ChangeShapes Go.WideShapes Go.ChangeAt Go.RowKit Go.Joins Go.Deep

/-- A slice of readings that is read: its readings at its cells. -/
def RdAt (w : World) (b i : Nat) (x : Rd) : Prop := w.cell? ⟨b, i, none⟩ = some (.int .i64 x.s) ∧ w.cell? ⟨b, i + 1, none⟩ = some (.int .i64 x.t) ∧ w.cell? ⟨b, i + 2, none⟩ = some (.int .i64 x.c) ∧ w.cell? ⟨b, i + 3, none⟩ = some (.int .i64 x.b)
def RowR (w : World) (v : Value) (n : Nat) (r : Nat → Rd) : Prop := ∃ a b o cap, v = .slice a n cap ∧ n ≤ cap ∧ cap ≤ maxLen ∧ (n = 0 ∨ a = some ⟨b, o, none⟩) ∧ ∀ k, k < n → RdAt w b (o + k * 4) (r k)
theorem RdAt.keep {W w2 : World} {b i : Nat} {x : Rd} (h : RdAt W b i x) (hb : Below W.heap.size W w2) : RdAt w2 b i x := ⟨keep_cell hb h.1, keep_cell hb h.2.1, keep_cell hb h.2.2.1, keep_cell hb h.2.2.2⟩
theorem RowR.keep {W w2 : World} {v : Value} {n : Nat} {r : Nat → Rd} (h : RowR W v n r) (hb : Below W.heap.size W w2) : RowR w2 v n r := by
  obtain ⟨a, b, o, cap, hv, h1, h2, h3, h4⟩ := h
  exact ⟨a, b, o, cap, hv, h1, h2, h3, fun k hk => (h4 k hk).keep hb⟩
theorem RowR.shape {w : World} {v : Value} {n : Nat} {r : Nat → Rd} (h : RowR w v n r) : ∃ a cap, v = .slice a n cap := by
  obtain ⟨a, b, o, cap, hv, _⟩ := h
  exact ⟨a, cap, hv⟩
theorem RowR.most {w : World} {v : Value} {n : Nat} {r : Nat → Rd} (h : RowR w v n r) : n ≤ maxLen := by
  obtain ⟨a, b, o, cap, hv, h1, h2, _⟩ := h
  omega
/-- A slice of triples (steps, faults, deviations). -/
def TrAt (w : World) (b i : Nat) (x y z : Int) : Prop := w.cell? ⟨b, i, none⟩ = some (.int .i64 x) ∧ w.cell? ⟨b, i + 1, none⟩ = some (.int .i64 y) ∧ w.cell? ⟨b, i + 2, none⟩ = some (.int .i64 z)
def RowT (w : World) (v : Value) (n : Nat) (q : Nat → Tri) : Prop := ∃ a b o cap, v = .slice a n cap ∧ n ≤ cap ∧ cap ≤ maxLen ∧ (n = 0 ∨ a = some ⟨b, o, none⟩) ∧ ∀ k, k < n → TrAt w b (o + k * 3) (q k).x (q k).y (q k).z
def RowP (w : World) (v : Value) (n : Nat) (p : Nat → St) : Prop := RowT w v n fun i => ⟨(p i).k, (p i).s, (p i).n⟩
theorem TrAt.keep {W w2 : World} {b i : Nat} {x y z : Int} (h : TrAt W b i x y z) (hb : Below W.heap.size W w2) : TrAt w2 b i x y z := ⟨keep_cell hb h.1, keep_cell hb h.2.1, keep_cell hb h.2.2⟩
theorem RowT.keep {W w2 : World} {v : Value} {n : Nat} {q : Nat → Tri} (h : RowT W v n q) (hb : Below W.heap.size W w2) : RowT w2 v n q := by
  obtain ⟨a, b, o, cap, hv, h1, h2, h3, h4⟩ := h
  exact ⟨a, b, o, cap, hv, h1, h2, h3, fun k hk => (h4 k hk).keep hb⟩
theorem RowT.shape {w : World} {v : Value} {n : Nat} {q : Nat → Tri} (h : RowT w v n q) : ∃ a cap, v = .slice a n cap := by
  obtain ⟨a, b, o, cap, hv, _⟩ := h
  exact ⟨a, cap, hv⟩
theorem RowT.most {w : World} {v : Value} {n : Nat} {q : Nat → Tri} (h : RowT w v n q) : n ≤ maxLen := by
  obtain ⟨a, b, o, cap, hv, h1, h2, _⟩ := h
  omega

theorem own : ownKnob Try.prog.godebug = none := by kernel_rfl
theorem laidOut : laidOutB Try.prog = true := by kernel_rfl
theorem cellsRd : Try.prog.cellsOf 96 = 4 := by kernel_rfl
section
variable {H : Type} {enc : TypeId × Value → H} {P : Program} {w : World} {base : Nat} {spare : Nat → Bool} {held : Bool}
theorem open_slice_fields {t e : TypeId} {fs : Array Field} {fuel : Nat} {cs : List Value} {x : DataW H × List MemPlace} (ht : P.underlying t = some (.slice e)) (he : P.underlying e = some (.struct fs))
    (hone : oneCellFields P fs = true) (hC : P.cellsOf e = fs.size) (h : DataW.trod enc P w base spare held fuel t cs = some x) :
    cs = [.slice none 0 0] ∨
    ∃ (a : Addr) (len cap m : Nat), cs = [.slice (some a) len cap] ∧ len ≤ cap ∧ cap ≤ maxLen ∧ len ≤ m ∧
      ∀ i, i < m → ∀ (j : Nat) (f : Field), fs[j]? = some f → ∃ (v : Value) (y : DataW H × List MemPlace) (n : Nat), w.cell? (a.add (i * fs.size + j)) = some v ∧ DataW.trod enc P w base spare held n f.type [v] = some y := by
  rcases open_slice ht h with h0 | ⟨a, len, cap, m, n, D, Pl, hcs, hb, hl, hm, hmm, hx, hi⟩
  · exact .inl h0.1
  · refine .inr ⟨a, len, cap, m, hcs, hl, hm, by rw [hmm]; split <;> omega, fun i him => ?_⟩
    obtain ⟨cs', hc, ht'⟩ := hi i him
    rw [hC] at hc
    obtain ⟨ys, n', hn', hy, hlen, hyl, hf⟩ := DataW.trod_struct he ht'
    obtain ⟨_, hcl, hat⟩ := World.cells?_some hc
    intro j f hj
    obtain ⟨ho, hk⟩ := hone_of hone j f hj
    have hjl : j < fs.size := (Array.getElem?_eq_some_iff.1 hj).1
    have hcell := hat j hjl
    have hv : cs'[j]? = some (cs'[j]'(by omega)) := List.getElem?_eq_getElem (by omega)
    have h1 := hf j f hj
    rw [ho, hk] at h1
    have hone' : (cs'.drop j).take 1 = [cs'[j]'(by omega)] := by
      rw [List.drop_eq_getElem_cons (by omega)]
      rfl
    rw [hone'] at h1
    have hys : ys[j]? = some (ys[j]'(by omega)) := List.getElem?_eq_getElem (by omega)
    refine ⟨_, _, n', ?_, h1.trans hys⟩
    rw [← Go.Deep.add_add, hcell, hv]
theorem trod_i {n : Nat} {v : Value} {y : DataW H × List MemPlace} (h : DataW.trod enc Try.prog w base spare held n 3 [v] = some y) : ∃ z : Int, v = .int .i64 z := by
  obtain ⟨z, e, _⟩ := DataW.trod_int Try.underlying3 h
  simp at e
  exact ⟨z, e⟩
theorem plain_of {w : World} {a : Addr} {v : Value} (h : w.cell? (a.add 0) = some v) : ∃ b o, a = ⟨b, o, none⟩ := by
  obtain ⟨b, off, spot⟩ := a
  have hspot : spot = none := by simpa [Addr.add] using World.cell?_spot h
  subst hspot
  exact ⟨b, off, rfl⟩
set_option maxRecDepth 100000 in
theorem rowR_of {v : Value} {n : Nat} {y : DataW H × List MemPlace} (h : DataW.trod enc Try.prog w base spare held n 56 [v] = some y) : ∃ (m : Nat) (r : Nat → Rd), RowR w v m r := by
  rcases open_slice_fields Try.underlying56 Try.underlying96 (by kernel_rfl) cellsRd h with h0 | ⟨a, len, cap, m, hcs, hl, hm, hlm, hc⟩
  · simp at h0
    subst h0
    exact ⟨0, fun _ => ⟨0, 0, 0, 0⟩, none, 0, 0, 0, rfl, Nat.le_refl _, by simp, .inl rfl, fun k hk => absurd hk (Nat.not_lt_zero k)⟩
  · simp at hcs
    subst hcs
    rcases Nat.eq_zero_or_pos len with rfl | hp
    · exact ⟨0, fun _ => ⟨0, 0, 0, 0⟩, some a, 0, 0, cap, rfl, hl, hm, .inl rfl, fun k hk => absurd hk (Nat.not_lt_zero k)⟩
    · obtain ⟨v0, _, _, hc0, _⟩ := hc 0 (by omega) 0 _ rfl
      obtain ⟨b, o, rfl⟩ := plain_of hc0
      have hx : ∀ k, ∃ x : Rd, k < len → RdAt w b (o + k * 4) x := fun k => by
        by_cases hk : k < len
        · obtain ⟨u0, _, _, g0, t0⟩ := hc k (by omega) 0 _ rfl
          obtain ⟨u1, _, _, g1, t1⟩ := hc k (by omega) 1 _ rfl
          obtain ⟨u2, _, _, g2, t2⟩ := hc k (by omega) 2 _ rfl
          obtain ⟨u3, _, _, g3, t3⟩ := hc k (by omega) 3 _ rfl
          obtain ⟨z0, rfl⟩ := trod_i t0
          obtain ⟨z1, rfl⟩ := trod_i t1
          obtain ⟨z2, rfl⟩ := trod_i t2
          obtain ⟨z3, rfl⟩ := trod_i t3
          rw [Go.WideShapes.add_plain] at g0 g1 g2 g3
          exact ⟨⟨z0, z1, z2, z3⟩, fun _ => ⟨g0, g1, g2, g3⟩⟩
        · exact ⟨⟨0, 0, 0, 0⟩, fun h => absurd h hk⟩
      obtain ⟨r, hr⟩ := Classical.axiomOfChoice hx
      exact ⟨len, r, some ⟨b, o, none⟩, b, o, cap, rfl, hl, hm, .inr rfl, hr⟩
set_option maxRecDepth 100000 in
theorem open_rowR {r : Reach} {b0 : Nat} {v : Value} {d : DataW H} {p : List MemPlace} (hv : Value.okWide Try.prog w r b0 56 v) (h : DataW.Trod enc Try.prog w base spare held 56 v d p) : ∃ (m : Nat) (r : Nat → Rd), RowR w v m r := by
  obtain ⟨a0, len, cap, rfl⟩ := okWide_slice Try.underlying56 hv
  obtain ⟨fuel, hf⟩ := h
  exact rowR_of (v := .slice a0 len cap) hf
end
end Go.Proofs.Ytedfajokiblfhaa.Rt
