/- Lists of baskets that come in. -/
import Derived.Test.YtikjgbfbbkmmcaaG02
import Derived.ChangeMaps5
import Derived.ChangeOld
import Derived.Deep.Fields
import Derived.Deep.Slices
import Derived.WideShapes
import Derived.ChangeAt
import Derived.ProofKit
import Derived.OpenShut
import Derived.Lib.SmallJoins
namespace Go.Proofs.Ytikjgbfbbkmmcaa
open Go.ChangeShapes Go.WideShapes Go.ChangeAt Go.RowKit Go.Joins Go.Deep

theorem own : ownKnob Try.prog.godebug = none := by kernel_rfl
theorem laidOut : laidOutB Try.prog = true := by kernel_rfl
section
variable {H : Type} {enc : TypeId × Value → H} {P : Program} {w : World} {base : Nat} {spare : Nat → Bool} {held : Bool}
theorem open_slice_fieldsE {t e : TypeId} {fs : Array Field} {fuel : Nat} {cs : List Value} {x : DataW H × List MemPlace} (ht : P.underlying t = some (.slice e)) (he : P.underlying e = some (.struct fs))
    (hone : oneCellFields P fs = true) (hC : P.cellsOf e = fs.size) (h : DataW.trod enc P w base spare held fuel t cs = some x) :
    cs = [.slice none 0 0] ∨
    ∃ (a : Addr) (len cap m : Nat), cs = [.slice (some a) len cap] ∧ len ≤ cap ∧ cap ≤ maxLen ∧ len ≤ m ∧
      ∀ i, i < m → ∀ (j : Nat) (f : Field), fs[j]? = some f → ∃ (v : Value) (y : DataW H × List MemPlace) (n : Nat), w.cell? (a.add (i * fs.size + j)) = some v ∧ DataW.trod enc P w base spare held n f.type [v] = some y := by
  rcases open_slice ht h with h0 | ⟨a, len, cap, m, n, D, Pl, hcs, hb, hl, hm, hmm, hx, hi⟩
  · exact .inl h0.1
  · refine .inr ⟨a, len, cap, m, hcs, hl, hm, by rw [hmm]; split <;> omega, fun i him => ?_⟩
    obtain ⟨cs', hc, ht'⟩ := hi i him
    rw [hC] at hc
    obtain ⟨ys, n', hn', hy, hlen, hyl, hf⟩ := DataW.trod_struct he ht'
    obtain ⟨_, hcl, hat⟩ := World.cells?_some hc
    intro j f hj
    obtain ⟨ho, hk⟩ := hone_of hone j f hj
    have hjl : j < fs.size := (Array.getElem?_eq_some_iff.1 hj).1
    have hcell := hat j hjl
    have hv : cs'[j]? = some (cs'[j]'(by omega)) := List.getElem?_eq_getElem (by omega)
    have h1 := hf j f hj
    rw [ho, hk] at h1
    have hone' : (cs'.drop j).take 1 = [cs'[j]'(by omega)] := by
      rw [List.drop_eq_getElem_cons (by omega)]
      rfl
    rw [hone'] at h1
    have hys : ys[j]? = some (ys[j]'(by omega)) := List.getElem?_eq_getElem (by omega)
    refine ⟨_, _, n', ?_, h1.trans hys⟩
    rw [← Go.Deep.add_add, hcell, hv]
theorem plain_ofE {w : World} {a : Addr} {v : Value} (h : w.cell? (a.add 0) = some v) : ∃ b o, a = ⟨b, o, none⟩ := by
  obtain ⟨b, off, spot⟩ := a
  have hspot : spot = none := by simpa [Addr.add] using World.cell?_spot h
  subst hspot
  exact ⟨b, off, rfl⟩
set_option maxRecDepth 100000 in
theorem trod_iE {n : Nat} {v : Value} {y : DataW H × List MemPlace} (h : DataW.trod enc Try.prog w base spare held n 3 [v] = some y) : ∃ z : Int, v = .int .i64 z := by
  obtain ⟨z, e, _⟩ := DataW.trod_int Try.underlying3 h
  simp at e
  exact ⟨z, e⟩
set_option maxRecDepth 100000 in
theorem trod_sE {n : Nat} {v : Value} {y : DataW H × List MemPlace} (h : DataW.trod enc Try.prog w base spare held n 9 [v] = some y) : ∃ z : ByteArray, v = .string z ∧ z.size ≤ maxLen := by
  obtain ⟨z, e, _, hz⟩ := DataW.trod_string Try.underlying9 h
  simp at e
  exact ⟨z, e, hz⟩
theorem cellsBk : Try.prog.cellsOf 55 = 4 := by kernel_rfl
/-- A list of baskets that came in: read, its products not too long for Go. -/
def InB (w : World) (v : Value) (l : List Bsk) : Prop := RowE encB w v l ∧ ∀ x ∈ l, x.pr.size ≤ maxLen
theorem rowB_list {v : Value} {len cap b o : Nat} {r : Nat → Bsk} (hl : len ≤ cap) (hm : cap ≤ maxLen)
    (hr : ∀ k, k < len → w.cell? ⟨b, o + k * 4, none⟩ = some (.int .i64 (r k).nu) ∧ w.cell? ⟨b, o + k * 4 + 1, none⟩ = some (.int .i64 (r k).ca) ∧ w.cell? ⟨b, o + k * 4 + 2, none⟩ = some (.string (r k).pr) ∧ w.cell? ⟨b, o + k * 4 + 3, none⟩ = some (.int .i64 (r k).cn))
    (hs : ∀ k, k < len → (r k).pr.size ≤ maxLen) (hv : v = .slice (some ⟨b, o, none⟩) len cap) : ∃ l : List Bsk, InB w v l := by
  subst hv
  have e : ((List.range len).map r).length = len := by simp
  refine ⟨(List.range len).map r, ⟨some ⟨b, o, none⟩, b, o, cap, by rw [e], by rw [e]; exact hl, hm, .inr rfl, fun k hk j x hx => ?_⟩, fun x hx => ?_⟩
  · rw [e] at hk
    obtain ⟨g0, g1, g2, g3⟩ := hr k hk
    simp only [encB, List.getElem_map, List.getElem_range] at hx
    rcases j with _ | _ | _ | _ | j
    · cases hx; exact g0
    · cases hx; exact g1
    · cases hx; exact g2
    · cases hx; exact g3
    · simp at hx
  · obtain ⟨k, hk, rfl⟩ := List.mem_map.1 hx
    exact hs k (List.mem_range.1 hk)
set_option maxRecDepth 100000 in
theorem rowB_of {v : Value} {n : Nat} {y : DataW H × List MemPlace} (h : DataW.trod enc Try.prog w base spare held n 22 [v] = some y) : ∃ l : List Bsk, InB w v l := by
  rcases open_slice_fieldsE Try.underlying22 Try.underlying55 (by kernel_rfl) cellsBk h with h0 | ⟨a, len, cap, m, hcs, hl, hm, hlm, hc⟩
  · simp at h0
    subst h0
    exact ⟨[], rowE_nil _ _ _ _ (by unfold maxLen; omega), fun _ h => absurd h (by simp)⟩
  · simp at hcs
    subst hcs
    rcases Nat.eq_zero_or_pos len with rfl | hp
    · exact ⟨[], rowE_nil _ _ _ _ hm, fun _ h => absurd h (by simp)⟩
    · obtain ⟨v0, _, _, hc0, _⟩ := hc 0 (by omega) 0 _ rfl
      obtain ⟨b, o, rfl⟩ := plain_ofE hc0
      have hx : ∀ k, ∃ x : Bsk, k < len → (w.cell? ⟨b, o + k * 4, none⟩ = some (.int .i64 x.nu) ∧ w.cell? ⟨b, o + k * 4 + 1, none⟩ = some (.int .i64 x.ca) ∧ w.cell? ⟨b, o + k * 4 + 2, none⟩ = some (.string x.pr) ∧ w.cell? ⟨b, o + k * 4 + 3, none⟩ = some (.int .i64 x.cn)) ∧ x.pr.size ≤ maxLen := fun k => by
        by_cases hk : k < len
        · obtain ⟨u0, _, _, g0, t0⟩ := hc k (by omega) 0 _ rfl
          obtain ⟨u1, _, _, g1, t1⟩ := hc k (by omega) 1 _ rfl
          obtain ⟨u2, _, _, g2, t2⟩ := hc k (by omega) 2 _ rfl
          obtain ⟨u3, _, _, g3, t3⟩ := hc k (by omega) 3 _ rfl
          obtain ⟨z0, rfl⟩ := trod_iE t0
          obtain ⟨z1, rfl⟩ := trod_iE t1
          obtain ⟨z2, rfl, hz⟩ := trod_sE t2
          obtain ⟨z3, rfl⟩ := trod_iE t3
          rw [Go.WideShapes.add_plain] at g0 g1 g2 g3
          exact ⟨⟨z0, z1, z2, z3⟩, fun _ => ⟨⟨g0, g1, g2, g3⟩, hz⟩⟩
        · exact ⟨default, fun h => absurd h hk⟩
      obtain ⟨r, hr⟩ := Classical.axiomOfChoice hx
      exact rowB_list hl hm (fun k hk => (hr k hk).1) (fun k hk => (hr k hk).2) rfl
set_option maxRecDepth 100000 in
theorem open_bsks {r : Reach} {b0 : Nat} {v : Value} {d : DataW H} {p : List MemPlace} (hv : Value.okWide Try.prog w r b0 22 v) (h : DataW.Trod enc Try.prog w base spare held 22 v d p) :
    ∃ l : List Bsk, InB w v l := by
  obtain ⟨a0, len, cap, rfl⟩ := okWide_slice Try.underlying22 hv
  obtain ⟨fuel, hf⟩ := h
  exact rowB_of (v := .slice a0 len cap) hf
end
end Go.Proofs.Ytikjgbfbbkmmcaa
