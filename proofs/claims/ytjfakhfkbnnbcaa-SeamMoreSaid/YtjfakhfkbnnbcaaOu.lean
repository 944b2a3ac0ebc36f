/- A slice of sheets that comes in, opened. -/
import Derived.Test.YtjfakhfkbnnbcaaP2
import Derived.Test.YtjfakhfkbnnbcaaP15
import Derived.ChangeMaps5
namespace Go.Proofs.Ytjfakhfkbnnbcaa
open Go.ChangeShapes Go.WideShapes Go.ChangeAt Go.RowKit Go.Joins Go.Deep

section
variable {H : Type} {enc : TypeId × Value → H} {P : Program} {w : World} {base : Nat} {spare : Nat → Bool} {held : Bool}
theorem open_slice_fields {t e : TypeId} {fs : Array Field} {fuel : Nat} {cs : List Value} {x : DataW H × List MemPlace} (ht : P.underlying t = some (.slice e)) (he : P.underlying e = some (.struct fs))
    (hone : oneCellFields P fs = true) (hC : P.cellsOf e = fs.size) (h : DataW.trod enc P w base spare held fuel t cs = some x) :
    cs = [.slice none 0 0] ∨
    ∃ (a : Addr) (len cap m : Nat), cs = [.slice (some a) len cap] ∧ len ≤ cap ∧ cap ≤ maxLen ∧ len ≤ m ∧
      ∀ i, i < m → ∀ (j : Nat) (f : Field), fs[j]? = some f → ∃ (v : Value) (y : DataW H × List MemPlace) (n : Nat), w.cell? (a.add (i * fs.size + j)) = some v ∧ DataW.trod enc P w base spare held n f.type [v] = some y := by
  rcases open_slice ht h with h0 | ⟨a, len, cap, m, n, D, Pl, hcs, hb, hl, hm, hmm, hx, hi⟩
  · exact .inl h0.1
  · refine .inr ⟨a, len, cap, m, hcs, hl, hm, by rw [hmm]; split <;> omega, fun i him => ?_⟩
    obtain ⟨cs', hc, ht'⟩ := hi i him
    rw [hC] at hc
    obtain ⟨ys, n', hn', hy, hlen, hyl, hf⟩ := DataW.trod_struct he ht'
    obtain ⟨_, hcl, hat⟩ := World.cells?_some hc
    intro j f hj
    obtain ⟨ho, hk⟩ := hone_of hone j f hj
    have hjl : j < fs.size := (Array.getElem?_eq_some_iff.1 hj).1
    have hcell := hat j hjl
    have hv : cs'[j]? = some (cs'[j]'(by omega)) := List.getElem?_eq_getElem (by omega)
    have h1 := hf j f hj
    rw [ho, hk] at h1
    have hone' : (cs'.drop j).take 1 = [cs'[j]'(by omega)] := by
      rw [List.drop_eq_getElem_cons (by omega)]
      rfl
    rw [hone'] at h1
    have hys : ys[j]? = some (ys[j]'(by omega)) := List.getElem?_eq_getElem (by omega)
    refine ⟨_, _, n', ?_, h1.trans hys⟩
    rw [← Go.Deep.add_add, hcell, hv]
theorem trod_i {n : Nat} {v : Value} {y : DataW H × List MemPlace} (h : DataW.trod enc Try.prog w base spare held n 3 [v] = some y) : ∃ z : Int, v = .int .i64 z := by
  obtain ⟨z, e, _⟩ := DataW.trod_int Try.underlying3 h
  simp at e
  exact ⟨z, e⟩
theorem plain_of {w : World} {a : Addr} {v : Value} (h : w.cell? (a.add 0) = some v) : ∃ b o, a = ⟨b, o, none⟩ := by
  obtain ⟨b, off, spot⟩ := a
  have hspot : spot = none := by simpa [Addr.add] using World.cell?_spot h
  subst hspot
  exact ⟨b, off, rfl⟩
theorem rowH_list {v : Value} {len cap b o : Nat} {r : Nat → Sh} (hl : len ≤ cap) (hm : cap ≤ maxLen) (hr : ∀ k, k < len → ShAt w b (o + k * 10) (r k)) (hv : v = .slice (some ⟨b, o, none⟩) len cap) : ∃ l : List Sh, RowH w v l := by
  subst hv
  have e : ((List.range len).map r).length = len := by simp
  refine ⟨(List.range len).map r, some ⟨b, o, none⟩, b, o, cap, by rw [e], by rw [e]; exact hl, hm, .inr rfl, fun k hk => ?_⟩
  rw [e] at hk
  simpa using hr k hk
set_option maxRecDepth 100000 in
theorem rowH_of {v : Value} {n : Nat} {y : DataW H × List MemPlace} (h : DataW.trod enc Try.prog w base spare held n 24 [v] = some y) : ∃ l : List Sh, RowH w v l := by
  rcases open_slice_fields Try.underlying24 Try.underlying39 (by kernel_rfl) cellsS h with h0 | ⟨a, len, cap, m, hcs, hl, hm, hlm, hc⟩
  · simp at h0
    subst h0
    exact ⟨[], none, 0, 0, 0, rfl, Nat.le_refl _, by simp [maxLen], .inl rfl, fun k hk => absurd hk (Nat.not_lt_zero k)⟩
  · simp at hcs
    subst hcs
    rcases Nat.eq_zero_or_pos len with rfl | hp
    · exact ⟨[], some a, 0, 0, cap, rfl, Nat.zero_le _, hm, .inl rfl, fun k hk => absurd hk (Nat.not_lt_zero k)⟩
    · obtain ⟨v0, _, _, hc0, _⟩ := hc 0 (by omega) 0 _ rfl
      obtain ⟨b, o, rfl⟩ := plain_of hc0
      have hx : ∀ k, ∃ x : Sh, k < len → ShAt w b (o + k * 10) x := fun k => by
        by_cases hk : k < len
        · obtain ⟨u0, _, _, g0, t0⟩ := hc k (by omega) 0 _ rfl
          obtain ⟨u1, _, _, g1, t1⟩ := hc k (by omega) 1 _ rfl
          obtain ⟨u2, _, _, g2, t2⟩ := hc k (by omega) 2 _ rfl
          obtain ⟨u3, _, _, g3, t3⟩ := hc k (by omega) 3 _ rfl
          obtain ⟨u4, _, _, g4, t4⟩ := hc k (by omega) 4 _ rfl
          obtain ⟨u5, _, _, g5, t5⟩ := hc k (by omega) 5 _ rfl
          obtain ⟨u6, _, _, g6, t6⟩ := hc k (by omega) 6 _ rfl
          obtain ⟨u7, _, _, g7, t7⟩ := hc k (by omega) 7 _ rfl
          obtain ⟨u8, _, _, g8, t8⟩ := hc k (by omega) 8 _ rfl
          obtain ⟨u9, _, _, g9, t9⟩ := hc k (by omega) 9 _ rfl
          obtain ⟨z0, rfl⟩ := trod_i t0
          obtain ⟨z1, rfl⟩ := trod_i t1
          obtain ⟨z2, rfl⟩ := trod_i t2
          obtain ⟨z3, rfl⟩ := trod_i t3
          obtain ⟨z4, rfl⟩ := trod_i t4
          obtain ⟨z5, rfl⟩ := trod_i t5
          obtain ⟨z6, rfl⟩ := trod_i t6
          obtain ⟨z7, rfl⟩ := trod_i t7
          obtain ⟨z8, rfl⟩ := trod_i t8
          obtain ⟨z9, rfl⟩ := trod_i t9
          rw [Go.WideShapes.add_plain] at g0 g1 g2 g3 g4 g5 g6 g7 g8 g9
          exact ⟨⟨z0, z1, z2, z3, z4, z5, z6, z7, z8, z9⟩, fun _ => ⟨g0, g1, g2, g3, g4, g5, g6, g7, g8, g9⟩⟩
        · exact ⟨shD, fun h => absurd h hk⟩
      obtain ⟨r, hr⟩ := Classical.axiomOfChoice hx
      exact rowH_list hl hm hr rfl
set_option maxRecDepth 100000 in
theorem open_sheets {r : Reach} {b0 : Nat} {v : Value} {d : DataW H} {p : List MemPlace} (hv : Value.okWide Try.prog w r b0 24 v) (h : DataW.Trod enc Try.prog w base spare held 24 v d p) :
    ∃ l : List Sh, RowH w v l := by
  obtain ⟨a0, len, cap, rfl⟩ := okWide_slice Try.underlying24 hv
  obtain ⟨fuel, hf⟩ := h
  exact rowH_of (v := .slice a0 len cap) hf
end
end Go.Proofs.Ytjfakhfkbnnbcaa
