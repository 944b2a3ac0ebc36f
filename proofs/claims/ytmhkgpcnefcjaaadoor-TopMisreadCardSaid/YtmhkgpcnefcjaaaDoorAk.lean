/- Rows of stamps: those that come in. -/
import Derived.Test.YtmhkgpcnefcjaaaDoorAb
import Derived.ChangeMaps5
namespace Go.Proofs.YtmhkgpcnefcjaaaDoor
open Go.ChangeShapes Go.WideShapes Go.ChangeAt Go.RowKit Go.Joins Go.Deep

/-- A stamp. -/
structure Stp where
  pl : ByteArray
  pr : ByteArray
  ln : ByteArray
  dy : Int
  pe : Int
instance : Inhabited Stp := ⟨⟨⟨#[]⟩, ⟨#[]⟩, ⟨#[]⟩, 0, 0⟩⟩
def Stp.ok (x : Stp) : Bool := stampB x.pl x.pr x.ln x.dy x.pe
/-- The code of a valid stamp. -/
def IsCode (x : Stp) (c : ByteArray) : Prop := ∃ y, IsYear x.dy y ∧ c = printS x.pl x.pr x.ln x.dy x.pe y
theorem code_ex : ∃ f : Stp → ByteArray, ∀ x, x.ok = true → IsCode x (f x) := by
  have h : ∀ x : Stp, ∃ c, x.ok = true → IsCode x c := fun x => by
    by_cases g : x.ok = true
    · obtain ⟨_, _, _, ⟨h0, h1⟩, _⟩ := (stampB_iff ..).1 g
      obtain ⟨y, hy⟩ := year_ex h0 h1
      exact ⟨_, fun _ => ⟨y, hy, rfl⟩⟩
    · exact ⟨⟨#[]⟩, fun h => absurd h g⟩
  exact Classical.axiomOfChoice h
/-- A slice of stamps that is read. -/
def RowU (w : World) (v : Value) (l : List Stp) : Prop :=
  ∃ (a : Option Addr) (b o cap : Nat), v = .slice a l.length cap ∧ (l = [] ∨ a = some ⟨b, o, none⟩) ∧ l.length ≤ maxLen ∧ ∀ k (h : k < l.length),
    w.cell? ⟨b, o + k * 5, none⟩ = some (.string l[k].pl) ∧ w.cell? ⟨b, o + k * 5 + 1, none⟩ = some (.string l[k].pr) ∧ w.cell? ⟨b, o + k * 5 + 2, none⟩ = some (.string l[k].ln) ∧ w.cell? ⟨b, o + k * 5 + 3, none⟩ = some (.int .i64 l[k].dy) ∧ w.cell? ⟨b, o + k * 5 + 4, none⟩ = some (.int .i64 l[k].pe)
theorem RowU.keep {w w2 : World} {v : Value} {l : List Stp} (h : RowU w v l) (hb : Below w.heap.size w w2) : RowU w2 v l := by
  obtain ⟨a, b, o, cap, h1, h2, h3, h4⟩ := h
  refine ⟨a, b, o, cap, h1, h2, h3, fun j hj => ?_⟩
  obtain ⟨c0, c1, c2, c3, c4⟩ := h4 j hj
  exact ⟨keep_cell hb c0, keep_cell hb c1, keep_cell hb c2, keep_cell hb c3, keep_cell hb c4⟩
theorem RowU.nil (w : World) (a : Option Addr) (cap : Nat) : RowU w (.slice a 0 cap) [] := ⟨a, 0, 0, cap, rfl, .inl rfl, Nat.zero_le _, fun j h => absurd h (Nat.not_lt_zero j)⟩
theorem RowU.most {w : World} {v : Value} {l : List Stp} (h : RowU w v l) : l.length ≤ maxLen := by
  obtain ⟨_, _, _, _, _, _, h3, _⟩ := h
  exact h3
theorem RowU.shape {w : World} {v : Value} {l : List Stp} (h : RowU w v l) : ∃ a cap, v = .slice a l.length cap := by
  obtain ⟨a, _, _, cap, h1, _⟩ := h
  exact ⟨a, cap, h1⟩
section
variable {H : Type} {enc : TypeId × Value → H} {P : Program} {w : World} {base : Nat} {spare : Nat → Bool} {held : Bool}
theorem open_slice_fieldsU {t e : TypeId} {fs : Array Field} {fuel : Nat} {cs : List Value} {x : DataW H × List MemPlace} (ht : P.underlying t = some (.slice e)) (he : P.underlying e = some (.struct fs))
    (hone : oneCellFields P fs = true) (hC : P.cellsOf e = fs.size) (h : DataW.trod enc P w base spare held fuel t cs = some x) :
    cs = [.slice none 0 0] ∨
    ∃ (a : Addr) (len cap m : Nat), cs = [.slice (some a) len cap] ∧ len ≤ cap ∧ cap ≤ maxLen ∧ len ≤ m ∧
      ∀ i, i < m → ∀ (j : Nat) (f : Field), fs[j]? = some f → ∃ (v : Value) (y : DataW H × List MemPlace) (n : Nat), w.cell? (a.add (i * fs.size + j)) = some v ∧ DataW.trod enc P w base spare held n f.type [v] = some y := by
  rcases open_slice ht h with h0 | ⟨a, len, cap, m, n, D, Pl, hcs, hb, hl, hm, hmm, hx, hi⟩
  · exact .inl h0.1
  · refine .inr ⟨a, len, cap, m, hcs, hl, hm, by rw [hmm]; split <;> omega, fun i him => ?_⟩
    obtain ⟨cs', hc, ht'⟩ := hi i him
    rw [hC] at hc
    obtain ⟨ys, n', hn', hy, hlen, hyl, hf⟩ := DataW.trod_struct he ht'
    obtain ⟨_, hcl, hat⟩ := World.cells?_some hc
    intro j f hj
    obtain ⟨ho, hk⟩ := hone_of hone j f hj
    have hjl : j < fs.size := (Array.getElem?_eq_some_iff.1 hj).1
    have hcell := hat j hjl
    have hv : cs'[j]? = some (cs'[j]'(by omega)) := List.getElem?_eq_getElem (by omega)
    have h1 := hf j f hj
    rw [ho, hk] at h1
    have hone' : (cs'.drop j).take 1 = [cs'[j]'(by omega)] := by
      rw [List.drop_eq_getElem_cons (by omega)]
      rfl
    rw [hone'] at h1
    have hys : ys[j]? = some (ys[j]'(by omega)) := List.getElem?_eq_getElem (by omega)
    refine ⟨_, _, n', ?_, h1.trans hys⟩
    rw [← Go.Deep.add_add, hcell, hv]
theorem plain_ofU {w : World} {a : Addr} {v : Value} (h : w.cell? (a.add 0) = some v) : ∃ b o, a = ⟨b, o, none⟩ := by
  obtain ⟨b, off, spot⟩ := a
  have hspot : spot = none := by simpa [Addr.add] using World.cell?_spot h
  subst hspot
  exact ⟨b, off, rfl⟩
set_option maxRecDepth 100000 in
theorem trod_iU {n : Nat} {v : Value} {y : DataW H × List MemPlace} (h : DataW.trod enc Tryd.prog w base spare held n 3 [v] = some y) : ∃ z : Int, v = .int .i64 z := by
  obtain ⟨z, e, _⟩ := DataW.trod_int Tryd.underlying3 h
  simp at e
  exact ⟨z, e⟩
set_option maxRecDepth 100000 in
theorem trod_sU {n : Nat} {v : Value} {y : DataW H × List MemPlace} (h : DataW.trod enc Tryd.prog w base spare held n 9 [v] = some y) : ∃ z : ByteArray, v = .string z := by
  obtain ⟨z, e, _⟩ := DataW.trod_string Tryd.underlying9 h
  simp at e
  exact ⟨z, e⟩
theorem rowU_list {v : Value} {len cap b o : Nat} {r : Nat → Stp} (hl : len ≤ cap) (hm : cap ≤ maxLen)
    (hr : ∀ k, k < len → w.cell? ⟨b, o + k * 5, none⟩ = some (.string (r k).pl) ∧ w.cell? ⟨b, o + k * 5 + 1, none⟩ = some (.string (r k).pr) ∧ w.cell? ⟨b, o + k * 5 + 2, none⟩ = some (.string (r k).ln) ∧ w.cell? ⟨b, o + k * 5 + 3, none⟩ = some (.int .i64 (r k).dy) ∧ w.cell? ⟨b, o + k * 5 + 4, none⟩ = some (.int .i64 (r k).pe))
    (hv : v = .slice (some ⟨b, o, none⟩) len cap) : ∃ l : List Stp, RowU w v l := by
  subst hv
  have e : ((List.range len).map r).length = len := by simp
  refine ⟨(List.range len).map r, some ⟨b, o, none⟩, b, o, cap, by rw [e], .inr rfl, by rw [e]; omega, fun k hk => ?_⟩
  rw [e] at hk
  simpa using hr k hk
set_option maxRecDepth 100000 in
theorem rowU_of {v : Value} {n : Nat} {y : DataW H × List MemPlace} (h : DataW.trod enc Tryd.prog w base spare held n 40 [v] = some y) : ∃ l : List Stp, RowU w v l := by
  rcases open_slice_fieldsU Tryd.underlying40 Tryd.underlying48 (by kernel_rfl) cellsZ h with h0 | ⟨a, len, cap, m, hcs, hl, hm, hlm, hc⟩
  · simp at h0
    subst h0
    exact ⟨[], RowU.nil _ _ _⟩
  · simp at hcs
    subst hcs
    rcases Nat.eq_zero_or_pos len with rfl | hp
    · exact ⟨[], RowU.nil _ _ _⟩
    · obtain ⟨v0, _, _, hc0, _⟩ := hc 0 (by omega) 0 _ rfl
      obtain ⟨b, o, rfl⟩ := plain_ofU hc0
      have hx : ∀ k, ∃ x : Stp, k < len → w.cell? ⟨b, o + k * 5, none⟩ = some (.string x.pl) ∧ w.cell? ⟨b, o + k * 5 + 1, none⟩ = some (.string x.pr) ∧ w.cell? ⟨b, o + k * 5 + 2, none⟩ = some (.string x.ln) ∧ w.cell? ⟨b, o + k * 5 + 3, none⟩ = some (.int .i64 x.dy) ∧ w.cell? ⟨b, o + k * 5 + 4, none⟩ = some (.int .i64 x.pe) := fun k => by
        by_cases hk : k < len
        · obtain ⟨u0, _, _, g0, t0⟩ := hc k (by omega) 0 _ rfl
          obtain ⟨u1, _, _, g1, t1⟩ := hc k (by omega) 1 _ rfl
          obtain ⟨u2, _, _, g2, t2⟩ := hc k (by omega) 2 _ rfl
          obtain ⟨u3, _, _, g3, t3⟩ := hc k (by omega) 3 _ rfl
          obtain ⟨u4, _, _, g4, t4⟩ := hc k (by omega) 4 _ rfl
          obtain ⟨z0, rfl⟩ := trod_sU t0
          obtain ⟨z1, rfl⟩ := trod_sU t1
          obtain ⟨z2, rfl⟩ := trod_sU t2
          obtain ⟨z3, rfl⟩ := trod_iU t3
          obtain ⟨z4, rfl⟩ := trod_iU t4
          rw [Go.WideShapes.add_plain] at g0 g1 g2 g3 g4
          exact ⟨⟨z0, z1, z2, z3, z4⟩, fun _ => ⟨g0, g1, g2, g3, g4⟩⟩
        · exact ⟨default, fun h => absurd h hk⟩
      obtain ⟨r, hr⟩ := Classical.axiomOfChoice hx
      exact rowU_list hl hm hr rfl
set_option maxRecDepth 100000 in
theorem open_stamps {r : Reach} {b0 : Nat} {v : Value} {d : DataW H} {p : List MemPlace} (hv : Value.okWide Tryd.prog w r b0 40 v) (h : DataW.Trod enc Tryd.prog w base spare held 40 v d p) :
    ∃ l : List Stp, RowU w v l := by
  obtain ⟨a0, len, cap, rfl⟩ := okWide_slice Tryd.underlying40 hv
  obtain ⟨fuel, hf⟩ := h
  exact rowU_of (v := .slice a0 len cap) hf
end
end Go.Proofs.YtmhkgpcnefcjaaaDoor
