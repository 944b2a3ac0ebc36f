/- Texts of this seat, one behind the other. -/
import Derived.Test.YtihbjimnjhfpeaaG02
import Derived.ChangeMaps5
import Derived.ChangeAt
import Derived.ProofKit
import Derived.OpenShut
import Derived.ChangeOld
import Derived.Lib.SmallJoins
import Derived.Deep.Fields
import Derived.WideKeyPair
/- Schedules: rows of them that come in; the search through them in plain words. -/
namespace Go.Proofs.Ytihbjimnjhfpeaa
open Go.ChangeShapes Go.WideShapes Go.ChangeAt Go.RowKit Go.Joins Go.Deep

/-- A schedule. -/
structure Sch where
  pr : ByteArray
  it : Int
  tm : Int
  tk : Int
  fl : Int
instance : Inhabited Sch := ⟨⟨⟨#[]⟩, 0, 0, 0, 0⟩⟩
def inB (x a b : Int) : Bool := decide (a ≤ x) && decide (x ≤ b)
def Sch.ok (x : Sch) : Bool := Lt.nameB x.pr.data.toList && okT x.it && inB x.tm 0 200000 && inB x.tk 1 2000 && inB x.fl 1 1000000
/-- Whether a schedule allows an initial temperature and a fill. -/
def Sch.fit (x : Sch) (i f : Int) : Bool := decide (x.it ≤ i) && decide (f ≤ x.fl)
def schsB (l : List Sch) : Bool := decide (l.length ≤ 64) && l.all Sch.ok
/-- The search behind k schedules: which was found, and 0 (the name is not known), 1 (none allows it), 2 (found). -/
def lkS (l : List Sch) (p : ByteArray) (i f : Int) : Nat → Nat × Nat
  | 0 => (0, 0)
  | k + 1 => if (l.getD k default).pr = p then
      (if (l.getD k default).fit i f && (lkS l p i f k).2 != 2 || (l.getD k default).fit i f && decide ((l.getD k default).tk < (l.getD (lkS l p i f k).1 default).tk) then (k, 2) else ((lkS l p i f k).1, if (lkS l p i f k).2 = 0 then 1 else (lkS l p i f k).2))
    else lkS l p i f k
theorem lkS_inv (l : List Sch) (p : ByteArray) (i f : Int) : ∀ k, ((lkS l p i f k).2 = 0 ∧ (lkS l p i f k).1 = 0) ∨ ((lkS l p i f k).2 = 1 ∧ (lkS l p i f k).1 = 0) ∨ ((lkS l p i f k).2 = 2 ∧ (lkS l p i f k).1 < k)
  | 0 => .inl ⟨rfl, rfl⟩
  | k + 1 => by
    have ih := lkS_inv l p i f k
    unfold lkS
    split
    · split
      · exact .inr (.inr ⟨rfl, Nat.lt_succ_self k⟩)
      · rcases ih with ⟨h1, h2⟩ | ⟨h1, h2⟩ | ⟨h1, h2⟩
        · exact .inr (.inl ⟨by simp [h1], h2⟩)
        · exact .inr (.inl ⟨by simp [h1], h2⟩)
        · exact .inr (.inr ⟨by simp [h1], by dsimp only; omega⟩)
    · rcases ih with h | h | ⟨h1, h2⟩
      · exact .inl h
      · exact .inr (.inl h)
      · exact .inr (.inr ⟨h1, by omega⟩)
/-- Lookup's two answers. -/
def lkE (l : List Sch) (p : ByteArray) (i f : Int) : Int :=
  if schsB l then (if okT i && inB f 0 1000000 then (if (lkS l p i f l.length).2 = 0 then 5 else if (lkS l p i f l.length).2 = 1 then 8 else 0) else 7) else 1
def lkV (l : List Sch) (p : ByteArray) (i f : Int) : Int :=
  if schsB l then (if okT i && inB f 0 1000000 then ((lkS l p i f l.length).1 : Nat) else 0) else 0
theorem lk_bad {l : List Sch} {p : ByteArray} {i f : Int} (h : schsB l = false) : lkE l p i f = 1 ∧ lkV l p i f = 0 := by
  unfold lkE lkV; rw [h]; exact ⟨rfl, rfl⟩
theorem lk_rng {l : List Sch} {p : ByteArray} {i f : Int} (h : schsB l = true) (g : (okT i && inB f 0 1000000) = false) : lkE l p i f = 7 ∧ lkV l p i f = 0 := by
  unfold lkE lkV; rw [h, g]; exact ⟨rfl, rfl⟩
/-- The error that goes with how far the search came. -/
def lkC (b : Nat) : Int := if b = 0 then 5 else if b = 1 then 8 else 0
theorem lk_end {l : List Sch} {p : ByteArray} {i f : Int} {a b : Nat} (h : schsB l = true) (g : (okT i && inB f 0 1000000) = true) (e : lkS l p i f l.length = (a, b)) : lkE l p i f = lkC b ∧ lkV l p i f = a := by
  unfold lkE lkV lkC; rw [h, g, e]; exact ⟨rfl, rfl⟩
theorem getE {l : List Sch} {k : Nat} (h : k < l.length) : l.getD k default = l[k] := by simp [List.getD, h]
theorem lkS_skip {l : List Sch} {p : ByteArray} {i f : Int} {k a b : Nat} (hk : k < l.length) (e : lkS l p i f k = (a, b)) (h : l[k].pr ≠ p) : lkS l p i f (k + 1) = (a, b) := by
  unfold lkS; rw [getE hk, if_neg h]; exact e
theorem lkS_none {l : List Sch} {p : ByteArray} {i f : Int} {k a b : Nat} (hk : k < l.length) (e : lkS l p i f k = (a, b)) (h : l[k].pr = p) (hf : l[k].fit i f = false) : lkS l p i f (k + 1) = (a, if b = 0 then 1 else b) := by
  unfold lkS; rw [getE hk, if_pos h, hf, e]; simp
theorem lkS_first {l : List Sch} {p : ByteArray} {i f : Int} {k a b : Nat} (hk : k < l.length) (e : lkS l p i f k = (a, b)) (h : l[k].pr = p) (hf : l[k].fit i f = true) (hb : b ≠ 2) : lkS l p i f (k + 1) = (k, 2) := by
  unfold lkS; rw [getE hk, if_pos h, hf, e]; simp [hb]
theorem lkS_less {l : List Sch} {p : ByteArray} {i f : Int} {k a : Nat} (hk : k < l.length) (ha : a < l.length) (e : lkS l p i f k = (a, 2)) (h : l[k].pr = p) (hf : l[k].fit i f = true) (hl : l[k].tk < l[a].tk) : lkS l p i f (k + 1) = (k, 2) := by
  unfold lkS; rw [getE hk, if_pos h, hf, e]; simp only [getE ha]; simp [hl]
theorem lkS_more {l : List Sch} {p : ByteArray} {i f : Int} {k a : Nat} (hk : k < l.length) (ha : a < l.length) (e : lkS l p i f k = (a, 2)) (h : l[k].pr = p) (hf : l[k].fit i f = true) (hl : ¬ l[k].tk < l[a].tk) : lkS l p i f (k + 1) = (a, 2) := by
  unfold lkS; rw [getE hk, if_pos h, hf, e]; simp only [getE ha]; simp [hl]
/-- A slice of schedules that is read. -/
def RowE (w : World) (v : Value) (l : List Sch) : Prop :=
  ∃ (a : Option Addr) (b o cap : Nat), v = .slice a l.length cap ∧ (l = [] ∨ a = some ⟨b, o, none⟩) ∧ l.length ≤ maxLen ∧ ∀ k (h : k < l.length),
    w.cell? ⟨b, o + k * 5, none⟩ = some (.string l[k].pr) ∧ w.cell? ⟨b, o + k * 5 + 1, none⟩ = some (.int .i64 l[k].it) ∧ w.cell? ⟨b, o + k * 5 + 2, none⟩ = some (.int .i64 l[k].tm) ∧ w.cell? ⟨b, o + k * 5 + 3, none⟩ = some (.int .i64 l[k].tk) ∧ w.cell? ⟨b, o + k * 5 + 4, none⟩ = some (.int .i64 l[k].fl) ∧ l[k].pr.size ≤ maxLen
theorem RowE.keep {w w2 : World} {v : Value} {l : List Sch} (h : RowE w v l) (hb : Below w.heap.size w w2) : RowE w2 v l := by
  obtain ⟨a, b, o, cap, h1, h2, h3, h4⟩ := h
  refine ⟨a, b, o, cap, h1, h2, h3, fun j hj => ?_⟩
  obtain ⟨c0, c1, c2, c3, c4, c5⟩ := h4 j hj
  exact ⟨keep_cell hb c0, keep_cell hb c1, keep_cell hb c2, keep_cell hb c3, keep_cell hb c4, c5⟩
theorem RowE.nil (w : World) (a : Option Addr) (cap : Nat) : RowE w (.slice a 0 cap) [] := ⟨a, 0, 0, cap, rfl, .inl rfl, Nat.zero_le _, fun j h => absurd h (Nat.not_lt_zero j)⟩
theorem RowE.most {w : World} {v : Value} {l : List Sch} (h : RowE w v l) : l.length ≤ maxLen := by
  obtain ⟨_, _, _, _, _, _, h3, _⟩ := h
  exact h3
theorem RowE.shape {w : World} {v : Value} {l : List Sch} (h : RowE w v l) : ∃ a cap, v = .slice a l.length cap := by
  obtain ⟨a, _, _, cap, h1, _⟩ := h
  exact ⟨a, cap, h1⟩
theorem arr2 : Go.WideMaps.ArrKey Try.prog 23 3 2 := ⟨Try.underlying23, by kernel_rfl, by kernel_rfl, by kernel_rfl⟩
theorem cellsE : Try.prog.cellsOf 39 = 5 := by kernel_rfl
section
variable {H : Type} {enc : TypeId × Value → H} {P : Program} {w : World} {base : Nat} {spare : Nat → Bool} {held : Bool}
theorem open_slice_fieldsE {t e : TypeId} {fs : Array Field} {fuel : Nat} {cs : List Value} {x : DataW H × List MemPlace} (ht : P.underlying t = some (.slice e)) (he : P.underlying e = some (.struct fs))
    (hone : oneCellFields P fs = true) (hC : P.cellsOf e = fs.size) (h : DataW.trod enc P w base spare held fuel t cs = some x) :
    cs = [.slice none 0 0] ∨
    ∃ (a : Addr) (len cap m : Nat), cs = [.slice (some a) len cap] ∧ len ≤ cap ∧ cap ≤ maxLen ∧ len ≤ m ∧
      ∀ i, i < m → ∀ (j : Nat) (f : Field), fs[j]? = some f → ∃ (v : Value) (y : DataW H × List MemPlace) (n : Nat), w.cell? (a.add (i * fs.size + j)) = some v ∧ DataW.trod enc P w base spare held n f.type [v] = some y := by
  rcases open_slice ht h with h0 | ⟨a, len, cap, m, n, D, Pl, hcs, hb, hl, hm, hmm, hx, hi⟩
  · exact .inl h0.1
  · refine .inr ⟨a, len, cap, m, hcs, hl, hm, by rw [hmm]; split <;> omega, fun i him => ?_⟩
    obtain ⟨cs', hc, ht'⟩ := hi i him
    rw [hC] at hc
    obtain ⟨ys, n', hn', hy, hlen, hyl, hf⟩ := DataW.trod_struct he ht'
    obtain ⟨_, hcl, hat⟩ := World.cells?_some hc
    intro j f hj
    obtain ⟨ho, hk⟩ := hone_of hone j f hj
    have hjl : j < fs.size := (Array.getElem?_eq_some_iff.1 hj).1
    have hcell := hat j hjl
    have hv : cs'[j]? = some (cs'[j]'(by omega)) := List.getElem?_eq_getElem (by omega)
    have h1 := hf j f hj
    rw [ho, hk] at h1
    have hone' : (cs'.drop j).take 1 = [cs'[j]'(by omega)] := by
      rw [List.drop_eq_getElem_cons (by omega)]
      rfl
    rw [hone'] at h1
    have hys : ys[j]? = some (ys[j]'(by omega)) := List.getElem?_eq_getElem (by omega)
    refine ⟨_, _, n', ?_, h1.trans hys⟩
    rw [← Go.Deep.add_add, hcell, hv]
theorem plain_ofE {w : World} {a : Addr} {v : Value} (h : w.cell? (a.add 0) = some v) : ∃ b o, a = ⟨b, o, none⟩ := by
  obtain ⟨b, off, spot⟩ := a
  have hspot : spot = none := by simpa [Addr.add] using World.cell?_spot h
  subst hspot
  exact ⟨b, off, rfl⟩
set_option maxRecDepth 100000 in
theorem trod_iE {n : Nat} {v : Value} {y : DataW H × List MemPlace} (h : DataW.trod enc Try.prog w base spare held n 3 [v] = some y) : ∃ z : Int, v = .int .i64 z := by
  obtain ⟨z, e, _⟩ := DataW.trod_int Try.underlying3 h
  simp at e
  exact ⟨z, e⟩
set_option maxRecDepth 100000 in
theorem trod_sE {n : Nat} {v : Value} {y : DataW H × List MemPlace} (h : DataW.trod enc Try.prog w base spare held n 9 [v] = some y) : ∃ z : ByteArray, v = .string z ∧ z.size ≤ maxLen := by
  obtain ⟨z, e, _, hz⟩ := DataW.trod_string Try.underlying9 h
  simp at e
  exact ⟨z, e, hz⟩
theorem rowE_list {v : Value} {len cap b o : Nat} {r : Nat → Sch} (hl : len ≤ cap) (hm : cap ≤ maxLen)
    (hr : ∀ k, k < len → w.cell? ⟨b, o + k * 5, none⟩ = some (.string (r k).pr) ∧ w.cell? ⟨b, o + k * 5 + 1, none⟩ = some (.int .i64 (r k).it) ∧ w.cell? ⟨b, o + k * 5 + 2, none⟩ = some (.int .i64 (r k).tm) ∧ w.cell? ⟨b, o + k * 5 + 3, none⟩ = some (.int .i64 (r k).tk) ∧ w.cell? ⟨b, o + k * 5 + 4, none⟩ = some (.int .i64 (r k).fl) ∧ (r k).pr.size ≤ maxLen)
    (hv : v = .slice (some ⟨b, o, none⟩) len cap) : ∃ l : List Sch, RowE w v l := by
  subst hv
  have e : ((List.range len).map r).length = len := by simp
  refine ⟨(List.range len).map r, some ⟨b, o, none⟩, b, o, cap, by rw [e], .inr rfl, by rw [e]; omega, fun k hk => ?_⟩
  rw [e] at hk
  simpa using hr k hk
set_option maxRecDepth 100000 in
theorem rowE_of {v : Value} {n : Nat} {y : DataW H × List MemPlace} (h : DataW.trod enc Try.prog w base spare held n 22 [v] = some y) : ∃ l : List Sch, RowE w v l := by
  rcases open_slice_fieldsE Try.underlying22 Try.underlying39 (by kernel_rfl) cellsE h with h0 | ⟨a, len, cap, m, hcs, hl, hm, hlm, hc⟩
  · simp at h0
    subst h0
    exact ⟨[], RowE.nil _ _ _⟩
  · simp at hcs
    subst hcs
    rcases Nat.eq_zero_or_pos len with rfl | hp
    · exact ⟨[], RowE.nil _ _ _⟩
    · obtain ⟨v0, _, _, hc0, _⟩ := hc 0 (by omega) 0 _ rfl
      obtain ⟨b, o, rfl⟩ := plain_ofE hc0
      have hx : ∀ k, ∃ x : Sch, k < len → w.cell? ⟨b, o + k * 5, none⟩ = some (.string x.pr) ∧ w.cell? ⟨b, o + k * 5 + 1, none⟩ = some (.int .i64 x.it) ∧ w.cell? ⟨b, o + k * 5 + 2, none⟩ = some (.int .i64 x.tm) ∧ w.cell? ⟨b, o + k * 5 + 3, none⟩ = some (.int .i64 x.tk) ∧ w.cell? ⟨b, o + k * 5 + 4, none⟩ = some (.int .i64 x.fl) ∧ x.pr.size ≤ maxLen := fun k => by
        by_cases hk : k < len
        · obtain ⟨u0, _, _, g0, t0⟩ := hc k (by omega) 0 _ rfl
          obtain ⟨u1, _, _, g1, t1⟩ := hc k (by omega) 1 _ rfl
          obtain ⟨u2, _, _, g2, t2⟩ := hc k (by omega) 2 _ rfl
          obtain ⟨u3, _, _, g3, t3⟩ := hc k (by omega) 3 _ rfl
          obtain ⟨u4, _, _, g4, t4⟩ := hc k (by omega) 4 _ rfl
          obtain ⟨z0, rfl, s0⟩ := trod_sE t0
          obtain ⟨z1, rfl⟩ := trod_iE t1
          obtain ⟨z2, rfl⟩ := trod_iE t2
          obtain ⟨z3, rfl⟩ := trod_iE t3
          obtain ⟨z4, rfl⟩ := trod_iE t4
          rw [Go.WideShapes.add_plain] at g0 g1 g2 g3 g4
          exact ⟨⟨z0, z1, z2, z3, z4⟩, fun _ => ⟨g0, g1, g2, g3, g4, s0⟩⟩
        · exact ⟨default, fun h => absurd h hk⟩
      obtain ⟨r, hr⟩ := Classical.axiomOfChoice hx
      exact rowE_list hl hm hr rfl
set_option maxRecDepth 100000 in
theorem open_scheds {r : Reach} {b0 : Nat} {v : Value} {d : DataW H} {p : List MemPlace} (hv : Value.okWide Try.prog w r b0 22 v) (h : DataW.Trod enc Try.prog w base spare held 22 v d p) :
    ∃ l : List Sch, RowE w v l := by
  obtain ⟨a0, len, cap, rfl⟩ := okWide_slice Try.underlying22 hv
  obtain ⟨fuel, hf⟩ := h
  exact rowE_of (v := .slice a0 len cap) hf
end
end Go.Proofs.Ytihbjimnjhfpeaa

/- Walks of temperatures, Places, Stirred, ValidBody of both: contracts. -/
namespace Go.Proofs.Ytihbjimnjhfpeaa
open Go.RowKit

set_option maxHeartbeats 2000000 in
theorem temps_any (w : World) (v : Value) (l : List Int) (hl : RowI w v l) :
    Calls Try.prog 70 #[v] w fun e w' => e = .returned (.bool (okL l)) ∧ w = w' := by
  rcases hl with ⟨a0, c0, rfl, rfl⟩ | ⟨b, o, cap, rfl, hm, hc⟩
  · go_enter Try.func70, Try.ntmps70
    go_wp2
    refine wp_loop_rounds 1 ?_
    rw [rounds_succ]
    go_wp2
    go_ret
    exact ⟨rfl, rfl⟩
  · have HC := hid hc; clear hc
    unfold maxLen at hm
    go_enter Try.func70, Try.ntmps70
    go_wp2
    go_loop [7] (fun i => ∃ k : Nat, k ≤ l.length ∧ i = .int .i64 (k : Int) ∧ Hid (∀ j (hj : j < l.length), j < k → okT l[j] = true)) (fun i => l.length - (intOf i).toNat)
    case atStart => exact ⟨0, Nat.zero_le _, rfl, fun j _ h => absurd h (Nat.not_lt_zero _)⟩
    case round =>
      obtain ⟨k, hk, rfl, hok⟩ := hrel
      by_cases hlt : k < l.length
      · have ex := HC.out k hlt
        have hlt' : (k : Int) < l.length := by omega
        cases ho : okT l[k]
        · have hE := hid (okL_bad hlt ho)
          generalize l[k] = x at ex ho
          change (decide (-50000 ≤ x) && decide (x ≤ 200000)) = false at ho
          go_wp2_with (go_at_call 54; refine (within_any _ _ _ _).mono ?_; rintro e w' ⟨rfl, rfl⟩)
          go_ret
          exact ⟨by rw [hE.out]; rfl, rfl⟩
        · have hst : Hid (∀ j (hj : j < l.length), j < k + 1 → okT l[j] = true) := fun j hj h => by
            rcases Nat.lt_or_ge j k with h1 | h1
            · exact hok.out j hj h1
            · obtain rfl : j = k := by omega
              exact ho
          generalize l[k] = x at ex ho
          change (decide (-50000 ≤ x) && decide (x ≤ 200000)) = true at ho
          go_wp2_with (go_at_call 54; refine (within_any _ _ _ _).mono ?_; rintro e w' ⟨rfl, rfl⟩)
          go_round
          case rel => exact ⟨k + 1, by omega, by go_num, hst⟩
          case measure => simp [intOf]; omega
      · obtain rfl : k = l.length := by omega
        have hE := hid (okL_end hok.out rfl)
        go_wp2
        go_ret
        exact ⟨by rw [hE.out]; rfl, rfl⟩

set_option maxHeartbeats 1000000 in
theorem places_no (r l a b k a2 b2 : Int) (w : World) (hv : canB r l a b k a2 b2 = false) : Calls Try.prog 71 #[.agg #[.int .i64 r, .int .i64 l, .int .i64 a, .int .i64 b, .int .i64 k, .int .i64 a2, .int .i64 b2]] w fun e w' => e = .returned (.int .i64 0) ∧ Below w.heap.size w w' := by
  go_enter Try.func71, Try.ntmps71
  go_wp2_with (go_at_call 38; refine (vcan_any _ _ _ _ _ _ _ _).mono ?_; rintro e w1 ⟨rfl, hb⟩)
  go_ret
  exact ⟨rfl, balloc hb⟩
theorem Cn.Ok.mul {c : Cn} (h : c.Ok) : 1 ≤ (c.R : Int) * c.L ∧ (c.R : Int) * c.L ≤ 48 := by
  have := h.p
  rw [← c.P_int]
  omega
set_option maxHeartbeats 1000000 in
theorem places_yes (c : Cn) (w : World) (hv : c.V) : Calls Try.prog 71 #[.agg #[.int .i64 (c.R : Int), .int .i64 (c.L : Int), .int .i64 c.A, .int .i64 c.B, .int .i64 c.K, .int .i64 c.A2, .int .i64 c.B2]] w fun e w' => e = .returned (.int .i64 (c.P : Nat)) ∧ Below w.heap.size w w' := by
  obtain ⟨p1, p2⟩ := hv.ok.mul
  have HP := hid c.P_int
  unfold Cn.V at hv
  go_enter Try.func71, Try.ntmps71
  go_wp2_with (go_at_call 38; refine (vcan_any _ _ _ _ _ _ _ _).mono ?_; rintro e w1 ⟨rfl, hb⟩; have BX := hid (box1_call hb); obtain ⟨b0, b1, b2', b3, b4, b5, b6⟩ := BX.out.can; have hz := BX.out.sz; clear hb)
  go_ret
  exact ⟨ret_int HP.out.symm, BX.out.low⟩

set_option maxHeartbeats 4000000 in
theorem vbody_can (r l a b k a2 b2 : Int) (w : World) (v : Value) (T : List Int) (br : Bool) (hl : RowI w v T) (hv : canB r l a b k a2 b2 = false) :
    Calls Try.prog 83 #[.agg #[.int .i64 r, .int .i64 l, .int .i64 a, .int .i64 b, .int .i64 k, .int .i64 a2, .int .i64 b2], .agg #[v, .bool br]] w fun e w' => e = .returned (.bool false) ∧ Below w.heap.size w w' := by
  obtain ⟨a0, cap, rfl⟩ := hl.shape
  clear hl
  obtain ⟨b0, b1, b2', b3, b4, b5, b6, x0, x1, hz, hB⟩ := nine_start (w := w) (c0 := .int .i64 r) (c1 := .int .i64 l) (c2 := .int .i64 a) (c3 := .int .i64 b) (c4 := .int .i64 k) (c5 := .int .i64 a2) (c6 := .int .i64 b2) (d0 := .slice a0 T.length cap) (d1 := .bool br) (T := 31) (T' := 61) (fz := (0, 0)) (fz' := (0, 0))
  go_enter Try.func83, Try.ntmps83
  go_wp2_with fail
  first
    | go_region_with (go_at_call 38; refine (vcan_any _ _ _ _ _ _ _ _).mono ?_; rintro e w1 ⟨rfl, hb⟩; have hz1 := bstep hB.drew hB.size hb; clear hb)
    | fail
  all_goals
    go_wp2
    go_ret
    exact ⟨rfl, hz1⟩
/-- The body is valid for a valid can. -/
def bodyV (c : Cn) (T : List Int) (br : Bool) : Bool := bodyB true c.R c.L c.K T br
theorem bodyV_len {c : Cn} {T : List Int} {br : Bool} (h : T.length ≠ c.P) : bodyV c T br = false := bodyB_len (by rw [← c.P_int]; omega)
theorem bodyV_brk {c : Cn} {T : List Int} (h : c.K = 0) : bodyV c T true = false := bodyB_brk h
theorem bodyV_rest {c : Cn} {T : List Int} {br : Bool} (h : T.length = c.P) (hk : br = false ∨ c.K ≠ 0) : bodyV c T br = okL T := bodyB_rest (by rw [← c.P_int]; omega) hk
theorem bodyV_iff {c : Cn} {T : List Int} {br : Bool} : bodyV c T br = true ↔ T.length = c.P ∧ (br = false ∨ c.K ≠ 0) ∧ okL T = true := by
  by_cases h : T.length = c.P
  · by_cases hk : br = false ∨ c.K ≠ 0
    · rw [bodyV_rest h hk]; exact ⟨fun g => ⟨h, hk, g⟩, fun g => g.2.2⟩
    · have hb : br = true := by cases br <;> simp_all
      have hc : c.K = 0 := Decidable.byContradiction fun g => hk (.inr g)
      subst hb
      rw [bodyV_brk hc]
      simp [hc]
  · rw [bodyV_len h]; simp [h]
set_option maxHeartbeats 4000000 in
theorem vbody_yes (c : Cn) (w : World) (v : Value) (T : List Int) (br : Bool) (hl : RowI w v T) (hv : c.V) :
    Calls Try.prog 83 #[.agg #[.int .i64 (c.R : Int), .int .i64 (c.L : Int), .int .i64 c.A, .int .i64 c.B, .int .i64 c.K, .int .i64 c.A2, .int .i64 c.B2], .agg #[v, .bool br]] w fun e w' => e = .returned (.bool (bodyV c T br)) ∧ Below w.heap.size w w' := by
  have hv0 := hid hv
  unfold Cn.V at hv
  have HL := hid (fun w1 (g : Below w.heap.size w w1) => hl.keep g)
  obtain ⟨a0, cap, rfl⟩ := hl.shape
  clear hl
  obtain ⟨b0, b1, b2', b3, b4, b5, b6, x0, x1, hz, hB⟩ := nine_start (w := w) (c0 := .int .i64 c.R) (c1 := .int .i64 c.L) (c2 := .int .i64 c.A) (c3 := .int .i64 c.B) (c4 := .int .i64 c.K) (c5 := .int .i64 c.A2) (c6 := .int .i64 c.B2) (d0 := .slice a0 T.length cap) (d1 := .bool br) (T := 31) (T' := 61) (fz := (0, 0)) (fz' := (0, 0))
  by_cases hlen : T.length = c.P
  · have hlen' : ((T.length : Int) == c.P) = true := by simp; omega
    have hlen2 : ((T.length : Int) != c.P) = false := by simp; omega
    by_cases hk : br = true ∧ c.K = 0
    · obtain ⟨rfl, hk⟩ := hk
      have hE := hid (bodyV_brk (T := T) hk)
      have hk' : (c.K == 0) = true := by simpa using hk
      clear hk hlen HL
      go_enter Try.func83, Try.ntmps83
      go_wp2_with fail
      first
        | go_region_held3 (fun w' => w'.cell? ⟨w.heap.size, 0, none⟩ = some (.int .i64 c.R) ∧ w'.cell? ⟨w.heap.size, 1, none⟩ = some (.int .i64 c.L) ∧ w'.cell? ⟨w.heap.size, 2, none⟩ = some (.int .i64 c.A) ∧ w'.cell? ⟨w.heap.size, 3, none⟩ = some (.int .i64 c.B) ∧ w'.cell? ⟨w.heap.size, 4, none⟩ = some (.int .i64 c.K) ∧ w'.cell? ⟨w.heap.size, 5, none⟩ = some (.int .i64 c.A2) ∧ w'.cell? ⟨w.heap.size, 6, none⟩ = some (.int .i64 c.B2) ∧ w'.cell? ⟨w.heap.size + 1, 0, none⟩ = some (.slice a0 T.length cap) ∧ w'.cell? ⟨w.heap.size + 1, 1, none⟩ = some (.bool true) ∧ w.heap.size + 1 < w'.heap.size ∧ Below w.heap.size w w') (first | exact ⟨b0, b1, b2', b3, b4, b5, b6, x0, x1, hz, hB.drew⟩ | exact nine_keep (by assumption) (by assumption)) (first | (go_at_call 38; refine (vcan_any _ _ _ _ _ _ _ _).mono ?_; rintro e w1 ⟨rfl, hb⟩) | (go_at_call 71; refine (places_yes c _ hv0.out).mono ?_; rintro e w2 ⟨rfl, hb⟩))
        | fail
      rename_i hq
      obtain ⟨b0, b1, b2', b3, b4, b5, b6, x0, x1, hz, hB⟩ := hq
      go_wp2
      go_ret
      exact ⟨ret_bool hE.out.symm, hB⟩
    · have hE := hid (bodyV_rest (br := br) hlen (by cases br <;> simp_all))
      clear hlen
      cases br
      · clear hk
        go_enter Try.func83, Try.ntmps83
        go_wp2_with fail
        first
          | go_region_held3 (fun w' => w'.cell? ⟨w.heap.size, 0, none⟩ = some (.int .i64 c.R) ∧ w'.cell? ⟨w.heap.size, 1, none⟩ = some (.int .i64 c.L) ∧ w'.cell? ⟨w.heap.size, 2, none⟩ = some (.int .i64 c.A) ∧ w'.cell? ⟨w.heap.size, 3, none⟩ = some (.int .i64 c.B) ∧ w'.cell? ⟨w.heap.size, 4, none⟩ = some (.int .i64 c.K) ∧ w'.cell? ⟨w.heap.size, 5, none⟩ = some (.int .i64 c.A2) ∧ w'.cell? ⟨w.heap.size, 6, none⟩ = some (.int .i64 c.B2) ∧ w'.cell? ⟨w.heap.size + 1, 0, none⟩ = some (.slice a0 T.length cap) ∧ w'.cell? ⟨w.heap.size + 1, 1, none⟩ = some (.bool false) ∧ w.heap.size + 1 < w'.heap.size ∧ Below w.heap.size w w') (first | exact ⟨b0, b1, b2', b3, b4, b5, b6, x0, x1, hz, hB.drew⟩ | exact nine_keep (by assumption) (by assumption)) (first | (go_at_call 38; refine (vcan_any _ _ _ _ _ _ _ _).mono ?_; rintro e w1 ⟨rfl, hb⟩) | (go_at_call 71; refine (places_yes c _ hv0.out).mono ?_; rintro e w2 ⟨rfl, hb⟩))
          | fail
        rename_i hq
        obtain ⟨b0, b1, b2', b3, b4, b5, b6, x0, x1, hz, hB⟩ := hq
        go_wp2_with (go_at_call 70; refine (temps_any _ _ T (HL.out _ hB)).mono ?_; rintro e w3 ⟨rfl, rfl⟩)
        go_ret
        exact ⟨ret_bool hE.out.symm, hB⟩
      · have hk' : (c.K == 0) = false := by simpa using hk
        clear hk
        go_enter Try.func83, Try.ntmps83
        go_wp2_with fail
        first
          | go_region_held3 (fun w' => w'.cell? ⟨w.heap.size, 0, none⟩ = some (.int .i64 c.R) ∧ w'.cell? ⟨w.heap.size, 1, none⟩ = some (.int .i64 c.L) ∧ w'.cell? ⟨w.heap.size, 2, none⟩ = some (.int .i64 c.A) ∧ w'.cell? ⟨w.heap.size, 3, none⟩ = some (.int .i64 c.B) ∧ w'.cell? ⟨w.heap.size, 4, none⟩ = some (.int .i64 c.K) ∧ w'.cell? ⟨w.heap.size, 5, none⟩ = some (.int .i64 c.A2) ∧ w'.cell? ⟨w.heap.size, 6, none⟩ = some (.int .i64 c.B2) ∧ w'.cell? ⟨w.heap.size + 1, 0, none⟩ = some (.slice a0 T.length cap) ∧ w'.cell? ⟨w.heap.size + 1, 1, none⟩ = some (.bool true) ∧ w.heap.size + 1 < w'.heap.size ∧ Below w.heap.size w w') (first | exact ⟨b0, b1, b2', b3, b4, b5, b6, x0, x1, hz, hB.drew⟩ | exact nine_keep (by assumption) (by assumption)) (first | (go_at_call 38; refine (vcan_any _ _ _ _ _ _ _ _).mono ?_; rintro e w1 ⟨rfl, hb⟩) | (go_at_call 71; refine (places_yes c _ hv0.out).mono ?_; rintro e w2 ⟨rfl, hb⟩))
          | fail
        rename_i hq
        obtain ⟨b0, b1, b2', b3, b4, b5, b6, x0, x1, hz, hB⟩ := hq
        go_wp2_with (go_at_call 70; refine (temps_any _ _ T (HL.out _ hB)).mono ?_; rintro e w3 ⟨rfl, rfl⟩)
        go_ret
        exact ⟨ret_bool hE.out.symm, hB⟩
  · have hlen' : ((T.length : Int) == c.P) = false := by simp; omega
    have hlen2 : ((T.length : Int) != c.P) = true := by simp; omega
    have hE := hid (bodyV_len (br := br) hlen)
    clear hlen HL
    go_enter Try.func83, Try.ntmps83
    go_wp2_with fail
    first
      | go_region_held3 (fun w' => w'.cell? ⟨w.heap.size, 0, none⟩ = some (.int .i64 c.R) ∧ w'.cell? ⟨w.heap.size, 1, none⟩ = some (.int .i64 c.L) ∧ w'.cell? ⟨w.heap.size, 2, none⟩ = some (.int .i64 c.A) ∧ w'.cell? ⟨w.heap.size, 3, none⟩ = some (.int .i64 c.B) ∧ w'.cell? ⟨w.heap.size, 4, none⟩ = some (.int .i64 c.K) ∧ w'.cell? ⟨w.heap.size, 5, none⟩ = some (.int .i64 c.A2) ∧ w'.cell? ⟨w.heap.size, 6, none⟩ = some (.int .i64 c.B2) ∧ w'.cell? ⟨w.heap.size + 1, 0, none⟩ = some (.slice a0 T.length cap) ∧ w'.cell? ⟨w.heap.size + 1, 1, none⟩ = some (.bool br) ∧ w.heap.size + 1 < w'.heap.size ∧ Below w.heap.size w w') (first | exact ⟨b0, b1, b2', b3, b4, b5, b6, x0, x1, hz, hB.drew⟩ | exact nine_keep (by assumption) (by assumption)) (first | (go_at_call 38; refine (vcan_any _ _ _ _ _ _ _ _).mono ?_; rintro e w1 ⟨rfl, hb⟩) | (go_at_call 71; refine (places_yes c _ hv0.out).mono ?_; rintro e w2 ⟨rfl, hb⟩))
      | fail
    rename_i hq
    obtain ⟨b0, b1, b2', b3, b4, b5, b6, x0, x1, hz, hB⟩ := hq
    go_wp2
    go_ret
    exact ⟨ret_bool hE.out.symm, hB⟩
end Go.Proofs.Ytihbjimnjhfpeaa
