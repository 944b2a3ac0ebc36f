/- Texts of this seat, one behind the other. -/
import Derived.Test.YtihbjimnjhfpeaaGreatG21
import Derived.ProofKit
import Derived.OpenShut
import Derived.ShutString
import Derived.ChangeOld
import Derived.Lib.SmallJoins
import Derived.Deep.Fields
import Derived.Deep.Slices
import Derived.ChangeSame
import Derived.Test.YtihbjimnjhfpeaaGreatG07
import Derived.Laws.OwnMore
/- Rows of structs that are read: records, programs, faults; and how those that come in are opened. -/
namespace Go.Proofs.YtihbjimnjhfpeaaGreat.Rt
open Go.ChangeShapes Go.WideShapes Go.ChangeAt Go.RowKit Go.Joins Go.Deep

/-- A slice of readings that is read: its readings at its cells. -/
def RdAt (w : World) (b i : Nat) (x : Rd) : Prop := w.cell? ⟨b, i, none⟩ = some (.int .i64 x.s) ∧ w.cell? ⟨b, i + 1, none⟩ = some (.int .i64 x.t) ∧ w.cell? ⟨b, i + 2, none⟩ = some (.int .i64 x.c) ∧ w.cell? ⟨b, i + 3, none⟩ = some (.int .i64 x.b)
def RowR (w : World) (v : Value) (n : Nat) (r : Nat → Rd) : Prop := ∃ a b o cap, v = .slice a n cap ∧ n ≤ cap ∧ cap ≤ maxLen ∧ (n = 0 ∨ a = some ⟨b, o, none⟩) ∧ ∀ k, k < n → RdAt w b (o + k * 4) (r k)
theorem RdAt.keep {W w2 : World} {b i : Nat} {x : Rd} (h : RdAt W b i x) (hb : Below W.heap.size W w2) : RdAt w2 b i x := ⟨keep_cell hb h.1, keep_cell hb h.2.1, keep_cell hb h.2.2.1, keep_cell hb h.2.2.2⟩
theorem RowR.keep {W w2 : World} {v : Value} {n : Nat} {r : Nat → Rd} (h : RowR W v n r) (hb : Below W.heap.size W w2) : RowR w2 v n r := by
  obtain ⟨a, b, o, cap, hv, h1, h2, h3, h4⟩ := h
  exact ⟨a, b, o, cap, hv, h1, h2, h3, fun k hk => (h4 k hk).keep hb⟩
theorem RowR.shape {w : World} {v : Value} {n : Nat} {r : Nat → Rd} (h : RowR w v n r) : ∃ a cap, v = .slice a n cap := by
  obtain ⟨a, b, o, cap, hv, _⟩ := h
  exact ⟨a, cap, hv⟩
theorem RowR.most {w : World} {v : Value} {n : Nat} {r : Nat → Rd} (h : RowR w v n r) : n ≤ maxLen := by
  obtain ⟨a, b, o, cap, hv, h1, h2, _⟩ := h
  omega
/-- A slice of triples (steps, faults, deviations). -/
def TrAt (w : World) (b i : Nat) (x y z : Int) : Prop := w.cell? ⟨b, i, none⟩ = some (.int .i64 x) ∧ w.cell? ⟨b, i + 1, none⟩ = some (.int .i64 y) ∧ w.cell? ⟨b, i + 2, none⟩ = some (.int .i64 z)
def RowT (w : World) (v : Value) (n : Nat) (q : Nat → Tri) : Prop := ∃ a b o cap, v = .slice a n cap ∧ n ≤ cap ∧ cap ≤ maxLen ∧ (n = 0 ∨ a = some ⟨b, o, none⟩) ∧ ∀ k, k < n → TrAt w b (o + k * 3) (q k).x (q k).y (q k).z
def RowP (w : World) (v : Value) (n : Nat) (p : Nat → St) : Prop := RowT w v n fun i => ⟨(p i).k, (p i).s, (p i).n⟩
theorem TrAt.keep {W w2 : World} {b i : Nat} {x y z : Int} (h : TrAt W b i x y z) (hb : Below W.heap.size W w2) : TrAt w2 b i x y z := ⟨keep_cell hb h.1, keep_cell hb h.2.1, keep_cell hb h.2.2⟩
theorem RowT.keep {W w2 : World} {v : Value} {n : Nat} {q : Nat → Tri} (h : RowT W v n q) (hb : Below W.heap.size W w2) : RowT w2 v n q := by
  obtain ⟨a, b, o, cap, hv, h1, h2, h3, h4⟩ := h
  exact ⟨a, b, o, cap, hv, h1, h2, h3, fun k hk => (h4 k hk).keep hb⟩
theorem RowT.shape {w : World} {v : Value} {n : Nat} {q : Nat → Tri} (h : RowT w v n q) : ∃ a cap, v = .slice a n cap := by
  obtain ⟨a, b, o, cap, hv, _⟩ := h
  exact ⟨a, cap, hv⟩
theorem RowT.most {w : World} {v : Value} {n : Nat} {q : Nat → Tri} (h : RowT w v n q) : n ≤ maxLen := by
  obtain ⟨a, b, o, cap, hv, h1, h2, _⟩ := h
  omega

theorem own : ownKnob Tryz.prog.godebug = none := by kernel_rfl
theorem laidOut : laidOutB Tryz.prog = true := by kernel_rfl
theorem cellsRd : Tryz.prog.cellsOf 56 = 4 := by kernel_rfl
theorem cellsSt : Tryz.prog.cellsOf 105 = 3 := by kernel_rfl
section
variable {H : Type} {enc : TypeId × Value → H} {P : Program} {w : World} {base : Nat} {spare : Nat → Bool} {held : Bool}
theorem open_slice_fields {t e : TypeId} {fs : Array Field} {fuel : Nat} {cs : List Value} {x : DataW H × List MemPlace} (ht : P.underlying t = some (.slice e)) (he : P.underlying e = some (.struct fs))
    (hone : oneCellFields P fs = true) (hC : P.cellsOf e = fs.size) (h : DataW.trod enc P w base spare held fuel t cs = some x) :
    cs = [.slice none 0 0] ∨
    ∃ (a : Addr) (len cap m : Nat), cs = [.slice (some a) len cap] ∧ len ≤ cap ∧ cap ≤ maxLen ∧ len ≤ m ∧
      ∀ i, i < m → ∀ (j : Nat) (f : Field), fs[j]? = some f → ∃ (v : Value) (y : DataW H × List MemPlace) (n : Nat), w.cell? (a.add (i * fs.size + j)) = some v ∧ DataW.trod enc P w base spare held n f.type [v] = some y := by
  rcases open_slice ht h with h0 | ⟨a, len, cap, m, n, D, Pl, hcs, hb, hl, hm, hmm, hx, hi⟩
  · exact .inl h0.1
  · refine .inr ⟨a, len, cap, m, hcs, hl, hm, by rw [hmm]; split <;> omega, fun i him => ?_⟩
    obtain ⟨cs', hc, ht'⟩ := hi i him
    rw [hC] at hc
    obtain ⟨ys, n', hn', hy, hlen, hyl, hf⟩ := DataW.trod_struct he ht'
    obtain ⟨_, hcl, hat⟩ := World.cells?_some hc
    intro j f hj
    obtain ⟨ho, hk⟩ := hone_of hone j f hj
    have hjl : j < fs.size := (Array.getElem?_eq_some_iff.1 hj).1
    have hcell := hat j hjl
    have hv : cs'[j]? = some (cs'[j]'(by omega)) := List.getElem?_eq_getElem (by omega)
    have h1 := hf j f hj
    rw [ho, hk] at h1
    have hone' : (cs'.drop j).take 1 = [cs'[j]'(by omega)] := by
      rw [List.drop_eq_getElem_cons (by omega)]
      rfl
    rw [hone'] at h1
    have hys : ys[j]? = some (ys[j]'(by omega)) := List.getElem?_eq_getElem (by omega)
    refine ⟨_, _, n', ?_, h1.trans hys⟩
    rw [← Go.Deep.add_add, hcell, hv]
theorem trod_i {n : Nat} {v : Value} {y : DataW H × List MemPlace} (h : DataW.trod enc Tryz.prog w base spare held n 3 [v] = some y) : ∃ z : Int, v = .int .i64 z := by
  obtain ⟨z, e, _⟩ := DataW.trod_int Tryz.underlying3 h
  simp at e
  exact ⟨z, e⟩
theorem plain_of {w : World} {a : Addr} {v : Value} (h : w.cell? (a.add 0) = some v) : ∃ b o, a = ⟨b, o, none⟩ := by
  obtain ⟨b, off, spot⟩ := a
  have hspot : spot = none := by simpa [Addr.add] using World.cell?_spot h
  subst hspot
  exact ⟨b, off, rfl⟩
set_option maxRecDepth 100000 in
theorem rowR_of {v : Value} {n : Nat} {y : DataW H × List MemPlace} (h : DataW.trod enc Tryz.prog w base spare held n 40 [v] = some y) : ∃ (m : Nat) (r : Nat → Rd), RowR w v m r := by
  rcases open_slice_fields Tryz.underlying40 Tryz.underlying56 (by kernel_rfl) cellsRd h with h0 | ⟨a, len, cap, m, hcs, hl, hm, hlm, hc⟩
  · simp at h0
    subst h0
    exact ⟨0, fun _ => ⟨0, 0, 0, 0⟩, none, 0, 0, 0, rfl, Nat.le_refl _, by simp, .inl rfl, fun k hk => absurd hk (Nat.not_lt_zero k)⟩
  · simp at hcs
    subst hcs
    rcases Nat.eq_zero_or_pos len with rfl | hp
    · exact ⟨0, fun _ => ⟨0, 0, 0, 0⟩, some a, 0, 0, cap, rfl, hl, hm, .inl rfl, fun k hk => absurd hk (Nat.not_lt_zero k)⟩
    · obtain ⟨v0, _, _, hc0, _⟩ := hc 0 (by omega) 0 _ rfl
      obtain ⟨b, o, rfl⟩ := plain_of hc0
      have hx : ∀ k, ∃ x : Rd, k < len → RdAt w b (o + k * 4) x := fun k => by
        by_cases hk : k < len
        · obtain ⟨u0, _, _, g0, t0⟩ := hc k (by omega) 0 _ rfl
          obtain ⟨u1, _, _, g1, t1⟩ := hc k (by omega) 1 _ rfl
          obtain ⟨u2, _, _, g2, t2⟩ := hc k (by omega) 2 _ rfl
          obtain ⟨u3, _, _, g3, t3⟩ := hc k (by omega) 3 _ rfl
          obtain ⟨z0, rfl⟩ := trod_i t0
          obtain ⟨z1, rfl⟩ := trod_i t1
          obtain ⟨z2, rfl⟩ := trod_i t2
          obtain ⟨z3, rfl⟩ := trod_i t3
          rw [Go.WideShapes.add_plain] at g0 g1 g2 g3
          exact ⟨⟨z0, z1, z2, z3⟩, fun _ => ⟨g0, g1, g2, g3⟩⟩
        · exact ⟨⟨0, 0, 0, 0⟩, fun h => absurd h hk⟩
      obtain ⟨r, hr⟩ := Classical.axiomOfChoice hx
      exact ⟨len, r, some ⟨b, o, none⟩, b, o, cap, rfl, hl, hm, .inr rfl, hr⟩
set_option maxRecDepth 100000 in
theorem rowP_of {v : Value} {n : Nat} {y : DataW H × List MemPlace} (h : DataW.trod enc Tryz.prog w base spare held n 39 [v] = some y) : ∃ (m : Nat) (p : Nat → St), RowP w v m p := by
  rcases open_slice_fields Tryz.underlying39 Tryz.underlying105 (by kernel_rfl) cellsSt h with h0 | ⟨a, len, cap, m, hcs, hl, hm, hlm, hc⟩
  · simp at h0
    subst h0
    exact ⟨0, fun _ => ⟨0, 0, 0⟩, none, 0, 0, 0, rfl, Nat.le_refl _, by simp, .inl rfl, fun k hk => absurd hk (Nat.not_lt_zero k)⟩
  · simp at hcs
    subst hcs
    rcases Nat.eq_zero_or_pos len with rfl | hp
    · exact ⟨0, fun _ => ⟨0, 0, 0⟩, some a, 0, 0, cap, rfl, hl, hm, .inl rfl, fun k hk => absurd hk (Nat.not_lt_zero k)⟩
    · obtain ⟨v0, _, _, hc0, _⟩ := hc 0 (by omega) 0 _ rfl
      obtain ⟨b, o, rfl⟩ := plain_of hc0
      have hx : ∀ k, ∃ x : St, k < len → TrAt w b (o + k * 3) x.k x.s x.n := fun k => by
        by_cases hk : k < len
        · obtain ⟨u0, _, _, g0, t0⟩ := hc k (by omega) 0 _ rfl
          obtain ⟨u1, _, _, g1, t1⟩ := hc k (by omega) 1 _ rfl
          obtain ⟨u2, _, _, g2, t2⟩ := hc k (by omega) 2 _ rfl
          obtain ⟨z0, rfl⟩ := trod_i t0
          obtain ⟨z1, rfl⟩ := trod_i t1
          obtain ⟨z2, rfl⟩ := trod_i t2
          rw [Go.WideShapes.add_plain] at g0 g1 g2
          exact ⟨⟨z0, z1, z2⟩, fun _ => ⟨g0, g1, g2⟩⟩
        · exact ⟨⟨0, 0, 0⟩, fun h => absurd h hk⟩
      obtain ⟨p, hp'⟩ := Classical.axiomOfChoice hx
      exact ⟨len, p, some ⟨b, o, none⟩, b, o, cap, rfl, hl, hm, .inr rfl, hp'⟩
end
end Go.Proofs.YtihbjimnjhfpeaaGreat.Rt

/- Walks of within, of marks, and of Marks and Baths of both: contracts. -/
namespace Go.Proofs.YtihbjimnjhfpeaaGreat.Rt
open Go.RowKit

set_option maxHeartbeats 400000 in
theorem vwithin_any (a b c : Int) (w : World) :
    Calls Tryz.prog 61 #[.int .i64 a, .int .i64 b, .int .i64 c] w fun e w' => e = .returned (.bool (inB a b c)) ∧ w = w' := by
  by_cases h : b ≤ a
  · have hd : decide (b ≤ a) = true := by simpa using h
    go_enter Tryz.func61, Tryz.ntmps61
    go_wp2
    go_ret
    exact ⟨ret_bool (by unfold inB; rw [hd]; rfl), rfl⟩
  · have hd : decide (b ≤ a) = false := by simpa using h
    go_enter Tryz.func61, Tryz.ntmps61
    go_wp2
    go_ret
    exact ⟨ret_bool (by unfold inB; rw [hd]; rfl), rfl⟩
set_option maxHeartbeats 400000 in
theorem xwithin_any (a b c : Int) (w : World) :
    Calls Tryz.prog 91 #[.int .i64 a, .int .i64 b, .int .i64 c] w fun e w' => e = .returned (.bool (inB a b c)) ∧ w = w' := by
  by_cases h : b ≤ a
  · have hd : decide (b ≤ a) = true := by simpa using h
    go_enter Tryz.func91, Tryz.ntmps91
    go_wp2
    go_ret
    exact ⟨ret_bool (by unfold inB; rw [hd]; rfl), rfl⟩
  · have hd : decide (b ≤ a) = false := by simpa using h
    go_enter Tryz.func91, Tryz.ntmps91
    go_wp2
    go_ret
    exact ⟨ret_bool (by unfold inB; rw [hd]; rfl), rfl⟩

/-- The error of marks. -/
def markE (n : Nat) (e : Int) : Int := if 2000 < n then 4 else if inB e 1 2000 then 0 else 7

/-- A row of ints of the call's own. -/
def OwnL (w : World) (base : Nat) (v : Value) (l : List Int) : Prop := w.ownsRow base 3 1 v l.length (ivs l)
theorem ownL_app {w : World} {base : Nat} {v : Value} {l : List Int} {x : Int} (h : w.ownsRow base 3 1 v (l.length + 1) (ivs l ++ [.int .i64 x])) : OwnL w base v (l ++ [x]) := by
  unfold OwnL
  rw [List.length_append, show ivs (l ++ [x]) = ivs l ++ [.int .i64 x] by simp [ivs]]
  exact h
theorem infoI : (Tryz.prog.info? 3).map (fun i => (i.zero, i.size, i.bytes)) = some (some (.int .i64 0), 1, 8) := by kernel_rfl
theorem below_app {W wr w1 : World} {base : Nat} {v : Value} {l : List Int} {o o' : Obj} (hW : Below W.heap.size W wr) (h : OwnL wr base v l) (hb : W.heap.size ≤ base) (hg : ((wr.alloc o).alloc o').grownBy w1 v.ownBlock) : Below W.heap.size W w1 :=
  ((hW.alloc hW.size _).alloc (by have := hW.size; simp; omega) _).grown hg (by have := hW.size; simp; omega) (fun k hk => by have := (World.ownsRow.lt h k hk).1; omega)
theorem below_app1 {W wr w1 : World} {base : Nat} {v : Value} {l : List Int} {o : Obj} (hW : Below W.heap.size W wr) (h : OwnL wr base v l) (hb : W.heap.size ≤ base) (hg : (wr.alloc o).grownBy w1 v.ownBlock) : Below W.heap.size W w1 :=
  (hW.alloc hW.size _).grown hg (by have := hW.size; simp; omega) (fun k hk => by have := (World.ownsRow.lt h k hk).1; omega)
theorem OwnL.rowI {w : World} {base : Nat} {v : Value} {l : List Int} (h : OwnL w base v l) (hl : l.length ≤ 1000000) : RowI w v l := own_rowI h hl
/-- A list of ints and an error come back. -/
def LstP (l : List Int) (n : Int) (w : World) (e : Ending) (w' : World) : Prop := ∃ v, e = .returned (.tuple #[v, .int .i64 n]) ∧ RowI w' v l ∧ Below w.heap.size w w'
theorem cell_one_new {w : World} {u : Value} {T : TypeId} {m : Nat} (hm : w.heap.size = m) : ∀ j x, [u][j]? = some x → (w.alloc (.cells #[u] T)).cell? ((⟨m, 0, none⟩ : Addr).add j) = some x := by
  subst hm
  intro j x h
  cases j with
  | zero => simp at h; subst h; simp [Addr.add]
  | succ j => simp at h
theorem one_cell1 {x : Int} : ∀ u ∈ [Value.int .i64 x], u.oneCell' = true := by intro u hu; simp at hu; subst hu; rfl

end Go.Proofs.YtihbjimnjhfpeaaGreat.Rt

/- Walks of the reference's Marks, and of Baths of both: contracts. -/
namespace Go.Proofs.YtihbjimnjhfpeaaGreat.Rt
open Go.RowKit


/-- A row of ints of the call's own comes back. -/
def OwnP (l : List Int) (w : World) (e : Ending) (w' : World) : Prop := ∃ v, e = .returned v ∧ OwnL w' w.heap.size v l ∧ Below w.heap.size w w'
theorem below_grow {W w1 : World} (hg : W.grownBy w1 none) : Below W.heap.size W w1 := (Below.refl _ _).grown hg (Nat.le_refl _) (fun k hk => by cases hk)
set_option maxHeartbeats 4000000 in
theorem baths_any (v : Value) (n : Nat) (r : Nat → Rd) (w : World) (hr : RowR w v n r) (hn : n ≤ 2100) :
    Calls Tryz.prog 44 #[v] w (OwnP (bathsL r n) w) := by
  have HK := hid (fun w1 (g : Below w.heap.size w w1) => hr.keep g)
  obtain ⟨a, b, o, cap, rfl, hc, hm, ha, _⟩ := hr
  have HA := hid ha
  obtain ⟨i0, hi, hz0, hz1, hz2⟩ := info_parts infoI
  clear ha
  go_enter Tryz.func44, Tryz.ntmps44
  go_wp2_with (at_make; refine wpList_make_own _ rfl _ _ 28 rfl w.heap.size 3 i0 (.int .i64 0) 1 Tryz.underlying28 hi hz0 hz1 _ _ _ n rfl rfl (by omega) (by rw [hz2]; omega) (by unfold maxLen; omega) (Nat.le_refl _) ?_; intro w0 hown0 hgrow0)
  have HR0 : Hid (OwnL w0 w.heap.size _ (bathsL r 0)) := hown0
  have HB0 := hid (below_grow hgrow0)
  clear hown0 hgrow0
  go_loopw [3, 11] (fun v t wr => ∃ k : Nat, k ≤ n ∧ t = .int .i64 (k : Int) ∧ Hid (OwnL wr w.heap.size v (bathsL r k)) ∧ Hid (Below w.heap.size w wr)) (fun _ t _ => n - (intOf t).toNat)
  case atStart => exact ⟨0, Nat.zero_le _, rfl, HR0, HB0⟩
  case round =>
    obtain ⟨k, hk, rfl, hrow, hB⟩ := hrel
    have hlen := bathsL_len r k
    by_cases hlt : k < n
    · have hlt' : (k : Int) < n := by omega
      obtain ⟨a', b', o', cap', hv, _, _, ha', hcell⟩ := HK.out _ hB.out
      injection hv with hv1 hv2 hv3
      subst hv1 hv3
      rcases ha' with h0 | rfl
      · omega
      obtain ⟨c0, c1, c2, c3⟩ := hcell k hlt
      have HL := hid (bathsL_succ r k)
      obtain ⟨x, hX⟩ : ∃ x, x = r k := ⟨_, rfl⟩
      rw [← hX] at c0 c1 c2 c3 HL
      clear hcell hX hv2 hlt
      have HO := hid (World.ownsRow.alloc hrow.out (.cells #[.int .i64 x.s, .int .i64 x.t, .int .i64 x.c, .int .i64 x.b] 56))
      go_wp2_with (at_builtin; refine wpList_append_own _ rfl _ _ 28 rfl w.heap.size 3 i0 (.int .i64 0) 1 8 Tryz.underlying28 hi hz0 hz1 hz2 rfl (by decide) _ _ _ rfl (World.ownsRow.alloc HO.out _) ⟨wr.heap.size + 1, 0, none⟩ 1 1 [.int .i64 x.b] rfl rfl (cell_one_new (by simp)) one_cell1 (by unfold maxLen; omega) (by omega) (by have := hB.out.size; simp; omega) ?_; intro v1 w3 hown3 hgrow3 _)
      have HB3 := hid (below_app hB.out hrow.out (Nat.le_refl _) hgrow3)
      have HR3 : Hid (OwnL w3 w.heap.size v1 (bathsL r (k + 1))) := by rw [HL.out]; exact ownL_app hown3
      clear hown3 hgrow3
      go_roundw
      case rel => exact ⟨k + 1, by omega, by go_num, HR3, HB3⟩
      case measure => simp [intOf]; omega
    · obtain rfl : k = n := by omega
      go_wp2
      go_ret
      exact ⟨_, rfl, hrow.out, hB.out⟩
set_option maxHeartbeats 4000000 in
theorem xbaths_any (v : Value) (n : Nat) (r : Nat → Rd) (w : World) (hr : RowR w v n r) (hn : n ≤ 2100) :
    Calls Tryz.prog 20 #[v] w (OwnP (bathsL r n) w) := by
  have HK := hid (fun w1 (g : Below w.heap.size w w1) => hr.keep g)
  obtain ⟨a, b, o, cap, rfl, hc, hm, ha, _⟩ := hr
  have HA := hid ha
  obtain ⟨i0, hi, hz0, hz1, hz2⟩ := info_parts infoI
  clear ha
  go_enter Tryz.func20, Tryz.ntmps20
  go_wp2
  go_loopw [3, 4] (fun v t wr => ∃ k : Nat, k ≤ n ∧ t = .int .i64 (k : Int) ∧ Hid (OwnL wr w.heap.size v (bathsL r k)) ∧ Hid (Below w.heap.size w wr)) (fun _ t _ => n - (intOf t).toNat)
  case atStart => exact ⟨0, Nat.zero_le _, rfl, World.ownsRow_nil _ _ _ _, Below.refl _ _⟩
  case round =>
    obtain ⟨k, hk, rfl, hrow, hB⟩ := hrel
    have hlen := bathsL_len r k
    by_cases hlt : k < n
    · have hlt' : (k : Int) < n := by omega
      obtain ⟨a', b', o', cap', hv, _, _, ha', hcell⟩ := HK.out _ hB.out
      injection hv with hv1 hv2 hv3
      subst hv1 hv3
      rcases ha' with h0 | rfl
      · omega
      obtain ⟨c0, c1, c2, c3⟩ := hcell k hlt
      have HL := hid (bathsL_succ r k)
      obtain ⟨x, hX⟩ : ∃ x, x = r k := ⟨_, rfl⟩
      rw [← hX] at c0 c1 c2 c3 HL
      clear hcell hX hv2 hlt
      go_wp2_with (at_builtin; refine wpList_append_own _ rfl _ _ 28 rfl w.heap.size 3 i0 (.int .i64 0) 1 8 Tryz.underlying28 hi hz0 hz1 hz2 rfl (by decide) _ _ _ rfl (World.ownsRow.alloc hrow.out _) ⟨wr.heap.size, 0, none⟩ 1 1 [.int .i64 x.b] rfl rfl (cell_one_new rfl) one_cell1 (by unfold maxLen; omega) (by omega) (by have := hB.out.size; simp; omega) ?_; intro v1 w3 hown3 hgrow3 _)
      have HB3 := hid (below_app1 hB.out hrow.out (Nat.le_refl _) hgrow3)
      have HR3 : Hid (OwnL w3 w.heap.size v1 (bathsL r (k + 1))) := by rw [HL.out]; exact ownL_app hown3
      clear hown3 hgrow3
      go_roundw
      case rel => exact ⟨k + 1, by omega, by go_num, HR3, HB3⟩
      case measure => simp [intOf]; omega
    · obtain rfl : k = n := by omega
      go_wp2
      go_ret
      exact ⟨_, rfl, hrow.out, hB.out⟩
end Go.Proofs.YtihbjimnjhfpeaaGreat.Rt
