/- Texts of this seat, one behind the other. -/
import Derived.Test.YtjfakhfkbnnbcaaId
import Derived.BigRegion
/- Walks of the law's in, of Length: contracts. -/
namespace Go.Proofs.Ytjfakhfkbnnbcaa
open Go.RowKit

theorem inPB_take {l : List Pr} {k : Nat} {t : Int} (h : k < l.length) : inPB (l.take (k + 1)) t = (inPB (l.take k) t || (decide (l[k].x ≤ t) && decide (t < l[k].y))) := by
  unfold inPB
  rw [List.take_succ_eq_append_getElem h, List.any_append]
  simp
theorem inPB_yes {l : List Pr} {k : Nat} {t : Int} (h : k < l.length) (h1 : l[k].x ≤ t) (h2 : t < l[k].y) : inPB l t = true := by
  unfold inPB
  rw [List.any_eq_true]
  exact ⟨l[k], List.getElem_mem h, by simp [h1, h2]⟩
set_option maxRecDepth 20000 in
set_option maxHeartbeats 4000000 in
theorem in_any (v : Value) (t : Int) (l : List Pr) (w : World) (hr : RowX w v l) : Calls Try.prog 17 #[v, .int .i64 t] w fun e w' => e = .returned (.bool (inPB l t)) ∧ Below w.heap.size w w' := by
  have HR := hid (fun w1 (g : Below w.heap.size w w1) => hr.keep g)
  have hm := hr.most
  unfold maxLen at hm
  obtain ⟨va, vc, rfl⟩ := hr.shape
  obtain ⟨n, hn⟩ : ∃ n, n = l.length := ⟨_, rfl⟩
  have HN := hid hn
  rw [← hn] at hm HR ⊢
  clear hr hn
  go_enter Try.func17, Try.ntmps17
  go_wp2
  go_loopw [5] (fun q wr => ∃ k : Nat, k ≤ n ∧ q = .int .i64 (k : Int) ∧ Hid (inPB (l.take k) t = false) ∧ Hid (Below w.heap.size w wr)) (fun q _ => n - (intOf q).toNat)
  case atStart => exact ⟨0, Nat.zero_le _, rfl, rfl, Below.refl _ _⟩
  case round =>
    obtain ⟨k, hk, rfl, hok, hB⟩ := hrel
    by_cases hlt : k < n
    · have hlt' : (k : Int) < n := by omega
      have hkl : k < l.length := by rw [← HN.out]; exact hlt
      obtain ⟨b, o, hva, c0, c1⟩ := (HR.out _ hB.out).get hkl
      subst hva
      have HY := hid (fun h1 h2 => inPB_yes (t := t) hkl h1 h2)
      have HT := hid (inPB_take (t := t) hkl)
      generalize l[k] = p at *
      obtain ⟨px, py⟩ := p
      simp only at c0 c1
      have HLT := hid hlt
      clear hlt hkl
      by_cases h1 : px ≤ t
      · by_cases h2 : t < py
        · have HE := hid (HY.out h1 h2)
          go_wp2
          go_ret
          exact ⟨ret_bool HE.out.symm, hB.out⟩
        · have HE : Hid (inPB (l.take (k + 1)) t = false) := by
            show inPB _ _ = false
            rw [HT.out, hok.out]; simp; omega
          have h2' : py ≤ t := by omega
          clear h2
          go_wp2
          go_roundw
          case rel => exact ⟨k + 1, HLT.out, by go_num, HE, hB⟩
          case measure => have := HLT.out; simp [intOf]; omega
      · have HE : Hid (inPB (l.take (k + 1)) t = false) := by
          show inPB _ _ = false
          rw [HT.out, hok.out]; simp; omega
        have h1' : t < px := by omega
        clear h1
        go_wp2
        go_roundw
        case rel => exact ⟨k + 1, HLT.out, by go_num, HE, hB⟩
        case measure => have := HLT.out; simp [intOf]; omega
    · obtain rfl : k = n := by omega
      have HE : Hid (inPB l t = false) := by
        have h := hok.out
        rw [HN.out, List.take_length] at h
        exact h
      go_wp2
      go_ret
      exact ⟨ret_bool HE.out.symm, hB.out⟩
/-- Stretches near enough. -/
def RawL (l : List Pr) : Prop := ∀ p ∈ l, -1000000000000000 ≤ p.x ∧ p.x ≤ 1000000000000000 ∧ -1000000000000000 ≤ p.y ∧ p.y ≤ 1000000000000000
theorem canon_mem : ∀ {u : List Pr} {p : Pr}, Canon u → p ∈ u → p.x < p.y
  | [], _, _, h => by cases h
  | q :: u, p, hc, hm => by
    rcases List.mem_cons.1 hm with rfl | hm
    · exact hc.one
    · exact canon_mem hc.tail hm
/-- What has no ticks aside. -/
theorem uni_raw {u l : List Pr} (h : Uni u l) (g : RawL l) : RawL u := by
  intro p hp
  have hpp := canon_mem h.can hp
  obtain ⟨q, hq, a⟩ := (h.same p.x).1 ⟨p, hp, Int.le_refl _, hpp⟩
  obtain ⟨r, hr, b⟩ := (h.same (p.y - 1)).1 ⟨p, hp, by omega, by omega⟩
  have := g q hq
  have := g r hr
  omega
theorem lenP_take {u : List Pr} {k : Nat} (h : k < u.length) : lenP (u.take (k + 1)) = lenP (u.take k) + (u[k].y - u[k].x) := by
  rw [List.take_succ_eq_append_getElem h, lenP_snoc]
theorem lenP_some {u : List Pr} (hr : RawL u) (hc : Canon u) : ∀ k, k ≤ u.length → 0 ≤ lenP (u.take k) ∧ lenP (u.take k) ≤ k * 2000000000000000
  | 0, _ => by simp [lenP]
  | k + 1, h => by
    have ih := lenP_some hr hc k (by omega)
    rw [lenP_take h]
    have h1 := hr u[k] (List.getElem_mem h)
    have h2 := canon_mem hc (List.getElem_mem h)
    omega
def LenP (l : List Pr) (w : World) (e : Ending) (w' : World) : Prop := ∃ m, Uni m l ∧ e = .returned (.int .i64 (lenP m)) ∧ Below w.heap.size w w'
set_option maxRecDepth 20000 in
set_option maxHeartbeats 4000000 in
theorem length_any (v : Value) (l : List Pr) (w : World) (hr : RowX w v l) (hf : l.length ≤ 4000) (hw : RawL l) : Calls Try.prog 19 #[v] w (LenP l w) := by
  have HU := hid (union_any v l w hr (by omega))
  have HF := hid hf
  have HW := hid hw
  clear hr hf hw
  go_enter Try.func19, Try.ntmps19
  go_wp2_with fail
  refine HU.out.mono ?_
  rintro e w1 ⟨u, m, rfl, hm, hown, hb⟩
  have hrow := hown.row
  have HUN := hid hm
  have HMR := hid (uni_raw hm HW.out)
  have HSM := hid (lenP_some (uni_raw hm HW.out) hm.can)
  have hfew : m.length ≤ 4000 := Nat.le_trans hm.few HF.out
  have HB := hid hb
  have HR := hid (fun w2 (g : Below w1.heap.size w1 w2) => hrow.keep g)
  obtain ⟨va, vc, rfl⟩ := hrow.shape
  obtain ⟨n, hn⟩ : ∃ n, n = m.length := ⟨_, rfl⟩
  have HN := hid hn
  rw [← hn] at hfew HR ⊢
  clear hm hown hrow hb hn HU HF HW
  go_wp2
  go_loopw [3, 9] (fun a t wr => ∃ k : Nat, k ≤ n ∧ t = .int .i64 (k : Int) ∧ a = .int .i64 (lenP (m.take k)) ∧ Hid (Below w1.heap.size w1 wr)) (fun _ t _ => n - (intOf t).toNat)
  case atStart => exact ⟨0, Nat.zero_le _, rfl, rfl, Below.refl _ _⟩
  case round =>
    obtain ⟨k, hk, rfl, rfl, hB⟩ := hrel
    by_cases hlt : k < n
    · have hlt' : (k : Int) < n := by omega
      have hkl : k < m.length := by rw [← HN.out]; exact hlt
      obtain ⟨b, o, hva, c0, c1⟩ := (HR.out _ hB.out).get hkl
      subst hva
      have hx := HMR.out m[k] (List.getElem_mem hkl)
      have HT := hid (lenP_take hkl)
      obtain ⟨s0, s1⟩ := HSM.out k (Nat.le_of_lt hkl)
      generalize m[k] = p at *
      obtain ⟨px, py⟩ := p
      simp only at c0 c1 hx
      generalize lenP (m.take k) = A at *
      obtain ⟨x1, x2, x3, x4⟩ := hx
      have s2 : A ≤ 8000000000000000000 := by omega
      have q1 : IntKind.i64.wrap (py - px) = py - px := IntWalk.i64_in _ ⟨by omega, by omega⟩
      have q2 : IntKind.i64.wrap (A + (py - px)) = A + (py - px) := IntWalk.i64_in _ ⟨by omega, by omega⟩
      have HB1 := hid (hB.out.alloc hB.out.size (.cells #[.int .i64 px, .int .i64 py] 68))
      have HLT := hid hlt
      clear hlt hkl
      go_wp2
      go_roundw
      case rel => exact ⟨k + 1, HLT.out, by go_num, by rw [HT.out], HB1⟩
      case measure => have := HLT.out; simp [intOf]; omega
    · obtain rfl : k = n := by omega
      have HE : Hid (lenP (m.take k) = lenP m) := by
        show lenP _ = _
        rw [HN.out, List.take_length]
      go_wp2
      go_ret
      exact ⟨m, HUN.out, ret_int HE.out, bstep HB.out HB.out.size hB.out⟩
end Go.Proofs.Ytjfakhfkbnnbcaa

/- Walk of the law's raw: contract. -/
namespace Go.Proofs.Ytjfakhfkbnnbcaa
open Go.RowKit

/-- A stretch near enough. -/
def okP (p : Pr) : Bool := decide (max p.x p.y ≤ 1000000000000000) && decide (-1000000000000000 ≤ min p.x p.y)
def rawB (l : List Pr) : Bool := decide (l.length ≤ 300) && l.all okP
theorem rawB_bad {l : List Pr} {k : Nat} (h : k < l.length) (g : okP l[k] = false) : rawB l = false := by
  unfold rawB
  rw [Bool.and_eq_false_iff]
  right
  rw [List.all_eq_false]
  exact ⟨l[k], List.getElem_mem h, by rw [g]; simp⟩
theorem rawB_end {l : List Pr} (h : (l.take l.length).all okP = true) : rawB l = decide (l.length ≤ 300) := by
  unfold rawB
  rw [List.take_length] at h
  rw [h, Bool.and_true]
theorem all_take {l : List Pr} {k : Nat} (h : k < l.length) (g : (l.take k).all okP = true) (g2 : okP l[k] = true) : (l.take (k + 1)).all okP = true := by
  rw [List.take_succ_eq_append_getElem h, List.all_append, g]
  simp [g2]
theorem rawB_iff {l : List Pr} : rawB l = true ↔ l.length ≤ 300 ∧ RawL l := by
  unfold rawB RawL
  simp only [Bool.and_eq_true, decide_eq_true_iff, List.all_eq_true, okP]
  constructor
  · rintro ⟨h1, h2⟩
    refine ⟨h1, fun p hp => ?_⟩
    have := h2 p hp
    omega
  · rintro ⟨h1, h2⟩
    refine ⟨h1, fun p hp => ?_⟩
    have := h2 p hp
    omega
end Go.Proofs.Ytjfakhfkbnnbcaa

/- Walk of SeamLengths. -/
namespace Go.Proofs.Ytjfakhfkbnnbcaa
open Go.RowKit

/-- What an append reads. -/
def SrcX (w : World) (u : Value) (l : List Pr) : Prop := (∃ c, u = .slice none 0 c ∧ l = []) ∨ ∃ ad c, u = .slice (some ad) l.length c ∧ ∀ j x, (pvs l)[j]? = some x → w.cell? (ad.add j) = some x
theorem RowX.src {w : World} {v : Value} {l : List Pr} (h : RowX w v l) : SrcX w v l := by
  obtain ⟨va, vc, rfl⟩ := h.shape
  rcases va with _ | ⟨b, o, z⟩
  · rcases l with _ | ⟨p, l⟩
    · exact .inl ⟨_, rfl, rfl⟩
    · obtain ⟨b, o, g, _⟩ := h.get (k := 0) (by simp)
      cases g
  · refine .inr ⟨_, _, rfl, fun j u hu => ?_⟩
    have hl : 0 < l.length := by
      have := (List.getElem?_eq_some_iff.1 hu).1
      rw [pvs_len] at this
      omega
    obtain ⟨b', o', g, _⟩ := h.get (k := 0) hl
    injection g with g
    injection g with h1 h2 h3
    subst h1 h2 h3
    exact h.cells j u hu
section
variable {P : Program} {w : World}
theorem run_appX_none {base t ty e : Nat} {i : TypeInfo} (ht : P.underlying t = some (.slice e)) (hi : P.info? e = some i) {v : Value} {n : Nat} {xs : List Value} (hown : w.ownsRow base e 2 v n xs) (c : Nat) :
    (Builtin.append_ #[t, t] ty #[v, .slice none 0 c]).run P w = .ok v w := by
  have hU := run_underlying ht (P := P)
  rcases hown.2 with ⟨rfl, rfl⟩ | ⟨g, cap, cur, rfl, _, _, h, _⟩
  · simp [Builtin.append_, hU, sizeOf, typeInfo, hi, Builtin.lenOf, Builtin.firstCells]
  · simp [Builtin.append_, hU, sizeOf, typeInfo, hi, Builtin.lenOf, Builtin.firstCells, storeCells, h]
theorem wpList_appX {ops : Array Oper} {rest : List Oper} {o : Oper} {a : Act} {Q : Exit → Act → World → Prop} (hgd : o.guard = none) (s x : Operand) (t : TypeId) (ho : o.op = .call { callee := .builtin .append, args := #[s, x], argTypes := #[t, t] })
    (base e : Nat) (i : TypeInfo) (z : Value) (ht : P.underlying t = some (.slice e)) (hi : P.info? e = some i) (hz : i.zero = some z) (hs : i.size = 2) (hb : i.bytes = 16) (hzs : z.cells.size = 2)
    (v : Value) (n : Nat) (xs : List Value) (hv : a.eval s = v) (hown : w.ownsRow base e 2 v n xs) (u : Value) (l : List Pr) (hu : a.eval x = u) (hl : SrcX w u l) (hn : n + l.length ≤ 1000000) (hbase : base ≤ w.heap.size)
    (h : ∀ v' w', w'.ownsRow base e 2 v' (n + l.length) (xs ++ pvs l) → w.grownBy w' v.ownBlock → wpList P ops Q rest (a.put o.dst v') w') : wpList P ops Q (o :: rest) a w := by
  rcases hl with ⟨c, rfl, rfl⟩ | ⟨ad, c, rfl, hc⟩
  · refine wpList_plain hgd fun _ hK => ?_
    unfold Oper.wp execOp
    simp only [ho, resolve, invoke, builtin, Sem.run_bind, Sem.run_pure, Result.andThen_ok, List.map_toArray, List.map_cons, List.map_nil, hv, hu, run_appX_none (ty := o.type) ht hi hown c]
    exact hK _ _ (h v w (by simpa [pvs] using hown) (World.grownBy.refl w _))
  · exact wpList_append_own _ hgd s x t ho base e i z 2 16 ht hi hz hs hb hzs (by decide) v n xs hv hown ad l.length c (pvs l) hu (pvs_len l) hc (pvs_one l) (by unfold maxLen; omega) (by omega) hbase fun v' w' h1 h2 _ => h v' w' h1 h2
end
theorem own_shape2 {w : World} {base e n : Nat} {v : Value} {xs : List Value} (h : w.ownsRow base e 2 v n xs) : ∃ a c, v = .slice a n c := by
  rcases h.2 with ⟨rfl, h0⟩ | ⟨g, cap, cur, rfl, _⟩
  · exact ⟨none, 0, by rw [h0]⟩
  · exact ⟨_, _, rfl⟩
theorem own_app0 {w : World} {base e : Nat} {v : Value} {n : Nat} {xs : List Value} (h : w.ownsRow base e 2 v (0 + n) ([] ++ xs)) : w.ownsRow base e 2 v n xs := by
  rw [Nat.zero_add, List.nil_append] at h
  exact h
theorem pvs_all (l m : List Pr) : pvs l ++ pvs m = pvs (l ++ m) := (pvs_app l m).symm
/-- Two stretches have no tick in common. -/
def sepP (p q : Pr) : Prop := ¬ max p.x q.x < min p.y q.y
theorem sep_all {l m : List Pr} (h : ∀ i (hi : i < l.length) k (hk : k < m.length), sepP l[i] m[k]) : ∀ t, inP l t → inP m t → False := by
  rintro t ⟨p, hp, g1⟩ ⟨q, hq, g2⟩
  obtain ⟨i, hi, rfl⟩ := List.getElem_of_mem hp
  obtain ⟨k, hk, rfl⟩ := List.getElem_of_mem hq
  have := h i hi k hk
  unfold sepP at this
  omega
theorem raw_app {l m : List Pr} (h : RawL l) (g : RawL m) : RawL (l ++ m) := fun p hp => (List.mem_append.1 hp).elim (h p) (g p)
theorem len_of {l u : List Pr} (h : Uni u l) (g : RawL l) (k : l.length ≤ 1000) : 0 ≤ lenP u ∧ lenP u ≤ 2000000000000000000 := by
  have h1 := lenP_some (uni_raw h g) h.can u.length (Nat.le_refl _)
  rw [List.take_length] at h1
  have := h.few
  omega
theorem len_sum {u v z l m : List Pr} (hu : Uni u l) (hv : Uni v m) (hz : Uni z (l ++ m)) (gl : RawL l) (gm : RawL m) (hd : ∀ t, inP l t → inP m t → False) : lenP z = lenP u + lenP v :=
  lenP_add (lo := -1000000000000000) (n := 2000000000000000) hu hv hz (fun p hp => by have := gl p hp; omega) (fun p hp => by have := gm p hp; omega) hd
end Go.Proofs.Ytjfakhfkbnnbcaa

/- Walk of the reference's sorted: contract. -/
namespace Go.Proofs.Ytjfakhfkbnnbcaa
open Go.RowKit

/-- A beginning and a rest of a slice of pairs. -/
theorem RowX.beg {w : World} {a : Option Addr} {n c k : Nat} {l : List Pr} (h : RowX w (.slice a n c) l) (hk : k ≤ n) : RowX w (.slice a k c) (l.take k) := by
  obtain ⟨a', b, o, cap, hv, h2, h3, h4, h5⟩ := h
  injection hv with e1 e2 e3
  subst e1 e2 e3
  have e : (l.take k).length = k := by rw [List.length_take]; omega
  refine ⟨a, b, o, c, by rw [e], by rw [e]; omega, h3, ?_, fun j hj => ?_⟩
  · rcases h4 with rfl | h4
    · exact .inl (by simp)
    · exact .inr h4
  · rw [e] at hj
    simpa using h5 j (by omega)
theorem RowX.back {w : World} {b o n c k : Nat} {l : List Pr} (h : RowX w (.slice (some ⟨b, o, none⟩) n c) l) (hk : k ≤ n) (hp : 0 < n) : RowX w (.slice (some ⟨b, o + k * 2, none⟩) (n - k) (c - k)) (l.drop k) := by
  obtain ⟨a', b', o', cap, hv, h2, h3, h4, h5⟩ := h
  injection hv with e1 e2 e3
  subst e2 e3
  have hne : l ≠ [] := by rintro rfl; simp at hp
  rcases h4 with h4 | h4
  · exact absurd h4 hne
  · rw [← e1] at h4
    injection h4 with h4
    injection h4 with q1 q2
    subst q1 q2
    have e : (l.drop k).length = l.length - k := by rw [List.length_drop]
    refine ⟨_, b, o + k * 2, c - k, by rw [e], by rw [e]; omega, by omega, .inr rfl, fun j hj => ?_⟩
    rw [e] at hj
    have g := h5 (k + j) (by omega)
    rw [show o + k * 2 + j * 2 = o + (k + j) * 2 by omega]
    simpa using g
/-- Two ascending lists merged: what is taken so far. -/
structure Mg (out a b l m : List Pr) : Prop where
  perm : (out ++ (a ++ b)).Perm (l ++ m)
  asc : Asc out
  la : ∀ p ∈ out, ∀ q ∈ a, p.x ≤ q.x
  lb : ∀ p ∈ out, ∀ q ∈ b, p.x ≤ q.x
theorem mg_start (l m : List Pr) : Mg [] l m l m := ⟨List.Perm.refl _, List.Pairwise.nil, (fun p h => by cases h), (fun p h => by cases h)⟩
theorem asc_snoc {l : List Pr} {p : Pr} (h : Asc l) (g : ∀ q ∈ l, q.x ≤ p.x) : Asc (l ++ [p]) :=
  List.pairwise_append.2 ⟨h, List.pairwise_singleton _ _, fun q hq r hr => by
    have e : r = p := by simpa using hr
    rw [e]
    exact g q hq⟩
theorem mg_a {out a b l m : List Pr} {p : Pr} (h : Mg out (p :: a) b l m) (ha : Asc (p :: a)) (hb : ∀ q ∈ b, p.x ≤ q.x) : Mg (out ++ [p]) a b l m := by
  refine ⟨?_, asc_snoc h.asc (fun q hq => h.la q hq p (by simp)), fun q hq r hr => ?_, fun q hq r hr => ?_⟩
  · have := h.perm
    rw [List.append_assoc]
    exact this
  · rcases List.mem_append.1 hq with hq | hq
    · exact h.la q hq r (by simp [hr])
    · obtain rfl : q = p := by simpa using hq
      exact (List.pairwise_cons.1 ha).1 r hr
  · rcases List.mem_append.1 hq with hq | hq
    · exact h.lb q hq r hr
    · obtain rfl : q = p := by simpa using hq
      exact hb r hr
theorem mg_b {out a b l m : List Pr} {p : Pr} (h : Mg out a (p :: b) l m) (hb : Asc (p :: b)) (ha : ∀ q ∈ a, p.x ≤ q.x) : Mg (out ++ [p]) a b l m := by
  refine ⟨?_, asc_snoc h.asc (fun q hq => h.lb q hq p (by simp)), fun q hq r hr => ?_, fun q hq r hr => ?_⟩
  · refine List.Perm.trans ?_ h.perm
    rw [List.append_assoc]
    refine List.Perm.append_left out ?_
    rw [List.singleton_append]
    exact List.perm_middle.symm
  · rcases List.mem_append.1 hq with hq | hq
    · exact h.la q hq r hr
    · obtain rfl : q = p := by simpa using hq
      exact ha r hr
  · rcases List.mem_append.1 hq with hq | hq
    · exact h.lb q hq r (by simp [hr])
    · obtain rfl : q = p := by simpa using hq
      exact (List.pairwise_cons.1 hb).1 r hr
theorem mg_end {out a b l m : List Pr} (h : Mg out a b l m) (ha : Asc a) (hb : Asc b) (h0 : a = [] ∨ b = []) : (out ++ a ++ b).Perm (l ++ m) ∧ Asc (out ++ a ++ b) := by
  refine ⟨by rw [List.append_assoc]; exact h.perm, ?_⟩
  rcases h0 with rfl | rfl
  · rw [List.append_nil]
    exact List.pairwise_append.2 ⟨h.asc, hb, h.lb⟩
  · rw [List.append_nil]
    exact List.pairwise_append.2 ⟨h.asc, ha, h.la⟩
theorem asc_drop {l : List Pr} {p : Pr} (h : Asc (p :: l)) : Asc l := (List.pairwise_cons.1 h).2
theorem asc_first {p q : Pr} {l : List Pr} (h : Asc (q :: l)) (g : p.x ≤ q.x) : ∀ r ∈ q :: l, p.x ≤ r.x := by
  intro r hr
  rcases List.mem_cons.1 hr with rfl | hr
  · exact g
  · have := (List.pairwise_cons.1 h).1 r hr
    omega
theorem asc_few {l : List Pr} (h : l.length < 2) : Asc l := by
  match l, h with
  | [], _ => exact List.Pairwise.nil
  | [p], _ => exact List.pairwise_singleton _ _
end Go.Proofs.Ytjfakhfkbnnbcaa
