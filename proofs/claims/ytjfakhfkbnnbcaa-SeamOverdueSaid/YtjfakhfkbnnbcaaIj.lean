/- Walk of SeamLengths. -/
import Derived.Test.YtjfakhfkbnnbcaaIg
namespace Go.Proofs.Ytjfakhfkbnnbcaa
open Go.RowKit

/-- What an append reads. -/
def SrcX (w : World) (u : Value) (l : List Pr) : Prop := (∃ c, u = .slice none 0 c ∧ l = []) ∨ ∃ ad c, u = .slice (some ad) l.length c ∧ ∀ j x, (pvs l)[j]? = some x → w.cell? (ad.add j) = some x
theorem RowX.src {w : World} {v : Value} {l : List Pr} (h : RowX w v l) : SrcX w v l := by
  obtain ⟨va, vc, rfl⟩ := h.shape
  rcases va with _ | ⟨b, o, z⟩
  · rcases l with _ | ⟨p, l⟩
    · exact .inl ⟨_, rfl, rfl⟩
    · obtain ⟨b, o, g, _⟩ := h.get (k := 0) (by simp)
      cases g
  · refine .inr ⟨_, _, rfl, fun j u hu => ?_⟩
    have hl : 0 < l.length := by
      have := (List.getElem?_eq_some_iff.1 hu).1
      rw [pvs_len] at this
      omega
    obtain ⟨b', o', g, _⟩ := h.get (k := 0) hl
    injection g with g
    injection g with h1 h2 h3
    subst h1 h2 h3
    exact h.cells j u hu
section
variable {P : Program} {w : World}
theorem run_appX_none {base t ty e : Nat} {i : TypeInfo} (ht : P.underlying t = some (.slice e)) (hi : P.info? e = some i) {v : Value} {n : Nat} {xs : List Value} (hown : w.ownsRow base e 2 v n xs) (c : Nat) :
    (Builtin.append_ #[t, t] ty #[v, .slice none 0 c]).run P w = .ok v w := by
  have hU := run_underlying ht (P := P)
  rcases hown.2 with ⟨rfl, rfl⟩ | ⟨g, cap, cur, rfl, _, _, h, _⟩
  · simp [Builtin.append_, hU, sizeOf, typeInfo, hi, Builtin.lenOf, Builtin.firstCells]
  · simp [Builtin.append_, hU, sizeOf, typeInfo, hi, Builtin.lenOf, Builtin.firstCells, storeCells, h]
theorem wpList_appX {ops : Array Oper} {rest : List Oper} {o : Oper} {a : Act} {Q : Exit → Act → World → Prop} (hgd : o.guard = none) (s x : Operand) (t : TypeId) (ho : o.op = .call { callee := .builtin .append, args := #[s, x], argTypes := #[t, t] })
    (base e : Nat) (i : TypeInfo) (z : Value) (ht : P.underlying t = some (.slice e)) (hi : P.info? e = some i) (hz : i.zero = some z) (hs : i.size = 2) (hb : i.bytes = 16) (hzs : z.cells.size = 2)
    (v : Value) (n : Nat) (xs : List Value) (hv : a.eval s = v) (hown : w.ownsRow base e 2 v n xs) (u : Value) (l : List Pr) (hu : a.eval x = u) (hl : SrcX w u l) (hn : n + l.length ≤ 1000000) (hbase : base ≤ w.heap.size)
    (h : ∀ v' w', w'.ownsRow base e 2 v' (n + l.length) (xs ++ pvs l) → w.grownBy w' v.ownBlock → wpList P ops Q rest (a.put o.dst v') w') : wpList P ops Q (o :: rest) a w := by
  rcases hl with ⟨c, rfl, rfl⟩ | ⟨ad, c, rfl, hc⟩
  · refine wpList_plain hgd fun _ hK => ?_
    unfold Oper.wp execOp
    simp only [ho, resolve, invoke, builtin, Sem.run_bind, Sem.run_pure, Result.andThen_ok, List.map_toArray, List.map_cons, List.map_nil, hv, hu, run_appX_none (ty := o.type) ht hi hown c]
    exact hK _ _ (h v w (by simpa [pvs] using hown) (World.grownBy.refl w _))
  · exact wpList_append_own _ hgd s x t ho base e i z 2 16 ht hi hz hs hb hzs (by decide) v n xs hv hown ad l.length c (pvs l) hu (pvs_len l) hc (pvs_one l) (by unfold maxLen; omega) (by omega) hbase fun v' w' h1 h2 _ => h v' w' h1 h2
end
theorem own_shape2 {w : World} {base e n : Nat} {v : Value} {xs : List Value} (h : w.ownsRow base e 2 v n xs) : ∃ a c, v = .slice a n c := by
  rcases h.2 with ⟨rfl, h0⟩ | ⟨g, cap, cur, rfl, _⟩
  · exact ⟨none, 0, by rw [h0]⟩
  · exact ⟨_, _, rfl⟩
theorem own_app0 {w : World} {base e : Nat} {v : Value} {n : Nat} {xs : List Value} (h : w.ownsRow base e 2 v (0 + n) ([] ++ xs)) : w.ownsRow base e 2 v n xs := by
  rw [Nat.zero_add, List.nil_append] at h
  exact h
theorem pvs_all (l m : List Pr) : pvs l ++ pvs m = pvs (l ++ m) := (pvs_app l m).symm
/-- Two stretches have no tick in common. -/
def sepP (p q : Pr) : Prop := ¬ max p.x q.x < min p.y q.y
theorem sep_all {l m : List Pr} (h : ∀ i (hi : i < l.length) k (hk : k < m.length), sepP l[i] m[k]) : ∀ t, inP l t → inP m t → False := by
  rintro t ⟨p, hp, g1⟩ ⟨q, hq, g2⟩
  obtain ⟨i, hi, rfl⟩ := List.getElem_of_mem hp
  obtain ⟨k, hk, rfl⟩ := List.getElem_of_mem hq
  have := h i hi k hk
  unfold sepP at this
  omega
theorem raw_app {l m : List Pr} (h : RawL l) (g : RawL m) : RawL (l ++ m) := fun p hp => (List.mem_append.1 hp).elim (h p) (g p)
theorem len_of {l u : List Pr} (h : Uni u l) (g : RawL l) (k : l.length ≤ 1000) : 0 ≤ lenP u ∧ lenP u ≤ 2000000000000000000 := by
  have h1 := lenP_some (uni_raw h g) h.can u.length (Nat.le_refl _)
  rw [List.take_length] at h1
  have := h.few
  omega
theorem len_sum {u v z l m : List Pr} (hu : Uni u l) (hv : Uni v m) (hz : Uni z (l ++ m)) (gl : RawL l) (gm : RawL m) (hd : ∀ t, inP l t → inP m t → False) : lenP z = lenP u + lenP v :=
  lenP_add (lo := -1000000000000000) (n := 2000000000000000) hu hv hz (fun p hp => by have := gl p hp; omega) (fun p hp => by have := gm p hp; omega) hd
end Go.Proofs.Ytjfakhfkbnnbcaa
