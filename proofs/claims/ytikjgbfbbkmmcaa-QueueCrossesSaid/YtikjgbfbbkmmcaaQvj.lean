/- Walks of the pool's Push and Pop: contracts. -/
import Derived.Test.YtikjgbfbbkmmcaaQvi
import Derived.Laws.AppendOwn
import Derived.Deep.RegionLaw
import Derived.Deep.AppendLies
namespace Go.Proofs.Ytikjgbfbbkmmcaa
open Go.RowKit

theorem info_of {P : Program} {t : TypeId} {z : Value} {s b : Nat} (h : (P.info? t).map (fun i => (i.zero, i.size, i.bytes)) = some (some z, s, b)) : ∃ i, P.info? t = some i ∧ i.zero = some z ∧ i.size = s ∧ i.bytes = b := by
  cases ho : P.info? t with
  | none => rw [ho] at h; cases h
  | some i =>
    rw [ho] at h
    injection h with h
    simp only [Prod.mk.injEq] at h
    exact ⟨i, rfl, h.1, h.2.1, h.2.2⟩
theorem infoVes : ∃ i, Try.prog.info? 99 = some i ∧ i.zero = some (.agg #[.int .i64 0, .int .i64 0]) ∧ i.size = 2 ∧ i.bytes = 16 := info_of (by kernel_rfl)
/-- An append of one struct onto a list of one's own, at a step of a region that draws its order. -/
theorem step_appE {α : Type} {C : Enc α} {P : Program} {w : World} {ops : Array Oper} {o : Oper} {a : Act} {K : Act → World → Prop} {Q : Exit → Act → World → Prop} {X : Prop} (hgd : o.guard = none) (s x : Operand) (t : TypeId) (ho : o.op = .call { callee := .builtin .append, args := #[s, x], argTypes := #[t, t] })
    (base e : Nat) (i : TypeInfo) (z : Value) (bytes : Nat) (ht : P.underlying t = some (.slice e)) (hi : P.info? e = some i) (hz : i.zero = some z) (hs : i.size = C.n) (hb : i.bytes = bytes) (hzs : z.cells.size = C.n) (hsz : 0 < C.n) (hby : bytes ≤ 10000)
    (v : Value) (l : List α) (d : α) (hv : a.eval s = v) (hown : OwnE C w base e v l) (ad : Addr) (c : Nat) (hu : a.eval x = .slice (some ad) 1 c) (hnews : ∀ j u, (C.cs d)[j]? = some u → w.cell? (ad.add j) = some u)
    (hf : l.length ≤ 1000000) (hbase : base ≤ w.heap.size)
    (h : ∀ v' w', OwnE C w' base e v' (l ++ [d]) → w.grownBy w' v.ownBlock → K (a.put o.dst v') w') : if Region.wanted o (yielded ops a.tmps) = true then Oper.wp P o a w K Q else X := by
  have hw : Region.wanted o (yielded ops a.tmps) = true := by simp [Region.wanted, hgd]
  rw [if_pos hw]
  exact wp_append_own w s x t ho base e i z C.n bytes ht hi hz hs hb hzs hsz v l.length (evs C l) hv hown ad 1 c (C.cs d) hu (by rw [C.len]; omega) hnews (C.one d) (by unfold maxLen; omega) (Nat.le_trans (Nat.mul_le_mul (show l.length + 1 ≤ 1000001 by omega) hby) (by decide)) hbase fun v' w' h2 h3 _ => h v' w' (OwnE.app h2) h3
/-- Behind the append onto the pool's vessels; behind the store. -/
theorem push_mid {pb base : Nat} {l : List Pr} {d : Pr} {w w1 w2 : World} {v v' : Value} (hb : w1.heap[pb]? = some (.cells #[v] 111 (0, 0))) (ho : OwnE encV w1 base 99 v l) (hpb : pb < base) (h2 : OwnE encV w2 base 99 v' (l ++ [d])) (hg : w1.grownBy w2 v.ownBlock) (ht : Tn TV pb w w1) :
    (w2.heap[pb]? = some (.cells #[v] 111 (0, 0)) ∧ OwnE encV w2 base 99 v' (l ++ [d]) ∧ pb < base ∧ Tn TV pb w w2) ∧ w2.cell? ⟨pb, 0, none⟩ = some v ∧ w2.frozen? ⟨pb, 0, none⟩ = false := by
  have e : w2.heap[pb]? = some (.cells #[v] 111 (0, 0)) := (hg.block pb (Array.getElem?_eq_some_iff.1 hb).1 (fun e => by have := (World.ownsRow.lt ho pb e.symm).1; omega)).trans hb
  refine ⟨⟨e, h2, hpb, ht.trans (Tn.step hg (fun j ej => ?_))⟩, ?_, frozen_of_row _ _ 0 _ _ e⟩
  · rcases ho.2 with ⟨rfl, _⟩ | ⟨g, cap, cur, rfl, hb', hgg, _⟩
    · cases ej
    · cases ej
      exact ⟨by show pb ≤ g; omega, _, hgg, .inr ⟨_, _, .inr rfl, rfl⟩⟩
  · have := cell_of_row _ _ 0 _ _ _ e
    simpa using this
theorem push_end {pb base : Nat} {l : List Pr} {w w2 : World} {v v' : Value} (h : w2.heap[pb]? = some (.cells #[v] 111 (0, 0)) ∧ OwnE encV w2 base 99 v' l ∧ pb < base ∧ Tn TV pb w w2) :
    PoolAt pb base l (w2.setCell ⟨pb, 0, none⟩ v') ∧ Tn TV pb w (w2.setCell ⟨pb, 0, none⟩ v') := by
  obtain ⟨h1, h2, h3, h4⟩ := h
  have e := heap_setCell_same w2 pb 0 _ _ v' h1
  have hg : w2.grownBy (w2.setCell ⟨pb, 0, none⟩ v') (some pb) := ⟨rfl, rfl, rfl, by simp, fun k _ hk => heap_setCell_other _ _ _ _ (fun e => hk (by rw [e]))⟩
  refine ⟨⟨v', e, ?_⟩, h4.trans (Tn.step hg (fun j ej => by cases ej; exact ⟨Nat.le_refl _, _, h1, .inr ⟨_, _, .inl rfl, rfl⟩⟩))⟩
  exact h2.turn hg (fun e2 => by have := (World.ownsRow.lt h2 pb e2).1; omega)
theorem ta_ves (x y : Int) (w : World) : (Instr.typeAssert (.iface 99 (.agg #[.int .i64 x, .int .i64 y])) 20 99 false).run Try.prog w = .ok (.agg #[.int .i64 x, .int .i64 y]) w := by kernel_rfl
set_option maxRecDepth 20000 in
set_option maxHeartbeats 4000000 in
theorem ppush_any (pb base : Nat) (l : List Pr) (d : Pr) (w : World) (hP : PoolAt pb base l w) (hpb : pb < base) (hbs : base ≤ w.heap.size) (hm : l.length ≤ 1000) :
    Calls Try.prog 145 #[.pointer (some ⟨pb, 0, none⟩), .iface 99 (.agg #[.int .i64 d.x, .int .i64 d.y])] w fun e w' => e = .returned (.tuple #[]) ∧ PoolAt pb base (l ++ [d]) w' ∧ Tn TV pb w w' := by
  obtain ⟨v, hb, ho⟩ := hP
  obtain ⟨i0, hi, hz0, hz1, hz2⟩ := infoVes
  have hv := cell_of_row _ _ 0 _ _ _ hb
  simp only [List.getElem?_toArray, List.getElem?_cons_zero] at hv
  have HO := hid ho; have HB := hid hb
  clear ho hb
  obtain ⟨ua, uc, rfl⟩ := HO.out.shape
  have ta := ta_ves d.x d.y
  have hba : Below w.heap.size w (w.alloc (.cells #[.int .i64 d.x, .int .i64 d.y] 99)) := (Below.refl _ _).alloc (Nat.le_refl _) _
  have HO1 : Hid (OwnE encV (w.alloc (.cells #[.int .i64 d.x, .int .i64 d.y] 99)).drew base 99 (.slice ua l.length uc) l) := HO.out.keep hba.drew
  have HN1 : Hid (∀ j u, (encV.cs d)[j]? = some u → (w.alloc (.cells #[.int .i64 d.x, .int .i64 d.y] 99)).drew.cell? ((⟨w.heap.size, 0, none⟩ : Addr).add j) = some u) := encN_new (W := w) (cs := encV.cs d) rfl
  have HB1 : Hid ((w.alloc (.cells #[.int .i64 d.x, .int .i64 d.y] 99)).drew.heap[pb]? = some (.cells #[.slice ua l.length uc] 111 (0, 0))) := (hba.block _ (Array.getElem?_eq_some_iff.1 HB.out).1).trans HB.out
  have HS1 : Hid (pb < (w.alloc (.cells #[.int .i64 d.x, .int .i64 d.y] 99)).drew.heap.size ∧ base ≤ (w.alloc (.cells #[.int .i64 d.x, .int .i64 d.y] 99)).drew.heap.size) := by
    have := (Array.getElem?_eq_some_iff.1 HB1.out).1
    exact ⟨this, Nat.le_trans hbs hba.size⟩
  have HG1 : Hid (Tn TV pb w (w.alloc (.cells #[.int .i64 d.x, .int .i64 d.y] 99)).drew) := Tn.lay hba.drew
  have hv2 : (w.alloc (.cells #[.int .i64 d.x, .int .i64 d.y] 99)).cell? ⟨pb, 0, none⟩ = some (.slice ua l.length uc) := keep_cell hba hv
  clear hba
  go_enter Try.func145, Try.ntmps145
  go_wp2
  go_region_law (first | (refine step_appE rfl (.tmp 8) (.tmp 11) 109 rfl base 99 i0 _ 16 Try.underlying109 hi hz0 hz1 hz2 rfl (by decide) (by decide) _ l d rfl HO1.out ⟨w.heap.size, 0, none⟩ 1 rfl HN1.out (by omega) HS1.out.2 ?_; generalize World.drew (World.alloc w _) = w1 at *; intro v' w2 hO2 hG2; obtain ⟨hX, c1, f1⟩ := push_mid HB1.out HO1.out hpb hO2 hG2 HG1.out; obtain ⟨va, vc, rfl⟩ := hO2.shape; have HX := hid hX; clear hX HO1 HN1 HB1 HS1 HG1 hO2 hG2))
  all_goals go_end0
  all_goals exact ⟨rfl, by have h := push_end HX.out; rw [List.length_append, List.length_singleton] at h; exact h⟩
/-- Behind Pop: the last is taken away. -/
theorem pop_end {pb base g cap : Nat} {l : List Pr} {w w2 : World} (hb : w.heap[pb]? = some (.cells #[.slice (some ⟨g, 0, none⟩) l.length cap] 111 (0, 0))) (ho : OwnE encV w base 99 (.slice (some ⟨g, 0, none⟩) l.length cap) l) (hpb : pb < base) (hb2 : Below w.heap.size w w2) (hl : l ≠ []) {n : Nat} (hn : n ≤ l.length) :
    PoolAt pb base (l.take n) (w2.setCell ⟨pb, 0, none⟩ (.slice (some ⟨g, 0, none⟩) n cap)) ∧ Tn TV pb w (w2.setCell ⟨pb, 0, none⟩ (.slice (some ⟨g, 0, none⟩) n cap)) := by
  have h1 := (hb2.block _ (Array.getElem?_eq_some_iff.1 hb).1).trans hb
  have h2 := (ho.keep hb2).beg hn hl
  have e := heap_setCell_same w2 pb 0 _ _ (.slice (some ⟨g, 0, none⟩) n cap) h1
  have hg : w2.grownBy (w2.setCell ⟨pb, 0, none⟩ (.slice (some ⟨g, 0, none⟩) n cap)) (some pb) := ⟨rfl, rfl, rfl, by simp, fun k _ hk => heap_setCell_other _ _ _ _ (fun e => hk (by rw [e]))⟩
  exact ⟨⟨_, e, h2.turn hg (fun e2 => by have := (World.ownsRow.lt h2 pb e2).1; omega)⟩, (Tn.lay hb2).trans (Tn.step hg (fun j ej => by cases ej; exact ⟨Nat.le_refl _, _, h1, .inr ⟨_, _, .inl rfl, rfl⟩⟩))⟩
set_option maxRecDepth 20000 in
set_option maxHeartbeats 4000000 in
theorem ppop_any (pb base g cap n : Nat) (l : List Pr) (w : World) (hP : PoolO pb base g cap l w) (hpb : pb < base) (hn : l.length = n + 1) (hm : n ≤ 1000) :
    Calls Try.prog 144 #[.pointer (some ⟨pb, 0, none⟩)] w fun e w' => e = .returned (.iface 99 (.agg #[.int .i64 (vat l n).x, .int .i64 (vat l n).y])) ∧ PoolAt pb base (l.take n) w' ∧ Tn TV pb w w' ∧ StG pb g w w' ∧ w'.cell? ⟨pb, 0, none⟩ = some (.slice (some ⟨g, 0, none⟩) n cap) := by
  obtain ⟨cur, hb, ho, hbg, hg, hne⟩ := hP.facts
  have hv := cell_of_row _ _ 0 _ _ _ hb
  simp only [List.getElem?_toArray, List.getElem?_cons_zero] at hv
  obtain ⟨b', o', hx, c0, c1⟩ := ho.row.vess (show n < l.length by omega)
  cases hx
  simp only [Nat.zero_add] at c0 c1
  have HE := hid (fun (w2 : World) (hb2 : Below w.heap.size w w2) => pop_end hb ho hpb hb2 (fun e => by rw [e] at hn; simp at hn) (show n ≤ l.length by omega))
  have hl : (l.length : Int) - 1 = (n : Nat) := by omega
  have hn2 : (n : Int) < l.length := by omega
  rw [hn] at hv hl hn2
  generalize vat l n = d at *
  have hz := (Array.getElem?_eq_some_iff.1 hb).1
  have f0 := frozen_of_row _ _ 0 _ _ hb
  have hcap : n ≤ cap := by
    obtain ⟨_, _, _, _, hx, h2, _⟩ := ho.row
    cases hx
    omega
  have HBX := hid hb
  clear hP hb ho hn hg
  go_enter Try.func144, Try.ntmps144
  go_wp2
  go_ret
  have h := HE.out w (Below.refl _ _)
  exact ⟨rfl, h.1.keep ((Below.refl _ _).alloc (Nat.le_refl _) _), h.2.trans (Tn.lay ((Below.refl _ _).alloc (Nat.le_refl _) _)), fun j h1 h2 _ => (Below.heap_alloc _ _ _ (by simp; exact h1)).trans (heap_setCell_other _ _ _ _ (by exact h2)), by
    refine keep_cell ((Below.refl _ _).alloc (Nat.le_refl _) _) ?_
    have e := heap_setCell_same w pb 0 _ _ (.slice (some ⟨g, 0, none⟩) n cap) HBX.out
    have := cell_of_row _ _ 0 _ _ _ e
    simpa using this⟩
end Go.Proofs.Ytikjgbfbbkmmcaa
