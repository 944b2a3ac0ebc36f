/- Texts of this seat, one behind the other. -/
import Derived.Test.YtihbjimnjhfpeaaGreatR22
import Derived.Laws.OwnMore
import Derived.Test.YtihbjimnjhfpeaaGreatR33
import Derived.Test.YtihbjimnjhfpeaaGreatR34
/- Plain facts of deviations: the list behind k readings, and what it says of each reading; own lists of triples. -/
namespace Go.Proofs.YtihbjimnjhfpeaaGreat.Rt
open Go.RowKit

/-- A reading of a cook that was too cold. -/
def coldB (p : Nat → St) (x : Rd) : Bool := decide ((p x.s.toNat).k = 3) && decide (x.t < (p x.s.toNat).s)
/-- The deviations behind a reading that is too cold. -/
def devPut (r : Nat → Rd) (l : List Tri) (k : Nat) : List Tri :=
  match l.getLast? with
  | some d => if d.y = (k : Int) ∧ (r (k - 1)).s = (r k).s then l.dropLast ++ [⟨d.x, (k : Int) + 1, min d.z (r k).t⟩] else l ++ [⟨k, (k : Int) + 1, (r k).t⟩]
  | none => [⟨k, (k : Int) + 1, (r k).t⟩]
/-- The deviations of the first k readings. -/
def devL (p : Nat → St) (r : Nat → Rd) : Nat → List Tri
  | 0 => []
  | k + 1 => if coldB p (r k) then devPut r (devL p r k) k else devL p r k
theorem dev_no {p : Nat → St} {r : Nat → Rd} {k : Nat} (h : coldB p (r k) = false) : devL p r (k + 1) = devL p r k := by rw [devL, h]; rfl
theorem dev_first {p : Nat → St} {r : Nat → Rd} {k : Nat} (h : coldB p (r k) = true) (hl : devL p r k = []) : devL p r (k + 1) = [⟨k, (k : Int) + 1, (r k).t⟩] := by rw [devL, h, hl]; rfl
theorem dev_more {p : Nat → St} {r : Nat → Rd} {k : Nat} {l : List Tri} {d : Tri} (h : coldB p (r k) = true) (hl : devL p r k = l ++ [d]) (h1 : d.y = (k : Int)) (h2 : (r (k - 1)).s = (r k).s) : devL p r (k + 1) = l ++ [⟨d.x, (k : Int) + 1, min d.z (r k).t⟩] := by
  rw [devL, h, hl]; simp [devPut, h1, h2]
theorem dev_next {p : Nat → St} {r : Nat → Rd} {k : Nat} {l : List Tri} {d : Tri} (h : coldB p (r k) = true) (hl : devL p r k = l ++ [d]) (h1 : ¬ (d.y = (k : Int) ∧ (r (k - 1)).s = (r k).s)) : devL p r (k + 1) = l ++ [d] ++ [⟨k, (k : Int) + 1, (r k).t⟩] := by
  rw [devL, h, hl]; simp only [if_true, devPut, List.getLast?_append, List.getLast?_singleton, Option.some_or]; rw [if_neg h1]
theorem last_or (l : List Tri) : l = [] ∨ ∃ l0 d, l = l0 ++ [d] := by
  rcases List.eq_nil_or_concat l with h | ⟨a, b, h⟩
  · exact .inl h
  · exact .inr ⟨a, b, by simpa using h⟩
/-- What the deviations say. -/
structure DevOk (p : Nat → St) (r : Nat → Rd) (k : Nat) (l : List Tri) : Prop where
  ord : l.Pairwise fun a b => a.y ≤ b.x
  span : ∀ d ∈ l, 0 ≤ d.x ∧ d.x < d.y ∧ d.y ≤ (k : Int)
  cold : ∀ d ∈ l, ∀ j : Nat, d.x ≤ (j : Int) → (j : Int) < d.y → coldB p (r j) = true ∧ d.z ≤ (r j).t
  all : ∀ j, j < k → coldB p (r j) = true → ∃ d ∈ l, d.x ≤ (j : Int) ∧ (j : Int) < d.y
  few : l.length ≤ k
theorem dev_ok (p : Nat → St) (r : Nat → Rd) : ∀ k, DevOk p r k (devL p r k)
  | 0 => ⟨List.Pairwise.nil, fun d h => by simp [devL] at h, fun d h => by simp [devL] at h, fun j h => absurd h (Nat.not_lt_zero j), by simp [devL]⟩
  | k + 1 => by
    have ih := dev_ok p r k
    cases hc : coldB p (r k)
    · rw [dev_no hc]
      refine ⟨ih.ord, fun d hd => ?_, ih.cold, fun j hj hj2 => ?_, Nat.le_succ_of_le ih.few⟩
      · obtain ⟨h1, h2, h3⟩ := ih.span d hd
        exact ⟨h1, h2, by omega⟩
      · rcases Nat.lt_succ_iff_lt_or_eq.1 hj with h | rfl
        · exact ih.all j h hj2
        · rw [hc] at hj2; cases hj2
    · have hnew : DevOk p r (k + 1) (devL p r k ++ [⟨k, (k : Int) + 1, (r k).t⟩]) := by
        refine ⟨List.pairwise_append.2 ⟨ih.ord, List.pairwise_singleton _ _, fun a ha b hb => ?_⟩, fun d hd => ?_, fun d hd j h1 h2 => ?_, fun j hj hj2 => ?_, ?_⟩
        · simp only [List.mem_singleton] at hb
          subst hb
          exact (ih.span a ha).2.2
        · rcases List.mem_append.1 hd with h | h
          · obtain ⟨h1, h2, h3⟩ := ih.span d h
            exact ⟨h1, h2, by omega⟩
          · simp only [List.mem_singleton] at h
            subst h
            refine ⟨?_, ?_, ?_⟩ <;> simp only <;> omega
        · rcases List.mem_append.1 hd with h | h
          · exact ih.cold d h j h1 h2
          · simp only [List.mem_singleton] at h
            subst h
            simp only at h1 h2
            obtain rfl : j = k := by omega
            exact ⟨hc, Int.le_refl _⟩
        · rcases Nat.lt_succ_iff_lt_or_eq.1 hj with h | rfl
          · obtain ⟨d, hd, h1⟩ := ih.all j h hj2
            exact ⟨d, List.mem_append.2 (.inl hd), h1⟩
          · exact ⟨_, List.mem_append.2 (.inr (List.mem_singleton.2 rfl)), by simp only; omega⟩
        · have := ih.few
          simp only [List.length_append, List.length_singleton]; omega
      rcases last_or (devL p r k) with hl | ⟨l0, d, hl⟩
      · rw [dev_first hc hl]
        rw [hl] at hnew
        exact hnew
      · by_cases h1 : d.y = (k : Int) ∧ (r (k - 1)).s = (r k).s
        · rw [dev_more hc hl h1.1 h1.2]
          rw [hl] at ih
          obtain ⟨hy, _⟩ := h1
          have hpw := List.pairwise_append.1 ih.ord
          obtain ⟨hs1, hs2, hs3⟩ := ih.span d (by simp)
          refine ⟨List.pairwise_append.2 ⟨hpw.1, List.pairwise_singleton _ _, fun a ha b hb => ?_⟩, fun e he => ?_, fun e he j g1 g2 => ?_, fun j hj hj2 => ?_, ?_⟩
          · simp only [List.mem_singleton] at hb
            subst hb
            exact hpw.2.2 a ha d (List.mem_singleton.2 rfl)
          · rcases List.mem_append.1 he with h | h
            · obtain ⟨h1, h2, h3⟩ := ih.span e (List.mem_append.2 (.inl h))
              exact ⟨h1, h2, by omega⟩
            · simp only [List.mem_singleton] at h
              subst h
              refine ⟨?_, ?_, ?_⟩ <;> simp only <;> omega
          · rcases List.mem_append.1 he with h | h
            · exact ih.cold e (List.mem_append.2 (.inl h)) j g1 g2
            · simp only [List.mem_singleton] at h
              subst h
              simp only at g1 g2 ⊢
              rcases Int.lt_or_le (j : Int) k with h3 | h3
              · obtain ⟨q1, q2⟩ := ih.cold d (by simp) j g1 (by omega)
                exact ⟨q1, by omega⟩
              · obtain rfl : j = k := by omega
                exact ⟨hc, by omega⟩
          · rcases Nat.lt_succ_iff_lt_or_eq.1 hj with h | rfl
            · obtain ⟨e, he, q1, q2⟩ := ih.all j h hj2
              rcases List.mem_append.1 he with h4 | h4
              · exact ⟨e, List.mem_append.2 (.inl h4), q1, q2⟩
              · simp only [List.mem_singleton] at h4
                subst h4
                exact ⟨_, List.mem_append.2 (.inr (List.mem_singleton.2 rfl)), by simp only; omega⟩
            · exact ⟨_, List.mem_append.2 (.inr (List.mem_singleton.2 rfl)), by simp only; omega⟩
          · have := ih.few
            simp only [List.length_append, List.length_singleton] at this ⊢; omega
        · rw [dev_next hc hl h1]
          rw [hl] at hnew
          exact hnew
/-- The cells of a list of triples. -/
def tvs : List Tri → List Value
  | [] => []
  | d :: l => .int .i64 d.x :: .int .i64 d.y :: .int .i64 d.z :: tvs l
theorem tvs_len : ∀ l : List Tri, (tvs l).length = l.length * 3
  | [] => rfl
  | d :: l => by simp only [tvs, List.length_cons, tvs_len l]; omega
theorem tvs_app : ∀ l m : List Tri, tvs (l ++ m) = tvs l ++ tvs m
  | [], m => rfl
  | d :: l, m => by simp only [tvs, List.cons_append, tvs_app l m]
theorem tvs_at : ∀ (l : List Tri) (j : Nat) (h : j < l.length), (tvs l)[j * 3]? = some (.int .i64 l[j].x) ∧ (tvs l)[j * 3 + 1]? = some (.int .i64 l[j].y) ∧ (tvs l)[j * 3 + 2]? = some (.int .i64 l[j].z)
  | d :: l, 0, _ => by simp [tvs]
  | d :: l, j + 1, h => by
    have ih := tvs_at l j (by simpa using h)
    have e : (j + 1) * 3 = j * 3 + 1 + 1 + 1 := by omega
    rw [e]
    simpa [tvs] using ih
theorem tvs_last {l : List Tri} {d : Tri} : tvs (l ++ [d]) = tvs l ++ [.int .i64 d.x, .int .i64 d.y, .int .i64 d.z] := by rw [tvs_app]; rfl
theorem tvs_set1 {l : List Tri} {d : Tri} (v : Int) : (tvs (l ++ [d])).set (l.length * 3 + 1) (.int .i64 v) = tvs (l ++ [⟨d.x, v, d.z⟩]) := by
  rw [tvs_last, tvs_last, ← tvs_len l, List.set_append_right _ _ (by omega), Nat.add_sub_cancel_left]; rfl
theorem tvs_set2 {l : List Tri} {d : Tri} (v : Int) : (tvs (l ++ [d])).set (l.length * 3 + 2) (.int .i64 v) = tvs (l ++ [⟨d.x, d.y, v⟩]) := by
  rw [tvs_last, tvs_last, ← tvs_len l, List.set_append_right _ _ (by omega), Nat.add_sub_cancel_left]; rfl
end Go.Proofs.YtihbjimnjhfpeaaGreat.Rt

/- Walk of retort's Deviations: contract. -/
namespace Go.Proofs.YtihbjimnjhfpeaaGreat.Rt
open Go.RowKit

def OwnT (w : World) (base : Nat) (v : Value) (l : List Tri) : Prop := w.ownsRow base 108 3 v l.length (tvs l)
theorem infoT : (Tryz.prog.info? 108).map (fun i => (i.zero, i.size, i.bytes)) = some (some (.agg #[.int .i64 0, .int .i64 0, .int .i64 0]), 3, 24) := by kernel_rfl
/-- A list of triples of the call's own, read. -/
def RowD (w : World) (v : Value) (l : List Tri) : Prop := RowT w v l.length fun i => l.getD i ⟨0, 0, 0⟩
theorem OwnT.row {w : World} {base : Nat} {v : Value} {l : List Tri} (h : OwnT w base v l) : RowD w v l := by
  rcases h.2 with ⟨rfl, h0⟩ | ⟨g, cap, cur, rfl, _, hg, hcap, hmx, hcs, ht⟩
  · exact ⟨none, 0, 0, 0, by rw [h0], by omega, by simp, .inl h0, fun k hk => by omega⟩
  · refine ⟨some ⟨g, 0, none⟩, g, 0, cap, rfl, hcap, hmx, .inr rfl, fun k hk => ?_⟩
    obtain ⟨h1, h2, h3⟩ := tvs_at l k hk
    rw [← ht] at h1 h2 h3
    rw [List.getElem?_take_of_lt (by omega)] at h1 h2 h3
    have e : l.getD k ⟨0, 0, 0⟩ = l[k] := by simp [List.getD, hk]
    simp only [e, Nat.zero_add]
    refine ⟨?_, ?_, ?_⟩ <;> rw [cell_of_row w g _ cur _ _ hg]
    · simpa using h1
    · simpa using h2
    · simpa using h3
theorem ownT_shape {w : World} {base : Nat} {v : Value} {l : List Tri} (h : OwnT w base v l) : ∃ ua uc, v = .slice ua l.length uc := by
  rcases h.2 with ⟨rfl, h0⟩ | ⟨g, cap, cur, rfl, _⟩
  · exact ⟨_, _, by rw [h0]⟩
  · exact ⟨_, _, rfl⟩
theorem ownT_some {w : World} {base : Nat} {v : Value} {l : List Tri} {d : Tri} (h : OwnT w base v (l ++ [d])) : ∃ g uc, v = .slice (some ⟨g, 0, none⟩) (l.length + 1) uc ∧ base ≤ g := by
  rcases h.2 with ⟨rfl, h0⟩ | ⟨g, cap, cur, rfl, hb, _⟩
  · simp at h0
  · exact ⟨g, cap, by simp, hb⟩
theorem OwnT.last {w : World} {base g uc : Nat} {l : List Tri} {d : Tri} (h : OwnT w base (.slice (some ⟨g, 0, none⟩) (l.length + 1) uc) (l ++ [d])) :
    w.cell? ⟨g, l.length * 3 + 1, none⟩ = some (.int .i64 d.y) ∧ w.cell? ⟨g, l.length * 3 + 2, none⟩ = some (.int .i64 d.z) ∧ w.frozen? ⟨g, l.length * 3 + 1, none⟩ = false ∧ w.frozen? ⟨g, l.length * 3 + 2, none⟩ = false := by
  have e : (l ++ [d]).length = l.length + 1 := by simp
  unfold OwnT at h
  rw [e] at h
  obtain ⟨h1, h2, h3⟩ := tvs_at (l ++ [d]) l.length (by simp)
  have ed : (l ++ [d])[l.length]'(by simp) = d := by simp
  rw [ed] at h1 h2 h3
  exact ⟨(h.cellAt _ (by omega)).trans h2, (h.cellAt _ (by omega)).trans h3, h.frozenAt _, h.frozenAt _⟩
theorem OwnT.set1 {w : World} {base g uc : Nat} {l : List Tri} {d : Tri} (h : OwnT w base (.slice (some ⟨g, 0, none⟩) (l.length + 1) uc) (l ++ [d])) (y : Int) :
    OwnT (w.setCell ⟨g, l.length * 3 + 1, none⟩ (.int .i64 y)) base (.slice (some ⟨g, 0, none⟩) (l.length + 1) uc) (l ++ [⟨d.x, y, d.z⟩]) := by
  have e : ∀ d : Tri, (l ++ [d]).length = l.length + 1 := by simp
  unfold OwnT at h ⊢
  rw [e] at h ⊢
  have := (h.stored (l.length * 3 + 1) (.int .i64 y)).1
  rwa [tvs_set1] at this
theorem OwnT.set2 {w : World} {base g uc : Nat} {l : List Tri} {d : Tri} (h : OwnT w base (.slice (some ⟨g, 0, none⟩) (l.length + 1) uc) (l ++ [d])) (z : Int) :
    OwnT (w.setCell ⟨g, l.length * 3 + 2, none⟩ (.int .i64 z)) base (.slice (some ⟨g, 0, none⟩) (l.length + 1) uc) (l ++ [⟨d.x, d.y, z⟩]) := by
  have e : ∀ d : Tri, (l ++ [d]).length = l.length + 1 := by simp
  unfold OwnT at h ⊢
  rw [e] at h ⊢
  have := (h.stored (l.length * 3 + 2) (.int .i64 z)).1
  rwa [tvs_set2] at this
theorem OwnT.app {w : World} {base : Nat} {v : Value} {l : List Tri} {d : Tri} (h : w.ownsRow base 108 3 v (l.length + 1) (tvs l ++ [.int .i64 d.x, .int .i64 d.y, .int .i64 d.z])) : OwnT w base v (l ++ [d]) := by
  unfold OwnT
  rw [List.length_append, tvs_last]
  exact h
theorem cell_three_new {w : World} {u v x : Value} {T : TypeId} {m : Nat} (hm : w.heap.size = m) : ∀ j y, [u, v, x][j]? = some y → (w.alloc (.cells #[u, v, x] T)).cell? ((⟨m, 0, none⟩ : Addr).add j) = some y := by
  subst hm
  intro j y h
  match j with
  | 0 => simp at h; subst h; simp [Addr.add]
  | 1 => simp at h; subst h; simp [Addr.add]
  | 2 => simp at h; subst h; simp [Addr.add]
  | j + 3 => simp at h
theorem three_cell1 {x y z : Int} : ∀ u ∈ [Value.int .i64 x, .int .i64 y, .int .i64 z], u.oneCell' = true := by intro u hu; simp at hu; rcases hu with rfl | rfl | rfl <;> rfl
theorem below_dev {W W2 w1 : World} {base nq : Nat} {v : Value} {l : List Tri} {o : Obj} (hW : Below W.heap.size W W2) (h : OwnT W2 base v l) (hb : W.heap.size ≤ base) (hg : ((W2.drewN nq).alloc o).grownBy w1 v.ownBlock) : Below W.heap.size W w1 :=
  ((bdrewN hW).alloc hW.size _).grown hg (by have := hW.size; simp; omega) (fun k hk => by have := (World.ownsRow.lt h k hk).1; omega)
theorem OwnT.below {w w0 : World} {base g uc n j : Nat} {l : List Tri} {x : Value} (hB : Below w0.heap.size w0 w) (h : OwnT w base (.slice (some ⟨g, 0, none⟩) n uc) l) (hb : w0.heap.size ≤ base) : Below w0.heap.size w0 (w.setCell ⟨g, j, none⟩ x) :=
  hB.setCell (p := ⟨g, j, none⟩) (Nat.le_trans hb (World.ownsRow.lt h g rfl).1) _
theorem bxD (w : World) (A B : Array Value) (t u : TypeId) : ((w.alloc (.cells A t)).alloc (.cells B u)).heap[w.heap.size]? = some (.cells A t (0, 0)) := by
  have ha := heap_alloc_new w (.cells A t)
  exact (Below.heap_alloc _ _ _ (Array.getElem?_eq_some_iff.1 ha).1).trans ha
/-- What Deviations answers. -/
def DevP (m : Nat) (p : Nat → St) (n : Nat) (r : Nat → Rd) (w : World) (e : Ending) (w' : World) : Prop :=
  ∃ v l c, e = .returned (.tuple #[v, .int .i64 c]) ∧ (recB m p n r = true ∧ c = 0 ∧ l = devL p r n ∨ recB m p n r = false ∧ c = 1 ∧ l = []) ∧ RowD w' v l ∧ Below w.heap.size w w'
theorem rec_step {m : Nat} {p : Nat → St} {n : Nat} {r : Nat → Rd} (h : recB m p n r = true) : n ≤ 2000 ∧ 1 ≤ m ∧ m ≤ 16 ∧ ∀ k, k < n → 0 ≤ (r k).s ∧ (r k).s < m := by
  obtain ⟨h1, h2, h3⟩ := recB_iff.1 h
  obtain ⟨hm1, hm2⟩ := progB_one h1
  refine ⟨h2, hm1, hm2, fun k hk => ?_⟩
  have := rec_bd hm1 (k := k + 1) (fun j hj => h3 j (by omega))
  have e1 : loS r (k + 1) = (r k).s := rfl
  rw [e1] at this
  omega
set_option maxRecDepth 20000 in
set_option maxHeartbeats 4000000 in
theorem dev_any (u : Value) (m : Nat) (p : Nat → St) (v : Value) (n : Nat) (r : Nat → Rd) (w : World) (hp : RowP w u m p) (hr : RowR w v n r) :
    Calls Tryz.prog 134 #[u, v] w (DevP m p n r w) := by
  have HK := hid (fun w1 (g : Below w.heap.size w w1) => hr.keep g)
  have HQ := hid (fun w1 (g : Below w.heap.size w w1) => (show RowP w1 u m p from RowT.keep hp g))
  have HP := hid hp
  have HR := hid hr
  have hnm := hr.most
  have hmm := RowT.most hp
  unfold maxLen at hnm hmm
  obtain ⟨pa, pc, rfl⟩ := RowT.shape hp
  obtain ⟨va, vc, rfl⟩ := hr.shape
  clear hp hr
  obtain ⟨i0, hi, hz0, hz1, hz2⟩ := info_parts infoT
  cases hrec : recB m p n r
  · have HREC := hid hrec
    go_enter Tryz.func134, Tryz.ntmps134
    go_wp2_with (go_at_call 41; refine (vrec_any _ _ _ _ _ _ _ HP.out HR.out).mono ?_; rintro e w1 ⟨rfl, hb⟩; rw [hrec]; have HB := hid hb; clear hb)
    refine bodyPost_ret (v := .tuple #[.slice none 0 0, .int .i64 1]) (by simp [results, Tryz.results134, go_sem]) rfl ?_
    exact ⟨_, _, _, rfl, .inr ⟨HREC.out, rfl, rfl⟩, OwnT.row (World.ownsRow_nil w1 0 _ _), HB.out⟩
  obtain ⟨hn, hm1, hm16, hst⟩ := rec_step hrec
  have HREC := hid hrec
  have HST := hid hst
  clear hst
  go_enter Tryz.func134, Tryz.ntmps134
  go_wp2_with (go_at_call 41; refine (vrec_any _ _ _ _ _ _ _ HP.out HR.out).mono ?_; rintro e w1 ⟨rfl, hb⟩; rw [hrec]; have HB := hid hb; clear hb)
  clear hrec
  go_loopw [6, 17] (fun v t wr => ∃ k : Nat, k ≤ n ∧ t = .int .i64 (k : Int) ∧ Hid (OwnT wr w.heap.size v (devL p r k)) ∧ Hid (Below w.heap.size w wr)) (fun _ t _ => n - (intOf t).toNat)
  case atStart => exact ⟨0, Nat.zero_le _, rfl, World.ownsRow_nil _ _ _ _, HB⟩
  case round =>
    obtain ⟨k, hk, rfl, hrow, hB⟩ := hrel
    by_cases hlt : k < n
    · have hlt' : (k : Int) < n := by omega
      obtain ⟨a', b', o', cap', hv, _, _, ha', hcell⟩ := HK.out _ hB.out
      injection hv with hv1 hv2 hv3
      subst hv1 hv3
      rcases ha' with h0 | rfl
      · omega
      obtain ⟨c0, c1, c2, c3⟩ := hcell k hlt
      obtain ⟨hs0, hs1⟩ := HST.out k hlt
      obtain ⟨x, hX⟩ : ∃ x, x = r k := ⟨_, rfl⟩
      rw [← hX] at c0 c1 c2 c3 hs0 hs1
      have HX := hid hX
      have HC := hid hcell
      clear hcell hX hv2
      obtain ⟨xs, xt, xc, xb⟩ := x
      simp only at c0 c1 c2 c3 hs0 hs1
      obtain ⟨q, rfl⟩ : ∃ q : Nat, xs = q := ⟨xs.toNat, by omega⟩
      have hq : q < m := by omega
      have HB1 := hid (hB.out.alloc hB.out.size (.cells #[.int .i64 q, .int .i64 xt, .int .i64 xc, .int .i64 xb] 56))
      obtain ⟨a2, b2, o2, cap2, hv, _, _, ha2, hcell2⟩ := HQ.out _ HB1.out
      injection hv with hv1 hv2 hv3
      subst hv1 hv3
      rcases ha2 with h0 | rfl
      · omega
      obtain ⟨d0, d1, d2⟩ := hcell2 q hq
      have HPQ := hid (show (p q).k = (p q).k ∧ (p q).s = (p q).s from ⟨rfl, rfl⟩)
      have HCB := hid (show coldB p ⟨q, xt, xc, xb⟩ = (decide ((p q).k = 3) && decide (xt < (p q).s)) from rfl)
      rw [HX.out] at HCB
      obtain ⟨y, hY⟩ : ∃ y, y = p q := ⟨_, rfl⟩
      simp only [← hY] at d0 d1 d2 HCB
      obtain ⟨yk, ys, yn⟩ := y
      simp only at d0 d1 d2
      clear hcell2 hv2 hY HPQ
      have HCB := hid (show coldB p (r k) = (decide (yk = 3) && decide (xt < ys)) from HCB.out)
      have HB2 := hid (HB1.out.alloc HB1.out.size (.cells #[.int .i64 yk, .int .i64 ys, .int .i64 yn] 105))
      have HO2 := hid (World.ownsRow.alloc (World.ownsRow.alloc hrow.out (.cells #[.int .i64 q, .int .i64 xt, .int .i64 xc, .int .i64 xb] 56)) (.cells #[.int .i64 yk, .int .i64 ys, .int .i64 yn] 105))
      have HLT := hid hlt
      clear hlt
      by_cases hc1 : yk = 3
      case neg =>
        have g1 : (yk != 3) = true := by simpa using hc1
        have HN : Hid (OwnT ((wr.alloc (.cells #[.int .i64 q, .int .i64 xt, .int .i64 xc, .int .i64 xb] 56)).alloc (.cells #[.int .i64 yk, .int .i64 ys, .int .i64 yn] 105)) w.heap.size u6 (devL p r (k + 1))) := by
          rw [dev_no (by rw [HCB.out, decide_eq_false hc1]; rfl)]; exact HO2.out
        go_wp2
        go_roundw
        case rel => exact ⟨k + 1, by have := HLT.out; omega, by go_num, HN, HB2⟩
        case measure => have := HLT.out; simp [intOf]; omega
      subst hc1
      by_cases hc2 : xt < ys
      case neg =>
        have g1 : ys ≤ xt := by omega
        have HN : Hid (OwnT ((wr.alloc (.cells #[.int .i64 q, .int .i64 xt, .int .i64 xc, .int .i64 xb] 56)).alloc (.cells #[.int .i64 3, .int .i64 ys, .int .i64 yn] 105)) w.heap.size u6 (devL p r (k + 1))) := by
          rw [dev_no (by rw [HCB.out, decide_eq_false hc2, Bool.and_false])]; exact HO2.out
        go_wp2
        go_roundw
        case rel => exact ⟨k + 1, by have := HLT.out; omega, by go_num, HN, HB2⟩
        case measure => have := HLT.out; simp [intOf]; omega
      have HCT := hid (show coldB p (r k) = true by rw [HCB.out, decide_eq_true hc2]; rfl)
      have HXT := hid (show (r k).t = xt by rw [← HX.out])
      have HFEW := hid (dev_ok p r k).few
      rcases last_or (devL p r k) with hl | ⟨l0, d, hl⟩
      · have HE := hid (dev_first HCT.out hl)
        rw [HXT.out] at HE
        obtain ⟨ua, uc, hu⟩ := ownT_shape hrow.out
        rw [hl] at hu
        simp only [List.length_nil] at hu
        have HO3 : Hid (OwnT ((wr.alloc (.cells #[.int .i64 q, .int .i64 xt, .int .i64 xc, .int .i64 xb] 56)).alloc (.cells #[.int .i64 3, .int .i64 ys, .int .i64 yn] 105)) w.heap.size (.slice ua ([] : List Tri).length uc) []) := by
          have h := HO2.out
          rw [hl, hu] at h
          exact h
        subst hu
        clear hl
        go_wp2
        go_quiet (fail)
        go_wp2_with (at_builtin; refine wpList_append_own _ rfl _ _ 50 rfl w.heap.size 108 i0 (.agg #[.int .i64 0, .int .i64 0, .int .i64 0]) 3 24 Tryz.underlying50 hi hz0 hz1 hz2 rfl (by decide) _ _ _ rfl (World.ownsRow.alloc HO3.out _) ⟨wr.heap.size + 1 + 1, 0, none⟩ 1 1 [.int .i64 k, .int .i64 ((k : Int) + 1), .int .i64 xt] rfl rfl (cell_three_new (by simp)) three_cell1 (by unfold maxLen; have := HFEW.out; simp only [List.length_nil] at *; omega) (by have := HFEW.out; simp only [List.length_nil] at *; omega) (by have := HB2.out.size; simp at this ⊢; omega) ?_; intro v1 w3 hown3 hgrow3 _)
        have HB3 := hid (below_dev HB2.out HO3.out (Nat.le_refl _) hgrow3)
        have HR3 : Hid (OwnT w3 w.heap.size v1 (devL p r (k + 1))) := by rw [HE.out]; exact OwnT.app (l := []) (d := ⟨k, (k : Int) + 1, xt⟩) hown3
        clear hown3 hgrow3
        go_roundw
        case rel => exact ⟨k + 1, by have := HLT.out; omega, by go_num, HR3, HB3⟩
        case measure => have := HLT.out; simp [intOf]; omega
      obtain ⟨dx, dy, dz⟩ := d
      obtain ⟨g, uc, hu, _⟩ := ownT_some (l := l0) (d := ⟨dx, dy, dz⟩) (by have h := hrow.out; rw [hl] at h; exact h)
      have HO3 : Hid (OwnT ((wr.alloc (.cells #[.int .i64 q, .int .i64 xt, .int .i64 xc, .int .i64 xb] 56)).alloc (.cells #[.int .i64 3, .int .i64 ys, .int .i64 yn] 105)) w.heap.size (.slice (some ⟨g, 0, none⟩) (l0.length + 1) uc) (l0 ++ [⟨dx, dy, dz⟩])) := by
        have h := HO2.out
        rw [hl, hu] at h
        exact h
      obtain ⟨e1, e2, e3, e4⟩ := HO3.out.last
      simp only at e1 e2
      have HFEW := hid (show l0.length + 1 ≤ k by have := HFEW.out; rw [hl] at this; simpa using this)
      have HL := hid hl
      subst hu
      clear hl
      obtain ⟨M, hM⟩ : ∃ M, M = l0.length := ⟨_, rfl⟩
      rw [← hM] at e1 e2 e3 e4 HFEW
      have HO4 : Hid (World.ownsRow ((wr.alloc (.cells #[.int .i64 q, .int .i64 xt, .int .i64 xc, .int .i64 xb] 56)).alloc (.cells #[.int .i64 3, .int .i64 ys, .int .i64 yn] 105)) w.heap.size 108 3 (.slice (some ⟨g, 0, none⟩) (M + 1) uc) (M + 1) (tvs (l0 ++ [⟨dx, dy, dz⟩]))) := by
        have h := HO3.out
        unfold OwnT at h
        rw [List.length_append, ← hM] at h
        exact h
      have hMk := HFEW.out
      have hMi : (M : Int) < (M : Int) + 1 := by omega
      rw [← hM]
      by_cases h1 : dy = (k : Int)
      case neg =>
        have HE := hid (dev_next HCT.out HL.out (fun h => h1 h.1))
        rw [HXT.out] at HE
        have HM := hid hM
        clear hM
        have g2 : (dy == (k : Int)) = false := by simpa using h1
        go_wp2
        go_quiet (fail)
        go_wp2_with (at_builtin; refine wpList_append_own _ rfl _ _ 50 rfl w.heap.size 108 i0 (.agg #[.int .i64 0, .int .i64 0, .int .i64 0]) 3 24 Tryz.underlying50 hi hz0 hz1 hz2 rfl (by decide) _ _ _ rfl (World.ownsRow.alloc HO4.out _) ⟨wr.heap.size + 1 + 1, 0, none⟩ 1 1 [.int .i64 k, .int .i64 ((k : Int) + 1), .int .i64 xt] rfl rfl (cell_three_new (by simp)) three_cell1 (by have := HFEW.out; unfold maxLen; omega) (by have := HFEW.out; omega) (by have := HB2.out.size; simp at this ⊢; omega) ?_; intro v1 w3 hown3 hgrow3 _)
        have HB3 := hid (below_dev HB2.out (l := l0 ++ [⟨dx, dy, dz⟩]) (by rw [← HM.out] at HO3; exact HO3.out) (Nat.le_refl _) hgrow3)
        have HR3 : Hid (OwnT w3 w.heap.size v1 (devL p r (k + 1))) := by rw [HE.out]; exact OwnT.app (d := ⟨_, _, _⟩) (by rw [List.length_append, ← HM.out]; exact hown3)
        clear hown3 hgrow3
        go_roundw
        case rel => exact ⟨k + 1, by have := HLT.out; omega, by go_num, HR3, HB3⟩
        case measure => have := HLT.out; simp [intOf]; omega
      obtain ⟨j, rfl⟩ : ∃ j, k = j + 1 := ⟨k - 1, by omega⟩
      obtain ⟨f0, _, _, _⟩ := (HC.out j (by have := HLT.out; omega)).keep (((Below.refl wr.heap.size wr).alloc (Nat.le_refl _) (.cells #[.int .i64 q, .int .i64 xt, .int .i64 xc, .int .i64 xb] 56)).alloc (by simp) (.cells #[.int .i64 3, .int .i64 ys, .int .i64 yn] 105))
      have hj1 : (j : Int) + 1 < n := by have := HLT.out; omega
      have hj2 : (j : Int) < n := by omega
      have hj3 : IntKind.i64.wrap (j : Int) = (j : Int) := IntWalk.i64_in _ ⟨by omega, by omega⟩
      have hjM : M ≤ j := by omega
      clear hlt' hMk
      by_cases h2 : (r j).s = q
      case neg =>
        have HE := hid (dev_next HCT.out HL.out (fun h => h2 (by rw [Nat.add_sub_cancel] at h; rw [h.2, ← HX.out])))
        rw [HXT.out] at HE
        have HM := hid hM
        clear hM
        have g3 : ((r j).s == (q : Int)) = false := by simpa using h2
        generalize (r j).s = s0 at f0 g3
        have g2 : (dy == ((j : Int) + 1)) = true := by rw [h1]; simp
        have hf : dy = (j : Int) + 1 := by rw [h1]; simp
        clear h1 h2
        go_wp2
        go_quiet (fail)
        go_wp2_with (at_builtin; refine wpList_append_own _ rfl _ _ 50 rfl w.heap.size 108 i0 (.agg #[.int .i64 0, .int .i64 0, .int .i64 0]) 3 24 Tryz.underlying50 hi hz0 hz1 hz2 rfl (by decide) _ _ _ rfl (World.ownsRow.alloc HO4.out _) ⟨wr.heap.size + 1 + 1, 0, none⟩ 1 1 [.int .i64 ((j : Int) + 1), .int .i64 ((j : Int) + 1 + 1), .int .i64 xt] rfl rfl (cell_three_new (by simp)) three_cell1 (by have := HFEW.out; unfold maxLen; omega) (by have := HFEW.out; omega) (by have := HB2.out.size; simp at this ⊢; omega) ?_; intro v1 w3 hown3 hgrow3 _)
        have HB3 := hid (below_dev HB2.out (l := l0 ++ [⟨dx, dy, dz⟩]) (by rw [← HM.out] at HO3; exact HO3.out) (Nat.le_refl _) hgrow3)
        have HR3 : Hid (OwnT w3 w.heap.size v1 (devL p r (j + 1 + 1))) := by rw [HE.out]; exact OwnT.app (d := ⟨_, _, _⟩) (by rw [List.length_append, ← HM.out]; exact hown3)
        clear hown3 hgrow3
        go_roundw
        case rel => exact ⟨j + 1 + 1, by have := HLT.out; omega, by go_num, HR3, HB3⟩
        case measure => have := HLT.out; simp [intOf]; omega
      have HE := hid (dev_more HCT.out HL.out h1 (by rw [Nat.add_sub_cancel, h2, ← HX.out]))
      rw [HXT.out] at HE
      have hgw : g ≠ wr.heap.size := by have := (World.ownsRow.lt hrow.out g rfl).2; omega
      have HS : ∀ i W3, (((wr.alloc (.cells #[.int .i64 q, .int .i64 xt, .int .i64 xc, .int .i64 xb] 56)).alloc (.cells #[.int .i64 3, .int .i64 ys, .int .i64 yn] 105)).drewN i).setCell ⟨g, M * 3 + 1, none⟩ (.int .i64 ((j : Int) + 1 + 1)) = W3 → W3.cell? ⟨wr.heap.size, 1, none⟩ = some (.int .i64 xt) ∧ W3.cell? ⟨g, M * 3 + 2, none⟩ = some (.int .i64 dz) ∧ W3.frozen? ⟨g, M * 3 + 2, none⟩ = false ∧ ∀ z, min dz xt = z → Hid (OwnT (W3.setCell ⟨g, M * 3 + 2, none⟩ (.int .i64 z)) w.heap.size (.slice (some ⟨g, 0, none⟩) (M + 1) uc) (devL p r (j + 1 + 1))) ∧ Hid (Below w.heap.size w (W3.setCell ⟨g, M * 3 + 2, none⟩ (.int .i64 z))) := by
        rintro i W3 rfl
        have h3 : OwnT (((wr.alloc (.cells #[.int .i64 q, .int .i64 xt, .int .i64 xc, .int .i64 xb] 56)).alloc (.cells #[.int .i64 3, .int .i64 ys, .int .i64 yn] 105)).drewN i) w.heap.size (.slice (some ⟨g, 0, none⟩) (l0.length + 1) uc) (l0 ++ [⟨dx, dy, dz⟩]) := HO3.out
        have q1 := h3.set1 ((j : Int) + 1 + 1)
        obtain ⟨_, k2, _, k4⟩ := q1.last
        rw [← hM] at k2 k4
        refine ⟨?_, k2, k4, fun z hz => ?_⟩
        · have hh := heap_setCell_other (((wr.alloc (.cells #[.int .i64 q, .int .i64 xt, .int .i64 xc, .int .i64 xb] 56)).alloc (.cells #[.int .i64 3, .int .i64 ys, .int .i64 yn] 105)).drewN i) ⟨g, M * 3 + 1, none⟩ wr.heap.size (.int .i64 ((j : Int) + 1 + 1)) (fun e => hgw e.symm)
          rw [World.cell?_of_block hh]
          exact cell_of_row _ _ 1 _ _ _ (bxD wr _ _ _ _)
        · have q2 := q1.set2 z
          rw [← hM] at q2
          refine ⟨?_, ?_⟩
          · show OwnT _ _ _ _
            rw [HE.out]
            simp only [hz]
            exact q2
          · have q3 := OwnT.below (j := M * 3 + 2) (x := .int .i64 z) (OwnT.below (bdrewN HB2.out) h3 (Nat.le_refl _)) q1 (Nat.le_refl _)
            rw [← hM] at q3
            exact q3
      have HS := hid HS
      have HM := hid hM
      clear hM
      rw [h2] at f0
      have g2 : (dy == ((j : Int) + 1)) = true := by rw [h1]; simp
      have hf : dy = (j : Int) + 1 := by rw [h1]; simp
      clear h1 h2
      subst hf
      rcases (show (dz ≤ xt ∧ min dz xt = dz) ∨ (xt < dz ∧ min dz xt = xt) by omega) with ⟨hxy, hmn⟩ | ⟨hxy, hmn⟩
      · have HMN := hid hmn
        clear hmn
        go_wp2
        go_quiet (fail)
        go_wp2
        generalize hW : World.setCell _ _ _ = W3
        obtain ⟨k1, k2, k3, k4⟩ := HS.out _ _ hW
        obtain ⟨HS1, HS2⟩ := k4 _ HMN.out
        clear hW k4 HS
        go_region
        go_wp2
        go_roundw
        case rel => exact ⟨j + 1 + 1, by have := HLT.out; omega, by go_num, HS1, hid HS2.out.drew⟩
        case measure => have := HLT.out; simp [intOf]; omega
      · have HMN := hid hmn
        clear hmn
        go_wp2
        go_quiet (fail)
        go_wp2
        generalize hW : World.setCell _ _ _ = W3
        obtain ⟨k1, k2, k3, k4⟩ := HS.out _ _ hW
        obtain ⟨HS1, HS2⟩ := k4 _ HMN.out
        clear hW k4 HS
        go_region
        go_wp2
        go_roundw
        case rel => exact ⟨j + 1 + 1, by have := HLT.out; omega, by go_num, HS1, hid HS2.out.drew⟩
        case measure => have := HLT.out; simp [intOf]; omega
    · obtain rfl : k = n := by omega
      go_wp2
      refine bodyPost_ret (v := .tuple #[u6, .int .i64 0]) (by simp [results, Tryz.results134, go_sem]) rfl ?_
      exact ⟨_, _, _, rfl, .inl ⟨HREC.out, rfl, rfl⟩, hrow.out.row, hB.out⟩
end Go.Proofs.YtihbjimnjhfpeaaGreat.Rt

/- Walks of retort's before (counted), vented and Vented: contracts. -/
namespace Go.Proofs.YtihbjimnjhfpeaaGreat.Rt
open Go.RowKit

/-- How many of the first n readings are of earlier steps. -/
def befN (r : Nat → Rd) (st : Int) : Nat → Nat
  | 0 => 0
  | k + 1 => if (r k).s < st then befN r st k + 1 else befN r st k
theorem befN_low {r : Nat → Rd} {st : Int} : ∀ {k : Nat}, (∀ j, j < k → (r j).s < st) → befN r st k = k
  | 0, _ => rfl
  | k + 1, h => by rw [befN, if_pos (h k (by omega)), befN_low fun j hj => h j (by omega)]
theorem befN_mid {r : Nat → Rd} {st : Int} {q : Nat} : ∀ {k : Nat}, q ≤ k → (∀ j, j < q → (r j).s < st) → (∀ j, q ≤ j → j < k → st ≤ (r j).s) → befN r st k = q
  | 0, h, _, _ => by simp only [befN]; omega
  | k + 1, h, h1, h2 => by
    rcases Nat.lt_or_ge k q with hq | hq
    · obtain rfl : q = k + 1 := by omega
      exact befN_low h1
    · have := h2 k hq (by omega)
      rw [befN, if_neg (by omega)]
      exact befN_mid hq h1 fun j hj hj2 => h2 j hj (by omega)
theorem bef_det {n : Nat} {r : Nat → Rd} {st : Int} {q : Nat} (hm : ∀ i j, i ≤ j → j < n → (r i).s ≤ (r j).s) (h : FoundB n (fun m => decide (st ≤ (r m).s)) q) : befN r st n = q :=
  befN_mid h.1 (fun j hj => found_low hm h j hj) (fun j hj hj2 => found_high hm h j hj hj2)
theorem bef_found {n : Nat} {r : Nat → Rd} {st : Int} (hm : ∀ i j, i ≤ j → j < n → (r i).s ≤ (r j).s) : FoundB n (fun m => decide (st ≤ (r m).s)) (befN r st n) := by
  have hex : ∀ k, k ≤ n → ∃ q, q ≤ k ∧ (∀ j, j < q → (r j).s < st) ∧ (∀ j, q ≤ j → j < k → st ≤ (r j).s) := by
    intro k
    induction k with
    | zero => intro _; exact ⟨0, Nat.le_refl _, fun j h => absurd h (Nat.not_lt_zero j), fun j _ h => absurd h (Nat.not_lt_zero j)⟩
    | succ k ih =>
      intro hk
      obtain ⟨q, h1, h2, h3⟩ := ih (by omega)
      by_cases hs : (r k).s < st
      · refine ⟨k + 1, Nat.le_refl _, fun j hj => ?_, fun j h h' => absurd h (Nat.not_le.2 h')⟩
        have := hm j k (by omega) (by omega)
        omega
      · refine ⟨q, by omega, h2, fun j hj hj2 => ?_⟩
        rcases Nat.lt_succ_iff_lt_or_eq.1 hj2 with h | h
        · exact h3 j hj h
        · subst h; omega
  obtain ⟨q, h1, h2, h3⟩ := hex n (Nat.le_refl _)
  rw [befN_mid h1 h2 h3]
  refine ⟨h1, ?_, ?_⟩
  · rcases Nat.eq_zero_or_pos q with h | h
    · exact .inl h
    · exact .inr (by have := h2 (q - 1) (by omega); simp; omega)
  · rcases Nat.lt_or_ge q n with h | h
    · exact .inr (by have := h3 q (Nat.le_refl _) h; simp; omega)
    · exact .inl (by omega)
theorem befc_any (v : Value) (n : Nat) (r : Nat → Rd) (st : Int) (w : World) (hr : RowR w v n r) (hn : n ≤ 4000000000000000000) (hm : ∀ i j, i ≤ j → j < n → (r i).s ≤ (r j).s) :
    Calls Tryz.prog 156 #[v, .int .i64 st] w fun e w' => e = .returned (.int .i64 (befN r st n : Int)) ∧ Below w.heap.size w w' := by
  refine (before_any v n r st w hr hn).mono ?_
  rintro e w' ⟨q, rfl, hf, hb⟩
  exact ⟨by rw [bef_det hm hf], hb⟩
/-- A part of a record. -/
theorem rowR_sub {w : World} {b o n vc q1 q2 : Nat} {r : Nat → Rd} (h : RowR w (.slice (some ⟨b, o, none⟩) n vc) n r) (h1 : q1 ≤ q2) (h2 : q2 ≤ n) (h3 : 0 < n) : RowR w (.slice (some ⟨b, o + q1 * 4, none⟩) (q2 - q1) (vc - q1)) (q2 - q1) fun j => r (q1 + j) := by
  obtain ⟨a', b', o', cap', hv, g1, g2, g3, g4⟩ := h
  injection hv with hv1 hv2 hv3
  subst hv3
  rcases g3 with h0 | h0
  · omega
  · rw [← hv1] at h0
    cases h0
    refine ⟨_, b, o + q1 * 4, vc - q1, rfl, by omega, by omega, .inr rfl, fun k hk => ?_⟩
    have := g4 (q1 + k) (by omega)
    rwa [show o + (q1 + k) * 4 = o + q1 * 4 + k * 4 by omega] at this
set_option maxRecDepth 20000 in
set_option maxHeartbeats 4000000 in
theorem vented_none (k s t : Int) (sa : Option Addr) (sc : Nat) (w : World) :
    Calls Tryz.prog 155 #[.agg #[.int .i64 k, .int .i64 s, .int .i64 t], .slice sa 0 sc] w fun e w' => e = .returned (.bool false) ∧ Below w.heap.size w w' := by
  have HB := hid ((Below.refl w.heap.size w).alloc (Nat.le_refl _) (.cells #[.int .i64 k, .int .i64 s, .int .i64 t] 105))
  go_enter Tryz.func155, Tryz.ntmps155
  go_wp2
  go_quiet (fail)
  go_wp2
  go_ret
  exact ⟨rfl, bdrewN HB.out⟩
set_option maxRecDepth 20000 in
set_option maxHeartbeats 4000000 in
theorem vented_some (k s t : Int) (b o j sc : Nat) (r : Nat → Rd) (w : World) (hr : RowR w (.slice (some ⟨b, o, none⟩) (j + 1) sc) (j + 1) r) (hj : j ≤ 1000000) :
    Calls Tryz.prog 155 #[.agg #[.int .i64 k, .int .i64 s, .int .i64 t], .slice (some ⟨b, o, none⟩) (j + 1) sc] w fun e w' => e = .returned (.bool (decide (t ≤ (j : Int) + 1) && decide (s ≤ (r j).t))) ∧ Below w.heap.size w w' := by
  have HB := hid ((Below.refl w.heap.size w).alloc (Nat.le_refl _) (.cells #[.int .i64 k, .int .i64 s, .int .i64 t] 105))
  obtain ⟨a2, b2, o2, cap2, hv, _, _, ha2, hcell2⟩ := hr.keep ((Below.refl w.heap.size w).alloc (Nat.le_refl _) (.cells #[.int .i64 k, .int .i64 s, .int .i64 t] 105))
  injection hv with hv1 hv2 hv3
  rcases ha2 with h0 | h0
  · omega
  rw [← hv1] at h0
  cases h0
  obtain ⟨c0, c1, c2, c3⟩ := hcell2 j (by omega)
  clear hcell2 hv1 hv2 hv3 hr c0 c2 c3
  generalize (r j).t = x at c1
  have hj1 : (j : Int) < (j : Int) + 1 := by omega
  have hj2 : 0 < (j : Int) + 1 := by omega
  have hj3 : IntKind.i64.wrap (j : Int) = (j : Int) := IntWalk.i64_in _ ⟨by omega, by omega⟩
  by_cases h1 : t ≤ (j : Int) + 1
  · have hE := hid (show decide (s ≤ x) = (decide (t ≤ (j : Int) + 1) && decide (s ≤ x)) by rw [decide_eq_true h1]; rfl)
    go_enter Tryz.func155, Tryz.ntmps155
    go_wp2
    go_quiet (fail)
    go_wp2
    go_ret
    exact ⟨ret_bool hE.out, bdrewN HB.out⟩
  · have hE := hid (show false = (decide (t ≤ (j : Int) + 1) && decide (s ≤ x)) by rw [decide_eq_false h1]; rfl)
    have h1' : decide (t ≤ (j : Int) + 1) = false := decide_eq_false h1
    go_enter Tryz.func155, Tryz.ntmps155
    go_wp2
    go_quiet (fail)
    go_wp2
    go_ret
    exact ⟨ret_bool hE.out, bdrewN HB.out⟩
theorem vented_len (k s t : Int) (b o j len sc : Nat) (r : Nat → Rd) (w : World) (hl : len = j + 1) (hr : RowR w (.slice (some ⟨b, o, none⟩) len sc) len r) (hj : j ≤ 1000000) :
    Calls Tryz.prog 155 #[.agg #[.int .i64 k, .int .i64 s, .int .i64 t], .slice (some ⟨b, o, none⟩) len sc] w fun e w' => e = .returned (.bool (decide (t ≤ (j : Int) + 1) && decide (s ≤ (r j).t))) ∧ Below w.heap.size w w' := by
  subst hl
  exact vented_some k s t b o j sc r w hr hj
end Go.Proofs.YtihbjimnjhfpeaaGreat.Rt
