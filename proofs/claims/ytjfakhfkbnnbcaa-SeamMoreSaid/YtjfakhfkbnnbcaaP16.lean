/- Texts of this seat, one behind the other. -/
import Derived.Test.YtjfakhfkbnnbcaaJn
import Derived.Test.YtjfakhfkbnnbcaaOp
/- SeamMore: plain facts. -/
namespace Go.Proofs.Ytjfakhfkbnnbcaa
open Go.RowKit

theorem unsafe_more {l : List Ck} {k : Nat} {t : Int} (h : UnsafeK l (upL k) t) : UnsafeK l (upL (k + 1)) t := by
  obtain ⟨hh, h1, h2⟩ := h
  exact ⟨hh, by rw [upL_succ]; exact List.mem_append_left _ h1, h2⟩
theorem loK_app (F G : List Ck) (t : Int) : loK2 (F ++ G) t = ((loK2 G t).or (loK2 F t)) := by
  unfold loK2
  rw [List.filter_append, List.getLast?_append]
theorem hiK_app (F G : List Ck) (t : Int) : hiK2 (F ++ G) t = ((hiK2 F t).or (hiK2 G t)) := by
  unfold hiK2
  rw [List.filter_append, List.head?_append]
theorem loK_one (c : Ck) (t : Int) : loK2 [c] t = if c.tk ≤ t then some c else none := by
  unfold loK2
  by_cases h : c.tk ≤ t <;> simp [h]
theorem hiK_one (c : Ck) (t : Int) : hiK2 [c] t = if t < c.tk then some c else none := by
  unfold hiK2
  by_cases h : t < c.tk <;> simp [h]
/-- A good check more keeps a tick safe. -/
theorem sfK_more {F1 F2 : List Ck} {c : Ck} {t : Int} (hc : c.gd = true) (h : sfK (F1 ++ F2) t = true) : sfK (F1 ++ c :: F2) t = true := by
  have e : F1 ++ c :: F2 = F1 ++ ([c] ++ F2) := rfl
  rw [e]
  rw [sfK_of] at h ⊢
  rw [loK_app, hiK_app] at h
  rw [loK_app, hiK_app, loK_app, hiK_app, loK_one, hiK_one]
  by_cases g : c.tk ≤ t
  · have g2 : ¬ t < c.tk := by omega
    rw [if_pos g, if_neg g2]
    cases a : loK2 F2 t <;> cases b : loK2 F1 t <;> cases d : hiK2 F1 t <;> cases f : hiK2 F2 t <;> simp [a, b, d, f, hc] at h ⊢ <;> simp_all
  · have g2 : t < c.tk := by omega
    rw [if_neg g, if_pos g2]
    cases a : loK2 F2 t <;> cases b : loK2 F1 t <;> cases d : hiK2 F1 t <;> cases f : hiK2 F2 t <;> simp [a, b, d, f, hc] at h ⊢ <;> simp_all
/-- A list without the sheet at an index. -/
def lessL (l : List Sh) (i : Nat) : List Sh := l.take i ++ l.drop (i + 1)
theorem lessL_eq {l : List Sh} {i : Nat} (hi : i < l.length) : l = l.take i ++ l[i] :: l.drop (i + 1) := by
  rw [← List.drop_eq_getElem_cons hi, List.take_append_drop]
theorem cksL_app (G : Sh → Bool) (l m : List Sh) : cksL G (l ++ m) = cksL G l ++ cksL G m := by simp [cksL]
theorem ofH_app (h : Int) (l m : List Ck) : ofH h (l ++ m) = ofH h l ++ ofH h m := by simp [ofH]
theorem ofH_cons (h : Int) (c : Ck) (L : List Ck) : ofH h (c :: L) = (if c.hd = h then [c] else []) ++ ofH h L := by
  unfold ofH
  by_cases g : c.hd = h <;> simp [g]
theorem sfB_more {G : Sh → Bool} {l : List Sh} {i : Nat} {H : List Int} {t : Int} (hi : i < l.length) (hg : G l[i] = true) (h : sfB (cksL G (lessL l i)) H t = true) : sfB (cksL G l) H t = true := by
  unfold sfB at h ⊢
  rw [List.all_eq_true] at h ⊢
  intro hh hm
  have h1 := h hh hm
  unfold lessL at h1
  rw [cksL_app, ofH_app] at h1
  rw [lessL_eq hi, cksL_app, ofH_app]
  have e : ofH hh (cksL G (l[i] :: l.drop (i + 1))) = (if l[i].hd = hh then [ckOf G l[i]] else []) ++ ofH hh (cksL G (l.drop (i + 1))) := ofH_cons hh (ckOf G l[i]) _
  rw [e]
  by_cases g : l[i].hd = hh
  · rw [if_pos g]
    exact sfK_more hg h1
  · rw [if_neg g]
    exact h1
theorem shs_of {l : List Sh} (h1 : l.length ≤ 500) (h2 : ∀ x ∈ l, shB x = true) (h3 : l.Pairwise fun x y => befB x y = true) : shsB l = true := by
  unfold shsB
  rw [Bool.and_eq_true]
  refine ⟨decide_eq_true h1, allB_iff.2 fun j hj => ?_⟩
  unfold oneS
  have e1 : l.getD j shD = l[j] := by simp [List.getD, hj]
  rw [e1, h2 _ (List.getElem_mem hj), Bool.true_and, Bool.or_eq_true]
  rcases j with _ | j
  · exact .inl rfl
  · right
    have e2 : l.getD (j + 1 - 1) shD = l[j]'(by omega) := by rw [Nat.add_sub_cancel]; simp [List.getD]; rw [List.getElem?_eq_getElem (by omega)]; rfl
    rw [e2]
    exact List.pairwise_iff_getElem.1 h3 j (j + 1) (by omega) hj (by omega)
theorem shs_pair {l : List Sh} (h : shsB l = true) : l.Pairwise fun x y => befB x y = true :=
  List.pairwise_iff_getElem.2 fun i j hi hj hij => bef_at h i j hi hj hij
theorem lessL_sub (l : List Sh) (i : Nat) : (lessL l i).Sublist l := by
  unfold lessL
  conv => rhs; rw [← List.take_append_drop i l]
  refine List.Sublist.append (List.Sublist.refl _) ?_
  rw [← List.drop_drop]
  exact List.drop_sublist 1 _
theorem shs_less {l : List Sh} {i : Nat} (h : shsB l = true) : shsB (lessL l i) = true := by
  have hs := lessL_sub l i
  have hl : l.length ≤ 500 := by
    unfold shsB at h
    simp only [Bool.and_eq_true, decide_eq_true_iff] at h
    exact h.1
  exact shs_of (Nat.le_trans hs.length_le hl) (fun x hx => shs_all h x (hs.subset hx)) ((shs_pair h).sublist hs)
theorem lessL_len {l : List Sh} {i : Nat} (hi : i < l.length) : (lessL l i).length + 1 = l.length := by
  unfold lessL
  rw [List.length_append, List.length_take, List.length_drop]
  omega
/-- Stretches that have all the ticks of others, together with those. -/
theorem uni_sub {u v a c : List Pr} (hc : Canon c) (h1 : Uni u (a ++ c)) (h2 : Uni v c) (hs : ∀ t, inP a t → inP c t) : u = v := by
  refine canon_uniq h1.can h2.can fun t => ?_
  rw [h1.same t, h2.same t, inP_app]
  exact ⟨fun h => h.elim (hs t) id, .inr⟩
end Go.Proofs.Ytjfakhfkbnnbcaa

/- Own rows of sheets, what an append of sheets reads, a list without one sheet. -/
namespace Go.Proofs.Ytjfakhfkbnnbcaa
open Go.RowKit

/-- Sheets, cell by cell. -/
def shvs : List Sh → List Value
  | [] => []
  | x :: l => .int .i64 x.tk :: .int .i64 x.hd :: .int .i64 x.bh :: .int .i64 x.ch :: .int .i64 x.ht :: .int .i64 x.ep :: .int .i64 x.bp :: .int .i64 x.wr :: .int .i64 x.th :: .int .i64 x.cs :: shvs l
theorem shvs_len : ∀ l : List Sh, (shvs l).length = l.length * 10
  | [] => rfl
  | x :: l => by simp only [shvs, List.length_cons, shvs_len l]; omega
theorem shvs_app : ∀ l m : List Sh, shvs (l ++ m) = shvs l ++ shvs m
  | [], m => rfl
  | x :: l, m => by simp only [shvs, List.cons_append, shvs_app l m]
theorem shvs_one : ∀ (l : List Sh), ∀ u ∈ shvs l, u.oneCell' = true
  | [], u, h => by cases h
  | x :: l, u, h => by
    simp only [shvs, List.mem_cons] at h
    rcases h with rfl | rfl | rfl | rfl | rfl | rfl | rfl | rfl | rfl | rfl | h
    all_goals first | rfl | exact shvs_one l u h
theorem shvs_at : ∀ (l : List Sh) (k : Nat) (h : k < l.length), (shvs l)[k * 10]? = some (.int .i64 l[k].tk) ∧ (shvs l)[k * 10 + 1]? = some (.int .i64 l[k].hd) ∧ (shvs l)[k * 10 + 2]? = some (.int .i64 l[k].bh) ∧ (shvs l)[k * 10 + 3]? = some (.int .i64 l[k].ch) ∧ (shvs l)[k * 10 + 4]? = some (.int .i64 l[k].ht) ∧ (shvs l)[k * 10 + 5]? = some (.int .i64 l[k].ep) ∧ (shvs l)[k * 10 + 6]? = some (.int .i64 l[k].bp) ∧ (shvs l)[k * 10 + 7]? = some (.int .i64 l[k].wr) ∧ (shvs l)[k * 10 + 8]? = some (.int .i64 l[k].th) ∧ (shvs l)[k * 10 + 9]? = some (.int .i64 l[k].cs)
  | x :: l, 0, _ => by simp [shvs]
  | x :: l, k + 1, h => by
    have ih := shvs_at l k (by simpa using h)
    have e : (k + 1) * 10 = k * 10 + 1 + 1 + 1 + 1 + 1 + 1 + 1 + 1 + 1 + 1 := by omega
    rw [e]
    simpa [shvs, Nat.add_assoc] using ih
theorem shvs_cells {w : World} {b : Nat} : ∀ (l : List Sh) (o : Nat), (∀ k (h : k < l.length), ShAt w b (o + k * 10) l[k]) → ∀ j u, (shvs l)[j]? = some u → w.cell? ⟨b, o + j, none⟩ = some u
  | [], _, _, j, u, h => by simp [shvs] at h
  | x :: l, o, hc, j, u, h => by
    have h0 := hc 0 (by simp)
    obtain ⟨c0, c1, c2, c3, c4, c5, c6, c7, c8, c9⟩ := h0
    simp only [Nat.zero_mul, Nat.add_zero, List.getElem_cons_zero] at c0 c1 c2 c3 c4 c5 c6 c7 c8 c9
    have ih := shvs_cells l (o + 10) (fun k hk => by
      have := hc (k + 1) (by simpa using hk)
      have e : o + (k + 1) * 10 = o + 10 + k * 10 := by omega
      rw [e] at this
      simpa using this)
    match j, h with
    | 0, h =>
      have e : Value.int .i64 x.tk = u := by simpa [shvs] using h
      rw [← e]
      exact c0
    | 1, h =>
      have e : Value.int .i64 x.hd = u := by simpa [shvs] using h
      rw [← e]
      exact c1
    | 2, h =>
      have e : Value.int .i64 x.bh = u := by simpa [shvs] using h
      rw [← e]
      exact c2
    | 3, h =>
      have e : Value.int .i64 x.ch = u := by simpa [shvs] using h
      rw [← e]
      exact c3
    | 4, h =>
      have e : Value.int .i64 x.ht = u := by simpa [shvs] using h
      rw [← e]
      exact c4
    | 5, h =>
      have e : Value.int .i64 x.ep = u := by simpa [shvs] using h
      rw [← e]
      exact c5
    | 6, h =>
      have e : Value.int .i64 x.bp = u := by simpa [shvs] using h
      rw [← e]
      exact c6
    | 7, h =>
      have e : Value.int .i64 x.wr = u := by simpa [shvs] using h
      rw [← e]
      exact c7
    | 8, h =>
      have e : Value.int .i64 x.th = u := by simpa [shvs] using h
      rw [← e]
      exact c8
    | 9, h =>
      have e : Value.int .i64 x.cs = u := by simpa [shvs] using h
      rw [← e]
      exact c9
    | j + 10, h =>
      have h2 : (shvs l)[j]? = some u := by simpa [shvs] using h
      have := ih j u h2
      have e : o + (j + 10) = o + 10 + j := by omega
      rw [e]
      exact this
def OwnH (w : World) (base : Nat) (v : Value) (l : List Sh) : Prop := w.ownsRow base 39 10 v l.length (shvs l)
theorem infoH : ∃ i, Try.prog.info? 39 = some i ∧ i.zero = some (.agg #[.int .i64 0, .int .i64 0, .int .i64 0, .int .i64 0, .int .i64 0, .int .i64 0, .int .i64 0, .int .i64 0, .int .i64 0, .int .i64 0]) ∧ i.size = 10 ∧ i.bytes = 80 := info_parts (by kernel_rfl)
theorem OwnH.row {w : World} {base : Nat} {v : Value} {l : List Sh} (h : OwnH w base v l) : RowH w v l := by
  rcases h.2 with ⟨rfl, h0⟩ | ⟨g, cap, cur, rfl, _, hg, hcap, hmx, hcs, ht⟩
  · have : l = [] := List.length_eq_zero_iff.1 h0
    subst this
    exact ⟨none, 0, 0, 0, rfl, Nat.le_refl _, by simp [maxLen], .inl rfl, fun k h => absurd h (Nat.not_lt_zero k)⟩
  · refine ⟨some ⟨g, 0, none⟩, g, 0, cap, rfl, hcap, hmx, .inr rfl, fun k hk => ?_⟩
    obtain ⟨h1, h2, h3, h4, h5, h6, h7, h8, h9, h10⟩ := shvs_at l k hk
    rw [← ht] at h1 h2 h3 h4 h5 h6 h7 h8 h9 h10
    rw [List.getElem?_take_of_lt (by omega)] at h1 h2 h3 h4 h5 h6 h7 h8 h9 h10
    simp only [Nat.zero_add]
    refine ⟨?_, ?_, ?_, ?_, ?_, ?_, ?_, ?_, ?_, ?_⟩ <;> rw [cell_of_row w g _ cur _ _ hg]
    · simpa using h1
    · simpa using h2
    · simpa using h3
    · simpa using h4
    · simpa using h5
    · simpa using h6
    · simpa using h7
    · simpa using h8
    · simpa using h9
    · simpa using h10
theorem RowH.beg {w : World} {a : Option Addr} {n cap q : Nat} {l : List Sh} (hr : RowH w (.slice a n cap) l) (hq : q ≤ n) :
    RowH w (.slice a q cap) (l.take q) ∧ ∀ W : World, (Instr.sliceAt 24 (.slice a n cap) none (some (.int .i64 (q : Int))) none).run Try.prog W = .ok (.slice a q cap) W := by
  obtain ⟨a', b, o, cap', hv, g1, g2, g3, g4⟩ := hr
  injection hv with hv1 hv2 hv3
  subst hv1 hv3
  have e : (l.take q).length = q := by rw [List.length_take]; omega
  refine ⟨⟨a, b, o, cap, by rw [e], by rw [e]; omega, by omega, ?_, fun k hk => ?_⟩, fun W => ?_⟩
  · rcases g3 with h0 | h0
    · exact .inl (by rw [h0]; simp)
    · exact .inr h0
  · rw [e] at hk
    have := g4 k (by omega)
    simpa using this
  · have h1 : (q : Int) ≤ (cap : Int) := by omega
    rcases g3 with h2 | rfl
    · have : n = 0 := by rw [h2] at hv2; simpa using hv2
      obtain rfl : q = 0 := by omega
      simp [go_sem, Try.underlying24]
    · simp [go_sem, Try.underlying24, h1]
theorem cellsOfSheet : (Try.prog.info? 39).map (·.size) = some 10 := by kernel_rfl
theorem RowH.back {w : World} {a : Option Addr} {n cap lo : Nat} {l : List Sh} (hr : RowH w (.slice a n cap) l) (h1 : lo ≤ n) (h0 : 0 < n) :
    ∃ ad, RowH w (.slice (some ad) (n - lo) (cap - lo)) (l.drop lo) ∧ ∀ W : World, (Instr.sliceAt 24 (.slice a n cap) (some (.int .i64 (lo : Int))) none none).run Try.prog W = .ok (.slice (some ad) (n - lo) (cap - lo)) W := by
  obtain ⟨a', b, o, cap', hv, g1, g2, g3, g4⟩ := hr
  injection hv with hv1 hv2 hv3
  subst hv1 hv3
  have e : (l.drop lo).length = n - lo := by rw [List.length_drop]; omega
  have e1 : (lo : Int) ≤ (n : Int) := by omega
  have e2 : (n : Int) ≤ (cap : Int) := by omega
  rcases g3 with h2 | rfl
  · exfalso; rw [h2] at hv2; simp at hv2; omega
  by_cases hc : lo = cap
  · refine ⟨⟨b, o, none⟩, ⟨_, b, o, cap - lo, by rw [e], by rw [e]; omega, by omega, .inr rfl, fun k hk => ?_⟩, fun W => ?_⟩
    · rw [e] at hk; omega
    · subst hc
      simp [go_sem, Try.underlying24, e1, e2]
  · refine ⟨⟨b, o + lo * 10, none⟩, ⟨_, b, o + lo * 10, cap - lo, by rw [e], by rw [e]; omega, by omega, .inr rfl, fun k hk => ?_⟩, fun W => ?_⟩
    · rw [e] at hk
      have := g4 (lo + k) (by omega)
      have e3 : o + (lo + k) * 10 = o + lo * 10 + k * 10 := by omega
      rw [e3] at this
      simpa using this
    · have q3 : ¬ cap = lo := by omega
      simp [go_sem, Try.underlying24, e1, q3]
end Go.Proofs.Ytjfakhfkbnnbcaa
