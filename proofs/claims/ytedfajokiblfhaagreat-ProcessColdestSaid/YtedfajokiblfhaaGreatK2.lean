/- Texts of this seat, one behind the other. -/
import Derived.Test.YtedfajokiblfhaaGreatA5
import Derived.Test.YtedfajokiblfhaaGreatD1
import Derived.Test.YtedfajokiblfhaaGreatA2
import Derived.Test.YtedfajokiblfhaaGreatD3
import Derived.Test.YtedfajokiblfhaaGreatQq
import Derived.Test.YtedfajokiblfhaaGreatD2
import Derived.Test.YtedfajokiblfhaaGreatA7
import Derived.Laws.EntriesVeiled
import Derived.Test.YtedfajokiblfhaaGreatA1
import Derived.Deep.QuietTactic
import Derived.Test.YtedfajokiblfhaaGreatA6
/- Lists of bodies: own ones and those that are read; an append at a step of a region that draws, in a fenced walk. -/
namespace Go.Proofs.YtedfajokiblfhaaGreat
open Go.RowKit Go.Shelf

/-- Where a body's temperatures lie. -/
structure Rw where
  b : Nat
  o : Nat
  c : Nat
def Rw.v (r : Rw) (q : Nat) : Value := .slice (some ⟨r.b, r.o, none⟩) q r.c
def bdvs (q : Nat) : List (Rw × Bd) → List Value
  | [] => []
  | y :: l => y.1.v q :: .bool y.2.2 :: bdvs q l
theorem bdvs_len (q : Nat) : ∀ l, (bdvs q l).length = l.length * 2
  | [] => rfl
  | y :: l => by simp only [bdvs, List.length_cons, bdvs_len q l]; omega
theorem bdvs_app (q : Nat) : ∀ l m, bdvs q (l ++ m) = bdvs q l ++ bdvs q m
  | [], m => rfl
  | y :: l, m => by simp only [bdvs, List.cons_append, bdvs_app q l m]
theorem bdvs_at (q : Nat) : ∀ (l : List (Rw × Bd)) (j : Nat) (h : j < l.length), (bdvs q l)[j * 2]? = some (l[j].1.v q) ∧ (bdvs q l)[j * 2 + 1]? = some (.bool l[j].2.2)
  | y :: l, 0, _ => by simp [bdvs]
  | y :: l, j + 1, h => by
    have ih := bdvs_at q l j (by simpa using h)
    have e : (j + 1) * 2 = j * 2 + 1 + 1 := by omega
    rw [e]
    simpa [bdvs] using ih
/-- A body's temperatures lie there. -/
structure RowAt (w : World) (q : Nat) (r : Rw) (T : List Int) : Prop where
  len : T.length = q
  at_ : ∀ j (h : j < T.length), w.cell? ⟨r.b, r.o + j, none⟩ = some (.int .i64 T[j])
  lt : r.b < w.heap.size
theorem RowAt.row {w : World} {q : Nat} {r : Rw} {T : List Int} (h : RowAt w q r T) (hq : q ≤ 1000) : RowI w (r.v q) T :=
  .inr ⟨r.b, r.o, r.c, by rw [h.len]; rfl, by rw [h.len]; unfold maxLen; omega, h.at_⟩
theorem RowAt.grow {w w' : World} {q : Nat} {r : Rw} {T : List Int} {row : Option Nat} (h : RowAt w q r T) (hg : w.grownBy w' row) (hne : row ≠ some r.b) : RowAt w' q r T :=
  ⟨h.len, fun j hj => (World.cell?_of_block (a := ⟨r.b, r.o + j, none⟩) (hg.block _ h.lt (fun e => hne e.symm))).trans (h.at_ j hj), Nat.lt_of_lt_of_le h.lt hg.size⟩
theorem RowAt.keep {w w' : World} {q : Nat} {r : Rw} {T : List Int} (h : RowAt w q r T) (hb : Below w.heap.size w w') : RowAt w' q r T :=
  ⟨h.len, fun j hj => keep_cell hb (h.at_ j hj), Nat.lt_of_lt_of_le h.lt hb.size⟩
theorem rowAt_of {w : World} {q uc : Nat} {ua : Option Addr} {T : List Int} (h : RowI w (.slice ua q uc) T) (hT : T.length = q) (h0 : 0 < q) : ∃ r : Rw, ua = some ⟨r.b, r.o, none⟩ ∧ .slice ua q uc = r.v q ∧ RowAt w q r T := by
  obtain ⟨b, o, cap, hv, hc⟩ := h.some (by omega)
  injection hv with e1 e2 e3
  subst e1 e3
  exact ⟨⟨b, o, uc⟩, rfl, rfl, hT, hc, World.block_lt_of_cell? _ ⟨b, o + 0, none⟩ (hc 0 (by omega))⟩
/-- A list of bodies of one's own. -/
structure Bods (w : World) (base : Nat) (v : Value) (q : Nat) (l : List (Rw × Bd)) : Prop where
  own : w.ownsRow base 67 2 v l.length (bdvs q l)
  row : ∀ k (h : k < l.length), RowAt w q l[k].1 l[k].2.1 ∧ v.ownBlock ≠ some l[k].1.b
theorem Bods.nil (w : World) (base q : Nat) : Bods w base (.slice none 0 0) q [] := ⟨World.ownsRow_nil _ _ _ _, fun _ h => absurd h (Nat.not_lt_zero _)⟩
theorem Bods.keep {w w' : World} {base q : Nat} {v : Value} {l : List (Rw × Bd)} (h : Bods w base v q l) (hb : Below w.heap.size w w') : Bods w' base v q l := by
  refine ⟨⟨h.own.1, ?_⟩, fun k hk => ⟨(h.row k hk).1.keep hb, (h.row k hk).2⟩⟩
  rcases h.own.2 with hn | ⟨g, cap, cur, rfl, h1, hg, rest⟩
  · exact .inl hn
  · exact .inr ⟨g, cap, cur, rfl, h1, (hb.block _ (Array.getElem?_eq_some_iff.1 hg).1).trans hg, rest⟩
/-- Turned where neither the list's block nor those of its rows lie. -/
theorem Bods.turn {w w' : World} {base q : Nat} {v : Value} {l : List (Rw × Bd)} {row : Option Nat} (h : Bods w base v q l) (hg : w.grownBy w' row) (hr : ∀ j, row = some j → (∀ k (hk : k < l.length), l[k].1.b ≠ j) ∧ v.ownBlock ≠ some j) : Bods w' base v q l := by
  refine ⟨h.own.kept hg ?_, fun k hk => ⟨(h.row k hk).1.grow hg (fun e => (hr _ e).1 k hk rfl), (h.row k hk).2⟩⟩
  cases hb : v.ownBlock with
  | none => exact .inl rfl
  | some j => exact .inr (fun e => (hr j e.symm).2 hb)
theorem Bods.app {W W' : World} {base q : Nat} {v v' : Value} {l : List (Rw × Bd)} {r : Rw} {x : Bd} (h : Bods W base v q l) (hown : W'.ownsRow base 67 2 v' (l.length + 1) (bdvs q l ++ [r.v q, .bool x.2])) (hg : W.grownBy W' v.ownBlock) (hw : v'.ownBlock = v.ownBlock ∨ v'.ownBlock = some W.heap.size)
    (hr : RowAt W q r x.1) (hne : v.ownBlock ≠ some r.b) : Bods W' base v' q (l ++ [(r, x)]) := by
  have key : ∀ (r' : Rw) (T : List Int), RowAt W q r' T → v.ownBlock ≠ some r'.b → RowAt W' q r' T ∧ v'.ownBlock ≠ some r'.b := fun r' T h1 h2 => by
    refine ⟨h1.grow hg h2, ?_⟩
    rcases hw with e | e
    · rw [e]; exact h2
    · rw [e]; intro e2; have := h1.lt; injection e2 with e3; omega
  refine ⟨by rw [List.length_append, bdvs_app]; exact hown, fun k hk => ?_⟩
  rw [List.length_append, List.length_singleton] at hk
  by_cases e : k < l.length
  · rw [List.getElem_append_left e]; exact key _ _ (h.row k e).1 (h.row k e).2
  · obtain rfl : k = l.length := by omega
    rw [List.getElem_append_right (Nat.le_refl _)]
    simp only [Nat.sub_self, List.getElem_singleton]
    exact key _ _ hr hne
theorem Bods.shape {w : World} {base q : Nat} {v : Value} {l : List (Rw × Bd)} (h : Bods w base v q l) : ∃ a c, v = .slice a l.length c := by
  rcases h.own.2 with ⟨rfl, h0⟩ | ⟨g, cap, cur, rfl, _⟩
  · exact ⟨_, _, by rw [h0]⟩
  · exact ⟨_, _, rfl⟩
/-- A list of bodies that is read. -/
def RowBd (w : World) (v : Value) (L : List Bd) : Prop := ∃ a b o cap, v = .slice a L.length cap ∧ L.length ≤ maxLen ∧ (L = [] ∨ a = some ⟨b, o, none⟩) ∧ ∀ k (h : k < L.length), ∃ (ua : Option Addr) (uc : Nat), w.cell? ⟨b, o + k * 2, none⟩ = some (.slice ua L[k].1.length uc) ∧ w.cell? ⟨b, o + k * 2 + 1, none⟩ = some (.bool L[k].2) ∧ RowI w (.slice ua L[k].1.length uc) L[k].1
theorem RowBd.keep {w w' : World} {v : Value} {L : List Bd} (h : RowBd w v L) (hb : Below w.heap.size w w') : RowBd w' v L := by
  obtain ⟨a, b, o, cap, h1, h2, h3, h4⟩ := h
  refine ⟨a, b, o, cap, h1, h2, h3, fun k hk => ?_⟩
  obtain ⟨ua, uc, g1, g2, g3⟩ := h4 k hk
  exact ⟨ua, uc, keep_cell hb g1, keep_cell hb g2, g3.keep hb⟩
theorem rowBd_nil (w : World) : RowBd w (.slice none 0 0) [] := ⟨none, 0, 0, 0, rfl, by simp [maxLen], .inl rfl, fun k h => absurd h (Nat.not_lt_zero _)⟩
theorem Bods.at_ {w : World} {base q : Nat} {a : Option Addr} {n c : Nat} {l : List (Rw × Bd)} (h : Bods w base (.slice a n c) q l) (h0 : 0 < l.length) : ∃ g, a = some ⟨g, 0, none⟩ ∧ base ≤ g ∧ g < w.heap.size ∧ ∀ k (hk : k < l.length), w.cell? ⟨g, k * 2, none⟩ = some (l[k].1.v q) ∧ w.cell? ⟨g, k * 2 + 1, none⟩ = some (.bool l[k].2.2) := by
  rcases h.own.2 with ⟨hn, hz⟩ | ⟨g, cap, cur, hv, hb, hg, hcap, hmx, hcs, ht⟩
  · omega
  · injection hv with e1 e2 e3
    refine ⟨g, e1, hb, lt_of_block hg, fun k hk => ?_⟩
    obtain ⟨h1, h2⟩ := bdvs_at q l k hk
    rw [← ht] at h1 h2
    rw [List.getElem?_take_of_lt (by omega)] at h1 h2
    refine ⟨?_, ?_⟩ <;> rw [cell_of_row w g _ cur _ _ hg]
    · simpa using h1
    · simpa using h2
theorem Bods.read {w : World} {base q : Nat} {v : Value} {l : List (Rw × Bd)} (h : Bods w base v q l) (hq : q ≤ 1000) (hl : l.length ≤ 1000000) : RowBd w v (l.map (·.2)) := by
  obtain ⟨a, c, rfl⟩ := h.shape
  rcases Nat.eq_zero_or_pos l.length with h0 | h0
  · have : l = [] := List.length_eq_zero_iff.1 h0
    subst this
    exact ⟨a, 0, 0, c, rfl, by simp [maxLen], .inl rfl, fun k h => absurd h (Nat.not_lt_zero _)⟩
  · obtain ⟨g, rfl, _, _, hc⟩ := h.at_ h0
    refine ⟨_, g, 0, c, by rw [List.length_map], by rw [List.length_map]; unfold maxLen; omega, .inr rfl, fun k hk => ?_⟩
    rw [List.length_map] at hk
    obtain ⟨c1, c2⟩ := hc k hk
    have hr := (h.row k hk).1
    simp only [List.getElem_map, Nat.zero_add]
    refine ⟨some ⟨l[k].1.b, l[k].1.o, none⟩, l[k].1.c, ?_, c2, ?_⟩
    · rw [c1, hr.len]; rfl
    · rw [hr.len]; exact hr.row hq
theorem infoBd : ∃ i, Tryz.prog.info? 67 = some i ∧ i.zero = some (.agg #[.slice none 0 0, .bool false]) ∧ i.size = 2 ∧ i.bytes = 32 := info_parts (by kernel_rfl)
theorem cellBd {w : World} {u v : Value} {T : TypeId} {m : Nat} (hm : w.heap.size = m) : ∀ j y, [u, v][j]? = some y → (w.alloc (.cells #[u, v] T)).cell? ((⟨m, 0, none⟩ : Addr).add j) = some y := by
  subst hm
  intro j y h
  match j with
  | 0 => simp at h; subst h; simp [Addr.add]
  | 1 => simp at h; subst h; simp [Addr.add]
  | j + 2 => simp at h
theorem oneBd {q : Nat} {r : Rw} {z : Bool} : ∀ u ∈ [r.v q, .bool z], u.oneCell' = true := by intro u hu; simp at hu; rcases hu with rfl | rfl <;> rfl
/-- An append at a step of a region that draws, fenced: where the grown row lies. -/
theorem stepIn_append_where {F : Fence} {n : Nat} {P : Program} {w : World} {ops : Array Oper} {o : Oper} {a : Act} {K : Act → World → Prop} {Q : Exit → Act → World → Prop} {E : Prop}
    (hg : o.guard = none) (s x : Operand) (t : TypeId) (hop : o.op = Op.call { callee := Callee.builtin Builtin.append, args := #[s, x], argTypes := #[t, t] })
    (base : Nat) (e : TypeId) (i : TypeInfo) (z : Value) (size bytes : Nat) (h1 : P.underlying t = some (.slice e)) (h2 : P.info? e = some i) (h3 : i.zero = some z) (h4 : i.size = size) (h5 : i.bytes = bytes) (h6 : z.cells.size = size) (h7 : 0 < size)
    (v : Value) (k : Nat) (xs : List Value) (hs : a.eval s = v) (hown : w.ownsRow base e size v k xs) (ad : Addr) (m c : Nat) (news : List Value) (hx : a.eval x = .slice (some ad) m c) (hn : news.length = m * size)
    (hc : ∀ j u, news[j]? = some u → w.cell? (ad.add j) = some u) (h1c : ∀ u ∈ news, u.oneCell' = true) (hm : 0 < m) (b1 : k + m ≤ maxLen) (b2 : (k + m) * bytes ≤ 140737488355328) (b3 : base ≤ w.heap.size)
    (hK : ∀ v' w', w'.ownsRow base e size v' (k + m) (xs ++ news) → w.grownBy w' v.ownBlock → (v'.ownBlock = v.ownBlock ∨ v'.ownBlock = some w.heap.size) → K (a.put o.dst v') w') :
    if Region.wanted o (yielded ops a.tmps) = true then Oper.wpIn F n P o a w K Q else E := by
  have hw : Region.wanted o (yielded ops a.tmps) = true := by simp [Region.wanted, hg]
  rw [if_pos hw]
  obtain ⟨v', w', hrun, r1, r2, r3⟩ := run_append_where (P := P) w base t o.type e i z size bytes h1 h2 h3 h4 h5 h6 h7 v k xs hown ad m c news hn hc h1c hm b1 b2 b3
  unfold Oper.wpIn
  refine ⟨by simp [Oper.about, hop, resolve, Target.leads, Sem.run_pure], ?_⟩
  rw [Oper.semAt_plain F _ _ (by rw [hop]; intro c hc'; cases hc')]
  simp only [execOp, hop, resolve, invoke, builtin, Sem.run_bind, Sem.run_pure, Result.andThen_ok, List.map_toArray, List.map_cons, List.map_nil, hs, hx, hrun]
  exact hK v' w' r1 r2 r3
end Go.Proofs.YtedfajokiblfhaaGreat

/- How many ticks in a constant bath it takes, in plain words. -/
namespace Go.Proofs.YtedfajokiblfhaaGreat

/-- The body behind n ticks in a constant bath, and its least temperature. -/
def stepN (c : Cn) (x : Bd) (b : Int) (n : Nat) : Bd := runS c x (List.replicate n b)
def coldN (c : Cn) (x : Bd) (b : Int) (n : Nat) : Int := minT (stepN c x b n).1
theorem stepN_zero (c : Cn) (x : Bd) (b : Int) : stepN c x b 0 = x := rfl
theorem stepN_succ (c : Cn) (x : Bd) (b : Int) (n : Nat) : stepN c x b (n + 1) = tickS c (stepN c x b n) b := by
  unfold stepN; rw [List.replicate_succ', runS_append]; rfl
theorem stepN_take (c : Cn) (x : Bd) (b : Int) {n k : Nat} (h : k ≤ n) : runS c x ((List.replicate n b).take k) = stepN c x b k := by
  unfold stepN; rw [List.take_replicate, Nat.min_eq_left h]
theorem stepN_warm {c : Cn} {x : Bd} {b : Int} (hc : c.Ok) (hx : Warm c x) (h1 : -50000 ≤ b) (h2 : b ≤ 200000) (n : Nat) : Warm c (stepN c x b n) :=
  hx.run hc (fun t ht => by obtain rfl := (List.mem_replicate.1 ht).2; exact ⟨h1, h2⟩)
/-- The first number, from n, that serves. -/
def firstN (P : Nat → Bool) : Nat → Nat → Option Nat
  | 0, _ => none
  | f + 1, n => if P n then some n else firstN P f (n + 1)
theorem firstN_some {P : Nat → Bool} {k : Nat} (hk : P k = true) : ∀ f n, n ≤ k → k < n + f → (∀ m, n ≤ m → m < k → P m = false) → firstN P f n = some k
  | 0, n, h1, h2, _ => by omega
  | f + 1, n, h1, h2, h3 => by
    unfold firstN
    by_cases e : n = k
    · subst e; rw [if_pos hk]
    · rw [if_neg (by rw [h3 n (Nat.le_refl _) (by omega)]; exact Bool.false_ne_true)]
      exact firstN_some hk f (n + 1) (by omega) (by omega) (fun m hm => h3 m (by omega))
theorem firstN_none {P : Nat → Bool} : ∀ f n, (∀ m, n ≤ m → m < n + f → P m = false) → firstN P f n = none
  | 0, _, _ => rfl
  | f + 1, n, h => by
    unfold firstN
    rw [if_neg (by rw [h n (Nat.le_refl _) (by omega)]; exact Bool.false_ne_true)]
    exact firstN_none f (n + 1) (fun m hm hm2 => h m (by omega) (by omega))
theorem firstN_spec {P : Nat → Bool} {k : Nat} : ∀ f n, firstN P f n = some k → n ≤ k ∧ k < n + f ∧ P k = true ∧ ∀ m, n ≤ m → m < k → P m = false
  | 0, _, h => by cases h
  | f + 1, n, h => by
    unfold firstN at h
    by_cases e : P n = true
    · rw [if_pos e] at h
      cases h
      exact ⟨Nat.le_refl _, by omega, e, fun m h1 h2 => by omega⟩
    · rw [if_neg e] at h
      obtain ⟨h1, h2, h3, h4⟩ := firstN_spec f (n + 1) h
      refine ⟨by omega, by omega, h3, fun m g1 g2 => ?_⟩
      by_cases em : m = n
      · subst em; simpa using e
      · exact h4 m (by omega) g2
/-- Until's answer where nothing is wrong. -/
def untV (c : Cn) (x : Bd) (b t : Int) : Int × Int := match firstN (fun n => decide (t ≤ coldN c x b n)) 2001 0 with | some n => ((n : Int), 0) | none => (0, 8)
theorem untV_at {c : Cn} {x : Bd} {b t : Int} {n : Nat} (hn : n ≤ 2000) (h : t ≤ coldN c x b n) (hb : ∀ m, m < n → ¬ t ≤ coldN c x b m) : untV c x b t = ((n : Int), 0) := by
  unfold untV
  rw [firstN_some (k := n) (by exact decide_eq_true h) 2001 0 (Nat.zero_le _) (by omega) (fun m _ hm => decide_eq_false (hb m hm))]
theorem untV_none {c : Cn} {x : Bd} {b t : Int} (hb : ∀ m, m < 2001 → ¬ t ≤ coldN c x b m) : untV c x b t = (0, 8) := by
  unfold untV
  rw [firstN_none 2001 0 (fun m _ hm => decide_eq_false (hb m (by omega)))]
theorem untV_ok {c : Cn} {x : Bd} {b t : Int} (h : (untV c x b t).2 = 0) : ∃ n : Nat, n ≤ 2000 ∧ untV c x b t = ((n : Int), 0) ∧ t ≤ coldN c x b n ∧ ∀ m, m < n → ¬ t ≤ coldN c x b m := by
  unfold untV at h ⊢
  cases hf : firstN (fun n => decide (t ≤ coldN c x b n)) 2001 0 with
  | none => rw [hf] at h; simp at h
  | some n =>
    obtain ⟨_, h2, h3, h4⟩ := firstN_spec _ _ hf
    exact ⟨n, by omega, rfl, by simpa using h3, fun m hm => by simpa using h4 m (Nat.zero_le _) hm⟩
/-- Until's answer, with its errors. -/
def untO (r l a b k a2 b2 : Int) (x : Bd) (bath t : Int) : Int × Int :=
  if bothB r l a b k a2 b2 x.1 x.2 then (if okT bath && okT t then untV ⟨r.toNat, l.toNat, a, b, k, a2, b2⟩ x bath t else (0, 7)) else (0, 1)
theorem untO_can {r l a b k a2 b2 : Int} {x : Bd} {bath t : Int} (h : bothB r l a b k a2 b2 x.1 x.2 = false) : untO r l a b k a2 b2 x bath t = (0, 1) := by unfold untO; rw [h]; rfl
theorem untO_far {r l a b k a2 b2 : Int} {x : Bd} {bath t : Int} (h : bothB r l a b k a2 b2 x.1 x.2 = true) (h2 : (okT bath && okT t) = false) : untO r l a b k a2 b2 x bath t = (0, 7) := by unfold untO; rw [h, h2]; rfl
theorem untO_ok {c : Cn} {x : Bd} {bath t : Int} (h : bothB c.R c.L c.A c.B c.K c.A2 c.B2 x.1 x.2 = true) (h2 : (okT bath && okT t) = true) : untO c.R c.L c.A c.B c.K c.A2 c.B2 x bath t = untV c x bath t := by
  unfold untO; rw [if_pos h, if_pos h2]
  simp
end Go.Proofs.YtedfajokiblfhaaGreat

/- Walk of Until of the reference: contract. -/
namespace Go.Proofs.YtedfajokiblfhaaGreat
open Go.RowKit

theorem R2.set2 {w W : World} {A : Array Value} {u0 v0 u v : Value} (h : R2 w W A #[u0, v0]) : R2 w ((W.setCell ⟨w.heap.size + 1, 0, none⟩ u).setCell ⟨w.heap.size + 1, 1, none⟩ v) A #[u, v] := by
  have h1 := heap_setCell_same W (w.heap.size + 1) 0 _ _ u h.res
  have h2 := heap_setCell_same _ (w.heap.size + 1) 1 _ _ v h1
  refine ⟨?_, h2, (h.low.setCell (p := ⟨w.heap.size + 1, 0, none⟩) (Nat.le_succ _) u).setCell (p := ⟨w.heap.size + 1, 1, none⟩) (Nat.le_succ _) v⟩
  rw [heap_setCell_other _ _ _ _ (show w.heap.size ≠ w.heap.size + 1 by omega), heap_setCell_other _ _ _ _ (show w.heap.size ≠ w.heap.size + 1 by omega)]
  exact h.can
/-- What is read as ints does not lie in a box of a slice and a Bool. -/
theorem rowI_by {W : World} {g n c : Nat} {a : Option Addr} {br : Bool} {t : TypeId} {u : Value} {l : List Int} {x y : Value} (h : RowI W u l) (hB : W.heap[g]? = some (.cells #[.slice a n c, .bool br] t (0, 0))) : RowI ((W.setCell ⟨g, 0, none⟩ x).setCell ⟨g, 1, none⟩ y) u l := by
  rcases h with h | ⟨b, o, cap, hv, hm, hc⟩
  · exact .inl h
  · refine .inr ⟨b, o, cap, hv, hm, fun k hk => ?_⟩
    have hck := hc k hk
    by_cases e : b = g
    · subst e
      have := cell_of_row W b (o + k) _ _ _ hB
      rw [this] at hck
      exfalso
      match hj : o + k with
      | 0 => rw [hj] at hck; simp at hck
      | 1 => rw [hj] at hck; simp at hck
      | j + 2 => rw [hj] at hck; simp at hck
    · rw [← hck]
      exact World.cell?_of_block (a := ⟨b, o + k, none⟩) (by rw [heap_setCell_other _ _ _ _ e, heap_setCell_other _ _ _ _ e])
theorem R2.nine {w W : World} {c0 c1 c2 c3 c4 c5 c6 d0 d1 : Value} (h : R2 w W #[c0, c1, c2, c3, c4, c5, c6] #[d0, d1]) :
    W.cell? ⟨w.heap.size, 0, none⟩ = some c0 ∧ W.cell? ⟨w.heap.size, 1, none⟩ = some c1 ∧ W.cell? ⟨w.heap.size, 2, none⟩ = some c2 ∧ W.cell? ⟨w.heap.size, 3, none⟩ = some c3 ∧ W.cell? ⟨w.heap.size, 4, none⟩ = some c4 ∧ W.cell? ⟨w.heap.size, 5, none⟩ = some c5 ∧ W.cell? ⟨w.heap.size, 6, none⟩ = some c6 ∧
    W.cell? ⟨w.heap.size + 1, 0, none⟩ = some d0 ∧ W.cell? ⟨w.heap.size + 1, 1, none⟩ = some d1 ∧ W.frozen? ⟨w.heap.size + 1, 0, none⟩ = false ∧ W.frozen? ⟨w.heap.size + 1, 1, none⟩ = false :=
  ⟨cell_of_row _ _ 0 _ _ _ h.can, cell_of_row _ _ 1 _ _ _ h.can, cell_of_row _ _ 2 _ _ _ h.can, cell_of_row _ _ 3 _ _ _ h.can, cell_of_row _ _ 4 _ _ _ h.can, cell_of_row _ _ 5 _ _ _ h.can, cell_of_row _ _ 6 _ _ _ h.can, cell_of_row _ _ 0 _ _ _ h.res, cell_of_row _ _ 1 _ _ _ h.res, frozen_of_row _ _ 0 _ _ h.res, frozen_of_row _ _ 1 _ _ h.res⟩
/-- Two numbers come back. -/
def PairU (O : Int × Int) (w : World) (e : Ending) (w' : World) : Prop := e = .returned (.tuple #[.int .i64 O.1, .int .i64 O.2]) ∧ Below w.heap.size w w'
end Go.Proofs.YtedfajokiblfhaaGreat

/- Walk of Follow: contract. -/
namespace Go.Proofs.YtedfajokiblfhaaGreat
open Go.RowKit Go.Shelf
attribute [local go_sem] Oper.semAt_some

/-- What lies in a block that is new to a world keeps its type. -/
def IntsAt (W : World) (l : List (Rw × Bd)) : Prop := ∀ k (h : k < l.length), ∃ cs, W.heap[l[k].1.b]? = some (.cells cs 3 (0, 0))
theorem IntsAt.grow {W W' : World} {l : List (Rw × Bd)} {row : Option Nat} (h : IntsAt W l) (hg : W.grownBy W' row) (hne : ∀ k (hk : k < l.length), row ≠ some l[k].1.b) : IntsAt W' l := fun k hk => by
  obtain ⟨cs, hc⟩ := h k hk
  exact ⟨cs, (hg.block _ (lt_of_block hc) (fun e => hne k hk e.symm)).trans hc⟩
theorem IntsAt.keep {W W' : World} {l : List (Rw × Bd)} (h : IntsAt W l) (hb : Below W.heap.size W W') : IntsAt W' l := fun k hk => by
  obtain ⟨cs, hc⟩ := h k hk
  exact ⟨cs, (hb.block _ (lt_of_block hc)).trans hc⟩
theorem own_type {W : World} {base n g : Nat} {v : Value} {xs : List Value} (h : W.ownsRow base 67 2 v n xs) (hg : v.ownBlock = some g) : ∃ cs, W.heap[g]? = some (.cells cs 67 (0, 0)) := by
  rcases h.2 with ⟨rfl, _⟩ | ⟨g', cap, cur, rfl, _, hc, _⟩
  · cases hg
  · cases hg; exact ⟨cur, hc⟩
theorem kpH_cell {n0 x0 y0 : Nat} {W : World} {old : Array Value} {t : TypeId} (u : Value) (h : W.heap[x0]? = some (.cells old t (0, 0))) (ht : t ≠ 149) : KpH n0 x0 y0 W (W.setCell ⟨x0, 0, none⟩ u) :=
  ⟨by simp, fun j _ h2 _ => heap_setCell_other _ _ _ _ h2, fun j cs hj _ => (heap_setCell_other _ _ _ _ (by rintro rfl; rw [h] at hj; cases hj; exact ht rfl)).trans hj⟩
theorem kpH_own {n0 x0 y0 g : Nat} {W W' : World} {old : Array Value} {t : TypeId} (hg : W.grownBy W' (some g)) (h : W.heap[g]? = some (.cells old t (0, 0))) (ht : t ≠ 149) (hn : n0 ≤ W.heap.size) (hy : g = y0 ∨ n0 ≤ g) : KpH n0 x0 y0 W W' :=
  ⟨hg.size, fun j h1 _ h3 => hg.block j (by omega) (fun e => by cases e; omega), fun j cs hj _ => (hg.block j (lt_of_block hj) (fun e => by cases e; rw [h] at hj; cases hj; exact ht rfl)).trans hj⟩
theorem keeps_cell {B x0 : Nat} {W : World} {u : Value} : KeepsFrom B W (W.setCell ⟨x0, 0, none⟩ u) := (KeepsOthers.setCell W ⟨x0, 0, none⟩ u).from _
theorem keeps_own {B g : Nat} {W W' : World} {old : Array Value} {t : TypeId} (hg : W.grownBy W' (some g)) (h : W.heap[g]? = some (.cells old t (0, 0))) : KeepsFrom B W W' :=
  (KeepsOthers.of_grownBy hg (fun j o ej hj => by cases ej; rw [h] at hj; cases hj; rfl)).from _
theorem cell_cells {W W' : World} {a : Addr} {v : Value} (hc : ∀ (g : Nat) (cs : Array Value) (T : Nat) (fr : Nat × Nat), W.heap[g]? = some (Obj.cells cs T fr) → W'.heap[g]? = some (Obj.cells cs T fr)) (h : W.cell? a = some v) : W'.cell? a = some v := by
  have hb : ∃ cs T fr, W.heap[a.block]? = some (.cells cs T fr) := by
    unfold World.cell? at h
    revert h
    cases W.heap[a.block]? with
    | none => simp
    | some o => cases o <;> simp
  obtain ⟨cs, T, fr, hcs⟩ := hb
  rw [World.cell?_of_block (a := a) ((hc _ _ _ _ hcs).trans hcs.symm)]
  exact h
theorem own_shape2b {w : World} {base e n : Nat} {v : Value} {xs : List Value} (h : w.ownsRow base e 2 v n xs) : ∃ a c, v = .slice a n c := by
  rcases h.2 with ⟨rfl, h0⟩ | ⟨g, cap, cur, rfl, _⟩
  · exact ⟨none, 0, by rw [h0]⟩
  · exact ⟨_, _, rfl⟩
theorem RowI.cells {W W' : World} {v : Value} {l : List Int} (h : RowI W v l) (hc : ∀ (g : Nat) (cs : Array Value) (T : Nat) (fr : Nat × Nat), W.heap[g]? = Option.some (Obj.cells cs T fr) → W'.heap[g]? = Option.some (Obj.cells cs T fr)) : RowI W' v l := by
  rcases h with h | ⟨b, o, cap, hv, hm, h⟩
  · exact .inl h
  · exact .inr ⟨b, o, cap, hv, hm, fun k hk => cell_cells hc (h k hk)⟩
theorem RowBd.cells {W W' : World} {v : Value} {L : List Bd} (h : RowBd W v L) (hc : ∀ (g : Nat) (cs : Array Value) (T : Nat) (fr : Nat × Nat), W.heap[g]? = some (Obj.cells cs T fr) → W'.heap[g]? = some (Obj.cells cs T fr)) : RowBd W' v L := by
  obtain ⟨a, b, o, cap, h1, h2, h3, h4⟩ := h
  refine ⟨a, b, o, cap, h1, h2, h3, fun k hk => ?_⟩
  obtain ⟨ua, uc, g1, g2, g3⟩ := h4 k hk
  exact ⟨ua, uc, cell_cells hc g1, cell_cells hc g2, g3.cells hc⟩
/-- The bodies behind no, one, two .. ticks. -/
def folL (c : Cn) (x : Bd) (l : List Int) : List Bd := (seqH c x l).map (·.2)
/-- What Follow hands back: a list of bodies, and an error. -/
def FolP (L : List Bd) (n : Int) (w : World) (e : Ending) (w' : World) : Prop := ∃ u, e = .returned (.tuple #[u, .int .i64 n]) ∧ RowBd w' u L ∧ Below w.heap.size w w'
end Go.Proofs.YtedfajokiblfhaaGreat

/- Walks of told: contracts. -/
namespace Go.Proofs.YtedfajokiblfhaaGreat
open Go.RowKit Go.Shelf
attribute [local go_sem] Oper.semAt_some

/-- What is told of the bodies behind one, two .., n ticks. -/
def tellN (f : Bd → Int) (c : Cn) (x : Bd) (l : List Int) (n : Nat) : List Int := (List.range n).map fun k => f (runS c x (l.take (k + 1)))
theorem tellN_len (f : Bd → Int) (c : Cn) (x : Bd) (l : List Int) (n : Nat) : (tellN f c x l n).length = n := by simp [tellN]
theorem tellN_succ (f : Bd → Int) (c : Cn) (x : Bd) (l : List Int) (n : Nat) : tellN f c x l (n + 1) = tellN f c x l n ++ [f (runS c x (l.take (n + 1)))] := by unfold tellN; rw [List.range_succ, List.map_append]; rfl
/-- The three boxes of told. -/
structure T3 (w w1 : World) (A B : Array Value) (fv : Value) : Prop where
  two : R2 w w1 A B
  fn : w1.heap[w.heap.size + 1 + 1]? = some (.cells #[fv] 115 (0, 0))
theorem t3_start {w : World} {A B : Array Value} {fv : Value} : T3 w (((w.alloc (.cells A 23)).alloc (.cells B 67)).alloc (.cells #[fv] 115)) A B fv :=
  ⟨(r2_start (A := A) (R := B)).keep ((Below.refl _ _).alloc (Nat.le_refl _) _), new_at (by simp)⟩
theorem T3.keep {w w1 w2 : World} {A B : Array Value} {fv : Value} (h : T3 w w1 A B fv) (hb : Below w1.heap.size w1 w2) : T3 w w2 A B fv := ⟨h.two.keep hb, (hb.block _ (lt_of_block h.fn)).trans h.fn⟩
theorem T3.map {w w1 w2 : World} {A B : Array Value} {fv : Value} (h : T3 w w1 A B fv) (hk : ∀ j, j < w.heap.size + 3 → j < w1.heap.size → w2.heap[j]? = w1.heap[j]?) (hb : Below w.heap.size w w2) : T3 w w2 A B fv :=
  ⟨⟨(hk _ (by omega) (lt_of_block h.two.can)).trans h.two.can, (hk _ (by omega) (lt_of_block h.two.res)).trans h.two.res, hb⟩, (hk _ (by omega) (lt_of_block h.fn)).trans h.fn⟩
theorem own_typeI {W : World} {base n g : Nat} {v : Value} {xs : List Value} (h : W.ownsRow base 3 1 v n xs) (hg : v.ownBlock = some g) : ∃ cs, W.heap[g]? = some (.cells cs 3 (0, 0)) := by
  rcases h.2 with ⟨rfl, _⟩ | ⟨g', cap, cur, rfl, _, hc, _⟩
  · cases hg
  · cases hg; exact ⟨cur, hc⟩
/-- What told's rounds stand on: the list's box, the list, and the three boxes. -/
structure ToI (w : World) (A B : Array Value) (fv : Value) (xb base n0 : Nat) (L : List Int) (W : World) : Prop where
  three : T3 w W A B fv
  ex : ∃ v, W.heap[xb]? = some (.cells #[v] 28 (0, 0)) ∧ W.ownsRow base 3 1 v L.length (ivs L) ∧ (v.ownBlock = some base ∨ ∃ g, v.ownBlock = some g ∧ n0 ≤ g)
theorem ToI.turn {w W W' : World} {A B : Array Value} {fv : Value} {xb base n0 B0 : Nat} {L : List Int} {row : Option Nat} (h : ToI w A B fv xb base n0 L W) (hw : w.heap.size + 3 ≤ B0) (hx : xb < B0) (hg : W.grownBy W' row) (hr : ∀ j, row = some j → B0 ≤ j ∧ ∃ o : Obj, W.heap[j]? = some o ∧ Obj.apart 149 o) : ToI w A B fv xb base n0 L W' := by
  obtain ⟨v, h1, h2, h5⟩ := h.ex
  have nOwn : ∀ j, row = some j → v.ownBlock ≠ some j := fun j e e2 => by
    obtain ⟨_, o, ho, hc⟩ := hr j e
    obtain ⟨cs, hcs⟩ := own_typeI h2 e2
    rw [ho] at hcs
    cases hcs
    rcases hc with hc | ⟨cs', hc⟩ <;> cases hc
  have hk : ∀ j, j < B0 → j < W.heap.size → W'.heap[j]? = W.heap[j]? := fun j g1 g2 => hg.block j g2 (fun e => by have := (hr _ e.symm).1; omega)
  refine ⟨h.three.map (fun j g1 g2 => hk j (by omega) g2) (h.three.two.low.grown hg h.three.two.low.size (fun j e => by have := (hr j e).1; omega)), v, (hk _ hx (lt_of_block h1)).trans h1, h2.kept hg ?_, h5⟩
  cases hb : v.ownBlock with
  | none => exact .inl rfl
  | some j => exact .inr (fun e => nOwn j e.symm hb)
theorem ToI.keep {w W W' : World} {A B : Array Value} {fv : Value} {xb base n0 : Nat} {L : List Int} (h : ToI w A B fv xb base n0 L W) (hb : Below W.heap.size W W') : ToI w A B fv xb base n0 L W' := by
  obtain ⟨v, h1, h2, h5⟩ := h.ex
  exact ⟨h.three.keep hb, v, (hb.block _ (lt_of_block h1)).trans h1, own_kept h2 hb, h5⟩
/-- Behind an append, ahead of its store. -/
theorem to_box {W W7 w8 : World} {xb base n0 : Nat} {v : Value} {xs : List Value} {n : Nat} {o : Obj} (h1 : W.heap[xb]? = some (.cells #[v] 28 (0, 0))) (h2 : W.ownsRow base 3 1 v n xs) (h5 : v.ownBlock = some base ∨ ∃ g, v.ownBlock = some g ∧ n0 ≤ g)
    (hb : Below W.heap.size W W7) (hg : (W7.alloc o).grownBy w8 v.ownBlock) : w8.heap[xb]? = some (.cells #[v] 28 (0, 0)) := by
  have hvb : ∃ g, v.ownBlock = some g := by
    rcases h5 with h | ⟨g, h, hn⟩
    · exact ⟨_, h⟩
    · exact ⟨_, h⟩
  obtain ⟨g, hg0⟩ := hvb
  obtain ⟨old, hold⟩ := own_typeI h2 hg0
  have hxl := lt_of_block h1
  have hxg : xb ≠ g := by rintro rfl; rw [h1] at hold; cases hold
  have hb8 : Below W.heap.size W (W7.alloc o) := hb.alloc hb.size o
  exact (hg.block _ (Nat.lt_of_lt_of_le hxl hb8.size) (by rw [hg0]; intro e; cases e; exact hxg rfl)).trans ((hb8.block _ hxl).trans h1)
/-- The end of a round: the list has one number more. -/
theorem to_end {w W W7 w8 : World} {A B : Array Value} {fv : Value} {xb base n0 B0 : Nat} {L : List Int} {v v8 : Value} {t : Int} {o : Obj}
    (hA : T3 w W A B fv) (h1 : W.heap[xb]? = some (.cells #[v] 28 (0, 0))) (h2 : W.ownsRow base 3 1 v L.length (ivs L)) (h5 : v.ownBlock = some base ∨ ∃ g, v.ownBlock = some g ∧ n0 ≤ g)
    (hb : Below W.heap.size W W7) (hown : w8.ownsRow base 3 1 v8 (L.length + 1) (ivs L ++ [.int .i64 t])) (hg : (W7.alloc o).grownBy w8 v.ownBlock) (hw : v8.ownBlock = v.ownBlock ∨ v8.ownBlock = some (W7.alloc o).heap.size)
    (hx0 : w.heap.size + 2 < xb) (hxb : base < xb ∧ xb < n0) (hbase : w.heap.size + 2 < base) (hn0 : n0 ≤ W.heap.size) :
    ToI w A B fv xb base n0 (L ++ [t]) (w8.setCell ⟨xb, 0, none⟩ v8) ∧ KeepsFrom B0 W (w8.setCell ⟨xb, 0, none⟩ v8) ∧ KpH n0 xb base W (w8.setCell ⟨xb, 0, none⟩ v8) := by
  have hvb : ∃ g, v.ownBlock = some g ∧ (g = base ∨ n0 ≤ g) := by
    rcases h5 with h | ⟨g, h, hn⟩
    · exact ⟨_, h, .inl rfl⟩
    · exact ⟨_, h, .inr hn⟩
  obtain ⟨g, hg0, hgb⟩ := hvb
  obtain ⟨old, hold⟩ := own_typeI h2 hg0
  have hgl := lt_of_block hold
  have hb8 : Below W.heap.size W (W7.alloc o) := hb.alloc hb.size o
  have hold8 : (W7.alloc o).heap[g]? = some (.cells old 3 (0, 0)) := (hb8.block _ hgl).trans hold
  have hxl := lt_of_block h1
  have hxg : xb ≠ g := by rintro rfl; rw [h1] at hold; cases hold
  have hxb8 := to_box h1 h2 h5 hb hg
  have hcell : ∀ j, j ≠ xb → (w8.setCell ⟨xb, 0, none⟩ v8).heap[j]? = w8.heap[j]? := fun j hj => heap_setCell_other _ _ _ _ hj
  have hgc : w8.grownBy (w8.setCell ⟨xb, 0, none⟩ v8) (some xb) := ⟨rfl, rfl, rfl, by simp, fun j _ hj => hcell j (fun e => hj (by rw [e]))⟩
  have hx8 : v8.ownBlock ≠ some xb := by
    rcases hw with e | e
    · rw [e, hg0]; intro e2; cases e2; exact hxg rfl
    · rw [e]; intro e2; cases e2; have := hb8.size; omega
  have hs8 := hg.size
  have hA8 := hA.keep hb8
  have hown2 : w8.ownsRow base 3 1 v8 (L ++ [t]).length (ivs (L ++ [t])) := by rw [List.length_append, show ivs (L ++ [t]) = ivs L ++ [.int .i64 t] by simp [ivs]]; exact hown
  refine ⟨⟨hA8.map (fun j g1 g2 => ?_) ?_, v8, heap_setCell_same w8 xb 0 _ _ v8 hxb8, hown2.kept hgc ?_, ?_⟩, ?_, ?_⟩
  · rw [hcell _ (by omega)]
    exact hg.block _ g2 (by rw [hg0]; intro e; cases e; omega)
  · exact (hA8.two.low.grown hg hA8.two.low.size (fun j e => by rw [hg0] at e; cases e; omega)).setCell (p := ⟨xb, 0, none⟩) (by show w.heap.size ≤ xb; omega) _
  · exact .inr hx8
  · rcases hw with e | e
    · rw [e]; exact h5
    · exact .inr ⟨_, e, Nat.le_trans hn0 hb8.size⟩
  · rw [hg0] at hg
    exact (keeps_below hb8).trans ((keeps_own hg hold8).trans keeps_cell)
  · rw [hg0] at hg
    exact (kpH_below hn0 hb8).trans ((kpH_own hg hold8 (by decide) (Nat.le_trans hn0 hb8.size) hgb).trans (kpH_cell v8 hxb8 (by decide)))
/-- What told hands back. -/
def ToldP (L : List Int) (w : World) (e : Ending) (w' : World) : Prop := ∃ (ua : Option Addr) (uc : Nat), e = .returned (.slice ua L.length uc) ∧ RowI w' (.slice ua L.length uc) L ∧ Below w.heap.size w w'
set_option maxHeartbeats 2000000 in
theorem cold1_any (b : Nat) (c : Cn) (x : Bd) (w : World) (hG : GridAt w b c x) (hc : c.Ok) (hx : Warm c x) :
    Calls Tryz.prog 88 #[.pointer (some ⟨b, 0, none⟩)] w fun e w' => e = .returned (.int .i64 (minT x.1)) ∧ ∃ n, w' = w.drewN n := by
  have h48 : x.1.length ≤ 48 := by have := hx.len; have := hc.p; unfold Cn.P at this; omega
  have HC := hid (fun w1 (h : GridC w1 b c x) => coldest_any b c x w1 h hc hx)
  have HG := hid (hG.read h48)
  obtain ⟨mn, hmn⟩ : ∃ m, m = minT x.1 := ⟨_, rfl⟩
  rw [← hmn]
  unfold minT at hmn
  rw [← hmn] at HC
  clear hG hx hmn
  go_enter Tryz.func88, Tryz.ntmps88
  go_wp2_with (go_at_call 89; refine (HC.out _ HG.out).mono ?_; rintro e w1 ⟨rfl, hd⟩; have HD := hid hd; clear hd)
  go_ret
  exact ⟨rfl, HD.out⟩
theorem oneI1 {t : Int} : ∀ u ∈ [Value.int .i64 t], u.oneCell' = true := by intro u hu; simp at hu; subst hu; rfl
end Go.Proofs.YtedfajokiblfhaaGreat

/- slices.Chunk over ints and slices.AppendSeq over what it yields: contracts. -/
namespace Go.Proofs.YtedfajokiblfhaaGreat
open Go.RowKit Go.Shelf
attribute [local go_sem] Oper.semAt_some

def ckV (b o R i : Nat) : Value := .slice (some ⟨b, o + i * R, none⟩) R R
/-- The box of AppendSeq, and what was appended. -/
structure ApI (w : World) (xs : List Value) (v : Value) (W : World) : Prop where
  box : W.heap[w.heap.size]? = some (.cells #[v] 104 (0, 0))
  own : OwnV W (w.heap.size + 1) v xs
  low : Below w.heap.size w W
theorem keepsC {B : Nat} {W W' : World} (h : Below W.heap.size W W') : KeepsFrom B W W' := ⟨h.size, fun k _ _ hk _ => (h.block k (Array.getElem?_eq_some_iff.1 hk).1).trans hk⟩
theorem ApI.turn {w W W' : World} {xs : List Value} {v : Value} {row : Option Nat} (h : ApI w xs v W) (hg : W.grownBy W' row) (hr : ∀ j, row = some j → w.heap.size ≤ j ∧ ∃ o : Obj, W.heap[j]? = some o ∧ Obj.apart 4 o) : ApI w xs v W' := by
  have hk : ∀ (g : Nat) (cs : Array Value) (T : Nat) (fr : Nat × Nat), T ≠ 4 → W.heap[g]? = some (Obj.cells cs T fr) → W'.heap[g]? = some (Obj.cells cs T fr) := fun g cs T fr hT e => by
    rw [hg.block g (Array.getElem?_eq_some_iff.1 e).1 ?_]
    · exact e
    · intro e'
      obtain ⟨_, o, h1, h2⟩ := hr g e'.symm
      rw [e] at h1; cases h1
      rcases h2 with h2 | ⟨cs', h2⟩
      · cases h2
      · cases h2; exact hT rfl
  refine ⟨hk _ _ _ _ (by decide) h.box, ⟨h.own.1, ?_⟩, h.low.grown hg h.low.size (fun j e => (hr j e).1)⟩
  rcases h.own.2 with h0 | ⟨g, cap, cur, e, hb, hgr, rest⟩
  · exact .inl h0
  · exact .inr ⟨g, cap, cur, e, hb, hk _ _ _ _ (by decide) hgr, rest⟩
theorem OwnV.cells {W W' : World} {base : Nat} {v : Value} {L : List Value} (h : OwnV W base v L) (hc : ∀ (g : Nat) (cs : Array Value) (T : Nat) (fr : Nat × Nat), W.heap[g]? = some (Obj.cells cs T fr) → W'.heap[g]? = some (Obj.cells cs T fr)) : OwnV W' base v L := by
  refine ⟨h.1, ?_⟩
  rcases h.2 with h0 | ⟨g, cap, cur, e, hb, hgr, rest⟩
  · exact .inl h0
  · exact .inr ⟨g, cap, cur, e, hb, hc _ _ _ _ hgr, rest⟩
theorem ap_start (w : World) : ApI w [] (.slice none 0 0) (w.alloc (.cells #[.slice none 0 0] 104)) :=
  ⟨heap_alloc_new w _, World.ownsRow_nil _ _ _ 1, (Below.refl _ w).alloc (Nat.le_refl _) _⟩
theorem ap_end {w W W7 w8 : World} {v v8 x : Value} {L : List Value} {B : Nat} (h : ApI w L v W) (hb : Below W.heap.size W W7) (ho : w8.ownsRow (w.heap.size + 1) 28 1 v8 (L.length + 1) (L ++ [x])) (hg : W7.grownBy w8 v.ownBlock) (hbx : w8.heap[w.heap.size]? = some (Obj.cells #[v] 104 (0, 0))) :
    KeepsFrom B W (w8.setCell ⟨w.heap.size, 0, none⟩ v8) ∧ KpC w.heap.size W (w8.setCell ⟨w.heap.size, 0, none⟩ v8) ∧ ApI w (L ++ [x]) v8 (w8.setCell ⟨w.heap.size, 0, none⟩ v8) := by
  have hst : ∀ (g : Nat) (o : Obj), W.heap[g]? = some o → g ≠ w.heap.size → v.ownBlock ≠ some g → (w8.setCell ⟨w.heap.size, 0, none⟩ v8).heap[g]? = some o := fun g o e1 e2 e3 => by
    have l1 := (Array.getElem?_eq_some_iff.1 e1).1
    rw [heap_setCell_other _ _ _ _ (by exact e2), hg.block g (Nat.lt_of_lt_of_le l1 hb.size) (fun e => e3 e.symm), hb.block g l1]
    exact e1
  have hrow : ∀ g, v.ownBlock = some g → ∃ cur fr, W.heap[g]? = some (Obj.cells cur 28 fr) := fun g e => by
    rcases h.own.2 with ⟨rfl, _⟩ | ⟨g', cap, cur, rfl, _, hgr, _⟩
    · cases e
    · cases e; exact ⟨_, _, hgr⟩
  have hbase : ∀ g, v.ownBlock = some g → w.heap.size + 1 ≤ g := fun g e => (World.ownsRow.lt h.own g e).1
  have hsz : W.heap.size ≤ (w8.setCell ⟨w.heap.size, 0, none⟩ v8).heap.size := by have := hb.size; have := hg.size; simp; omega
  have hwl := h.low.size
  refine ⟨⟨hsz, fun k o _ hk hc => hst k o hk ?_ ?_⟩, ⟨hsz, fun j h1 => ?_⟩, ⟨?_, ?_, ?_⟩⟩
  · rintro rfl; rw [h.box] at hk; cases hk; cases hc
  · intro e; obtain ⟨cur, fr, e1⟩ := hrow k e; rw [e1] at hk; cases hk; cases hc
  · have l1 : j < W.heap.size := by omega
    rw [hst j _ (Array.getElem?_eq_getElem l1) (by omega) (fun e => by have := hbase _ e; omega)]
    exact (Array.getElem?_eq_getElem l1).symm
  · have e := heap_setCell_same w8 _ 0 _ _ v8 hbx
    simpa using e
  · have := World.ownsRow.kept ho (w' := w8.setCell ⟨w.heap.size, 0, none⟩ v8) (row := some w.heap.size) ⟨rfl, rfl, rfl, by simp, fun k _ hne => heap_setCell_other _ _ _ _ (fun e => hne (by rw [e]))⟩ (.inr (fun e => by have := (World.ownsRow.lt ho _ e).1; omega))
    unfold OwnV
    rw [List.length_append, List.length_singleton]
    exact this
  · exact ((h.low.trans (hb.mono h.low.size)).grown hg (Nat.le_trans h.low.size hb.size) (fun j e => by have := hbase j e; omega)).setCell (p := ⟨w.heap.size, 0, none⟩) (Nat.le_refl _) v8
theorem rows_shapeC {w : World} {base e size n : Nat} {v : Value} {xs : List Value} (h : w.ownsRow base e size v n xs) : ∃ a c, v = .slice a n c := by
  rcases h.2 with ⟨rfl, h0⟩ | ⟨g, cap, cur, rfl, _⟩
  · exact ⟨_, _, by rw [h0]⟩
  · exact ⟨_, _, rfl⟩
theorem ckV_take {b o R L k : Nat} {x : Nat} (h : (List.range L)[k]? = some x) : ((List.range L).take (k + 1)).map (ckV b o R) = ((List.range L).take k).map (ckV b o R) ++ [ckV b o R x] := by
  rw [List.take_add_one, h]; simp
theorem cellJ {w : World} {u : Value} {T : TypeId} {m : Nat} (hm : w.heap.size = m) : ∀ j x, [u][j]? = some x → (w.alloc (.cells #[u] T)).cell? ((⟨m, 0, none⟩ : Addr).add j) = some x := by
  subst hm
  intro j x h
  cases j with
  | zero => simp at h; subst h; simp [Addr.add]
  | succ j => simp at h
theorem oneS {b o n c : Nat} : ∀ u ∈ [Value.slice (some ⟨b, o, none⟩) n c], u.oneCell' = true := by intro u hu; simp at hu; subst hu; rfl
theorem infoSl : (Tryz.prog.info? 28).map (fun i => (i.zero, i.size, i.bytes)) = some (some (.slice none 0 0), 1, 24) := by kernel_rfl
theorem infoSl_parts : ∃ i, Tryz.prog.info? 28 = some i ∧ i.zero = some (.slice none 0 0) ∧ i.size = 1 ∧ i.bytes = 24 := info_parts (by kernel_rfl)
end Go.Proofs.YtedfajokiblfhaaGreat

/- Walk of told where the coldest is told: contract. -/
namespace Go.Proofs.YtedfajokiblfhaaGreat
open Go.RowKit Go.Shelf
attribute [local go_sem] Oper.semAt_some

set_option maxRecDepth 20000 in
set_option maxHeartbeats 8000000 in
theorem told_cold (c : Cn) (x : Bd) (v v2 : Value) (l : List Int) (w : World) (hv : c.V) (hb : bodyV c x.1 x.2 = true) (ho : okL l = true) (hlen : l.length ≤ 2000) (hl : RowI w v x.1) (hl2 : RowI w v2 l) :
    Calls Tryz.prog 87 #[.agg #[.int .i64 (c.R : Int), .int .i64 (c.L : Int), .int .i64 c.A, .int .i64 c.B, .int .i64 c.K, .int .i64 c.A2, .int .i64 c.B2], .agg #[v, .bool x.2], v2, .func (.func 88) #[] #[]] w (ToldP (tellN (fun y => minT y.1) c x l l.length) w) := by
  obtain ⟨hxl, _, hxo⟩ := bodyV_iff.1 hb
  have hc := hv.ok
  have hx : Warm c x := ⟨hxl, okL_bd hxo⟩
  obtain ⟨p1, p2⟩ := hc.p
  have h48 : x.1.length ≤ 48 := by omega
  have h0 : 0 < x.1.length := by omega
  have HL := hid (fun w1 (g : Below w.heap.size w w1) => hl.keep g)
  obtain ⟨a0, cap0, rfl⟩ := hl.shape
  obtain ⟨a, ba, o, cap, rfl, ha, hcl, hbl⟩ := hl2.form
  obtain ⟨i0, hi, hz0, hz1, hz2⟩ := info_parts infoIf
  have HOK := hid hc; have HX := hid hx; have HAD := hid ha; have HCL := hid hcl; have HBL := hid hbl; have HLB := hid (okL_bd ho)
  have HS := hid (t3_start (w := w) (A := #[.int .i64 (c.R : Int), .int .i64 (c.L : Int), .int .i64 c.A, .int .i64 c.B, .int .i64 c.K, .int .i64 c.A2, .int .i64 c.B2]) (B := #[.slice a0 x.1.length cap0, .bool x.2]) (fv := .func (.func 88) #[] #[]))
  have HWM := hid (fun k => show Warm c (runS c x (l.take k)) from HX.out.run HOK.out (fun b hb => HLB.out b (List.mem_of_mem_take hb)))
  have HLQ := hid (fun k => show (runS c x (l.take k)).1.length = x.1.length from (HWM.out k).len.trans HX.out.len.symm)
  obtain ⟨f, hf⟩ : ∃ f : Bd → Int, f = fun y => minT y.1 := ⟨_, rfl⟩
  rw [← hf]
  have HF := hid (fun (W : World) (nb : Nat) (y : Bd) (hg : GridAt W nb c y) (hy : Warm c y) => show Calls Tryz.prog 88 #[.pointer (some ⟨nb, 0, none⟩)] W (fun e w' => e = .returned (.int .i64 (f y)) ∧ ∃ n, w' = W.drewN n) by rw [hf]; exact cold1_any nb c y W hg HOK.out hy)
  clear hl hl2 ha hcl hbl hx hc hb hxl hxo ho hv hf
  refine (callsIn_wide (n := 10)).1 ?_
  refine callsIn_of_wp_marks Tryz.func87 rfl trivial ?_ rfl
  simp only [Tryz.ntmps87, List.size_toArray, List.length_cons, List.length_nil, Nat.reduceAdd, Nat.reduceSub, Array.replicate_succ, Array.replicate_zero, List.push_toArray, List.append_toArray, List.nil_append, List.cons_append]
  gi_wp2
  refine ⟨trivial, ?_⟩
  refine (callsIn_wide.2 (gridOf_any c x.1 x.2 _ _ (HL.out _ HS.out.two.low) h0 h48)).mono ?_
  rintro e w2 ⟨rfl, hb2⟩
  have H2 := hid (HS.out.keep hb2)
  clear hb2
  gi_wp2_with (first
    | (refine wpListIn_store_whole rfl 149 _ _ rfl w2.heap.size (gridA c x) rfl rfl 149 _ (heap_alloc_new w2 _) (infoGx c x h48) (by rw [gridA_size h48]; rfl) (gridA_one c x) ?_; generalize hW : World.setRow _ _ _ = W3; have H3 := hid (now_laid hW); clear hW)
    | (gi_at_make; refine wpListIn_make_own _ rfl _ _ 28 rfl W3.heap.size 3 i0 (.int .i64 0) 1 Tryz.underlying28 hi hz0 hz1 _ _ _ l.length rfl rfl (by omega) (by rw [hz2]; omega) (by unfold maxLen; omega) (Nat.le_refl _) ?_; intro w4 hown4 hgrow4; have HO4 := hid hown4; have HG4 := hid hgrow4; clear hown4 hgrow4))
  refine ⟨trivial, ?_⟩
  refine (callsIn_wide.2 (during_any w2.heap.size _ _ _ _)).mono ?_
  rintro e w5 ⟨rfl, rfl⟩
  gi_wp2
  obtain ⟨hg3, hb3⟩ := H3.out
  have z2 := H2.out.two.low.size
  have z2' := lt_of_block H2.out.fn
  have z3 := lt_of_block hg3
  have zg : W3.heap.size < w4.heap.size := (World.ownsRow.lt HO4.out _ rfl).2
  have hb4 : Below W3.heap.size W3 w4 := (Below.refl _ W3).grown HG4.out (Nat.le_refl _) (fun j e => by cases e)
  have hB5 := box2_start (w := w4.alloc (.cells #[.slice (some ⟨W3.heap.size, 0, none⟩) 0 l.length] 28)) (A := #[.pointer (some ⟨w2.heap.size, 0, none⟩)]) (B := #[.slice a l.length cap]) (T := 114) (T' := 28) (fz := (0, 0)) (fz' := (0, 0))
  have hxb := heap_alloc_new w4 (.cells #[.slice (some ⟨W3.heap.size, 0, none⟩) 0 l.length] 28)
  have hb45 := (Below.refl _ w4).alloc (Nat.le_refl _) (.cells #[.slice (some ⟨W3.heap.size, 0, none⟩) 0 l.length] 28)
  have z45 : (w4.alloc (.cells #[.slice (some ⟨W3.heap.size, 0, none⟩) 0 l.length] 28)).heap.size = w4.heap.size + 1 := by simp
  have z5 : (((w4.alloc (.cells #[.slice (some ⟨W3.heap.size, 0, none⟩) 0 l.length] 28)).alloc (.cells #[.pointer (some ⟨w2.heap.size, 0, none⟩)] 114)).alloc (.cells #[.slice a l.length cap] 28)).heap.size = w4.heap.size + 3 := by simp
  generalize ((w4.alloc (.cells #[.slice (some ⟨W3.heap.size, 0, none⟩) 0 l.length] 28)).alloc (.cells #[.pointer (some ⟨w2.heap.size, 0, none⟩)] 114)).alloc (.cells #[.slice a l.length cap] 28) = W5 at hB5 z5 ⊢
  generalize w4.alloc (.cells #[.slice (some ⟨W3.heap.size, 0, none⟩) 0 l.length] 28) = W4 at hB5 hxb hb45 z45
  have h5 := (((H2.out.keep hb3).keep hb4).keep hb45).keep hB5.low
  have hF0 : ToI w #[.int .i64 (c.R : Int), .int .i64 (c.L : Int), .int .i64 c.A, .int .i64 c.B, .int .i64 c.K, .int .i64 c.A2, .int .i64 c.B2] #[.slice a0 x.1.length cap0, .bool x.2] (.func (.func 88) #[] #[]) w4.heap.size W3.heap.size (w4.heap.size + 3) [] W5 :=
    ⟨h5, _, (hB5.low.block _ (by omega)).trans hxb, own_kept (own_kept HO4.out hb45) hB5.low, .inl rfl⟩
  have hI : ItH c x l (w4.heap.size + 1) (w4.heap.size + 2) w2.heap.size a ba o cap (w4.heap.size + 3) W5 := by
    refine ⟨?_, ?_, ((hg3.keep hb4).keep hb45).keep hB5.low, HAD.out, fun j hj => ?_, ⟨by omega, by omega, by omega, fun h => by have := HBL.out h; omega⟩, by omega⟩
    · have := hB5.fst 0; rw [z45] at this; exact this
    · have := hB5.snd 0; rw [z45] at this; exact this
    · exact (h5.two.low.cell (p := ⟨ba, o + j, none⟩) (HBL.out (by rintro rfl; simp at hj))).trans (HCL.out j hj)
  clear h5 hB5 hg3 hb3 hb4 H3 hxb hb45
  refine range_boxed (T := 149) (F := Fence.wide) (n := 10) (xs := seqH c x l) (encs := encH c) (Kp := KpH (w4.heap.size + 3) w4.heap.size W3.heap.size) (w0 := W5) rfl (by omega) (gf := 149) (lb := #[.pointer (some ⟨w4.heap.size + 1, 0, none⟩), .pointer (some ⟨w4.heap.size + 2, 0, none⟩)]) rfl trivial (enters_of Tryz.func149 (by kernel_rfl) rfl)
    (fun l0 J Jx W hW hJ hJx hY h0 => during_run l0 c x l _ _ _ a ba o cap _ w4.heap.size W3.heap.size W.heap.size J Jx HOK.out HX.out HLB.out (by omega) (by omega) ⟨by omega, by omega, by omega, fun h => by have := HBL.out h; omega⟩ hJ hY W (hI.past hW.size (fun j hj => hW.block j (by omega))) (Nat.le_refl _) h0)
    (fun h k => h.trans k) (fun W l o o' hl h hc _ => KpH.put (by omega) h hc) (Below.refl _ _) (fun _ => rfl)
    (fun pre W => ToI w #[.int .i64 (c.R : Int), .int .i64 (c.L : Int), .int .i64 c.A, .int .i64 c.B, .int .i64 c.K, .int .i64 c.A2, .int .i64 c.B2] #[.slice a0 x.1.length cap0, .bool x.2] (.func (.func 88) #[] #[]) w4.heap.size W3.heap.size (w4.heap.size + 3) (tellN f c x l (pre.length - 1)) W ∧ w4.heap.size + 3 ≤ W.heap.size) (fun _ _ => False) ?hI ?hIx ⟨hF0, by omega⟩
    (fun y a' W => ∃ nb, w4.heap.size + 3 ≤ nb ∧ GridAt W nb c y.2 ∧ a' = { tmps := #[.agg #[.int .i64 (c.R : Int), .int .i64 (c.L : Int), .int .i64 c.A, .int .i64 c.B, .int .i64 c.K, .int .i64 c.A2, .int .i64 c.B2], .agg #[.slice a0 x.1.length cap0, .bool x.2], .slice a l.length cap, .func (.func 88) #[] #[], .pointer (some ⟨w.heap.size, 0, none⟩), .pointer (some ⟨w.heap.size + 1, 0, none⟩), undef, .pointer (some ⟨w.heap.size + 1 + 1, 0, none⟩), .slice none 0 0, .pointer (some ⟨w2.heap.size, 0, none⟩), .pointer (some ⟨w4.heap.size, 0, none⟩), .int .i64 (y.1 : Int), .pointer (some ⟨nb, 0, none⟩), .agg #[.int .i64 (c.R : Int), .int .i64 (c.L : Int), .int .i64 c.A, .int .i64 c.B, .int .i64 c.K, .int .i64 c.A2, .int .i64 c.B2], .agg #[.slice a0 x.1.length cap0, .bool x.2], .agg (gridA c (x.1, x.2)), .slice a l.length cap, .int .i64 (l.length : Int), .slice (some ⟨W3.heap.size, 0, none⟩) 0 l.length, .slice a l.length cap, .func (.func 149) #[] #[.pointer (some ⟨w4.heap.size + 1, 0, none⟩), .pointer (some ⟨w4.heap.size + 1 + 1, 0, none⟩)], .int .i64 (y.1 : Int), .agg (gridA c y.2), undef, undef, undef, undef, undef, undef, undef, undef], defers := [] }) ?hAx ?assign ?body ?done ?stop
  case assign =>
    rintro l' k y W K hx ⟨hi, hz⟩ hK
    obtain ⟨hkl, rfl⟩ := seqH_at hx
    have hw : (runS c x (l.take k)).1.length ≤ 48 := by rw [HLQ.out]; exact h48
    generalize runS c x (l.take k) = y at hx hw hK ⊢
    simp only [encH]
    gi_wp2_with (refine wpListIn_store_whole rfl 149 _ _ rfl W.heap.size (gridA c y) rfl rfl 149 _ (heap_alloc_new W _) (infoGx c y hw) (by rw [gridA_size hw]; rfl) (gridA_one c y) ?_; generalize hW : World.setRow _ _ _ = W6; have H6 := hid (now_laid hW); clear hW)
    exact hK _ _ (keeps_below H6.out.2) (kpH_below hz H6.out.2) ⟨hi.keep H6.out.2, Nat.le_trans hz H6.out.2.size⟩ ⟨W.heap.size, hz, H6.out.1, rfl⟩
  case body =>
    rintro l' k y a' W hx ⟨hi, hz⟩ ⟨nb, hnb, hgn, rfl⟩
    have hpl : ((seqH c x l).take k).length = k := by have := (List.getElem?_eq_some_iff.1 hx).1; rw [List.length_take]; omega
    have hpl2 : ((seqH c x l).take (k + 1)).length = k + 1 := by have := (List.getElem?_eq_some_iff.1 hx).1; rw [List.length_take]; omega
    obtain ⟨hkl, rfl⟩ := seqH_at hx
    rw [hpl] at hi
    rw [hpl2, Nat.add_sub_cancel]
    by_cases hk0 : k = 0
    · subst hk0
      have HI0 := hid hi
      gi_wp2
      exact ⟨keeps_below (Below.refl _ _), KpH.refl _ _ _ _, HI0.out, hz⟩
    have hk1 : (0 : Int) < (k : Int) := by omega
    have HTK := hid (show tellN f c x l k = tellN f c x l (k - 1) ++ [f (runS c x (l.take k))] by
      obtain ⟨j, rfl⟩ : ∃ j, k = j + 1 := ⟨k - 1, by omega⟩
      rw [Nat.add_sub_cancel]
      exact tellN_succ f c x l j)
    have HTL := hid (show (tellN f c x l (k - 1)).length ≤ 2000 by rw [tellN_len]; omega)
    have hwm := HWM.out k
    have hgn' : GridAt W nb c (runS c x (l.take k)) := hgn
    obtain ⟨t, ht⟩ : ∃ t, t = f (runS c x (l.take k)) := ⟨_, rfl⟩
    have HB := hid (HF.out W.drew nb (runS c x (l.take k)) hgn' hwm)
    rw [← ht] at HB HTK
    generalize tellN f c x l (k - 1) = L at *
    clear ht hwm hgn' hx hpl hpl2
    obtain ⟨v, h1, h2, h5⟩ := hi.ex
    obtain ⟨va, vc, rfl⟩ := own_shape h2
    have HX1 := hid h1; have HOW := hid h2; have HOB := hid h5; have HI2 := hid hi.three
    have c0 := cell_of_row _ _ 0 _ _ _ h1
    have c1 := cell_of_row _ _ 0 _ _ _ hi.three.fn
    simp only [List.getElem?_toArray, List.getElem?_cons_zero] at c0 c1
    clear h1 h2 h5 hi
    gi_wp2
    refine wpIn_region_any (by kernel_rfl) ?_
    change wpAnyIn _ _ _ _ _ _ _ _ _ (World.drew _)
    refine wpAnyIn_ready (rs := [0, 1]) (by kernel_rfl) (by simp) ?_
    refine AllReadyIn.cons rfl (fun K hK => ?_) ?_
    · go_simp
      refine hK _ _ ?_
      clear hK K
      refine wpAnyIn_ready (rs := [1]) (by kernel_rfl) (by simp) ?_
      refine AllReadyIn.cons rfl (fun K hK => ?_) AllReadyIn.nil
      go_simp
      refine hK _ _ ?_
      clear hK K
      refine wpAnyIn_ready (rs := [2]) (by kernel_rfl) (by simp) ?_
      refine AllReadyIn.cons rfl (fun K hK => ?_) AllReadyIn.nil
      go_simp
      refine ⟨trivial, ?_⟩
      refine (callsIn_wide.2 HB.out).mono ?_
      rintro e W7 ⟨rfl, hd⟩
      refine hK _ _ ?_
      clear hK K
      have hb7' := ((Below.refl W.heap.size W).drew).trans (below_two hd)
      have HB7 := hid hb7'
      have c7 := cell_of_row W7 w4.heap.size 0 _ _ _ ((hb7'.block _ (lt_of_block HX1.out)).trans HX1.out)
      simp only [List.getElem?_toArray, List.getElem?_cons_zero] at c7
      clear hd hb7' 
      refine wpAnyIn_ready (rs := [3]) (by kernel_rfl) (by simp) ?_
      refine AllReadyIn.cons rfl (fun K hK => ?_) AllReadyIn.nil
      go_simp
      refine hK _ _ ?_
      clear hK K
      refine wpAnyIn_ready (rs := [4]) (by kernel_rfl) (by simp) ?_
      refine AllReadyIn.cons rfl (fun K hK => ?_) AllReadyIn.nil
      refine stepIn_append_where rfl (.tmp 25) (.tmp 28) 28 rfl W3.heap.size 3 i0 (.int .i64 0) 1 8 Tryz.underlying28 hi hz0 hz1 hz2 rfl (by decide) (.slice va L.length vc) L.length (ivs L) rfl ((own_kept HOW.out HB7.out).alloc _) ⟨W7.heap.size, 0, none⟩ 1 1 [.int .i64 t] rfl rfl (cellJ rfl) oneI1 (by decide) (by have := HTL.out; unfold maxLen; omega) (by have := HTL.out; omega) (by have := HB7.out.size; rw [World.size_alloc]; omega) ?_
      intro v8 w8 hown8 hgrow8 hw8
      refine hK _ _ ?_
      clear hK K
      have HE := hid (to_end (B0 := W5.heap.size) HI2.out HX1.out HOW.out HOB.out HB7.out hown8 hgrow8 hw8 (by omega) ⟨zg, by omega⟩ (by omega) hz)
      have hx8 := to_box HX1.out HOW.out HOB.out HB7.out hgrow8
      have c8 := cell_of_row _ _ 0 _ _ _ hx8
      have f8 := frozen_of_row _ _ 0 _ _ hx8
      simp only [List.getElem?_toArray, List.getElem?_cons_zero] at c8
      obtain ⟨a8, cc8, rfl⟩ := own_shape hown8
      refine wpAnyIn_ready (rs := [5]) (by kernel_rfl) (by simp) ?_
      refine AllReadyIn.cons rfl (fun K hK => ?_) AllReadyIn.nil
      go_simp
      refine hK _ _ ?_
      clear hK K
      refine wpAnyIn_done (by kernel_rfl) ?_ _
      obtain ⟨e1, e2, e3⟩ := HE.out
      refine ⟨e2, e3, ?_, ?_⟩
      · rw [HTK.out]; exact e1
      · have s1 := hgrow8.size
        have s2 := HB7.out.size
        simp at s1 ⊢
        omega
    · refine AllReadyIn.cons rfl (fun K hK => ?_) AllReadyIn.nil
      go_simp
      refine hK _ _ ?_
      clear hK K
      refine wpAnyIn_ready (rs := [0, 2]) (by kernel_rfl) (by simp) ?_
      refine AllReadyIn.cons rfl (fun K hK => ?_) ?_
      · go_simp
        refine hK _ _ ?_
        clear hK K
        refine wpAnyIn_ready (rs := [2]) (by kernel_rfl) (by simp) ?_
        refine AllReadyIn.cons rfl (fun K hK => ?_) AllReadyIn.nil
        go_simp
        refine ⟨trivial, ?_⟩
        refine (callsIn_wide.2 HB.out).mono ?_
        rintro e W7 ⟨rfl, hd⟩
        refine hK _ _ ?_
        clear hK K
        have hb7' := ((Below.refl W.heap.size W).drew).trans (below_two hd)
        have HB7 := hid hb7'
        have c7 := cell_of_row W7 w4.heap.size 0 _ _ _ ((hb7'.block _ (lt_of_block HX1.out)).trans HX1.out)
        simp only [List.getElem?_toArray, List.getElem?_cons_zero] at c7
        clear hd hb7' 
        refine wpAnyIn_ready (rs := [3]) (by kernel_rfl) (by simp) ?_
        refine AllReadyIn.cons rfl (fun K hK => ?_) AllReadyIn.nil
        go_simp
        refine hK _ _ ?_
        clear hK K
        refine wpAnyIn_ready (rs := [4]) (by kernel_rfl) (by simp) ?_
        refine AllReadyIn.cons rfl (fun K hK => ?_) AllReadyIn.nil
        refine stepIn_append_where rfl (.tmp 25) (.tmp 28) 28 rfl W3.heap.size 3 i0 (.int .i64 0) 1 8 Tryz.underlying28 hi hz0 hz1 hz2 rfl (by decide) (.slice va L.length vc) L.length (ivs L) rfl ((own_kept HOW.out HB7.out).alloc _) ⟨W7.heap.size, 0, none⟩ 1 1 [.int .i64 t] rfl rfl (cellJ rfl) oneI1 (by decide) (by have := HTL.out; unfold maxLen; omega) (by have := HTL.out; omega) (by have := HB7.out.size; rw [World.size_alloc]; omega) ?_
        intro v8 w8 hown8 hgrow8 hw8
        refine hK _ _ ?_
        clear hK K
        have HE := hid (to_end (B0 := W5.heap.size) HI2.out HX1.out HOW.out HOB.out HB7.out hown8 hgrow8 hw8 (by omega) ⟨zg, by omega⟩ (by omega) hz)
        have hx8 := to_box HX1.out HOW.out HOB.out HB7.out hgrow8
        have c8 := cell_of_row _ _ 0 _ _ _ hx8
        have f8 := frozen_of_row _ _ 0 _ _ hx8
        simp only [List.getElem?_toArray, List.getElem?_cons_zero] at c8
        obtain ⟨a8, cc8, rfl⟩ := own_shape hown8
        refine wpAnyIn_ready (rs := [5]) (by kernel_rfl) (by simp) ?_
        refine AllReadyIn.cons rfl (fun K hK => ?_) AllReadyIn.nil
        go_simp
        refine hK _ _ ?_
        clear hK K
        refine wpAnyIn_done (by kernel_rfl) ?_ _
        obtain ⟨e1, e2, e3⟩ := HE.out
        refine ⟨e2, e3, ?_, ?_⟩
        · rw [HTK.out]; exact e1
        · have s1 := hgrow8.size
          have s2 := HB7.out.size
          simp at s1 ⊢
          omega
      · refine AllReadyIn.cons rfl (fun K hK => ?_) AllReadyIn.nil
        go_simp
        refine ⟨trivial, ?_⟩
        refine (callsIn_wide.2 HB.out).mono ?_
        rintro e W7 ⟨rfl, hd⟩
        refine hK _ _ ?_
        clear hK K
        have hb7' := ((Below.refl W.heap.size W).drew).trans (below_two hd)
        have HB7 := hid hb7'
        have c7 := cell_of_row W7 w4.heap.size 0 _ _ _ ((hb7'.block _ (lt_of_block HX1.out)).trans HX1.out)
        simp only [List.getElem?_toArray, List.getElem?_cons_zero] at c7
        clear hd hb7' 
        refine wpAnyIn_ready (rs := [0, 3]) (by kernel_rfl) (by simp) ?_
        refine AllReadyIn.cons rfl (fun K hK => ?_) ?_
        · go_simp
          refine hK _ _ ?_
          clear hK K
          refine wpAnyIn_ready (rs := [3]) (by kernel_rfl) (by simp) ?_
          refine AllReadyIn.cons rfl (fun K hK => ?_) AllReadyIn.nil
          go_simp
          refine hK _ _ ?_
          clear hK K
          refine wpAnyIn_ready (rs := [4]) (by kernel_rfl) (by simp) ?_
          refine AllReadyIn.cons rfl (fun K hK => ?_) AllReadyIn.nil
          refine stepIn_append_where rfl (.tmp 25) (.tmp 28) 28 rfl W3.heap.size 3 i0 (.int .i64 0) 1 8 Tryz.underlying28 hi hz0 hz1 hz2 rfl (by decide) (.slice va L.length vc) L.length (ivs L) rfl ((own_kept HOW.out HB7.out).alloc _) ⟨W7.heap.size, 0, none⟩ 1 1 [.int .i64 t] rfl rfl (cellJ rfl) oneI1 (by decide) (by have := HTL.out; unfold maxLen; omega) (by have := HTL.out; omega) (by have := HB7.out.size; rw [World.size_alloc]; omega) ?_
          intro v8 w8 hown8 hgrow8 hw8
          refine hK _ _ ?_
          clear hK K
          have HE := hid (to_end (B0 := W5.heap.size) HI2.out HX1.out HOW.out HOB.out HB7.out hown8 hgrow8 hw8 (by omega) ⟨zg, by omega⟩ (by omega) hz)
          have hx8 := to_box HX1.out HOW.out HOB.out HB7.out hgrow8
          have c8 := cell_of_row _ _ 0 _ _ _ hx8
          have f8 := frozen_of_row _ _ 0 _ _ hx8
          simp only [List.getElem?_toArray, List.getElem?_cons_zero] at c8
          obtain ⟨a8, cc8, rfl⟩ := own_shape hown8
          refine wpAnyIn_ready (rs := [5]) (by kernel_rfl) (by simp) ?_
          refine AllReadyIn.cons rfl (fun K hK => ?_) AllReadyIn.nil
          go_simp
          refine hK _ _ ?_
          clear hK K
          refine wpAnyIn_done (by kernel_rfl) ?_ _
          obtain ⟨e1, e2, e3⟩ := HE.out
          refine ⟨e2, e3, ?_, ?_⟩
          · rw [HTK.out]; exact e1
          · have s1 := hgrow8.size
            have s2 := HB7.out.size
            simp at s1 ⊢
            omega
        · refine AllReadyIn.cons rfl (fun K hK => ?_) AllReadyIn.nil
          go_simp
          refine hK _ _ ?_
          clear hK K
          have c9 := keep_cell ((Below.refl _ W7).alloc (Nat.le_refl _) (.cells #[.int .i64 t] 3)) c7
          refine wpAnyIn_ready (rs := [0]) (by kernel_rfl) (by simp) ?_
          refine AllReadyIn.cons rfl (fun K hK => ?_) AllReadyIn.nil
          go_simp
          refine hK _ _ ?_
          clear hK K
          refine wpAnyIn_ready (rs := [4]) (by kernel_rfl) (by simp) ?_
          refine AllReadyIn.cons rfl (fun K hK => ?_) AllReadyIn.nil
          refine stepIn_append_where rfl (.tmp 25) (.tmp 28) 28 rfl W3.heap.size 3 i0 (.int .i64 0) 1 8 Tryz.underlying28 hi hz0 hz1 hz2 rfl (by decide) (.slice va L.length vc) L.length (ivs L) rfl ((own_kept HOW.out HB7.out).alloc _) ⟨W7.heap.size, 0, none⟩ 1 1 [.int .i64 t] rfl rfl (cellJ rfl) oneI1 (by decide) (by have := HTL.out; unfold maxLen; omega) (by have := HTL.out; omega) (by have := HB7.out.size; rw [World.size_alloc]; omega) ?_
          intro v8 w8 hown8 hgrow8 hw8
          refine hK _ _ ?_
          clear hK K
          have HE := hid (to_end (B0 := W5.heap.size) HI2.out HX1.out HOW.out HOB.out HB7.out hown8 hgrow8 hw8 (by omega) ⟨zg, by omega⟩ (by omega) hz)
          have hx8 := to_box HX1.out HOW.out HOB.out HB7.out hgrow8
          have c8 := cell_of_row _ _ 0 _ _ _ hx8
          have f8 := frozen_of_row _ _ 0 _ _ hx8
          simp only [List.getElem?_toArray, List.getElem?_cons_zero] at c8
          obtain ⟨a8, cc8, rfl⟩ := own_shape hown8
          refine wpAnyIn_ready (rs := [5]) (by kernel_rfl) (by simp) ?_
          refine AllReadyIn.cons rfl (fun K hK => ?_) AllReadyIn.nil
          go_simp
          refine hK _ _ ?_
          clear hK K
          refine wpAnyIn_done (by kernel_rfl) ?_ _
          obtain ⟨e1, e2, e3⟩ := HE.out
          refine ⟨e2, e3, ?_, ?_⟩
          · rw [HTK.out]; exact e1
          · have s1 := hgrow8.size
            have s2 := HB7.out.size
            simp at s1 ⊢
            omega
  case done =>
    rintro D W hD ⟨hi, hz⟩ hK
    rw [seqH_len, Nat.add_sub_cancel] at hi
    have HK := hid hK
    have htl := tellN_len f c x l l.length
    obtain ⟨v, h1, h2, h5⟩ := hi.ex
    obtain ⟨va, vc, rfl⟩ := own_shape h2
    have hrd := own_rowI h2 (by omega)
    rw [htl] at hrd h1
    have HRD := hid hrd
    have HLW := hid hi.three.two.low
    have HTL := hid htl
    have c0 := cell_of_row _ _ 0 _ _ _ h1
    simp only [List.getElem?_toArray, List.getElem?_cons_zero] at c0
    clear h1 h2 h5 hi hrd hK htl
    gi_wp2
    refine leaves_marks (B := w.heap.size) [D] W ⟨by simp, fun d hd => by rw [List.mem_singleton] at hd; subst hd; exact ⟨by omega, HK.out⟩⟩ fun W9 hb9 hc9 => ?_
    refine ⟨.slice va l.length vc, by simp [results, Tryz.results87, go_sem], va, vc, by rw [HTL.out], ?_, HLW.out.trans hb9⟩
    rw [HTL.out]
    exact HRD.out.cells hc9
  case stop => rintro D k W hD h; exact h.elim
  case hI =>
    rintro pre A B' row ⟨h1, h2⟩ hgr hr
    exact ⟨h1.turn (B0 := W5.heap.size) (by omega) (by omega) hgr hr, Nat.le_trans h2 hgr.size⟩
  case hIx => rintro pre A B' row h; exact h.elim
  case hAx =>
    rintro y a' W l' o1 o2 ⟨nb, h1, h2, h3⟩ hl' ho hc'
    exact ⟨nb, h1, (World.putObj_heap_other (by rintro rfl; rw [h2] at ho; cases ho; cases hc')).trans h2, h3⟩
end Go.Proofs.YtedfajokiblfhaaGreat

/- Walk of told where a place is told: contract. -/
namespace Go.Proofs.YtedfajokiblfhaaGreat
open Go.RowKit Go.Shelf
attribute [local go_sem] Oper.semAt_some

end Go.Proofs.YtedfajokiblfhaaGreat

/- Walks of asked and Copy of the reference: contracts. -/
namespace Go.Proofs.YtedfajokiblfhaaGreat
open Go.RowKit

/-- The boxes of Copy. -/
structure RC (w w1 : World) (A B : Array Value) : Prop where
  bod : w1.heap[w.heap.size]? = some (.cells A 67 (0, 0))
  res : w1.heap[w.heap.size + 1]? = some (.cells B 67 (0, 0))
  low : Below w.heap.size w w1
theorem rc_start {w : World} {A B : Array Value} : RC w ((w.alloc (.cells A 67)).alloc (.cells B 67)) A B :=
  ⟨heap_alloc2_old w _ _, heap_alloc2_new w _ _, ((Below.refl _ _).alloc (Nat.le_refl _) _).alloc (by simp) _⟩
theorem RC.keep {w w1 w2 : World} {A B : Array Value} (h : RC w w1 A B) (hb : Below w1.heap.size w1 w2) : RC w w2 A B :=
  ⟨(hb.block _ (lt_of_block h.bod)).trans h.bod, (hb.block _ (lt_of_block h.res)).trans h.res, bstep h.low h.low.size hb⟩
theorem RC.app {w W W' : World} {A B : Array Value} {v v' : Value} {xs : List Value} {l : List Int} (h : RC w W A B) (hown : W.ownsRow (w.heap.size + 2) 3 1 v xs.length xs) (hA : AppP W (w.heap.size + 2) 3 v xs l v' W') : RC w W' A B := by
  have hne : ∀ b, b < w.heap.size + 2 → some b ≠ v.ownBlock := fun b hb e => by have := (World.ownsRow.lt hown b e.symm).1; omega
  exact ⟨(hA.2.1.block _ (lt_of_block h.bod) (hne _ (by omega))).trans h.bod, (hA.2.1.block _ (lt_of_block h.res) (hne _ (by omega))).trans h.res, h.low.grown hA.2.1 h.low.size (fun k hk => by have := (World.ownsRow.lt hown k hk).1; omega)⟩
theorem RC.set0 {w W : World} {B : Array Value} {u0 br u : Value} (h : RC w W #[u0, br] B) : RC w (W.setCell ⟨w.heap.size, 0, none⟩ u) #[u, br] B :=
  ⟨heap_setCell_same W _ 0 _ _ u h.bod, (heap_setCell_other _ _ _ _ (show w.heap.size + 1 ≠ w.heap.size by omega)).trans h.res, h.low.setCell (p := ⟨w.heap.size, 0, none⟩) (Nat.le_refl _) u⟩
theorem RC.fin {w W : World} {A : Array Value} {d0 d1 u v : Value} (h : RC w W A #[d0, d1]) : RC w ((W.setCell ⟨w.heap.size + 1, 0, none⟩ u).setCell ⟨w.heap.size + 1, 1, none⟩ v) A #[u, v] := by
  have h1 := heap_setCell_same W (w.heap.size + 1) 0 _ _ u h.res
  have h2 := heap_setCell_same _ (w.heap.size + 1) 1 _ _ v h1
  refine ⟨?_, h2, (h.low.setCell (p := ⟨w.heap.size + 1, 0, none⟩) (Nat.le_succ _) u).setCell (p := ⟨w.heap.size + 1, 1, none⟩) (Nat.le_succ _) v⟩
  rw [heap_setCell_other _ _ _ _ (show w.heap.size ≠ w.heap.size + 1 by omega), heap_setCell_other _ _ _ _ (show w.heap.size ≠ w.heap.size + 1 by omega)]
  exact h.bod
theorem RC.four {w W : World} {a0 a1 b0 b1 : Value} (h : RC w W #[a0, a1] #[b0, b1]) : W.cell? ⟨w.heap.size, 0, none⟩ = some a0 ∧ W.cell? ⟨w.heap.size, 1, none⟩ = some a1 ∧ W.cell? ⟨w.heap.size + 1, 0, none⟩ = some b0 ∧ W.cell? ⟨w.heap.size + 1, 1, none⟩ = some b1 ∧
    W.frozen? ⟨w.heap.size, 0, none⟩ = false ∧ W.frozen? ⟨w.heap.size + 1, 0, none⟩ = false ∧ W.frozen? ⟨w.heap.size + 1, 1, none⟩ = false :=
  ⟨cell_of_row _ _ 0 _ _ _ h.bod, cell_of_row _ _ 1 _ _ _ h.bod, cell_of_row _ _ 0 _ _ _ h.res, cell_of_row _ _ 1 _ _ _ h.res, frozen_of_row _ _ 0 _ _ h.bod, frozen_of_row _ _ 0 _ _ h.res, frozen_of_row _ _ 1 _ _ h.res⟩
end Go.Proofs.YtedfajokiblfhaaGreat

/- An append at a step of a region that draws: the grown row, and what was read of the old one. -/
namespace Go.Proofs.YtedfajokiblfhaaGreat
open Go.RowKit Go.Shelf

theorem add_at (g j : Nat) : (⟨g, 0, none⟩ : Addr).add j = ⟨g, j, none⟩ := by
  unfold Addr.add
  split
  · subst_vars; rfl
  · simp

theorem run_append_more {P : Program} (w : World) (base : Nat) (t ty e : TypeId) (i : TypeInfo) (z : Value) (size bytes : Nat) (ht : P.underlying t = some (.slice e)) (hi : P.info? e = some i) (hz : i.zero = some z) (hsize : i.size = size) (hby : i.bytes = bytes) (hzs : z.cells.size = size) (hsz : 0 < size)
    (v : Value) (n : Nat) (xs : List Value) (hown : w.ownsRow base e size v n xs) (a : Addr) (m c : Nat) (news : List Value) (hl : news.length = m * size) (hnews : ∀ j u, news[j]? = some u → w.cell? (a.add j) = some u) (h1 : ∀ u ∈ news, u.oneCell' = true) (hm : 0 < m)
    (h63 : n + m ≤ maxLen) (hbytes : (n + m) * bytes ≤ 140737488355328) (hbase : base ≤ w.heap.size) :
    ∃ v' w', (Builtin.append_ #[t, t] ty #[v, .slice (some a) m c]).run P w = .ok v' w' ∧ w'.ownsRow base e size v' (n + m) (xs ++ news) ∧ w.grownBy w' v.ownBlock ∧ (v'.ownBlock = v.ownBlock ∨ v'.ownBlock = some w.heap.size) ∧ (∀ g j u, v.ownBlock = some g → xs[j]? = some u → w'.cell? ⟨g, j, none⟩ = some u) := by
  obtain ⟨v', w', hr, h2, h3, -⟩ := run_append_own (P := P) w base t ty e i z size bytes ht hi hz hsize hby hzs hsz v n xs hown a m c news hl hnews h1 h63 hbytes hbase
  refine ⟨v', w', hr, h2, h3, ?_⟩
  have hs63 : n + m ≤ 9223372036854775807 := by simp only [maxLen] at h63; omega
  rcases hown.2 with ⟨rfl, rfl⟩ | ⟨g, cap, cur, rfl, hbg, hg, hnc, hcm, hcs, htake⟩
  · subst hsize; subst hby
    have hr2 := run_append_nil (P := P) w t ty e i z ht hi hz a m c news hl hnews (by omega) (by omega) (by have hb := hbytes; simp only [Nat.zero_add] at hb; omega)
    rw [hr] at hr2
    cases hr2
    exact ⟨.inr rfl, fun g j u hg => by cases hg⟩
  · by_cases hroom : n + m ≤ cap
    · obtain ⟨w2, hr2, h22, -⟩ := run_append_fits (P := P) w base t ty e i size ht hi hsize g n cap xs hown a m c news hl hnews h1 hroom
      rw [hr] at hr2
      cases hr2
      refine ⟨.inl rfl, fun g' j u hg' hx => ?_⟩
      cases hg'
      have := h22.cells (g := g) rfl j u (by rw [List.getElem?_append_left (List.getElem?_eq_some_iff.1 hx).1]; exact hx)
      rwa [add_at] at this
    · subst hsize; subst hby
      have hr2 := run_append_grow (P := P) w t ty e i z ht hi hz ⟨g, 0, none⟩ n cap xs hown.1 (hown.cells (g := g) rfl) a m c news hl hnews (by omega) (by omega) (growslice_fits (by omega) hbytes)
      rw [hr] at hr2
      cases hr2
      refine ⟨.inr rfl, fun g' j u hg' hx => ?_⟩
      cases hg'
      have h5 := hown.cells (g := g) rfl j u hx
      rw [add_at] at h5
      exact keep_cell ((Below.refl _ w).drew.alloc (Nat.le_refl _) _) h5
/-- The same, at a step of a region that draws. -/
theorem step_append_more {P : Program} {w : World} {ops : Array Oper} {o : Oper} {a : Act} {K : Act → World → Prop} {Q : Exit → Act → World → Prop} {E : Prop}
    (hg : o.guard = none) (s x : Operand) (t : TypeId) (hop : o.op = Op.call { callee := Callee.builtin Builtin.append, args := #[s, x], argTypes := #[t, t] })
    (base : Nat) (e : TypeId) (i : TypeInfo) (z : Value) (size bytes : Nat) (h1 : P.underlying t = some (.slice e)) (h2 : P.info? e = some i) (h3 : i.zero = some z) (h4 : i.size = size) (h5 : i.bytes = bytes) (h6 : z.cells.size = size) (h7 : 0 < size)
    (v : Value) (k : Nat) (xs : List Value) (hs : a.eval s = v) (hown : w.ownsRow base e size v k xs) (ad : Addr) (m c : Nat) (news : List Value) (hx : a.eval x = .slice (some ad) m c) (hn : news.length = m * size)
    (hc : ∀ j u, news[j]? = some u → w.cell? (ad.add j) = some u) (h1c : ∀ u ∈ news, u.oneCell' = true) (hm : 0 < m) (b1 : k + m ≤ maxLen) (b2 : (k + m) * bytes ≤ 140737488355328) (b3 : base ≤ w.heap.size)
    (hK : ∀ v' w', w'.ownsRow base e size v' (k + m) (xs ++ news) → w.grownBy w' v.ownBlock → (v'.ownBlock = v.ownBlock ∨ v'.ownBlock = some w.heap.size) → (∀ g j u, v.ownBlock = some g → xs[j]? = some u → w'.cell? ⟨g, j, none⟩ = some u) → K (a.put o.dst v') w') :
    if Region.wanted o (yielded ops a.tmps) = true then Oper.wp P o a w K Q else E := by
  have hw : Region.wanted o (yielded ops a.tmps) = true := by simp [Region.wanted, hg]
  rw [if_pos hw]
  obtain ⟨v', w', hrun, r1, r2, r3, r4⟩ := run_append_more (P := P) w base t o.type e i z size bytes h1 h2 h3 h4 h5 h6 h7 v k xs hown ad m c news hn hc h1c hm b1 b2 b3
  unfold Oper.wp
  simp only [execOp, hop, resolve, invoke, builtin, Sem.run_bind, Sem.run_pure, Result.andThen_ok, List.map_toArray, List.map_cons, List.map_nil, hs, hx, hrun]
  exact hK v' w' r1 r2 r3 r4
end Go.Proofs.YtedfajokiblfhaaGreat

/- Walk of Follow of the reference: contract. -/
namespace Go.Proofs.YtedfajokiblfhaaGreat
open Go.RowKit Go.Shelf

/-- The bodies behind no, one, .., n ticks. -/
def folN (c : Cn) (x : Bd) (l : List Int) (n : Nat) : List Bd := (List.range (n + 1)).map fun k => runS c x (l.take k)
theorem folN_all (c : Cn) (x : Bd) (l : List Int) : folN c x l l.length = folL c x l := by unfold folN folL seqH; rw [List.map_map]; rfl
theorem folN_len (c : Cn) (x : Bd) (l : List Int) (n : Nat) : (folN c x l n).length = n + 1 := by simp [folN]
theorem folN_succ (c : Cn) (x : Bd) (l : List Int) (n : Nat) : folN c x l (n + 1) = folN c x l n ++ [runS c x (l.take (n + 1))] := by unfold folN; rw [List.range_succ, List.map_append]; rfl
theorem folN_at (c : Cn) (x : Bd) (l : List Int) (n k : Nat) (h : k ≤ n) : (folN c x l n)[k]'(by rw [folN_len]; omega) = runS c x (l.take k) := by simp [folN]
theorem r2_grow {w W W' : World} {A B : Array Value} {g : Nat} (h : R2 w W A B) (hg : W.grownBy W' (some g)) (hb : w.heap.size + 2 ≤ g) : R2 w W' A B :=
  ⟨(hg.block _ (lt_of_block h.can) (by intro e; cases e; omega)).trans h.can, (hg.block _ (lt_of_block h.res) (by intro e; cases e; omega)).trans h.res, h.low.grown hg h.low.size (fun j e => by cases e; omega)⟩
/-- What the region of the append stands on. -/
def RawFo (w : World) (A B : Array Value) (g n ba o : Nat) (u b t : Value) (w1 : World) : Prop :=
  w1.cell? ⟨g, n * 2, none⟩ = some u ∧ w1.cell? ⟨g, n * 2 + 1, none⟩ = some b ∧ w1.cell? ⟨ba, o + n, none⟩ = some t ∧ R2 w w1 A B
theorem RawFo.keep {w W W' : World} {A B : Array Value} {g n ba o : Nat} {u b t : Value} (h : RawFo w A B g n ba o u b t W) (hb : Below W.heap.size W W') : RawFo w A B g n ba o u b t W' :=
  ⟨keep_cell hb h.1, keep_cell hb h.2.1, keep_cell hb h.2.2.1, h.2.2.2.keep hb⟩
end Go.Proofs.YtedfajokiblfhaaGreat

/- A region that draws its order, whose operations only read, and whose callees read and may make memory of their own: one walk, in the order of the text. No seat's names. -/
namespace Go.Proofs.YtedfajokiblfhaaGreat
open Go.RowKit

/-- A world in which all that lay in w lies as it was. -/
structure LowBy (w : World) where
  W : World
  low : Below w.heap.size w W
instance (w : World) : Inhabited (LowBy w) := ⟨⟨w, Below.refl _ _⟩⟩
section
variable {P : Program}
theorem wp_region_quiet_low {id : Nat} {Q : Exit → Act → World → Prop} {a : Act} {w : World} {l : List Oper} (hm : P.follows .mixedOrders = true) (hB : Region.lexB .any l.toArray = true)
    (h : wpQuiet P l.toArray (fun w' => ∃ p : LowBy w, w' = p.W) (fun a' => ∀ w', (∃ p : LowBy w, w' = p.W) → Q .normal a' w') l a) : (Code.region id l.toArray true).wp P Q a w :=
  wp_region_quiet (C := fun w' => ∃ p : LowBy w, w' = p.W) hm hB ⟨⟨w.drew, (Below.refl _ _).drew⟩, rfl⟩ (by simpa using h)
/-- The list of what is left behind a letter: else what is behind a guard that is not wanted is opened again and again. -/
theorem wp_region_low {id : Nat} {Q : Exit → Act → World → Prop} {a : Act} {w : World} {l : List Oper} (hm : P.follows .mixedOrders = true) (hB : Region.lexB .any l.toArray = true)
    (h : ∀ R, Hid (R = l) → wpQuiet P l.toArray (fun w' => ∃ p : LowBy w, w' = p.W) (fun a' => ∀ w', (∃ p : LowBy w, w' = p.W) → Q .normal a' w') R a) : (Code.region id l.toArray true).wp P Q a w :=
  wp_region_quiet_low hm hB (h l rfl)
theorem low_step {ops : Array Oper} {C : World → Prop} {Q : Act → Prop} {a : Act} {o : Oper} {R rest : List Oper} (hR : Hid (R = o :: rest))
    (h : ∀ R' : List Oper, Hid (R' = rest) → ∀ K : Act → Prop, (∀ a, wpQuiet P ops C Q R' a → K a) → if Region.wanted o (yielded ops a.tmps) then o.quiet P a C K else K (a.put o.dst undef)) : wpQuiet P ops C Q R a := by
  rw [hR.out]
  exact wpQuiet_step (h rest rfl)
theorem low_nil {ops : Array Oper} {C : World → Prop} {Q : Act → Prop} {a : Act} {R : List Oper} (hR : Hid (R = [])) (h : Q a) : wpQuiet P ops C Q R a := by
  rw [hR.out]
  exact wpQuiet_nil h
theorem low_of {f : FuncId} {args : Array Value} {w : World} {p : LowBy w} {v : Value}
    (h : Calls P f args p.W fun e w' => e = .returned v ∧ Below p.W.heap.size p.W w') : Calls P f args p.W fun e w'' => e = .returned v ∧ ∃ q : LowBy w, w'' = q.W :=
  h.mono fun _ w' ⟨he, hb⟩ => ⟨he, ⟨w', bstep p.low p.low.size hb⟩, rfl⟩
theorem low_of_same {f : FuncId} {args : Array Value} {w : World} {p : LowBy w} {v : Value}
    (h : Calls P f args p.W fun e w' => e = .returned v ∧ p.W = w') : Calls P f args p.W fun e w'' => e = .returned v ∧ ∃ q : LowBy w, w'' = q.W :=
  h.mono fun _ _ ⟨he, hb⟩ => ⟨he, p, hb.symm⟩
theorem low_cell {w : World} {b i : Nat} {v : Value} (h : w.cell? ⟨b, i, none⟩ = some v) (p : LowBy w) : p.W.cell? ⟨b, i, none⟩ = some v := keep_cell p.low h
end
end Go.Proofs.YtedfajokiblfhaaGreat

/- Walks of Follow of both, whatever comes in; of Step, Run and SameBodies of the reference: contracts. -/
namespace Go.Proofs.YtedfajokiblfhaaGreat
open Go.RowKit

/-- What Follow hands back. -/
def folO (r l a b k a2 b2 : Int) (x : Bd) (p : List Int) : List Bd × Int :=
  if chkE (bothB r l a b k a2 b2 x.1 x.2) p = 0 then (folL (cnOf r l a b k a2 b2) x p, 0) else ([], chkE (bothB r l a b k a2 b2 x.1 x.2) p)
theorem folO_ok {r l a b k a2 b2 : Int} {x : Bd} {p : List Int} (h : chkE (bothB r l a b k a2 b2 x.1 x.2) p = 0) : folO r l a b k a2 b2 x p = (folL (cnOf r l a b k a2 b2) x p, 0) := by unfold folO; rw [if_pos h]
theorem folO_err {r l a b k a2 b2 : Int} {x : Bd} {p : List Int} (h : chkE (bothB r l a b k a2 b2 x.1 x.2) p ≠ 0) : folO r l a b k a2 b2 x p = ([], chkE (bothB r l a b k a2 b2 x.1 x.2) p) := by unfold folO; rw [if_neg h]
theorem folL_len (c : Cn) (x : Bd) (p : List Int) : (folL c x p).length = p.length + 1 := by unfold folL; rw [List.length_map, seqH_len]
theorem folL_at (c : Cn) (x : Bd) (p : List Int) (k : Nat) (h : k ≤ p.length) : (folL c x p)[k]'(by rw [folL_len]; omega) = runS c x (p.take k) := by
  have h1 := seqH_get c x p k h
  unfold folL
  rw [List.getElem_map]
  have h2 := (List.getElem?_eq_some_iff.1 h1).2
  rw [h2]
end Go.Proofs.YtedfajokiblfhaaGreat

/- Walks of Cold and At: contracts. -/
namespace Go.Proofs.YtedfajokiblfhaaGreat
open Go.RowKit

/-- A list of numbers comes back, and an error. -/
def ColP (L : List Int) (n : Int) (w : World) (e : Ending) (w' : World) : Prop := ∃ (ua : Option Addr) (uc : Nat), e = .returned (.tuple #[.slice ua L.length uc, .int .i64 n]) ∧ RowI w' (.slice ua L.length uc) L ∧ Below w.heap.size w w'
theorem rowI_nil (w : World) : RowI w (.slice none 0 0) [] := .inl ⟨_, _, rfl, rfl⟩
/-- What Cold hands back. -/
def colO (r l a b k a2 b2 : Int) (x : Bd) (p : List Int) : List Int × Int :=
  if chkE (bothB r l a b k a2 b2 x.1 x.2) p = 0 then (tellN (fun y => minT y.1) (cnOf r l a b k a2 b2) x p p.length, 0) else ([], chkE (bothB r l a b k a2 b2 x.1 x.2) p)
theorem colO_ok {r l a b k a2 b2 : Int} {x : Bd} {p : List Int} (h : chkE (bothB r l a b k a2 b2 x.1 x.2) p = 0) : colO r l a b k a2 b2 x p = (tellN (fun y => minT y.1) (cnOf r l a b k a2 b2) x p p.length, 0) := by unfold colO; rw [if_pos h]
theorem colO_err {r l a b k a2 b2 : Int} {x : Bd} {p : List Int} (h : chkE (bothB r l a b k a2 b2 x.1 x.2) p ≠ 0) : colO r l a b k a2 b2 x p = ([], chkE (bothB r l a b k a2 b2 x.1 x.2) p) := by unfold colO; rw [if_neg h]
/-- What At hands back. -/
def atO (r l a b k a2 b2 : Int) (x : Bd) (p : List Int) (pl : Int) : List Int × Int :=
  if chkE (bothB r l a b k a2 b2 x.1 x.2) p = 0 then (if 0 ≤ pl ∧ pl ≤ r * l - 1 then (tellN (fun y => y.1.getD pl.toNat 0) (cnOf r l a b k a2 b2) x p p.length, 0) else ([], 5)) else ([], chkE (bothB r l a b k a2 b2 x.1 x.2) p)
theorem atO_ok {c : Cn} {x : Bd} {p : List Int} {q : Nat} (h : chkE (bothB c.R c.L c.A c.B c.K c.A2 c.B2 x.1 x.2) p = 0) (hq : q < c.P) : atO c.R c.L c.A c.B c.K c.A2 c.B2 x p q = (tellN (fun y => y.1.getD q 0) c x p p.length, 0) := by
  have hP := c.P_int
  unfold atO
  rw [if_pos h, if_pos (by rw [← hP]; omega), cnOf_cn, Int.toNat_natCast]
theorem atO_name {c : Cn} {x : Bd} {p : List Int} {pl : Int} (h : chkE (bothB c.R c.L c.A c.B c.K c.A2 c.B2 x.1 x.2) p = 0) (hq : ¬ (0 ≤ pl ∧ pl ≤ (c.P : Int) - 1)) : atO c.R c.L c.A c.B c.K c.A2 c.B2 x p pl = ([], 5) := by
  have hP := c.P_int
  unfold atO
  rw [if_pos h, if_neg (by rw [← hP]; exact hq)]
theorem atO_err {r l a b k a2 b2 : Int} {x : Bd} {p : List Int} {pl : Int} (h : chkE (bothB r l a b k a2 b2 x.1 x.2) p ≠ 0) : atO r l a b k a2 b2 x p pl = ([], chkE (bothB r l a b k a2 b2 x.1 x.2) p) := by unfold atO; rw [if_neg h]
set_option maxRecDepth 20000 in
set_option maxHeartbeats 2000000 in
theorem hcold_all (r l a b k a2 b2 : Int) (w : World) (v : Value) (T : List Int) (br : Bool) (v2 : Value) (p : List Int) (hl : RowI w v T) (hl2 : RowI w v2 p) :
    Calls Tryz.prog 46 #[.agg #[.int .i64 r, .int .i64 l, .int .i64 a, .int .i64 b, .int .i64 k, .int .i64 a2, .int .i64 b2], .agg #[v, .bool br], v2] w (ColP (colO r l a b k a2 b2 (T, br) p).1 (colO r l a b k a2 b2 (T, br) p).2 w) := by
  have HL := hid (fun w1 (g : Below w.heap.size w w1) => hl.keep g)
  have HL2 := hid (fun w1 (g : Below w.heap.size w w1) => hl2.keep g)
  have HC := hid (fun w1 v h1 h2 => check_any r l a b k a2 b2 w1 v T br v2 p h1 h2)
  obtain ⟨a0, cap, rfl⟩ := hl.shape
  clear hl hl2
  have HS := hid (r2_start (w := w) (A := #[.int .i64 r, .int .i64 l, .int .i64 a, .int .i64 b, .int .i64 k, .int .i64 a2, .int .i64 b2]) (R := #[.slice a0 T.length cap, .bool br]))
  rcases chkE_cases (bothB r l a b k a2 b2 T br) p with hne | ⟨h0, hbb, ho, hlen⟩
  · rw [colO_err (x := (T, br)) hne]
    obtain ⟨ce, hce⟩ : ∃ ce, ce = chkE (bothB r l a b k a2 b2 T br) p := ⟨_, rfl⟩
    rw [← hce] at hne HC ⊢
    have hb0 : (ce == 0) = false := by simpa using hne
    have hb1 : (ce != 0) = true := by simpa using hne
    clear hce
    go_enter Tryz.func46, Tryz.ntmps46
    go_wp2_with (go_at_call 86; refine (HC.out _ _ (HL.out _ HS.out.low) (HL2.out _ HS.out.low)).mono ?_; rintro e w1 ⟨rfl, hb⟩; have H1 := hid (HS.out.keep hb); clear hb)
    go_ret2
    exact ⟨none, 0, rfl, rowI_nil _, H1.out.low⟩
  · rw [colO_ok (x := (T, br)) h0]
    rw [h0] at HC
    obtain ⟨c, hcv, ⟨rfl, rfl, rfl, rfl, rfl, rfl, rfl⟩, hbv, hwm⟩ := both_open hbb
    rw [cnOf_cn]
    have HT := hid (fun w1 h1 h2 => told_cold c (T, br) (.slice a0 T.length cap) v2 p w1 hcv hbv ho hlen h1 h2)
    obtain ⟨L, hL⟩ : ∃ L, L = tellN (fun y => minT y.1) c (T, br) p p.length := ⟨_, rfl⟩
    rw [← hL] at HT ⊢
    unfold ToldP at HT
    clear hcv hbv hwm ho hL hbb h0
    go_enter Tryz.func46, Tryz.ntmps46
    go_wp2_with (first
      | (go_at_call 86; refine (HC.out _ _ (HL.out _ HS.out.low) (HL2.out _ HS.out.low)).mono ?_; rintro e w1 ⟨rfl, hb⟩; have H1 := hid (HS.out.keep hb); clear hb; obtain ⟨k0, k1, k2, k3, k4, k5, k6, k7, k8, k9, k10⟩ := H1.out.nine)
      | (go_at_call 87; refine (HT.out _ (HL.out _ H1.out.low) (HL2.out _ H1.out.low)).mono ?_; rintro e w2 ⟨ua, uc, rfl, hri, hb⟩; have H2 := hid (H1.out.keep hb); have HRI := hid hri; clear hri hb))
    go_ret2
    exact ⟨ua, uc, rfl, HRI.out, H2.out.low⟩
/-- At's boxes. -/
structure P3 (w w1 : World) (A B : Array Value) (pl : Int) : Prop where
  two : R2 w w1 A B
  plc : w1.heap[w.heap.size + 1 + 1]? = some (.cells #[.int .i64 pl] 3 (0, 0))
theorem p3_start {w : World} {A B : Array Value} {pl : Int} : P3 w (((w.alloc (.cells A 23)).alloc (.cells B 67)).alloc (.cells #[.int .i64 pl] 3)) A B pl :=
  ⟨(r2_start (A := A) (R := B)).keep ((Below.refl _ _).alloc (Nat.le_refl _) _), new_at (by simp)⟩
theorem P3.keep {w w1 w2 : World} {A B : Array Value} {pl : Int} (h : P3 w w1 A B pl) (hb : Below w1.heap.size w1 w2) : P3 w w2 A B pl := ⟨h.two.keep hb, (hb.block _ (lt_of_block h.plc)).trans h.plc⟩
theorem P3.ten {w w1 : World} {c0 c1 c2 c3 c4 c5 c6 d0 d1 : Value} {pl : Int} (h : P3 w w1 #[c0, c1, c2, c3, c4, c5, c6] #[d0, d1] pl) :
    (w1.cell? ⟨w.heap.size, 0, none⟩ = some c0 ∧ w1.cell? ⟨w.heap.size, 1, none⟩ = some c1 ∧ w1.cell? ⟨w.heap.size, 2, none⟩ = some c2 ∧ w1.cell? ⟨w.heap.size, 3, none⟩ = some c3 ∧ w1.cell? ⟨w.heap.size, 4, none⟩ = some c4 ∧ w1.cell? ⟨w.heap.size, 5, none⟩ = some c5 ∧ w1.cell? ⟨w.heap.size, 6, none⟩ = some c6) ∧
    (w1.cell? ⟨w.heap.size + 1, 0, none⟩ = some d0 ∧ w1.cell? ⟨w.heap.size + 1, 1, none⟩ = some d1) ∧ w1.cell? ⟨w.heap.size + 1 + 1, 0, none⟩ = some (.int .i64 pl) := by
  obtain ⟨k0, k1, k2, k3, k4, k5, k6, k7, k8, _⟩ := h.two.nine
  exact ⟨⟨k0, k1, k2, k3, k4, k5, k6⟩, ⟨k7, k8⟩, cell_of_row _ _ 0 _ _ _ h.plc⟩
end Go.Proofs.YtedfajokiblfhaaGreat
