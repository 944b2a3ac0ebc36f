/- Texts of this seat, one behind the other. -/
import Derived.Test.YtihbjimnjhfpeaaGreatG06
import Derived.Test.YtihbjimnjhfpeaaGreatG30
import Derived.Test.YtihbjimnjhfpeaaGreatG02
import Derived.Test.YtihbjimnjhfpeaaGreatG19
import Derived.Test.YtihbjimnjhfpeaaGreatG20
/- Lists of bodies: own ones and those that are read; an append at a step of a region that draws, in a fenced walk. -/
namespace Go.Proofs.YtihbjimnjhfpeaaGreat
open Go.RowKit Go.Shelf

/-- Where a body's temperatures lie. -/
structure Rw where
  b : Nat
  o : Nat
  c : Nat
def Rw.v (r : Rw) (q : Nat) : Value := .slice (some ⟨r.b, r.o, none⟩) q r.c
def bdvs (q : Nat) : List (Rw × Bd) → List Value
  | [] => []
  | y :: l => y.1.v q :: .bool y.2.2 :: bdvs q l
theorem bdvs_len (q : Nat) : ∀ l, (bdvs q l).length = l.length * 2
  | [] => rfl
  | y :: l => by simp only [bdvs, List.length_cons, bdvs_len q l]; omega
theorem bdvs_app (q : Nat) : ∀ l m, bdvs q (l ++ m) = bdvs q l ++ bdvs q m
  | [], m => rfl
  | y :: l, m => by simp only [bdvs, List.cons_append, bdvs_app q l m]
theorem bdvs_at (q : Nat) : ∀ (l : List (Rw × Bd)) (j : Nat) (h : j < l.length), (bdvs q l)[j * 2]? = some (l[j].1.v q) ∧ (bdvs q l)[j * 2 + 1]? = some (.bool l[j].2.2)
  | y :: l, 0, _ => by simp [bdvs]
  | y :: l, j + 1, h => by
    have ih := bdvs_at q l j (by simpa using h)
    have e : (j + 1) * 2 = j * 2 + 1 + 1 := by omega
    rw [e]
    simpa [bdvs] using ih
/-- A body's temperatures lie there. -/
structure RowAt (w : World) (q : Nat) (r : Rw) (T : List Int) : Prop where
  len : T.length = q
  at_ : ∀ j (h : j < T.length), w.cell? ⟨r.b, r.o + j, none⟩ = some (.int .i64 T[j])
  lt : r.b < w.heap.size
theorem RowAt.row {w : World} {q : Nat} {r : Rw} {T : List Int} (h : RowAt w q r T) (hq : q ≤ 1000) : RowI w (r.v q) T :=
  .inr ⟨r.b, r.o, r.c, by rw [h.len]; rfl, by rw [h.len]; unfold maxLen; omega, h.at_⟩
theorem RowAt.grow {w w' : World} {q : Nat} {r : Rw} {T : List Int} {row : Option Nat} (h : RowAt w q r T) (hg : w.grownBy w' row) (hne : row ≠ some r.b) : RowAt w' q r T :=
  ⟨h.len, fun j hj => (World.cell?_of_block (a := ⟨r.b, r.o + j, none⟩) (hg.block _ h.lt (fun e => hne e.symm))).trans (h.at_ j hj), Nat.lt_of_lt_of_le h.lt hg.size⟩
theorem RowAt.keep {w w' : World} {q : Nat} {r : Rw} {T : List Int} (h : RowAt w q r T) (hb : Below w.heap.size w w') : RowAt w' q r T :=
  ⟨h.len, fun j hj => keep_cell hb (h.at_ j hj), Nat.lt_of_lt_of_le h.lt hb.size⟩
theorem rowAt_of {w : World} {q uc : Nat} {ua : Option Addr} {T : List Int} (h : RowI w (.slice ua q uc) T) (hT : T.length = q) (h0 : 0 < q) : ∃ r : Rw, ua = some ⟨r.b, r.o, none⟩ ∧ .slice ua q uc = r.v q ∧ RowAt w q r T := by
  obtain ⟨b, o, cap, hv, hc⟩ := h.some (by omega)
  injection hv with e1 e2 e3
  subst e1 e3
  exact ⟨⟨b, o, uc⟩, rfl, rfl, hT, hc, World.block_lt_of_cell? _ ⟨b, o + 0, none⟩ (hc 0 (by omega))⟩
/-- A list of bodies of one's own. -/
structure Bods (w : World) (base : Nat) (v : Value) (q : Nat) (l : List (Rw × Bd)) : Prop where
  own : w.ownsRow base 87 2 v l.length (bdvs q l)
  row : ∀ k (h : k < l.length), RowAt w q l[k].1 l[k].2.1 ∧ v.ownBlock ≠ some l[k].1.b
theorem Bods.nil (w : World) (base q : Nat) : Bods w base (.slice none 0 0) q [] := ⟨World.ownsRow_nil _ _ _ _, fun _ h => absurd h (Nat.not_lt_zero _)⟩
theorem Bods.keep {w w' : World} {base q : Nat} {v : Value} {l : List (Rw × Bd)} (h : Bods w base v q l) (hb : Below w.heap.size w w') : Bods w' base v q l := by
  refine ⟨⟨h.own.1, ?_⟩, fun k hk => ⟨(h.row k hk).1.keep hb, (h.row k hk).2⟩⟩
  rcases h.own.2 with hn | ⟨g, cap, cur, rfl, h1, hg, rest⟩
  · exact .inl hn
  · exact .inr ⟨g, cap, cur, rfl, h1, (hb.block _ (Array.getElem?_eq_some_iff.1 hg).1).trans hg, rest⟩
/-- Turned where neither the list's block nor those of its rows lie. -/
theorem Bods.turn {w w' : World} {base q : Nat} {v : Value} {l : List (Rw × Bd)} {row : Option Nat} (h : Bods w base v q l) (hg : w.grownBy w' row) (hr : ∀ j, row = some j → (∀ k (hk : k < l.length), l[k].1.b ≠ j) ∧ v.ownBlock ≠ some j) : Bods w' base v q l := by
  refine ⟨h.own.kept hg ?_, fun k hk => ⟨(h.row k hk).1.grow hg (fun e => (hr _ e).1 k hk rfl), (h.row k hk).2⟩⟩
  cases hb : v.ownBlock with
  | none => exact .inl rfl
  | some j => exact .inr (fun e => (hr j e.symm).2 hb)
theorem Bods.app {W W' : World} {base q : Nat} {v v' : Value} {l : List (Rw × Bd)} {r : Rw} {x : Bd} (h : Bods W base v q l) (hown : W'.ownsRow base 87 2 v' (l.length + 1) (bdvs q l ++ [r.v q, .bool x.2])) (hg : W.grownBy W' v.ownBlock) (hw : v'.ownBlock = v.ownBlock ∨ v'.ownBlock = some W.heap.size)
    (hr : RowAt W q r x.1) (hne : v.ownBlock ≠ some r.b) : Bods W' base v' q (l ++ [(r, x)]) := by
  have key : ∀ (r' : Rw) (T : List Int), RowAt W q r' T → v.ownBlock ≠ some r'.b → RowAt W' q r' T ∧ v'.ownBlock ≠ some r'.b := fun r' T h1 h2 => by
    refine ⟨h1.grow hg h2, ?_⟩
    rcases hw with e | e
    · rw [e]; exact h2
    · rw [e]; intro e2; have := h1.lt; injection e2 with e3; omega
  refine ⟨by rw [List.length_append, bdvs_app]; exact hown, fun k hk => ?_⟩
  rw [List.length_append, List.length_singleton] at hk
  by_cases e : k < l.length
  · rw [List.getElem_append_left e]; exact key _ _ (h.row k e).1 (h.row k e).2
  · obtain rfl : k = l.length := by omega
    rw [List.getElem_append_right (Nat.le_refl _)]
    simp only [Nat.sub_self, List.getElem_singleton]
    exact key _ _ hr hne
theorem Bods.shape {w : World} {base q : Nat} {v : Value} {l : List (Rw × Bd)} (h : Bods w base v q l) : ∃ a c, v = .slice a l.length c := by
  rcases h.own.2 with ⟨rfl, h0⟩ | ⟨g, cap, cur, rfl, _⟩
  · exact ⟨_, _, by rw [h0]⟩
  · exact ⟨_, _, rfl⟩
/-- A list of bodies that is read. -/
def RowBd (w : World) (v : Value) (L : List Bd) : Prop := ∃ a b o cap, v = .slice a L.length cap ∧ L.length ≤ maxLen ∧ (L = [] ∨ a = some ⟨b, o, none⟩) ∧ ∀ k (h : k < L.length), ∃ (ua : Option Addr) (uc : Nat), w.cell? ⟨b, o + k * 2, none⟩ = some (.slice ua L[k].1.length uc) ∧ w.cell? ⟨b, o + k * 2 + 1, none⟩ = some (.bool L[k].2) ∧ RowI w (.slice ua L[k].1.length uc) L[k].1
theorem RowBd.keep {w w' : World} {v : Value} {L : List Bd} (h : RowBd w v L) (hb : Below w.heap.size w w') : RowBd w' v L := by
  obtain ⟨a, b, o, cap, h1, h2, h3, h4⟩ := h
  refine ⟨a, b, o, cap, h1, h2, h3, fun k hk => ?_⟩
  obtain ⟨ua, uc, g1, g2, g3⟩ := h4 k hk
  exact ⟨ua, uc, keep_cell hb g1, keep_cell hb g2, g3.keep hb⟩
theorem rowBd_nil (w : World) : RowBd w (.slice none 0 0) [] := ⟨none, 0, 0, 0, rfl, by simp [maxLen], .inl rfl, fun k h => absurd h (Nat.not_lt_zero _)⟩
theorem Bods.at_ {w : World} {base q : Nat} {a : Option Addr} {n c : Nat} {l : List (Rw × Bd)} (h : Bods w base (.slice a n c) q l) (h0 : 0 < l.length) : ∃ g, a = some ⟨g, 0, none⟩ ∧ base ≤ g ∧ g < w.heap.size ∧ ∀ k (hk : k < l.length), w.cell? ⟨g, k * 2, none⟩ = some (l[k].1.v q) ∧ w.cell? ⟨g, k * 2 + 1, none⟩ = some (.bool l[k].2.2) := by
  rcases h.own.2 with ⟨hn, hz⟩ | ⟨g, cap, cur, hv, hb, hg, hcap, hmx, hcs, ht⟩
  · omega
  · injection hv with e1 e2 e3
    refine ⟨g, e1, hb, lt_of_block hg, fun k hk => ?_⟩
    obtain ⟨h1, h2⟩ := bdvs_at q l k hk
    rw [← ht] at h1 h2
    rw [List.getElem?_take_of_lt (by omega)] at h1 h2
    refine ⟨?_, ?_⟩ <;> rw [cell_of_row w g _ cur _ _ hg]
    · simpa using h1
    · simpa using h2
theorem Bods.read {w : World} {base q : Nat} {v : Value} {l : List (Rw × Bd)} (h : Bods w base v q l) (hq : q ≤ 1000) (hl : l.length ≤ 1000000) : RowBd w v (l.map (·.2)) := by
  obtain ⟨a, c, rfl⟩ := h.shape
  rcases Nat.eq_zero_or_pos l.length with h0 | h0
  · have : l = [] := List.length_eq_zero_iff.1 h0
    subst this
    exact ⟨a, 0, 0, c, rfl, by simp [maxLen], .inl rfl, fun k h => absurd h (Nat.not_lt_zero _)⟩
  · obtain ⟨g, rfl, _, _, hc⟩ := h.at_ h0
    refine ⟨_, g, 0, c, by rw [List.length_map], by rw [List.length_map]; unfold maxLen; omega, .inr rfl, fun k hk => ?_⟩
    rw [List.length_map] at hk
    obtain ⟨c1, c2⟩ := hc k hk
    have hr := (h.row k hk).1
    simp only [List.getElem_map, Nat.zero_add]
    refine ⟨some ⟨l[k].1.b, l[k].1.o, none⟩, l[k].1.c, ?_, c2, ?_⟩
    · rw [c1, hr.len]; rfl
    · rw [hr.len]; exact hr.row hq
theorem infoBd : ∃ i, Tryz.prog.info? 87 = some i ∧ i.zero = some (.agg #[.slice none 0 0, .bool false]) ∧ i.size = 2 ∧ i.bytes = 32 := info_parts (by kernel_rfl)
theorem cellBd {w : World} {u v : Value} {T : TypeId} {m : Nat} (hm : w.heap.size = m) : ∀ j y, [u, v][j]? = some y → (w.alloc (.cells #[u, v] T)).cell? ((⟨m, 0, none⟩ : Addr).add j) = some y := by
  subst hm
  intro j y h
  match j with
  | 0 => simp at h; subst h; simp [Addr.add]
  | 1 => simp at h; subst h; simp [Addr.add]
  | j + 2 => simp at h
theorem oneBd {q : Nat} {r : Rw} {z : Bool} : ∀ u ∈ [r.v q, .bool z], u.oneCell' = true := by intro u hu; simp at hu; rcases hu with rfl | rfl <;> rfl
/-- An append at a step of a region that draws, fenced: where the grown row lies. -/
theorem stepIn_append_where {F : Fence} {n : Nat} {P : Program} {w : World} {ops : Array Oper} {o : Oper} {a : Act} {K : Act → World → Prop} {Q : Exit → Act → World → Prop} {E : Prop}
    (hg : o.guard = none) (s x : Operand) (t : TypeId) (hop : o.op = Op.call { callee := Callee.builtin Builtin.append, args := #[s, x], argTypes := #[t, t] })
    (base : Nat) (e : TypeId) (i : TypeInfo) (z : Value) (size bytes : Nat) (h1 : P.underlying t = some (.slice e)) (h2 : P.info? e = some i) (h3 : i.zero = some z) (h4 : i.size = size) (h5 : i.bytes = bytes) (h6 : z.cells.size = size) (h7 : 0 < size)
    (v : Value) (k : Nat) (xs : List Value) (hs : a.eval s = v) (hown : w.ownsRow base e size v k xs) (ad : Addr) (m c : Nat) (news : List Value) (hx : a.eval x = .slice (some ad) m c) (hn : news.length = m * size)
    (hc : ∀ j u, news[j]? = some u → w.cell? (ad.add j) = some u) (h1c : ∀ u ∈ news, u.oneCell' = true) (hm : 0 < m) (b1 : k + m ≤ maxLen) (b2 : (k + m) * bytes ≤ 140737488355328) (b3 : base ≤ w.heap.size)
    (hK : ∀ v' w', w'.ownsRow base e size v' (k + m) (xs ++ news) → w.grownBy w' v.ownBlock → (v'.ownBlock = v.ownBlock ∨ v'.ownBlock = some w.heap.size) → K (a.put o.dst v') w') :
    if Region.wanted o (yielded ops a.tmps) = true then Oper.wpIn F n P o a w K Q else E := by
  have hw : Region.wanted o (yielded ops a.tmps) = true := by simp [Region.wanted, hg]
  rw [if_pos hw]
  obtain ⟨v', w', hrun, r1, r2, r3⟩ := run_append_where (P := P) w base t o.type e i z size bytes h1 h2 h3 h4 h5 h6 h7 v k xs hown ad m c news hn hc h1c hm b1 b2 b3
  unfold Oper.wpIn
  refine ⟨by simp [Oper.about, hop, resolve, Target.leads, Sem.run_pure], ?_⟩
  rw [Oper.semAt_plain F _ _ (by rw [hop]; intro c hc'; cases hc')]
  simp only [execOp, hop, resolve, invoke, builtin, Sem.run_bind, Sem.run_pure, Result.andThen_ok, List.map_toArray, List.map_cons, List.map_nil, hs, hx, hrun]
  exact hK v' w' r1 r2 r3
end Go.Proofs.YtihbjimnjhfpeaaGreat

/- How many ticks in a constant bath it takes, in plain words. -/
namespace Go.Proofs.YtihbjimnjhfpeaaGreat

/-- The body behind n ticks in a constant bath, and its least temperature. -/
def stepN (c : Cn) (x : Bd) (b : Int) (n : Nat) : Bd := runS c x (List.replicate n b)
def coldN (c : Cn) (x : Bd) (b : Int) (n : Nat) : Int := minT (stepN c x b n).1
theorem stepN_zero (c : Cn) (x : Bd) (b : Int) : stepN c x b 0 = x := rfl
theorem stepN_succ (c : Cn) (x : Bd) (b : Int) (n : Nat) : stepN c x b (n + 1) = tickS c (stepN c x b n) b := by
  unfold stepN; rw [List.replicate_succ', runS_append]; rfl
theorem stepN_take (c : Cn) (x : Bd) (b : Int) {n k : Nat} (h : k ≤ n) : runS c x ((List.replicate n b).take k) = stepN c x b k := by
  unfold stepN; rw [List.take_replicate, Nat.min_eq_left h]
theorem stepN_warm {c : Cn} {x : Bd} {b : Int} (hc : c.Ok) (hx : Warm c x) (h1 : -50000 ≤ b) (h2 : b ≤ 200000) (n : Nat) : Warm c (stepN c x b n) :=
  hx.run hc (fun t ht => by obtain rfl := (List.mem_replicate.1 ht).2; exact ⟨h1, h2⟩)
/-- The first number, from n, that serves. -/
def firstN (P : Nat → Bool) : Nat → Nat → Option Nat
  | 0, _ => none
  | f + 1, n => if P n then some n else firstN P f (n + 1)
theorem firstN_some {P : Nat → Bool} {k : Nat} (hk : P k = true) : ∀ f n, n ≤ k → k < n + f → (∀ m, n ≤ m → m < k → P m = false) → firstN P f n = some k
  | 0, n, h1, h2, _ => by omega
  | f + 1, n, h1, h2, h3 => by
    unfold firstN
    by_cases e : n = k
    · subst e; rw [if_pos hk]
    · rw [if_neg (by rw [h3 n (Nat.le_refl _) (by omega)]; exact Bool.false_ne_true)]
      exact firstN_some hk f (n + 1) (by omega) (by omega) (fun m hm => h3 m (by omega))
theorem firstN_none {P : Nat → Bool} : ∀ f n, (∀ m, n ≤ m → m < n + f → P m = false) → firstN P f n = none
  | 0, _, _ => rfl
  | f + 1, n, h => by
    unfold firstN
    rw [if_neg (by rw [h n (Nat.le_refl _) (by omega)]; exact Bool.false_ne_true)]
    exact firstN_none f (n + 1) (fun m hm hm2 => h m (by omega) (by omega))
theorem firstN_spec {P : Nat → Bool} {k : Nat} : ∀ f n, firstN P f n = some k → n ≤ k ∧ k < n + f ∧ P k = true ∧ ∀ m, n ≤ m → m < k → P m = false
  | 0, _, h => by cases h
  | f + 1, n, h => by
    unfold firstN at h
    by_cases e : P n = true
    · rw [if_pos e] at h
      cases h
      exact ⟨Nat.le_refl _, by omega, e, fun m h1 h2 => by omega⟩
    · rw [if_neg e] at h
      obtain ⟨h1, h2, h3, h4⟩ := firstN_spec f (n + 1) h
      refine ⟨by omega, by omega, h3, fun m g1 g2 => ?_⟩
      by_cases em : m = n
      · subst em; simpa using e
      · exact h4 m (by omega) g2
/-- Until's answer where nothing is wrong. -/
def untV (c : Cn) (x : Bd) (b t : Int) : Int × Int := match firstN (fun n => decide (t ≤ coldN c x b n)) 2001 0 with | some n => ((n : Int), 0) | none => (0, 8)
theorem untV_at {c : Cn} {x : Bd} {b t : Int} {n : Nat} (hn : n ≤ 2000) (h : t ≤ coldN c x b n) (hb : ∀ m, m < n → ¬ t ≤ coldN c x b m) : untV c x b t = ((n : Int), 0) := by
  unfold untV
  rw [firstN_some (k := n) (by exact decide_eq_true h) 2001 0 (Nat.zero_le _) (by omega) (fun m _ hm => decide_eq_false (hb m hm))]
theorem untV_none {c : Cn} {x : Bd} {b t : Int} (hb : ∀ m, m < 2001 → ¬ t ≤ coldN c x b m) : untV c x b t = (0, 8) := by
  unfold untV
  rw [firstN_none 2001 0 (fun m _ hm => decide_eq_false (hb m (by omega)))]
theorem untV_ok {c : Cn} {x : Bd} {b t : Int} (h : (untV c x b t).2 = 0) : ∃ n : Nat, n ≤ 2000 ∧ untV c x b t = ((n : Int), 0) ∧ t ≤ coldN c x b n ∧ ∀ m, m < n → ¬ t ≤ coldN c x b m := by
  unfold untV at h ⊢
  cases hf : firstN (fun n => decide (t ≤ coldN c x b n)) 2001 0 with
  | none => rw [hf] at h; simp at h
  | some n =>
    obtain ⟨_, h2, h3, h4⟩ := firstN_spec _ _ hf
    exact ⟨n, by omega, rfl, by simpa using h3, fun m hm => by simpa using h4 m (Nat.zero_le _) hm⟩
/-- Until's answer, with its errors. -/
def untO (r l a b k a2 b2 : Int) (x : Bd) (bath t : Int) : Int × Int :=
  if bothB r l a b k a2 b2 x.1 x.2 then (if okT bath && okT t then untV ⟨r.toNat, l.toNat, a, b, k, a2, b2⟩ x bath t else (0, 7)) else (0, 1)
theorem untO_can {r l a b k a2 b2 : Int} {x : Bd} {bath t : Int} (h : bothB r l a b k a2 b2 x.1 x.2 = false) : untO r l a b k a2 b2 x bath t = (0, 1) := by unfold untO; rw [h]; rfl
theorem untO_far {r l a b k a2 b2 : Int} {x : Bd} {bath t : Int} (h : bothB r l a b k a2 b2 x.1 x.2 = true) (h2 : (okT bath && okT t) = false) : untO r l a b k a2 b2 x bath t = (0, 7) := by unfold untO; rw [h, h2]; rfl
theorem untO_ok {c : Cn} {x : Bd} {bath t : Int} (h : bothB c.R c.L c.A c.B c.K c.A2 c.B2 x.1 x.2 = true) (h2 : (okT bath && okT t) = true) : untO c.R c.L c.A c.B c.K c.A2 c.B2 x bath t = untV c x bath t := by
  unfold untO; rw [if_pos h, if_pos h2]
  simp
end Go.Proofs.YtihbjimnjhfpeaaGreat

/- Walk of Until of the reference: contract. -/
namespace Go.Proofs.YtihbjimnjhfpeaaGreat
open Go.RowKit

theorem R2.set2 {w W : World} {A : Array Value} {u0 v0 u v : Value} (h : R2 w W A #[u0, v0]) : R2 w ((W.setCell ⟨w.heap.size + 1, 0, none⟩ u).setCell ⟨w.heap.size + 1, 1, none⟩ v) A #[u, v] := by
  have h1 := heap_setCell_same W (w.heap.size + 1) 0 _ _ u h.res
  have h2 := heap_setCell_same _ (w.heap.size + 1) 1 _ _ v h1
  refine ⟨?_, h2, (h.low.setCell (p := ⟨w.heap.size + 1, 0, none⟩) (Nat.le_succ _) u).setCell (p := ⟨w.heap.size + 1, 1, none⟩) (Nat.le_succ _) v⟩
  rw [heap_setCell_other _ _ _ _ (show w.heap.size ≠ w.heap.size + 1 by omega), heap_setCell_other _ _ _ _ (show w.heap.size ≠ w.heap.size + 1 by omega)]
  exact h.can
/-- What is read as ints does not lie in a box of a slice and a Bool. -/
theorem rowI_by {W : World} {g n c : Nat} {a : Option Addr} {br : Bool} {t : TypeId} {u : Value} {l : List Int} {x y : Value} (h : RowI W u l) (hB : W.heap[g]? = some (.cells #[.slice a n c, .bool br] t (0, 0))) : RowI ((W.setCell ⟨g, 0, none⟩ x).setCell ⟨g, 1, none⟩ y) u l := by
  rcases h with h | ⟨b, o, cap, hv, hm, hc⟩
  · exact .inl h
  · refine .inr ⟨b, o, cap, hv, hm, fun k hk => ?_⟩
    have hck := hc k hk
    by_cases e : b = g
    · subst e
      have := cell_of_row W b (o + k) _ _ _ hB
      rw [this] at hck
      exfalso
      match hj : o + k with
      | 0 => rw [hj] at hck; simp at hck
      | 1 => rw [hj] at hck; simp at hck
      | j + 2 => rw [hj] at hck; simp at hck
    · rw [← hck]
      exact World.cell?_of_block (a := ⟨b, o + k, none⟩) (by rw [heap_setCell_other _ _ _ _ e, heap_setCell_other _ _ _ _ e])
theorem R2.nine {w W : World} {c0 c1 c2 c3 c4 c5 c6 d0 d1 : Value} (h : R2 w W #[c0, c1, c2, c3, c4, c5, c6] #[d0, d1]) :
    W.cell? ⟨w.heap.size, 0, none⟩ = some c0 ∧ W.cell? ⟨w.heap.size, 1, none⟩ = some c1 ∧ W.cell? ⟨w.heap.size, 2, none⟩ = some c2 ∧ W.cell? ⟨w.heap.size, 3, none⟩ = some c3 ∧ W.cell? ⟨w.heap.size, 4, none⟩ = some c4 ∧ W.cell? ⟨w.heap.size, 5, none⟩ = some c5 ∧ W.cell? ⟨w.heap.size, 6, none⟩ = some c6 ∧
    W.cell? ⟨w.heap.size + 1, 0, none⟩ = some d0 ∧ W.cell? ⟨w.heap.size + 1, 1, none⟩ = some d1 ∧ W.frozen? ⟨w.heap.size + 1, 0, none⟩ = false ∧ W.frozen? ⟨w.heap.size + 1, 1, none⟩ = false :=
  ⟨cell_of_row _ _ 0 _ _ _ h.can, cell_of_row _ _ 1 _ _ _ h.can, cell_of_row _ _ 2 _ _ _ h.can, cell_of_row _ _ 3 _ _ _ h.can, cell_of_row _ _ 4 _ _ _ h.can, cell_of_row _ _ 5 _ _ _ h.can, cell_of_row _ _ 6 _ _ _ h.can, cell_of_row _ _ 0 _ _ _ h.res, cell_of_row _ _ 1 _ _ _ h.res, frozen_of_row _ _ 0 _ _ h.res, frozen_of_row _ _ 1 _ _ h.res⟩
/-- Two numbers come back. -/
def PairU (O : Int × Int) (w : World) (e : Ending) (w' : World) : Prop := e = .returned (.tuple #[.int .i64 O.1, .int .i64 O.2]) ∧ Below w.heap.size w w'
end Go.Proofs.YtihbjimnjhfpeaaGreat
