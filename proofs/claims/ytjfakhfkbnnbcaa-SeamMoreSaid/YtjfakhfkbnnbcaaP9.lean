/- Texts of this seat, one behind the other. -/
import Derived.Test.YtjfakhfkbnnbcaaZm
import Derived.Laws.OwnMore
/- Walk of the functions about the iterator over pairs: contracts. -/
namespace Go.Proofs.Ytjfakhfkbnnbcaa
open Go.RowKit Go.Shelf
attribute [local go_sem] Oper.semAt_some

theorem pairsf_any (a : Option Addr) (n cap : Nat) (v2 : Value) (h : Int) (w : World) : Calls Try.prog 67 #[.agg #[.slice a n cap, v2], .int .i64 h] w fun e w' => e = .returned (.func (.func 88) #[] #[.pointer (some ⟨w.heap.size + 1, 0, none⟩), .pointer (some ⟨w.heap.size, 0, none⟩)]) ∧ w' = (w.alloc (.cells #[.slice a n cap, v2] 61)).alloc (.cells #[.int .i64 h] 3) := by
  go_enter Try.func67, Try.ntmps67
  go_wp2
  go_ret
  exact ⟨rfl, rfl⟩
/-- The stretch that a pair of checks leaves overdue. -/
theorem overdue2_any (p q : Ck) (eb : Nat) (ev : Int) (w : World) (he : w.cell? ⟨eb, 0, none⟩ = some (.int .i64 ev)) (hp : -100000000 ≤ p.tk ∧ p.tk ≤ 100000001) (_ : -100000000 ≤ q.tk ∧ q.tk ≤ 100000001) (hev : -200000000 ≤ ev ∧ ev ≤ 200000000) :
    Calls Try.prog 48 #[.agg (ckA p), .agg (ckA q), .pointer (some ⟨eb, 0, none⟩)] w fun e w' => e = .returned (.agg #[.int .i64 (ovF ev (p, q)).x, .int .i64 (ovF ev (p, q)).y]) ∧ Below w.heap.size w w' := by
  have hb1 := (Below.refl w.heap.size w).alloc (Nat.le_refl _) (.cells (ckA p) 75)
  have hb2 := hb1.alloc hb1.size (.cells (ckA q) 75)
  have hb3 := hb2.alloc hb2.size (.cells #[.int .i64 0, .int .i64 0] 68)
  have h3 := keep_cell hb3 he
  have HB3 := hid hb3
  simp only [ckA] at h3
  clear hb1 hb2 hb3
  simp only [ckA]
  go_enter Try.func48, Try.ntmps48
  go_wp2
  refine bodyPost_ret (v := .agg #[.int .i64 (p.tk + ev), .int .i64 q.tk]) (by simp [results, Try.results48, go_sem]) rfl ⟨rfl, ?_⟩
  exact (((Below.refl _ _).alloc (Nat.le_refl _) _).alloc (by simp) _).alloc (by simp; omega) _
/-- The iterator over the pairs of a head, as a law for a range over it. -/
theorem pairs_seq (h : Int) (l : List Ck) (hb cb : Nat) (a : Option Addr) (ba o cap n0 x0 y0 : Nat) (hlen : l.length ≤ 10000) (hne : (hb ≠ x0 ∧ hb ≠ y0) ∧ (cb ≠ x0 ∧ cb ≠ y0) ∧ (l ≠ [] → ba ≠ x0 ∧ ba ≠ y0)) (w : World) (hI : ItP h l hb cb a ba o cap n0 w) :
    SeqG 75 Fence.wide 9 Try.prog 88 #[.pointer (some ⟨hb, 0, none⟩), .pointer (some ⟨cb, 0, none⟩)] encP (KpP n0 x0 y0) (prL h l) w := fun l0 J Jx W hW hJ _ hY h0 =>
  pairs_run l0 h l hb cb a ba o cap n0 x0 y0 W.heap.size J Jx hlen hne hJ hY W (hI.past hW.size (fun j hj => hW.block j (Nat.lt_of_lt_of_le hj hI.le))) (Nat.le_refl _) h0
end Go.Proofs.Ytjfakhfkbnnbcaa

/- What the walk of stretches stands on. -/
namespace Go.Proofs.Ytjfakhfkbnnbcaa
open Go.RowKit Go.Shelf
attribute [local go_sem] Oper.semAt_some

/-- Cells of another type than the iterator's stay when something of it is turned. -/
theorem turn_keep {W W' : World} {row : Option Nat} {g T : Nat} {cs : Array Value} {fr : Nat × Nat} (hT : T ≠ 75) (h : W.heap[g]? = some (.cells cs T fr)) (hg : W.grownBy W' row) (hr : ∀ j, row = some j → ∃ o : Obj, W.heap[j]? = some o ∧ Obj.apart 75 o) : W'.heap[g]? = some (.cells cs T fr) := by
  rw [hg.block g (Array.getElem?_eq_some_iff.1 h).1 ?_]
  · exact h
  · intro e
    obtain ⟨o, h1, h2⟩ := hr g e.symm
    rw [h] at h1
    cases h1
    rcases h2 with h2 | ⟨cs', h2⟩
    · cases h2
    · cases h2; exact hT rfl
theorem OwnX.turn {W W' : World} {base : Nat} {v : Value} {L : List Pr} {row : Option Nat} (h : OwnX W base 68 v L) (hg : W.grownBy W' row) (hr : ∀ j, row = some j → ∃ o : Obj, W.heap[j]? = some o ∧ Obj.apart 75 o) : OwnX W' base 68 v L := by
  refine ⟨h.1, ?_⟩
  rcases h.2 with h0 | ⟨g, cap, cur, e, hb, hgr, rest⟩
  · exact .inl h0
  · exact .inr ⟨g, cap, cur, e, hb, turn_keep (by decide) hgr hg hr, rest⟩
/-- The boxes of stretches, and what was told so far. -/
structure StI (w : World) (A : Array Value) (b E : Int) (fn : Value) (L : List Pr) (v : Value) (W : World) : Prop where
  clo : W.heap[w.heap.size]? = some (.cells A 61 (0, 0))
  bb : W.heap[w.heap.size + 1]? = some (.cells #[.int .i64 b] 3 (0, 0))
  ee : W.heap[w.heap.size + 1 + 1]? = some (.cells #[.int .i64 E] 3 (0, 0))
  fn : W.heap[w.heap.size + 1 + 1 + 1]? = some (.cells #[fn] 76 (0, 0))
  box : W.heap[w.heap.size + 1 + 1 + 1 + 1]? = some (.cells #[v] 28 (0, 0))
  own : OwnX W (w.heap.size + 5) 68 v L
  low : Below w.heap.size w W
theorem StI.turn {w W W' : World} {A : Array Value} {b E : Int} {fn v : Value} {L : List Pr} {row : Option Nat} (h : StI w A b E fn L v W) (hg : W.grownBy W' row) (hr : ∀ j, row = some j → w.heap.size ≤ j ∧ ∃ o : Obj, W.heap[j]? = some o ∧ Obj.apart 75 o) : StI w A b E fn L v W' :=
  have hr' := fun j e => (hr j e).2
  ⟨turn_keep (by decide) h.clo hg hr', turn_keep (by decide) h.bb hg hr', turn_keep (by decide) h.ee hg hr', turn_keep (by decide) h.fn hg hr', turn_keep (by decide) h.box hg hr', h.own.turn hg hr', h.low.grown hg h.low.size (fun j e => (hr j e).1)⟩
theorem StI.more {w W W' : World} {A : Array Value} {b E : Int} {fn v : Value} {L : List Pr} (h : StI w A b E fn L v W) (hb : Below W.heap.size W W') : StI w A b E fn L v W' :=
  h.turn (gbelowP hb) (fun j e => by cases e)
theorem newS_at {W : World} {o : Obj} {n : Nat} (h : W.heap.size = n) : (W.alloc o).heap[n]? = some o := by subst h; exact heap_alloc_new W o
theorem sti_start (w : World) (A : Array Value) (b E : Int) (fn : Value) : StI w A b E fn [] (.slice none 0 0) (((((w.alloc (.cells A 61)).alloc (.cells #[.int .i64 b] 3)).alloc (.cells #[.int .i64 E] 3)).alloc (.cells #[fn] 76)).alloc (.cells #[.slice none 0 0] 28)) := by
  have s1 : (w.alloc (.cells A 61)).heap.size = w.heap.size + 1 := by simp
  have s2 : ((w.alloc (.cells A 61)).alloc (.cells #[.int .i64 b] 3)).heap.size = w.heap.size + 1 + 1 := by simp
  have s3 : (((w.alloc (.cells A 61)).alloc (.cells #[.int .i64 b] 3)).alloc (.cells #[.int .i64 E] 3)).heap.size = w.heap.size + 1 + 1 + 1 := by simp
  have s4 : ((((w.alloc (.cells A 61)).alloc (.cells #[.int .i64 b] 3)).alloc (.cells #[.int .i64 E] 3)).alloc (.cells #[fn] 76)).heap.size = w.heap.size + 1 + 1 + 1 + 1 := by simp
  refine ⟨?_, ?_, ?_, ?_, newS_at s4, World.ownsRow_nil _ _ _ 2, ((((((Below.refl _ w).alloc (Nat.le_refl _) _).alloc (by simp) _).alloc (by simp; omega) _).alloc (by simp; omega) _).alloc (by simp; omega) _)⟩
  · rw [Below.heap_alloc _ _ _ (by omega), Below.heap_alloc _ _ _ (by omega), Below.heap_alloc _ _ _ (by omega), Below.heap_alloc _ _ _ (by omega)]; exact newS_at rfl
  · rw [Below.heap_alloc _ _ _ (by omega), Below.heap_alloc _ _ _ (by omega), Below.heap_alloc _ _ _ (by omega)]; exact newS_at s1
  · rw [Below.heap_alloc _ _ _ (by omega), Below.heap_alloc _ _ _ (by omega)]; exact newS_at s2
  · rw [Below.heap_alloc _ _ _ (by omega)]; exact newS_at s3
end Go.Proofs.Ytjfakhfkbnnbcaa

/- A function's end behind several ranges over functions: their marks are taken one by one. -/
namespace Go.Proofs.Ytjfakhfkbnnbcaa
open Go.RowKit Go.Shelf

/-- Marks of ranges that are over, none older than B. -/
structure Marks0 (B : Nat) (Ds : List Nat) (W : World) : Prop where
  nd : Ds.Nodup
  at_ : ∀ D ∈ Ds, B ≤ D ∧ W.heap[D]? = some (.deferred (some []))
theorem Marks0.nil (B : Nat) (W : World) : Marks0 B [] W := ⟨List.nodup_nil, fun _ h => absurd h List.not_mem_nil⟩
theorem Marks0.keep {B : Nat} {Ds : List Nat} {W W' : World} (h : Marks0 B Ds W) (hk : ∀ D, B ≤ D → W.heap[D]? = some (.deferred (some [])) → W'.heap[D]? = some (.deferred (some []))) : Marks0 B Ds W' :=
  ⟨h.nd, fun D hD => ⟨(h.at_ D hD).1, hk D (h.at_ D hD).1 (h.at_ D hD).2⟩⟩
theorem Marks0.put {B D : Nat} {Ds : List Nat} {W : World} (h : Marks0 B Ds W) (hD : B ≤ D) (hn : ∀ d ∈ Ds, d < D) (hW : W.heap[D]? = some (.deferred (some []))) : Marks0 B (D :: Ds) W :=
  ⟨List.nodup_cons.2 ⟨fun hm => absurd (hn D hm) (Nat.lt_irrefl D), h.nd⟩, fun d hd => by
    rcases List.mem_cons.1 hd with rfl | hd
    · exact ⟨hD, hW⟩
    · exact h.at_ d hd⟩
def markOf (D : Nat) : Deferred := { target := .collected D, args := #[] }
theorem leaves_marks {F : Fence} {n B : Nat} {P : Program} {fn : Func} {tmps : Array Value} {R : Ending → World → Prop} : ∀ (Ds : List Nat) (W : World), Marks0 B Ds W →
    (∀ W' : World, Below B W W' → (∀ (g : Nat) (cs : Array Value) (T : Nat) (fr : Nat × Nat), W.heap[g]? = some (Obj.cells cs T fr) → W'.heap[g]? = some (Obj.cells cs T fr)) → LeavesIn F n P fn tmps R [] .returning W') →
    LeavesInM F n P fn tmps R (Ds.map markOf) .returning W
  | [], W, _, hK => hK W (Below.refl _ _) (fun _ _ _ _ h => h)
  | D :: Ds, W, hM, hK => by
    obtain ⟨hn, hnd⟩ := List.nodup_cons.1 hM.nd
    obtain ⟨hB, hW⟩ := hM.at_ D List.mem_cons_self
    refine ⟨by simp, .inl ⟨D, _, rfl, run_takeDeferred hW, ?_⟩⟩
    refine leaves_marks Ds _ ⟨hnd, fun d hd => ⟨(hM.at_ d (List.mem_cons_of_mem _ hd)).1, (World.putObj_heap_other (by rintro rfl; exact hn hd)).trans (hM.at_ d (List.mem_cons_of_mem _ hd)).2⟩⟩ fun W' hb hc => hK W' ?_ ?_
    · exact (show Below B W (W.putObj D (.deferred none)) from ⟨rfl, rfl, rfl, by simp, fun k hk => World.putObj_heap_other (by omega)⟩).trans hb
    · intro g cs T fr hg
      refine hc g cs T fr ((World.putObj_heap_other ?_).trans hg)
      rintro rfl
      rw [hW] at hg
      cases hg
end Go.Proofs.Ytjfakhfkbnnbcaa

/- Where a grown row lies: in its old block, or in a new one. -/
namespace Go.Proofs.Ytjfakhfkbnnbcaa
open Go.RowKit Go.Shelf
attribute [local go_sem] Oper.semAt_some

theorem run_append_where {P : Program} (w : World) (base : Nat) (t ty e : TypeId) (i : TypeInfo) (z : Value) (size bytes : Nat) (ht : P.underlying t = some (.slice e)) (hi : P.info? e = some i) (hz : i.zero = some z) (hsize : i.size = size) (hby : i.bytes = bytes) (hzs : z.cells.size = size) (hsz : 0 < size)
    (v : Value) (n : Nat) (xs : List Value) (hown : w.ownsRow base e size v n xs) (a : Addr) (m c : Nat) (news : List Value) (hl : news.length = m * size) (hnews : ∀ j u, news[j]? = some u → w.cell? (a.add j) = some u) (h1 : ∀ u ∈ news, u.oneCell' = true) (hm : 0 < m)
    (h63 : n + m ≤ maxLen) (hbytes : (n + m) * bytes ≤ 140737488355328) (hbase : base ≤ w.heap.size) :
    ∃ v' w', (Builtin.append_ #[t, t] ty #[v, .slice (some a) m c]).run P w = .ok v' w' ∧ w'.ownsRow base e size v' (n + m) (xs ++ news) ∧ w.grownBy w' v.ownBlock ∧ (v'.ownBlock = v.ownBlock ∨ v'.ownBlock = some w.heap.size) := by
  obtain ⟨v', w', hr, h2, h3, -⟩ := run_append_own (P := P) w base t ty e i z size bytes ht hi hz hsize hby hzs hsz v n xs hown a m c news hl hnews h1 h63 hbytes hbase
  refine ⟨v', w', hr, h2, h3, ?_⟩
  have hs63 : n + m ≤ 9223372036854775807 := by simp only [maxLen] at h63; omega
  rcases hown.2 with ⟨rfl, rfl⟩ | ⟨g, cap, cur, rfl, hbg, hg, hnc, hcm, hcs, htake⟩
  · subst hsize; subst hby
    have hr2 := run_append_nil (P := P) w t ty e i z ht hi hz a m c news hl hnews (by omega) (by omega) (by have hb := hbytes; simp only [Nat.zero_add] at hb; omega)
    rw [hr] at hr2
    cases hr2
    exact .inr rfl
  · by_cases hroom : n + m ≤ cap
    · obtain ⟨w2, hr2, -, -⟩ := run_append_fits (P := P) w base t ty e i size ht hi hsize g n cap xs hown a m c news hl hnews h1 hroom
      rw [hr] at hr2
      cases hr2
      exact .inl rfl
    · subst hsize; subst hby
      have hr2 := run_append_grow (P := P) w t ty e i z ht hi hz ⟨g, 0, none⟩ n cap xs hown.1 (hown.cells (g := g) rfl) a m c news hl hnews (by omega) (by omega) (growslice_fits (by omega) hbytes)
      rw [hr] at hr2
      cases hr2
      exact .inr rfl
theorem wpListIn_append_where {F : Fence} {n : Nat} {P : Program} (w : World) {ops : Array Oper} {rest : List Oper} {o : Oper} {a : Act} {Q : Exit → Act → World → Prop}
    (hg : o.guard = none) (s x : Operand) (t : TypeId) (hop : o.op = Op.call { callee := Callee.builtin Builtin.append, args := #[s, x], argTypes := #[t, t] })
    (base : Nat) (e : TypeId) (i : TypeInfo) (z : Value) (size bytes : Nat) (h1 : P.underlying t = some (.slice e)) (h2 : P.info? e = some i) (h3 : i.zero = some z) (h4 : i.size = size) (h5 : i.bytes = bytes) (h6 : z.cells.size = size) (h7 : 0 < size)
    (v : Value) (k : Nat) (xs : List Value) (hs : a.eval s = v) (hown : w.ownsRow base e size v k xs) (ad : Addr) (m c : Nat) (news : List Value) (hx : a.eval x = .slice (some ad) m c) (hn : news.length = m * size)
    (hc : ∀ j u, news[j]? = some u → w.cell? (ad.add j) = some u) (h1c : ∀ u ∈ news, u.oneCell' = true) (hm : 0 < m) (b1 : k + m ≤ maxLen) (b2 : (k + m) * bytes ≤ 140737488355328) (b3 : base ≤ w.heap.size)
    (hK : ∀ v' w', w'.ownsRow base e size v' (k + m) (xs ++ news) → w.grownBy w' v.ownBlock → (v'.ownBlock = v.ownBlock ∨ v'.ownBlock = some w.heap.size) → wpListIn F n P ops Q rest (a.put o.dst v') w') :
    wpListIn F n P ops Q (o :: rest) a w := by
  refine wpListIn_plain hg fun K hK' => ?_
  obtain ⟨v', w', hrun, r1, r2, r3⟩ := run_append_where (P := P) w base t o.type e i z size bytes h1 h2 h3 h4 h5 h6 h7 v k xs hown ad m c news hn hc h1c hm b1 b2 b3
  unfold Oper.wpIn
  refine ⟨by simp [Oper.about, hop, resolve, Target.leads, Sem.run_pure], ?_⟩
  rw [Oper.semAt_plain F _ _ (by rw [hop]; intro c hc'; cases hc')]
  simp only [execOp, hop, resolve, invoke, builtin, Sem.run_bind, Sem.run_pure, Result.andThen_ok, List.map_toArray, List.map_cons, List.map_nil, hs, hx, hrun]
  exact hK' _ _ (hK v' w' r1 r2 r3)
end Go.Proofs.Ytjfakhfkbnnbcaa

/- A round of stretches: what stands behind its append and its store. -/
namespace Go.Proofs.Ytjfakhfkbnnbcaa
open Go.RowKit Go.Shelf

theorem body_end {w W W7 w8 : World} {A : Array Value} {b E : Int} {fn v' v8 : Value} {L : List Pr} {s : Pr} {n0 y0 B : Nat} (h : StI w A b E fn L v' W) (hb : Below W.heap.size W W7) (ho : w8.ownsRow (w.heap.size + 5) 68 2 v8 (L.length + 1) (pvs L ++ [.int .i64 s.x, .int .i64 s.y])) (hg : W7.grownBy w8 v'.ownBlock)
    (hw : v8.ownBlock = v'.ownBlock ∨ v8.ownBlock = some W7.heap.size) (hbx : w8.heap[w.heap.size + 1 + 1 + 1 + 1]? = some (Obj.cells #[v'] 28 (0, 0))) (hn : n0 ≤ W.heap.size) (hy : ∀ g, v'.ownBlock = some g → g = y0 ∨ n0 ≤ g) :
    KeepsFrom B W (w8.setCell ⟨w.heap.size + 1 + 1 + 1 + 1, 0, none⟩ v8) ∧ KpP n0 (w.heap.size + 1 + 1 + 1 + 1) y0 W (w8.setCell ⟨w.heap.size + 1 + 1 + 1 + 1, 0, none⟩ v8) ∧ StI w A b E fn (L ++ [s]) v8 (w8.setCell ⟨w.heap.size + 1 + 1 + 1 + 1, 0, none⟩ v8) ∧
    (∀ g, v8.ownBlock = some g → g = y0 ∨ n0 ≤ g) ∧ ∀ D : Nat, W.heap[D]? = some (.deferred (some [])) → (w8.setCell ⟨w.heap.size + 1 + 1 + 1 + 1, 0, none⟩ v8).heap[D]? = some (.deferred (some [])) := by
  have hst : ∀ (g : Nat) (o : Obj), W.heap[g]? = some o → g ≠ w.heap.size + 1 + 1 + 1 + 1 → v'.ownBlock ≠ some g → (w8.setCell ⟨w.heap.size + 1 + 1 + 1 + 1, 0, none⟩ v8).heap[g]? = some o := fun g o e1 e2 e3 => by
    have l1 := (Array.getElem?_eq_some_iff.1 e1).1
    rw [heap_setCell_other _ _ _ _ (by exact e2), hg.block g (Nat.lt_of_lt_of_le l1 hb.size) (fun e => e3 e.symm), hb.block g l1]
    exact e1
  have hrow : ∀ g, v'.ownBlock = some g → ∃ cur fr, W.heap[g]? = some (Obj.cells cur 68 fr) := fun g e => by
    rcases h.own.2 with ⟨rfl, _⟩ | ⟨g', cap, cur, rfl, _, hgr, _⟩
    · cases e
    · cases e; exact ⟨_, _, hgr⟩
  have hbase : ∀ g, v'.ownBlock = some g → w.heap.size + 5 ≤ g := fun g e => (World.ownsRow.lt h.own g e).1
  have hsz : W.heap.size ≤ (w8.setCell ⟨w.heap.size + 1 + 1 + 1 + 1, 0, none⟩ v8).heap.size := by have := hb.size; have := hg.size; simp; omega
  refine ⟨⟨hsz, fun k o _ hk hc => hst k o hk ?_ ?_⟩, ⟨hsz, fun j h1 h2 h3 => ?_, fun j cs hj => hst j _ hj ?_ ?_⟩, ⟨hst _ _ h.clo (by omega) (fun e => by have := hbase _ e; omega), hst _ _ h.bb (by omega) (fun e => by have := hbase _ e; omega), hst _ _ h.ee (by omega) (fun e => by have := hbase _ e; omega), hst _ _ h.fn (by omega) (fun e => by have := hbase _ e; omega), ?_, ?_, ?_⟩, ?_, fun D e => hst D _ e ?_ ?_⟩
  · rintro rfl; rw [h.box] at hk; cases hk; cases hc
  · intro e; obtain ⟨cur, fr, e1⟩ := hrow k e; rw [e1] at hk; cases hk; cases hc
  · have l1 : j < W.heap.size := by omega
    rw [hst j _ (Array.getElem?_eq_getElem l1) h2 (fun e => by rcases hy j e with r | r <;> omega)]
    exact (Array.getElem?_eq_getElem l1).symm
  · rintro rfl; rw [h.box] at hj; cases hj
  · intro e; obtain ⟨cur, fr, e1⟩ := hrow j e; rw [e1] at hj; cases hj
  · have e := heap_setCell_same w8 _ 0 _ _ v8 hbx
    simpa using e
  · exact OwnX.app (World.ownsRow.kept ho (w' := w8.setCell ⟨w.heap.size + 1 + 1 + 1 + 1, 0, none⟩ v8) (row := some (w.heap.size + 1 + 1 + 1 + 1)) ⟨rfl, rfl, rfl, by simp, fun k _ hne => heap_setCell_other _ _ _ _ (fun e => hne (by rw [e]))⟩ (.inr (fun e => by have := (World.ownsRow.lt ho _ e).1; omega)))
  · exact ((h.low.trans (hb.mono h.low.size)).grown hg (Nat.le_trans h.low.size hb.size) (fun j e => by have := hbase j e; omega)).setCell (p := ⟨w.heap.size + 1 + 1 + 1 + 1, 0, none⟩) (by show w.heap.size ≤ w.heap.size + 1 + 1 + 1 + 1; omega) v8
  · intro g e
    rcases hw with r | r
    · rw [r] at e; exact hy g e
    · rw [r] at e; cases e; right; have := hb.size; omega
  · rintro rfl; rw [h.box] at e; cases e
  · intro e'; obtain ⟨cur, fr, e1⟩ := hrow D e'; rw [e1] at e; cases e
end Go.Proofs.Ytjfakhfkbnnbcaa
