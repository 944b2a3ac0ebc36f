/- The checks of sheets of which each counts: own rows of checks, walks of Overdue's first function, checksOf: contracts. -/
import Derived.Test.YtjfakhfkbnnbcaaP7
import Derived.Laws.AppendOwn
namespace Go.Proofs.Ytjfakhfkbnnbcaa
open Go.RowKit

/-- A check. -/
structure Ck where
  tk : Int
  hd : Int
  gd : Bool
def ckC (c : Ck) : List Value := [.int .i64 c.tk, .int .i64 c.hd, .bool c.gd]
def ckvs : List Ck → List Value
  | [] => []
  | c :: l => .int .i64 c.tk :: .int .i64 c.hd :: .bool c.gd :: ckvs l
theorem ckvs_len : ∀ l : List Ck, (ckvs l).length = l.length * 3
  | [] => rfl
  | c :: l => by simp only [ckvs, List.length_cons, ckvs_len l]; omega
theorem ckvs_app : ∀ l m : List Ck, ckvs (l ++ m) = ckvs l ++ ckvs m
  | [], m => rfl
  | c :: l, m => by simp only [ckvs, List.cons_append, ckvs_app l m]
theorem ckvs_at : ∀ (l : List Ck) (j : Nat) (h : j < l.length), (ckvs l)[j * 3]? = some (.int .i64 l[j].tk) ∧ (ckvs l)[j * 3 + 1]? = some (.int .i64 l[j].hd) ∧ (ckvs l)[j * 3 + 2]? = some (.bool l[j].gd)
  | c :: l, 0, _ => by simp [ckvs]
  | c :: l, j + 1, h => by
    have ih := ckvs_at l j (by simpa using h)
    have e : (j + 1) * 3 = j * 3 + 1 + 1 + 1 := by omega
    rw [e]
    simpa [ckvs] using ih
def OwnK (w : World) (base : Nat) (v : Value) (l : List Ck) : Prop := w.ownsRow base 75 3 v l.length (ckvs l)
theorem infoK : ∃ i, Try.prog.info? 75 = some i ∧ i.zero = some (.agg #[.int .i64 0, .int .i64 0, .bool false]) ∧ i.size = 3 ∧ i.bytes = 24 := info_parts (by kernel_rfl)
/-- Checks that are read. -/
def RowK3 (w : World) (v : Value) (l : List Ck) : Prop := ∃ a b o cap, v = .slice a l.length cap ∧ l.length ≤ cap ∧ cap ≤ maxLen ∧ (l = [] ∨ a = some ⟨b, o, none⟩) ∧ ∀ k (h : k < l.length), w.cell? ⟨b, o + k * 3, none⟩ = some (.int .i64 l[k].tk) ∧ w.cell? ⟨b, o + k * 3 + 1, none⟩ = some (.int .i64 l[k].hd) ∧ w.cell? ⟨b, o + k * 3 + 2, none⟩ = some (.bool l[k].gd)
theorem OwnK.row {w : World} {base : Nat} {v : Value} {l : List Ck} (h : OwnK w base v l) : RowK3 w v l := by
  rcases h.2 with ⟨rfl, h0⟩ | ⟨g, cap, cur, rfl, _, hg, hcap, hmx, hcs, ht⟩
  · have : l = [] := List.length_eq_zero_iff.1 h0
    subst this
    exact ⟨none, 0, 0, 0, rfl, Nat.le_refl _, by simp [maxLen], .inl rfl, fun k h => absurd h (Nat.not_lt_zero k)⟩
  · refine ⟨some ⟨g, 0, none⟩, g, 0, cap, rfl, hcap, hmx, .inr rfl, fun k hk => ?_⟩
    obtain ⟨h1, h2, h3⟩ := ckvs_at l k hk
    rw [← ht] at h1 h2 h3
    rw [List.getElem?_take_of_lt (by omega)] at h1 h2 h3
    simp only [Nat.zero_add]
    refine ⟨?_, ?_, ?_⟩ <;> rw [cell_of_row w g _ cur _ _ hg]
    · simpa using h1
    · simpa using h2
    · simpa using h3
theorem OwnK.keep {W w2 : World} {base : Nat} {v : Value} {l : List Ck} (h : OwnK W base v l) (hb : Below W.heap.size W w2) : OwnK w2 base v l := by
  refine ⟨h.1, ?_⟩
  rcases h.2 with hn | ⟨g, cap, cur, rfl, hb', hg, rest⟩
  · exact .inl hn
  · exact .inr ⟨g, cap, cur, rfl, hb', (hb.block _ (Array.getElem?_eq_some_iff.1 hg).1).trans hg, rest⟩
theorem OwnK.app {w : World} {base : Nat} {v : Value} {l : List Ck} {c : Ck} (h : w.ownsRow base 75 3 v (l.length + 1) (ckvs l ++ [.int .i64 c.tk, .int .i64 c.hd, .bool c.gd])) : OwnK w base v (l ++ [c]) := by
  unfold OwnK
  rw [List.length_append, ckvs_app]
  exact h
theorem ownK_shape {w : World} {base : Nat} {v : Value} {l : List Ck} (h : OwnK w base v l) : ∃ ua uc, v = .slice ua l.length uc := by
  rcases h.2 with ⟨rfl, h0⟩ | ⟨g, cap, cur, rfl, _⟩
  · exact ⟨_, _, by rw [h0]⟩
  · exact ⟨_, _, rfl⟩
theorem cellK {w : World} {u v x : Value} {T : TypeId} {m : Nat} (hm : w.heap.size = m) : ∀ j y, [u, v, x][j]? = some y → (w.alloc (.cells #[u, v, x] T)).cell? ((⟨m, 0, none⟩ : Addr).add j) = some y := by
  subst hm
  intro j y h
  match j with
  | 0 => simp at h; subst h; simp [Addr.add]
  | 1 => simp at h; subst h; simp [Addr.add]
  | 2 => simp at h; subst h; simp [Addr.add]
  | j + 3 => simp at h
theorem oneK {x y : Int} {z : Bool} : ∀ u ∈ [Value.int .i64 x, .int .i64 y, .bool z], u.oneCell' = true := by intro u hu; simp at hu; rcases hu with rfl | rfl | rfl <;> rfl
theorem belowK {W W2 w1 : World} {base : Nat} {v : Value} {l : List Ck} {o : Obj} (hW : Below W.heap.size W W2) (h : OwnK W2 base v l) (hb : W.heap.size ≤ base) (hg : (W2.alloc o).grownBy w1 v.ownBlock) : Below W.heap.size W w1 :=
  (hW.alloc hW.size _).grown hg (by have := hW.size; simp; omega) (fun k hk => by have := (World.ownsRow.lt h k hk).1; omega)
/-- The law of an append, at a step of a region that draws its order. -/
theorem step_own {P : Program} {w : World} {ops : Array Oper} {o : Oper} {a : Act} {K : Act → World → Prop} {Q : Exit → Act → World → Prop} {E : Prop} (hgd : o.guard = none) (s x : Operand) (t : TypeId) (ho : o.op = .call { callee := .builtin .append, args := #[s, x], argTypes := #[t, t] })
    (base e : Nat) (i : TypeInfo) (z : Value) (size bytes : Nat) (ht : P.underlying t = some (.slice e)) (hi : P.info? e = some i) (hz : i.zero = some z) (hs : i.size = size) (hb : i.bytes = bytes) (hzs : z.cells.size = size) (hsz : 0 < size)
    (v : Value) (n : Nat) (xs : List Value) (hv : a.eval s = v) (hown : w.ownsRow base e size v n xs) (ad : Addr) (m c : Nat) (news : List Value) (hu : a.eval x = .slice (some ad) m c) (hl : news.length = m * size) (hnews : ∀ j u, news[j]? = some u → w.cell? (ad.add j) = some u) (h1 : ∀ u ∈ news, u.oneCell' = true)
    (h63 : n + m ≤ maxLen) (hbytes : (n + m) * bytes ≤ 140737488355328) (hbase : base ≤ w.heap.size)
    (h : ∀ v' w', w'.ownsRow base e size v' (n + m) (xs ++ news) → w.grownBy w' v.ownBlock → K (a.put o.dst v') w') : if Region.wanted o (yielded ops a.tmps) = true then Oper.wp P o a w K Q else E := by
  have hw : Region.wanted o (yielded ops a.tmps) = true := by simp [Region.wanted, hgd]
  rw [if_pos hw]
  exact wp_append_own w s x t ho base e i z size bytes ht hi hz hs hb hzs hsz v n xs hv hown ad m c news hu hl hnews h1 h63 hbytes hbase fun v' w' h2 h3 _ => h v' w' h2 h3
theorem true_any (x : Sh) (w : World) : Calls Try.prog 46 #[.agg #[.int .i64 x.tk, .int .i64 x.hd, .int .i64 x.bh, .int .i64 x.ch, .int .i64 x.ht, .int .i64 x.ep, .int .i64 x.bp, .int .i64 x.wr, .int .i64 x.th, .int .i64 x.cs]] w fun e w' => e = .returned (.bool true) ∧ Below w.heap.size w w' := by
  have HB := hid (boxS_below w x)
  go_enter Try.func46, Try.ntmps46
  go_wp2
  go_ret
  exact ⟨rfl, HB.out⟩
/-- The checks of sheets, each by a test. -/
def cksL (G : Sh → Bool) (l : List Sh) : List Ck := l.map fun x => ⟨x.tk, x.hd, G x⟩
theorem cksL_take {G : Sh → Bool} {l : List Sh} {k : Nat} (h : k < l.length) : cksL G (l.take (k + 1)) = cksL G (l.take k) ++ [⟨l[k].tk, l[k].hd, G l[k]⟩] := by
  unfold cksL
  rw [List.take_succ_eq_append_getElem h, List.map_append]; rfl
theorem cksL_len (G : Sh → Bool) (l : List Sh) : (cksL G l).length = l.length := by simp [cksL]
theorem ck_keep {W w2 : World} {b : Nat} {x : Sh} (hb : Below W.heap.size W w2) (h : World.cell? (W) ⟨b, 0, none⟩ = some (.int .i64 x.tk) ∧ World.cell? (W) ⟨b, 1, none⟩ = some (.int .i64 x.hd) ∧ World.cell? (W) ⟨b, 2, none⟩ = some (.int .i64 x.bh) ∧ World.cell? (W) ⟨b, 3, none⟩ = some (.int .i64 x.ch) ∧ World.cell? (W) ⟨b, 4, none⟩ = some (.int .i64 x.ht) ∧ World.cell? (W) ⟨b, 5, none⟩ = some (.int .i64 x.ep) ∧ World.cell? (W) ⟨b, 6, none⟩ = some (.int .i64 x.bp) ∧ World.cell? (W) ⟨b, 7, none⟩ = some (.int .i64 x.wr) ∧ World.cell? (W) ⟨b, 8, none⟩ = some (.int .i64 x.th) ∧ World.cell? (W) ⟨b, 9, none⟩ = some (.int .i64 x.cs)) : World.cell? (w2) ⟨b, 0, none⟩ = some (.int .i64 x.tk) ∧ World.cell? (w2) ⟨b, 1, none⟩ = some (.int .i64 x.hd) ∧ World.cell? (w2) ⟨b, 2, none⟩ = some (.int .i64 x.bh) ∧ World.cell? (w2) ⟨b, 3, none⟩ = some (.int .i64 x.ch) ∧ World.cell? (w2) ⟨b, 4, none⟩ = some (.int .i64 x.ht) ∧ World.cell? (w2) ⟨b, 5, none⟩ = some (.int .i64 x.ep) ∧ World.cell? (w2) ⟨b, 6, none⟩ = some (.int .i64 x.bp) ∧ World.cell? (w2) ⟨b, 7, none⟩ = some (.int .i64 x.wr) ∧ World.cell? (w2) ⟨b, 8, none⟩ = some (.int .i64 x.th) ∧ World.cell? (w2) ⟨b, 9, none⟩ = some (.int .i64 x.cs) := ⟨keep_cell hb h.1, keep_cell hb h.2.1, keep_cell hb h.2.2.1, keep_cell hb h.2.2.2.1, keep_cell hb h.2.2.2.2.1, keep_cell hb h.2.2.2.2.2.1, keep_cell hb h.2.2.2.2.2.2.1, keep_cell hb h.2.2.2.2.2.2.2.1, keep_cell hb h.2.2.2.2.2.2.2.2.1, keep_cell hb h.2.2.2.2.2.2.2.2.2⟩
theorem ck_new {W1 : World} {b : Nat} {x : Sh} (h : Hid (BoxS W1 b x)) : World.cell? (W1.drew) ⟨b, 0, none⟩ = some (.int .i64 x.tk) ∧ World.cell? (W1.drew) ⟨b, 1, none⟩ = some (.int .i64 x.hd) ∧ World.cell? (W1.drew) ⟨b, 2, none⟩ = some (.int .i64 x.bh) ∧ World.cell? (W1.drew) ⟨b, 3, none⟩ = some (.int .i64 x.ch) ∧ World.cell? (W1.drew) ⟨b, 4, none⟩ = some (.int .i64 x.ht) ∧ World.cell? (W1.drew) ⟨b, 5, none⟩ = some (.int .i64 x.ep) ∧ World.cell? (W1.drew) ⟨b, 6, none⟩ = some (.int .i64 x.bp) ∧ World.cell? (W1.drew) ⟨b, 7, none⟩ = some (.int .i64 x.wr) ∧ World.cell? (W1.drew) ⟨b, 8, none⟩ = some (.int .i64 x.th) ∧ World.cell? (W1.drew) ⟨b, 9, none⟩ = some (.int .i64 x.cs) := h.out
theorem cell_grow {W w2 : World} {b i : Nat} {v : Value} {row : Option Nat} (hg : W.grownBy w2 row) (hne : row ≠ some b) (h : W.cell? ⟨b, i, none⟩ = some v) : w2.cell? ⟨b, i, none⟩ = some v := by
  rw [World.cell?_of_block (a := ⟨b, i, none⟩) (hg.block b (World.block_lt_of_cell? _ ⟨b, i, none⟩ h) (fun e => hne e.symm))]
  exact h
theorem ck_grow {W w2 : World} {b : Nat} {x : Sh} {row : Option Nat} (hg : W.grownBy w2 row) (hne : row ≠ some b) (h : World.cell? (W) ⟨b, 0, none⟩ = some (.int .i64 x.tk) ∧ World.cell? (W) ⟨b, 1, none⟩ = some (.int .i64 x.hd) ∧ World.cell? (W) ⟨b, 2, none⟩ = some (.int .i64 x.bh) ∧ World.cell? (W) ⟨b, 3, none⟩ = some (.int .i64 x.ch) ∧ World.cell? (W) ⟨b, 4, none⟩ = some (.int .i64 x.ht) ∧ World.cell? (W) ⟨b, 5, none⟩ = some (.int .i64 x.ep) ∧ World.cell? (W) ⟨b, 6, none⟩ = some (.int .i64 x.bp) ∧ World.cell? (W) ⟨b, 7, none⟩ = some (.int .i64 x.wr) ∧ World.cell? (W) ⟨b, 8, none⟩ = some (.int .i64 x.th) ∧ World.cell? (W) ⟨b, 9, none⟩ = some (.int .i64 x.cs)) : World.cell? (w2) ⟨b, 0, none⟩ = some (.int .i64 x.tk) ∧ World.cell? (w2) ⟨b, 1, none⟩ = some (.int .i64 x.hd) ∧ World.cell? (w2) ⟨b, 2, none⟩ = some (.int .i64 x.bh) ∧ World.cell? (w2) ⟨b, 3, none⟩ = some (.int .i64 x.ch) ∧ World.cell? (w2) ⟨b, 4, none⟩ = some (.int .i64 x.ht) ∧ World.cell? (w2) ⟨b, 5, none⟩ = some (.int .i64 x.ep) ∧ World.cell? (w2) ⟨b, 6, none⟩ = some (.int .i64 x.bp) ∧ World.cell? (w2) ⟨b, 7, none⟩ = some (.int .i64 x.wr) ∧ World.cell? (w2) ⟨b, 8, none⟩ = some (.int .i64 x.th) ∧ World.cell? (w2) ⟨b, 9, none⟩ = some (.int .i64 x.cs) := ⟨cell_grow hg hne h.1, cell_grow hg hne h.2.1, cell_grow hg hne h.2.2.1, cell_grow hg hne h.2.2.2.1, cell_grow hg hne h.2.2.2.2.1, cell_grow hg hne h.2.2.2.2.2.1, cell_grow hg hne h.2.2.2.2.2.2.1, cell_grow hg hne h.2.2.2.2.2.2.2.1, cell_grow hg hne h.2.2.2.2.2.2.2.2.1, cell_grow hg hne h.2.2.2.2.2.2.2.2.2⟩
set_option maxRecDepth 20000 in
set_option maxHeartbeats 8000000 in
theorem checksT_any (v : Value) (l : List Sh) (w : World) (hr : RowH w v l) (hl : l.length ≤ 500) : Calls Try.prog 31 #[v, .func (.func 46) #[] #[]] w fun e w' => ∃ u, e = .returned u ∧ OwnK w' w.heap.size u (cksL (fun _ => true) l) ∧ Below w.heap.size w w' := by
  obtain ⟨i0, hi, hz0, hz1, hz2⟩ := infoK
  have HR := hid (fun w1 (g : Below w.heap.size w w1) => hr.keep g)
  obtain ⟨va, vc, rfl⟩ := hr.shape
  obtain ⟨n, hn⟩ : ∃ n, n = l.length := ⟨_, rfl⟩
  have HN := hid hn
  have hn5 : n ≤ 500 := by omega
  rw [← hn] at HR ⊢
  clear hr hn hl
  have HN5 := hid hn5
  go_enter Try.func31, Try.ntmps31
  go_wp2_with (at_make; refine wpList_make_own _ rfl _ _ 56 rfl w.heap.size 75 i0 (.agg #[.int .i64 0, .int .i64 0, .bool false]) 3 Try.underlying56 hi hz0 hz1 _ _ _ n rfl rfl rfl (by have := HN5.out; rw [hz2]; omega) (by have := HN5.out; unfold maxLen; omega) (Nat.le_refl _) ?_; intro w1 hown1 hgrow1; have HO1 := hid hown1; have HB1 := hid ((Below.refl w.heap.size w).grown hgrow1 (Nat.le_refl _) (fun j e => by cases e)); clear hown1 hgrow1)
  go_wp2
  go_loopw [5, 13] (fun a t wr => ∃ k : Nat, k ≤ n ∧ t = .int .i64 (k : Int) ∧ Hid (OwnK wr w.heap.size a (cksL (fun _ => true) (l.take k))) ∧ Hid (Below w.heap.size w wr)) (fun _ t _ => n - (intOf t).toNat)
  case atStart => exact ⟨0, Nat.zero_le _, rfl, HO1, HB1⟩
  case round =>
    obtain ⟨k, hk, rfl, hO, hB⟩ := hrel
    by_cases hlt : k < n
    · have hlt' : (k : Int) < n := by omega
      have hkl : k < l.length := by rw [← HN.out]; exact hlt
      obtain ⟨b, o, hva, hat⟩ := (HR.out _ hB.out).get (by omega)
      subst hva
      have HT := hid (cksL_take (G := fun _ => true) hkl)
      obtain ⟨c0, c1, c2, c3, c4, c5, c6, c7, c8, c9⟩ := hat k hkl
      have HLK := hid (show (cksL (fun _ => true) (l.take k)).length ≤ 500 by rw [cksL_len, List.length_take]; omega)
      generalize l[k] = x at *
      generalize cksL (fun _ => true) (l.take k) = lo at *
      obtain ⟨oa, oc, rfl⟩ := ownK_shape hO.out
      have HBX := hid (boxS_new wr x)
      have HB2 := hid (hB.out.alloc hB.out.size (.cells #[.int .i64 x.tk, .int .i64 x.hd, .int .i64 x.bh, .int .i64 x.ch, .int .i64 x.ht, .int .i64 x.ep, .int .i64 x.bp, .int .i64 x.wr, .int .i64 x.th, .int .i64 x.cs] 39))
      have HO2 := hid (World.ownsRow.alloc hO.out (.cells #[.int .i64 x.tk, .int .i64 x.hd, .int .i64 x.bh, .int .i64 x.ch, .int .i64 x.ht, .int .i64 x.ep, .int .i64 x.bp, .int .i64 x.wr, .int .i64 x.th, .int .i64 x.cs] 39))
      have HLT := hid hlt
      clear hlt hkl hat
      go_wp2
      clear c0 c1 c2 c3 c4 c5 c6 c7 c8 c9
      generalize hWW : World.alloc wr _ = W1
      have HBX : Hid (BoxS W1 wr.heap.size x) := by rw [← hWW]; exact HBX
      have HB2 : Hid (Below w.heap.size w W1) := by rw [← hWW]; exact HB2
      have HO2 : Hid (OwnK W1 w.heap.size (.slice oa lo.length oc) lo) := by rw [← hWW]; exact HO2
      clear hWW
      have HNE : Hid ((Value.slice oa lo.length oc).ownBlock ≠ some wr.heap.size) := fun e => by have := (World.ownsRow.lt hO.out _ e).2; omega
      go_region_held3 (fun w' => World.cell? (w') ⟨wr.heap.size, 0, none⟩ = some (.int .i64 x.tk) ∧ World.cell? (w') ⟨wr.heap.size, 1, none⟩ = some (.int .i64 x.hd) ∧ World.cell? (w') ⟨wr.heap.size, 2, none⟩ = some (.int .i64 x.bh) ∧ World.cell? (w') ⟨wr.heap.size, 3, none⟩ = some (.int .i64 x.ch) ∧ World.cell? (w') ⟨wr.heap.size, 4, none⟩ = some (.int .i64 x.ht) ∧ World.cell? (w') ⟨wr.heap.size, 5, none⟩ = some (.int .i64 x.ep) ∧ World.cell? (w') ⟨wr.heap.size, 6, none⟩ = some (.int .i64 x.bp) ∧ World.cell? (w') ⟨wr.heap.size, 7, none⟩ = some (.int .i64 x.wr) ∧ World.cell? (w') ⟨wr.heap.size, 8, none⟩ = some (.int .i64 x.th) ∧ World.cell? (w') ⟨wr.heap.size, 9, none⟩ = some (.int .i64 x.cs)) (first | exact ck_new HBX | assumption | exact ck_keep ((Below.refl _ _).alloc (Nat.le_refl _) _) (by assumption) | exact ck_keep (by assumption) (by assumption))
        ((first
          | (go_at_call 46; refine Calls.mono (true_any x _) ?_; rintro e wk ⟨rfl, hb⟩; have HBC := hid (bstep (Below.refl W1.heap.size W1).drew (Nat.le_refl _) hb))
          | (refine step_own rfl (.tmp 17) (.tmp 26) 56 rfl w.heap.size 75 i0 (.agg #[.int .i64 0, .int .i64 0, .bool false]) 3 24 Try.underlying56 hi hz0 hz1 hz2 rfl (by decide) _ lo.length (ckvs lo) rfl (World.ownsRow.alloc (HO2.out.keep HBC.out) _) ⟨wk.heap.size, 0, none⟩ 1 1 [.int .i64 x.tk, .int .i64 x.hd, .bool true] rfl rfl (cellK rfl) oneK (by have := HLK.out; unfold maxLen; omega) (by have := HLK.out; omega) (by have h := HBC.out.size; have := HB2.out.size; simp; omega) ?_; intro v5 w5 hown5 hgrow5; have hS5 := ck_grow hgrow5 HNE.out (by assumption); have HO5 := hid (OwnK.app (c := ⟨x.tk, x.hd, true⟩) hown5); have HB5 := hid (belowK (bstep HB2.out HB2.out.size HBC.out) (HO2.out.keep HBC.out) (Nat.le_refl _) hgrow5); clear hown5 hgrow5)))
      go_wp2
      go_roundw
      case rel => exact ⟨k + 1, HLT.out, by go_num, by rw [HT.out]; exact HO5, HB5⟩
      case measure => have := HLT.out; simp [intOf]; omega
    · obtain rfl : k = n := by omega
      have HE : Hid (OwnK wr w.heap.size u5 (cksL (fun _ => true) l)) := by
        have h := hO.out
        rw [HN.out, List.take_length] at h
        exact h
      go_wp2
      go_ret
      exact ⟨_, rfl, HE.out, hB.out⟩
end Go.Proofs.Ytjfakhfkbnnbcaa
