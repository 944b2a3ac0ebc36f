/- Walks of told: contracts. -/
import Derived.Test.YtedfajokiblfhaaRn
import Derived.Test.YtedfajokiblfhaaA7
namespace Go.Proofs.Ytedfajokiblfhaa
open Go.RowKit Go.Shelf
attribute [local go_sem] Oper.semAt_some

/-- What is told of the bodies behind one, two .., n ticks. -/
def tellN (f : Bd → Int) (c : Cn) (x : Bd) (l : List Int) (n : Nat) : List Int := (List.range n).map fun k => f (runS c x (l.take (k + 1)))
theorem tellN_len (f : Bd → Int) (c : Cn) (x : Bd) (l : List Int) (n : Nat) : (tellN f c x l n).length = n := by simp [tellN]
theorem tellN_succ (f : Bd → Int) (c : Cn) (x : Bd) (l : List Int) (n : Nat) : tellN f c x l (n + 1) = tellN f c x l n ++ [f (runS c x (l.take (n + 1)))] := by unfold tellN; rw [List.range_succ, List.map_append]; rfl
/-- The three boxes of told. -/
structure T3 (w w1 : World) (A B : Array Value) (fv : Value) : Prop where
  two : R2 w w1 A B
  fn : w1.heap[w.heap.size + 1 + 1]? = some (.cells #[fv] 85 (0, 0))
theorem t3_start {w : World} {A B : Array Value} {fv : Value} : T3 w (((w.alloc (.cells A 23)).alloc (.cells B 42)).alloc (.cells #[fv] 85)) A B fv :=
  ⟨(r2_start (A := A) (R := B)).keep ((Below.refl _ _).alloc (Nat.le_refl _) _), new_at (by simp)⟩
theorem T3.keep {w w1 w2 : World} {A B : Array Value} {fv : Value} (h : T3 w w1 A B fv) (hb : Below w1.heap.size w1 w2) : T3 w w2 A B fv := ⟨h.two.keep hb, (hb.block _ (lt_of_block h.fn)).trans h.fn⟩
theorem T3.map {w w1 w2 : World} {A B : Array Value} {fv : Value} (h : T3 w w1 A B fv) (hk : ∀ j, j < w.heap.size + 3 → j < w1.heap.size → w2.heap[j]? = w1.heap[j]?) (hb : Below w.heap.size w w2) : T3 w w2 A B fv :=
  ⟨⟨(hk _ (by omega) (lt_of_block h.two.can)).trans h.two.can, (hk _ (by omega) (lt_of_block h.two.res)).trans h.two.res, hb⟩, (hk _ (by omega) (lt_of_block h.fn)).trans h.fn⟩
theorem own_typeI {W : World} {base n g : Nat} {v : Value} {xs : List Value} (h : W.ownsRow base 3 1 v n xs) (hg : v.ownBlock = some g) : ∃ cs, W.heap[g]? = some (.cells cs 3 (0, 0)) := by
  rcases h.2 with ⟨rfl, _⟩ | ⟨g', cap, cur, rfl, _, hc, _⟩
  · cases hg
  · cases hg; exact ⟨cur, hc⟩
/-- What told's rounds stand on: the list's box, the list, and the three boxes. -/
structure ToI (w : World) (A B : Array Value) (fv : Value) (xb base n0 : Nat) (L : List Int) (W : World) : Prop where
  three : T3 w W A B fv
  ex : ∃ v, W.heap[xb]? = some (.cells #[v] 28 (0, 0)) ∧ W.ownsRow base 3 1 v L.length (ivs L) ∧ (v.ownBlock = some base ∨ ∃ g, v.ownBlock = some g ∧ n0 ≤ g)
theorem ToI.turn {w W W' : World} {A B : Array Value} {fv : Value} {xb base n0 B0 : Nat} {L : List Int} {row : Option Nat} (h : ToI w A B fv xb base n0 L W) (hw : w.heap.size + 3 ≤ B0) (hx : xb < B0) (hg : W.grownBy W' row) (hr : ∀ j, row = some j → B0 ≤ j ∧ ∃ o : Obj, W.heap[j]? = some o ∧ Obj.apart 84 o) : ToI w A B fv xb base n0 L W' := by
  obtain ⟨v, h1, h2, h5⟩ := h.ex
  have nOwn : ∀ j, row = some j → v.ownBlock ≠ some j := fun j e e2 => by
    obtain ⟨_, o, ho, hc⟩ := hr j e
    obtain ⟨cs, hcs⟩ := own_typeI h2 e2
    rw [ho] at hcs
    cases hcs
    rcases hc with hc | ⟨cs', hc⟩ <;> cases hc
  have hk : ∀ j, j < B0 → j < W.heap.size → W'.heap[j]? = W.heap[j]? := fun j g1 g2 => hg.block j g2 (fun e => by have := (hr _ e.symm).1; omega)
  refine ⟨h.three.map (fun j g1 g2 => hk j (by omega) g2) (h.three.two.low.grown hg h.three.two.low.size (fun j e => by have := (hr j e).1; omega)), v, (hk _ hx (lt_of_block h1)).trans h1, h2.kept hg ?_, h5⟩
  cases hb : v.ownBlock with
  | none => exact .inl rfl
  | some j => exact .inr (fun e => nOwn j e.symm hb)
theorem ToI.keep {w W W' : World} {A B : Array Value} {fv : Value} {xb base n0 : Nat} {L : List Int} (h : ToI w A B fv xb base n0 L W) (hb : Below W.heap.size W W') : ToI w A B fv xb base n0 L W' := by
  obtain ⟨v, h1, h2, h5⟩ := h.ex
  exact ⟨h.three.keep hb, v, (hb.block _ (lt_of_block h1)).trans h1, own_kept h2 hb, h5⟩
/-- Behind an append, ahead of its store. -/
theorem to_box {W W7 w8 : World} {xb base n0 : Nat} {v : Value} {xs : List Value} {n : Nat} {o : Obj} (h1 : W.heap[xb]? = some (.cells #[v] 28 (0, 0))) (h2 : W.ownsRow base 3 1 v n xs) (h5 : v.ownBlock = some base ∨ ∃ g, v.ownBlock = some g ∧ n0 ≤ g)
    (hb : Below W.heap.size W W7) (hg : (W7.alloc o).grownBy w8 v.ownBlock) : w8.heap[xb]? = some (.cells #[v] 28 (0, 0)) := by
  have hvb : ∃ g, v.ownBlock = some g := by
    rcases h5 with h | ⟨g, h, hn⟩
    · exact ⟨_, h⟩
    · exact ⟨_, h⟩
  obtain ⟨g, hg0⟩ := hvb
  obtain ⟨old, hold⟩ := own_typeI h2 hg0
  have hxl := lt_of_block h1
  have hxg : xb ≠ g := by rintro rfl; rw [h1] at hold; cases hold
  have hb8 : Below W.heap.size W (W7.alloc o) := hb.alloc hb.size o
  exact (hg.block _ (Nat.lt_of_lt_of_le hxl hb8.size) (by rw [hg0]; intro e; cases e; exact hxg rfl)).trans ((hb8.block _ hxl).trans h1)
/-- The end of a round: the list has one number more. -/
theorem to_end {w W W7 w8 : World} {A B : Array Value} {fv : Value} {xb base n0 B0 : Nat} {L : List Int} {v v8 : Value} {t : Int} {o : Obj}
    (hA : T3 w W A B fv) (h1 : W.heap[xb]? = some (.cells #[v] 28 (0, 0))) (h2 : W.ownsRow base 3 1 v L.length (ivs L)) (h5 : v.ownBlock = some base ∨ ∃ g, v.ownBlock = some g ∧ n0 ≤ g)
    (hb : Below W.heap.size W W7) (hown : w8.ownsRow base 3 1 v8 (L.length + 1) (ivs L ++ [.int .i64 t])) (hg : (W7.alloc o).grownBy w8 v.ownBlock) (hw : v8.ownBlock = v.ownBlock ∨ v8.ownBlock = some (W7.alloc o).heap.size)
    (hx0 : w.heap.size + 2 < xb) (hxb : base < xb ∧ xb < n0) (hbase : w.heap.size + 2 < base) (hn0 : n0 ≤ W.heap.size) :
    ToI w A B fv xb base n0 (L ++ [t]) (w8.setCell ⟨xb, 0, none⟩ v8) ∧ KeepsFrom B0 W (w8.setCell ⟨xb, 0, none⟩ v8) ∧ KpH n0 xb base W (w8.setCell ⟨xb, 0, none⟩ v8) := by
  have hvb : ∃ g, v.ownBlock = some g ∧ (g = base ∨ n0 ≤ g) := by
    rcases h5 with h | ⟨g, h, hn⟩
    · exact ⟨_, h, .inl rfl⟩
    · exact ⟨_, h, .inr hn⟩
  obtain ⟨g, hg0, hgb⟩ := hvb
  obtain ⟨old, hold⟩ := own_typeI h2 hg0
  have hgl := lt_of_block hold
  have hb8 : Below W.heap.size W (W7.alloc o) := hb.alloc hb.size o
  have hold8 : (W7.alloc o).heap[g]? = some (.cells old 3 (0, 0)) := (hb8.block _ hgl).trans hold
  have hxl := lt_of_block h1
  have hxg : xb ≠ g := by rintro rfl; rw [h1] at hold; cases hold
  have hxb8 := to_box h1 h2 h5 hb hg
  have hcell : ∀ j, j ≠ xb → (w8.setCell ⟨xb, 0, none⟩ v8).heap[j]? = w8.heap[j]? := fun j hj => heap_setCell_other _ _ _ _ hj
  have hgc : w8.grownBy (w8.setCell ⟨xb, 0, none⟩ v8) (some xb) := ⟨rfl, rfl, rfl, by simp, fun j _ hj => hcell j (fun e => hj (by rw [e]))⟩
  have hx8 : v8.ownBlock ≠ some xb := by
    rcases hw with e | e
    · rw [e, hg0]; intro e2; cases e2; exact hxg rfl
    · rw [e]; intro e2; cases e2; have := hb8.size; omega
  have hs8 := hg.size
  have hA8 := hA.keep hb8
  have hown2 : w8.ownsRow base 3 1 v8 (L ++ [t]).length (ivs (L ++ [t])) := by rw [List.length_append, show ivs (L ++ [t]) = ivs L ++ [.int .i64 t] by simp [ivs]]; exact hown
  refine ⟨⟨hA8.map (fun j g1 g2 => ?_) ?_, v8, heap_setCell_same w8 xb 0 _ _ v8 hxb8, hown2.kept hgc ?_, ?_⟩, ?_, ?_⟩
  · rw [hcell _ (by omega)]
    exact hg.block _ g2 (by rw [hg0]; intro e; cases e; omega)
  · exact (hA8.two.low.grown hg hA8.two.low.size (fun j e => by rw [hg0] at e; cases e; omega)).setCell (p := ⟨xb, 0, none⟩) (by show w.heap.size ≤ xb; omega) _
  · exact .inr hx8
  · rcases hw with e | e
    · rw [e]; exact h5
    · exact .inr ⟨_, e, Nat.le_trans hn0 hb8.size⟩
  · rw [hg0] at hg
    exact (keeps_below hb8).trans ((keeps_own hg hold8).trans keeps_cell)
  · rw [hg0] at hg
    exact (kpH_below hn0 hb8).trans ((kpH_own hg hold8 (by decide) (Nat.le_trans hn0 hb8.size) hgb).trans (kpH_cell v8 hxb8 (by decide)))
/-- What told hands back. -/
def ToldP (L : List Int) (w : World) (e : Ending) (w' : World) : Prop := ∃ (ua : Option Addr) (uc : Nat), e = .returned (.slice ua L.length uc) ∧ RowI w' (.slice ua L.length uc) L ∧ Below w.heap.size w w'
set_option maxHeartbeats 2000000 in
theorem cold1_any (b : Nat) (c : Cn) (x : Bd) (w : World) (hG : GridAt w b c x) (hc : c.Ok) (hx : Warm c x) :
    Calls Try.prog 47 #[.pointer (some ⟨b, 0, none⟩)] w fun e w' => e = .returned (.int .i64 (minT x.1)) ∧ ∃ n, w' = w.drewN n := by
  have h48 : x.1.length ≤ 48 := by have := hx.len; have := hc.p; unfold Cn.P at this; omega
  have HC := hid (fun w1 (h : GridC w1 b c x) => coldest_any b c x w1 h hc hx)
  have HG := hid (hG.read h48)
  obtain ⟨mn, hmn⟩ : ∃ m, m = minT x.1 := ⟨_, rfl⟩
  rw [← hmn]
  unfold minT at hmn
  rw [← hmn] at HC
  clear hG hx hmn
  go_enter Try.func47, Try.ntmps47
  go_wp2_with (go_at_call 48; refine (HC.out _ HG.out).mono ?_; rintro e w1 ⟨rfl, hd⟩; have HD := hid hd; clear hd)
  go_ret
  exact ⟨rfl, HD.out⟩
set_option maxHeartbeats 2000000 in
theorem at1_any (b pb p : Nat) (c : Cn) (x : Bd) (w : World) (hG : GridAt w b c x) (hc : c.Ok) (hx : Warm c x) (hp : p < c.P) (hpc : w.cell? ⟨pb, 0, none⟩ = some (.int .i64 (p : Int))) :
    Calls Try.prog 43 #[.pointer (some ⟨b, 0, none⟩), .pointer (some ⟨pb, 0, none⟩)] w fun e w' => e = .returned (.int .i64 (x.1.getD p 0)) ∧ ∃ n, w' = w.drewN n := by
  have hl : x.1.length = c.P := hx.len
  have h48 : x.1.length ≤ 48 := by have := hc.p; omega
  have ex := (hG.read h48).temp p (by omega)
  rw [← getD_at (by omega)] at ex
  obtain ⟨t, ht⟩ : ∃ t, t = x.1.getD p 0 := ⟨_, rfl⟩
  rw [← ht] at ex ⊢
  have hp48 : p < 48 := by omega
  have hp1 : (p : Int) < 48 := by omega
  have hp0 : (0 : Int) ≤ p := by omega
  clear hG hx ht hl h48 hp
  go_enter Try.func43, Try.ntmps43
  go_wp2
  go_quiet (fail)
  go_wp2
  go_ret
  exact ⟨rfl, _, rfl⟩
theorem oneI1 {t : Int} : ∀ u ∈ [Value.int .i64 t], u.oneCell' = true := by intro u hu; simp at hu; subst hu; rfl
end Go.Proofs.Ytedfajokiblfhaa
