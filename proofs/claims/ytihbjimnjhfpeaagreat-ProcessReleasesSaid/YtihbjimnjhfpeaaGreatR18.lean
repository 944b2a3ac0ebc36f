/- Texts of this seat, one behind the other. -/
import Derived.Test.YtihbjimnjhfpeaaGreatR08
import Derived.Test.YtihbjimnjhfpeaaGreatR17
import Derived.Test.YtihbjimnjhfpeaaGreatR15
/- Walk of HeatEven. -/
namespace Go.Proofs.YtihbjimnjhfpeaaGreat
open Go.RowKit

theorem even_all (r l a b k a2 b2 : Int) (w : World) (t : Int) : Calls Tryz.prog 121 #[.agg #[.int .i64 r, .int .i64 l, .int .i64 a, .int .i64 b, .int .i64 k, .int .i64 a2, .int .i64 b2], .int .i64 t] w (OutB (evenO r l a b k a2 b2 t) w) := by
  by_cases hn : canB r l a b k a2 b2 = false ∨ okT t = false
  · exact even_no _ _ _ _ _ _ _ _ t hn
  · have hc : canB r l a b k a2 b2 = true := by cases h : canB r l a b k a2 b2 <;> simp_all
    have ho : okT t = true := by cases h : okT t <;> simp_all
    obtain ⟨c, hcv, rfl, rfl, rfl, rfl, rfl, rfl, rfl⟩ := canB_cn hc
    by_cases hk : 0 < c.K
    · exact even_yes c t w hcv ho hk
    · exact even_zero c t w hcv ho (by simpa using hk)

/-- The boxes of HeatEven: the can's, and at n7 and n9 the two bodies'. -/
structure EvB (w W : World) (n7 n9 : Nat) (A X Y : Array Value) : Prop where
  can : W.heap[w.heap.size]? = some (.cells A 23 (0, 0))
  x : W.heap[n7]? = some (.cells X 87 (0, 0))
  y : W.heap[n9]? = some (.cells Y 87 (0, 0))
  h7 : w.heap.size < n7
  h9 : n7 < n9
  low : Below w.heap.size w W
theorem EvB.keep {w W W2 : World} {n7 n9 : Nat} {A X Y : Array Value} (h : EvB w W n7 n9 A X Y) (hb : Below W.heap.size W W2) : EvB w W2 n7 n9 A X Y :=
  ⟨(hb.block _ (lt_of_block h.can)).trans h.can, (hb.block _ (lt_of_block h.x)).trans h.x, (hb.block _ (lt_of_block h.y)).trans h.y, h.h7, h.h9, bstep h.low h.low.size hb⟩
theorem EvB.facts {w W : World} {n7 n9 : Nat} {c0 c1 c2 c3 c4 c5 c6 d0 d1 e0 e1 : Value} (h : EvB w W n7 n9 #[c0, c1, c2, c3, c4, c5, c6] #[d0, d1] #[e0, e1]) :
    W.cell? ⟨w.heap.size, 0, none⟩ = some c0 ∧ W.cell? ⟨w.heap.size, 1, none⟩ = some c1 ∧ W.cell? ⟨w.heap.size, 2, none⟩ = some c2 ∧ W.cell? ⟨w.heap.size, 3, none⟩ = some c3 ∧ W.cell? ⟨w.heap.size, 4, none⟩ = some c4 ∧ W.cell? ⟨w.heap.size, 5, none⟩ = some c5 ∧ W.cell? ⟨w.heap.size, 6, none⟩ = some c6 ∧
    W.cell? ⟨n7, 0, none⟩ = some d0 ∧ W.cell? ⟨n7, 1, none⟩ = some d1 ∧ W.frozen? ⟨n7, 0, none⟩ = false ∧ W.frozen? ⟨n7, 1, none⟩ = false ∧
    W.cell? ⟨n9, 0, none⟩ = some e0 ∧ W.cell? ⟨n9, 1, none⟩ = some e1 ∧ W.frozen? ⟨n9, 0, none⟩ = false ∧ W.frozen? ⟨n9, 1, none⟩ = false ∧ n9 < W.heap.size :=
  ⟨cell_of_row _ _ 0 _ _ _ h.can, cell_of_row _ _ 1 _ _ _ h.can, cell_of_row _ _ 2 _ _ _ h.can, cell_of_row _ _ 3 _ _ _ h.can, cell_of_row _ _ 4 _ _ _ h.can, cell_of_row _ _ 5 _ _ _ h.can, cell_of_row _ _ 6 _ _ _ h.can,
    cell_of_row _ _ 0 _ _ _ h.x, cell_of_row _ _ 1 _ _ _ h.x, frozen_of_row _ _ 0 _ _ h.x, frozen_of_row _ _ 1 _ _ h.x, cell_of_row _ _ 0 _ _ _ h.y, cell_of_row _ _ 1 _ _ _ h.y, frozen_of_row _ _ 0 _ _ h.y, frozen_of_row _ _ 1 _ _ h.y, lt_of_block h.y⟩
end Go.Proofs.YtihbjimnjhfpeaaGreat

/- Plain facts: a can that is hotter all the time has at least the same sums (no Break). -/
namespace Go.Proofs.YtihbjimnjhfpeaaGreat
open Go.RowKit

def leN (S U : List Nat) : Prop := ∀ i (a : i < S.length) (c : i < U.length), S[i] ≤ U[i]
theorem cutN_mono {a b c d : Nat} (h : a ≤ c) (k : b ≤ d) : Lt.cutN a b ≤ Lt.cutN c d := by unfold Lt.cutN; omega
theorem addD_le {f : Int → Nat} {S S' : List Nat} {T T' : List Int} (hf : ∀ t u : Int, t ≤ u → f t ≤ f u) (h1 : S.length = T.length) (h2 : S'.length = T'.length) (hs : leN S S') (ht : leL T T') (hl : T.length = T'.length) : leN (addD f S T) (addD f S' T') := by
  intro i a c
  rw [addD_len h1] at a
  rw [addD_len h2] at c
  rw [addD_get _ a (by omega), addD_get _ c (by omega)]
  exact cutN_mono (hs i a c) (hf _ _ (ht i (by omega) (by omega)))
/-- Two dishes of a can without a Break, one nowhere hotter and with no more than the other. -/
structure LeD (c : Cn) (d e : Dish) : Prop where
  w1 : Warm c d.1
  w2 : Warm c e.1
  b1 : d.1.2 = false
  b2 : e.1.2 = false
  l1 : d.2.length = c.P
  l2 : e.2.length = c.P
  t : leL d.1.1 e.1.1
  s : leN d.2 e.2
theorem LeD.tick {c : Cn} {f : Int → Nat} {d e : Dish} {b b' : Int} (hc : c.Ok) (hK : c.K = 0) (hf : ∀ t u : Int, t ≤ u → f t ≤ f u) (h : LeD c d e) (hb : okT b = true) (hb' : okT b' = true) (hle : b ≤ b') : LeD c (dishT c f d b) (dishT c f e b') := by
  obtain ⟨w1, w2, b1, b2, l1, l2, ht, hs⟩ := h
  obtain ⟨⟨T, x⟩, S⟩ := d
  obtain ⟨⟨U, y⟩, V⟩ := e
  simp only at b1 b2 l1 l2 ht hs w1 w2
  subst b1; subst b2
  obtain ⟨a1, a2, a3⟩ := hc.ra false
  have hb : -50000 ≤ b ∧ b ≤ 200000 := by simpa [okT] using hb
  have hb' : -50000 ≤ b' ∧ b' ≤ 200000 := by simpa [okT] using hb'
  have hw1 := w1.tick hc hb.1 hb.2
  have hw2 := w2.tick hc hb'.1 hb'.2
  have hts := tickT_le a1 a2 a3 w1.len w2.len ht hle
  unfold dishT
  simp only
  have e1 := hw1.len
  have e2 := hw2.len
  rw [tickS_cold hK] at hw1 hw2 e1 e2 ⊢
  rw [tickS_cold hK]
  simp only at e1 e2
  have hP : c.P = c.R * c.L := rfl
  exact ⟨hw1, hw2, rfl, rfl, by show (addD f S _).length = _; rw [addD_len (by rw [l1, e1, hP])]; exact l1, by show (addD f V _).length = _; rw [addD_len (by rw [l2, e2, hP])]; exact l2, hts, addD_le hf (by rw [l1, e1, hP]) (by rw [l2, e2, hP]) hs hts (by rw [e1, e2])⟩
theorem LeD.run {c : Cn} {f : Int → Nat} (hc : c.Ok) (hK : c.K = 0) (hf : ∀ t u : Int, t ≤ u → f t ≤ f u) : ∀ (l m : List Int) (d e : Dish), l.length = m.length → leL l m → okL l = true → okL m = true → LeD c d e → LeD c (dishR c f d l) (dishR c f e m)
  | [], [], _, _, _, _, _, _, h => h
  | [], _ :: _, _, _, hl, _, _, _, _ => by simp at hl
  | _ :: _, [], _, _, hl, _, _, _, _ => by simp at hl
  | b :: l, b' :: m, d, e, hl, hle, ho, ho', h => by
    unfold okL at ho ho'
    rw [List.all_cons, Bool.and_eq_true] at ho ho'
    exact LeD.run hc hK hf l m (dishT c f d b) (dishT c f e b') (by simpa using hl) (fun i a c => hle (i + 1) (by simpa using a) (by simpa using c)) ho.2 ho'.2 (h.tick hc hK hf ho.1 ho'.1 (hle 0 (by simp) (by simp)))
/-- The least sum of a dish. -/
def ivN (S : List Nat) : List Int := S.map fun (n : Nat) => (n : Int)
theorem ivN_len (S : List Nat) : (ivN S).length = S.length := by simp [ivN]
def lowD (d : Dish) : Int := minA (ivN d.2)
theorem lowD_le {S U : List Nat} (h0 : 0 < S.length) (hl : S.length = U.length) (h : leN S U) : minA (ivN S) ≤ minA (ivN U) := by
  have h1 := minA_mem (ds := ivN U) (by rw [ivN_len]; omega)
  obtain ⟨i, hi, e⟩ := List.getElem_of_mem h1
  rw [ivN_len] at hi
  rw [← e]
  have h2 := minA_le (ds := ivN S) (x := (ivN S)[i]'(by rw [ivN_len]; omega)) (List.getElem_mem _)
  refine Int.le_trans h2 ?_
  simp only [ivN, List.getElem_map]
  have := h i (by omega) hi
  omega
theorem LeD.low {c : Cn} {d e : Dish} (hc : c.Ok) (h : LeD c d e) : lowD d ≤ lowD e :=
  lowD_le (by rw [h.l1]; exact hc.p.1) (by rw [h.l1, h.l2]) h.s
end Go.Proofs.YtihbjimnjhfpeaaGreat

/- What a meter's rates are; walk of begin: contract. -/
namespace Go.Proofs.YtihbjimnjhfpeaaGreat
open Go.RowKit Go.Lib

theorem enter_at {F : Nat} {fn : Func} (hf : Tryz.prog.funcs[F]? = some fn) (hn : (fn.name == "runtime.NumGoroutine") = false) (hb : fn.body.isNone = false) (args : Array Value) (W : World) : Sem.run Tryz.prog (callFunc F args) W = .ok (.enter F args) W := by
  have hn' : ¬ fn.name = "runtime.NumGoroutine" := by simpa using hn
  have hb' : ¬ fn.body = none := fun h => by rw [h] at hb; cases hb
  simp [callFunc, go_sem, hf, hn', hb']
/-- A function F with what it captured tells f of each temperature from lo to hi, and turns no more than the map at mb; what it stands on (I) lies below B0. -/
structure RateOk (F : Nat) (lb : Array Value) (f : Int → Nat) (lo hi : Int) (mb B0 : Nat) (I : World → Prop) : Prop where
  enter : ∀ (args : Array Value) (W : World), Sem.run Tryz.prog (callFunc F args) W = .ok (.enter F args) W
  call : ∀ (W : World) (t : Int), I W → lo ≤ t → t ≤ hi → Calls Tryz.prog F (#[.int .i64 t] ++ lb) W fun e W' => e = .returned (.int .i64 (f t : Nat)) ∧ I W' ∧ W.grownBy W' (some mb)
  keep : ∀ (W W' : World) (row : Option Nat), I W → W.grownBy W' row → (∀ j, row = some j → B0 ≤ j) → I W'
  isM : ∀ W, I W → ∃ o : Obj, W.heap[mb]? = some o ∧ o.isCells = false
  lt : mb < B0
  le : ∀ W, I W → B0 ≤ W.heap.size
  fle : ∀ t, f t ≤ 100000000000000000
theorem RateOk.below {F : Nat} {lb : Array Value} {f : Int → Nat} {lo hi : Int} {mb B0 : Nat} {I : World → Prop} (h : RateOk F lb f lo hi mb B0 I) {W W' : World} (hI : I W) (hb : Below W.heap.size W W') : I W' :=
  h.keep W W' none hI (gbelow hb) (fun j e => by cases e)
/-- What reads as cells lies in no map's block. -/
theorem cell_noM {W : World} {mb b o : Nat} {v : Value} (hM : ∃ o : Obj, W.heap[mb]? = some o ∧ o.isCells = false) (h : W.cell? ⟨b, o, none⟩ = some v) : some b ≠ some mb := by
  intro e
  have e : b = mb := Option.some.inj e
  obtain ⟨x, h1, h2⟩ := hM
  rw [← e] at h1
  unfold World.cell? at h
  rw [show W.heap[(⟨b, o, none⟩ : Addr).block]? = _ from h1] at h
  cases x <;> simp_all [Obj.isCells]
theorem blk_noM {W : World} {mb b : Nat} {cs : Array Value} {T : TypeId} {fz : Nat × Nat} (hM : ∃ o : Obj, W.heap[mb]? = some o ∧ o.isCells = false) (h : W.heap[b]? = some (.cells cs T fz)) : some b ≠ some mb := by
  intro e
  cases e
  obtain ⟨x, h1, h2⟩ := hM
  rw [h] at h1
  cases h1
  simp [Obj.isCells] at h2
theorem rowI_grown {W W' : World} {mb : Nat} {v : Value} {l : List Int} (h : RowI W v l) (hg : W.grownBy W' (some mb)) (hM : ∃ o : Obj, W.heap[mb]? = some o ∧ o.isCells = false) : RowI W' v l := by
  rcases h with h | ⟨b, o, cap, hv, hm, hc⟩
  · exact .inl h
  · exact .inr ⟨b, o, cap, hv, hm, fun k hk => Lt.grown_cell hg (World.block_lt_of_cell? W ⟨b, o + k, none⟩ (hc k hk)) (cell_noM hM (hc k hk)) (hc k hk)⟩
/-- Two boxes behind one another, whole. -/
structure B2 (w W : World) (T1 T2 : TypeId) (A B : Array Value) : Prop where
  one : W.heap[w.heap.size]? = some (.cells A T1 (0, 0))
  two : W.heap[w.heap.size + 1]? = some (.cells B T2 (0, 0))
  low : Below w.heap.size w W
theorem b2_start {w : World} {T1 T2 : TypeId} {A B : Array Value} : B2 w ((w.alloc (.cells A T1)).alloc (.cells B T2)) T1 T2 A B :=
  ⟨heap_alloc2_old w _ _, heap_alloc2_new w _ _, ((Below.refl _ _).alloc (Nat.le_refl _) _).alloc (by simp) _⟩
theorem B2.keep {w w1 w2 : World} {T1 T2 : TypeId} {A B : Array Value} (h : B2 w w1 T1 T2 A B) (hb : Below w1.heap.size w1 w2) : B2 w w2 T1 T2 A B :=
  ⟨(hb.block _ (lt_of_block h.one)).trans h.one, (hb.block _ (lt_of_block h.two)).trans h.two, bstep h.low h.low.size hb⟩
theorem B2.lt {w W : World} {T1 T2 : TypeId} {A B : Array Value} (h : B2 w W T1 T2 A B) : w.heap.size + 1 < W.heap.size := lt_of_block h.two
/-- What comes back for a dish. -/
def DishP (D : Dish) (w : World) (e : Ending) (w' : World) : Prop :=
  ∃ (ua ub : Option Addr) (uc ud : Nat), e = .returned (.agg #[.slice ua D.1.1.length uc, .bool D.1.2, .slice ub D.2.length ud]) ∧ RowI w' (.slice ua D.1.1.length uc) D.1.1 ∧ RowI w' (.slice ub D.2.length ud) (ivN D.2) ∧ Below w.heap.size w w'

theorem set3 {W : World} {b : Nat} {T : TypeId} {x0 x1 x2 y0 y1 y2 : Value} (h : W.heap[b]? = some (.cells #[x0, x1, x2] T (0, 0))) :
    (((W.setCell ⟨b, 0, none⟩ y0).setCell ⟨b, 1, none⟩ y1).setCell ⟨b, 2, none⟩ y2).heap[b]? = some (.cells #[y0, y1, y2] T (0, 0)) ∧ (∀ g, g ≠ b → (((W.setCell ⟨b, 0, none⟩ y0).setCell ⟨b, 1, none⟩ y1).setCell ⟨b, 2, none⟩ y2).heap[g]? = W.heap[g]?) ∧ ∀ B, B ≤ b → Below B W (((W.setCell ⟨b, 0, none⟩ y0).setCell ⟨b, 1, none⟩ y1).setCell ⟨b, 2, none⟩ y2) := by
  have h0 := heap_setCell_same W b 0 _ _ y0 h
  have h1 := heap_setCell_same _ b 1 _ _ y1 h0
  have h2 := heap_setCell_same _ b 2 _ _ y2 h1
  refine ⟨h2, fun g hg => ?_, fun B hB => ?_⟩
  · rw [heap_setCell_other _ _ _ _ (by exact hg), heap_setCell_other _ _ _ _ (by exact hg), heap_setCell_other _ _ _ _ (by exact hg)]
  · exact (((Below.refl _ W).setCell (p := ⟨b, 0, none⟩) (by exact hB) y0).setCell (p := ⟨b, 1, none⟩) (by exact hB) y1).setCell (p := ⟨b, 2, none⟩) (by exact hB) y2
/-- A row of ints lies elsewhere than a box whose block reads otherwise. -/
theorem rowI_same {W W' : World} {v : Value} {l : List Int} (h : RowI W v l) (hc : ∀ b o x, W.cell? ⟨b, o, none⟩ = some (.int .i64 x) → W'.heap[b]? = W.heap[b]?) : RowI W' v l := by
  rcases h with h | ⟨b, o, cap, hv, hm, hcc⟩
  · exact .inl h
  · refine .inr ⟨b, o, cap, hv, hm, fun k hk => ?_⟩
    rw [World.cell?_of_block (a := ⟨b, o + k, none⟩) (hc b (o + k) _ (hcc k hk))]
    exact hcc k hk
/-- A box of a slice, a Bool and a slice holds no int. -/
theorem box3_noInt {W : World} {b g o : Nat} {x : Int} {T : TypeId} {a1 a2 : Option Addr} {n1 c1 n2 c2 : Nat} {br : Bool} (hb : W.heap[b]? = some (.cells #[.slice a1 n1 c1, .bool br, .slice a2 n2 c2] T (0, 0))) (h : W.cell? ⟨g, o, none⟩ = some (.int .i64 x)) : g ≠ b := by
  rintro rfl
  rw [cell_of_row W _ o _ _ _ hb] at h
  match o, h with
  | 0, h => simp at h
  | 1, h => simp at h
  | 2, h => simp at h
  | j + 3, h => simp at h

/-- What begin works on, with the body at n. -/
structure BgL (c : Cn) (need : Int) (F : Nat) (lb : Array Value) (ua : Option Addr) (P uc : Nat) (br : Bool) (n : Nat) (w W : World) : Prop where
  boxes : B2 w W 80 89 #[.int .i64 (c.R : Int), .int .i64 (c.L : Int), .int .i64 c.A, .int .i64 c.B, .int .i64 c.K, .int .i64 c.A2, .int .i64 c.B2, .int .i64 need, .func (.func F) #[] lb] #[.slice none 0 0, .bool false, .slice none 0 0]
  body : W.heap[n]? = some (.cells #[.slice ua P uc, .bool br] 87 (0, 0))
  lt : w.heap.size + 1 < n
theorem BgL.keep {c : Cn} {need : Int} {F : Nat} {lb : Array Value} {ua : Option Addr} {P uc n : Nat} {br : Bool} {w W W' : World} (h : BgL c need F lb ua P uc br n w W) (hb : Below W.heap.size W W') : BgL c need F lb ua P uc br n w W' :=
  ⟨h.boxes.keep hb, (hb.block _ (lt_of_block h.body)).trans h.body, h.lt⟩
def RawBg (c : Cn) (need : Int) (F : Nat) (lb : Array Value) (ua : Option Addr) (P uc : Nat) (br : Bool) (n : Nat) (w W : World) : Prop := W.cell? ⟨n, 0, none⟩ = some (.slice ua P uc) ∧ W.cell? ⟨n, 1, none⟩ = some (.bool br) ∧ BgL c need F lb ua P uc br n w W
theorem rawBg {c : Cn} {need : Int} {F : Nat} {lb : Array Value} {ua : Option Addr} {P uc n : Nat} {br : Bool} {w W : World} (h : BgL c need F lb ua P uc br n w W) : RawBg c need F lb ua P uc br n w W :=
  ⟨cell_of_row _ _ 0 _ _ _ h.body, cell_of_row _ _ 1 _ _ _ h.body, h⟩

set_option maxRecDepth 100000 in
set_option maxHeartbeats 4000000 in
theorem begin_any (c : Cn) (need t : Int) (F : Nat) (lb : Array Value) (w : World) (hv : c.V) (ho : okT t = true) :
    Calls Tryz.prog 75 #[.agg #[.int .i64 (c.R : Int), .int .i64 (c.L : Int), .int .i64 c.A, .int .i64 c.B, .int .i64 c.K, .int .i64 c.A2, .int .i64 c.B2, .int .i64 need, .func (.func F) #[] lb], .int .i64 t] w (DishP (dish0 c t) w) := by
  have HE := hid (fun W => even_all c.R c.L c.A c.B c.K c.A2 c.B2 W t)
  have he := evenO_ok hv ho
  have HP := hid hv.ok.p
  have HEQ := hid he
  have HS := hid (b2_start (w := w) (T1 := 80) (T2 := 89) (A := #[.int .i64 (c.R : Int), .int .i64 (c.L : Int), .int .i64 c.A, .int .i64 c.B, .int .i64 c.K, .int .i64 c.A2, .int .i64 c.B2, .int .i64 need, .func (.func F) #[] lb]) (B := #[.slice none 0 0, .bool false, .slice none 0 0]))
  clear he hv ho
  go_enter Tryz.func75, Tryz.ntmps75
  go_wp2_with fail
  refine (HE.out _).mono ?_
  rw [HEQ.out]
  rintro e w1 ⟨ua, uc, rfl, hr, hb⟩
  dsimp only at hr ⊢
  rw [List.length_replicate] at hr ⊢
  have H1 := hid (HS.out.keep hb)
  have HR := hid hr
  clear hr hb
  go_wp2_with fail
  have HB0 : Hid (BgL c need F lb ua c.P uc (decide (0 < c.K) && decide (c.K ≤ t)) w1.heap.size w (w1.alloc (.cells #[.slice ua c.P uc, .bool (decide (0 < c.K) && decide (c.K ≤ t))] 87))) := by
    have hb := (Below.refl _ w1).alloc (Nat.le_refl _) (.cells #[.slice ua c.P uc, .bool (decide (0 < c.K) && decide (c.K ≤ t))] 87)
    exact ⟨H1.out.keep hb, heap_alloc_new w1 _, H1.out.lt⟩
  have HR2 := hid (HR.out.keep ((Below.refl _ w1).alloc (Nat.le_refl _) (.cells #[.slice ua c.P uc, .bool (decide (0 < c.K) && decide (c.K ≤ t))] 87)))
  have hp := HP.out
  have hmk := run_make_row' (P := Tryz.prog) 28 3 (.int .i64 0) 8 Tryz.underlying28 infoIf rfl .i64 .i64 c.P (by omega) (by omega)
  generalize hbr : (decide (0 < c.K) && decide (c.K ≤ t)) = br at *
  have HBR := hid hbr
  clear hbr
  generalize w1.heap.size = n at HB0 ⊢
  generalize w1.alloc _ = W2 at *
  clear H1 HR HS
  refine wp_region_sink (S := RawBg c need F lb ua c.P uc br n w) 6 (by kernel_rfl) (by kernel_rfl) (by kernel_rfl) (by kernel_rfl) (rawBg (HB0.out.keep (Below.refl _ W2).drew)) (fun hS0 => ?_)
  refine wpAnyH_take (i := 0) (v := ?_) rfl (by kernel_rfl) (by kernel_rfl) (by kernel_rfl) (fun _ _ _ h => h) (Or.inl ⟨by rfl, ?_⟩) hS0 ?_
  rotate_left
  · intro w' hSw
    obtain ⟨q0, q1, _⟩ := hSw
    go_simp
    try with_reducible rfl
  try simp only [Act.put]
  try simp only [List.setIfInBounds_toArray]
  try simp only [List.set_cons_zero, List.set_cons_succ]
  refine wpAnyH_take (i := 1) (v := ?_) rfl (by kernel_rfl) (by kernel_rfl) (by kernel_rfl) (fun _ _ _ h => h) (Or.inl ⟨by rfl, ?_⟩) hS0 ?_
  rotate_left
  · intro w' hSw
    obtain ⟨q0, q1, _⟩ := hSw
    go_simp
    try with_reducible rfl
  try simp only [Act.put]
  try simp only [List.setIfInBounds_toArray]
  try simp only [List.set_cons_zero, List.set_cons_succ]
  refine wpAnyH_take (i := 2) (v := ?_) rfl (by kernel_rfl) (by kernel_rfl) (by kernel_rfl) (fun _ _ _ h => h) (Or.inl ⟨by rfl, ?_⟩) hS0 ?_
  rotate_left
  · intro w' hSw
    obtain ⟨q0, q1, _⟩ := hSw
    go_simp
    try with_reducible rfl
  try simp only [Act.put]
  try simp only [List.setIfInBounds_toArray]
  try simp only [List.set_cons_zero, List.set_cons_succ]
  refine wpAnyH_take (i := 3) (v := ?_) rfl (by kernel_rfl) (by kernel_rfl) (by kernel_rfl) (fun _ _ _ h => h) (Or.inl ⟨by rfl, ?_⟩) hS0 ?_
  rotate_left
  · intro w' hSw
    obtain ⟨q0, q1, _⟩ := hSw
    go_simp
    try with_reducible rfl
  try simp only [Act.put]
  try simp only [List.setIfInBounds_toArray]
  try simp only [List.set_cons_zero, List.set_cons_succ]
  (refine wpAnyH_ready (rs := [4]) (by kernel_rfl) (by simp) ?_)
  refine AllReadyH.cons rfl (fun K hK => ?_) AllReadyH.nil
  go_simp
  have hb3 : Below W2.heap.size W2 (W2.alloc (.cells (madeCells #[.int .i64 0] c.P) 3)).drew := ((Below.refl _ W2).alloc (Nat.le_refl _) _).drew
  have HB3 := hid (HB0.out.keep hb3)
  have HR3 := hid (HR2.out.keep hb3)
  have HROW : Hid ((W2.alloc (.cells (madeCells #[.int .i64 0] c.P) 3)).drew.heap[W2.heap.size]? = some (.cells (ivs (List.replicate c.P 0)).toArray 3 (0, 0))) := by
    have h := made_at W2 c.P 3
    rw [ivs_rep]
    exact h
  clear hb3
  generalize (W2.alloc (.cells (madeCells #[.int .i64 0] c.P) 3)).drew = W3 at *
  (refine hK.out _ _ (rawBg HB3.out) (fun hS1 => ?_); clear hK K)
  refine wpAnyH_take (i := 5) (v := ?_) rfl (by kernel_rfl) (by kernel_rfl) (by kernel_rfl) (fun _ _ _ h => h) (Or.inl ⟨by rfl, ?_⟩) hS1 ?_
  rotate_left
  · intro w' hSw
    obtain ⟨q0, q1, _⟩ := hSw
    go_simp
    try with_reducible rfl
  try simp only [Act.put]
  try simp only [List.setIfInBounds_toArray]
  try simp only [List.set_cons_zero, List.set_cons_succ]
  have hb2 := HB3.out.boxes.two
  have HST := hid (set3 (y0 := (.slice ua c.P uc)) (y1 := (.bool br)) (y2 := (.slice (some ⟨W2.heap.size, 0, none⟩) c.P c.P)) hb2)
  have t0 := cell_of_row _ _ 0 _ _ _ hb2
  have t1 := cell_of_row _ _ 1 _ _ _ hb2
  have t2 := cell_of_row _ _ 2 _ _ _ hb2
  have f0 := frozen_of_row _ _ 0 _ _ hb2
  have f1 := frozen_of_row _ _ 1 _ _ hb2
  have f2 := frozen_of_row _ _ 2 _ _ hb2
  simp only [List.getElem?_toArray, List.getElem?_cons_zero, List.getElem?_cons_succ] at t0 t1 t2
  have hz3 := HB3.out.boxes.lt
  have HB2 := hid hb2
  clear hb2
  refine wpAnyH_done (by kernel_rfl) ?_ _
  refine sink_last rfl (fun K hK => ?_)
  go_simp
  refine hK.out _ _ ?_
  clear hK K
  obtain ⟨W9, hW9⟩ : ∃ W9 : World, W9 = ((W3.setCell ⟨w.heap.size + 1, 0, none⟩ (.slice ua c.P uc)).setCell ⟨w.heap.size + 1, 1, none⟩ (.bool br)).setCell ⟨w.heap.size + 1, 2, none⟩ (.slice (some ⟨W2.heap.size, 0, none⟩) c.P c.P) := ⟨_, rfl⟩
  rw [← hW9] at HST ⊢
  clear hW9
  obtain ⟨e1, e2, e3⟩ := HST.out
  have hb9 : Below w.heap.size w W9 := HB3.out.boxes.low.trans (e3 _ (by omega))
  have hr9 : RowI W9 (.slice ua c.P uc) (List.replicate c.P t) := rowI_same HR3.out fun b o x hx => e2 _ (box3_noInt HB2.out hx)
  have hn9 : W9.heap[W2.heap.size]? = some (.cells (ivs (List.replicate c.P 0)).toArray 3 (0, 0)) := (e2 _ (fun e => by rw [e] at HROW; have h1 := HROW.out; have h2 := HB2.out; rw [h1] at h2; exact absurd (Obj.cells.inj (Option.some.inj h2)).2.1 (by decide))).trans HROW.out
  have hs9 : RowI W9 (.slice (some ⟨W2.heap.size, 0, none⟩) c.P c.P) (ivN (List.replicate c.P 0)) := by
    have h := rowI_of_block (cap := c.P) hn9 (by rw [List.length_replicate]; omega)
    rw [List.length_replicate] at h
    simpa [ivN] using h
  have HE := hid (And.intro hr9 (And.intro hs9 hb9))
  have s0 := cell_of_row _ _ 0 _ _ _ e1
  have s1 := cell_of_row _ _ 1 _ _ _ e1
  have s2 := cell_of_row _ _ 2 _ _ _ e1
  simp only [List.getElem?_toArray, List.getElem?_cons_zero, List.getElem?_cons_succ] at s0 s1 s2
  clear HST e1 e2 e3 hb9 hr9 hn9 hs9 hS0 hS1 t0 t1 t2 f0 f1 f2 HROW
  go_wp2_with fail
  refine bodyPost_ret (v := .agg #[.slice ua c.P uc, .bool br, .slice (some ⟨W2.heap.size, 0, none⟩) c.P c.P]) ?_ rfl ?_
  · simp [results, Tryz.results75, go_sem, s0, s1, s2]
  · obtain ⟨h1, h2, h3⟩ := HE.out
    have hd : dish0 c t = ((List.replicate c.P t, br), List.replicate c.P 0) := by unfold dish0 evB; rw [HBR.out]
    rw [hd]
    exact ⟨ua, some ⟨W2.heap.size, 0, none⟩, uc, c.P, by simp, by simpa using h1, by simpa using h2, h3⟩
end Go.Proofs.YtihbjimnjhfpeaaGreat

/- Walks of the reference's Running at nil, Sum, SumUp: contracts. -/
namespace Go.Proofs.YtihbjimnjhfpeaaGreat.Lt
open Go.RowKit Go.Lib Go.Maps

/-- What Sum and SumUp answer. -/
def sumA (v : Bool) (f : Int → Nat) (l : List Int) : Int := if askE v l = 0 then (sumL f l : Nat) else 0
theorem RowR.two {w : World} {v : Value} {l : List Nat} (h : RowR w v l) : (v = .slice none 0 0 ∧ l = []) ∨ ∃ g cap, v = .slice (some ⟨g, 0, none⟩) l.length cap ∧ ∀ k (h : k < l.length), w.cell? ⟨g, k, none⟩ = some (.int .i64 (l[k] : Nat)) := h

end Go.Proofs.YtihbjimnjhfpeaaGreat.Lt
