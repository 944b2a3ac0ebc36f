/- Texts of this seat, one behind the other. -/
import Derived.Test.YtihbjimnjhfpeaaGreatR19
import Derived.Test.YtihbjimnjhfpeaaGreatR18
import Derived.Test.YtihbjimnjhfpeaaGreatR07
/- Walk of total of package lethal: contract. -/
namespace Go.Proofs.YtihbjimnjhfpeaaGreat.Lt
open Go.RowKit Go.Lib Go.Maps Go.Shelf
attribute [local go_sem] Oper.semAt_some


/-- The last sum. -/
def lastS (xs : List (Nat × Nat)) : Nat := match xs.getLast? with | some x => x.2 | none => 0
/-- What a round of total's body keeps: every block of the n0 first but its own. -/
def KpT (n0 x0 : Nat) (W W' : World) : Prop := W.heap.size ≤ W'.heap.size ∧ ∀ j, j < n0 → j ≠ x0 → W'.heap[j]? = W.heap[j]?
theorem KpT.trans {n0 x0 : Nat} {A B C : World} (h : KpT n0 x0 A B) (k : KpT n0 x0 B C) : KpT n0 x0 A C := ⟨Nat.le_trans h.1 k.1, fun j h1 h2 => (k.2 j h1 h2).trans (h.2 j h1 h2)⟩
theorem KpT.put {n0 x0 l : Nat} {W : World} {o o' : Obj} (hl : n0 ≤ l) (_h : W.heap[l]? = some o) : KpT n0 x0 W (W.putObj l o') :=
  ⟨by simp, fun j h1 _ => World.putObj_heap_other (by omega)⟩
theorem KpT.cell {n0 x0 a i : Nat} {W W' : World} {v : Value} (h : KpT n0 x0 W W') (ha : a < n0) (hne : a ≠ x0) (hc : W.cell? ⟨a, i, none⟩ = some v) : W'.cell? ⟨a, i, none⟩ = some v := by
  rw [World.cell?_of_block (a := ⟨a, i, none⟩) (h.2 a ha hne)]; exact hc
theorem ItS.keep {fn : Fn} {s : ByteArray} {r : Int} {Z : Nat} {d g : Int} {L mb tb rb : Nat} {a : Option Addr} {b o cap n0 k x0 : Nat} {l : List Int} {w w' : World} (h : ItS fn s r Z d g L mb tb rb a b o cap n0 l k w) (hb : KpT n0 x0 w w')
    (hx : tb ≠ x0 ∧ rb ≠ x0 ∧ L ≠ x0 ∧ mb ≠ x0 ∧ (l ≠ [] → b ≠ x0)) : ItS fn s r Z d g L mb tb rb a b o cap n0 l k w' := by
  obtain ⟨x1, x2, x3, x4, x5⟩ := hx
  obtain ⟨⟨c0, c1, c2, c3, c4, c5, c6⟩, hne, D, ⟨es, clock, h1, h2⟩, hg⟩ := h.rds
  refine ⟨hb.cell h.lt.1 x1 h.temps, h.addr, hb.cell h.lt.2.1 x2 h.rate, fun j hj => ?_, ⟨⟨hb.cell h.lt.2.2.1 x3 c0, hb.cell h.lt.2.2.1 x3 c1, hb.cell h.lt.2.2.1 x3 c2, hb.cell h.lt.2.2.1 x3 c3, hb.cell h.lt.2.2.1 x3 c4, hb.cell h.lt.2.2.1 x3 c5, Nat.lt_of_lt_of_le c6 hb.1⟩, hne, D, ⟨es, clock, (hb.2 mb h.lt.2.2.2.1 x4).trans h1, h2⟩, hg⟩, h.lt, Nat.le_trans h.le hb.1⟩
  have hl : l ≠ [] := by rintro rfl; exact absurd hj (Nat.not_lt_zero _)
  exact hb.cell (h.lt.2.2.2.2 hl) (x5 hl) (h.cells j hj)
theorem grown_more {w W W' : World} {mb : Nat} {row : Option Nat} (h : w.grownBy W (some mb)) (hg : W.grownBy W' row) (hr : ∀ j, row = some j → j = mb ∨ w.heap.size ≤ j) : w.grownBy W' (some mb) :=
  ⟨hg.os.trans h.os, hg.tape.trans h.tape, hg.output.trans h.output, Nat.le_trans h.size hg.size, fun k hk hne => by
    refine (hg.block k (Nat.lt_of_lt_of_le hk h.size) (fun e => ?_)).trans (h.block k hk hne)
    rcases hr k e.symm with rfl | h1
    · exact hne rfl
    · omega⟩

end Go.Proofs.YtihbjimnjhfpeaaGreat.Lt

/- Walk of after: contract. -/
namespace Go.Proofs.YtihbjimnjhfpeaaGreat
open Go.RowKit Go.Lib

/-- The sums when n have been added to. -/
def midD (f : Int → Nat) (S : List Nat) (T : List Int) (n : Nat) : List Nat := (addD f S T).take n ++ S.drop n
theorem midD_zero (f : Int → Nat) (S : List Nat) (T : List Int) : midD f S T 0 = S := by simp [midD]
theorem midD_all {f : Int → Nat} {S : List Nat} {T : List Int} (h : S.length = T.length) : midD f S T S.length = addD f S T := by
  unfold midD
  rw [List.drop_length, List.append_nil, List.take_of_length_le (by rw [addD_len h]; exact Nat.le_refl _)]
theorem midD_at {f : Int → Nat} {S : List Nat} {T : List Int} {n : Nat} (h : S.length = T.length) (hn : n < S.length) : (midD f S T n)[n]? = some S[n] := by
  unfold midD
  rw [List.getElem?_append_right (by rw [List.length_take, addD_len h]; omega), List.length_take, addD_len h, show n - min n S.length = 0 by omega]
  simp [hn]
theorem midD_set {f : Int → Nat} {S : List Nat} {T : List Int} {n : Nat} (h : S.length = T.length) (hn : n < S.length) : (midD f S T n).set n (Lt.cutN S[n] (f (T[n]'(by omega)))) = midD f S T (n + 1) := by
  have e : S.drop n = S[n] :: S.drop (n + 1) := List.drop_eq_getElem_cons hn
  have hl : (addD f S T).length = S.length := addD_len h
  have e2 : (addD f S T).take (n + 1) = (addD f S T).take n ++ [Lt.cutN S[n] (f (T[n]'(by omega)))] := by
    rw [List.take_add_one, List.getElem?_eq_getElem (by omega), addD_get _ hn (by omega)]; rfl
  unfold midD
  rw [e, e2, List.set_append_right _ _ (by rw [List.length_take, hl]; omega), List.length_take, hl, show n - min n S.length = 0 by omega, List.set_cons_zero, List.append_assoc]
  rfl
theorem ivN_set (S : List Nat) (n x : Nat) : (ivN S).set n (x : Int) = ivN (S.set n x) := by simp [ivN, List.map_set]
theorem ivN_at {S : List Nat} {n x : Nat} (h : S[n]? = some x) : (ivN S)[n]? = some (x : Int) := by simp [ivN, h]
theorem cutN_int {x y : Nat} : ((Lt.cutN x y : Nat) : Int) = if 1000000000000000000 < (x : Int) + (y : Int) then 1000000000000000000 else (x : Int) + (y : Int) := by unfold Lt.cutN; split <;> omega
theorem set3_grown {W : World} {b : Nat} {y0 y1 y2 : Value} : W.grownBy (((W.setCell ⟨b, 0, none⟩ y0).setCell ⟨b, 1, none⟩ y1).setCell ⟨b, 2, none⟩ y2) (some b) := by
  refine ⟨rfl, rfl, rfl, by simp, fun k _ hk => ?_⟩
  have hne : k ≠ b := fun e => hk (by rw [e])
  rw [heap_setCell_other _ _ _ _ (by exact hne), heap_setCell_other _ _ _ _ (by exact hne), heap_setCell_other _ _ _ _ (by exact hne)]
/-- What comes back for a dish, where the map at mb may have turned. -/
def DishG (I : World → Prop) (mb : Nat) (D : Dish) (w : World) (e : Ending) (w' : World) : Prop :=
  ∃ (ua ub : Option Addr) (uc ud : Nat), e = .returned (.agg #[.slice ua D.1.1.length uc, .bool D.1.2, .slice ub D.2.length ud]) ∧ RowI w' (.slice ua D.1.1.length uc) D.1.1 ∧ RowI w' (.slice ub D.2.length ud) (ivN D.2) ∧ I w' ∧ w.grownBy w' (some mb)

/-- What after's loop works on behind k sums. -/
structure AfL (c : Cn) (need : Int) (F : Nat) (lb : Array Value) (f : Int → Nat) (mb : Nat) (I : World → Prop) (S : List Nat) (T : List Int) (br : Bool) (g1 g2 cap n base : Nat) (w : World) (k : Nat) (W : World) : Prop where
  one : W.heap[w.heap.size]? = some (.cells #[.int .i64 (c.R : Int), .int .i64 (c.L : Int), .int .i64 c.A, .int .i64 c.B, .int .i64 c.K, .int .i64 c.A2, .int .i64 c.B2, .int .i64 need, .func (.func F) #[] lb] 80 (0, 0))
  three : W.heap[w.heap.size + 1 + 1]? = some (.cells #[.slice none 0 0, .bool false, .slice none 0 0] 89 (0, 0))
  body : W.heap[n]? = some (.cells #[.slice (some ⟨g1, 0, none⟩) T.length T.length, .bool br] 87 (0, 0))
  temps : W.heap[g1]? = some (.cells (ivs T).toArray 3 (0, 0))
  own : W.ownsRow base 3 1 (.slice (some ⟨g2, 0, none⟩) S.length cap) S.length (ivs (ivN (midD f S T k)))
  inv : I W
  grow : w.grownBy W (some mb)
  lt1 : w.heap.size + 1 + 1 < n
  lt2 : n < base
  lt3 : g1 < base
theorem AfL.call {c : Cn} {need : Int} {F : Nat} {lb : Array Value} {f : Int → Nat} {lo hi : Int} {mb B0 : Nat} {I : World → Prop} {S : List Nat} {T : List Int} {br : Bool} {g1 g2 cap n base k : Nat} {w W W' : World}
    (hR : RateOk F lb f lo hi mb B0 I) (h : AfL c need F lb f mb I S T br g1 g2 cap n base w k W) (hg : W.grownBy W' (some mb)) (hI : I W') (h0 : B0 ≤ w.heap.size) : AfL c need F lb f mb I S T br g1 g2 cap n base w k W' := by
  have hM := hR.isM W h.inv
  have h1 := h.lt1; have h2 := h.lt2; have h3 := hR.lt
  exact ⟨(hg.block _ (lt_of_block h.one) (blk_noM hM h.one)).trans h.one, (hg.block _ (lt_of_block h.three) (blk_noM hM h.three)).trans h.three, (hg.block _ (lt_of_block h.body) (blk_noM hM h.body)).trans h.body, (hg.block _ (lt_of_block h.temps) (blk_noM hM h.temps)).trans h.temps,
    World.ownsRow.kept h.own hg (.inr fun e => by have := (World.ownsRow.lt h.own _ e).1; omega), hI, Lt.grown_more h.grow hg (fun j e => by cases e; exact .inl rfl), h1, h2, h.lt3⟩
theorem AfL.keep {c : Cn} {need : Int} {F : Nat} {lb : Array Value} {f : Int → Nat} {lo hi : Int} {mb B0 : Nat} {I : World → Prop} {S : List Nat} {T : List Int} {br : Bool} {g1 g2 cap n base k : Nat} {w W W' : World}
    (hR : RateOk F lb f lo hi mb B0 I) (h : AfL c need F lb f mb I S T br g1 g2 cap n base w k W) (hb : Below W.heap.size W W') (h0 : B0 ≤ w.heap.size) : AfL c need F lb f mb I S T br g1 g2 cap n base w k W' :=
  h.call hR (Lt.gbelow hb) (hR.below h.inv hb) h0
theorem AfL.store {c : Cn} {need : Int} {F : Nat} {lb : Array Value} {f : Int → Nat} {lo hi : Int} {mb B0 : Nat} {I : World → Prop} {S : List Nat} {T : List Int} {br : Bool} {g1 g2 cap n base k : Nat} {w W : World}
    (hR : RateOk F lb f lo hi mb B0 I) (h : AfL c need F lb f mb I S T br g1 g2 cap n base w k W) (h0 : B0 ≤ w.heap.size) (hl : S.length = T.length) (hk : k < S.length) :
    AfL c need F lb f mb I S T br g1 g2 cap n base w (k + 1) (W.setCell ⟨g2, k, none⟩ (.int .i64 (Lt.cutN S[k] (f (T[k]'(by omega))) : Nat))) := by
  have h1 := h.lt1; have h2 := h.lt2; have h3 := h.lt3
  have hg2 := (World.ownsRow.lt h.own g2 rfl).1
  have hST := (h.own.stored k (.int .i64 (Lt.cutN S[k] (f (T[k]'(by omega))) : Nat))).1
  rw [ivs_set, ivN_set, midD_set hl hk] at hST
  have hgr := (h.own.stored k (.int .i64 (Lt.cutN S[k] (f (T[k]'(by omega))) : Nat))).2
  have hne : ∀ g, g < base → g ≠ g2 := fun g hg => by omega
  exact ⟨(heap_setCell_other _ _ _ _ (hne _ (by omega))).trans h.one, (heap_setCell_other _ _ _ _ (hne _ (by omega))).trans h.three, (heap_setCell_other _ _ _ _ (hne _ (by omega))).trans h.body, (heap_setCell_other _ _ _ _ (hne _ h3)).trans h.temps,
    hST, hR.keep _ _ _ h.inv hgr (fun j e => by cases e; omega), Lt.grown_more h.grow hgr (fun j e => by cases e; exact .inr (by omega)), h1, h2, h3⟩

def RawAfD (c : Cn) (need : Int) (F : Nat) (lb : Array Value) (f : Int → Nat) (mb : Nat) (I : World → Prop) (S : List Nat) (T : List Int) (br : Bool) (g1 g2 cap n base : Nat) (w : World) (k x : Nat) (W : World) : Prop :=
  W.cell? ⟨g2, k, none⟩ = some (.int .i64 (x : Int)) ∧ W.cell? ⟨w.heap.size, 8, none⟩ = some (.func (.func F) #[] lb) ∧ AfL c need F lb f mb I S T br g1 g2 cap n base w k W
theorem rawAfD {c : Cn} {need : Int} {F : Nat} {lb : Array Value} {f : Int → Nat} {mb : Nat} {I : World → Prop} {S : List Nat} {T : List Int} {br : Bool} {g1 g2 cap n base k x : Nat} {w W : World} (h : AfL c need F lb f mb I S T br g1 g2 cap n base w k W) (hx : (ivs (ivN (midD f S T k)))[k]? = some (.int .i64 (x : Int))) (hk : k < S.length) :
    RawAfD c need F lb f mb I S T br g1 g2 cap n base w k x W :=
  ⟨(h.own.cellAt k (by omega)).trans hx, cell_of_row _ _ 8 _ _ _ h.one, h⟩

set_option maxRecDepth 100000 in
set_option maxHeartbeats 8000000 in
theorem mafter_any (c : Cn) (need b : Int) (F : Nat) (lb : Array Value) (f : Int → Nat) (lo hi : Int) (mb B0 : Nat) (I : World → Prop) (D : Dish) (ua ub : Option Addr) (uc ud : Nat) (w : World) (hR : RateOk F lb f lo hi mb B0 I) (hv : c.V) (hG : Good c D) (hb : okT b = true) (hI : I w)
    (ht : RowI w (.slice ua D.1.1.length uc) D.1.1) (hs : RowI w (.slice ub D.2.length ud) (ivN D.2)) (hbd : ∀ t ∈ (tickS c D.1 b).1, lo ≤ t ∧ t ≤ hi) :
    Calls Tryz.prog 76 #[.agg #[.int .i64 (c.R : Int), .int .i64 (c.L : Int), .int .i64 c.A, .int .i64 c.B, .int .i64 c.K, .int .i64 c.A2, .int .i64 c.B2, .int .i64 need, .func (.func F) #[] lb], .agg #[.slice ua D.1.1.length uc, .bool D.1.2, .slice ub D.2.length ud], .int .i64 b] w (DishG I mb (dishT c f D b) w) := by
  have h0 := hR.le w hI
  have hp := hv.ok.p
  have hG2 := hG.tick (f := f) hv.ok hb
  have hlS := hG.len
  have hlT : (tickS c D.1 b).1.length = c.P := (bodyV_iff.1 hG2.body).1
  have HST := hid (fun W (h : RowI W (.slice ua D.1.1.length uc) D.1.1) => step_ok c D.1 _ b W hv hG.body (show okL [b] = true by simp [okL, hb]) h)
  have HCL := hid (fun W (h : RowI W (.slice ub D.2.length ud) (ivN D.2)) => clone_yes W _ (ivN D.2) h (by rw [ivN_len]; omega) (by rw [ivN_len]; omega))
  have HS := hid (b3_start (w := w) (T1 := 80) (T2 := 89) (T3 := 89) (A := #[.int .i64 (c.R : Int), .int .i64 (c.L : Int), .int .i64 c.A, .int .i64 c.B, .int .i64 c.K, .int .i64 c.A2, .int .i64 c.B2, .int .i64 need, .func (.func F) #[] lb]) (B := #[.slice ua D.1.1.length uc, .bool D.1.2, .slice ub D.2.length ud]) (R := #[.slice none 0 0, .bool false, .slice none 0 0]))
  have HT := hid (fun W (g : Below w.heap.size w W) => ht.keep g)
  have HSM := hid (fun W (g : Below w.heap.size w W) => hs.keep g)
  have HI := hid (fun W (g : Below w.heap.size w W) => hR.below hI g)
  have HRR := hid hR
  have HG := hid (show dishT c f D b = (tickS c D.1 b, addD f D.2 (tickS c D.1 b).1) from rfl)
  have HBD := hid hbd
  have HLE := hid hG.le
  have HLS := hid hlS
  have HLT := hid hlT
  have H0 := hid h0
  have HP := hid hp
  have hrun : runS c D.1 [b] = tickS c D.1 b := rfl
  clear hrun hlS hlT h0 hbd hI ht hs hb hG2 hR hG hv hp
  go_enter Tryz.func76, Tryz.ntmps76
  go_wp2_with fail
  refine (HST.out _ (HT.out _ HS.out.low)).mono ?_
  rintro e w1 ⟨v1, rfl, ⟨g1, rfl, hg1, hg2⟩, hb1⟩
  rw [show runS c D.1 [b] = tickS c D.1 b from rfl] at hg2 ⊢
  have H1 := hid (HS.out.keep hb1)
  have hbd := HBD.out
  generalize hX : tickS c D.1 b = X at *
  have HX := hid hX
  clear hX
  obtain ⟨T, br⟩ := X
  dsimp only at hg2 hbd ⊢
  have HBD := hid hbd
  have HG1 := hid hg2
  have HGN := hid (Nat.lt_of_lt_of_le (show w.heap.size + 1 + 1 < (((w.alloc (.cells #[.int .i64 (c.R : Int), .int .i64 (c.L : Int), .int .i64 c.A, .int .i64 c.B, .int .i64 c.K, .int .i64 c.A2, .int .i64 c.B2, .int .i64 need, .func (.func F) #[] lb] 80)).alloc (.cells #[.slice ua D.1.1.length uc, .bool D.1.2, .slice ub D.2.length ud] 89)).alloc (.cells #[.slice none 0 0, .bool false, .slice none 0 0] 89)).heap.size from HS.out.lt) hg1)
  clear hg2 hg1 hbd hb1
  have k0 := cell_of_row _ _ 0 _ _ _ H1.out.two
  have k1 := cell_of_row _ _ 1 _ _ _ H1.out.two
  have k2 := cell_of_row _ _ 2 _ _ _ H1.out.two
  simp only [List.getElem?_toArray, List.getElem?_cons_zero, List.getElem?_cons_succ] at k0 k1 k2
  have hz1 := H1.out.lt
  have hz2 : w.heap.size + 1 < w1.heap.size := by omega
  go_wp2_with fail
  have hba := (Below.refl _ w1).alloc (Nat.le_refl _) (.cells #[.slice (some ⟨g1, 0, none⟩) T.length T.length, .bool br] 87)
  have H2 := hid (H1.out.keep hba)
  have HB2 := hid (heap_alloc_new w1 (.cells #[.slice (some ⟨g1, 0, none⟩) T.length T.length, .bool br] 87))
  have HG2 := hid ((hba.block _ (lt_of_block HG1.out)).trans HG1.out)
  have HZ2 := hid (show w.heap.size + 1 + 1 < w1.heap.size from H1.out.lt)
  have HGL := hid (lt_of_block HG1.out)
  generalize w1.heap.size = n at *
  generalize w1.alloc _ = W2 at *
  clear hba k0 k1 k2 hz1 hz2 H1 HG1 HST
  refine (HCL.out _ (HSM.out _ H2.out.low)).mono ?_
  rintro e w3 ⟨g2, cap, rfl, ho, hb3⟩
  rw [ivN_len, HLS.out, ← HLT.out] at ho ⊢
  have hlT : T.length = c.P := HLT.out
  have HA : Hid (AfL c need F lb f mb I D.2 T br g1 g2 cap n W2.heap.size w 0 w3) := by
    refine ⟨(hb3.block _ (lt_of_block H2.out.one)).trans H2.out.one, (hb3.block _ (lt_of_block H2.out.three)).trans H2.out.three, (hb3.block _ (lt_of_block HB2.out)).trans HB2.out, (hb3.block _ (lt_of_block HG2.out)).trans HG2.out, ?_, HI.out _ (H2.out.low.trans (hb3.mono H2.out.low.size)), Lt.gbelow (H2.out.low.trans (hb3.mono H2.out.low.size)), HZ2.out, lt_of_block HB2.out, lt_of_block HG2.out⟩
    rw [midD_zero, HLS.out, ← hlT]
    rwa [ivs_len, ivN_len, HLS.out, ← hlT] at ho
  have hlS : D.2.length = T.length := by rw [HLS.out, hlT]
  have HLEN := hid hlS
  have HPT := hid (show 1 ≤ T.length ∧ T.length ≤ 48 by rw [hlT]; exact HP.out)
  generalize D.2 = S at HA HLE HLEN HG
  have k0 := cell_of_row _ _ 0 _ _ _ HA.out.body
  simp only [List.getElem?_toArray, List.getElem?_cons_zero] at k0
  clear ho hb3 HB2 HG2 HZ2 HGL H2 HCL HSM HI HT HS hlT hlS HLS HGN HP
  generalize W2.heap.size = base at *
  go_wp2_with fail
  have hT48 := HPT.out
  go_loopw [27] (fun t wr => ∃ k : Nat, k ≤ T.length ∧ t = .int .i64 (k : Int) ∧ Hid (AfL c need F lb f mb I S T br g1 g2 cap n base w k wr)) (fun t _ => T.length - (intOf t).toNat)
  case atStart => exact ⟨0, Nat.zero_le _, rfl, HA⟩
  case round =>
    obtain ⟨k, hk, rfl, hA⟩ := hrel
    by_cases hlt : k < T.length
    · have hkS : k < S.length := by rw [HLEN.out]; exact hlt
      have hlt' : (k : Int) < T.length := by omega
      have ex := cell_of_row _ _ k _ _ _ hA.out.temps
      have hex : (ivs T).toArray[k]? = some (.int .i64 T[k]) := by simp [ivs, hlt]
      rw [hex] at ex
      have hS := HLE.out _ (List.getElem_mem hkS)
      have hbt := HBD.out _ (List.getElem_mem hlt)
      have HM := hid (ivs_at (ivN_at (midD_at (f := f) HLEN.out hkS)))
      have HSTO := hid (fun W (h : AfL c need F lb f mb I S T br g1 g2 cap n base w k W) => AfL.store (W := W) HRR.out h H0.out HLEN.out hkS)
      have hy := HRR.out.fle T[k]
      have HCA := hid (fun W hI => HRR.out.call W T[k] hI hbt.1 hbt.2)
      have HCU := hid (cutN_int (x := S[k]) (y := f T[k]))
      have HKS := hid hkS
      generalize S[k] = x at *
      generalize hTk : T[k] = t at *
      clear hTk hex hbt
      generalize hfy : f t = y at *
      have HFY := hid hfy
      have heq := HRR.out.enter
      clear hkS hlt hfy
      go_wp2_with fail
      refine wp_region_sink (S := RawAfD c need F lb f mb I S T br g1 g2 cap n base w k x) 13 (by kernel_rfl) (by kernel_rfl) (by kernel_rfl) (by kernel_rfl) (rawAfD (hA.out.keep HRR.out (Below.refl _ wr).drew H0.out) HM.out HKS.out) (fun hS0 => ?_)
      have hwr : IntKind.i64.wrap ((x : Int) + (y : Int)) = (x : Int) + (y : Int) := wrap_i64 (by omega) (by omega)
      refine wpAnyH_take (i := 0) (v := ?_) rfl (by kernel_rfl) (by kernel_rfl) (by kernel_rfl) (fun _ _ _ h => h) (Or.inl ⟨by rfl, ?_⟩) hS0 ?_
      rotate_left
      · intro w' hSw
        obtain ⟨q0, q1, _⟩ := hSw
        go_simp
        try with_reducible rfl
      try simp only [Act.put]
      try simp only [List.setIfInBounds_toArray]
      try simp only [List.set_cons_zero, List.set_cons_succ]
      refine wpAnyH_take (i := 1) (v := ?_) rfl (by kernel_rfl) (by kernel_rfl) (by kernel_rfl) (fun _ _ _ h => h) (Or.inl ⟨by rfl, ?_⟩) hS0 ?_
      rotate_left
      · intro w' hSw
        obtain ⟨q0, q1, _⟩ := hSw
        go_simp
        try with_reducible rfl
      try simp only [Act.put]
      try simp only [List.setIfInBounds_toArray]
      try simp only [List.set_cons_zero, List.set_cons_succ]
      refine wpAnyH_take (i := 2) (v := ?_) rfl (by kernel_rfl) (by kernel_rfl) (by kernel_rfl) (fun _ _ _ h => h) (Or.inl ⟨by rfl, ?_⟩) hS0 ?_
      rotate_left
      · intro w' hSw
        obtain ⟨q0, q1, _⟩ := hSw
        go_simp
        try with_reducible rfl
      try simp only [Act.put]
      try simp only [List.setIfInBounds_toArray]
      try simp only [List.set_cons_zero, List.set_cons_succ]
      refine wpAnyH_take (i := 3) (v := ?_) rfl (by kernel_rfl) (by kernel_rfl) (by kernel_rfl) (fun _ _ _ h => h) (Or.inl ⟨by rfl, ?_⟩) hS0 ?_
      rotate_left
      · intro w' hSw
        obtain ⟨q0, q1, _⟩ := hSw
        go_simp
        try with_reducible rfl
      try simp only [Act.put]
      try simp only [List.setIfInBounds_toArray]
      try simp only [List.set_cons_zero, List.set_cons_succ]
      refine wpAnyH_take (i := 4) (v := ?_) rfl (by kernel_rfl) (by kernel_rfl) (by kernel_rfl) (fun _ _ _ h => h) (Or.inl ⟨by rfl, ?_⟩) hS0 ?_
      rotate_left
      · intro w' hSw
        obtain ⟨q0, q1, _⟩ := hSw
        go_simp
        try with_reducible rfl
      try simp only [Act.put]
      try simp only [List.setIfInBounds_toArray]
      try simp only [List.set_cons_zero, List.set_cons_succ]
      refine wpAnyH_take (i := 5) (v := ?_) rfl (by kernel_rfl) (by kernel_rfl) (by kernel_rfl) (fun _ _ _ h => h) (Or.inl ⟨by rfl, ?_⟩) hS0 ?_
      rotate_left
      · intro w' hSw
        obtain ⟨q0, q1, _⟩ := hSw
        go_simp
        try with_reducible rfl
      try simp only [Act.put]
      try simp only [List.setIfInBounds_toArray]
      try simp only [List.set_cons_zero, List.set_cons_succ]
      refine wpAnyH_take (i := 6) (v := ?_) rfl (by kernel_rfl) (by kernel_rfl) (by kernel_rfl) (fun _ _ _ h => h) (Or.inl ⟨by rfl, ?_⟩) hS0 ?_
      rotate_left
      · intro w' hSw
        obtain ⟨q0, q1, _⟩ := hSw
        go_simp
        try with_reducible rfl
      try simp only [Act.put]
      try simp only [List.setIfInBounds_toArray]
      try simp only [List.set_cons_zero, List.set_cons_succ]
      refine wpAnyH_take (i := 7) (v := ?_) rfl (by kernel_rfl) (by kernel_rfl) (by kernel_rfl) (fun _ _ _ h => h) (Or.inl ⟨by rfl, ?_⟩) hS0 ?_
      rotate_left
      · intro w' hSw
        obtain ⟨q0, q1, _⟩ := hSw
        go_simp
        try with_reducible rfl
      try simp only [Act.put]
      try simp only [List.setIfInBounds_toArray]
      try simp only [List.set_cons_zero, List.set_cons_succ]
      refine wpAnyH_take (i := 8) (v := ?_) rfl (by kernel_rfl) (by kernel_rfl) (by kernel_rfl) (fun _ _ _ h => h) (Or.inl ⟨by rfl, ?_⟩) hS0 ?_
      rotate_left
      · intro w' hSw
        obtain ⟨q0, q1, _⟩ := hSw
        go_simp
        try with_reducible rfl
      try simp only [Act.put]
      try simp only [List.setIfInBounds_toArray]
      try simp only [List.set_cons_zero, List.set_cons_succ]
      (refine wpAnyH_ready (rs := [9]) (by kernel_rfl) (by simp) ?_)
      refine AllReadyH.cons rfl (fun K hK => ?_) AllReadyH.nil
      go_simp
      refine (HCA.out _ hS0.2.2.inv).mono ?_
      rintro e w5 ⟨rfl, hi5, hg5⟩
      (refine hK.out _ _ (rawAfD (hS0.2.2.call HRR.out hg5 hi5 H0.out) HM.out HKS.out) (fun hS1 => ?_); clear hK K)
      refine wpAnyH_take (i := 10) (v := ?_) rfl (by kernel_rfl) (by kernel_rfl) (by kernel_rfl) (fun _ _ _ h => h) (Or.inl ⟨by rfl, ?_⟩) hS1 ?_
      rotate_left
      · intro w' hSw
        obtain ⟨q0, q1, _⟩ := hSw
        go_simp
        try with_reducible rfl
      try simp only [Act.put]
      try simp only [List.setIfInBounds_toArray]
      try simp only [List.set_cons_zero, List.set_cons_succ]
      refine wpAnyH_take (i := 11) (v := ?_) rfl (by kernel_rfl) (by kernel_rfl) (by kernel_rfl) (fun _ _ _ h => h) (Or.inl ⟨by rfl, ?_⟩) hS1 ?_
      rotate_left
      · intro w' hSw
        obtain ⟨q0, q1, _⟩ := hSw
        go_simp
        try with_reducible rfl
      try simp only [Act.put]
      try simp only [List.setIfInBounds_toArray]
      try simp only [List.set_cons_zero, List.set_cons_succ]
      refine wpAnyH_take (i := 12) (v := ?_) rfl (by kernel_rfl) (by kernel_rfl) (by kernel_rfl) (fun _ _ _ h => h) (Or.inl ⟨by rfl, ?_⟩) hS1 ?_
      rotate_left
      · intro w' hSw
        obtain ⟨q0, q1, _⟩ := hSw
        go_simp
        try with_reducible rfl
      try simp only [Act.put]
      try simp only [List.setIfInBounds_toArray]
      try simp only [List.set_cons_zero, List.set_cons_succ]
      refine wpAnyH_done (by kernel_rfl) ?_ _
      have k5 := hS1.1
      have f5 := hS1.2.2.own.frozenAt k
      have HA6 := hid (HSTO.out _ hS1.2.2)
      rw [HCU.out] at HA6
      clear hS0 hS1 hg5 hi5
      refine sink_last rfl (fun K hK => ?_)
      go_simp
      refine hK.out _ _ ?_
      clear hK K
      go_wp2_with fail
      go_roundw
      case rel => exact ⟨k + 1, by have := HKS.out; rw [HLEN.out] at this; omega, by go_num, HA6⟩
      case measure => have := HKS.out; rw [HLEN.out] at this; simp [intOf]; omega
    · obtain rfl : k = T.length := by omega
      have hT := hid (rowI_of_block (cap := T.length) hA.out.temps (by omega))
      have hown := hA.out.own
      rw [← HLEN.out, midD_all HLEN.out] at hown
      have hS := hid (own_rowI (l := ivN (addD f S T)) (by rw [ivN_len, addD_len HLEN.out]; exact hown) (by rw [ivN_len, addD_len HLEN.out, HLEN.out]; omega))
      have c0 := cell_of_row _ _ 0 _ _ _ hA.out.body
      have c1 := cell_of_row _ _ 1 _ _ _ hA.out.body
      have t0 := cell_of_row _ _ 0 _ _ _ hA.out.three
      have t1 := cell_of_row _ _ 1 _ _ _ hA.out.three
      have t2 := cell_of_row _ _ 2 _ _ _ hA.out.three
      have f0 := frozen_of_row _ _ 0 _ _ hA.out.three
      have f1 := frozen_of_row _ _ 1 _ _ hA.out.three
      have f2 := frozen_of_row _ _ 2 _ _ hA.out.three
      simp only [List.getElem?_toArray, List.getElem?_cons_zero, List.getElem?_cons_succ] at c0 c1 t0 t1 t2
      have hz3 := lt_of_block hA.out.three
      clear k0 hk hown
      go_wp2_with fail
      have HST := hid (set3 (y0 := (.slice (some ⟨g1, 0, none⟩) T.length T.length)) (y1 := (.bool br)) (y2 := (.slice (some ⟨g2, 0, none⟩) T.length cap)) hA.out.three)
      have HGR := hid (set3_grown (W := wr) (b := w.heap.size + 1 + 1) (y0 := (.slice (some ⟨g1, 0, none⟩) T.length T.length)) (y1 := (.bool br)) (y2 := (.slice (some ⟨g2, 0, none⟩) T.length cap)))
      obtain ⟨W9, hW9⟩ : ∃ W9 : World, W9 = ((wr.setCell ⟨w.heap.size + 1 + 1, 0, none⟩ (.slice (some ⟨g1, 0, none⟩) T.length T.length)).setCell ⟨w.heap.size + 1 + 1, 1, none⟩ (.bool br)).setCell ⟨w.heap.size + 1 + 1, 2, none⟩ (.slice (some ⟨g2, 0, none⟩) T.length cap) := ⟨_, rfl⟩
      rw [← hW9] at HST HGR ⊢
      clear hW9
      obtain ⟨e1, e2, e3⟩ := HST.out
      have hr9 : RowI W9 (.slice (some ⟨g1, 0, none⟩) T.length T.length) T := rowI_same hT.out fun b o x hx => e2 _ (box3_noInt hA.out.three hx)
      have hs9 : RowI W9 (.slice (some ⟨g2, 0, none⟩) T.length cap) (ivN (addD f S T)) := by
        have h := rowI_same hS.out fun b o x hx => e2 _ (box3_noInt hA.out.three hx)
        rwa [HLEN.out] at h
      have hi9 : I W9 := HRR.out.keep _ _ _ hA.out.inv HGR.out (fun j e => by cases e; have := H0.out; omega)
      have hg9 := Lt.grown_more hA.out.grow HGR.out (fun j e => by cases e; exact .inr (by omega))
      have HE := hid (And.intro hr9 (And.intro hs9 (And.intro hi9 hg9)))
      have s0 := cell_of_row _ _ 0 _ _ _ e1
      have s1 := cell_of_row _ _ 1 _ _ _ e1
      have s2 := cell_of_row _ _ 2 _ _ _ e1
      simp only [List.getElem?_toArray, List.getElem?_cons_zero, List.getElem?_cons_succ] at s0 s1 s2
      refine bodyPost_ret (v := .agg #[.slice (some ⟨g1, 0, none⟩) T.length T.length, .bool br, .slice (some ⟨g2, 0, none⟩) T.length cap]) ?_ rfl ?_
      · simp [results, Tryz.results76, go_sem, s0, s1, s2]
      · obtain ⟨h1, h2, h3, h4⟩ := HE.out
        rw [HG.out]
        have hl := addD_len (f := f) HLEN.out
        exact ⟨some ⟨g1, 0, none⟩, some ⟨g2, 0, none⟩, T.length, cap, by dsimp only; rw [hl, HLEN.out], h1, by dsimp only; rw [hl, HLEN.out]; exact h2, h3, h4⟩
end Go.Proofs.YtihbjimnjhfpeaaGreat
