/- Texts of this seat, one behind the other. -/
import Derived.Test.YtedfajokiblfhaaGreatC7
import Derived.Maps.OwnIn
import Derived.RangeFuncBox
import Derived.Test.YtedfajokiblfhaaGreatA7
import Derived.Test.YtedfajokiblfhaaGreatC8
import Derived.Test.YtedfajokiblfhaaGreatK2
import Derived.Test.YtedfajokiblfhaaGreatK1
/- Walks of Sum, SumUp of package lethal: contracts. -/
namespace Go.Proofs.YtedfajokiblfhaaGreat.Lt
open Go.RowKit Go.Lib Go.Maps

theorem RowI.form {w : World} {v : Value} {l : List Int} (h : RowI w v l) : ∃ a b o cap, v = .slice a l.length cap ∧ (l = [] ∨ a = some ⟨b, o, none⟩) ∧ (∀ j (h : j < l.length), w.cell? ⟨b, o + j, none⟩ = some (.int .i64 l[j])) ∧ (l ≠ [] → b < w.heap.size) := by
  rcases h with ⟨a, cap, rfl, rfl⟩ | ⟨b, o, cap, rfl, hm, hc⟩
  · exact ⟨a, 0, 0, cap, rfl, .inl rfl, fun j h => absurd h (Nat.not_lt_zero _), fun h => absurd rfl h⟩
  · refine ⟨_, b, o, cap, rfl, .inr rfl, hc, fun h => ?_⟩
    have h0 : 0 < l.length := List.length_pos_iff.2 h
    exact World.block_lt_of_cell? w ⟨b, o + 0, none⟩ (hc 0 h0)

set_option maxHeartbeats 4000000 in
theorem lSum_no (s : ByteArray) (r z d g : Int) (w : World) (hs : s.size ≤ maxLen) (v : Value) (l : List Int) (hl : RowI w v l) (hne : askE (validB s.data.toList r z d g) l ≠ 0) :
    Calls Tryz.prog 47 #[.agg #[.string s, .int .i64 r, .int .i64 z, .int .i64 d, .int .i64 g], v] w fun e w' => e = .returned (.tuple #[.int .i64 0, .int .i64 (askE (validB s.data.toList r z d g) l)]) ∧ Below w.heap.size w w' := by
  obtain ⟨c, hc⟩ : ∃ c, c = askE (validB s.data.toList r z d g) l := ⟨_, rfl⟩
  rw [← hc] at hne ⊢
  have HC := hid hc; clear hc
  have hb : (c == 0) = false := by simpa using hne
  have HL := hid (RowI.keep hl (((Below.refl _ w).alloc (Nat.le_refl _) (.cells #[.string s, .int .i64 r, .int .i64 z, .int .i64 d, .int .i64 g] 25))))
  go_enter Tryz.func47, Tryz.ntmps47
  go_wp2_with (go_at_call 90; refine (checkTemps_any _ _ _ _ _ _ hs _ l HL.out).mono ?_; rintro e w1 ⟨rfl, hb1⟩; rw [← HC.out]; obtain ⟨b0, b1, b2, b3, b4, hz, hB⟩ := box5_below hb1; clear hb1)
  go_ret2
  exact ⟨rfl, hB⟩

set_option maxHeartbeats 4000000 in
theorem lSum_ok (s : ByteArray) (r d g : Int) (Z : Nat) (w : World) (hs : s.size ≤ maxLen) (v : Value) (l : List Int) (hl : RowI w v l) (hv : validB s.data.toList r Z d g = true) (ho : okL l = true) (hlen : l.length ≤ 10000) :
    Calls Tryz.prog 47 #[.agg #[.string s, .int .i64 r, .int .i64 Z, .int .i64 d, .int .i64 g], v] w fun e w' => e = .returned (.tuple #[.int .i64 (sumL (dn r Z) l : Nat), .int .i64 0]) ∧ Below w.heap.size w w' := by
  obtain ⟨_, ⟨r1, r2⟩, ⟨z1, z2⟩, _, _⟩ := validB_iff.1 hv
  have HL := hid (RowI.keep hl (((Below.refl _ w).alloc (Nat.le_refl _) (.cells #[.string s, .int .i64 r, .int .i64 Z, .int .i64 d, .int .i64 g] 25))))
  obtain ⟨a, b, o, cap, rfl, ha, hc, hbl⟩ := hl.form
  have HA := hid (askE_ok (l := l) (by omega) ho)
  have HO := hid ho; have HAD := hid ha; have HC := hid hc; have HBL := hid hbl
  clear ho ha hc hbl hl
  go_enter Tryz.func47, Tryz.ntmps47
  go_wp2_with (first
    | (go_at_call 90; refine (checkTemps_any _ _ _ _ _ _ hs _ l HL.out).mono ?_; rintro e w1 ⟨rfl, hb1⟩; rw [hv, HA.out]; obtain ⟨b0, b1, b2, b3, b4, hz, hB⟩ := box5_below hb1; clear hb1)
    | (go_at_call 92; refine (rateDown_any _ _ _ _ Z _ hs).mono ?_; rintro e w2 ⟨L, mb, rfl, hS, hmb, _, hb2⟩; have HS := hid hS; have HB2 := hid (hB.trans (hb2.mono hB.size)); have HSZ := hid (Nat.le_trans hB.size hmb); clear hS hb2)
    | (go_at_call 91; refine (total_down s r d g Z L mb a b o cap l _ r1 r2 (by omega) (by omega) hlen HO.out HAD.out (fun j h => keep_cell HB2.out (HC.out j h)) (fun h => Nat.lt_of_lt_of_le (HBL.out h) HB2.out.size) HS.out).mono ?_; rintro e w3 ⟨rfl, hg3⟩))
  go_ret2
  exact ⟨rfl, HB2.out.grown hg3 HB2.out.size (fun j e => by cases e; exact HSZ.out)⟩

end Go.Proofs.YtedfajokiblfhaaGreat.Lt

/- Walk of Running of package lethal: contracts. -/
namespace Go.Proofs.YtedfajokiblfhaaGreat.Lt
open Go.RowKit Go.Lib Go.Maps Go.Shelf
attribute [local go_sem] Oper.semAt_some

/-- Every block of the n0 first stays, but two. -/
def KpX (n0 x0 y0 : Nat) (W W' : World) : Prop := W.heap.size ≤ W'.heap.size ∧ ∀ j, j < n0 → j ≠ x0 → j ≠ y0 → W'.heap[j]? = W.heap[j]?
theorem KpX.trans {n0 x0 y0 : Nat} {A B C : World} (h : KpX n0 x0 y0 A B) (k : KpX n0 x0 y0 B C) : KpX n0 x0 y0 A C := ⟨Nat.le_trans h.1 k.1, fun j h1 h2 h3 => (k.2 j h1 h2 h3).trans (h.2 j h1 h2 h3)⟩
theorem KpX.put {n0 x0 y0 l : Nat} {W : World} {o o' : Obj} (hl : n0 ≤ l) (_h : W.heap[l]? = some o) : KpX n0 x0 y0 W (W.putObj l o') :=
  ⟨by simp, fun j h1 _ _ => World.putObj_heap_other (by omega)⟩
theorem KpX.cell {n0 x0 y0 a i : Nat} {W W' : World} {v : Value} (h : KpX n0 x0 y0 W W') (ha : a < n0) (hne : a ≠ x0 ∧ a ≠ y0) (hc : W.cell? ⟨a, i, none⟩ = some v) : W'.cell? ⟨a, i, none⟩ = some v := by
  rw [World.cell?_of_block (a := ⟨a, i, none⟩) (h.2 a ha hne.1 hne.2)]; exact hc
theorem ItS.keepX {fn : Fn} {s : ByteArray} {r : Int} {Z : Nat} {d g : Int} {L mb tb rb : Nat} {a : Option Addr} {b o cap n0 k x0 y0 : Nat} {l : List Int} {w w' : World} (h : ItS fn s r Z d g L mb tb rb a b o cap n0 l k w) (hb : KpX n0 x0 y0 w w')
    (hx : (tb ≠ x0 ∧ tb ≠ y0) ∧ (rb ≠ x0 ∧ rb ≠ y0) ∧ (L ≠ x0 ∧ L ≠ y0) ∧ (mb ≠ x0 ∧ mb ≠ y0) ∧ (l ≠ [] → b ≠ x0 ∧ b ≠ y0)) : ItS fn s r Z d g L mb tb rb a b o cap n0 l k w' := by
  obtain ⟨x1, x2, x3, x4, x5⟩ := hx
  obtain ⟨⟨c0, c1, c2, c3, c4, c5, c6⟩, hne, D, ⟨es, clock, h1, h2⟩, hg⟩ := h.rds
  refine ⟨hb.cell h.lt.1 x1 h.temps, h.addr, hb.cell h.lt.2.1 x2 h.rate, fun j hj => ?_, ⟨⟨hb.cell h.lt.2.2.1 x3 c0, hb.cell h.lt.2.2.1 x3 c1, hb.cell h.lt.2.2.1 x3 c2, hb.cell h.lt.2.2.1 x3 c3, hb.cell h.lt.2.2.1 x3 c4, hb.cell h.lt.2.2.1 x3 c5, Nat.lt_of_lt_of_le c6 hb.1⟩, hne, D, ⟨es, clock, (hb.2 mb h.lt.2.2.2.1 x4.1 x4.2).trans h1, h2⟩, hg⟩, h.lt, Nat.le_trans h.le hb.1⟩
  have hl : l ≠ [] := by rintro rfl; exact absurd hj (Nat.not_lt_zero _)
  exact hb.cell (h.lt.2.2.2.2 hl) (x5 hl) (h.cells j hj)
theorem sums_start (fn : Fn) (s : ByteArray) (r d g : Int) (Z L mb : Nat) (a : Option Addr) (b o cap : Nat) (l : List Int) (w : World) (T2 T3 : TypeId)
    (ha : l = [] ∨ a = some ⟨b, o, none⟩) (hc : ∀ j (h : j < l.length), w.cell? ⟨b, o + j, none⟩ = some (.int .i64 l[j])) (hb : l ≠ [] → b < w.heap.size) (hS : RdS s r Z d g L mb 0 w) :
    ∃ W0, (w.alloc (.cells #[.slice a l.length cap] T2)).alloc (.cells #[.func fn #[] #[.pointer (some ⟨L, 0, none⟩)]] T3) = W0 ∧ W0.heap.size = w.heap.size + 2 ∧
      ItS fn s r Z d g L mb w.heap.size (w.heap.size + 1) a b o cap (w.heap.size + 2) l 0 W0 ∧ Below w.heap.size w W0 := by
  have hLlt : L < w.heap.size := hS.1.2.2.2.2.2.2
  have hmlt : mb < w.heap.size := hS.2.2.lt
  have hB : Below w.heap.size w ((w.alloc (.cells #[.slice a l.length cap] T2)).alloc (.cells #[.func fn #[] #[.pointer (some ⟨L, 0, none⟩)]] T3)) := ((Below.refl _ _).alloc (Nat.le_refl _) _).alloc (by simp) _
  have c1 := cell_alloc_new w #[.slice a l.length cap] T2 (0, 0) 0
  have c2 := cell_alloc_new (w.alloc (.cells #[.slice a l.length cap] T2)) #[.func fn #[] #[.pointer (some ⟨L, 0, none⟩)]] T3 (0, 0) 0
  rw [alloc_size] at c2
  exact ⟨_, rfl, by simp, ⟨keep_cell (Below.alloc (Below.refl _ _) (Nat.le_refl _) _) c1, ha, c2, fun j hj => keep_cell hB (hc j hj), hS.kept (row := none) (gbelow hB) (by simp) (by simp), ⟨by omega, by omega, by omega, by omega, fun h => by have := hb h; omega⟩, by simp⟩, hB⟩
theorem sumsX_seq (s : ByteArray) (r d g : Int) (Z L mb tb rb x0 y0 : Nat) (a : Option Addr) (b o cap n0 : Nat) (l : List Int) (w0 : World) (r1 : -200 ≤ r) (r2 : r ≤ 800) (z1 : 1 ≤ Z) (z2 : Z ≤ 60) (hlen : l.length ≤ 10000) (ho : okL l = true)
    (hI : ItS (.func 131) s r Z d g L mb tb rb a b o cap n0 l 0 w0) (hx : (tb ≠ x0 ∧ tb ≠ y0) ∧ (rb ≠ x0 ∧ rb ≠ y0) ∧ (L ≠ x0 ∧ L ≠ y0) ∧ (mb ≠ x0 ∧ mb ≠ y0) ∧ (l ≠ [] → b ≠ x0 ∧ b ≠ y0)) :
    SeqM Fence.wide 9 Tryz.prog 152 #[.pointer (some ⟨tb, 0, none⟩), .pointer (some ⟨rb, 0, none⟩)] encS (KpX n0 x0 y0) mb (seqS (dn r Z) l) w0 := fun l0 J Jx W hW hJ _ hY h0 =>
  sums_down l0 s r d g Z L mb tb rb a b o cap n0 W.heap.size l J Jx r1 r2 z1 z2 (KpX n0 x0 y0) (fun _ _ _ h hk => h.keepX hk hx) hJ hY W (hI.past (hW.mono hI.le)) h0 hlen ho
theorem seqS_run (f : Int → Nat) (l : List Int) : (seqS f l).map (·.2) = runK f l l.length := by simp [seqS, runK]
theorem seqS_run_succ {f : Int → Nat} {l : List Int} {k : Nat} {x : Nat × Nat} (h : (seqS f l)[k]? = some x) : ((seqS f l).take (k + 1)).map (·.2) = ((seqS f l).take k).map (·.2) ++ [x.2] := by
  rw [List.take_add_one, h]; simp

/-- The list that Running makes: its row is the one made at first, or a new one. -/
def RunI (bx g n0 : Nat) (w : World) (l : List Nat) (W : World) : Prop :=
  ∃ v, W.heap[bx]? = some (.cells #[v] 28 (0, 0)) ∧ RowV W g v l ∧ (v.ownBlock = some g ∨ ∃ j, v.ownBlock = some j ∧ n0 ≤ j) ∧ Below w.heap.size w W ∧ n0 ≤ W.heap.size
theorem own_slice {W : World} {g : Nat} {v : Value} {l : List Nat} (h : RowV W g v l) (hv : v.ownBlock ≠ none) : ∃ j cap, v = .slice (some ⟨j, 0, none⟩) l.length cap ∧ g ≤ j := by
  rcases h.2 with ⟨rfl, _⟩ | ⟨j, cap, cur, rfl, hb, _⟩
  · exact absurd rfl hv
  · exact ⟨j, cap, rfl, hb⟩

theorem RowV.isCells {W : World} {g q : Nat} {v : Value} {l : List Nat} (h : RowV W g v l) (hv : v.ownBlock = some q) : ∃ cs, W.heap[q]? = some (.cells cs 3 (0, 0)) ∧ g ≤ q := by
  rcases h.2 with ⟨rfl, _⟩ | ⟨j, cap, cur, rfl, hb, hg, _⟩
  · cases hv
  · cases hv; exact ⟨_, hg, hb⟩
end Go.Proofs.YtedfajokiblfhaaGreat.Lt

/- Running where there is no answer; Sum at whatever lists; the reference's row and ours are the same. -/
namespace Go.Proofs.YtedfajokiblfhaaGreat.Lt
open Go.RowKit Go.Lib Go.Maps

theorem lSum_all (s : ByteArray) (r z d g : Int) (w : World) (hs : s.size ≤ maxLen) (v : Value) (l : List Int) (hl : RowI w v l) :
    Calls Tryz.prog 47 #[.agg #[.string s, .int .i64 r, .int .i64 z, .int .i64 d, .int .i64 g], v] w fun e w' => e = .returned (.tuple #[.int .i64 (sumA (validB s.data.toList r z d g) (dn r z.toNat) l), .int .i64 (askE (validB s.data.toList r z d g) l)]) ∧ Below w.heap.size w w' := by
  rcases ask_cases (validB s.data.toList r z d g) l with h | ⟨h, hv, ho, hlen⟩
  · rw [sumA_no h]
    exact lSum_no s r z d g w hs v l hl h
  · obtain ⟨_, _, ⟨z1, z2⟩, _, _⟩ := validB_iff.1 hv
    obtain ⟨Z, rfl⟩ := Int.eq_ofNat_of_zero_le (show 0 ≤ z by omega)
    rw [sumA_ok h, h]
    exact lSum_ok s r d g Z w hs v l hl hv ho hlen
theorem okL_app (l m : List Int) : okL (l ++ m) = (okL l && okL m) := by simp [okL]
theorem ask_app_no {v : Bool} {l m : List Int} (h1 : l.length ≤ 300) (h2 : m.length ≤ 300) (h : askE v l ≠ 0 ∨ askE v m ≠ 0) : askE v (l ++ m) ≠ 0 := by
  rcases ask_cases v (l ++ m) with g | ⟨_, rfl, ho, _⟩
  · exact g
  · rw [okL_app, Bool.and_eq_true] at ho
    rw [askE_ok (by omega) ho.1, askE_ok (by omega) ho.2] at h
    simp at h
theorem ask_app_ok {v : Bool} {l m : List Int} (h1 : l.length ≤ 300) (h2 : m.length ≤ 300) (h : askE v l = 0) (k : askE v m = 0) : askE v (l ++ m) = 0 := by
  rcases ask_cases v l with g | ⟨_, rfl, ho, _⟩
  · exact absurd h g
  · rcases ask_cases true m with g | ⟨_, _, ho', _⟩
    · exact absurd k g
    · exact askE_ok (by rw [List.length_append]; omega) (by rw [okL_app, ho, ho']; rfl)
theorem RowI.src {w : World} {v : Value} {l : List Int} (h : RowI w v l) : Src w v l := by
  rcases h with h | ⟨b, o, cap, hv, _, hc⟩
  · exact .inl h
  · exact .inr ⟨b, o, cap, hv, hc⟩
/-- A row of ints that the call owns, read. -/
theorem own_rowI {w : World} {base e : Nat} {v : Value} {l : List Int} (h : w.ownsRow base e 1 v l.length (ivs l)) (hl : l.length ≤ 1000000) : RowI w v l := by
  rcases h.2 with ⟨rfl, h0⟩ | ⟨g, cap, cur, rfl, _, hg, hcap, _, hcs, ht⟩
  · exact .inl ⟨none, 0, rfl, List.length_eq_zero_iff.1 h0⟩
  · refine .inr ⟨g, 0, cap, rfl, by unfold maxLen; omega, fun k hk => ?_⟩
    rw [Nat.zero_add, cell_of_row w g k cur e _ hg]
    have hx : (ivs l)[k]? = some (.int .i64 l[k]) := by simp [ivs, hk]
    rw [← ht, List.getElem?_take_of_lt (by omega)] at hx
    simpa using hx
theorem app_below {W W0 w' : World} {base e : Nat} {v v' : Value} {xs : List Value} {l : List Int} (hW : Below W.heap.size W W0) (hown : W0.ownsRow base e 1 v xs.length xs) (hb : W.heap.size ≤ base) (h : AppP W0 base e v xs l v' w') : Below W.heap.size W w' :=
  hW.grown h.2.1 hW.size (fun k hk => by have := (World.ownsRow.lt hown k hk).1; omega)
theorem app_first {W0 w' : World} {base e : Nat} {v v' : Value} {l : List Int} (h : AppP W0 base e v [] l v' w') : w'.ownsRow base e 1 v' (ivs l).length (ivs l) := by
  have := h.1
  rwa [List.length_nil, Nat.zero_add, List.nil_append, ← ivs_len l] at this
theorem app_next {W0 w' : World} {base e : Nat} {v v' : Value} {l m : List Int} (h : AppP W0 base e v (ivs l) m v' w') : w'.ownsRow base e 1 v' (l ++ m).length (ivs (l ++ m)) := by
  have := h.1
  rwa [ivs_len, ← List.length_append, show ivs l ++ ivs m = ivs (l ++ m) by simp [ivs]] at this
end Go.Proofs.YtedfajokiblfhaaGreat.Lt

/- Walk of ByColdest; the sums of places as sums of what is told: contracts. -/
namespace Go.Proofs.YtedfajokiblfhaaGreat
open Go.RowKit Go.Lib

theorem sumL_snoc (f : Int → Nat) (l : List Int) (x : Int) : Lt.sumL f (l ++ [x]) = Lt.cutN (Lt.sumL f l) (f x) := by
  unfold Lt.sumL
  rw [List.foldl_append]
  rfl
theorem place_sum {c : Cn} {f : Int → Nat} {t : Int} {p : List Int} (hc : c.Ok) (ho : okT t = true) (hop : okL p = true) {i : Nat} (hi : i < c.P) :
    ∀ k, k ≤ p.length → (dishR c f (dish0 c t) (p.take k)).2.getD i 0 = Lt.sumL f (tellN (fun y => y.1.getD i 0) c (evB c t) p k)
  | 0, _ => by
    show (List.replicate c.P 0).getD i 0 = 0
    simp [List.getD, hi]
  | k + 1, hk => by
    have hG : Good c (dishR c f (dish0 c t) (p.take k)) := (dish0_good ho).run hc (List.all_eq_true.2 fun x hx => List.all_eq_true.1 hop x (List.mem_of_mem_take hx))
    have ih := place_sum (f := f) hc ho hop hi k (by omega)
    have hb := okL_all hop k hk
    have hG2 := hG.tick (f := f) hc hb
    have hT : (tickS c (dishR c f (dish0 c t) (p.take k)).1 p[k]).1.length = c.P := (bodyV_iff.1 hG2.body).1
    rw [dishR_succ c f _ p k hk, tellN_succ, sumL_snoc, ← ih]
    show (addD f _ _).getD i 0 = _
    rw [addD_getD (by rw [hG.len]; exact hi) (by rw [hT]; exact hi), dishR_body]
    have e : runS c (evB c t) (p.take (k + 1)) = tickS c (runS c (evB c t) (p.take k)) p[k] := runS_succ c _ p k hk
    rw [e]
    rfl
theorem even_chk {c : Cn} {t : Int} {p : List Int} (hv : c.V) (ho : okT t = true) (hop : okL p = true) (hl : p.length ≤ 2000) : chkE (bothB c.R c.L c.A c.B c.K c.A2 c.B2 (evB c t).1 (evB c t).2) p = 0 := by
  rw [bothB_cn c hv, show bodyV c (evB c t).1 (evB c t).2 = true from evB_valid ho]
  exact chkE_ok hop (by omega)
/-- The coldest temperatures of an even can in some baths. -/
def coldL (c : Cn) (t : Int) (p : List Int) : List Int := tellN (fun y => minT y.1) c (evB c t) p p.length
theorem told_ok {c : Cn} {t : Int} {p : List Int} {f : Bd → Int} (hc : c.Ok) (ho : okT t = true) (hop : okL p = true) (hf : ∀ y : Bd, bodyV c y.1 y.2 = true → f y ∈ y.1) : okL (tellN f c (evB c t) p p.length) = true := by
  refine List.all_eq_true.2 fun x hx => ?_
  unfold tellN at hx
  obtain ⟨k, _, rfl⟩ := List.mem_map.1 hx
  have hb : bodyV c (runS c (evB c t) (p.take (k + 1))).1 (runS c (evB c t) (p.take (k + 1))).2 = true := body_run hc (evB_valid ho) (List.all_eq_true.2 fun x hx => List.all_eq_true.1 hop x (List.mem_of_mem_take hx))
  exact List.all_eq_true.1 (bodyV_iff.1 hb).2.2 _ (hf _ hb)
theorem coldL_ok {c : Cn} {t : Int} {p : List Int} (hc : c.Ok) (ho : okT t = true) (hop : okL p = true) : okL (coldL c t p) = true :=
  told_ok hc ho hop fun y hy => minT_mem y.1 (by rw [(bodyV_iff.1 hy).1]; exact hc.p.1)
theorem coldL_len (c : Cn) (t : Int) (p : List Int) : (coldL c t p).length = p.length := tellN_len _ _ _ _ _
theorem placeL_ok {c : Cn} {t : Int} {p : List Int} {i : Nat} (hc : c.Ok) (ho : okT t = true) (hop : okL p = true) (hi : i < c.P) : okL (tellN (fun y => y.1.getD i 0) c (evB c t) p p.length) = true :=
  told_ok hc ho hop fun y hy => by
    have h := (bodyV_iff.1 hy).1
    rw [getD_at (by rw [h]; exact hi)]
    exact List.getElem_mem _
theorem sum_at (s : ByteArray) (r d g : Int) (Z : Nat) (w : World) (hs : s.size ≤ maxLen) (v : Value) (l : List Int) (hl : RowI w v l) (hv : Lt.validB s.data.toList r Z d g = true) (ho : okL l = true) (hlen : l.length ≤ 10000) :
    Calls Tryz.prog 47 #[.agg #[.string s, .int .i64 r, .int .i64 Z, .int .i64 d, .int .i64 g], v] w fun e w' => e = .returned (.tuple #[.int .i64 (Lt.sumL (Lt.dn r Z) l : Nat), .int .i64 0]) ∧ Below w.heap.size w w' :=
  Lt.lSum_ok s r d g Z w hs v l hl hv ho hlen
set_option maxRecDepth 20000 in
set_option maxHeartbeats 8000000 in
theorem byc_ok (c : Cn) (s : ByteArray) (r d g t : Int) (Z : Nat) (v : Value) (p : List Int) (w : World) (hs : s.size ≤ maxLen) (hcv : c.V) (hv : Lt.validB s.data.toList r Z d g = true) (ho : okT t = true) (hop : okL p = true) (hlen : p.length ≤ 2000) (hl : RowI w v p) :
    Calls Tryz.prog 18 #[.agg #[.int .i64 (c.R : Int), .int .i64 (c.L : Int), .int .i64 c.A, .int .i64 c.B, .int .i64 c.K, .int .i64 c.A2, .int .i64 c.B2], .agg #[.string s, .int .i64 r, .int .i64 (Z : Int), .int .i64 d, .int .i64 g], .int .i64 t, v] w fun e w' => e = .returned (.tuple #[.int .i64 (Lt.sumL (Lt.dn r Z) (coldL c t p) : Nat), .int .i64 0]) ∧ Below w.heap.size w w' := by
  have HX := hid (box2_start (w := w) (A := #[.int .i64 (c.R : Int), .int .i64 (c.L : Int), .int .i64 c.A, .int .i64 c.B, .int .i64 c.K, .int .i64 c.A2, .int .i64 c.B2]) (B := #[.string s, .int .i64 r, .int .i64 (Z : Int), .int .i64 d, .int .i64 g]) (T := 23) (T' := 25) (fz := (0, 0)) (fz' := (0, 0)))
  have HL := hid (fun w1 (g : Below w.heap.size w w1) => hl.keep g)
  obtain ⟨a0, cap, rfl⟩ := hl.shape
  have hcan : canB (c.R : Int) c.L c.A c.B c.K c.A2 c.B2 = true := hcv
  have hch : chk4 (canB (c.R : Int) c.L c.A c.B c.K c.A2 c.B2) (Kl.vB ⟨s, r, Z, d, g⟩) t p = 0 := by
    refine chk4_ok ?_ ?_ (by omega)
    · rw [hcan, show Kl.vB ⟨s, r, Z, d, g⟩ = true from hv]; rfl
    · rw [ho, hop]; rfl
  have HC : Hid (∀ W, RowI W (.slice a0 p.length cap) p → Calls Tryz.prog 34 #[.agg #[.int .i64 (c.R : Int), .int .i64 (c.L : Int), .int .i64 c.A, .int .i64 c.B, .int .i64 c.K, .int .i64 c.A2, .int .i64 c.B2], .agg #[.string s, .int .i64 r, .int .i64 (Z : Int), .int .i64 d, .int .i64 g], .int .i64 t, .slice a0 p.length cap] W fun e w' => e = .returned (.int .i64 0) ∧ Below W.heap.size W w') := fun W h => by
    have := pcheck_any c.R c.L c.A c.B c.K c.A2 c.B2 W ⟨s, r, Z, d, g⟩ t (.slice a0 p.length cap) p hs h (by unfold maxLen; omega)
    rwa [hch] at this
  have HE : Hid (∀ W, Calls Tryz.prog 45 #[.agg #[.int .i64 (c.R : Int), .int .i64 (c.L : Int), .int .i64 c.A, .int .i64 c.B, .int .i64 c.K, .int .i64 c.A2, .int .i64 c.B2], .int .i64 t] W (OutB (evB c t, 0) W)) := fun W => by
    have := even_all c.R c.L c.A c.B c.K c.A2 c.B2 W t
    rwa [evenO_ok hcv ho] at this
  have HCO : Hid (∀ W (ua : Option Addr) (uc : Nat), RowI W (.slice ua (evB c t).1.length uc) (evB c t).1 → RowI W (.slice a0 p.length cap) p → Calls Tryz.prog 46 #[.agg #[.int .i64 (c.R : Int), .int .i64 (c.L : Int), .int .i64 c.A, .int .i64 c.B, .int .i64 c.K, .int .i64 c.A2, .int .i64 c.B2], .agg #[.slice ua (evB c t).1.length uc, .bool (evB c t).2], .slice a0 p.length cap] W (ColP (coldL c t p) 0 W)) := fun W ua uc h1 h2 => by
    have := hcold_all c.R c.L c.A c.B c.K c.A2 c.B2 W (.slice ua (evB c t).1.length uc) (evB c t).1 (evB c t).2 (.slice a0 p.length cap) p h1 h2
    rw [show ((evB c t).1, (evB c t).2) = evB c t from rfl, colO_ok (even_chk hcv ho hop hlen), cnOf_cn] at this
    exact this
  have HSU := hid (fun W (u : Value) (h : RowI W u (coldL c t p)) => sum_at s r d g Z W hs u (coldL c t p) h hv (coldL_ok hcv.ok ho hop) (by rw [coldL_len]; omega))
  clear hl hcan hch hlen hop ho hv hcv hs
  go_enter Tryz.func18, Tryz.ntmps18
  go_wp2_with fail
  refine (HC.out _ (HL.out _ HX.out.low)).mono ?_
  rintro e w1 ⟨rfl, hb⟩
  have HX := hid (HX.out.keep hb)
  clear hb
  have t0 := HX.out.fst 0; have t1 := HX.out.fst 1; have t2 := HX.out.fst 2; have t3 := HX.out.fst 3; have t4 := HX.out.fst 4; have t5 := HX.out.fst 5; have t6 := HX.out.fst 6
  simp only [List.getElem?_toArray, List.getElem?_cons_zero, List.getElem?_cons_succ] at t0 t1 t2 t3 t4 t5 t6
  go_wp2_with fail
  refine (HE.out _).mono ?_
  rintro e w2 ⟨ua, uc, rfl, hr, hb⟩
  have HX := hid (HX.out.keep hb)
  have HR := hid hr
  clear hb hr t0 t1 t2 t3 t4 t5 t6
  have t0 := HX.out.fst 0; have t1 := HX.out.fst 1; have t2 := HX.out.fst 2; have t3 := HX.out.fst 3; have t4 := HX.out.fst 4; have t5 := HX.out.fst 5; have t6 := HX.out.fst 6
  simp only [List.getElem?_toArray, List.getElem?_cons_zero, List.getElem?_cons_succ] at t0 t1 t2 t3 t4 t5 t6
  have hz : w.heap.size < w2.heap.size := by have := HX.out.sz; omega
  go_wp2_with fail
  have hba := (Below.refl _ w2).alloc (Nat.le_refl _) (.cells #[.slice ua (evB c t).1.length uc, .bool (evB c t).2] 67)
  have HX := hid (HX.out.keep hba)
  refine (HCO.out _ ua uc (HR.out.keep hba) (HL.out _ HX.out.low)).mono ?_
  rintro e w3 ⟨ub, ud, rfl, hr3, hb⟩
  have HX := hid (HX.out.keep hb)
  have HR3 := hid hr3
  clear hb hr3 hba t0 t1 t2 t3 t4 t5 t6 hz
  have t0 := HX.out.snd 0; have t1 := HX.out.snd 1; have t2 := HX.out.snd 2; have t3 := HX.out.snd 3; have t4 := HX.out.snd 4
  simp only [List.getElem?_toArray, List.getElem?_cons_zero, List.getElem?_cons_succ] at t0 t1 t2 t3 t4
  go_wp2_with fail
  refine (HSU.out _ _ HR3.out).mono ?_
  rintro e w4 ⟨rfl, hb⟩
  have HX := hid (HX.out.keep hb)
  clear hb t0 t1 t2 t3 t4
  go_wp2_with fail
  go_ret2
  exact ⟨rfl, HX.out.low⟩
end Go.Proofs.YtedfajokiblfhaaGreat

/- Spoiled and ByColdest of the code whatever comes in: contracts. -/
namespace Go.Proofs.YtedfajokiblfhaaGreat
open Go.RowKit Go.Lib

/-- What may spoil in a can at most. -/
def spoO (r l a b k a2 b2 : Int) (q : Kl) (t : Int) (p : List Int) : Int :=
  if chk4 (canB r l a b k a2 b2) q.vB t p = 0 then maxA (ivN (dishR (cnOf r l a b k a2 b2) (Lt.up q.r q.z.toNat) (dish0 (cnOf r l a b k a2 b2) t) p).2) else 0
/-- What the coldest place of each tick adds up to. -/
def bycO (r l a b k a2 b2 : Int) (q : Kl) (t : Int) (p : List Int) : Int :=
  if chk4 (canB r l a b k a2 b2) q.vB t p = 0 then (Lt.sumL (Lt.dn q.r q.z.toNat) (coldL (cnOf r l a b k a2 b2) t p) : Nat) else 0
theorem spoO_no {r l a b k a2 b2 : Int} {q : Kl} {t : Int} {p : List Int} (h : chk4 (canB r l a b k a2 b2) q.vB t p ≠ 0) : spoO r l a b k a2 b2 q t p = 0 := by unfold spoO; rw [if_neg h]
theorem bycO_no {r l a b k a2 b2 : Int} {q : Kl} {t : Int} {p : List Int} (h : chk4 (canB r l a b k a2 b2) q.vB t p ≠ 0) : bycO r l a b k a2 b2 q t p = 0 := by unfold bycO; rw [if_neg h]
def IntE (x ce : Int) (w : World) (e : Ending) (w' : World) : Prop := e = .returned (.tuple #[.int .i64 x, .int .i64 ce]) ∧ Below w.heap.size w w'
set_option maxRecDepth 20000 in
set_option maxHeartbeats 4000000 in
theorem spoil_err (r l a b k a2 b2 : Int) (w : World) (q : Kl) (t : Int) (v : Value) (p : List Int) (hs : q.s.size ≤ maxLen) (hl : RowI w v p) (hpm : p.length ≤ maxLen) (hne : chk4 (canB r l a b k a2 b2) q.vB t p ≠ 0) :
    Calls Tryz.prog 20 #[.agg #[.int .i64 r, .int .i64 l, .int .i64 a, .int .i64 b, .int .i64 k, .int .i64 a2, .int .i64 b2], .agg #[.string q.s, .int .i64 q.r, .int .i64 q.z, .int .i64 q.d, .int .i64 q.g], .int .i64 t, v] w (IntE 0 (chk4 (canB r l a b k a2 b2) q.vB t p) w) := by
  have HX := hid (box2_start (w := w) (A := #[.int .i64 r, .int .i64 l, .int .i64 a, .int .i64 b, .int .i64 k, .int .i64 a2, .int .i64 b2]) (B := #[.string q.s, .int .i64 q.r, .int .i64 q.z, .int .i64 q.d, .int .i64 q.g]) (T := 23) (T' := 25) (fz := (0, 0)) (fz' := (0, 0)))
  have HL := hid (fun w1 (g : Below w.heap.size w w1) => hl.keep g)
  obtain ⟨a0, cap, rfl⟩ := hl.shape
  have HC := hid (fun W h => pcheck_any r l a b k a2 b2 W q t (.slice a0 p.length cap) p hs h hpm)
  generalize chk4 (canB r l a b k a2 b2) q.vB t p = ce at *
  have hc1 : (ce != 0) = true := by simpa using hne
  clear hl hs hpm hne
  go_enter Tryz.func20, Tryz.ntmps20
  go_wp2_with fail
  refine (HC.out _ (HL.out _ HX.out.low)).mono ?_
  rintro e w1 ⟨rfl, hb⟩
  have HX := hid (HX.out.keep hb)
  clear hb
  go_wp2_with fail
  go_ret2
  exact ⟨rfl, HX.out.low⟩
set_option maxRecDepth 20000 in
set_option maxHeartbeats 4000000 in
theorem byc_err (r l a b k a2 b2 : Int) (w : World) (q : Kl) (t : Int) (v : Value) (p : List Int) (hs : q.s.size ≤ maxLen) (hl : RowI w v p) (hpm : p.length ≤ maxLen) (hne : chk4 (canB r l a b k a2 b2) q.vB t p ≠ 0) :
    Calls Tryz.prog 18 #[.agg #[.int .i64 r, .int .i64 l, .int .i64 a, .int .i64 b, .int .i64 k, .int .i64 a2, .int .i64 b2], .agg #[.string q.s, .int .i64 q.r, .int .i64 q.z, .int .i64 q.d, .int .i64 q.g], .int .i64 t, v] w (IntE 0 (chk4 (canB r l a b k a2 b2) q.vB t p) w) := by
  have HX := hid (box2_start (w := w) (A := #[.int .i64 r, .int .i64 l, .int .i64 a, .int .i64 b, .int .i64 k, .int .i64 a2, .int .i64 b2]) (B := #[.string q.s, .int .i64 q.r, .int .i64 q.z, .int .i64 q.d, .int .i64 q.g]) (T := 23) (T' := 25) (fz := (0, 0)) (fz' := (0, 0)))
  have HL := hid (fun w1 (g : Below w.heap.size w w1) => hl.keep g)
  obtain ⟨a0, cap, rfl⟩ := hl.shape
  have HC := hid (fun W h => pcheck_any r l a b k a2 b2 W q t (.slice a0 p.length cap) p hs h hpm)
  generalize chk4 (canB r l a b k a2 b2) q.vB t p = ce at *
  have hc1 : (ce != 0) = true := by simpa using hne
  clear hl hs hpm hne
  go_enter Tryz.func18, Tryz.ntmps18
  go_wp2_with fail
  refine (HC.out _ (HL.out _ HX.out.low)).mono ?_
  rintro e w1 ⟨rfl, hb⟩
  have HX := hid (HX.out.keep hb)
  clear hb
  go_wp2_with fail
  go_ret2
  exact ⟨rfl, HX.out.low⟩
theorem byc_any (r l a b k a2 b2 : Int) (w : World) (q : Kl) (t : Int) (v : Value) (p : List Int) (hs : q.s.size ≤ maxLen) (hl : RowI w v p) (hpm : p.length ≤ maxLen) :
    Calls Tryz.prog 18 #[.agg #[.int .i64 r, .int .i64 l, .int .i64 a, .int .i64 b, .int .i64 k, .int .i64 a2, .int .i64 b2], .agg #[.string q.s, .int .i64 q.r, .int .i64 q.z, .int .i64 q.d, .int .i64 q.g], .int .i64 t, v] w (IntE (bycO r l a b k a2 b2 q t p) (chk4 (canB r l a b k a2 b2) q.vB t p) w) := by
  by_cases h : chk4 (canB r l a b k a2 b2) q.vB t p = 0
  · obtain ⟨hc, hk, ho, hop, hlen⟩ := chk4_zero h
    obtain ⟨c, hcv, rfl, rfl, rfl, rfl, rfl, rfl, rfl⟩ := canB_cn hc
    obtain ⟨Z, hz, hv⟩ := kl_of hk
    have hso : bycO c.R c.L c.A c.B c.K c.A2 c.B2 q t p = (Lt.sumL (Lt.dn q.r Z) (coldL c t p) : Nat) := by
      unfold bycO; rw [if_pos h, cnOf_cn, hz, Int.toNat_natCast]
    rw [hso, h, hz]
    exact byc_ok c q.s q.r q.d q.g t Z v p w hs hcv hv ho hop hlen hl
  · rw [bycO_no h]
    exact byc_err r l a b k a2 b2 w q t v p hs hl hpm h
set_option maxRecDepth 20000 in
set_option maxHeartbeats 4000000 in
theorem spoil_ok (c : Cn) (s : ByteArray) (r d g t : Int) (Z : Nat) (v : Value) (p : List Int) (w : World) (hs : s.size ≤ maxLen) (hcv : c.V) (hv : Lt.validB s.data.toList r Z d g = true) (ho : okT t = true) (hop : okL p = true) (hlen : p.length ≤ 2000) (hl : RowI w v p) :
    Calls Tryz.prog 20 #[.agg #[.int .i64 (c.R : Int), .int .i64 (c.L : Int), .int .i64 c.A, .int .i64 c.B, .int .i64 c.K, .int .i64 c.A2, .int .i64 c.B2], .agg #[.string s, .int .i64 r, .int .i64 (Z : Int), .int .i64 d, .int .i64 g], .int .i64 t, v] w (IntE (maxA (ivN (dishR c (Lt.up r Z) (dish0 c t) p).2)) 0 w) := by
  have HX := hid (box2_start (w := w) (A := #[.int .i64 (c.R : Int), .int .i64 (c.L : Int), .int .i64 c.A, .int .i64 c.B, .int .i64 c.K, .int .i64 c.A2, .int .i64 c.B2]) (B := #[.string s, .int .i64 r, .int .i64 (Z : Int), .int .i64 d, .int .i64 g]) (T := 23) (T' := 25) (fz := (0, 0)) (fz' := (0, 0)))
  have HL := hid (fun w1 (g : Below w.heap.size w w1) => hl.keep g)
  obtain ⟨a0, cap, rfl⟩ := hl.shape
  have hcan : canB (c.R : Int) c.L c.A c.B c.K c.A2 c.B2 = true := hcv
  have hch : chk4 (canB (c.R : Int) c.L c.A c.B c.K c.A2 c.B2) (Kl.vB ⟨s, r, Z, d, g⟩) t p = 0 := by
    refine chk4_ok ?_ ?_ (by omega)
    · rw [hcan, show Kl.vB ⟨s, r, Z, d, g⟩ = true from hv]; rfl
    · rw [ho, hop]; rfl
  have HC : Hid (∀ W, RowI W (.slice a0 p.length cap) p → Calls Tryz.prog 34 #[.agg #[.int .i64 (c.R : Int), .int .i64 (c.L : Int), .int .i64 c.A, .int .i64 c.B, .int .i64 c.K, .int .i64 c.A2, .int .i64 c.B2], .agg #[.string s, .int .i64 r, .int .i64 (Z : Int), .int .i64 d, .int .i64 g], .int .i64 t, .slice a0 p.length cap] W fun e w' => e = .returned (.int .i64 0) ∧ Below W.heap.size W w') := fun W h => by
    have := pcheck_any c.R c.L c.A c.B c.K c.A2 c.B2 W ⟨s, r, Z, d, g⟩ t (.slice a0 p.length cap) p hs h (by unfold maxLen; omega)
    rwa [hch] at this
  have HM := hid (fun W => meterUp_any c s r d g Z W hs hv)
  have hbt : (-50000 : Int) ≤ t ∧ t ≤ 200000 := by unfold okT at ho; simpa using ho
  have hbl : ∀ b ∈ p, (-50000 : Int) ≤ b ∧ b ≤ 200000 := fun b hb => by
    have := List.all_eq_true.1 hop b hb
    unfold okT at this; simpa using this
  have HRK := hid (fun (W : World) (kb nb mb : Nat) (h : UpI s r Z d g kb nb mb W) => rateOk_up hs hv h)
  have HRN := hid (fun (F : Nat) (lb : Array Value) (mb B0 : Nat) (I : World → Prop) (W : World) (hR : RateOk F lb (Lt.up r Z) (-50000) 200000 mb B0 I) (hI : I W) (h : RowI W (.slice a0 p.length cap) p) => mrun_any c (g * (d * 1000000)) t F lb (Lt.up r Z) (-50000) 200000 mb B0 I (.slice a0 p.length cap) p W hR hcv ho hop hI h (by omega) hbt hbl)
  have hG : Good c (dishR c (Lt.up r Z) (dish0 c t) p) := (dish0_good ho).run hcv.ok hop
  have HSL : Hid (1 ≤ (dishR c (Lt.up r Z) (dish0 c t) p).2.length ∧ (dishR c (Lt.up r Z) (dish0 c t) p).2.length ≤ 1000) := by
    refine hid ?_
    rw [hG.len]
    exact ⟨hcv.ok.p.1, by have := hcv.ok.p.2; omega⟩
  have HMX := hid (fun (W : World) (u : Value) (h : RowI W u (ivN (dishR c (Lt.up r Z) (dish0 c t) p).2)) => maxA_any u _ W h (by rw [ivN_len]; have := HSL.out; omega) (by rw [ivN_len]; have := HSL.out; omega))
  generalize hD : dishR c (Lt.up r Z) (dish0 c t) p = D at *
  clear hD hl hcan hch hlen hop ho hv hcv hs hbt hbl hG HSL
  have hfl := field_dish
  go_enter Tryz.func20, Tryz.ntmps20
  go_wp2_with fail
  refine (HC.out _ (HL.out _ HX.out.low)).mono ?_
  rintro e w1 ⟨rfl, hb⟩
  have HX := hid (HX.out.keep hb)
  clear hb
  have x0 := HX.out.snd 0; have x1 := HX.out.snd 1; have x2 := HX.out.snd 2; have x3 := HX.out.snd 3; have x4 := HX.out.snd 4
  have t0 := HX.out.fst 0; have t1 := HX.out.fst 1; have t2 := HX.out.fst 2; have t3 := HX.out.fst 3; have t4 := HX.out.fst 4; have t5 := HX.out.fst 5; have t6 := HX.out.fst 6
  simp only [List.getElem?_toArray, List.getElem?_cons_zero, List.getElem?_cons_succ] at x0 x1 x2 x3 x4 t0 t1 t2 t3 t4 t5 t6
  go_wp2_with fail
  refine (HM.out _).mono ?_
  rintro e w2 ⟨kb, nb, mb, rfl, hu, hmb, hb⟩
  have HMB := hid (show w.heap.size ≤ mb from Nat.le_trans HX.out.low.size hmb)
  have HX := hid (HX.out.keep hb)
  have HU := hid hu
  clear hb hu hmb x0 x1 x2 x3 x4 t0 t1 t2 t3 t4 t5 t6
  have HRO := hid (HRK.out w2 kb nb mb HU.out)
  clear HRK HM HC
  go_wp2_with fail
  refine (HRN.out _ _ mb w2.heap.size _ w2 HRO.out ⟨HU.out, Nat.le_refl _⟩ (HL.out _ HX.out.low)).mono ?_
  rintro e w9 ⟨ua, ub, uc, ud, rfl, h1, h2, h3, h4⟩
  have HF := hid (And.intro h2 (HX.out.low.grown h4 HX.out.low.size (fun j e => by cases e; exact HMB.out)))
  clear h1 h2 h3 h4 HRN HL HRO
  go_wp2_with fail
  refine (HMX.out _ _ HF.out.1).mono ?_
  rintro e w10 ⟨rfl, rfl⟩
  go_wp2_with fail
  go_ret2
  exact ⟨rfl, HF.out.2⟩
theorem spoil_any (r l a b k a2 b2 : Int) (w : World) (q : Kl) (t : Int) (v : Value) (p : List Int) (hs : q.s.size ≤ maxLen) (hl : RowI w v p) (hpm : p.length ≤ maxLen) :
    Calls Tryz.prog 20 #[.agg #[.int .i64 r, .int .i64 l, .int .i64 a, .int .i64 b, .int .i64 k, .int .i64 a2, .int .i64 b2], .agg #[.string q.s, .int .i64 q.r, .int .i64 q.z, .int .i64 q.d, .int .i64 q.g], .int .i64 t, v] w (IntE (spoO r l a b k a2 b2 q t p) (chk4 (canB r l a b k a2 b2) q.vB t p) w) := by
  by_cases h : chk4 (canB r l a b k a2 b2) q.vB t p = 0
  · obtain ⟨hc, hk, ho, hop, hlen⟩ := chk4_zero h
    obtain ⟨c, hcv, rfl, rfl, rfl, rfl, rfl, rfl, rfl⟩ := canB_cn hc
    obtain ⟨Z, hz, hv⟩ := kl_of hk
    have hso : spoO c.R c.L c.A c.B c.K c.A2 c.B2 q t p = maxA (ivN (dishR c (Lt.up q.r Z) (dish0 c t) p).2) := by
      unfold spoO; rw [if_pos h, cnOf_cn, hz, Int.toNat_natCast]
    rw [hso, h, hz]
    exact spoil_ok c q.s q.r q.d q.g t Z v p w hs hcv hv ho hop hlen hl
  · rw [spoO_no h]
    exact spoil_err r l a b k a2 b2 w q t v p hs hl hpm h
end Go.Proofs.YtedfajokiblfhaaGreat
