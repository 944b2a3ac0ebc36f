/- Walk of When of package lethal where it asks sums; the reference's When: contracts. -/
import Derived.Test.YtfngmpkceceomaaUd
namespace Go.Proofs.Ytfngmpkceceomaa
open Go.RowKit Go.Lib Go.Maps Go.Shelf
attribute [local go_sem] Oper.semAt_some

/-- What When answers of good lists and a lethality above 0. -/
def WhenP (f : Int → Nat) (l : List Int) (q : Int) (w : World) (e : Ending) (w' : World) : Prop :=
  ∃ n c : Int, e = .returned (.tuple #[.int .i64 n, .int .i64 c]) ∧ Below w.heap.size w w' ∧ ((c = 0 ∧ ∃ m : Nat, n = m ∧ FirstAt f l q.toNat m) ∨ (c = 8 ∧ n = 0 ∧ sumL f l < q.toNat))
theorem w4_turn {b : Nat} {w W W' : World} {s : ByteArray} {r z d g f : Int} {x y : Value} {row : Option Nat} (h : W4 b w W s r z d g f x y) (hg : W.grownBy W' row) (hr : ∀ j, row = some j → ∃ o : Obj, W.heap[j]? = some o ∧ o.isCells = false) (hl : ∀ j, row = some j → w.heap.size ≤ j) : W4 b w W' s r z d g f x y := by
  obtain ⟨h0, h1, h2, h3, h4, h5, h6, h7, h8, h9, h10, h11⟩ := h
  exact ⟨cell_kept h0 hg hr, cell_kept h1 hg hr, cell_kept h2 hg hr, cell_kept h3 hg hr, cell_kept h4 hg hr, cell_kept h5 hg hr, cell_kept h6 hg hr, cell_kept h7 hg hr, (frozen_kept h6 hg hr).trans h8, (frozen_kept h7 hg hr).trans h9, Nat.lt_of_lt_of_le h10 hg.size, h11.grown hg h11.size hl⟩
theorem KpX.refl (n0 x0 y0 : Nat) (W : World) : KpX n0 x0 y0 W W := ⟨Nat.le_refl _, fun _ _ _ _ => rfl⟩
/-- The result and the error lie in their boxes. -/
def W2 (b : Nat) (w W : World) (x y : Value) : Prop := W.cell? ⟨b + 1 + 1, 0, none⟩ = some x ∧ W.cell? ⟨b + 1 + 1 + 1, 0, none⟩ = some y ∧ b + 1 + 1 + 1 < W.heap.size ∧ Below w.heap.size w W
theorem w2_turn {b : Nat} {w W W' : World} {x y : Value} {row : Option Nat} (h : W2 b w W x y) (hg : W.grownBy W' row) (hr : ∀ j, row = some j → ∃ o : Obj, W.heap[j]? = some o ∧ o.isCells = false) (hl : ∀ j, row = some j → w.heap.size ≤ j) : W2 b w W' x y := by
  obtain ⟨h0, h1, h2, h3⟩ := h
  exact ⟨cell_kept h0 hg hr, cell_kept h1 hg hr, Nat.lt_of_lt_of_le h2 hg.size, h3.grown hg h3.size hl⟩
theorem w2_set {w W : World} {x y x' y' : Value} (h6 : W.cell? ⟨w.heap.size + 1 + 1, 0, none⟩ = some x) (h7 : W.cell? ⟨w.heap.size + 1 + 1 + 1, 0, none⟩ = some y) (hz : w.heap.size + 1 + 1 + 1 < W.heap.size) (hB : Below w.heap.size w W) :
    W2 w.heap.size w ((W.setCell ⟨w.heap.size + 1 + 1, 0, none⟩ x').setCell ⟨w.heap.size + 1 + 1 + 1, 0, none⟩ y') x' y' := by
  refine ⟨?_, ?_, by rw [size_set, size_set]; exact hz, set_two _ _ hB⟩
  · rw [World.cell?_setCell_other _ _ _ _ (fun e => by have h := congrArg Addr.block e; dsimp only at h; omega)]
    exact World.cell?_setCell_same' _ _ _ (by rw [h6]; rfl)
  · refine World.cell?_setCell_same' _ _ _ ?_
    rw [World.cell?_setCell_other _ _ _ _ (fun e => by have h := congrArg Addr.block e; dsimp only at h; omega), h7]; rfl

set_option maxRecDepth 20000 in
set_option maxHeartbeats 8000000 in
theorem lWhen_ok (s : ByteArray) (r d g q : Int) (Z : Nat) (w : World) (hs : s.size ≤ maxLen) (v : Value) (l : List Int) (hl : RowI w v l) (hv : validB s.data.toList r Z d g = true) (ho : okL l = true) (hlen : l.length ≤ 10000) (q1 : 0 < q) (q2 : q ≤ 1000000000000000000) :
    Calls Try.prog 53 #[.agg #[.string s, .int .i64 r, .int .i64 Z, .int .i64 d, .int .i64 g], v, .int .i64 q] w (WhenP (dn r Z) l q w) := by
  obtain ⟨_, ⟨r1, r2⟩, ⟨z1, z2⟩, _, _⟩ := validB_iff.1 hv
  have HL := hid (fun w1 (g : Below w.heap.size w w1) => hl.keep g)
  obtain ⟨a, b, o, cap, rfl, ha, hc, hbl⟩ := hl.form
  have HA := hid (askE_ok (l := l) (by omega) ho)
  have HF : Hid (chkF (validB s.data.toList r Z d g) q = 0) := by rw [hv]; exact chkF_in q (by simp; omega)
  have HO := hid ho; have HAD := hid ha; have HC := hid hc; have HBL := hid hbl
  have hq0 : (q == 0) = false := by simp; omega
  have HB0 := hid (w4_start (w := w) (s := s) (r := r) (z := Z) (d := d) (g := g) (f := q) (x := .int .i64 0) (y := .int .i64 0) (T1 := 23) (T2 := 3) (T3 := 3) (T4 := 29))
  clear ho ha hc hbl hl
  refine (callsIn_wide (n := 10)).1 ?_
  refine callsIn_of_wp_marks Try.func53 rfl trivial ?_ rfl
  simp only [Try.ntmps53, List.size_toArray, List.length_cons, List.length_nil, Nat.reduceAdd, Nat.reduceSub, Array.replicate_succ, Array.replicate_zero, List.push_toArray, List.append_toArray, List.nil_append, List.cons_append]
  gi_wp2
  refine ⟨trivial, ?_⟩
  refine (callsIn_wide.2 (checkTemps_any _ _ _ _ _ _ hs _ l (HL.out _ HB0.out.2.2.2.2.2.2.2.2.2.2.2))).mono ?_
  rintro e w1 ⟨rfl, hb1⟩
  rw [hv, HA.out]
  have HB1 := hid (w4_keep hb1 HB0.out)
  obtain ⟨b0, b1, b2, b3, b4, b5, b6, b7, b8, b9, hz, hB⟩ := HB1.out
  clear hb1
  gi_wp2
  refine ⟨trivial, ?_⟩
  refine (callsIn_wide.2 (checkF_any _ _ _ _ _ _ hs _)).mono ?_
  rintro e w2 ⟨rfl, hb1⟩
  rw [HF.out]
  have HB2 := hid (w4_keep hb1 HB1.out)
  clear b0 b1 b2 b3 b4 b5 b6 b7 b8 b9 hz hB
  obtain ⟨b0, b1, b2, b3, b4, b5, b6, b7, b8, b9, hz, hB⟩ := HB2.out
  clear hb1
  gi_wp2
  refine ⟨trivial, ?_⟩
  refine (callsIn_wide.2 (rateDown_any _ _ _ _ Z _ hs)).mono ?_
  rintro e w3 ⟨L, mb, rfl, hS, hmb, hLb, hb2⟩
  have HB3 := hid (w4_keep hb2 HB2.out)
  have HS := hid hS; have HM := hid (And.intro hmb (And.intro hLb hb2))
  clear hS hmb hLb hb2 hB b0 b1 b2 b3 b4 b5 b6 b7 b8 b9 hz
  gi_wp2
  refine ⟨trivial, ?_⟩
  refine (callsIn_wide.2 (sums_make a l.length cap _ _ _)).mono ?_
  rintro e w4 ⟨rfl, rfl⟩
  gi_wp2
  have hB3 := HB3.out.2.2.2.2.2.2.2.2.2.2.2
  obtain ⟨W0, hW0, hsz, hI, hbW⟩ := sums_start (.func 87) s r d g Z L mb a b o cap l w3 32 45 HAD.out (fun j h => keep_cell hB3 (HC.out j h)) (fun h => Nat.lt_of_lt_of_le (HBL.out h) hB3.size) HS.out
  rw [hW0]
  obtain ⟨hm1, hm2, hm3⟩ := HM.out
  have hm4 := hm3.size
  have h4 := w4_keep hbW HB3.out
  have hz2 : w.heap.size + 1 + 1 + 1 < w2.heap.size := HB2.out.2.2.2.2.2.2.2.2.2.2.1
  have hq : sumL (dn r Z) (l.take ([] : List (Nat × Nat)).length) < q.toNat := by show 0 < _; omega
  refine range_map (F := Fence.wide) (n := 10) (mb := mb) (xs := seqS (dn r Z) l) (encs := encS) (Kp := KpX (w3.heap.size + 2) (w.heap.size + 1) (w.heap.size + 1)) (w0 := W0) rfl (by omega) (gf := 91) (lb := #[.pointer (some ⟨w3.heap.size, 0, none⟩), .pointer (some ⟨w3.heap.size + 1, 0, none⟩)]) rfl trivial (enters_of Try.func91 (by kernel_rfl) rfl)
    (sumsX_seq s r d g Z L mb _ _ (w.heap.size + 1) (w.heap.size + 1) a b o cap _ l W0 r1 r2 (by omega) (by omega) hlen HO.out hI ⟨by omega, by omega, by omega, by omega, fun h => by have := HBL.out h; omega⟩)
    (fun h k => h.trans k) (fun W l o o' hl h _ _ => KpX.put (by omega) h) (Below.refl _ _) (fun _ => rfl)
    (fun pre W => sumL (dn r Z) (l.take pre.length) < q.toNat ∧ W4 w.heap.size w W s r Z d g q (.int .i64 0) (.int .i64 0)) (fun _ W => ∃ m : Nat, FirstAt (dn r Z) l q.toNat m ∧ W2 w.heap.size w W (.int .i64 (m : Int)) (.int .i64 0)) ?hI ?hIx ⟨hq, h4⟩
    (fun x => { tmps := #[.agg #[.string s, .int .i64 r, .int .i64 Z, .int .i64 d, .int .i64 g], .slice a l.length cap, .int .i64 q, .pointer (some ⟨w.heap.size, 0, none⟩), undef, .pointer (some ⟨w.heap.size + 1, 0, none⟩), .pointer (some ⟨w.heap.size + 1 + 1, 0, none⟩), .pointer (some ⟨w.heap.size + 1 + 1 + 1, 0, none⟩), .int .i64 0, .int .i64 0, .int .i64 (x.1 : Int), .int .i64 (x.2 : Int),
      .agg #[.string s, .int .i64 r, .int .i64 Z, .int .i64 d, .int .i64 g], .slice a l.length cap, .int .i64 0, .int .i64 0, .bool false, undef, .agg #[.string s, .int .i64 r, .int .i64 Z, .int .i64 d, .int .i64 g], .int .i64 q, .int .i64 0, .int .i64 0, .bool false, undef, .int .i64 q, .bool false, .slice a l.length cap,
      .agg #[.string s, .int .i64 r, .int .i64 Z, .int .i64 d, .int .i64 g], .func (.func 87) #[] #[.pointer (some ⟨L, 0, none⟩)], .func (.func 91) #[] #[.pointer (some ⟨w3.heap.size, 0, none⟩), .pointer (some ⟨w3.heap.size + 1, 0, none⟩)], .int .i64 (x.1 : Int), .int .i64 (x.2 : Int), undef, undef, undef, undef], defers := [] }) ?assign ?body ?done ?stop
  case assign =>
    intro l x W K hK
    simp only [encS]
    gi_wp2
    exact hK
  case body =>
    rintro l' k x W hx ⟨hlt, h4'⟩
    have hkl : k < (seqS (dn r Z) l).length := (List.getElem?_eq_some_iff.1 hx).1
    have hkl' : k < l.length := by rwa [seqS_len] at hkl
    have hx' := seqS_get (dn r Z) l k hkl'
    rw [hx] at hx'
    obtain rfl : x = (k + 1, sumL (dn r Z) (l.take (k + 1))) := Option.some.inj hx'
    have e1 : ((seqS (dn r Z) l).take k).length = k := by rw [List.length_take]; omega
    have e2 : ((seqS (dn r Z) l).take (k + 1)).length = k + 1 := by rw [List.length_take]; omega
    rw [e1] at hlt
    rw [e2]
    obtain ⟨y, hy⟩ : ∃ y, y = sumL (dn r Z) (l.take (k + 1)) := ⟨_, rfl⟩
    have HY := hid hy; have H4 := hid h4'; have HLT := hid hlt
    rw [← hy]
    clear hy h4' hlt hx hx' e1 e2
    obtain ⟨b0, b1, b2, b3, b4, b5, b6, b7, b8, b9, hz, hB⟩ := H4.out
    by_cases hge : q ≤ (y : Int)
    · have HFA : Hid (FirstAt (dn r Z) l q.toNat (k + 1)) := ⟨by omega, by omega, by rw [← HY.out]; omega, by simpa using HLT.out⟩
      gi_wp2
      refine ⟨((KeepsOthers.setCell _ _ _).trans (KeepsOthers.setCell _ _ _)).from _, k + 1, HFA.out, ?_⟩
      exact w2_set b6 b7 hz hB
    · gi_wp2
      refine ⟨(KeepsOthers.refl _).from _, KpX.refl _ _ _ _, ?_⟩
      first | exact H4.out | exact ⟨by omega, H4.out⟩
  case done =>
    rintro D W hD ⟨hlt, h4'⟩ hK
    rw [seqS_len, List.take_length] at hlt
    have H4 := hid h4'; have HLT := hid hlt
    clear h4' hlt
    obtain ⟨b0, b1, b2, b3, b4, b5, b6, b7, b8, b9, hz, hB⟩ := H4.out
    have HK2 := hid (((KeepsOthers.setCell W ⟨w.heap.size + 1 + 1, 0, none⟩ (.int .i64 0)).trans (KeepsOthers.setCell _ ⟨w.heap.size + 1 + 1 + 1, 0, none⟩ (.int .i64 8))).same D _ hK rfl)
    have H2 := hid (w2_turn (w2_set (x' := .int .i64 0) (y' := .int .i64 8) b6 b7 hz hB) (grownBy_putObj' _ D (.deferred none)) (fun j e => by cases e; exact ⟨_, HK2.out, rfl⟩) (fun j e => by cases e; omega))
    gi_wp2
    refine ⟨by simp, .inl ⟨_, _, rfl, run_takeDeferred HK2.out, ?_⟩⟩
    obtain ⟨c6, c7, c8, c9⟩ := H2.out
    refine ⟨.tuple #[.int .i64 0, .int .i64 8], by simp [results, Try.results53, go_sem, c6, c7], ?_⟩
    exact ⟨0, 8, rfl, c9, .inr ⟨rfl, rfl, HLT.out⟩⟩
  case stop =>
    rintro D k W hD ⟨m, hF, h2⟩ hK
    have H2 := hid (w2_turn h2 (grownBy_putObj' _ D (.deferred none)) (fun j e => by cases e; exact ⟨_, hK, rfl⟩) (fun j e => by cases e; omega))
    have HFA := hid hF
    clear hF h2
    gi_wp2
    refine ⟨by simp, .inl ⟨_, _, rfl, run_takeDeferred hK, ?_⟩⟩
    obtain ⟨c6, c7, c8, c9⟩ := H2.out
    refine ⟨.tuple #[.int .i64 (m : Int), .int .i64 0], by simp [results, Try.results53, go_sem, c6, c7], ?_⟩
    exact ⟨m, 0, rfl, c9, .inl ⟨rfl, m, rfl, HFA.out⟩⟩
  case hI =>
    rintro pre A B' row ⟨h1, h2⟩ hgr hr
    exact ⟨h1, w4_turn h2 hgr (fun j e => (hr j e).2) (fun j e => by rcases (hr j e).1 with h | h <;> omega)⟩
  case hIx =>
    rintro pre A B' row ⟨m, h1, h2⟩ hgr hr
    exact ⟨m, h1, w2_turn h2 hgr (fun j e => (hr j e).2) (fun j e => by rcases (hr j e).1 with h | h <;> omega)⟩

theorem whenP_one {f : Int → Nat} {l : List Int} {q : Int} {w w1 w2 w3 : World} {n c m e : Int} (h : WhenP f l q w (.returned (.tuple #[.int .i64 n, .int .i64 c])) w1) (k : WhenP f l q w2 (.returned (.tuple #[.int .i64 m, .int .i64 e])) w3) : n = m ∧ c = e := by
  obtain ⟨n', c', h0, _, h1⟩ := h
  obtain ⟨m', e', k0, _, k1⟩ := k
  cases h0; cases k0
  rcases h1 with ⟨rfl, a, rfl, ha⟩ | ⟨rfl, rfl, ha⟩ <;> rcases k1 with ⟨rfl, b, rfl, hb⟩ | ⟨rfl, rfl, hb⟩
  · exact ⟨by rw [ha.same hb], rfl⟩
  · exfalso
    obtain ⟨_, h2, h3, _⟩ := ha
    have := sumL_take_mono f l h2
    rw [List.take_length] at this
    omega
  · exfalso
    obtain ⟨_, h2, h3, _⟩ := hb
    have := sumL_take_mono f l h2
    rw [List.take_length] at this
    omega
  · exact ⟨rfl, rfl⟩

set_option maxHeartbeats 4000000 in
theorem rWhen_e1 (s : ByteArray) (r z d g f : Int) (w : World) (hs : s.size ≤ maxLen) (v : Value) (l : List Int) (hl : RowI w v l) (hne : askE (validB s.data.toList r z d g) l ≠ 0) :
    Calls Try.prog 54 #[.agg #[.string s, .int .i64 r, .int .i64 z, .int .i64 d, .int .i64 g], v, .int .i64 f] w fun e w' => e = .returned (.tuple #[.int .i64 0, .int .i64 (askE (validB s.data.toList r z d g) l)]) ∧ Below w.heap.size w w' := by
  obtain ⟨c, hc⟩ : ∃ c, c = askE (validB s.data.toList r z d g) l := ⟨_, rfl⟩
  have HNE := hid hne
  rw [← hc] at hne ⊢
  have HC := hid hc; clear hc
  have hb : (c == 0) = false := by simpa using hne
  have hb2 : (c != 0) = true := by simpa using hne
  have HL := hid (RowI.keep hl (((Below.refl _ w).alloc (Nat.le_refl _) (.cells #[.string s, .int .i64 r, .int .i64 z, .int .i64 d, .int .i64 g] 23))))
  clear hl
  go_enter Try.func54, Try.ntmps54
  go_wp2_with (go_at_call 43; refine (rRunning_no _ _ _ _ _ _ hs _ l HL.out HNE.out).mono ?_; rintro e w1 ⟨rfl, hb1⟩; rw [← HC.out]; obtain ⟨b0, b1, b2, b3, b4, hz, hB⟩ := box5_below hb1; clear hb1)
  go_ret2
  exact ⟨rfl, hB⟩
theorem chkF_e {f : Int} (h : chkF true f ≠ 0) : (decide (0 ≤ f) && decide (f ≤ 1000000000000000000)) = false := by
  cases hd : (decide (0 ≤ f) && decide (f ≤ 1000000000000000000))
  · rfl
  · exact absurd (chkF_in f hd) h
theorem chkF_o {f : Int} (h : chkF true f = 0) : (decide (0 ≤ f) && decide (f ≤ 1000000000000000000)) = true := by
  cases hd : (decide (0 ≤ f) && decide (f ≤ 1000000000000000000))
  · rw [chkF_out f hd] at h; cases h
  · rfl
set_option maxHeartbeats 4000000 in
theorem rWhen_e2 (s : ByteArray) (r d g f : Int) (Z : Nat) (w : World) (hs : s.size ≤ maxLen) (v : Value) (l : List Int) (hl : RowI w v l) (hv : validB s.data.toList r Z d g = true) (ho : okL l = true) (hlen : l.length ≤ 10000) (hne : chkF true f ≠ 0) :
    Calls Try.prog 54 #[.agg #[.string s, .int .i64 r, .int .i64 Z, .int .i64 d, .int .i64 g], v, .int .i64 f] w fun e w' => e = .returned (.tuple #[.int .i64 0, .int .i64 (chkF true f)]) ∧ Below w.heap.size w w' := by
  have hd := chkF_e hne
  have HE := hid (chkF_out f hd)
  clear hne
  have HL := hid (RowI.keep hl (((Below.refl _ w).alloc (Nat.le_refl _) (.cells #[.string s, .int .i64 r, .int .i64 Z, .int .i64 d, .int .i64 g] 23))))
  have HO := hid ho
  clear hl ho
  go_enter Try.func54, Try.ntmps54
  go_wp2_with (first
    | (go_at_call 43; refine (rRunning_ok _ _ _ _ Z _ hs _ l HL.out hv HO.out hlen).mono ?_; rintro e w1 ⟨v1, rfl, hr1, hb1⟩; obtain ⟨b0, b1, b2, b3, b4, hz, hB⟩ := box5_below hb1; clear hb1)
    | (go_at_call 58; refine (rwithin_any _ _ _ _).mono ?_; rintro e w1 ⟨rfl, rfl⟩))
  go_ret2
  exact ⟨by rw [HE.out]; rfl, hB⟩
set_option maxHeartbeats 4000000 in
theorem rWhen_zero (s : ByteArray) (r d g : Int) (Z : Nat) (w : World) (hs : s.size ≤ maxLen) (v : Value) (l : List Int) (hl : RowI w v l) (hv : validB s.data.toList r Z d g = true) (ho : okL l = true) (hlen : l.length ≤ 10000) :
    Calls Try.prog 54 #[.agg #[.string s, .int .i64 r, .int .i64 Z, .int .i64 d, .int .i64 g], v, .int .i64 0] w fun e w' => e = .returned (.tuple #[.int .i64 0, .int .i64 0]) ∧ Below w.heap.size w w' := by
  have HL := hid (RowI.keep hl (((Below.refl _ w).alloc (Nat.le_refl _) (.cells #[.string s, .int .i64 r, .int .i64 Z, .int .i64 d, .int .i64 g] 23))))
  have HO := hid ho
  clear hl ho
  go_enter Try.func54, Try.ntmps54
  go_wp2_with (first
    | (go_at_call 43; refine (rRunning_ok _ _ _ _ Z _ hs _ l HL.out hv HO.out hlen).mono ?_; rintro e w1 ⟨v1, rfl, hr1, hb1⟩; obtain ⟨b0, b1, b2, b3, b4, hz, hB⟩ := box5_below hb1; clear hb1)
    | (go_at_call 58; refine (rwithin_any _ _ _ _).mono ?_; rintro e w1 ⟨rfl, rfl⟩))
  go_ret2
  exact ⟨rfl, hB⟩
set_option maxHeartbeats 8000000 in
theorem rWhen_ok (s : ByteArray) (r d g q : Int) (Z : Nat) (w : World) (hs : s.size ≤ maxLen) (v : Value) (l : List Int) (hl : RowI w v l) (hv : validB s.data.toList r Z d g = true) (ho : okL l = true) (hlen : l.length ≤ 10000) (q1 : 0 < q) (q2 : q ≤ 1000000000000000000) :
    Calls Try.prog 54 #[.agg #[.string s, .int .i64 r, .int .i64 Z, .int .i64 d, .int .i64 g], v, .int .i64 q] w (WhenP (dn r Z) l q w) := by
  have hd : (decide (0 ≤ q) && decide (q ≤ 1000000000000000000)) = true := by simp; omega
  have hq0 : (q == 0) = false := by simp; omega
  have hq3 : 0 ≤ q := by omega
  have HL := hid (RowI.keep hl (((Below.refl _ w).alloc (Nat.le_refl _) (.cells #[.string s, .int .i64 r, .int .i64 Z, .int .i64 d, .int .i64 g] 23))))
  have HO := hid ho
  have hrl := hid (runK_len (dn r Z) l l.length)
  clear hl ho
  go_enter Try.func54, Try.ntmps54
  go_wp2_with (first
    | (go_at_call 43; refine (rRunning_ok _ _ _ _ Z _ hs _ l HL.out hv HO.out hlen).mono ?_; rintro e w1 ⟨v1, rfl, hr1, hb1⟩; obtain ⟨b0, b1, b2, b3, b4, hz, hB⟩ := box5_below hb1; have HB := hid hB; have HR := hid hr1; clear hb1 b0 b1 b2 b3 b4 hz hB hr1)
    | (go_at_call 58; refine (rwithin_any _ _ _ _).mono ?_; rintro e w1 ⟨rfl, rfl⟩))
  have hsh : ∃ a cap, v1 = .slice a l.length cap ∧ ∀ k (h : k < l.length), ∃ ga, a = some ⟨ga, 0, none⟩ ∧ w1.cell? ⟨ga, k, none⟩ = some (.int .i64 (sumL (dn r Z) (l.take (k + 1)) : Nat)) := by
    rcases HR.out.two with ⟨rfl, h0⟩ | ⟨ga, ca, rfl, hc⟩
    · have hl0 : l.length = 0 := by rw [← hrl.out, h0]; rfl
      exact ⟨none, 0, by rw [hl0], fun k h => by omega⟩
    · refine ⟨some ⟨ga, 0, none⟩, ca, by rw [hrl.out], fun k h => ⟨ga, rfl, ?_⟩⟩
      rw [hc k (by rw [hrl.out]; exact h)]
      simp [runK]
  obtain ⟨a, cap, hv1, hcl⟩ := hsh
  rw [hv1]
  have HCL := hid hcl
  clear hcl hv1 HR
  go_loop [10] (fun i => ∃ k : Nat, k ≤ l.length ∧ i = .int .i64 (k : Int) ∧ Hid (sumL (dn r Z) (l.take k) < q.toNat)) (fun i => l.length - (intOf i).toNat)
  case atStart => exact ⟨0, Nat.zero_le _, rfl, by show (0 : Nat) < _; omega⟩
  case round =>
    obtain ⟨k, hk, rfl, hlt0⟩ := hrel
    by_cases hlt : k < l.length
    · obtain ⟨ga, rfl, ex⟩ := HCL.out k hlt
      obtain ⟨y, hy⟩ : ∃ y, y = sumL (dn r Z) (l.take (k + 1)) := ⟨_, rfl⟩
      rw [← hy] at ex
      have HY := hid hy
      clear hy
      have hlt' : (k : Int) < l.length := by omega
      by_cases hge : q ≤ (y : Int)
      · have HFA : Hid (FirstAt (dn r Z) l q.toNat (k + 1)) := ⟨by omega, by omega, by rw [← HY.out]; omega, by simpa using hlt0.out⟩
        go_wp2
        go_ret2
        exact ⟨_, 0, rfl, HB.out, .inl ⟨rfl, k + 1, by push_cast; rfl, HFA.out⟩⟩
      · have HN : Hid (sumL (dn r Z) (l.take (k + 1)) < q.toNat) := by rw [← HY.out]; show y < _; omega
        go_wp2
        go_round
        case rel => exact ⟨k + 1, by omega, by go_num, HN⟩
        case measure => simp [intOf]; omega
    · obtain rfl : k = l.length := by omega
      go_wp2
      go_ret2
      exact ⟨0, 8, rfl, HB.out, .inr ⟨rfl, rfl, by have := hlt0.out; rwa [List.take_length] at this⟩⟩
end Go.Proofs.Ytfngmpkceceomaa
