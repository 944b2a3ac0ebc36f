/- Texts of this seat, one behind the other. -/
import Derived.Test.YtedfajokiblfhaaGreatC6
import Derived.Shelf.Abstract
import Derived.Shelf.RegionOpen
import Derived.WalkKit
import Derived.OwnWalkIn
import Derived.TacticsInMore
import Derived.LoopNIn
import Derived.LoopIn
/- Walk of the iterator of package lethal's running sums: contract. -/
namespace Go.Proofs.YtedfajokiblfhaaGreat.Lt
open Go.RowKit Go.Lib Go.Maps Go.Shelf
attribute [local go_sem] Oper.semAt_some

/-- What the iterator hands to a round: how many, and the sum. -/
def encS (x : Nat × Nat) : Array Value := #[.int .i64 (x.1 : Int), .int .i64 (x.2 : Int)]
def seqS (f : Int → Nat) (l : List Int) : List (Nat × Nat) := (List.range l.length).map fun i => (i + 1, sumL f (l.take (i + 1)))
theorem seqS_get (f : Int → Nat) (l : List Int) (k : Nat) (h : k < l.length) : (seqS f l)[k]? = some (k + 1, sumL f (l.take (k + 1))) := by
  unfold seqS; rw [List.getElem?_map, List.getElem?_range h]; rfl
theorem seqS_len (f : Int → Nat) (l : List Int) : (seqS f l).length = l.length := by simp [seqS]

/-- What the iterator stands on behind k rounds: its two boxes, the temperatures, the rates. -/
structure ItS (fn : Fn) (s : ByteArray) (r : Int) (Z : Nat) (d g : Int) (L mb tb rb : Nat) (a : Option Addr) (b o cap n0 : Nat) (l : List Int) (k : Nat) (w : World) : Prop where
  temps : w.cell? ⟨tb, 0, none⟩ = some (.slice a l.length cap)
  addr : l = [] ∨ a = some ⟨b, o, none⟩
  rate : w.cell? ⟨rb, 0, none⟩ = some (.func fn #[] #[.pointer (some ⟨L, 0, none⟩)])
  cells : ∀ j (h : j < l.length), w.cell? ⟨b, o + j, none⟩ = some (.int .i64 l[j])
  rds : RdS s r Z d g L mb k w
  lt : tb < n0 ∧ rb < n0 ∧ L < n0 ∧ mb < n0 ∧ (l ≠ [] → b < n0)
  le : n0 ≤ w.heap.size
theorem MapI.isMap {r : Int} {Z : Nat} {w : World} {mb n : Nat} (h : MapI r Z w mb n) : ∃ o : Obj, w.heap[mb]? = some o ∧ o.isWalk = true := by
  obtain ⟨D, ⟨es, clock, h1, _⟩, _⟩ := h
  exact ⟨_, h1, rfl⟩
theorem MapI.noCell {r : Int} {Z : Nat} {w : World} {mb n a i : Nat} {v : Value} (h : MapI r Z w mb n) (hc : w.cell? ⟨a, i, none⟩ = some v) : some a ≠ some mb := by
  intro e
  cases e
  obtain ⟨D, ⟨es, clock, h1, _⟩, _⟩ := h
  unfold World.cell? at hc
  rw [show w.heap[(⟨mb, i, none⟩ : Addr).block]? = _ from h1] at hc
  cases hc
theorem ItS.call {fn : Fn} {s : ByteArray} {r : Int} {Z : Nat} {d g : Int} {L mb tb rb : Nat} {a : Option Addr} {b o cap n0 k : Nat} {l : List Int} {w w' : World} (h : ItS fn s r Z d g L mb tb rb a b o cap n0 l k w) (hg : w.grownBy w' (some mb)) (hm : MapI r Z w' mb (k + 1)) : ItS fn s r Z d g L mb tb rb a b o cap n0 l (k + 1) w' := by
  have hM := h.rds.2.2
  refine ⟨grown_cell hg (Nat.lt_of_lt_of_le h.lt.1 h.le) (hM.noCell h.temps) h.temps, h.addr, grown_cell hg (Nat.lt_of_lt_of_le h.lt.2.1 h.le) (hM.noCell h.rate) h.rate, fun j hj => ?_, h.rds.next hg hm, h.lt, Nat.le_trans h.le hg.size⟩
  exact grown_cell hg (Nat.lt_of_lt_of_le (h.lt.2.2.2.2 (by rintro rfl; exact absurd hj (Nat.not_lt_zero _))) h.le) (hM.noCell (h.cells j hj)) (h.cells j hj)
theorem ItS.past {fn : Fn} {s : ByteArray} {r : Int} {Z : Nat} {d g : Int} {L mb tb rb : Nat} {a : Option Addr} {b o cap n0 k : Nat} {l : List Int} {w w' : World} (h : ItS fn s r Z d g L mb tb rb a b o cap n0 l k w) (hb : Below n0 w w') : ItS fn s r Z d g L mb tb rb a b o cap n0 l k w' := by
  have hc : ∀ a i v, a < n0 → w.cell? ⟨a, i, none⟩ = some v → w'.cell? ⟨a, i, none⟩ = some v := fun a i v ha e => (hb.cell (p := ⟨a, i, none⟩) ha).trans e
  obtain ⟨⟨c0, c1, c2, c3, c4, c5, c6⟩, hne, D, ⟨es, clock, h1, h2⟩, hg⟩ := h.rds
  refine ⟨hc _ _ _ h.lt.1 h.temps, h.addr, hc _ _ _ h.lt.2.1 h.rate, fun j hj => hc _ _ _ (h.lt.2.2.2.2 (by rintro rfl; exact absurd hj (Nat.not_lt_zero _))) (h.cells j hj), ⟨⟨hc _ _ _ h.lt.2.2.1 c0, hc _ _ _ h.lt.2.2.1 c1, hc _ _ _ h.lt.2.2.1 c2, hc _ _ _ h.lt.2.2.1 c3, hc _ _ _ h.lt.2.2.1 c4, hc _ _ _ h.lt.2.2.1 c5, Nat.lt_of_lt_of_le c6 hb.size⟩, hne, D, ⟨es, clock, (hb.block mb h.lt.2.2.2.1).trans h1, h2⟩, hg⟩, h.lt, Nat.le_trans h.le hb.size⟩

set_option maxHeartbeats 2000000 in
theorem sums_down (l0 : Nat) (s : ByteArray) (r d g : Int) (Z L mb tb rb : Nat) (a : Option Addr) (b o cap n0 B : Nat) (l : List Int) (J Jx : List (Nat × Nat) → World → Prop) (r1 : -200 ≤ r) (r2 : r ≤ 800) (z1 : 1 ≤ Z) (z2 : Z ≤ 60)
    (Kp : World → World → Prop) (hKp : ∀ k W W', ItS (.func 131) s r Z d g L mb tb rb a b o cap n0 l k W → Kp W W' → ItS (.func 131) s r Z d g L mb tb rb a b o cap n0 l k W') (hJ : AbM mb B J) (hY : ∀ k x W1, (seqS (dn r Z) l)[k]? = some x → J ((seqS (dn r Z) l).take k) W1 → YieldAt Fence.wide 8 Tryz.prog l0 (encS x) W1 fun e W' =>
      (e = .returned (.bool true) ∧ J ((seqS (dn r Z) l).take (k + 1)) W' ∧ Kp W1 W') ∨ (e = .returned (.bool false) ∧ Jx ((seqS (dn r Z) l).take (k + 1)) W'))
    (W : World) (hI : ItS (.func 131) s r Z d g L mb tb rb a b o cap n0 l 0 W) (h0 : J [] W) (hlen : l.length ≤ 10000) (ho : okL l = true) :
    CallsIn Fence.wide 9 Tryz.prog 152 #[.func (.yield l0) #[] #[], .pointer (some ⟨tb, 0, none⟩), .pointer (some ⟨rb, 0, none⟩)] W fun e W' => (∃ v, e = .returned v) ∧ (J (seqS (dn r Z) l) W' ∨ ∃ k, Jx ((seqS (dn r Z) l).take k) W') := by
  have hct := hI.temps
  have hcr := hI.rate
  have HI := hid hI; have HY := hid hY; have HJ := hid hJ; have HO := hid ho; have H0 := hid h0; have HKP := hid hKp
  clear hI hY hJ ho h0 hKp
  refine callsIn_of_wp Tryz.func152 rfl trivial ?_ rfl
  simp only [Tryz.ntmps152, List.size_toArray, List.length_cons, List.length_nil, Nat.reduceAdd, Nat.reduceSub, Array.replicate_succ, Array.replicate_zero, List.push_toArray, List.append_toArray, List.nil_append, List.cons_append]
  gi_wp2
  gi_loopw [4, 9] (fun c i wr => ∃ k c0 : Nat, k ≤ l.length ∧ i = .int .i64 (k : Int) ∧ c = .int .i64 (c0 : Int) ∧ Hid (c0 = sumL (dn r Z) (l.take k)) ∧ Hid (ItS (.func 131) s r Z d g L mb tb rb a b o cap n0 l k wr) ∧ Hid (J ((seqS (dn r Z) l).take k) wr)) (fun _ i _ => l.length - (intOf i).toNat)
  case atStart => exact ⟨0, 0, Nat.zero_le _, rfl, rfl, rfl, HI, H0⟩
  case round =>
    obtain ⟨k, c0, hk, rfl, rfl, hc0, hS, hJk⟩ := hrel
    have hcs : c0 ≤ 1000000000000000000 := by rw [hc0.out]; exact sumL_le _ _
    clear hct hcr HI H0
    have hct := hS.out.temps
    have hcr := hS.out.rate
    by_cases hlt : k < l.length
    · obtain rfl : a = some ⟨b, o, none⟩ := hS.out.addr.resolve_left (by rintro rfl; exact absurd hlt (Nat.not_lt_zero _))
      have ex := hS.out.cells k hlt
      have hsum := sumL_succ (dn r Z) l k hlt
      rw [← hc0.out] at hsum
      have hot := okL_all HO.out k hlt
      have HX := seqS_get (dn r Z) l k hlt
      rw [hsum] at HX
      have HSUM := hid hsum; have HXX := hid HX
      clear hsum HX
      generalize l[k] = t at ex hot HSUM HXX
      have hot' : -50000 ≤ t ∧ t ≤ 200000 := by simpa [okT] using hot
      obtain ⟨t1, t2⟩ := hot'
      have hx := dn_le r Z t (by omega)
      obtain ⟨x, hX⟩ : ∃ x, x = dn r Z t := ⟨_, rfl⟩
      rw [← hX] at hx HSUM HXX
      have HXE := hid hX; clear hX hot
      have hlt' : (k : Int) < l.length := by omega
      gi_wp2
      refine ⟨trivial, ?_⟩
      refine (callsIn_wide.2 (rd1_any s r d g t Z L mb k _ r1 r2 z1 z2 t1 t2 (by omega) hS.out.rds)).mono ?_
      rintro e W1 ⟨rfl, hg1, hM1⟩
      rw [← HXE.out]
      have HS1 := hid (hS.out.call hg1 hM1)
      have hJ1 := HJ.out _ _ _ (some mb) hJk.out hg1 (fun j e => by cases e; exact ⟨.inl rfl, hS.out.rds.2.2.isMap⟩)
      obtain ⟨fn, tmps, assign, body, hy, hR⟩ := HY.out k (k + 1, cutN c0 x) W1 HXX.out hJ1
      simp only [encS, Int.natCast_add, Int.natCast_one] at hy
      have HR := hid hR
      clear hR hJ1 hg1 hM1
      by_cases hle : (c0 : Int) + x ≤ 1000000000000000000
      · have HC : Hid (((cutN c0 x : Nat) : Int) = (c0 : Int) + x) := by unfold Hid cutN; omega
        rw [HC.out] at hy
        gi_wp2
        refine HR.out.mono ?_
        rintro e W3 (⟨rfl, hJ3, hk3⟩ | ⟨rfl, hJx3⟩)
        · have HS3 := hid (HKP.out _ _ _ HS1.out hk3)
          have HJ3 := hid hJ3
          clear hJ3 hk3
          gi_wp2
          go_roundw
          case rel => exact ⟨k + 1, cutN c0 x, by omega, by go_num, by rw [HC.out], HSUM.out.symm, HS3, HJ3⟩
          case measure => simp [intOf]; omega
        · have HX3 := hid hJx3
          clear hJx3
          gi_wp2
          refine bodyPost_ret (results_none rfl _ _ _) rfl ?_
          exact ⟨⟨_, rfl⟩, .inr ⟨k + 1, HX3.out⟩⟩
      · have HC : Hid (((cutN c0 x : Nat) : Int) = 1000000000000000000) := by unfold Hid cutN; omega
        rw [HC.out] at hy
        gi_wp2
        refine HR.out.mono ?_
        rintro e W3 (⟨rfl, hJ3, hk3⟩ | ⟨rfl, hJx3⟩)
        · have HS3 := hid (HKP.out _ _ _ HS1.out hk3)
          have HJ3 := hid hJ3
          clear hJ3 hk3
          gi_wp2
          go_roundw
          case rel => exact ⟨k + 1, cutN c0 x, by omega, by go_num, by rw [HC.out], HSUM.out.symm, HS3, HJ3⟩
          case measure => simp [intOf]; omega
        · have HX3 := hid hJx3
          clear hJx3
          gi_wp2
          refine bodyPost_ret (results_none rfl _ _ _) rfl ?_
          exact ⟨⟨_, rfl⟩, .inr ⟨k + 1, HX3.out⟩⟩
    · obtain rfl : k = l.length := by omega
      gi_wp2
      go_end0
      exact ⟨⟨_, rfl⟩, .inl (by have := hJk.out; rwa [List.take_of_length_le (by rw [seqS_len]; exact Nat.le_refl _)] at this)⟩
end Go.Proofs.YtedfajokiblfhaaGreat.Lt

/- Walk of total of package lethal: contract. -/
namespace Go.Proofs.YtedfajokiblfhaaGreat.Lt
open Go.RowKit Go.Lib Go.Maps Go.Shelf
attribute [local go_sem] Oper.semAt_some

set_option maxHeartbeats 1000000 in
theorem sums_make (a : Option Addr) (n cap : Nat) (fn : Fn) (cs : Array Value) (w : World) : Calls Tryz.prog 130 #[.slice a n cap, .func fn #[] cs] w fun e w' => e = .returned (.func (.func 152) #[] #[.pointer (some ⟨w.heap.size, 0, none⟩), .pointer (some ⟨w.heap.size + 1, 0, none⟩)]) ∧ w' = (w.alloc (.cells #[.slice a n cap] 28)).alloc (.cells #[.func fn #[] cs] 61) := by
  go_enter Tryz.func130, Tryz.ntmps130
  go_wp2
  go_ret
  exact ⟨rfl, rfl⟩

/-- The last sum. -/
def lastS (xs : List (Nat × Nat)) : Nat := match xs.getLast? with | some x => x.2 | none => 0
theorem lastS_succ {xs : List (Nat × Nat)} {k : Nat} {x : Nat × Nat} (h : xs[k]? = some x) : lastS (xs.take (k + 1)) = x.2 := by
  unfold lastS; rw [List.take_add_one, h]; simp
theorem lastS_all (f : Int → Nat) (l : List Int) : lastS (seqS f l) = sumL f l := by
  rcases Nat.eq_zero_or_pos l.length with h | h
  · rw [List.length_eq_zero_iff.1 h]; rfl
  · obtain ⟨k, hk⟩ : ∃ k, l.length = k + 1 := ⟨l.length - 1, by omega⟩
    have h1 := lastS_succ (seqS_get f l k (by omega))
    rw [List.take_of_length_le (by rw [seqS_len]; omega), List.take_of_length_le (by omega)] at h1
    exact h1
/-- What a round of total's body keeps: every block of the n0 first but its own. -/
def KpT (n0 x0 : Nat) (W W' : World) : Prop := W.heap.size ≤ W'.heap.size ∧ ∀ j, j < n0 → j ≠ x0 → W'.heap[j]? = W.heap[j]?
theorem KpT.trans {n0 x0 : Nat} {A B C : World} (h : KpT n0 x0 A B) (k : KpT n0 x0 B C) : KpT n0 x0 A C := ⟨Nat.le_trans h.1 k.1, fun j h1 h2 => (k.2 j h1 h2).trans (h.2 j h1 h2)⟩
theorem KpT.put {n0 x0 l : Nat} {W : World} {o o' : Obj} (hl : n0 ≤ l) (_h : W.heap[l]? = some o) : KpT n0 x0 W (W.putObj l o') :=
  ⟨by simp, fun j h1 _ => World.putObj_heap_other (by omega)⟩
theorem KpT.cell {n0 x0 a i : Nat} {W W' : World} {v : Value} (h : KpT n0 x0 W W') (ha : a < n0) (hne : a ≠ x0) (hc : W.cell? ⟨a, i, none⟩ = some v) : W'.cell? ⟨a, i, none⟩ = some v := by
  rw [World.cell?_of_block (a := ⟨a, i, none⟩) (h.2 a ha hne)]; exact hc
theorem ItS.keep {fn : Fn} {s : ByteArray} {r : Int} {Z : Nat} {d g : Int} {L mb tb rb : Nat} {a : Option Addr} {b o cap n0 k x0 : Nat} {l : List Int} {w w' : World} (h : ItS fn s r Z d g L mb tb rb a b o cap n0 l k w) (hb : KpT n0 x0 w w')
    (hx : tb ≠ x0 ∧ rb ≠ x0 ∧ L ≠ x0 ∧ mb ≠ x0 ∧ (l ≠ [] → b ≠ x0)) : ItS fn s r Z d g L mb tb rb a b o cap n0 l k w' := by
  obtain ⟨x1, x2, x3, x4, x5⟩ := hx
  obtain ⟨⟨c0, c1, c2, c3, c4, c5, c6⟩, hne, D, ⟨es, clock, h1, h2⟩, hg⟩ := h.rds
  refine ⟨hb.cell h.lt.1 x1 h.temps, h.addr, hb.cell h.lt.2.1 x2 h.rate, fun j hj => ?_, ⟨⟨hb.cell h.lt.2.2.1 x3 c0, hb.cell h.lt.2.2.1 x3 c1, hb.cell h.lt.2.2.1 x3 c2, hb.cell h.lt.2.2.1 x3 c3, hb.cell h.lt.2.2.1 x3 c4, hb.cell h.lt.2.2.1 x3 c5, Nat.lt_of_lt_of_le c6 hb.1⟩, hne, D, ⟨es, clock, (hb.2 mb h.lt.2.2.2.1 x4).trans h1, h2⟩, hg⟩, h.lt, Nat.le_trans h.le hb.1⟩
  have hl : l ≠ [] := by rintro rfl; exact absurd hj (Nat.not_lt_zero _)
  exact hb.cell (h.lt.2.2.2.2 hl) (x5 hl) (h.cells j hj)
theorem grown_more {w W W' : World} {mb : Nat} {row : Option Nat} (h : w.grownBy W (some mb)) (hg : W.grownBy W' row) (hr : ∀ j, row = some j → j = mb ∨ w.heap.size ≤ j) : w.grownBy W' (some mb) :=
  ⟨hg.os.trans h.os, hg.tape.trans h.tape, hg.output.trans h.output, Nat.le_trans h.size hg.size, fun k hk hne => by
    refine (hg.block k (Nat.lt_of_lt_of_le hk h.size) (fun e => ?_)).trans (h.block k hk hne)
    rcases hr k e.symm with rfl | h1
    · exact hne rfl
    · omega⟩

theorem total_start (fn : Fn) (s : ByteArray) (r d g : Int) (Z L mb : Nat) (a : Option Addr) (b o cap : Nat) (l : List Int) (w : World) (T1 T2 T3 : TypeId)
    (ha : l = [] ∨ a = some ⟨b, o, none⟩) (hc : ∀ j (h : j < l.length), w.cell? ⟨b, o + j, none⟩ = some (.int .i64 l[j])) (hb : l ≠ [] → b < w.heap.size) (hS : RdS s r Z d g L mb 0 w) :
    ∃ W0, ((w.alloc (.cells #[.int .i64 0] T1)).alloc (.cells #[.slice a l.length cap] T2)).alloc (.cells #[.func fn #[] #[.pointer (some ⟨L, 0, none⟩)]] T3) = W0 ∧ W0.heap.size = w.heap.size + 3 ∧
      W0.heap[w.heap.size]? = some (.cells #[.int .i64 0] T1 (0, 0)) ∧ ItS fn s r Z d g L mb (w.heap.size + 1) (w.heap.size + 1 + 1) a b o cap (w.heap.size + 3) l 0 W0 ∧ w.grownBy W0 (some mb) := by
  refine ⟨_, rfl, by simp, ?_, ?_, ?_⟩
  · rw [Below.heap_alloc _ _ _ (by simp; omega), Below.heap_alloc _ _ _ (by simp)]
    exact heap_alloc_new w _
  · have hLlt : L < w.heap.size := hS.1.2.2.2.2.2.2
    have hmlt : mb < w.heap.size := hS.2.2.lt
    have hB : Below w.heap.size w (((w.alloc (.cells #[.int .i64 0] T1)).alloc (.cells #[.slice a l.length cap] T2)).alloc (.cells #[.func fn #[] #[.pointer (some ⟨L, 0, none⟩)]] T3)) := (((Below.refl _ _).alloc (Nat.le_refl _) _).alloc (by simp) _).alloc (by simp; omega) _
    have c1 := cell_alloc_new (w.alloc (.cells #[.int .i64 0] T1)) #[.slice a l.length cap] T2 (0, 0) 0
    have c2 := cell_alloc_new ((w.alloc (.cells #[.int .i64 0] T1)).alloc (.cells #[.slice a l.length cap] T2)) #[.func fn #[] #[.pointer (some ⟨L, 0, none⟩)]] T3 (0, 0) 0
    rw [alloc_size] at c1
    rw [alloc_size, alloc_size] at c2
    refine ⟨keep_cell (Below.alloc (Below.refl _ _) (Nat.le_refl _) _) c1, ha, c2, fun j hj => keep_cell hB (hc j hj), hS.kept (row := none) (gbelow hB) (by simp) (by simp), ⟨by omega, by omega, by omega, by omega, fun h => by have := hb h; omega⟩, by simp⟩
  · exact gbelow ((((Below.refl _ _).alloc (Nat.le_refl _) _).alloc (by simp) _).alloc (by simp; omega) _)
theorem sums_seq (s : ByteArray) (r d g : Int) (Z L mb tb rb x0 : Nat) (a : Option Addr) (b o cap n0 : Nat) (l : List Int) (w0 : World) (r1 : -200 ≤ r) (r2 : r ≤ 800) (z1 : 1 ≤ Z) (z2 : Z ≤ 60) (hlen : l.length ≤ 10000) (ho : okL l = true)
    (hI : ItS (.func 131) s r Z d g L mb tb rb a b o cap n0 l 0 w0) (hx : tb ≠ x0 ∧ rb ≠ x0 ∧ L ≠ x0 ∧ mb ≠ x0 ∧ (l ≠ [] → b ≠ x0)) :
    SeqM Fence.wide 9 Tryz.prog 152 #[.pointer (some ⟨tb, 0, none⟩), .pointer (some ⟨rb, 0, none⟩)] encS (KpT n0 x0) mb (seqS (dn r Z) l) w0 := fun l0 J Jx W hW hJ _ hY h0 =>
  sums_down l0 s r d g Z L mb tb rb a b o cap n0 W.heap.size l J Jx r1 r2 z1 z2 (KpT n0 x0) (fun _ _ _ h hk => h.keep hk hx) hJ hY W (hI.past (hW.mono hI.le)) h0 hlen ho

set_option maxHeartbeats 4000000 in
theorem total_down (s : ByteArray) (r d g : Int) (Z L mb : Nat) (a : Option Addr) (b o cap : Nat) (l : List Int) (w : World) (r1 : -200 ≤ r) (r2 : r ≤ 800) (z1 : 1 ≤ Z) (z2 : Z ≤ 60) (hlen : l.length ≤ 10000) (ho : okL l = true)
    (ha : l = [] ∨ a = some ⟨b, o, none⟩) (hc : ∀ j (h : j < l.length), w.cell? ⟨b, o + j, none⟩ = some (.int .i64 l[j])) (hb : l ≠ [] → b < w.heap.size) (hS : RdS s r Z d g L mb 0 w) :
    Calls Tryz.prog 91 #[.slice a l.length cap, .func (.func 131) #[] #[.pointer (some ⟨L, 0, none⟩)]] w fun e w' => e = .returned (.int .i64 (sumL (dn r Z) l : Nat)) ∧ w.grownBy w' (some mb) := by
  have hLlt : L < w.heap.size := hS.1.2.2.2.2.2.2
  have hmlt : mb < w.heap.size := hS.2.2.lt
  obtain ⟨W0, hW0, hsz, hbx, hI, hG⟩ := total_start (.func 131) s r d g Z L mb a b o cap l w 3 28 61 ha hc hb hS
  have HW := hid hW0
  refine (callsIn_wide (n := 10)).1 ?_
  refine callsIn_of_wp_marks Tryz.func91 rfl trivial ?_ rfl
  simp only [Tryz.ntmps91, List.size_toArray, List.length_cons, List.length_nil, Nat.reduceAdd, Nat.reduceSub, Array.replicate_succ, Array.replicate_zero, List.push_toArray, List.append_toArray, List.nil_append, List.cons_append]
  gi_wp2
  refine ⟨trivial, ?_⟩
  refine (callsIn_wide.2 (sums_make a l.length cap _ _ _)).mono ?_
  rintro e w2 ⟨rfl, rfl⟩
  gi_wp2
  clear hW0 HW
  refine range_map (F := Fence.wide) (n := 10) (mb := mb) (xs := seqS (dn r Z) l) (encs := encS) (Kp := KpT (w.heap.size + 3) w.heap.size) (w0 := W0) rfl (by omega) (gf := 152) (lb := #[.pointer (some ⟨w.heap.size + 1, 0, none⟩), .pointer (some ⟨w.heap.size + 1 + 1, 0, none⟩)]) rfl trivial (enters_of Tryz.func152 (by kernel_rfl) rfl)
    (sums_seq s r d g Z L mb _ _ w.heap.size a b o cap _ l W0 r1 r2 z1 z2 hlen ho hI ⟨by omega, by omega, by omega, by omega, fun h => by have := hb h; omega⟩)
    (fun h k => h.trans k) (fun W l o o' hl h _ _ => KpT.put (by omega) h) (Below.refl _ _) (fun _ => rfl)
    (fun pre W => W.heap[w.heap.size]? = some (.cells #[.int .i64 (lastS pre : Nat)] 3 (0, 0)) ∧ w.grownBy W (some mb)) (fun _ _ => False) ?hI ?hIx ⟨hbx, hG⟩
    (fun x => { tmps := #[.slice a l.length cap, .func (.func 131) #[] #[.pointer (some ⟨L, 0, none⟩)], undef, undef, .int .i64 0, .pointer (some ⟨w.heap.size, 0, none⟩), undef, .int .i64 (x.2 : Int), .slice a l.length cap, .func (.func 131) #[] #[.pointer (some ⟨L, 0, none⟩)],
      .func (.func 152) #[] #[.pointer (some ⟨w.heap.size + 1, 0, none⟩), .pointer (some ⟨w.heap.size + 1 + 1, 0, none⟩)], .int .i64 (x.1 : Int), .int .i64 (x.2 : Int), undef, undef], defers := [] }) ?assign ?body ?done ?stop
  case assign =>
    intro l x W K hK
    simp only [encS]
    gi_wp2
    exact hK
  case body =>
    rintro l' k x W hx ⟨hcell, hg⟩
    have c0 := blk_cell (i := 0) hcell
    have f0 := blk_free (i := 0) hcell
    have hbl := lt_of_block hcell
    have HC := hid hcell; have HG := hid hg
    clear hcell hg
    gi_wp2
    refine ⟨(KeepsOthers.setCell _ _ _).from _, ⟨by rw [size_set]; exact Nat.le_refl _, fun j _ h2 => Below.heap_setCell _ _ _ _ h2⟩, ?_, ?_⟩
    · rw [lastS_succ hx]; exact blk_set HC.out
    · exact grown_more HG.out (grownBy_setCell' W w.heap.size _) (fun j e => by cases e; exact .inr (Nat.le_refl _))
  case done =>
    rintro D W hD ⟨hcell, hg⟩ hK
    rw [lastS_all] at hcell
    have c0 := blk_cell (i := 0) hcell
    have f0 := blk_free (i := 0) hcell
    have hbl := lt_of_block hcell
    have HG := hid hg
    clear hcell hg
    gi_wp2
    refine ⟨by simp, .inl ⟨_, _, rfl, run_takeDeferred hK, ?_⟩⟩
    exact ⟨_, results_tmp rfl _ _ _, rfl, grown_more HG.out (grownBy_putObj' W D _) (fun j e => by cases e; exact .inr (by omega))⟩
  case stop => rintro D k W hD h; exact h.elim
  case hI =>
    rintro pre A B' row ⟨h1, h2⟩ hgr hr
    refine ⟨(hgr.block _ (lt_of_block h1) (fun e => ?_)).trans h1, grown_more h2 hgr (fun j e => ?_)⟩
    · rcases (hr _ e.symm).1 with h | h <;> omega
    · rcases (hr j e).1 with h | h
      · exact .inl h
      · exact .inr (by omega)
  case hIx => rintro pre A B' row h; exact h.elim

end Go.Proofs.YtedfajokiblfhaaGreat.Lt
