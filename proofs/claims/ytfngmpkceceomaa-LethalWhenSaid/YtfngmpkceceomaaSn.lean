/- Walk of the iterator of package lethal's running sums: contract. -/
import Derived.Test.YtfngmpkceceomaaSi
import Derived.Test.YtfngmpkceceomaaSm
import Derived.Shelf.Abstract
import Derived.Shelf.RegionOpen
import Derived.WalkKit
import Derived.OwnWalkIn
import Derived.TacticsInMore
import Derived.LoopNIn
import Derived.LoopIn
namespace Go.Proofs.Ytfngmpkceceomaa
open Go.RowKit Go.Lib Go.Maps Go.Shelf
attribute [local go_sem] Oper.semAt_some

/-- What the iterator hands to a round: how many, and the sum. -/
def encS (x : Nat × Nat) : Array Value := #[.int .i64 (x.1 : Int), .int .i64 (x.2 : Int)]
def seqS (f : Int → Nat) (l : List Int) : List (Nat × Nat) := (List.range l.length).map fun i => (i + 1, sumL f (l.take (i + 1)))
theorem seqS_get (f : Int → Nat) (l : List Int) (k : Nat) (h : k < l.length) : (seqS f l)[k]? = some (k + 1, sumL f (l.take (k + 1))) := by
  unfold seqS; rw [List.getElem?_map, List.getElem?_range h]; rfl
theorem seqS_len (f : Int → Nat) (l : List Int) : (seqS f l).length = l.length := by simp [seqS]

/-- What the iterator stands on behind k rounds: its two boxes, the temperatures, the rates. -/
structure ItS (fn : Fn) (s : ByteArray) (r : Int) (Z : Nat) (d g : Int) (L mb tb rb : Nat) (a : Option Addr) (b o cap n0 : Nat) (l : List Int) (k : Nat) (w : World) : Prop where
  temps : w.cell? ⟨tb, 0, none⟩ = some (.slice a l.length cap)
  addr : l = [] ∨ a = some ⟨b, o, none⟩
  rate : w.cell? ⟨rb, 0, none⟩ = some (.func fn #[] #[.pointer (some ⟨L, 0, none⟩)])
  cells : ∀ j (h : j < l.length), w.cell? ⟨b, o + j, none⟩ = some (.int .i64 l[j])
  rds : RdS s r Z d g L mb k w
  lt : tb < n0 ∧ rb < n0 ∧ L < n0 ∧ mb < n0 ∧ (l ≠ [] → b < n0)
  le : n0 ≤ w.heap.size
theorem MapI.isMap {r : Int} {Z : Nat} {w : World} {mb n : Nat} (h : MapI r Z w mb n) : ∃ o : Obj, w.heap[mb]? = some o ∧ o.isWalk = true := by
  obtain ⟨D, ⟨es, clock, h1, _⟩, _⟩ := h
  exact ⟨_, h1, rfl⟩
theorem MapI.noCell {r : Int} {Z : Nat} {w : World} {mb n a i : Nat} {v : Value} (h : MapI r Z w mb n) (hc : w.cell? ⟨a, i, none⟩ = some v) : some a ≠ some mb := by
  intro e
  cases e
  obtain ⟨D, ⟨es, clock, h1, _⟩, _⟩ := h
  unfold World.cell? at hc
  rw [show w.heap[(⟨mb, i, none⟩ : Addr).block]? = _ from h1] at hc
  cases hc
theorem ItS.call {fn : Fn} {s : ByteArray} {r : Int} {Z : Nat} {d g : Int} {L mb tb rb : Nat} {a : Option Addr} {b o cap n0 k : Nat} {l : List Int} {w w' : World} (h : ItS fn s r Z d g L mb tb rb a b o cap n0 l k w) (hg : w.grownBy w' (some mb)) (hm : MapI r Z w' mb (k + 1)) : ItS fn s r Z d g L mb tb rb a b o cap n0 l (k + 1) w' := by
  have hM := h.rds.2.2
  refine ⟨grown_cell hg (Nat.lt_of_lt_of_le h.lt.1 h.le) (hM.noCell h.temps) h.temps, h.addr, grown_cell hg (Nat.lt_of_lt_of_le h.lt.2.1 h.le) (hM.noCell h.rate) h.rate, fun j hj => ?_, h.rds.next hg hm, h.lt, Nat.le_trans h.le hg.size⟩
  exact grown_cell hg (Nat.lt_of_lt_of_le (h.lt.2.2.2.2 (by rintro rfl; exact absurd hj (Nat.not_lt_zero _))) h.le) (hM.noCell (h.cells j hj)) (h.cells j hj)
theorem ItS.past {fn : Fn} {s : ByteArray} {r : Int} {Z : Nat} {d g : Int} {L mb tb rb : Nat} {a : Option Addr} {b o cap n0 k : Nat} {l : List Int} {w w' : World} (h : ItS fn s r Z d g L mb tb rb a b o cap n0 l k w) (hb : Below n0 w w') : ItS fn s r Z d g L mb tb rb a b o cap n0 l k w' := by
  have hc : ∀ a i v, a < n0 → w.cell? ⟨a, i, none⟩ = some v → w'.cell? ⟨a, i, none⟩ = some v := fun a i v ha e => (hb.cell (p := ⟨a, i, none⟩) ha).trans e
  obtain ⟨⟨c0, c1, c2, c3, c4, c5, c6⟩, hne, D, ⟨es, clock, h1, h2⟩, hg⟩ := h.rds
  refine ⟨hc _ _ _ h.lt.1 h.temps, h.addr, hc _ _ _ h.lt.2.1 h.rate, fun j hj => hc _ _ _ (h.lt.2.2.2.2 (by rintro rfl; exact absurd hj (Nat.not_lt_zero _))) (h.cells j hj), ⟨⟨hc _ _ _ h.lt.2.2.1 c0, hc _ _ _ h.lt.2.2.1 c1, hc _ _ _ h.lt.2.2.1 c2, hc _ _ _ h.lt.2.2.1 c3, hc _ _ _ h.lt.2.2.1 c4, hc _ _ _ h.lt.2.2.1 c5, Nat.lt_of_lt_of_le c6 hb.size⟩, hne, D, ⟨es, clock, (hb.block mb h.lt.2.2.2.1).trans h1, h2⟩, hg⟩, h.lt, Nat.le_trans h.le hb.size⟩

set_option maxHeartbeats 2000000 in
theorem sums_down (l0 : Nat) (s : ByteArray) (r d g : Int) (Z L mb tb rb : Nat) (a : Option Addr) (b o cap n0 B : Nat) (l : List Int) (J Jx : List (Nat × Nat) → World → Prop) (r1 : -200 ≤ r) (r2 : r ≤ 800) (z1 : 1 ≤ Z) (z2 : Z ≤ 60)
    (Kp : World → World → Prop) (hKp : ∀ k W W', ItS (.func 87) s r Z d g L mb tb rb a b o cap n0 l k W → Kp W W' → ItS (.func 87) s r Z d g L mb tb rb a b o cap n0 l k W') (hJ : AbM mb B J) (hY : ∀ k x W1, (seqS (dn r Z) l)[k]? = some x → J ((seqS (dn r Z) l).take k) W1 → YieldAt Fence.wide 8 Try.prog l0 (encS x) W1 fun e W' =>
      (e = .returned (.bool true) ∧ J ((seqS (dn r Z) l).take (k + 1)) W' ∧ Kp W1 W') ∨ (e = .returned (.bool false) ∧ Jx ((seqS (dn r Z) l).take (k + 1)) W'))
    (W : World) (hI : ItS (.func 87) s r Z d g L mb tb rb a b o cap n0 l 0 W) (h0 : J [] W) (hlen : l.length ≤ 10000) (ho : okL l = true) :
    CallsIn Fence.wide 9 Try.prog 91 #[.func (.yield l0) #[] #[], .pointer (some ⟨tb, 0, none⟩), .pointer (some ⟨rb, 0, none⟩)] W fun e W' => (∃ v, e = .returned v) ∧ (J (seqS (dn r Z) l) W' ∨ ∃ k, Jx ((seqS (dn r Z) l).take k) W') := by
  have hct := hI.temps
  have hcr := hI.rate
  have HI := hid hI; have HY := hid hY; have HJ := hid hJ; have HO := hid ho; have H0 := hid h0; have HKP := hid hKp
  clear hI hY hJ ho h0 hKp
  refine callsIn_of_wp Try.func91 rfl trivial ?_ rfl
  simp only [Try.ntmps91, List.size_toArray, List.length_cons, List.length_nil, Nat.reduceAdd, Nat.reduceSub, Array.replicate_succ, Array.replicate_zero, List.push_toArray, List.append_toArray, List.nil_append, List.cons_append]
  gi_wp2
  gi_loopw [4, 9] (fun c i wr => ∃ k c0 : Nat, k ≤ l.length ∧ i = .int .i64 (k : Int) ∧ c = .int .i64 (c0 : Int) ∧ Hid (c0 = sumL (dn r Z) (l.take k)) ∧ Hid (ItS (.func 87) s r Z d g L mb tb rb a b o cap n0 l k wr) ∧ Hid (J ((seqS (dn r Z) l).take k) wr)) (fun _ i _ => l.length - (intOf i).toNat)
  case atStart => exact ⟨0, 0, Nat.zero_le _, rfl, rfl, rfl, HI, H0⟩
  case round =>
    obtain ⟨k, c0, hk, rfl, rfl, hc0, hS, hJk⟩ := hrel
    have hcs : c0 ≤ 1000000000000000000 := by rw [hc0.out]; exact sumL_le _ _
    clear hct hcr HI H0
    have hct := hS.out.temps
    have hcr := hS.out.rate
    by_cases hlt : k < l.length
    · obtain rfl : a = some ⟨b, o, none⟩ := hS.out.addr.resolve_left (by rintro rfl; exact absurd hlt (Nat.not_lt_zero _))
      have ex := hS.out.cells k hlt
      have hsum := sumL_succ (dn r Z) l k hlt
      rw [← hc0.out] at hsum
      have hot := okL_all HO.out k hlt
      have HX := seqS_get (dn r Z) l k hlt
      rw [hsum] at HX
      have HSUM := hid hsum; have HXX := hid HX
      clear hsum HX
      generalize l[k] = t at ex hot HSUM HXX
      have hot' : -50000 ≤ t ∧ t ≤ 200000 := by simpa [okT] using hot
      obtain ⟨t1, t2⟩ := hot'
      have hx := dn_le r Z t (by omega)
      obtain ⟨x, hX⟩ : ∃ x, x = dn r Z t := ⟨_, rfl⟩
      rw [← hX] at hx HSUM HXX
      have HXE := hid hX; clear hX hot
      have hlt' : (k : Int) < l.length := by omega
      gi_wp2
      refine ⟨trivial, ?_⟩
      refine (callsIn_wide.2 (rd1_any s r d g t Z L mb k _ r1 r2 z1 z2 t1 t2 (by omega) hS.out.rds)).mono ?_
      rintro e W1 ⟨rfl, hg1, hM1⟩
      rw [← HXE.out]
      have HS1 := hid (hS.out.call hg1 hM1)
      have hJ1 := HJ.out _ _ _ (some mb) hJk.out hg1 (fun j e => by cases e; exact ⟨.inl rfl, hS.out.rds.2.2.isMap⟩)
      obtain ⟨fn, tmps, assign, body, hy, hR⟩ := HY.out k (k + 1, cutN c0 x) W1 HXX.out hJ1
      simp only [encS, Int.natCast_add, Int.natCast_one] at hy
      have HR := hid hR
      clear hR hJ1 hg1 hM1
      by_cases hle : (c0 : Int) + x ≤ 1000000000000000000
      · have HC : Hid (((cutN c0 x : Nat) : Int) = (c0 : Int) + x) := by unfold Hid cutN; omega
        rw [HC.out] at hy
        gi_wp2
        refine HR.out.mono ?_
        rintro e W3 (⟨rfl, hJ3, hk3⟩ | ⟨rfl, hJx3⟩)
        · have HS3 := hid (HKP.out _ _ _ HS1.out hk3)
          have HJ3 := hid hJ3
          clear hJ3 hk3
          gi_wp2
          go_roundw
          case rel => exact ⟨k + 1, cutN c0 x, by omega, by go_num, by rw [HC.out], HSUM.out.symm, HS3, HJ3⟩
          case measure => simp [intOf]; omega
        · have HX3 := hid hJx3
          clear hJx3
          gi_wp2
          refine bodyPost_ret (results_none rfl _ _ _) rfl ?_
          exact ⟨⟨_, rfl⟩, .inr ⟨k + 1, HX3.out⟩⟩
      · have HC : Hid (((cutN c0 x : Nat) : Int) = 1000000000000000000) := by unfold Hid cutN; omega
        rw [HC.out] at hy
        gi_wp2
        refine HR.out.mono ?_
        rintro e W3 (⟨rfl, hJ3, hk3⟩ | ⟨rfl, hJx3⟩)
        · have HS3 := hid (HKP.out _ _ _ HS1.out hk3)
          have HJ3 := hid hJ3
          clear hJ3 hk3
          gi_wp2
          go_roundw
          case rel => exact ⟨k + 1, cutN c0 x, by omega, by go_num, by rw [HC.out], HSUM.out.symm, HS3, HJ3⟩
          case measure => simp [intOf]; omega
        · have HX3 := hid hJx3
          clear hJx3
          gi_wp2
          refine bodyPost_ret (results_none rfl _ _ _) rfl ?_
          exact ⟨⟨_, rfl⟩, .inr ⟨k + 1, HX3.out⟩⟩
    · obtain rfl : k = l.length := by omega
      gi_wp2
      go_end0
      exact ⟨⟨_, rfl⟩, .inl (by have := hJk.out; rwa [List.take_of_length_le (by rw [seqS_len]; exact Nat.le_refl _)] at this)⟩
set_option maxHeartbeats 2000000 in
theorem sums_up (l0 : Nat) (s : ByteArray) (r d g : Int) (Z L mb tb rb : Nat) (a : Option Addr) (b o cap n0 B : Nat) (l : List Int) (J Jx : List (Nat × Nat) → World → Prop) (r1 : -200 ≤ r) (r2 : r ≤ 800) (z1 : 1 ≤ Z) (z2 : Z ≤ 60)
    (Kp : World → World → Prop) (hKp : ∀ k W W', ItS (.func 88) s r Z d g L mb tb rb a b o cap n0 l k W → Kp W W' → ItS (.func 88) s r Z d g L mb tb rb a b o cap n0 l k W') (hJ : AbM mb B J) (hY : ∀ k x W1, (seqS (up r Z) l)[k]? = some x → J ((seqS (up r Z) l).take k) W1 → YieldAt Fence.wide 8 Try.prog l0 (encS x) W1 fun e W' =>
      (e = .returned (.bool true) ∧ J ((seqS (up r Z) l).take (k + 1)) W' ∧ Kp W1 W') ∨ (e = .returned (.bool false) ∧ Jx ((seqS (up r Z) l).take (k + 1)) W'))
    (W : World) (hI : ItS (.func 88) s r Z d g L mb tb rb a b o cap n0 l 0 W) (h0 : J [] W) (hlen : l.length ≤ 10000) (ho : okL l = true) :
    CallsIn Fence.wide 9 Try.prog 91 #[.func (.yield l0) #[] #[], .pointer (some ⟨tb, 0, none⟩), .pointer (some ⟨rb, 0, none⟩)] W fun e W' => (∃ v, e = .returned v) ∧ (J (seqS (up r Z) l) W' ∨ ∃ k, Jx ((seqS (up r Z) l).take k) W') := by
  have hct := hI.temps
  have hcr := hI.rate
  have HI := hid hI; have HY := hid hY; have HJ := hid hJ; have HO := hid ho; have H0 := hid h0; have HKP := hid hKp
  clear hI hY hJ ho h0 hKp
  refine callsIn_of_wp Try.func91 rfl trivial ?_ rfl
  simp only [Try.ntmps91, List.size_toArray, List.length_cons, List.length_nil, Nat.reduceAdd, Nat.reduceSub, Array.replicate_succ, Array.replicate_zero, List.push_toArray, List.append_toArray, List.nil_append, List.cons_append]
  gi_wp2
  gi_loopw [4, 9] (fun c i wr => ∃ k c0 : Nat, k ≤ l.length ∧ i = .int .i64 (k : Int) ∧ c = .int .i64 (c0 : Int) ∧ Hid (c0 = sumL (up r Z) (l.take k)) ∧ Hid (ItS (.func 88) s r Z d g L mb tb rb a b o cap n0 l k wr) ∧ Hid (J ((seqS (up r Z) l).take k) wr)) (fun _ i _ => l.length - (intOf i).toNat)
  case atStart => exact ⟨0, 0, Nat.zero_le _, rfl, rfl, rfl, HI, H0⟩
  case round =>
    obtain ⟨k, c0, hk, rfl, rfl, hc0, hS, hJk⟩ := hrel
    have hcs : c0 ≤ 1000000000000000000 := by rw [hc0.out]; exact sumL_le _ _
    clear hct hcr HI H0
    have hct := hS.out.temps
    have hcr := hS.out.rate
    by_cases hlt : k < l.length
    · obtain rfl : a = some ⟨b, o, none⟩ := hS.out.addr.resolve_left (by rintro rfl; exact absurd hlt (Nat.not_lt_zero _))
      have ex := hS.out.cells k hlt
      have hsum := sumL_succ (up r Z) l k hlt
      rw [← hc0.out] at hsum
      have hot := okL_all HO.out k hlt
      have HX := seqS_get (up r Z) l k hlt
      rw [hsum] at HX
      have HSUM := hid hsum; have HXX := hid HX
      clear hsum HX
      generalize l[k] = t at ex hot HSUM HXX
      have hot' : -50000 ≤ t ∧ t ≤ 200000 := by simpa [okT] using hot
      obtain ⟨t1, t2⟩ := hot'
      have hx := up_le r Z t (by omega)
      obtain ⟨x, hX⟩ : ∃ x, x = up r Z t := ⟨_, rfl⟩
      rw [← hX] at hx HSUM HXX
      have HXE := hid hX; clear hX hot
      have hlt' : (k : Int) < l.length := by omega
      gi_wp2
      refine ⟨trivial, ?_⟩
      refine (callsIn_wide.2 (ru1_any s r d g t Z L mb k _ r1 r2 z1 z2 t1 t2 (by omega) hS.out.rds)).mono ?_
      rintro e W1 ⟨rfl, hg1, hM1⟩
      rw [← HXE.out]
      have HS1 := hid (hS.out.call hg1 hM1)
      have hJ1 := HJ.out _ _ _ (some mb) hJk.out hg1 (fun j e => by cases e; exact ⟨.inl rfl, hS.out.rds.2.2.isMap⟩)
      obtain ⟨fn, tmps, assign, body, hy, hR⟩ := HY.out k (k + 1, cutN c0 x) W1 HXX.out hJ1
      simp only [encS, Int.natCast_add, Int.natCast_one] at hy
      have HR := hid hR
      clear hR hJ1 hg1 hM1
      by_cases hle : (c0 : Int) + x ≤ 1000000000000000000
      · have HC : Hid (((cutN c0 x : Nat) : Int) = (c0 : Int) + x) := by unfold Hid cutN; omega
        rw [HC.out] at hy
        gi_wp2
        refine HR.out.mono ?_
        rintro e W3 (⟨rfl, hJ3, hk3⟩ | ⟨rfl, hJx3⟩)
        · have HS3 := hid (HKP.out _ _ _ HS1.out hk3)
          have HJ3 := hid hJ3
          clear hJ3 hk3
          gi_wp2
          go_roundw
          case rel => exact ⟨k + 1, cutN c0 x, by omega, by go_num, by rw [HC.out], HSUM.out.symm, HS3, HJ3⟩
          case measure => simp [intOf]; omega
        · have HX3 := hid hJx3
          clear hJx3
          gi_wp2
          refine bodyPost_ret (results_none rfl _ _ _) rfl ?_
          exact ⟨⟨_, rfl⟩, .inr ⟨k + 1, HX3.out⟩⟩
      · have HC : Hid (((cutN c0 x : Nat) : Int) = 1000000000000000000) := by unfold Hid cutN; omega
        rw [HC.out] at hy
        gi_wp2
        refine HR.out.mono ?_
        rintro e W3 (⟨rfl, hJ3, hk3⟩ | ⟨rfl, hJx3⟩)
        · have HS3 := hid (HKP.out _ _ _ HS1.out hk3)
          have HJ3 := hid hJ3
          clear hJ3 hk3
          gi_wp2
          go_roundw
          case rel => exact ⟨k + 1, cutN c0 x, by omega, by go_num, by rw [HC.out], HSUM.out.symm, HS3, HJ3⟩
          case measure => simp [intOf]; omega
        · have HX3 := hid hJx3
          clear hJx3
          gi_wp2
          refine bodyPost_ret (results_none rfl _ _ _) rfl ?_
          exact ⟨⟨_, rfl⟩, .inr ⟨k + 1, HX3.out⟩⟩
    · obtain rfl : k = l.length := by omega
      gi_wp2
      go_end0
      exact ⟨⟨_, rfl⟩, .inl (by have := hJk.out; rwa [List.take_of_length_le (by rw [seqS_len]; exact Nat.le_refl _)] at this)⟩
end Go.Proofs.Ytfngmpkceceomaa
