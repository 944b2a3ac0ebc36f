/- The iterator of slices.Chunk over ints: contract. -/
import Derived.Test.YtpkcnojcklmhmaaQb
import Derived.Test.YtpkcnojcklmhmaaSz
import Derived.Shelf.Abstract
import Derived.Shelf.RegionOpen
import Derived.WalkKit
import Derived.OwnWalkIn
import Derived.TacticsInMore
import Derived.LoopNIn
import Derived.LoopIn
namespace Go.Proofs.Ytpkcnojcklmhmaa
open Go.RowKit

/-- What the iterator yields in round i. -/
def ckE (b o R i : Nat) : Array Value := #[.slice (some ⟨b, o + i * R, none⟩) R R]
/-- What the iterator stands on. -/
structure ItC (sb nb b o P cap R n0 : Nat) (w : World) : Prop where
  sp : w.cell? ⟨sb, 0, none⟩ = some (.slice (some ⟨b, o, none⟩) P cap)
  np : w.cell? ⟨nb, 0, none⟩ = some (.int .i64 (R : Int))
  lt : sb < n0 ∧ nb < n0
  le : n0 ≤ w.heap.size
/-- What a round that goes on keeps. -/
def KpC (n0 : Nat) (W W' : World) : Prop := W.heap.size ≤ W'.heap.size ∧ ∀ j, j < n0 → W'.heap[j]? = W.heap[j]?
theorem ItC.past {sb nb b o P cap R n0 : Nat} {w w' : World} (H : ItC sb nb b o P cap R n0 w) (h : KpC n0 w w') : ItC sb nb b o P cap R n0 w' :=
  ⟨(World.cell?_of_block (a := ⟨sb, 0, none⟩) (h.2 _ H.lt.1)).trans H.sp, (World.cell?_of_block (a := ⟨nb, 0, none⟩) (h.2 _ H.lt.2)).trans H.np, H.lt, Nat.le_trans H.le h.1⟩
theorem gbelowC {w w' : World} (h : Below w.heap.size w w') : w.grownBy w' none := ⟨h.os, h.tape, h.output, h.size, fun j hj _ => h.block j hj⟩
theorem range_at {L k : Nat} (h : k < L) : (List.range L)[k]? = some k := by simp [h]
theorem ck_rest (b o P cap I : Nat) (h1 : I ≤ P) (h2 : P ≤ cap) : ∃ ad, ∀ W : World, (Instr.sliceAt 24 (.slice (some ⟨b, o, none⟩) P cap) (some (.int .i64 (I : Int))) none none).run Try.prog W = .ok (.slice (some ad) (P - I) (cap - I)) W := by
  have e1 : (I : Int) ≤ (P : Int) := by omega
  by_cases hc : I = cap
  · refine ⟨⟨b, o, none⟩, fun W => ?_⟩
    subst hc
    simp [go_sem, Try.underlying24, e1]
  · refine ⟨⟨b, o + I, none⟩, fun W => ?_⟩
    have hc2 : ¬ cap = I := fun h => hc h.symm
    simp [go_sem, Try.underlying24, e1, hc2]
theorem ck_mid (b o P cap I R : Nat) (h0 : 0 < R) (h1 : I + R ≤ cap) (W : World) : (Instr.sliceAt 24 (.slice (some ⟨b, o, none⟩) P cap) (some (.int .i64 (I : Int))) (some (.int .i64 ((I : Int) + (R : Int)))) (some (.int .i64 ((I : Int) + (R : Int))))).run Try.prog W = .ok (.slice (some ⟨b, o + I, none⟩) R R) W := by
  obtain ⟨H, hH⟩ : ∃ H : Nat, H = I + R := ⟨_, rfl⟩
  have e2 : ((I : Int) + (R : Int)) = (H : Int) := by omega
  have e1 : (H : Int) ≤ (cap : Int) := by omega
  have e3 : (I : Int) ≤ (H : Int) := by omega
  have e4 : ¬ H = I := by omega
  have e5 : H - I = R := by omega
  rw [e2]
  clear e2 hH
  simp [go_sem, Try.underlying24, e1, e3, e4, e5]
set_option maxRecDepth 20000 in
set_option maxHeartbeats 8000000 in
theorem chunk_run (l0 : Nat) (sb nb b o P cap R L n0 B : Nat) (J Jx : List Nat → World → Prop) {T : TypeId} (hR : 0 < R) (hP : P = L * R) (hcap : P ≤ cap) (hbig : P ≤ 1000000)
    (hJ : AbG T B J) (hY : ∀ k y W1, (List.range L)[k]? = some y → J ((List.range L).take k) W1 → YieldAt Fence.wide 8 Try.prog l0 (ckE b o R y) W1 fun e W' =>
      (e = .returned (.bool true) ∧ J ((List.range L).take (k + 1)) W' ∧ KpC n0 W1 W') ∨ (e = .returned (.bool false) ∧ Jx ((List.range L).take (k + 1)) W'))
    (W : World) (hI : ItC sb nb b o P cap R n0 W) (h0 : J [] W) :
    CallsIn Fence.wide 9 Try.prog 93 #[.func (.yield l0) #[] #[], .pointer (some ⟨sb, 0, none⟩), .pointer (some ⟨nb, 0, none⟩)] W fun e W' => (∃ v, e = .returned v) ∧ (J (List.range L) W' ∨ ∃ k, Jx ((List.range L).take k) W') := by
  have HI := hid hI; have HY := hid hY; have H0 := hid h0; have HJ := hid hJ; have HP := hid hP
  have hR1 : (1 : Int) ≤ (R : Int) := by omega
  clear hI hY h0 hJ hP
  refine callsIn_of_wp Try.func93 rfl trivial ?_ rfl
  simp only [Try.ntmps93, List.size_toArray, List.length_cons, List.length_nil, Nat.reduceAdd, Nat.reduceSub, Array.replicate_succ, Array.replicate_zero, List.push_toArray, List.append_toArray, List.nil_append, List.cons_append]
  gi_wp2
  gi_loopw [4] (fun i wr => ∃ k : Nat, k ≤ L ∧ i = .int .i64 ((k * R : Nat) : Int) ∧ Hid (ItC sb nb b o P cap R n0 wr ∧ J ((List.range L).take k) wr)) (fun i _ => P - (intOf i).toNat)
  case atStart => exact ⟨0, Nat.zero_le _, by simp, hid ⟨HI.out, by rw [List.take_zero]; exact H0.out⟩⟩
  case round =>
    obtain ⟨k, hk, rfl, hRel⟩ := hrel
    have s1 := hRel.out.1.sp
    have s2 := hRel.out.1.np
    by_cases hlt : k < L
    · have hle : (k + 1) * R ≤ L * R := Nat.mul_le_mul_right R hlt
      rw [Nat.add_mul, Nat.one_mul] at hle
      obtain ⟨I, hI⟩ : ∃ I, I = k * R := ⟨_, rfl⟩
      have HIQ := hid hI
      rw [← HP.out, ← hI] at hle
      rw [← hI]
      have hlt' : (I : Int) < (P : Int) := by omega
      have hIR : I + R ≤ P := by omega
      have hIP : I ≤ P := by omega
      have hmin : (R : Int) ≤ ((P - I : Nat) : Int) := by omega
      obtain ⟨ad, r1⟩ := ck_rest b o P cap I hIP hcap
      have r2 := fun W1 => (ck_mid b o P cap I R hR (by omega) W1)
      have HRK := hid (range_at hlt)
      have HLT := hid hlt
      clear hI hlt
      have hJ2 := HJ.out _ _ _ none hRel.out.2 (gbelowC (Below.refl wr.heap.size wr).drew) (fun j e => by cases e)
      have hI2 := hRel.out.1.past (w' := wr.drew) ⟨Nat.le_refl _, fun j _ => rfl⟩
      obtain ⟨fn, tmps, assign, body, hy, hRR⟩ := HY.out k k wr.drew HRK.out hJ2
      have HI2 := hid hI2
      clear hJ2 hI2
      have HR := hid hRR
      simp only [ckE] at hy
      rw [← HIQ.out] at hy
      clear hRR
      gi_wp2
      gi_region
      gi_wp2
      refine HR.out.mono ?_
      clear hy
      rintro e W6 (⟨rfl, hJ6, hk6⟩ | ⟨rfl, hJx6⟩)
      · have HI6 := hid (HI2.out.past hk6)
        have HJ6 := hid hJ6
        have q2 := HI6.out.np
        clear hJ6 hk6
        gi_wp2
        go_roundw
        case rel => exact ⟨k + 1, HLT.out, by rw [Nat.add_mul, Nat.one_mul, ← HIQ.out]; go_num, hid ⟨HI6.out, HJ6.out⟩⟩
        case measure => simp [intOf]; omega
      · have HX6 := hid hJx6
        clear hJx6
        gi_wp2
        refine bodyPost_ret (results_none rfl _ _ _) rfl ?_
        exact ⟨⟨_, rfl⟩, .inr ⟨_, HX6.out⟩⟩
    · obtain rfl : k = L := by omega
      have HJK := hid hRel.out.2
      rw [List.take_of_length_le (by simp)] at HJK
      obtain ⟨I, hI⟩ : ∃ I, I = k * R := ⟨_, rfl⟩
      rw [← hI]
      have hge : ¬ (I : Int) < (P : Int) := by rw [HP.out, hI]; omega
      gi_wp2
      refine bodyPost_end (results_none rfl _ _ _) rfl ?_
      exact ⟨⟨_, rfl⟩, .inl HJK.out⟩
end Go.Proofs.Ytpkcnojcklmhmaa
