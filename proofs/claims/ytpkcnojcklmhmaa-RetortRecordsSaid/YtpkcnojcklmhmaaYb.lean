/- Walks of retort's before (sort.Search over its test): contracts. -/
import Derived.Test.YtpkcnojcklmhmaaYa
namespace Go.Proofs.Ytpkcnojcklmhmaa
open Go.RowKit

/-- What sort.Search finds, whatever the test. -/
def FoundB (n : Nat) (p : Nat → Bool) (r : Nat) : Prop := r ≤ n ∧ (r = 0 ∨ p (r - 1) = false) ∧ (r = n ∨ p r = true)
def SearchB (n : Nat) (p : Nat → Bool) (S : World → Prop) (e : Ending) (w' : World) : Prop := ∃ r : Nat, e = .returned (.int .i64 r) ∧ FoundB n p r ∧ S w'
structure SpanB (n : Nat) (p : Nat → Bool) (i j : Nat) : Prop where
  le : i ≤ j
  top : j ≤ n
  low : i = 0 ∨ p (i - 1) = false
  high : j = n ∨ p j = true
theorem SpanB.up {n : Nat} {p : Nat → Bool} {i j h : Nat} (s : SpanB n p i j) (h2 : h < j) (hp : p h = false) : SpanB n p (h + 1) j := ⟨h2, s.top, .inr hp, s.high⟩
theorem SpanB.down {n : Nat} {p : Nat → Bool} {i j h : Nat} (s : SpanB n p i j) (h1 : i ≤ h) (h2 : h < j) (hp : p h = true) : SpanB n p i h := ⟨h1, by have := s.top; omega, s.low, .inr hp⟩
set_option maxHeartbeats 1000000 in
theorem search_bef (n : Nat) (p : Nat → Bool) (S : World → Prop) (c1 c2 : Value) (w : World) (hn : n ≤ 4000000000000000000) (hS : S w)
    (hcall : ∀ (m : Nat) (wr : World), m < n → S wr → Calls Try.prog 106 #[.int .i64 m, c1, c2] wr fun e w' => e = .returned (.bool (p m)) ∧ S w') :
    Calls Try.prog 105 #[.int .i64 n, .func (.func 106) #[] #[c1, c2]] w (SearchB n p S) := by
  have HC := hid hcall; clear hcall
  have HS := hid hS; clear hS
  go_enter Try.func105, Try.ntmps105
  go_wp2
  go_loopw [5, 6] (fun a b wr => ∃ i j : Nat, a = .int .i64 i ∧ b = .int .i64 j ∧ Hid (SpanB n p i j) ∧ Hid (S wr)) (fun a b _ => (intOf b - intOf a).toNat)
  case atStart => exact ⟨0, n, rfl, rfl, ⟨Nat.zero_le _, Nat.le_refl _, .inl rfl, .inl rfl⟩, HS⟩
  case round =>
    obtain ⟨i, j, rfl, rfl, hs, hS⟩ := hrel
    have hij := hs.out.le
    have hjn := hs.out.top
    by_cases hlt : i < j
    · obtain ⟨m, hm⟩ : ∃ m, m = (i + j) / 2 := ⟨_, rfl⟩
      have hm1 : i ≤ m := by omega
      have hm2 : m < j := by omega
      have HM : Hid (((i : Int) + j) / 2 = (m : Int)) := by unfold Hid; omega
      clear hm
      cases hp : p m
      · have HP := hid hp
        go_wp2_with (go_at_call 106; rw [HM.out]; refine (HC.out m _ (by omega) hS.out).mono ?_; rintro e w2 ⟨rfl, hS2⟩)
        go_roundw
        case rel => exact ⟨m + 1, j, by go_num, rfl, hs.out.up hm2 HP.out, hS2⟩
        case measure => simp [intOf]; omega
      · have HP := hid hp
        go_wp2_with (go_at_call 106; rw [HM.out]; refine (HC.out m _ (by omega) hS.out).mono ?_; rintro e w2 ⟨rfl, hS2⟩)
        go_roundw
        case rel => exact ⟨i, m, rfl, rfl, hs.out.down hm1 hm2 HP.out, hS2⟩
        case measure => simp [intOf]; omega
    · obtain rfl : i = j := by omega
      go_wp2
      go_ret
      refine ⟨i, rfl, ⟨hs.out.top, hs.out.low, hs.out.high⟩, hS.out⟩
set_option maxHeartbeats 1000000 in
theorem befat_any (va : Option Addr) (n vc : Nat) (r : Nat → Rd) (m : Nat) (st : Int) (b1 b2 : Nat) (w : World) (hr : RowR w (.slice va n vc) n r) (hm : m < n)
    (h1 : w.cell? ⟨b1, 0, none⟩ = some (.slice va n vc)) (h2 : w.cell? ⟨b2, 0, none⟩ = some (.int .i64 st)) :
    Calls Try.prog 106 #[.int .i64 m, .pointer (some ⟨b1, 0, none⟩), .pointer (some ⟨b2, 0, none⟩)] w fun e w' => e = .returned (.bool (decide (st ≤ (r m).s))) ∧ Below w.heap.size w w' := by
  have hnm := hr.most
  unfold maxLen at hnm
  obtain ⟨a', b', o', cap', hv, _, _, ha', hcell⟩ := hr
  injection hv with hv1 hv2 hv3
  subst hv1 hv3
  rcases ha' with h0 | rfl
  · omega
  obtain ⟨c0, c1, c2, c3⟩ := hcell m hm
  clear hcell hv2 c1 c2 c3
  have hm' : (m : Int) < n := by omega
  clear hm
  generalize (r m).s = x at c0
  go_enter Try.func106, Try.ntmps106
  go_wp2
  go_quiet (fail)
  go_wp2
  go_ret
  exact ⟨rfl, by first | exact Below.refl _ _ | exact bdrewN (Below.refl _ _)⟩
theorem lt_blkB {w : World} {b : Nat} {o : Obj} (h : w.heap[b]? = some o) : b < w.heap.size := (Array.getElem?_eq_some_iff.1 h).1
theorem bx1 (w : World) (A B : Array Value) (t u : TypeId) : ((w.alloc (.cells A t)).alloc (.cells B u)).heap[w.heap.size]? = some (.cells A t (0, 0)) := by
  have ha := heap_alloc_new w (.cells A t)
  exact (Below.heap_alloc _ _ _ (lt_blkB ha)).trans ha
theorem bx2 (w : World) (A B : Array Value) (t u : TypeId) : ((w.alloc (.cells A t)).alloc (.cells B u)).heap[w.heap.size + 1]? = some (.cells B u (0, 0)) := by
  have h := heap_alloc_new (w.alloc (.cells A t)) (.cells B u)
  rwa [show (w.alloc (.cells A t)).heap.size = w.heap.size + 1 by simp] at h
theorem bef_search (va : Option Addr) (n vc : Nat) (r : Nat → Rd) (st : Int) (w W : World) (b1 b2 : Nat) (hn : n ≤ 4000000000000000000)
    (hr : ∀ w1, Below w.heap.size w w1 → RowR w1 (.slice va n vc) n r) (hW : Below w.heap.size w W)
    (h1 : W.heap[b1]? = some (.cells #[.slice va n vc] 61 (0, 0))) (h2 : W.heap[b2]? = some (.cells #[.int .i64 st] 3 (0, 0))) :
    Calls Try.prog 105 #[.int .i64 n, .func (.func 106) #[] #[.pointer (some ⟨b1, 0, none⟩), .pointer (some ⟨b2, 0, none⟩)]] W (SearchB n (fun m => decide (st ≤ (r m).s)) (Below W.heap.size W)) := by
  refine search_bef n _ _ _ _ W hn (Below.refl _ _) ?_
  intro m wr hm hS
  refine (befat_any va n vc r m st b1 b2 wr (hr _ (bstep hW hW.size hS)) hm (cell_of_row _ _ 0 _ _ _ ((hS.block _ (lt_blkB h1)).trans h1)) (cell_of_row _ _ 0 _ _ _ ((hS.block _ (lt_blkB h2)).trans h2))).mono ?_
  rintro e w2 ⟨rfl, hb⟩
  exact ⟨rfl, bstep hS hS.size hb⟩
set_option maxHeartbeats 1000000 in
theorem before_any (v : Value) (n : Nat) (r : Nat → Rd) (st : Int) (w : World) (hr : RowR w v n r) (hn : n ≤ 4000000000000000000) :
    Calls Try.prog 80 #[v, .int .i64 st] w fun e w' => ∃ q : Nat, e = .returned (.int .i64 q) ∧ FoundB n (fun m => decide (st ≤ (r m).s)) q ∧ Below w.heap.size w w' := by
  have HK := hid (fun w1 (g : Below w.heap.size w w1) => hr.keep g)
  have hnm := hr.most
  unfold maxLen at hnm
  obtain ⟨va, vc, rfl⟩ := hr.shape
  clear hr
  have HN := hid hn
  go_enter Try.func80, Try.ntmps80
  go_wp2_with (go_at_call 105; refine (bef_search va n vc r st w _ w.heap.size (w.heap.size + 1) HN.out HK.out (((Below.refl _ _).alloc (Nat.le_refl _) _).alloc (by simp) _) (bx1 _ _ _ _ _) (bx2 _ _ _ _ _)).mono ?_; rintro e w2 ⟨q, rfl, hf, hb⟩; have HF := hid hf; have HB := hid hb; clear hf hb)
  go_ret
  exact ⟨q, rfl, HF.out, bstep (((Below.refl _ _).alloc (Nat.le_refl _) _).alloc (by simp) _) (by simp; omega) HB.out⟩
end Go.Proofs.Ytpkcnojcklmhmaa
