/- Texts of this seat, one behind the other. -/
import Derived.Test.YtihbjimnjhfpeaaGreatR07
import Derived.Test.YtihbjimnjhfpeaaGreatRows
import Derived.WalkKit
import Derived.WalkSpells
import Derived.WalkLawsBesides
import Derived.BigQuiet
/- Walk of the reference's Start and Even: contracts. -/
namespace Go.Proofs.YtihbjimnjhfpeaaGreat
open Go.RowKit

/-- Three boxes behind one another: a can, a body that comes back, a body that is filled. -/
structure R3b (w w1 : World) (A R S : Array Value) : Prop where
  can : w1.heap[w.heap.size]? = some (.cells A 23 (0, 0))
  res : w1.heap[w.heap.size + 1]? = some (.cells R 87 (0, 0))
  out : w1.heap[w.heap.size + 1 + 1]? = some (.cells S 87 (0, 0))
  low : Below w.heap.size w w1
/-- What an append onto a row of one's own, laid behind the boxes, leaves of them; and the store of what it made. -/
theorem R3b.app {w W W' : World} {A R : Array Value} {v v' u0 : Value} {br : Value} {xs : List Value} {l : List Int} (h : R3b w W A R #[u0, br]) (hown : W.ownsRow (w.heap.size + 3) 3 1 v xs.length xs) (hA : AppP W (w.heap.size + 3) 3 v xs l v' W') : R3b w W' A R #[u0, br] := by
  have hne : ∀ b, b < w.heap.size + 3 → some b ≠ v.ownBlock := fun b hb e => by have := (World.ownsRow.lt hown b e.symm).1; omega
  exact ⟨(hA.2.1.block _ (lt_of_block h.can) (hne _ (by omega))).trans h.can, (hA.2.1.block _ (lt_of_block h.res) (hne _ (by omega))).trans h.res, (hA.2.1.block _ (lt_of_block h.out) (hne _ (by omega))).trans h.out, h.low.grown hA.2.1 h.low.size (fun k hk => by have := (World.ownsRow.lt hown k hk).1; omega)⟩
theorem R3b.alloc {w W : World} {A R S : Array Value} (h : R3b w W A R S) (o : Obj) : R3b w (W.alloc o) A R S :=
  ⟨(Below.heap_alloc _ _ _ (lt_of_block h.can)).trans h.can, (Below.heap_alloc _ _ _ (lt_of_block h.res)).trans h.res, (Below.heap_alloc _ _ _ (lt_of_block h.out)).trans h.out, h.low.alloc h.low.size _⟩
theorem R3b.facts {w W : World} {c0 c1 c2 c3 c4 c5 c6 d0 d1 e0 e1 : Value} (h : R3b w W #[c0, c1, c2, c3, c4, c5, c6] #[d0, d1] #[e0, e1]) :
    W.cell? ⟨w.heap.size, 0, none⟩ = some c0 ∧ W.cell? ⟨w.heap.size, 1, none⟩ = some c1 ∧ W.cell? ⟨w.heap.size, 4, none⟩ = some c4 ∧
    W.cell? ⟨w.heap.size + 1, 0, none⟩ = some d0 ∧ W.cell? ⟨w.heap.size + 1, 1, none⟩ = some d1 ∧ W.frozen? ⟨w.heap.size + 1, 0, none⟩ = false ∧ W.frozen? ⟨w.heap.size + 1, 1, none⟩ = false ∧
    W.cell? ⟨w.heap.size + 1 + 1, 0, none⟩ = some e0 ∧ W.cell? ⟨w.heap.size + 1 + 1, 1, none⟩ = some e1 ∧ W.frozen? ⟨w.heap.size + 1 + 1, 0, none⟩ = false ∧ W.frozen? ⟨w.heap.size + 1 + 1, 1, none⟩ = false ∧ w.heap.size + 1 + 1 < W.heap.size :=
  ⟨cell_of_row _ _ 0 _ _ _ h.can, cell_of_row _ _ 1 _ _ _ h.can, cell_of_row _ _ 4 _ _ _ h.can, cell_of_row _ _ 0 _ _ _ h.res, cell_of_row _ _ 1 _ _ _ h.res, frozen_of_row _ _ 0 _ _ h.res, frozen_of_row _ _ 1 _ _ h.res, cell_of_row _ _ 0 _ _ _ h.out, cell_of_row _ _ 1 _ _ _ h.out, frozen_of_row _ _ 0 _ _ h.out, frozen_of_row _ _ 1 _ _ h.out, lt_of_block h.out⟩

/-- What Start hands back. -/
def StartP (c : Cn) (t : Int) (w : World) (e : Ending) (w' : World) : Prop := ∃ (ua : Option Addr) (cap : Nat), e = .returned (.agg #[.slice ua c.P cap, .bool (decide (0 < c.K) && decide (c.K ≤ t))]) ∧ RowI w' (.slice ua c.P cap) (List.replicate c.P t) ∧ Below w.heap.size w w'
end Go.Proofs.YtihbjimnjhfpeaaGreat

/- Plain math of even bodies; Stirred of both. -/
namespace Go.Proofs.YtihbjimnjhfpeaaGreat
open Go.RowKit

theorem nearT_even {R L : Nat} {t : Int} (r l : Int) : nearT R L (List.replicate (R * L) t) t r l = t := by
  by_cases h : 0 ≤ r ∧ r < R ∧ 0 ≤ l ∧ l < L
  · obtain ⟨p, q, rfl, rfl, hp, hq, _⟩ := idx_nat h
    have hidx := idx_lt hp hq
    unfold Cn.P at *
    rw [nearT_in ⟨by omega, by omega, by omega, by omega⟩, ← Int.natCast_mul, ← Int.natCast_add, Int.toNat_natCast]
    simp [List.getD, hidx]
  · exact nearT_out h
theorem mixT_even {R L : Nat} {A B t : Int} (r l : Nat) : mixT R L A B (List.replicate (R * L) t) t r l = t := by
  unfold mixT
  rw [nearT_even, nearT_even, nearT_even, nearT_even, nearT_even, num_const]
  exact Int.mul_ediv_cancel _ (by have := wide_pos r; omega)
theorem tickT_even {R L : Nat} {A B t : Int} : tickT R L A B (List.replicate (R * L) t) t = List.replicate (R * L) t := by
  apply List.ext_getElem (by rw [tickT_len, List.length_replicate])
  intro i h1 h2
  rw [tickT_get, mixT_even, List.getElem_replicate]
theorem minT_even {n : Nat} {t : Int} (h : 0 < n) : minT (List.replicate n t) = t := by
  have := minT_mem (List.replicate n t) (by rw [List.length_replicate]; exact h)
  exact List.eq_of_mem_replicate this
/-- An even body. -/
def evB (c : Cn) (t : Int) : Bd := (List.replicate c.P t, decide (0 < c.K) && decide (c.K ≤ t))
theorem tickS_even {c : Cn} (hc : c.Ok) (t : Int) : tickS c (evB c t) t = evB c t := by
  have hp := hc.p
  unfold tickS evB
  dsimp only
  have e : tickT c.R c.L (c.a (decide (0 < c.K) && decide (c.K ≤ t))) (c.b (decide (0 < c.K) && decide (c.K ≤ t))) (List.replicate c.P t) t = List.replicate c.P t := tickT_even
  rw [e]
  unfold brk
  rw [minT_even (by omega), Bool.or_self]
theorem evB_valid {c : Cn} {t : Int} (ho : okT t = true) : bodyV c (evB c t).1 (evB c t).2 = true := by
  refine bodyV_iff.2 ⟨by simp [evB], ?_, okL_of fun x hx => ?_⟩
  · by_cases h : c.K = 0
    · left; simp [evB, h]
    · exact .inr h
  · have := List.eq_of_mem_replicate hx
    subst this
    simpa [okT] using ho
/-- The body behind n ticks in a constant bath, which is no colder. -/
def evR (c : Cn) (t bath : Int) (n : Nat) : Bd := runS c (evB c t) (List.replicate n bath)
/-- How many places seven numbers tell of. -/
def plcs (r l a b k a2 b2 : Int) : Nat := if canB r l a b k a2 b2 then (cnOf r l a b k a2 b2).P else 0
end Go.Proofs.YtihbjimnjhfpeaaGreat

/- Walks of small functions of package lethal and of its reference: contracts. -/
namespace Go.Proofs.YtihbjimnjhfpeaaGreat.Lt
open Go.RowKit

theorem hid {p : Prop} (h : p) : Hid p := h
theorem ret_bool {a b : Bool} (h : a = b) : Ending.returned (.bool a) = .returned (.bool b) := by rw [h]
theorem ret_int {k : IntKind} {a b : Int} (h : a = b) : Ending.returned (.int k a) = .returned (.int k b) := by rw [h]

set_option maxHeartbeats 400000 in
theorem within_any (a b c : Int) (w : World) :
    Calls Tryz.prog 104 #[.int .i64 a, .int .i64 b, .int .i64 c] w fun e w' => e = .returned (.bool (decide (b ≤ a) && decide (a ≤ c))) ∧ w = w' := by
  by_cases h : b ≤ a
  · have hd : decide (b ≤ a) = true := by simpa using h
    go_enter Tryz.func104, Tryz.ntmps104
    go_wp2
    go_ret
    exact ⟨by simp [h], rfl⟩
  · have hd : decide (b ≤ a) = false := by simpa using h
    go_enter Tryz.func104, Tryz.ntmps104
    go_wp2
    go_ret
    exact ⟨by simp, rfl⟩
end Go.Proofs.YtihbjimnjhfpeaaGreat.Lt

/- Walks of Name of package lethal and of its reference: contracts. -/
namespace Go.Proofs.YtihbjimnjhfpeaaGreat.Lt
open Go.RowKit

def smallB (c : UInt8) : Bool := 97 ≤ c.toNat && c.toNat ≤ 122
def digitB (c : UInt8) : Bool := 48 ≤ c.toNat && c.toNat ≤ 57
def wordB (c : UInt8) : Bool := smallB c || digitB c || c.toNat == 95
def nameB (l : List UInt8) : Bool := decide (1 ≤ l.length) && decide (l.length ≤ 16) && smallB (l.headD 0) && l.all wordB

set_option maxHeartbeats 400000 in
theorem small_any (c : UInt8) (w : World) :
    Calls Tryz.prog 128 #[.int .u8 c.toNat] w fun e w' => e = .returned (.bool (smallB c)) ∧ w = w' := by
  by_cases h : 97 ≤ c.toNat
  · have hd : decide (97 ≤ (c.toNat : Int)) = true := by simp; omega
    go_enter Tryz.func128, Tryz.ntmps128
    go_wp2
    go_ret
    exact ⟨by unfold smallB; simp [h]; omega, rfl⟩
  · have hd : decide (97 ≤ (c.toNat : Int)) = false := by simp; omega
    go_enter Tryz.func128, Tryz.ntmps128
    go_wp2
    go_ret
    exact ⟨by unfold smallB; simp [h], rfl⟩

set_option maxHeartbeats 400000 in
theorem digit_any (c : UInt8) (w : World) :
    Calls Tryz.prog 129 #[.int .u8 c.toNat] w fun e w' => e = .returned (.bool (digitB c)) ∧ w = w' := by
  by_cases h : 48 ≤ c.toNat
  · have hd : decide (48 ≤ (c.toNat : Int)) = true := by simp; omega
    go_enter Tryz.func129, Tryz.ntmps129
    go_wp2
    go_ret
    exact ⟨by unfold digitB; simp [h]; omega, rfl⟩
  · have hd : decide (48 ≤ (c.toNat : Int)) = false := by simp; omega
    go_enter Tryz.func129, Tryz.ntmps129
    go_wp2
    go_ret
    exact ⟨by unfold digitB; simp [h], rfl⟩

theorem nameB_iff (l : List UInt8) : nameB l = true ↔ 1 ≤ l.length ∧ l.length ≤ 16 ∧ smallB (l.headD 0) = true ∧ l.all wordB = true := by
  unfold nameB; simp [Bool.and_eq_true, and_assoc]
theorem nameB_long (l : List UInt8) (h : 16 < l.length) : nameB l = false := by
  unfold nameB; simp; omega
theorem nameB_head (l : List UInt8) (h : smallB (l.headD 0) = false) : nameB l = false := by
  unfold nameB; rw [h]; simp
theorem nameB_at (l : List UInt8) (k : Nat) (hk : k < l.length) (h : wordB l[k] = false) : nameB l = false := by
  rw [Bool.eq_false_iff]; intro hn
  have := ((nameB_iff l).1 hn).2.2.2
  rw [List.all_eq_true] at this
  have := this l[k] (List.getElem_mem hk)
  rw [h] at this; cases this
theorem all_take_succ (l : List UInt8) (k : Nat) (hk : k < l.length) (h : (l.take k).all wordB = true) (h' : wordB l[k] = true) : (l.take (k+1)).all wordB = true := by
  rw [List.take_succ_eq_append_getElem hk, List.all_append, h]; simp [h']
theorem toList_ne (s : ByteArray) (h : s.size ≠ 0) : s.toList.isEmpty = false := by
  rw [ByteArray.toList_eq]; cases h' : s.data.toList with
  | nil => exact absurd (by simpa using congrArg List.length h') h
  | cons a l => rfl
theorem head_eq (s : ByteArray) (h : 0 < s.size) : s.data.toList.headD 0 = s[0] := by
  have : 0 < s.data.toList.length := h
  cases h' : s.data.toList with
  | nil => rw [h'] at this; simp at this
  | cons a l =>
    show a = s.data[0]
    rw [← Array.getElem_toList]; simp [h']
theorem getElem_eq (s : ByteArray) (k : Nat) (h : k < s.size) : s.data.toList[k]'(by exact h) = s[k] := by
  rfl

set_option maxHeartbeats 400000 in
theorem lname_any (s : ByteArray) (w : World) (hs : s.size ≤ maxLen) :
    Calls Tryz.prog 83 #[.string s] w fun e w' => e = .returned (.bool (nameB s.data.toList)) ∧ w = w' := by
  unfold maxLen at hs
  have hl : s.data.toList.length = s.size := rfl
  by_cases h1 : 16 < s.size
  · have hd : decide (16 < (s.size : Int)) = true := by simp; omega
    have hr := nameB_long s.data.toList (by omega)
    go_enter Tryz.func83, Tryz.ntmps83
    go_wp2
    go_ret
    exact ⟨ret_bool hr.symm, rfl⟩
  · have hd : decide (16 < (s.size : Int)) = false := by simp; omega
    by_cases h2 : s.size = 0
    · have hr : nameB s.data.toList = false := by unfold nameB; simp [hl, h2]
      have h3 : s.toList.isEmpty = true := by rw [ByteArray.toList_eq]; simpa using List.eq_nil_of_length_eq_zero (hl.trans h2)
      have h3' : s.toList = [] := by simpa using h3
      clear hl h2
      go_enter Tryz.func83, Tryz.ntmps83
      go_wp2
      go_ret
      exact ⟨ret_bool hr.symm, rfl⟩
    · have h3 := toList_ne s h2
      have h3' : ¬ s.toList = [] := by simpa using h3
      have h4 : 0 < s.size := by omega
      have hh := hid (head_eq s h4)
      have hL := hid hl; clear hl
      have hge := hid (getElem_eq s)
      by_cases h5 : smallB s[0] = true
      · go_enter Tryz.func83, Tryz.ntmps83
        go_wp2_with (go_at_call 128; refine (small_any _ _).mono ?_; rintro e w' ⟨rfl, rfl⟩)
        go_loop [19] (fun i => ∃ k : Nat, k ≤ s.size ∧ i = .int .i64 k ∧ (s.data.toList.take k).all wordB = true) (fun i => s.size - (intOf i).toNat)
        case atStart => exact ⟨0, Nat.zero_le _, rfl, rfl⟩
        case round =>
          obtain ⟨k, hk, rfl, hal⟩ := hrel
          have Hal := hid hal; clear hal
          by_cases hlt : k < s.size
          · by_cases ha : smallB s[k] = true
            · have hn : Hid ((s.data.toList.take (k+1)).all wordB = true) := all_take_succ _ k hlt Hal.out (by show wordB s[k] = true; unfold wordB; rw [ha]; rfl)
              go_wp2_with (go_at_call 128; refine (small_any _ _).mono ?_; rintro e w' ⟨rfl, rfl⟩)
              go_round
              case rel => exact ⟨k + 1, by omega, by go_num, hn.out⟩
              case measure => simp [intOf]; omega
            · have ha' : smallB s[k] = false := by simpa using ha
              clear ha
              by_cases hb : digitB s[k] = true
              · have hn : Hid ((s.data.toList.take (k+1)).all wordB = true) := all_take_succ _ k hlt Hal.out (by show wordB s[k] = true; unfold wordB; rw [hb]; simp)
                go_wp2_with (first | (go_at_call 128; refine (small_any _ _).mono ?_; rintro e w' ⟨rfl, rfl⟩) | (go_at_call 129; refine (digit_any _ _).mono ?_; rintro e w' ⟨rfl, rfl⟩))
                go_round
                case rel => exact ⟨k + 1, by omega, by go_num, hn.out⟩
                case measure => simp [intOf]; omega
              · have hb' : digitB s[k] = false := by simpa using hb
                clear hb
                by_cases hc : s[k].toNat = 95
                · have hn : Hid ((s.data.toList.take (k+1)).all wordB = true) := all_take_succ _ k hlt Hal.out (by show wordB s[k] = true; unfold wordB; rw [hc]; simp)
                  have hc' : ((s[k].toNat : Int) != 95) = false := by rw [hc]; rfl
                  clear hc
                  go_wp2_with (first | (go_at_call 128; refine (small_any _ _).mono ?_; rintro e w' ⟨rfl, rfl⟩) | (go_at_call 129; refine (digit_any _ _).mono ?_; rintro e w' ⟨rfl, rfl⟩))
                  go_round
                  case rel => exact ⟨k + 1, by omega, by go_num, hn.out⟩
                  case measure => simp [intOf]; omega
                · have hn : nameB s.data.toList = false := nameB_at _ k hlt (by show wordB s[k] = false; unfold wordB; rw [ha', hb']; simpa using hc)
                  have hc' : ((s[k].toNat : Int) != 95) = true := by simp; omega
                  have Hn := hid hn; clear hn hc
                  go_wp2_with (first | (go_at_call 128; refine (small_any _ _).mono ?_; rintro e w' ⟨rfl, rfl⟩) | (go_at_call 129; refine (digit_any _ _).mono ?_; rintro e w' ⟨rfl, rfl⟩))
                  go_ret
                  exact ⟨ret_bool Hn.out.symm, rfl⟩
          · have hr : nameB s.data.toList = true := by
              rw [nameB_iff]
              refine ⟨by rw [hL.out]; omega, by rw [hL.out]; omega, by rw [hh.out]; exact h5, ?_⟩
              have := Hal.out
              rwa [List.take_of_length_le (by rw [hL.out]; omega)] at this
            have Hr := hid hr; clear hr
            go_wp2
            go_ret
            exact ⟨ret_bool Hr.out.symm, rfl⟩
      · have h5' : smallB s[0] = false := by simpa using h5
        have hr := nameB_head s.data.toList (by rw [hh.out]; exact h5')
        have Hr := hid hr; clear hr h5
        go_enter Tryz.func83, Tryz.ntmps83
        go_wp2_with (go_at_call 128; refine (small_any _ _).mono ?_; rintro e w' ⟨rfl, rfl⟩)
        go_ret
        exact ⟨ret_bool Hr.out.symm, rfl⟩
end Go.Proofs.YtihbjimnjhfpeaaGreat.Lt

/- Walks of Name of the reference, of within, Valid and Needs of both: contracts. -/
namespace Go.Proofs.YtihbjimnjhfpeaaGreat.Lt
open Go.RowKit

set_option maxHeartbeats 400000 in
theorem rwithin_any (a b c : Int) (w : World) :
    Calls Tryz.prog 55 #[.int .i64 a, .int .i64 b, .int .i64 c] w fun e w' => e = .returned (.bool (decide (b ≤ a) && decide (a ≤ c))) ∧ w = w' := by
  by_cases h : b ≤ a
  · have hd : decide (b ≤ a) = true := by simpa using h
    go_enter Tryz.func55, Tryz.ntmps55
    go_wp2
    go_ret
    exact ⟨by simp [h], rfl⟩
  · have hd : decide (b ≤ a) = false := by simpa using h
    go_enter Tryz.func55, Tryz.ntmps55
    go_wp2
    go_ret
    exact ⟨by simp, rfl⟩

theorem wordB_small {c : UInt8} (h1 : 97 ≤ c.toNat) (h2 : c.toNat ≤ 122) : wordB c = true := by
  unfold wordB smallB; simp [h1, h2]
theorem wordB_digit {c : UInt8} (h1 : 48 ≤ c.toNat) (h2 : c.toNat ≤ 57) : wordB c = true := by
  unfold wordB digitB; simp [h1, h2]
theorem wordB_line {c : UInt8} (h1 : c.toNat = 95) : wordB c = true := by
  unfold wordB; simp [h1]
theorem wordB_not {c : UInt8} (h1 : ¬ (97 ≤ c.toNat ∧ c.toNat ≤ 122)) (h2 : ¬ (48 ≤ c.toNat ∧ c.toNat ≤ 57)) (h3 : c.toNat ≠ 95) : wordB c = false := by
  unfold wordB smallB digitB
  simp [h3]; omega

set_option maxHeartbeats 1000000 in
theorem rname_any (s : ByteArray) (w : World) (hs : s.size ≤ maxLen) :
    Calls Tryz.prog 54 #[.string s] w fun e w' => e = .returned (.bool (nameB s.data.toList)) ∧ w = w' := by
  unfold maxLen at hs
  have hl : s.data.toList.length = s.size := rfl
  by_cases h0 : s.size < 1
  · have hr : nameB s.data.toList = false := by
      have : s.size = 0 := by omega
      unfold nameB; simp [hl, this]
    have Hr := hid hr; clear hr
    have hd : decide ((s.size : Int) < 1) = true := by simp; omega
    go_enter Tryz.func54, Tryz.ntmps54
    go_wp2
    go_ret
    exact ⟨ret_bool Hr.out.symm, rfl⟩
  have hd0 : decide ((s.size : Int) < 1) = false := by simp; omega
  by_cases h1 : 16 < s.size
  · have hd : decide (16 < (s.size : Int)) = true := by simp; omega
    have hr := nameB_long s.data.toList (by omega)
    have Hr := hid hr; clear hr
    go_enter Tryz.func54, Tryz.ntmps54
    go_wp2
    go_ret
    exact ⟨ret_bool Hr.out.symm, rfl⟩
  have hd : decide (16 < (s.size : Int)) = false := by simp; omega
  have h4 : 0 < s.size := by omega
  have hh := hid (head_eq s h4)
  have hL := hid hl; clear hl
  by_cases h5 : s[0].toNat < 97
  · have hr := nameB_head s.data.toList (by rw [hh.out]; unfold smallB; simp; omega)
    have Hr := hid hr; clear hr
    have hd5 : decide ((s[0].toNat : Int) < 97) = true := by simp; omega
    go_enter Tryz.func54, Tryz.ntmps54
    go_wp2
    go_ret
    exact ⟨ret_bool Hr.out.symm, rfl⟩
  have hd5 : decide ((s[0].toNat : Int) < 97) = false := by simp; omega
  by_cases h6 : 122 < s[0].toNat
  · have hr := nameB_head s.data.toList (by rw [hh.out]; unfold smallB; simp; omega)
    have Hr := hid hr; clear hr
    have hd6 : decide (122 < (s[0].toNat : Int)) = true := by simp; omega
    go_enter Tryz.func54, Tryz.ntmps54
    go_wp2
    go_ret
    exact ⟨ret_bool Hr.out.symm, rfl⟩
  have hd6 : decide (122 < (s[0].toNat : Int)) = false := by simp; omega
  have h7 : smallB s[0] = true := by unfold smallB; simp; omega
  have H7 := hid h7; clear h7
  go_enter Tryz.func54, Tryz.ntmps54
  go_wp2
  go_loop [3] (fun i => ∃ k : Nat, k ≤ s.size ∧ i = .int .i64 k ∧ (s.data.toList.take k).all wordB = true) (fun i => s.size - (intOf i).toNat)
  case atStart => exact ⟨0, Nat.zero_le _, rfl, rfl⟩
  case round =>
    obtain ⟨k, hk, rfl, hal⟩ := hrel
    have Hal := hid hal; clear hal
    by_cases hlt : k < s.size
    · by_cases ha : 97 ≤ s[k].toNat
      · have ha1 : decide (97 ≤ (s[k].toNat : Int)) = true := by simp; omega
        by_cases hb : s[k].toNat ≤ 122
        · have hb1 : decide ((s[k].toNat : Int) ≤ 122) = true := by simp; omega
          have hn : Hid ((s.data.toList.take (k+1)).all wordB = true) := all_take_succ _ k hlt Hal.out (wordB_small ha hb)
          go_wp2
          go_round
          case rel => exact ⟨k + 1, by omega, by go_num, hn.out⟩
          case measure => simp [intOf]; omega
        · have hb1 : decide ((s[k].toNat : Int) ≤ 122) = false := by simp; omega
          have hn : nameB s.data.toList = false := nameB_at _ k hlt (wordB_not (c := s[k]) (by omega) (by omega) (by omega))
          have Hn := hid hn; clear hn
          have hc1 : decide (48 ≤ (s[k].toNat : Int)) = true := by simp; omega
          have hd1 : decide ((s[k].toNat : Int) ≤ 57) = false := by simp; omega
          have he1 : ((s[k].toNat : Int) == 95) = false := by simp; omega
          go_wp2
          go_ret
          exact ⟨ret_bool Hn.out.symm, rfl⟩
      · have ha1 : decide (97 ≤ (s[k].toNat : Int)) = false := by simp; omega
        by_cases hc : 48 ≤ s[k].toNat
        · have hc1 : decide (48 ≤ (s[k].toNat : Int)) = true := by simp; omega
          by_cases hd : s[k].toNat ≤ 57
          · have hd1 : decide ((s[k].toNat : Int) ≤ 57) = true := by simp; omega
            have hn : Hid ((s.data.toList.take (k+1)).all wordB = true) := all_take_succ _ k hlt Hal.out (wordB_digit hc hd)
            go_wp2
            go_round
            case rel => exact ⟨k + 1, by omega, by go_num, hn.out⟩
            case measure => simp [intOf]; omega
          · have hd1 : decide ((s[k].toNat : Int) ≤ 57) = false := by simp; omega
            by_cases he : s[k].toNat = 95
            · have he1 : ((s[k].toNat : Int) == 95) = true := by simp; omega
              have hn : Hid ((s.data.toList.take (k+1)).all wordB = true) := all_take_succ _ k hlt Hal.out (wordB_line he)
              clear he
              go_wp2
              go_round
              case rel => exact ⟨k + 1, by omega, by go_num, hn.out⟩
              case measure => simp [intOf]; omega
            · have he1 : ((s[k].toNat : Int) == 95) = false := by simp; omega
              have hn : nameB s.data.toList = false := nameB_at _ k hlt (wordB_not (c := s[k]) (by omega) (by omega) (by omega))
              have Hn := hid hn; clear hn
              go_wp2
              go_ret
              exact ⟨ret_bool Hn.out.symm, rfl⟩
        · have hc1 : decide (48 ≤ (s[k].toNat : Int)) = false := by simp; omega
          have he1 : ((s[k].toNat : Int) == 95) = false := by simp; omega
          have hn : nameB s.data.toList = false := nameB_at _ k hlt (wordB_not (c := s[k]) (by omega) (by omega) (by omega))
          have Hn := hid hn; clear hn
          go_wp2
          go_ret
          exact ⟨ret_bool Hn.out.symm, rfl⟩
    · have hr : nameB s.data.toList = true := by
        rw [nameB_iff]
        refine ⟨by rw [hL.out]; omega, by rw [hL.out]; omega, by rw [hh.out]; exact H7.out, ?_⟩
        have := Hal.out
        rwa [List.take_of_length_le (by rw [hL.out]; omega)] at this
      have Hr := hid hr; clear hr
      go_wp2
      go_ret
      exact ⟨ret_bool Hr.out.symm, rfl⟩

def validB (l : List UInt8) (r z d g : Int) : Bool :=
  nameB l && (decide (-200 ≤ r) && decide (r ≤ 800)) && (decide (1 ≤ z) && decide (z ≤ 60)) && (decide (1 ≤ d) && decide (d ≤ 1000000)) && (decide (1 ≤ g) && decide (g ≤ 20))

theorem five (a b c d e : Bool) : a = false ∨ (a = true ∧ b = false) ∨ (a = true ∧ b = true ∧ c = false) ∨ (a = true ∧ b = true ∧ c = true ∧ d = false) ∨ (a = true ∧ b = true ∧ c = true ∧ d = true ∧ e = false) ∨ (a = true ∧ b = true ∧ c = true ∧ d = true ∧ e = true) := by
  cases a <;> cases b <;> cases c <;> cases d <;> cases e <;> simp

set_option maxHeartbeats 1000000 in
theorem lvalid_any (s : ByteArray) (r z d g : Int) (w : World) (hs : s.size ≤ maxLen) :
    Calls Tryz.prog 65 #[.agg #[.string s, .int .i64 r, .int .i64 z, .int .i64 d, .int .i64 g]] w fun e w' => e = .returned (.bool (validB s.data.toList r z d g)) ∧ Below w.heap.size w w' := by
  have hv : validB s.data.toList r z d g = (nameB s.data.toList && (decide (-200 ≤ r) && decide (r ≤ 800)) && (decide (1 ≤ z) && decide (z ≤ 60)) && (decide (1 ≤ d) && decide (d ≤ 1000000)) && (decide (1 ≤ g) && decide (g ≤ 20))) := rfl
  have Hv := hid hv; clear hv
  rcases five (nameB s.data.toList) (decide (-200 ≤ r) && decide (r ≤ 800)) (decide (1 ≤ z) && decide (z ≤ 60)) (decide (1 ≤ d) && decide (d ≤ 1000000)) (decide (1 ≤ g) && decide (g ≤ 20)) with h1 | ⟨h1, h2⟩ | ⟨h1, h2, h3⟩ | ⟨h1, h2, h3, h4⟩ | ⟨h1, h2, h3, h4, h5⟩ | ⟨h1, h2, h3, h4, h5⟩
  all_goals
    go_enter Tryz.func65, Tryz.ntmps65
    go_wp2_with (first | (go_at_call 83; refine (lname_any _ _ hs).mono ?_; rintro e w' ⟨rfl, rfl⟩) | (go_at_call 104; refine (within_any _ _ _ _).mono ?_; rintro e w' ⟨rfl, rfl⟩))
    go_ret
    exact ⟨ret_bool (by rw [Hv.out]; simp only [Bool.false_and, *]; try rfl), (Below.refl _ _).alloc (Nat.le_refl _) _⟩

set_option maxHeartbeats 1000000 in
theorem rvalid_any (s : ByteArray) (r z d g : Int) (w : World) (hs : s.size ≤ maxLen) :
    Calls Tryz.prog 18 #[.agg #[.string s, .int .i64 r, .int .i64 z, .int .i64 d, .int .i64 g]] w fun e w' => e = .returned (.bool (validB s.data.toList r z d g)) ∧ Below w.heap.size w w' := by
  have hv : validB s.data.toList r z d g = (nameB s.data.toList && (decide (-200 ≤ r) && decide (r ≤ 800)) && (decide (1 ≤ z) && decide (z ≤ 60)) && (decide (1 ≤ d) && decide (d ≤ 1000000)) && (decide (1 ≤ g) && decide (g ≤ 20))) := rfl
  have Hv := hid hv; clear hv
  rcases five (nameB s.data.toList) (decide (-200 ≤ r) && decide (r ≤ 800)) (decide (1 ≤ z) && decide (z ≤ 60)) (decide (1 ≤ d) && decide (d ≤ 1000000)) (decide (1 ≤ g) && decide (g ≤ 20)) with h1 | ⟨h1, h2⟩ | ⟨h1, h2, h3⟩ | ⟨h1, h2, h3, h4⟩ | ⟨h1, h2, h3, h4, h5⟩ | ⟨h1, h2, h3, h4, h5⟩
  all_goals
    go_enter Tryz.func18, Tryz.ntmps18
    go_wp2_with (first | (go_at_call 54; refine (rname_any _ _ hs).mono ?_; rintro e w' ⟨rfl, rfl⟩) | (go_at_call 55; refine (rwithin_any _ _ _ _).mono ?_; rintro e w' ⟨rfl, rfl⟩))
    go_ret
    exact ⟨ret_bool (by rw [Hv.out]; simp only [Bool.false_and, *]; try rfl), (Below.refl _ _).alloc (Nat.le_refl _) _⟩
end Go.Proofs.YtihbjimnjhfpeaaGreat.Lt
