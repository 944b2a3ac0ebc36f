/- Walks of within, of marks, and of Marks and Baths of both: contracts. -/
import Derived.Test.YtpkdainpmgohiaaVt
import Derived.Test.YtpkdainpmgohiaaGb
import Derived.Laws.OwnMore
namespace Go.Proofs.Ytpkdainpmgohiaa
open Go.RowKit

set_option maxHeartbeats 400000 in
theorem vwithin_any (a b c : Int) (w : World) :
    Calls Try.prog 100 #[.int .i64 a, .int .i64 b, .int .i64 c] w fun e w' => e = .returned (.bool (inB a b c)) ∧ w = w' := by
  by_cases h : b ≤ a
  · have hd : decide (b ≤ a) = true := by simpa using h
    go_enter Try.func100, Try.ntmps100
    go_wp2
    go_ret
    exact ⟨ret_bool (by unfold inB; rw [hd]; rfl), rfl⟩
  · have hd : decide (b ≤ a) = false := by simpa using h
    go_enter Try.func100, Try.ntmps100
    go_wp2
    go_ret
    exact ⟨ret_bool (by unfold inB; rw [hd]; rfl), rfl⟩
set_option maxHeartbeats 400000 in
theorem xwithin_any (a b c : Int) (w : World) :
    Calls Try.prog 105 #[.int .i64 a, .int .i64 b, .int .i64 c] w fun e w' => e = .returned (.bool (inB a b c)) ∧ w = w' := by
  by_cases h : b ≤ a
  · have hd : decide (b ≤ a) = true := by simpa using h
    go_enter Try.func105, Try.ntmps105
    go_wp2
    go_ret
    exact ⟨ret_bool (by unfold inB; rw [hd]; rfl), rfl⟩
  · have hd : decide (b ≤ a) = false := by simpa using h
    go_enter Try.func105, Try.ntmps105
    go_wp2
    go_ret
    exact ⟨ret_bool (by unfold inB; rw [hd]; rfl), rfl⟩
set_option maxHeartbeats 1000000 in
theorem marked_any (a : Option Addr) (n e i cap : Nat) (w : World) (he : 1 ≤ e) (hn : n ≤ maxLen) (hi : i ≤ maxLen) :
    Calls Try.prog 112 #[.slice a n cap, .int .i64 e, .int .i64 i] w fun x w' => x = .returned (.bool (mkB n e i)) ∧ w = w' := by
  unfold maxLen at hn hi
  by_cases h : i % e = 0
  · have hd : ((i : Int) % (e : Int) == 0) = true := by
      have : (i : Int) % (e : Int) = ((i % e : Nat) : Int) := by omega
      rw [this, h]; rfl
    have hm := hid (mkB_mod (n := n) h)
    have he' : 1 ≤ (e : Int) := by omega
    clear h
    go_enter Try.func112, Try.ntmps112
    go_wp2
    go_ret
    exact ⟨ret_bool hm.out.symm, rfl⟩
  · have hd : ((i : Int) % (e : Int) == 0) = false := by
      have : (i : Int) % (e : Int) = ((i % e : Nat) : Int) := by omega
      rw [this]; simp only [beq_eq_false_iff_ne, ne_eq]; omega
    have hm : Hid (((i : Int) == (n : Int) - 1) = mkB n e i) := by
      unfold Hid mkB
      rw [decide_eq_false h, Bool.false_or, Bool.eq_iff_iff]
      simp only [beq_iff_eq, decide_eq_true_iff]
      omega
    have he' : 1 ≤ (e : Int) := by omega
    clear h
    go_enter Try.func112, Try.ntmps112
    go_wp2
    go_ret
    exact ⟨ret_bool hm.out, rfl⟩
set_option maxHeartbeats 1000000 in
theorem xmarked_any (a : Option Addr) (n e i cap : Nat) (w : World) (he : 1 ≤ e) (hn : n ≤ maxLen) (hi : i ≤ maxLen) :
    Calls Try.prog 114 #[.slice a n cap, .int .i64 e, .int .i64 i] w fun x w' => x = .returned (.bool (mkB n e i)) ∧ w = w' := by
  unfold maxLen at hn hi
  by_cases h : i % e = 0
  · have hd : ((i : Int) % (e : Int) == 0) = true := by
      have : (i : Int) % (e : Int) = ((i % e : Nat) : Int) := by omega
      rw [this, h]; rfl
    have hm := hid (mkB_mod (n := n) h)
    have he' : 1 ≤ (e : Int) := by omega
    clear h
    go_enter Try.func114, Try.ntmps114
    go_wp2
    go_ret
    exact ⟨ret_bool hm.out.symm, rfl⟩
  · have hd : ((i : Int) % (e : Int) == 0) = false := by
      have : (i : Int) % (e : Int) = ((i % e : Nat) : Int) := by omega
      rw [this]; simp only [beq_eq_false_iff_ne, ne_eq]; omega
    have hm : Hid (((i : Int) == (n : Int) - 1) = mkB n e i) := by
      unfold Hid mkB
      rw [decide_eq_false h, Bool.false_or, Bool.eq_iff_iff]
      simp only [beq_iff_eq, decide_eq_true_iff]
      omega
    have he' : 1 ≤ (e : Int) := by omega
    clear h
    go_enter Try.func114, Try.ntmps114
    go_wp2
    go_ret
    exact ⟨ret_bool hm.out, rfl⟩

/-- The error of marks. -/
def markE (n : Nat) (e : Int) : Int := if 2000 < n then 4 else if inB e 1 2000 then 0 else 7
set_option maxHeartbeats 1000000 in
theorem checkMarks_any (a : Option Addr) (n cap : Nat) (e : Int) (w : World) (hn : n ≤ maxLen) :
    Calls Try.prog 111 #[.slice a n cap, .int .i64 e] w fun x w' => x = .returned (.int .i64 (markE n e)) ∧ w = w' := by
  unfold maxLen at hn
  by_cases h : 2000 < n
  · have hd : decide (2000 < (n : Int)) = true := by simp; omega
    have hr : Hid (markE n e = 4) := by unfold Hid markE; rw [if_pos h]
    go_enter Try.func111, Try.ntmps111
    go_wp2
    go_ret
    exact ⟨ret_int hr.out.symm, rfl⟩
  · have hd : decide (2000 < (n : Int)) = false := by simp; omega
    cases hb : inB e 1 2000
    · have hr : Hid (markE n e = 7) := by unfold Hid markE; rw [if_neg h, hb]; rfl
      go_enter Try.func111, Try.ntmps111
      go_wp2_with (go_at_call 100; refine (vwithin_any _ _ _ _).mono ?_; rintro e w' ⟨rfl, rfl⟩)
      go_ret
      exact ⟨ret_int hr.out.symm, rfl⟩
    · have hr : Hid (markE n e = 0) := by unfold Hid markE; rw [if_neg h, hb]; rfl
      go_enter Try.func111, Try.ntmps111
      go_wp2_with (go_at_call 100; refine (vwithin_any _ _ _ _).mono ?_; rintro e w' ⟨rfl, rfl⟩)
      go_ret
      exact ⟨ret_int hr.out.symm, rfl⟩
set_option maxHeartbeats 1000000 in
theorem everyError_any (a : Option Addr) (n cap : Nat) (e : Int) (w : World) (hn : n ≤ maxLen) :
    Calls Try.prog 113 #[.slice a n cap, .int .i64 e] w fun x w' => x = .returned (.int .i64 (markE n e)) ∧ w = w' := by
  unfold maxLen at hn
  by_cases h : 2000 < n
  · have hd : decide (2000 < (n : Int)) = true := by simp; omega
    have hr : Hid (markE n e = 4) := by unfold Hid markE; rw [if_pos h]
    go_enter Try.func113, Try.ntmps113
    go_wp2
    go_ret
    exact ⟨ret_int hr.out.symm, rfl⟩
  · have hd : decide (2000 < (n : Int)) = false := by simp; omega
    cases hb : inB e 1 2000
    · have hr : Hid (markE n e = 7) := by unfold Hid markE; rw [if_neg h, hb]; rfl
      go_enter Try.func113, Try.ntmps113
      go_wp2_with (go_at_call 105; refine (xwithin_any _ _ _ _).mono ?_; rintro e w' ⟨rfl, rfl⟩)
      go_ret
      exact ⟨ret_int hr.out.symm, rfl⟩
    · have hr : Hid (markE n e = 0) := by unfold Hid markE; rw [if_neg h, hb]; rfl
      go_enter Try.func113, Try.ntmps113
      go_wp2_with (go_at_call 105; refine (xwithin_any _ _ _ _).mono ?_; rintro e w' ⟨rfl, rfl⟩)
      go_ret
      exact ⟨ret_int hr.out.symm, rfl⟩

/-- A row of ints of the call's own. -/
def OwnL (w : World) (base : Nat) (v : Value) (l : List Int) : Prop := w.ownsRow base 3 1 v l.length (ivs l)
theorem ownL_app {w : World} {base : Nat} {v : Value} {l : List Int} {x : Int} (h : w.ownsRow base 3 1 v (l.length + 1) (ivs l ++ [.int .i64 x])) : OwnL w base v (l ++ [x]) := by
  unfold OwnL
  rw [List.length_append, show ivs (l ++ [x]) = ivs l ++ [.int .i64 x] by simp [ivs]]
  exact h
theorem infoI : (Try.prog.info? 3).map (fun i => (i.zero, i.size, i.bytes)) = some (some (.int .i64 0), 1, 8) := by kernel_rfl
theorem below_app {W wr w1 : World} {base : Nat} {v : Value} {l : List Int} {o o' : Obj} (hW : Below W.heap.size W wr) (h : OwnL wr base v l) (hb : W.heap.size ≤ base) (hg : ((wr.alloc o).alloc o').grownBy w1 v.ownBlock) : Below W.heap.size W w1 :=
  ((hW.alloc hW.size _).alloc (by have := hW.size; simp; omega) _).grown hg (by have := hW.size; simp; omega) (fun k hk => by have := (World.ownsRow.lt h k hk).1; omega)
theorem below_app1 {W wr w1 : World} {base : Nat} {v : Value} {l : List Int} {o : Obj} (hW : Below W.heap.size W wr) (h : OwnL wr base v l) (hb : W.heap.size ≤ base) (hg : (wr.alloc o).grownBy w1 v.ownBlock) : Below W.heap.size W w1 :=
  (hW.alloc hW.size _).grown hg (by have := hW.size; simp; omega) (fun k hk => by have := (World.ownsRow.lt h k hk).1; omega)
theorem OwnL.rowI {w : World} {base : Nat} {v : Value} {l : List Int} (h : OwnL w base v l) (hl : l.length ≤ 1000000) : RowI w v l := own_rowI h hl
/-- A list of ints and an error come back. -/
def LstP (l : List Int) (n : Int) (w : World) (e : Ending) (w' : World) : Prop := ∃ v, e = .returned (.tuple #[v, .int .i64 n]) ∧ RowI w' v l ∧ Below w.heap.size w w'
theorem rowI_nil (w : World) : RowI w (.slice none 0 0) [] := .inl ⟨_, _, rfl, rfl⟩
theorem cell_one_new {w : World} {u : Value} {T : TypeId} {m : Nat} (hm : w.heap.size = m) : ∀ j x, [u][j]? = some x → (w.alloc (.cells #[u] T)).cell? ((⟨m, 0, none⟩ : Addr).add j) = some x := by
  subst hm
  intro j x h
  cases j with
  | zero => simp at h; subst h; simp [Addr.add]
  | succ j => simp at h
theorem one_cell1 {x : Int} : ∀ u ∈ [Value.int .i64 x], u.oneCell' = true := by intro u hu; simp at hu; subst hu; rfl

set_option maxHeartbeats 4000000 in
theorem marks_ok (v : Value) (n e : Nat) (r : Nat → Rd) (w : World) (hr : RowR w v n r) (hn : n ≤ 2000) (he : 1 ≤ e) (he2 : e ≤ 2000) :
    Calls Try.prog 62 #[v, .int .i64 e] w (LstP (marksL r n e n) 0 w) := by
  have HK := hid (fun w1 (g : Below w.heap.size w w1) => hr.keep g)
  obtain ⟨a, b, o, cap, rfl, hc, hm, ha, _⟩ := hr
  have hE : Hid (markE n e = 0) := by unfold Hid markE; rw [if_neg (by omega), if_pos (inB_iff.2 (by omega))]
  have HA := hid ha
  obtain ⟨i0, hi, hz0, hz1, hz2⟩ := info_parts infoI
  have hnm : n ≤ maxLen := by unfold maxLen; omega
  clear ha
  go_enter Try.func62, Try.ntmps62
  go_wp2_with (go_at_call 111; refine (checkMarks_any _ _ _ _ _ hnm).mono ?_; rintro e w' ⟨rfl, rfl⟩; rw [hE.out])
  go_loopw [7, 18] (fun v t wr => ∃ k : Nat, k ≤ n ∧ t = .int .i64 (k : Int) ∧ Hid (OwnL wr w.heap.size v (marksL r n e k)) ∧ Hid (Below w.heap.size w wr)) (fun _ t _ => n - (intOf t).toNat)
  case atStart => exact ⟨0, Nat.zero_le _, rfl, World.ownsRow_nil _ _ _ _, Below.refl _ _⟩
  case round =>
    obtain ⟨k, hk, rfl, hrow, hB⟩ := hrel
    by_cases hlt : k < n
    · have hlt' : (k : Int) < n := by omega
      obtain ⟨a', b', o', cap', hv, _, _, ha', hcell⟩ := HK.out _ hB.out
      injection hv with hv1 hv2 hv3
      subst hv1 hv3
      rcases ha' with h0 | rfl
      · omega
      obtain ⟨c0, c1, c2, c3⟩ := hcell k hlt
      obtain ⟨x, hX⟩ : ∃ x, x = r k := ⟨_, rfl⟩
      rw [← hX] at c0 c1 c2 c3
      have HX := hid hX
      clear hcell hX hv2
      cases hmk : mkB n e k
      · have HL := hid (marksL_no (r := r) hmk)
        have HB2 := hid (hB.out.alloc hB.out.size (.cells #[.int .i64 x.s, .int .i64 x.t, .int .i64 x.c, .int .i64 x.b] 74))
        have HR2 : Hid (OwnL (wr.alloc (.cells #[.int .i64 x.s, .int .i64 x.t, .int .i64 x.c, .int .i64 x.b] 74)) w.heap.size u7 (marksL r n e (k + 1))) := by rw [HL.out]; exact World.ownsRow.alloc hrow.out _
        clear hlt
        go_wp2_with (go_at_call 112; refine (marked_any _ _ _ _ _ _ he hnm (by omega)).mono ?_; rintro x' w' ⟨rfl, rfl⟩; rw [hmk])
        go_roundw
        case rel => exact ⟨k + 1, by omega, by go_num, HR2, HB2⟩
        case measure => simp [intOf]; omega
      · have HL := hid (marksL_yes (r := r) hmk)
        rw [← HX.out] at HL
        have HO := hid (World.ownsRow.alloc hrow.out (.cells #[.int .i64 x.s, .int .i64 x.t, .int .i64 x.c, .int .i64 x.b] 74))
        have hlen := marksL_len r n e k
        clear hlt
        go_wp2_with (first
          | (go_at_call 112; refine (marked_any _ _ _ _ _ _ he hnm (by omega)).mono ?_; rintro x' w' ⟨rfl, rfl⟩; rw [hmk])
          | (at_builtin; refine wpList_append_own _ rfl _ _ 24 rfl w.heap.size 3 i0 (.int .i64 0) 1 8 Try.underlying24 hi hz0 hz1 hz2 rfl (by decide) _ _ _ rfl (World.ownsRow.alloc HO.out _) ⟨wr.heap.size + 1, 0, none⟩ 1 1 [.int .i64 x.b] rfl rfl (cell_one_new (by simp)) one_cell1 (by unfold maxLen; omega) (by omega) (by have := hB.out.size; simp; omega) ?_; intro v1 w3 hown3 hgrow3 _))
        have HB3 := hid (below_app hB.out hrow.out (Nat.le_refl _) hgrow3)
        have HR3 : Hid (OwnL w3 w.heap.size v1 (marksL r n e (k + 1))) := by rw [HL.out]; exact ownL_app hown3
        clear hown3 hgrow3
        go_roundw
        case rel => exact ⟨k + 1, by omega, by go_num, HR3, HB3⟩
        case measure => simp [intOf]; omega
    · obtain rfl : k = n := by omega
      go_wp2
      go_ret2
      exact ⟨_, rfl, hrow.out.rowI (by have := marksL_len r k e k; omega), hB.out⟩
end Go.Proofs.Ytpkdainpmgohiaa
