/- Walks of the reference's Running, SumUp: contracts. -/
import Derived.Test.YtfngmpkceceomaaSe
namespace Go.Proofs.Ytfngmpkceceomaa
open Go.RowKit Go.Lib Go.Maps

/-- The sum of a list, cut at each step. -/
def sumL (f : Int → Nat) (l : List Int) : Nat := l.foldl (fun a t => cutN a (f t)) 0
theorem sumL_succ (f : Int → Nat) (l : List Int) (k : Nat) (hk : k < l.length) : sumL f (l.take (k + 1)) = cutN (sumL f (l.take k)) (f l[k]) := by
  unfold sumL
  rw [List.take_add_one, List.foldl_append]
  simp [hk]
theorem sumL_le (f : Int → Nat) (l : List Int) : sumL f l ≤ 1000000000000000000 := by
  unfold sumL
  suffices h : ∀ (l : List Int) (a : Nat), a ≤ 1000000000000000000 → l.foldl (fun a t => cutN a (f t)) a ≤ 1000000000000000000 from h l 0 (Nat.zero_le _)
  intro l
  induction l with
  | nil => intro a h; exact h
  | cons t l ih => intro a _; exact ih _ (Nat.min_le_right _ _)
/-- The first k running sums. -/
def runK (f : Int → Nat) (l : List Int) (k : Nat) : List Nat := (List.range k).map fun i => sumL f (l.take (i + 1))
theorem runK_len (f : Int → Nat) (l : List Int) (k : Nat) : (runK f l k).length = k := by simp [runK]
theorem runK_succ (f : Int → Nat) (l : List Int) (k : Nat) : runK f l (k + 1) = runK f l k ++ [sumL f (l.take (k + 1))] := by simp [runK, List.range_succ]

def dn (r : Int) (Z : Nat) (t : Int) : Nat := Pm.rateD r Z (t / 250)
def up (r : Int) (Z : Nat) (t : Int) : Nat := Pm.rateU r Z (qUp t)
theorem dn_le (r : Int) (Z : Nat) (t : Int) (h : (1 : Int) ≤ Z) : dn r Z t ≤ 10000000000000000 := Pm.rateD_le r Z _ h
theorem up_le (r : Int) (Z : Nat) (t : Int) (h : (1 : Int) ≤ Z) : up r Z t ≤ 10000000000000001 := by
  have := Pm.rateD_le r Z (qUp t) h
  unfold up; rw [Pm.rateU_eq]; split <;> omega

section
variable {s : ByteArray} {r z d g : Int} {w wr w2 : World} {b gD gU base : Nat}
theorem for_kept {vD vU : Value} (h : ForS s r z d g w b (negs 1003) (negs 1003) vD vU wr) : ∃ gD gU, KeptS s r z d g w b gD gU wr ∧ b < wr.heap.size ∧ gD < wr.heap.size ∧ gU < wr.heap.size := by
  have hD := h.rowD
  have hU := h.rowU
  rw [negs_len] at hD hU
  obtain ⟨gD, cD, rfl⟩ := row_succ (k := 1002) hD
  obtain ⟨gU, cU, rfl⟩ := row_succ (k := 1002) hU
  exact ⟨gD, gU, ⟨_, _, cD, cU, h, rowsOk_start r z⟩, lt_of_block h.blk, (World.ownsRow.lt hD gD rfl).2, (World.ownsRow.lt hU gU rfl).2⟩
theorem KeptS.grown {row : Option Nat} (h : KeptS s r z d g w b gD gU wr) (hg : wr.grownBy w2 row) (hr : ∀ j, row = some j → base ≤ j) (hb : b < base) (hD : gD < base) (hU : gU < base) : KeptS s r z d g w b gD gU w2 := by
  obtain ⟨l1, l2, cD, cU, h, hR⟩ := h
  have hbl := lt_of_block h.blk
  refine ⟨l1, l2, cD, cU, ⟨(hg.block b hbl (fun e => by have := hr _ e.symm; omega)).trans h.blk, World.ownsRow.kept h.rowD hg (.inr fun e => by have : base ≤ gD := hr _ e.symm; omega), World.ownsRow.kept h.rowU hg (.inr fun e => by have : base ≤ gU := hr _ e.symm; omega), h.ne, h.low.grown hg h.low.size (fun j hj => by have := hr j hj; have := h.le; omega), h.le⟩, hR⟩
theorem KeptS.low (h : KeptS s r z d g w b gD gU wr) : Below w.heap.size w wr := by
  obtain ⟨_, _, _, _, h, _⟩ := h
  exact h.low
theorem KeptS.append {v : Value} {l : List Nat} {o : Obj} (h : KeptS s r z d g w b gD gU wr) (hv : RowV wr base v l) (hg : (wr.alloc o).grownBy w2 v.ownBlock) (hb : b < base) (hD : gD < base) (hU : gU < base) : KeptS s r z d g w b gD gU w2 :=
  (h.grown (base := base) (World.grownBy_alloc wr o none) (fun k hk => by cases hk) hb hD hU).grown hg (fun k hk => (World.ownsRow.lt hv k hk).1) hb hD hU
theorem RowV.still {v : Value} {l : List Nat} (h : RowV wr base v l) (hs : Still gD gU wr w2) (hD : gD < base) (hU : gU < base) : RowV w2 base v l := by
  refine ⟨h.1, ?_⟩
  rcases h.2 with h1 | ⟨a, cap, cur, hv, hb, hg, rest⟩
  · exact .inl h1
  · exact .inr ⟨a, cap, cur, hv, hb, (hs.block a (lt_of_block hg) (by omega) (by omega)).trans hg, rest⟩
end

/-- What Running hands back of good lists. -/
def RunP (f : Int → Nat) (l : List Int) (w : World) (e : Ending) (w' : World) : Prop := ∃ v, e = .returned (.tuple #[v, .int .i64 0]) ∧ RowR w' v (runK f l l.length) ∧ Below w.heap.size w w'

set_option maxHeartbeats 4000000 in
theorem rRunning_no (s : ByteArray) (r z d g : Int) (w : World) (hs : s.size ≤ maxLen) (v : Value) (l : List Int) (hl : RowI w v l) (hne : askE (validB s.data.toList r z d g) l ≠ 0) :
    Calls Try.prog 43 #[.agg #[.string s, .int .i64 r, .int .i64 z, .int .i64 d, .int .i64 g], v] w fun e w' => e = .returned (.tuple #[.slice none 0 0, .int .i64 (askE (validB s.data.toList r z d g) l)]) ∧ Below w.heap.size w w' := by
  obtain ⟨c, hc⟩ : ∃ c, c = askE (validB s.data.toList r z d g) l := ⟨_, rfl⟩
  rw [← hc] at hne ⊢
  have HC := hid hc; clear hc
  have hb : (c == 0) = false := by simpa using hne
  have HL := hid (RowI.keep hl (((Below.refl _ w).alloc (Nat.le_refl _) (.cells #[.string s, .int .i64 r, .int .i64 z, .int .i64 d, .int .i64 g] 23))))
  go_enter Try.func43, Try.ntmps43
  go_wp2_with (go_at_call 72; refine (asked_any _ _ _ _ _ _ hs _ l HL.out).mono ?_; rintro e w1 ⟨rfl, hb1⟩; rw [← HC.out]; obtain ⟨b0, b1, b2, b3, b4, hz, hB⟩ := box5_below hb1; clear hb1)
  go_ret2
  exact ⟨rfl, hB⟩

set_option maxHeartbeats 8000000 in
theorem rRunning_yes (s : ByteArray) (r d g : Int) (Z : Nat) (w : World) (hs : s.size ≤ maxLen) (b o cap : Nat) (l : List Int) (hv : validB s.data.toList r Z d g = true) (ho : okL l = true) (hlen : l.length ≤ 10000)
    (hl : ∀ k (h : k < l.length), w.cell? ⟨b, o + k, none⟩ = some (.int .i64 l[k])) :
    Calls Try.prog 43 #[.agg #[.string s, .int .i64 r, .int .i64 Z, .int .i64 d, .int .i64 g], .slice (some ⟨b, o, none⟩) l.length cap] w (RunP (dn r Z) l w) := by
  obtain ⟨_, ⟨r1, r2⟩, ⟨z1, z2⟩, _, _⟩ := validB_iff.1 hv
  obtain ⟨i0, hi, hz0, hz1, hz2⟩ := info_parts info_int
  have HA := hid (askE_ok (l := l) (by omega) ho)
  have HLI : Hid (RowI (w.alloc (.cells #[.string s, .int .i64 r, .int .i64 Z, .int .i64 d, .int .i64 g] 23)) (.slice (some ⟨b, o, none⟩) l.length cap) l) := RowI.keep (.inr ⟨b, o, cap, rfl, by unfold maxLen; omega, hl⟩) ((Below.refl _ w).alloc (Nat.le_refl _) _)
  have HO := hid ho
  have HLC := hid hl
  clear hl ho
  go_enter Try.func43, Try.ntmps43
  go_wp2_with (first
    | (go_at_call 72; refine (asked_any _ _ _ _ _ _ hs _ l HLI.out).mono ?_; rintro e w1 ⟨rfl, hb1⟩; rw [hv, HA.out]; obtain ⟨b0, b1, b2, b3, b4, hz, hB⟩ := box5_below hb1; clear hb1)
    | (go_at_call 73; refine (for_any _ _ _ _ _ _ hs).mono ?_; rintro e w2 ⟨p, vD, vU, rfl, hF⟩; have HF := hid hF; clear hF))
  obtain ⟨gD, gU, hK, hp, hgD, hgU⟩ := for_kept HF.out
  have HK := hid hK; have HP := hid (And.intro hp (And.intro hgD hgU)); have HB := hid hB
  clear hK hp hgD hgU HF b0 b1 b2 b3 b4 hz hB HLI
  obtain ⟨base, hbase⟩ : ∃ base, base = w2.heap.size := ⟨_, rfl⟩
  rw [← hbase] at HP
  have HB0 : Hid (base ≤ w2.heap.size) := by unfold Hid; omega
  clear hbase
  go_loopw [8, 9, 10] (fun v c i wr => ∃ k : Nat, k ≤ l.length ∧ i = .int .i64 (k : Int) ∧ ∃ c0 : Nat, c = .int .i64 (c0 : Int) ∧ Hid (c0 = sumL (dn r Z) (l.take k)) ∧ RowV wr base v (runK (dn r Z) l k) ∧ Hid (KeptS s r Z d g w1 p gD gU wr) ∧ base ≤ wr.heap.size) (fun _ _ i _ => l.length - (intOf i).toNat)
  case atStart => exact ⟨0, Nat.zero_le _, rfl, 0, rfl, rfl, World.ownsRow_nil _ _ _ _, HK, HB0.out⟩
  case round =>
    obtain ⟨k, hk, rfl, c0, rfl, hc0, hrow, hK, hsz⟩ := hrel
    have hBw : Hid (Below w.heap.size w wr) := HB.out.trans (hK.out.low.mono HB.out.size)
    have hcs : c0 ≤ 1000000000000000000 := by rw [hc0.out]; exact sumL_le _ _
    have hrl := runK_len (dn r Z) l k
    clear HK HB0
    by_cases hlt : k < l.length
    · have ex := keep_cell hBw.out (HLC.out k hlt)
      have hsum := sumL_succ (dn r Z) l k hlt
      rw [← hc0.out] at hsum
      have hot := okL_all HO.out k hlt
      have hrs := runK_succ (dn r Z) l k
      rw [hsum] at hrs
      have HSUM := hid hsum; have HRS := hid hrs
      clear hsum hrs
      generalize l[k] = t at ex hot HSUM HRS
      have hot' : -50000 ≤ t ∧ t ≤ 200000 := by simpa [okT] using hot
      obtain ⟨t1, t2⟩ := hot'
      have hx := dn_le r Z t z1
      obtain ⟨x, hX⟩ : ∃ x, x = dn r Z t := ⟨_, rfl⟩
      rw [← hX] at hx HSUM HRS
      have HX := hid hX; clear hX hot
      have hlt' : (k : Int) < l.length := by omega
      go_wp2_with (first
        | (go_at_call 74; refine (at_any s r d g t Z w1 p gD gU _ r1 r2 (by omega) (by omega) t1 t2 hK.out).mono ?_; rintro e w3 ⟨rfl, hK3, hs3⟩; rw [show Pm.rateD r Z (t / 250) = x from HX.out.symm]; have HK3 := hid hK3; have hrow3 := RowV.still hrow hs3 HP.out.2.1 HP.out.2.2; have hsz3 := Nat.le_trans hsz hs3.size; clear hK3 hs3)
        | (go_at_call 44; refine (cut_any c0 x _ hcs (by omega)).mono ?_; rintro e w4 ⟨rfl, rfl⟩)
        | (at_builtin; refine wpList_append_own _ rfl _ _ 32 rfl base 3 i0 (.int .i64 0) 1 8 Try.underlying32 hi hz0 hz1 hz2 rfl (by decide) _ _ _ rfl (World.ownsRow.alloc hrow3 _) ⟨w3.heap.size, 0, none⟩ 1 1 [.int .i64 ((cutN c0 x : Nat) : Int)] rfl rfl cell_one_at one_cell (by unfold maxLen; omega) (by omega) (by simp; omega) ?_; intro v1 w5 hown5 hgrow5 _))
      go_roundw
      case rel => exact ⟨k + 1, by omega, by go_num, cutN c0 x, rfl, HSUM.out.symm, by rw [HRS.out]; exact row_append rfl hown5, HK3.out.append hrow3 hgrow5 HP.out.1 HP.out.2.1 HP.out.2.2, Nat.le_trans (by simp; omega) hgrow5.size⟩
      case measure => simp [intOf]; omega
    · obtain rfl : k = l.length := by omega
      go_wp2
      go_ret2
      exact ⟨_, rfl, hrow.reads, hBw.out⟩
end Go.Proofs.Ytfngmpkceceomaa
