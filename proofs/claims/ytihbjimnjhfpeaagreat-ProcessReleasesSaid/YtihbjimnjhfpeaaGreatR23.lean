/- Texts of this seat, one behind the other. -/
import Derived.Test.YtihbjimnjhfpeaaGreatR22
import Derived.Test.YtihbjimnjhfpeaaGreatR17
/- Walks of the reference's Marks, and of Baths of both: contracts. -/
namespace Go.Proofs.YtihbjimnjhfpeaaGreat.Rt
open Go.RowKit


/-- A row of ints of the call's own comes back. -/
def OwnP (l : List Int) (w : World) (e : Ending) (w' : World) : Prop := ∃ v, e = .returned v ∧ OwnL w' w.heap.size v l ∧ Below w.heap.size w w'
theorem below_grow {W w1 : World} (hg : W.grownBy w1 none) : Below W.heap.size W w1 := (Below.refl _ _).grown hg (Nat.le_refl _) (fun k hk => by cases hk)
set_option maxHeartbeats 4000000 in
theorem baths_any (v : Value) (n : Nat) (r : Nat → Rd) (w : World) (hr : RowR w v n r) (hn : n ≤ 2100) :
    Calls Tryz.prog 44 #[v] w (OwnP (bathsL r n) w) := by
  have HK := hid (fun w1 (g : Below w.heap.size w w1) => hr.keep g)
  obtain ⟨a, b, o, cap, rfl, hc, hm, ha, _⟩ := hr
  have HA := hid ha
  obtain ⟨i0, hi, hz0, hz1, hz2⟩ := info_parts infoI
  clear ha
  go_enter Tryz.func44, Tryz.ntmps44
  go_wp2_with (at_make; refine wpList_make_own _ rfl _ _ 28 rfl w.heap.size 3 i0 (.int .i64 0) 1 Tryz.underlying28 hi hz0 hz1 _ _ _ n rfl rfl (by omega) (by rw [hz2]; omega) (by unfold maxLen; omega) (Nat.le_refl _) ?_; intro w0 hown0 hgrow0)
  have HR0 : Hid (OwnL w0 w.heap.size _ (bathsL r 0)) := hown0
  have HB0 := hid (below_grow hgrow0)
  clear hown0 hgrow0
  go_loopw [3, 11] (fun v t wr => ∃ k : Nat, k ≤ n ∧ t = .int .i64 (k : Int) ∧ Hid (OwnL wr w.heap.size v (bathsL r k)) ∧ Hid (Below w.heap.size w wr)) (fun _ t _ => n - (intOf t).toNat)
  case atStart => exact ⟨0, Nat.zero_le _, rfl, HR0, HB0⟩
  case round =>
    obtain ⟨k, hk, rfl, hrow, hB⟩ := hrel
    have hlen := bathsL_len r k
    by_cases hlt : k < n
    · have hlt' : (k : Int) < n := by omega
      obtain ⟨a', b', o', cap', hv, _, _, ha', hcell⟩ := HK.out _ hB.out
      injection hv with hv1 hv2 hv3
      subst hv1 hv3
      rcases ha' with h0 | rfl
      · omega
      obtain ⟨c0, c1, c2, c3⟩ := hcell k hlt
      have HL := hid (bathsL_succ r k)
      obtain ⟨x, hX⟩ : ∃ x, x = r k := ⟨_, rfl⟩
      rw [← hX] at c0 c1 c2 c3 HL
      clear hcell hX hv2 hlt
      have HO := hid (World.ownsRow.alloc hrow.out (.cells #[.int .i64 x.s, .int .i64 x.t, .int .i64 x.c, .int .i64 x.b] 56))
      go_wp2_with (at_builtin; refine wpList_append_own _ rfl _ _ 28 rfl w.heap.size 3 i0 (.int .i64 0) 1 8 Tryz.underlying28 hi hz0 hz1 hz2 rfl (by decide) _ _ _ rfl (World.ownsRow.alloc HO.out _) ⟨wr.heap.size + 1, 0, none⟩ 1 1 [.int .i64 x.b] rfl rfl (cell_one_new (by simp)) one_cell1 (by unfold maxLen; omega) (by omega) (by have := hB.out.size; simp; omega) ?_; intro v1 w3 hown3 hgrow3 _)
      have HB3 := hid (below_app hB.out hrow.out (Nat.le_refl _) hgrow3)
      have HR3 : Hid (OwnL w3 w.heap.size v1 (bathsL r (k + 1))) := by rw [HL.out]; exact ownL_app hown3
      clear hown3 hgrow3
      go_roundw
      case rel => exact ⟨k + 1, by omega, by go_num, HR3, HB3⟩
      case measure => simp [intOf]; omega
    · obtain rfl : k = n := by omega
      go_wp2
      go_ret
      exact ⟨_, rfl, hrow.out, hB.out⟩
set_option maxHeartbeats 4000000 in
theorem xbaths_any (v : Value) (n : Nat) (r : Nat → Rd) (w : World) (hr : RowR w v n r) (hn : n ≤ 2100) :
    Calls Tryz.prog 20 #[v] w (OwnP (bathsL r n) w) := by
  have HK := hid (fun w1 (g : Below w.heap.size w w1) => hr.keep g)
  obtain ⟨a, b, o, cap, rfl, hc, hm, ha, _⟩ := hr
  have HA := hid ha
  obtain ⟨i0, hi, hz0, hz1, hz2⟩ := info_parts infoI
  clear ha
  go_enter Tryz.func20, Tryz.ntmps20
  go_wp2
  go_loopw [3, 4] (fun v t wr => ∃ k : Nat, k ≤ n ∧ t = .int .i64 (k : Int) ∧ Hid (OwnL wr w.heap.size v (bathsL r k)) ∧ Hid (Below w.heap.size w wr)) (fun _ t _ => n - (intOf t).toNat)
  case atStart => exact ⟨0, Nat.zero_le _, rfl, World.ownsRow_nil _ _ _ _, Below.refl _ _⟩
  case round =>
    obtain ⟨k, hk, rfl, hrow, hB⟩ := hrel
    have hlen := bathsL_len r k
    by_cases hlt : k < n
    · have hlt' : (k : Int) < n := by omega
      obtain ⟨a', b', o', cap', hv, _, _, ha', hcell⟩ := HK.out _ hB.out
      injection hv with hv1 hv2 hv3
      subst hv1 hv3
      rcases ha' with h0 | rfl
      · omega
      obtain ⟨c0, c1, c2, c3⟩ := hcell k hlt
      have HL := hid (bathsL_succ r k)
      obtain ⟨x, hX⟩ : ∃ x, x = r k := ⟨_, rfl⟩
      rw [← hX] at c0 c1 c2 c3 HL
      clear hcell hX hv2 hlt
      go_wp2_with (at_builtin; refine wpList_append_own _ rfl _ _ 28 rfl w.heap.size 3 i0 (.int .i64 0) 1 8 Tryz.underlying28 hi hz0 hz1 hz2 rfl (by decide) _ _ _ rfl (World.ownsRow.alloc hrow.out _) ⟨wr.heap.size, 0, none⟩ 1 1 [.int .i64 x.b] rfl rfl (cell_one_new rfl) one_cell1 (by unfold maxLen; omega) (by omega) (by have := hB.out.size; simp; omega) ?_; intro v1 w3 hown3 hgrow3 _)
      have HB3 := hid (below_app1 hB.out hrow.out (Nat.le_refl _) hgrow3)
      have HR3 : Hid (OwnL w3 w.heap.size v1 (bathsL r (k + 1))) := by rw [HL.out]; exact ownL_app hown3
      clear hown3 hgrow3
      go_roundw
      case rel => exact ⟨k + 1, by omega, by go_num, HR3, HB3⟩
      case measure => simp [intOf]; omega
    · obtain rfl : k = n := by omega
      go_wp2
      go_ret
      exact ⟨_, rfl, hrow.out, hB.out⟩
end Go.Proofs.YtihbjimnjhfpeaaGreat.Rt

/- Walks of Credit of both: contracts. -/
namespace Go.Proofs.YtihbjimnjhfpeaaGreat.Rt
open Go.RowKit

theorem ivs_set (l : List Int) (n : Nat) (x : Int) : (ivs l).set n (.int .i64 x) = ivs (l.set n x) := by simp [ivs, List.map_set]
theorem ivs_at {l : List Int} {n : Nat} {x : Int} (h : l[n]? = some x) : (ivs l)[n]? = some (.int .i64 x) := by simp [ivs, h]
theorem OwnL.drewN {w : World} {base : Nat} {v : Value} {l : List Int} (h : OwnL w base v l) (k : Nat) : OwnL (w.drewN k) base v l := h
end Go.Proofs.YtihbjimnjhfpeaaGreat.Rt

/- Marks and Credit of both, whatever comes in: contracts. -/
namespace Go.Proofs.YtihbjimnjhfpeaaGreat.Rt
open Go.RowKit

def marksO (r : Nat → Rd) (n : Nat) (e : Int) : List Int := if markE n e = 0 then marksL r n e.toNat n else []
def credO (r : Nat → Rd) (n : Nat) (e : Int) : List Int := if markE n e = 0 then credL r n e.toNat n else []
end Go.Proofs.YtihbjimnjhfpeaaGreat.Rt

/- Walks of cut, cut4, Credited: contracts. -/
namespace Go.Proofs.YtihbjimnjhfpeaaGreat
open Go.RowKit Go.Lib

def cutT (b : Int) : Int := if 200000 < (if b < -50000 then -50000 else b) then 200000 else (if b < -50000 then -50000 else b)
def cutL (l : List Int) : List Int := l.map cutT
theorem cutL_take (l : List Int) (k : Nat) (h : k < l.length) : cutL (l.take (k + 1)) = cutL (l.take k) ++ [cutT l[k]] := by
  unfold cutL
  rw [List.take_add_one, List.getElem?_eq_getElem h, List.map_append]
  rfl
theorem cutL_len (l : List Int) : (cutL l).length = l.length := by simp [cutL]
set_option maxRecDepth 20000 in
set_option maxHeartbeats 4000000 in
theorem cut_any (v : Value) (l : List Int) (w : World) (hl : RowI w v l) (hn : l.length ≤ 100000) :
    Calls Tryz.prog 43 #[v] w (NewI w (cutL l)) := by
  obtain ⟨a0, b', o', cap, rfl, ha, hc, _⟩ := hl.form
  have HC := hid (fun W (g : Below w.heap.size w W) j (hj : j < l.length) => keep_cell g (hc j hj))
  have HA := hid ha
  obtain ⟨i0, hi, hz0, hz1, hz2⟩ := info_parts infoQc
  clear hl ha hc
  go_enter Tryz.func43, Tryz.ntmps43
  go_wp2_with (at_make; refine wpList_make_own _ rfl _ _ 28 rfl w.heap.size 3 i0 (.int .i64 0) 1 Tryz.underlying28 hi hz0 hz1 _ _ _ l.length rfl rfl (by omega) (by rw [hz2]; omega) (by unfold maxLen; omega) (Nat.le_refl _) ?_; intro w0 hown0 hgrow0)
  have HR0 : Hid (w0.ownsRow w.heap.size 3 1 (.slice (some ⟨w.heap.size, 0, none⟩) 0 l.length) (ivs (cutL (l.take 0))).length (ivs (cutL (l.take 0)))) := hown0
  have HB0 := hid ((Below.refl _ w).grown hgrow0 (Nat.le_refl _) (fun j e => by cases e))
  clear hown0 hgrow0
  go_loopw [3, 11] (fun u t wr => ∃ k : Nat, k ≤ l.length ∧ t = .int .i64 (k : Int) ∧ Hid (wr.ownsRow w.heap.size 3 1 u (ivs (cutL (l.take k))).length (ivs (cutL (l.take k)))) ∧ Hid (Below w.heap.size w wr)) (fun _ t _ => l.length - (intOf t).toNat)
  case atStart => exact ⟨0, Nat.zero_le _, rfl, HR0, HB0⟩
  case round =>
    obtain ⟨k, hk, rfl, hO, hB⟩ := hrel
    obtain ⟨ua, uc, rfl⟩ := own_shapeP hO.out
    by_cases hlt : k < l.length
    · have hlt' : (k : Int) < l.length := by omega
      have haa : a0 = some ⟨b', o', none⟩ := HA.out.resolve_left (fun e => by rw [e] at hlt; simp at hlt)
      subst haa
      have ex := HC.out _ hB.out k hlt
      have HS := hid (cutL_take l k hlt)
      have HLN := hid (show (cutL (l.take k)).length ≤ 100000 by rw [cutL_len, List.length_take]; omega)
      have HLT := hid hlt
      have hct : Hid (cutT l[k] = if 200000 < (if l[k] < -50000 then -50000 else l[k]) then 200000 else (if l[k] < -50000 then -50000 else l[k])) := rfl
      generalize cutL (l.take k) = F at *
      generalize l[k] = x at *
      generalize hy : cutT x = y at *
      clear hlt hy
      go_wp2_with (at_builtin; (refine wpList_app rfl (.tmp 15) (.tmp 19) 28 rfl w.heap.size 3 i0 Tryz.underlying28 hi hz0 hz1 hz2 _ (ivs F) rfl (World.ownsRow.alloc hO.out _) _ [y] rfl (by rw [hct.out]; exact (one_row _ _ rfl).src) (by rw [ivs_len]; have := HLN.out; simp; omega) (by have := hB.out.size; simp; omega) ?_); intro v3 w6 hA1; have HB6 := hid (app_low (hB.out.alloc hB.out.size _) (World.ownsRow.alloc hO.out _) (Nat.le_refl _) hA1); have HO6 := hid (app_next hA1); obtain ⟨a3, c3, rfl⟩ := own_shapeP HO6.out; clear hA1)
      go_roundw
      case rel => exact ⟨k + 1, HLT.out, by go_num, by have h := HO6.out; rw [List.length_append, List.length_singleton] at h; rw [HS.out, ivs_len, List.length_append, List.length_singleton]; exact hid h, HB6⟩
      case measure => have := HLT.out; simp [intOf]; omega
    · obtain rfl : k = l.length := by omega
      rw [List.take_length] at hO ⊢
      go_wp2_with fail
      go_ret
      exact ⟨_, rfl, hO.out, hB.out⟩
/-- What Credited hands back. -/
def crdL (r : Nat → Rt.Rd) (n : Nat) (e : Int) : List Int := cutL (Rt.credO r n e)
def crdE (vc vk : Bool) (t : Int) (n : Nat) (e : Int) : Int := if chk4 vc vk t [] = 0 then Rt.markE n e else chk4 vc vk t []
end Go.Proofs.YtihbjimnjhfpeaaGreat

/- Three boxes read; valid at a can and two killers: contracts. -/
namespace Go.Proofs.YtihbjimnjhfpeaaGreat
open Go.RowKit Go.Lib

theorem B3.can {w W : World} {T1 T2 T3 : TypeId} {A B R : Array Value} (h : B3 w W T1 T2 T3 A B R) (i : Nat) : W.cell? ⟨w.heap.size, i, none⟩ = A[i]? := cell_of_row _ _ i _ _ _ h.one
theorem B3.kil {w W : World} {T1 T2 T3 : TypeId} {A B R : Array Value} (h : B3 w W T1 T2 T3 A B R) (i : Nat) : W.cell? ⟨w.heap.size + 1, i, none⟩ = B[i]? := cell_of_row _ _ i _ _ _ h.two
theorem B3.spo {w W : World} {T1 T2 T3 : TypeId} {A B R : Array Value} (h : B3 w W T1 T2 T3 A B R) (i : Nat) : W.cell? ⟨w.heap.size + 1 + 1, i, none⟩ = R[i]? := cell_of_row _ _ i _ _ _ h.three
theorem klAt_two {W : World} {n : Nat} (q x : Kl) (T : TypeId) (fz : Nat × Nat) (h : W.heap.size = n) : RowKl (W.alloc (.cells #[.string q.s, .int .i64 q.r, .int .i64 q.z, .int .i64 q.d, .int .i64 q.g, .string x.s, .int .i64 x.r, .int .i64 x.z, .int .i64 x.d, .int .i64 x.g] T fz)) n [q, x] := by
  subst h
  intro i hi
  have hi2 : i < 2 := by simpa using hi
  match i, hi2 with
  | 0, _ => exact ⟨cell_alloc_new _ _ _ _ 0, cell_alloc_new _ _ _ _ 1, cell_alloc_new _ _ _ _ 2, cell_alloc_new _ _ _ _ 3, cell_alloc_new _ _ _ _ 4⟩
  | 1, _ => exact ⟨cell_alloc_new _ _ _ _ 5, cell_alloc_new _ _ _ _ 6, cell_alloc_new _ _ _ _ 7, cell_alloc_new _ _ _ _ 8, cell_alloc_new _ _ _ _ 9⟩
/-- valid at a can and two killers laid side by side. -/
theorem pvalid_two (r l a b k a2 b2 : Int) (w : World) (q x : Kl) (n : Nat) (hn : w.heap.size = n) (hs : q.s.size ≤ maxLen) (hx : x.s.size ≤ maxLen) :
    Calls Tryz.prog 27 #[.agg #[.int .i64 r, .int .i64 l, .int .i64 a, .int .i64 b, .int .i64 k, .int .i64 a2, .int .i64 b2], .slice (some ⟨n, 0, none⟩) 2 2] (w.alloc (.cells #[.string q.s, .int .i64 q.r, .int .i64 q.z, .int .i64 q.d, .int .i64 q.g, .string x.s, .int .i64 x.r, .int .i64 x.z, .int .i64 x.d, .int .i64 x.g] 25)) fun e w' => e = .returned (.bool ((q.vB && x.vB) && canB r l a b k a2 b2)) ∧ Below (w.alloc (.cells #[.string q.s, .int .i64 q.r, .int .i64 q.z, .int .i64 q.d, .int .i64 q.g, .string x.s, .int .i64 x.r, .int .i64 x.z, .int .i64 x.d, .int .i64 x.g] 25)).heap.size (w.alloc (.cells #[.string q.s, .int .i64 q.r, .int .i64 q.z, .int .i64 q.d, .int .i64 q.g, .string x.s, .int .i64 x.r, .int .i64 x.z, .int .i64 x.d, .int .i64 x.g] 25)) w' := by
  have := pvalid_any r l a b k a2 b2 _ n 2 [q, x] (klAt_two (W := w) q x 25 (0, 0) hn) (by simpa using ⟨hs, hx⟩) (by simp)
  simpa using this
end Go.Proofs.YtihbjimnjhfpeaaGreat
