/- Texts of this seat, one behind the other. -/
import Derived.Test.YtihbjimnjhfpeaaGreatG07
import Derived.Test.YtihbjimnjhfpeaaGreatG25
import Derived.Test.YtihbjimnjhfpeaaGreatG02
import Derived.Test.YtihbjimnjhfpeaaGreatG16
import Derived.BigQuiet
/- Walks of Coldest, Hottest and Centre of both: contracts. -/
namespace Go.Proofs.YtihbjimnjhfpeaaGreat
open Go.RowKit

/-- Three numbers come back. -/
def TripP (p t n : Int) (w : World) (e : Ending) (w' : World) : Prop := e = .returned (.tuple #[.int .i64 p, .int .i64 t, .int .i64 n]) ∧ Below w.heap.size w w'
/-- The foremost place of a body, its temperature, and an error. -/
def bestP (lt : Int → Int → Bool) (v : Bool) (T : List Int) : Int := if v then ((bestT lt T T.length).1 : Nat) else 0
def bestV (lt : Int → Int → Bool) (v : Bool) (T : List Int) : Int := if v then (bestT lt T T.length).2 else 0
def bestE (v : Bool) : Int := if v then 0 else 1
/-- What Coldest and Hottest hand back. -/
def BestP (lt : Int → Int → Bool) (v : Bool) (T : List Int) (w : World) : Ending → World → Prop := TripP (bestP lt v T) (bestV lt v T) (bestE v) w
end Go.Proofs.YtihbjimnjhfpeaaGreat

/- Walks of least, Coldest, Hottest and Centre of the reference, and of Centre: contracts. -/
namespace Go.Proofs.YtihbjimnjhfpeaaGreat
open Go.RowKit

theorem Box1.two {w w1 : World} {d0 d1 : Value} (h : Box1 w w1 #[d0, d1]) : w1.cell? ⟨w.heap.size, 0, none⟩ = some d0 ∧ w1.cell? ⟨w.heap.size, 1, none⟩ = some d1 := ⟨h.fst 0, h.fst 1⟩
theorem bestT_of {lt : Int → Int → Bool} {T : List Int} {k j : Nat} (hj : j < T.length) (hk : k ≤ T.length) (h : (bestT lt T k).1 = j) : (bestT lt T k).2 = T[j] := by
  obtain ⟨h1, h2⟩ := bestT_at lt T k hk (by omega)
  subst h
  rw [← h2, getD_at h1]
theorem bestT_step {lt : Int → Int → Bool} {T : List Int} {k j : Nat} (hj : j < T.length) (hk : k < T.length) (h : (bestT lt T k).1 = j) : (bestT lt T (k + 1)).1 = if lt T[k] T[j] then k else j := by
  have h2 := bestT_of hj (by omega) h
  cases hb : lt T[k] T[j]
  · rw [bestT_no (v := T[k]) (getD_at hk) (by rw [h2]; exact hb), h]; rfl
  · rw [bestT_yes (v := T[k]) (getD_at hk) (by rw [h2]; exact hb)]; rfl

set_option maxRecDepth 20000 in
set_option maxHeartbeats 2000000 in
theorem least_any (w : World) (v : Value) (T : List Int) (br : Bool) (hl : RowI w v T) (h0 : 0 < T.length) :
    Calls Tryz.prog 170 #[.agg #[v, .bool br]] w fun e w' => e = .returned (.tuple #[.int .i64 ((bestT ltB T T.length).1 : Nat), .int .i64 (bestT ltB T T.length).2]) ∧ Below w.heap.size w w' := by
  obtain ⟨b, o, cap, rfl, hc⟩ := hl.some h0
  have hm : T.length ≤ maxLen := by rcases hl with ⟨_, _, _, h⟩ | ⟨_, _, _, _, h, _⟩ <;> simp_all [maxLen]
  unfold maxLen at hm
  have HC := hid (fun w1 (g : Below w.heap.size w w1) j h => keep_cell g (hc j h))
  clear hc hl
  have BX := hid (box1_start (w := w) (A := #[.slice (some ⟨b, o, none⟩) T.length cap, .bool br]) (T := 87) (fz := (0, 0)))
  obtain ⟨x0, x1⟩ := BX.out.two
  go_enter Tryz.func170, Tryz.ntmps170
  go_wp2_with fail
  go_loopw [4, 5] (fun p i wr => ∃ k j : Nat, k ≤ T.length ∧ j < T.length ∧ p = .int .i64 (j : Int) ∧ i = .int .i64 (k : Int) ∧ Hid ((bestT ltB T k).1 = j) ∧ Hid (Box1 w wr #[.slice (some ⟨b, o, none⟩) T.length cap, .bool br])) (fun _ i _ => T.length - (intOf i).toNat)
  case atStart => exact ⟨0, 0, Nat.zero_le _, h0, rfl, rfl, rfl, BX⟩
  case round =>
    obtain ⟨k, j, hk, hj, rfl, rfl, HB, BX⟩ := hrel
    clear x0 x1
    obtain ⟨x0, x1⟩ := BX.out.two
    have ey := HC.out _ BX.out.low j hj
    by_cases hlt : k < T.length
    · have ex := HC.out _ BX.out.low k hlt
      have HST := hid (bestT_step hj hlt HB.out)
      by_cases he : T[k] < T[j]
      · have hb : ltB T[k] T[j] = true := by simpa [ltB] using he
        rw [hb] at HST
        generalize T[k] = s at ex he
        generalize T[j] = q at ey he
        clear hb
        go_wp2
        go_quiet (fail)
        go_wp2
        go_roundw
        case rel => exact ⟨k + 1, k, by omega, hlt, rfl, by go_num, HST, hid (BX.out.keep (bdrewN (Below.refl _ _)))⟩
        case measure => simp [intOf]; omega
      · have hb : ltB T[k] T[j] = false := by simpa [ltB] using he
        rw [hb] at HST
        generalize T[k] = s at ex he
        generalize T[j] = q at ey he
        clear hb
        go_wp2
        go_quiet (fail)
        go_wp2
        go_roundw
        case rel => exact ⟨k + 1, j, by omega, hj, rfl, by go_num, HST, hid (BX.out.keep (bdrewN (Below.refl _ _)))⟩
        case measure => simp [intOf]; omega
    · obtain rfl : k = T.length := by omega
      have HV := hid (bestT_of hj (Nat.le_refl _) HB.out)
      generalize T[j] = q at ey HV
      go_wp2
      go_quiet (fail)
      go_wp2
      go_ret2
      exact ⟨by rw [HB.out, HV.out]; rfl, bdrewN BX.out.low⟩
end Go.Proofs.YtihbjimnjhfpeaaGreat

/- Walk of After of the reference: contract. -/
namespace Go.Proofs.YtihbjimnjhfpeaaGreat
open Go.RowKit

/-- What the region of the append stands on. -/
def RawAf (w : World) (n8 : Nat) (A B : Array Value) (u br : Value) (w1 : World) : Prop := w1.cell? ⟨n8, 0, none⟩ = some u ∧ R4 w n8 w1 A B #[.slice none 0 0, .bool false] #[u, br]
theorem rawAf {w W : World} {n8 : Nat} {A B : Array Value} {u br : Value} (h : R4 w n8 W A B #[.slice none 0 0, .bool false] #[u, br]) : RawAf w n8 A B u br W := ⟨cell_of_row _ _ 0 _ _ _ h.out, h⟩
theorem R4.set1 {w W : World} {n8 : Nat} {A B R : Array Value} {u0 u br : Value} (h : R4 w n8 W A B R #[u0, br]) : R4 w n8 (W.setCell ⟨n8, 1, none⟩ u) A B R #[u0, u] := by
  have h8 := h.h8
  exact ⟨(heap_setCell_other _ _ _ _ (show w.heap.size ≠ n8 by omega)).trans h.can, (heap_setCell_other _ _ _ _ (show w.heap.size + 1 ≠ n8 by omega)).trans h.bod, (heap_setCell_other _ _ _ _ (show w.heap.size + 1 + 1 ≠ n8 by omega)).trans h.res, heap_setCell_same W n8 1 _ _ u h.out, h8, h.low.setCell (p := ⟨n8, 1, none⟩) (by show w.heap.size ≤ n8; omega) u⟩
theorem R4.break {w W : World} {n8 : Nat} {A B R : Array Value} {u0 br : Value} (h : R4 w n8 W A B R #[u0, br]) : W.cell? ⟨w.heap.size, 4, none⟩ = A[4]? := cell_of_row _ _ 4 _ _ _ h.can
theorem own_kept {w w' : World} {base e n : Nat} {v : Value} {xs : List Value} (h : w.ownsRow base e 1 v n xs) (hb : Below w.heap.size w w') : w'.ownsRow base e 1 v n xs := by
  refine ⟨h.1, ?_⟩
  rcases h.2 with hn | ⟨g, cap, cur, rfl, h1, hg, rest⟩
  · exact .inl hn
  · exact .inr ⟨g, cap, cur, rfl, h1, (hb.block _ (Array.getElem?_eq_some_iff.1 hg).1).trans hg, rest⟩
theorem own_from {w : World} {base e n c : Nat} {a : Option Addr} {xs : List Value} (h : w.ownsRow base e 1 (.slice a n c) n xs) : ∀ ad, a = some ad → base ≤ ad.block := by
  rintro ad rfl
  rcases h.2 with ⟨hn, _⟩ | ⟨g, cap, cur, hv, hb, _⟩
  · cases hn
  · injection hv with e1
    cases e1
    exact hb
theorem idx_lt' {R L r l : Nat} (hr : r < R) (hl : l < L) : l * R + r < L * R := by rw [Nat.mul_comm L R]; exact idx_lt hr hl
set_option maxRecDepth 100000 in
set_option maxHeartbeats 4000000 in
theorem rafter_new (c : Cn) (v : Value) (T : List Int) (br : Bool) (bath : Int) (w : World) (hc : c.Ok) (hwm : Warm c (T, br)) (hb1 : -50000 ≤ bath) (hb2 : bath ≤ 200000) (hl : RowI w v T) :
    Calls Tryz.prog 152 #[.agg #[.int .i64 (c.R : Int), .int .i64 (c.L : Int), .int .i64 c.A, .int .i64 c.B, .int .i64 c.K, .int .i64 c.A2, .int .i64 c.B2], .agg #[v, .bool br], .int .i64 bath] w fun e w' => ∃ (ua : Option Addr) (uc : Nat), e = .returned (.agg #[.slice ua T.length uc, .bool (tickS c (T, br) bath).2]) ∧ RowI w' (.slice ua T.length uc) (tickS c (T, br) bath).1 ∧ (∀ ad, ua = some ad → w.heap.size ≤ ad.block) ∧ Below w.heap.size w w' := by
  have hr1 := hc.r1; have hr2 := hc.r2; have hl1 := hc.l1; have hl2 := hc.l2
  have hTl : T.length = c.L * c.R := by rw [Nat.mul_comm]; exact hwm.len
  have hp := hc.p
  unfold Cn.P at hp
  rw [Nat.mul_comm] at hp
  have hT0 : 0 < T.length := by omega
  obtain ⟨b', o', cap, rfl, hcl⟩ := hl.some hT0
  have HC := hid (fun w1 (g : Below w.heap.size w w1) j h => keep_cell g (hcl j h))
  have HTB := hid hwm.bd
  have HTL := hid hTl
  have hT48 : T.length ≤ 48 := by omega
  have HOK := hid hc
  clear hl hcl hc hwm hTl
  obtain ⟨A, hA⟩ : ∃ A, A = c.a br := ⟨_, rfl⟩
  obtain ⟨B, hB⟩ : ∃ B, B = c.b br := ⟨_, rfl⟩
  have HA := hid hA
  have HB := hid hB
  obtain ⟨a1, a2, a3⟩ := HOK.out.ra br
  rw [← hA] at a1 a3
  rw [← hB] at a2 a3
  clear hA hB
  obtain ⟨i0, hi, hz0, hz1', hz2'⟩ := info_parts infoIf
  have HS := hid (r3_start (w := w) (A := #[.int .i64 (c.R : Int), .int .i64 (c.L : Int), .int .i64 c.A, .int .i64 c.B, .int .i64 c.K, .int .i64 c.A2, .int .i64 c.B2]) (B := #[.slice (some ⟨b', o', none⟩) T.length cap, .bool br]) (R := #[.slice none 0 0, .bool false]))
  go_enter Tryz.func152, Tryz.ntmps152
  go_wp2_with fail
  go_quiet (fail)
  go_upto_if 25 with fail
  go_cut [7, 8] (fun s7 s8 wx => s7 = .int .i64 A ∧ s8 = .int .i64 B ∧ Hid (R3 w wx #[.int .i64 (c.R : Int), .int .i64 (c.L : Int), .int .i64 c.A, .int .i64 c.B, .int .i64 c.K, .int .i64 c.A2, .int .i64 c.B2] #[.slice (some ⟨b', o', none⟩) T.length cap, .bool br] #[.slice none 0 0, .bool false]))
  case first =>
    cases br
    · go_wp2_with fail
      go_meet
      exact ⟨by rw [HA.out]; rfl, by rw [HB.out]; rfl, hid (HS.out.keep (bdrewN (Below.refl _ _)))⟩
    · go_wp2_with fail
      go_quiet (fail)
      go_wp2_with fail
      go_meet
      exact ⟨by rw [HA.out]; rfl, by rw [HB.out]; rfl, hid (HS.out.keep (bdrewN (bdrewN (Below.refl _ _))))⟩
  case rest =>
    obtain ⟨rfl, rfl, HS2⟩ := hcut
    clear HS
    have k2 := HS2.out.cell.2.1 0; have k3 := HS2.out.cell.2.1 1
    simp only [List.getElem?_toArray, List.getElem?_cons_zero, List.getElem?_cons_succ] at k2 k3
    go_wp2_with fail
    obtain ⟨n8, hn8⟩ : ∃ n, n = wc.heap.size := ⟨_, rfl⟩
    have h8 : w.heap.size + 1 + 1 < n8 := by rw [hn8]; exact lt_of_block HS2.out.res
    have HB8 := hid (Below.alloc (Below.refl _ wc) (Nat.le_refl _) (.cells #[.slice none 0 0, .bool br] 87))
    have HR0 := hid (show R4 w n8 (wc.alloc (.cells #[.slice none 0 0, .bool br] 87)) #[.int .i64 (c.R : Int), .int .i64 (c.L : Int), .int .i64 c.A, .int .i64 c.B, .int .i64 c.K, .int .i64 c.A2, .int .i64 c.B2] #[.slice (some ⟨b', o', none⟩) T.length cap, .bool br] #[.slice none 0 0, .bool false] #[.slice none 0 0, .bool br] from ⟨(HS2.out.keep HB8.out).can, (HS2.out.keep HB8.out).bod, (HS2.out.keep HB8.out).res, by rw [hn8]; exact heap_alloc_new wc _, h8, (HS2.out.keep HB8.out).low⟩)
    rw [← hn8]
    clear hn8 k2 k3
    generalize hLe : c.L = L at *
    generalize hRe : c.R = R at *
    go_loopw [10] (fun i wr => ∃ l : Nat, l ≤ L ∧ i = .int .i64 (l : Int) ∧ ∃ (a' : Option Addr) (c' : Nat), Hid (R4 w n8 wr #[.int .i64 (R : Int), .int .i64 (L : Int), .int .i64 c.A, .int .i64 c.B, .int .i64 c.K, .int .i64 c.A2, .int .i64 c.B2] #[.slice (some ⟨b', o', none⟩) T.length cap, .bool br] #[.slice none 0 0, .bool false] #[.slice a' (l * R) c', .bool br]) ∧ Hid (wr.ownsRow (n8 + 1) 3 1 (.slice a' (l * R) c') (ivs (tickN R L A B T bath (l * R))).length (ivs (tickN R L A B T bath (l * R))))) (fun i _ => L - (intOf i).toNat)
    case atStart => exact ⟨0, Nat.zero_le _, rfl, none, 0, by rw [Nat.zero_mul]; exact HR0, by rw [Nat.zero_mul]; exact World.ownsRow_nil _ _ _ _⟩
    case round =>
      obtain ⟨l, hl, rfl, a', c', HR, HO⟩ := hrel
      have c0 := cell_of_row _ _ 0 _ _ _ HR.out.can
      have c1 := cell_of_row _ _ 1 _ _ _ HR.out.can
      simp only [List.getElem?_toArray, List.getElem?_cons_zero, List.getElem?_cons_succ] at c0 c1
      by_cases hlt : l < L
      · have hlt' : (l : Int) < L := by omega
        have HLT := hid hlt
        go_wp2_with fail
        clear c0 c1
        go_loopw [11] (fun i wr => ∃ r : Nat, r ≤ R ∧ i = .int .i64 (r : Int) ∧ ∃ (a' : Option Addr) (c' : Nat), Hid (R4 w n8 wr #[.int .i64 (R : Int), .int .i64 (L : Int), .int .i64 c.A, .int .i64 c.B, .int .i64 c.K, .int .i64 c.A2, .int .i64 c.B2] #[.slice (some ⟨b', o', none⟩) T.length cap, .bool br] #[.slice none 0 0, .bool false] #[.slice a' (l * R + r) c', .bool br]) ∧ Hid (wr.ownsRow (n8 + 1) 3 1 (.slice a' (l * R + r) c') (ivs (tickN R L A B T bath (l * R + r))).length (ivs (tickN R L A B T bath (l * R + r))))) (fun i _ => R - (intOf i).toNat)
        case atStart => exact ⟨0, Nat.zero_le _, rfl, a', c', by rw [Nat.add_zero]; exact HR, by rw [Nat.add_zero]; exact HO⟩
        case round =>
          clear HR HO
          obtain ⟨r, hr, rfl, a', c', HR, HO⟩ := hrel
          have c0 := cell_of_row _ _ 0 _ _ _ HR.out.can
          have c1 := cell_of_row _ _ 1 _ _ _ HR.out.can
          simp only [List.getElem?_toArray, List.getElem?_cons_zero, List.getElem?_cons_succ] at c0 c1
          by_cases hlr : r < R
          · have hlr' : (r : Int) < R := by omega
            obtain ⟨m, hm⟩ : ∃ m, m = l * R := ⟨_, rfl⟩
            have hmz : (l : Int) * (R : Int) = (m : Int) := by rw [hm, Int.natCast_mul]
            have hidx : m + r < T.length := by rw [HTL.out, hm]; exact idx_lt' hlr HLT.out
            have k0 := cell_of_row _ _ 0 _ _ _ HR.out.bod
            simp only [List.getElem?_toArray, List.getElem?_cons_zero] at k0
            have HCR := hid (fun i (hi : i < T.length) => (HC.out wr HR.out.low i hi).trans (by rw [← getD_at hi]))
            have HMM := hid hm
            clear hm
            go_upto_if 49 with fail
            go_cut [12] from 39 to 159 (fun s12 wx => s12 = .int .i64 (inV R T r l) ∧ wr = wx)
            case first =>
              by_cases h0 : 0 < r
              · have h0' : (0 : Int) < (r : Int) := by omega
                obtain ⟨i, hi⟩ : ∃ i, i = m + r - 1 := ⟨_, rfl⟩
                have hiz : (m : Int) + (r : Int) - 1 = (i : Int) := by omega
                have hit : i < T.length := by omega
                have ex := HCR.out i hit
                have hil : (i : Int) < (T.length : Int) := by omega
                have HV := hid (show inV R T r l = T.getD i 0 by unfold inV; rw [if_pos h0, hi]; first | rw [← HMM.out] | rfl)
                clear hi hit
                go_wp2_with fail
                go_meet
                exact ⟨by rw [HV.out, List.getD_eq_getElem?_getD], rfl⟩
              · have h0' : ¬ (0 : Int) < (r : Int) := by omega
                have HV := hid (show inV R T r l = 0 by unfold inV; rw [if_neg h0])
                go_wp2_with fail
                go_meet
                exact ⟨by rw [HV.out], rfl⟩
            case rest =>
              obtain ⟨rfl, rfl⟩ := hcut
              go_upto_if 65 with fail
              go_cut [13] from 39 to 159 (fun s13 wx => s13 = .int .i64 (outV R T bath r l) ∧ wr = wx)
              case first =>
                by_cases h0 : r + 1 < R
                · have h0' : (r : Int) + 1 < (R : Int) := by omega
                  have hbd := idx_lt' h0 HLT.out
                  rw [← HMM.out, ← HTL.out] at hbd
                  obtain ⟨i, hi⟩ : ∃ i, i = m + r + 1 := ⟨_, rfl⟩
                  have hiz : (m : Int) + (r : Int) + 1 = (i : Int) := by omega
                  have hit : i < T.length := by omega
                  have ex := HCR.out i hit
                  have hil : (i : Int) < (T.length : Int) := by omega
                  have HV := hid (show outV R T bath r l = T.getD i 0 by unfold outV; rw [if_pos h0, hi]; first | rw [← HMM.out] | rfl)
                  clear hi hit
                  go_wp2_with fail
                  go_meet
                  exact ⟨by rw [HV.out, List.getD_eq_getElem?_getD], rfl⟩
                · have h0' : ¬ (r : Int) + 1 < (R : Int) := by omega
                  have HV := hid (show outV R T bath r l = bath by unfold outV; rw [if_neg h0])
                  go_wp2_with fail
                  go_meet
                  exact ⟨by rw [HV.out], rfl⟩
              case rest =>
                obtain ⟨rfl, rfl⟩ := hcut
                go_upto_if 78 with fail
                go_cut [14] from 39 to 159 (fun s14 wx => s14 = .int .i64 (lowV R T bath r l) ∧ wr = wx)
                case first =>
                  by_cases h0 : 0 < l
                  · have h0' : (0 : Int) < (l : Int) := by omega
                    obtain ⟨m2, hm2⟩ : ∃ x, x = (l - 1) * R := ⟨_, rfl⟩
                    have hz2 : ((l : Int) - 1) * (R : Int) = (m2 : Int) := by rw [hm2, Int.natCast_mul]; congr 1; omega
                    have hbd := idx_lt' hlr (show l - 1 < L by have := HLT.out; omega)
                    rw [← HTL.out, ← hm2] at hbd
                    obtain ⟨i, hi⟩ : ∃ i, i = m2 + r := ⟨_, rfl⟩
                    have hiz : (m2 : Int) + (r : Int) = (i : Int) := by omega
                    have hit : i < T.length := by omega
                    have ex := HCR.out i hit
                    have hil : (i : Int) < (T.length : Int) := by omega
                    have HV := hid (show lowV R T bath r l = T.getD i 0 by unfold lowV; rw [if_pos h0, hi, hm2])
                    clear hi hit hm2
                    go_wp2_with fail
                    go_meet
                    exact ⟨by rw [HV.out, List.getD_eq_getElem?_getD], rfl⟩
                  · have h0' : ¬ (0 : Int) < (l : Int) := by omega
                    have HV := hid (show lowV R T bath r l = bath by unfold lowV; rw [if_neg h0])
                    go_wp2_with fail
                    go_meet
                    exact ⟨by rw [HV.out], rfl⟩
                case rest =>
                  obtain ⟨rfl, rfl⟩ := hcut
                  go_upto_if 94 with fail
                  go_cut [15] from 39 to 159 (fun s15 wx => s15 = .int .i64 (highV R L T bath r l) ∧ wr = wx)
                  case first =>
                    by_cases h0 : l + 1 < L
                    · have h0' : (l : Int) + 1 < (L : Int) := by omega
                      obtain ⟨m3, hm3⟩ : ∃ x, x = (l + 1) * R := ⟨_, rfl⟩
                      have hz3 : ((l : Int) + 1) * (R : Int) = (m3 : Int) := by rw [hm3, Int.natCast_mul]; congr 1
                      have hbd := idx_lt' hlr h0
                      rw [← HTL.out, ← hm3] at hbd
                      obtain ⟨i, hi⟩ : ∃ i, i = m3 + r := ⟨_, rfl⟩
                      have hiz : (m3 : Int) + (r : Int) = (i : Int) := by omega
                      have hit : i < T.length := by omega
                      have ex := HCR.out i hit
                      have hil : (i : Int) < (T.length : Int) := by omega
                      have HV := hid (show highV R L T bath r l = T.getD i 0 by unfold highV; rw [if_pos h0, hi, hm3])
                      clear hi hit hm3
                      go_wp2_with fail
                      go_meet
                      exact ⟨by rw [HV.out, List.getD_eq_getElem?_getD], rfl⟩
                    · have h0' : ¬ (l : Int) + 1 < (L : Int) := by omega
                      have HV := hid (show highV R L T bath r l = bath by unfold highV; rw [if_neg h0])
                      go_wp2_with fail
                      go_meet
                      exact ⟨by rw [HV.out], rfl⟩
                  case rest =>
                    obtain ⟨rfl, rfl⟩ := hcut
                    have n1 := inV_bd (R := R) HTB.out r l; have n2 := outV_bd (R := R) HTB.out ⟨hb1, hb2⟩ r l; have n3 := lowV_bd (R := R) HTB.out ⟨hb1, hb2⟩ r l; have n4 := highV_bd (R := R) (L := L) HTB.out ⟨hb1, hb2⟩ r l; have n5 := getD_bd HTB.out (m + r)
                    have HMX := hid (mix_ref (A := A) (B := B) (T := T) (b := bath) hlr HLT.out)
                    have HTN := hid (tickN_succ (L := L) (A := A) (B := B) (T := T) (b := bath) (l := l) hlr)
                    obtain ⟨i, hi⟩ : ∃ i, i = m + r := ⟨_, rfl⟩
                    have hiz : (m : Int) + (r : Int) = (i : Int) := by omega
                    have hil : (i : Int) < (T.length : Int) := by omega
                    have hit : i < T.length := by omega
                    have ex := HCR.out i hit
                    rw [← HMM.out, ← hi] at HMX
                    rw [← hi] at n5
                    obtain ⟨y1, e1⟩ : ∃ y, inV R T r l = y := ⟨_, rfl⟩
                    obtain ⟨y2, e2⟩ : ∃ y, outV R T bath r l = y := ⟨_, rfl⟩
                    obtain ⟨y3, e3⟩ : ∃ y, lowV R T bath r l = y := ⟨_, rfl⟩
                    obtain ⟨y4, e4⟩ : ∃ y, highV R L T bath r l = y := ⟨_, rfl⟩
                    obtain ⟨y5, e5⟩ : ∃ y, T.getD i 0 = y := ⟨_, rfl⟩
                    obtain ⟨tm, e6⟩ : ∃ y, mixT R L A B T bath r l = y := ⟨_, rfl⟩
                    rw [e1] at n1 HMX; rw [e2] at n2 HMX; rw [e3] at n3 HMX; rw [e4] at n4 HMX; rw [e5] at n5 HMX ex; rw [e6] at HMX HTN
                    rw [e1, e2, e3, e4]
                    have p1 := mul_bd (a := 2 * A) (b := (r : Int)) (M := 1000) (N := 8) (by omega) (by omega) (by omega) (by omega)
                    have p3 := mul_bd (a := 2 * A) (b := (r : Int) + 1) (M := 1000) (N := 8) (by omega) (by omega) (by omega) (by omega)
                    have p5 := mul_bd (a := B) (b := y3) (M := 500) (N := 200000) (by omega) (by omega) (by omega) (by omega)
                    have p6 := mul_bd (a := B) (b := y4) (M := 500) (N := 200000) (by omega) (by omega) (by omega) (by omega)
                    have p7 := mul_bd (a := 1000 - 2 * A - 2 * B) (b := y5) (M := 1000) (N := 200000) (by omega) (by omega) (by omega) (by omega)
                    simp only [Int.reduceMul, Int.reduceNeg] at p1 p3 p5 p6 p7
                    have p2 := mul_bd (a := 2 * A * (r : Int)) (b := y1) (M := 8000) (N := 200000) (by omega) (by omega) (by omega) (by omega)
                    have p4 := mul_bd (a := 2 * A * ((r : Int) + 1)) (b := y2) (M := 8000) (N := 200000) (by omega) (by omega) (by omega) (by omega)
                    have p8 := mul_bd (a := 2 * (r : Int) + 1) (b := B * y3 + B * y4 + (1000 - 2 * A - 2 * B) * y5) (M := 17) (N := 400000000) (by omega) (by omega) (by omega) (by omega)
                    simp only [Int.reduceMul, Int.reduceNeg] at p2 p4 p8
                    obtain ⟨p1, p1'⟩ := p1; obtain ⟨p2, p2'⟩ := p2; obtain ⟨p3, p3'⟩ := p3; obtain ⟨p4, p4'⟩ := p4; obtain ⟨p5, p5'⟩ := p5; obtain ⟨p6, p6'⟩ := p6; obtain ⟨p7, p7'⟩ := p7; obtain ⟨p8, p8'⟩ := p8
                    obtain ⟨n1, n1'⟩ := n1; obtain ⟨n2, n2'⟩ := n2; obtain ⟨n3, n3'⟩ := n3; obtain ⟨n4, n4'⟩ := n4; obtain ⟨n5, n5'⟩ := n5
                    obtain ⟨wd, hwd⟩ : ∃ x : Nat, x = 2 * r + 1 := ⟨_, rfl⟩
                    have hwz : 2 * (r : Int) + 1 = (wd : Int) := by omega
                    obtain ⟨sm, hsm⟩ : ∃ x, x = 2 * A * (r : Int) * y1 + 2 * A * ((r : Int) + 1) * y2 + (2 * (r : Int) + 1) * (B * y3 + B * y4 + (1000 - 2 * A - 2 * B) * y5) := ⟨_, rfl⟩
                    have HSB := hid (show -1000000000000 ≤ sm ∧ sm ≤ 1000000000000 by omega)
                    have HWB := hid (show 1 ≤ wd ∧ wd ≤ 17 by omega)
                    rw [← hsm, hwz] at HMX
                    have HSM := hid hsm
                    have HWZ := hid hwz
                    clear hsm hi hwd hwz e1 e2 e3 e4 e5 e6 hit
                    go_upto_region 21 with fail
                    go_cut [16, 17] from 39 to 159 (fun s16 s17 wx => s16 = .int .i64 (wd : Int) ∧ s17 = .int .i64 sm ∧ wr = wx)
                    case first =>
                      go_wp2_with fail
                      go_meet
                      exact ⟨by rw [← HWZ.out], by rw [HSM.out], rfl⟩
                    case rest =>
                      obtain ⟨rfl, rfl, rfl⟩ := hcut
                      clear c0 c1 k0 ex p1 p1' p2 p2' p3 p3' p4 p4' p5 p5' p6 p6' p7 p7' p8 p8' n1 n1' n2 n2' n3 n3' n4 n4' n5 n5' hiz hil
                      obtain ⟨dv, hdv⟩ : ∃ x : Int, x = 1000 * (wd : Int) := ⟨_, rfl⟩
                      have hwb := HWB.out
                      have hdz : 1000 * (wd : Int) = dv := hdv.symm
                      have HDB := hid (show 0 < dv ∧ dv ≤ 1000000 by omega)
                      have hwr : IntKind.i64.wrap dv = dv := wrap_i64 (by omega) (by omega)
                      have HMX2 := hid (show sm / dv = tm by rw [hdv]; exact HMX.out.symm)
                      clear hdv hwb
                      have HZ1 := hid (show n8 + 1 ≤ wr.heap.size from lt_of_block HR.out.out)
                      have HLN := hid (show l * R + r + 1 ≤ 1000000 by rw [← HMM.out]; omega)
                      go_wp2_with fail
                      refine wp_region_sink (S := RawAf w n8 #[.int .i64 (R : Int), .int .i64 (L : Int), .int .i64 c.A, .int .i64 c.B, .int .i64 c.K, .int .i64 c.A2, .int .i64 c.B2] #[.slice (some ⟨b', o', none⟩) T.length cap, .bool br] (.slice a' (l * R + r) c') (.bool br)) 9 (by kernel_rfl) (by kernel_rfl) (by kernel_rfl) (by kernel_rfl) (rawAf (HR.out.keep (Below.refl _ _).drew)) (fun hS0 => ?_)
                      refine wpAnyH_take (i := 0) (v := ?_) rfl (by kernel_rfl) (by kernel_rfl) (by kernel_rfl) (fun _ _ _ h => h) (Or.inl ⟨by rfl, ?_⟩) hS0 ?_
                      rotate_left
                      · intro w' hSw
                        obtain ⟨q0, _⟩ := hSw
                        go_simp
                        try with_reducible rfl
                      try simp only [Act.put]
                      try simp only [List.setIfInBounds_toArray]
                      try simp only [List.set_cons_zero, List.set_cons_succ]
                      refine wpAnyH_take (i := 1) (v := ?_) rfl (by kernel_rfl) (by kernel_rfl) (by kernel_rfl) (fun _ _ _ h => h) (Or.inl ⟨by rfl, ?_⟩) hS0 ?_
                      rotate_left
                      · intro w' hSw
                        obtain ⟨q0, _⟩ := hSw
                        go_simp
                        try with_reducible rfl
                      try simp only [Act.put]
                      try simp only [List.setIfInBounds_toArray]
                      try simp only [List.set_cons_zero, List.set_cons_succ]
                      refine wpAnyH_take (i := 2) (v := ?_) rfl (by kernel_rfl) (by kernel_rfl) (by kernel_rfl) (fun _ _ _ h => h) (Or.inl ⟨by rfl, ?_⟩) hS0 ?_
                      rotate_left
                      · intro w' hSw
                        obtain ⟨q0, _⟩ := hSw
                        go_simp
                        try with_reducible rfl
                      try simp only [Act.put]
                      try simp only [List.setIfInBounds_toArray]
                      try simp only [List.set_cons_zero, List.set_cons_succ]
                      refine wpAnyH_take (i := 3) (v := ?_) rfl (by kernel_rfl) (by kernel_rfl) (by kernel_rfl) (fun _ _ _ h => h) (Or.inl ⟨by rfl, ?_⟩) hS0 ?_
                      rotate_left
                      · intro w' hSw
                        obtain ⟨q0, _⟩ := hSw
                        go_simp
                        try with_reducible rfl
                      try simp only [Act.put]
                      try simp only [List.setIfInBounds_toArray]
                      try simp only [List.set_cons_zero, List.set_cons_succ]
                      refine wpAnyH_take (i := 4) (v := .int .i64 dv) rfl (by kernel_rfl) (by kernel_rfl) (by kernel_rfl) (fun _ _ _ h => h) (Or.inl ⟨by rfl, ?_⟩) hS0 ?_
                      · intro w' hSw
                        go_simp
                      try simp only [Act.put]
                      try simp only [List.setIfInBounds_toArray]
                      try simp only [List.set_cons_zero, List.set_cons_succ]
                      (refine wpAnyH_ready (rs := [5]) (by kernel_rfl) (by simp) ?_)
                      refine AllReadyH.cons rfl (fun K hK => ?_) AllReadyH.nil
                      go_simp
                      refine (rfloor_any sm dv _ HDB.out.1 HDB.out.2 HSB.out.1 HSB.out.2).mono ?_
                      rintro e w3 ⟨rfl, rfl⟩
                      rw [HMX2.out]
                      (refine hK.out _ _ (hS0) (fun hS1 => ?_); clear hK K)
                      (refine wpAnyH_ready (rs := [6]) (by kernel_rfl) (by simp) ?_)
                      refine AllReadyH.cons rfl (fun K hK => ?_) AllReadyH.nil
                      go_simp
                      (refine hK.out _ _ (rawAf (hS1.2.keep ((Below.refl _ _).alloc (Nat.le_refl _) _))) (fun hS2 => ?_); clear hK K)
                      (refine wpAnyH_ready (rs := [7]) (by kernel_rfl) (by simp) ?_)
                      refine AllReadyH.cons rfl (fun K hK => ?_) AllReadyH.nil
                      refine step_app2 rfl (.tmp 152) (.tmp 157) 28 rfl (n8 + 1) 3 i0 Tryz.underlying28 hi hz0 hz1' hz2' (.slice a' (l * R + r) c') (ivs (tickN R L A B T bath (l * R + r))) rfl (HO.out.alloc _) (.slice (some ⟨wr.heap.size, 0, none⟩) 1 1) [tm] rfl (RowI.src (one_at _ _ rfl)) (by rw [ivs_len, tickN_len]; have := HLN.out; show l * R + r + 1 ≤ 1000000; omega) (by have := HZ1.out; show n8 + 1 ≤ (wr.alloc _).heap.size; rw [World.size_alloc]; omega) ?_
                      intro v3 w6 hO1 hA1
                      have hR6 := hS2.2.app hO1 hA1
                      have ho6 := app_next hA1
                      rw [← HTN.out] at ho6
                      obtain ⟨a3, c3, rfl⟩ := own_shape ho6
                      have hl6 : (tickN R L A B T bath (l * R + r + 1)).length = l * R + r + 1 := tickN_len _ _ _ _ _ _ _
                      rw [hl6] at ho6 ⊢
                      have HO6 := hid ho6
                      clear hO1 hA1 ho6 hl6
                      (refine hK.out _ _ (rawAf hR6) (fun hS3 => ?_); clear hK K)
                      refine wpAnyH_take (i := 8) (v := ?_) rfl (by kernel_rfl) (by kernel_rfl) (by kernel_rfl) (fun _ _ _ h => h) (Or.inl ⟨by rfl, ?_⟩) hS3 ?_
                      rotate_left
                      · intro w' hSw
                        obtain ⟨q0, _⟩ := hSw
                        go_simp
                        try with_reducible rfl
                      try simp only [Act.put]
                      try simp only [List.setIfInBounds_toArray]
                      try simp only [List.set_cons_zero, List.set_cons_succ]
                      refine wpAnyH_done (by kernel_rfl) ?_ _
                      have HR6 := hid hS3.2
                      have k8 := hS3.1
                      have g8 := frozen_of_row _ _ 0 _ _ hS3.2.out
                      clear hS0 hS1 hS2 hS3 hR6
                      refine sink_last rfl (fun K hK => ?_)
                      go_simp
                      refine hK.out _ _ ?_
                      clear hK K
                      have HS6 := hid (HR6.out.set0 (u := .slice a3 (l * R + r + 1) c3))
                      have HO7 := hid (own_set (m := n8) (j := 0) (u := .slice a3 (l * R + r + 1) c3) HO6.out (by omega))
                      go_wp2
                      go_roundw
                      case rel => exact ⟨r + 1, by omega, by go_num, a3, c3, HS6, by rw [ivs_len, tickN_len]; exact HO7⟩
                      case measure => simp [intOf]; omega
          · obtain rfl : r = R := by omega
            have hsz : l * r + r = (l + 1) * r := by rw [Nat.add_mul, Nat.one_mul]
            rw [hsz] at HR HO
            go_wp2_with fail
            go_roundw
            case rel => exact ⟨l + 1, HLT.out, by go_num, a', c', HR, HO⟩
            case measure => have := HLT.out; simp [intOf]; omega
      · obtain rfl : l = L := by omega
        have hlen : l * R = T.length := HTL.out.symm
        have hown := HO.out
        rw [ivs_len, tickN_len] at hown
        have hTT : tickN R l A B T bath (l * R) = tickT R l A B T bath := by rw [Nat.mul_comm l R]; exact tickN_all _ _ _ _ _ _
        rw [hTT] at hown
        have hTTl : (tickT R l A B T bath).length = T.length := by rw [← hTT, tickN_len]; exact hlen
        rw [hlen] at hown HR
        have HTS := hid (show tickS c (T, br) bath = (tickT R l A B T bath, brk c.K br (tickT R l A B T bath)) by unfold tickS; simp only [hLe, hRe]; rw [← HA.out, ← HB.out])
        have HK := hid HOK.out.k1
        clear HO
        generalize tickT R l A B T bath = T' at hTTl hown HTS
        have HROW := hid (own_rowI (l := T') (by rw [hTTl]; exact hown) (by omega))
        have HOWN := hid hown
        obtain ⟨mn, hmn⟩ : ∃ x, x = minT T' := ⟨_, rfl⟩
        have HMN := hid hmn
        have HLEAST := hid (least_any wr (.slice a' T.length c') T' br (by first | exact HROW.out) (by omega))
        unfold minT at hmn
        obtain ⟨bp, hbp⟩ : ∃ x, x = (bestT ltB T' T'.length).1 := ⟨_, rfl⟩
        rw [← hmn, ← hbp] at HLEAST
        clear hmn hbp hown
        have e0 := cell_of_row _ _ 0 _ _ _ HR.out.out
        have e1 := cell_of_row _ _ 1 _ _ _ HR.out.out
        simp only [List.getElem?_toArray, List.getElem?_cons_zero, List.getElem?_cons_succ] at e0 e1
        have HTT := hid hTTl
        clear hTTl hTT
        have h3 : (¬ 0 < c.K) ∨ (0 < c.K ∧ c.K ≤ mn) ∨ (0 < c.K ∧ ¬ c.K ≤ mn) := by omega
        rcases h3 with hk | ⟨hk, hk2⟩ | ⟨hk, hk2⟩
        · have HE := hid (show tickS c (T, br) bath = (T', br) by rw [HTS.out]; unfold brk; rw [decide_eq_false hk]; simp)
          go_wp2_with (go_at_call 170; refine HLEAST.out.mono ?_; rintro e w5 ⟨rfl, hb⟩; have HR5 := hid (HR.out.keep hb); have HO5 := hid (own_kept HOWN.out hb); clear hb e0 e1; have c4 := cell_of_row _ _ 4 _ _ _ HR5.out.can; simp only [List.getElem?_toArray, List.getElem?_cons_zero, List.getElem?_cons_succ] at c4; obtain ⟨k0, k1, d0, d1, f0, f1, e0, e1, g0, g1, hz⟩ := HR5.out.facts)
          obtain ⟨c6, c7, c9⟩ := (HR5.out).r3.nil (u := .slice a' T.length c') (v := .bool br)
          have hown := own_set (m := w.heap.size + 1 + 1) (j := 1) (u := .bool br) (own_set (m := w.heap.size + 1 + 1) (j := 0) (u := .slice a' T.length c') (HO5.out) (by have := HR5.out.h8; omega)) (by have := HR5.out.h8; omega)
          have hri := own_rowI (l := T') (by rw [HTT.out]; exact hown) (by rw [HTT.out]; omega)
          exact bodyPost_ret (v := .agg #[.slice a' T.length c', .bool br]) (by simp [results, Tryz.results152, go_sem, c6, c7]) rfl ⟨a', c', by rw [HE.out], by rw [HE.out]; exact hri, fun ad e => by have h1 := own_from hown ad e; have h2 := HR5.out.h8; omega, c9⟩
        · have HE := hid (show tickS c (T, br) bath = (T', true) by rw [HTS.out]; unfold brk; rw [← HMN.out, decide_eq_true hk, decide_eq_true hk2]; simp)
          go_wp2_with (go_at_call 170; refine HLEAST.out.mono ?_; rintro e w5 ⟨rfl, hb⟩; have HR5 := hid (HR.out.keep hb); have HO5 := hid (own_kept HOWN.out hb); clear hb e0 e1; have c4 := cell_of_row _ _ 4 _ _ _ HR5.out.can; simp only [List.getElem?_toArray, List.getElem?_cons_zero, List.getElem?_cons_succ] at c4; obtain ⟨k0, k1, d0, d1, f0, f1, e0, e1, g0, g1, hz⟩ := HR5.out.facts)
          obtain ⟨c6, c7, c9⟩ := (HR5.out.set1 (u := .bool true)).r3.nil (u := .slice a' T.length c') (v := .bool true)
          have hown := own_set (m := w.heap.size + 1 + 1) (j := 1) (u := .bool true) (own_set (m := w.heap.size + 1 + 1) (j := 0) (u := .slice a' T.length c') (own_set (m := n8) (j := 1) (u := .bool true) HO5.out (by omega)) (by have := HR5.out.h8; omega)) (by have := HR5.out.h8; omega)
          have hri := own_rowI (l := T') (by rw [HTT.out]; exact hown) (by rw [HTT.out]; omega)
          exact bodyPost_ret (v := .agg #[.slice a' T.length c', .bool true]) (by simp [results, Tryz.results152, go_sem, c6, c7]) rfl ⟨a', c', by rw [HE.out], by rw [HE.out]; exact hri, fun ad e => by have h1 := own_from hown ad e; have h2 := HR5.out.h8; omega, c9⟩
        · have HE := hid (show tickS c (T, br) bath = (T', br) by rw [HTS.out]; unfold brk; rw [← HMN.out, decide_eq_true hk, decide_eq_false hk2]; simp)
          go_wp2_with (go_at_call 170; refine HLEAST.out.mono ?_; rintro e w5 ⟨rfl, hb⟩; have HR5 := hid (HR.out.keep hb); have HO5 := hid (own_kept HOWN.out hb); clear hb e0 e1; have c4 := cell_of_row _ _ 4 _ _ _ HR5.out.can; simp only [List.getElem?_toArray, List.getElem?_cons_zero, List.getElem?_cons_succ] at c4; obtain ⟨k0, k1, d0, d1, f0, f1, e0, e1, g0, g1, hz⟩ := HR5.out.facts)
          obtain ⟨c6, c7, c9⟩ := (HR5.out).r3.nil (u := .slice a' T.length c') (v := .bool br)
          have hown := own_set (m := w.heap.size + 1 + 1) (j := 1) (u := .bool br) (own_set (m := w.heap.size + 1 + 1) (j := 0) (u := .slice a' T.length c') (HO5.out) (by have := HR5.out.h8; omega)) (by have := HR5.out.h8; omega)
          have hri := own_rowI (l := T') (by rw [HTT.out]; exact hown) (by rw [HTT.out]; omega)
          exact bodyPost_ret (v := .agg #[.slice a' T.length c', .bool br]) (by simp [results, Tryz.results152, go_sem, c6, c7]) rfl ⟨a', c', by rw [HE.out], by rw [HE.out]; exact hri, fun ad e => by have h1 := own_from hown ad e; have h2 := HR5.out.h8; omega, c9⟩
end Go.Proofs.YtihbjimnjhfpeaaGreat
