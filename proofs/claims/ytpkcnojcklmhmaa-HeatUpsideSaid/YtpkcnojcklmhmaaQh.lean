/- slices.Concat over the chunks of a list, the last first: contract. -/
import Derived.Test.YtpkcnojcklmhmaaQg
import Derived.Test.YtpkcnojcklmhmaaGb
namespace Go.Proofs.Ytpkcnojcklmhmaa
open Go.RowKit Go.Shelf Go.Lib

/-- The j-th chunk from the end. -/
def chL (l : List Int) (R L j : Nat) : List Int := (l.drop ((L - 1 - j) * R)).take R
def flL (l : List Int) (R L k : Nat) : List Int := (List.range k).flatMap (chL l R L)
theorem ch_in {R L j : Nat} (hj : j < L) : (L - 1 - j) * R + R ≤ L * R := by
  have : (L - 1 - j + 1) * R ≤ L * R := Nat.mul_le_mul_right R (by omega)
  rwa [Nat.add_mul, Nat.one_mul] at this
theorem chL_len {l : List Int} {R L j : Nat} (h : l.length = L * R) (hj : j < L) : (chL l R L j).length = R := by
  have := ch_in (R := R) hj
  unfold chL
  rw [List.length_take, List.length_drop, h]
  omega
theorem flL_succ (l : List Int) (R L k : Nat) : flL l R L (k + 1) = flL l R L k ++ chL l R L k := by
  unfold flL
  rw [List.range_succ, List.flatMap_append]
  simp
theorem flL_len {l : List Int} {R L : Nat} (h : l.length = L * R) : ∀ k, k ≤ L → (flL l R L k).length = k * R
  | 0, _ => by simp [flL]
  | k + 1, hk => by rw [flL_succ, List.length_append, flL_len h k (by omega), chL_len h (by omega), Nat.add_mul, Nat.one_mul]
theorem ch_src {w : World} {b o R L j : Nat} {l : List Int} (h : l.length = L * R) (hj : j < L) (hl : ∀ i (h : i < l.length), w.cell? ⟨b, o + i, none⟩ = some (.int .i64 l[i])) : Src w (.slice (some ⟨b, o + (L - 1 - j) * R, none⟩) R R) (chL l R L j) := by
  refine .inr ⟨b, o + (L - 1 - j) * R, R, by rw [chL_len h hj], fun k hk => ?_⟩
  have := ch_in (R := R) hj
  rw [chL_len h hj] at hk
  rw [Nat.add_assoc, hl ((L - 1 - j) * R + k) (by omega)]
  simp [chL]
set_option maxRecDepth 20000 in
set_option maxHeartbeats 4000000 in
theorem concat_any (g cap b o R L : Nat) (l : List Int) (w : World) (hR : 0 < R) (hL : 0 < L) (hlen : l.length = L * R) (hbig : L * R ≤ 100000) (hLb : L ≤ 1000) (hRb : R ≤ 1000)
    (hrow : ∀ j, j < L → w.cell? ⟨g, j, none⟩ = some (.slice (some ⟨b, o + (L - 1 - j) * R, none⟩) R R)) (hl : ∀ i (h : i < l.length), w.cell? ⟨b, o + i, none⟩ = some (.int .i64 l[i])) :
    Calls Try.prog 70 #[.slice (some ⟨g, 0, none⟩) L cap] w fun e w' => ∃ v, e = .returned v ∧ w'.ownsRow w.heap.size 3 1 v (flL l R L L).length (ivs (flL l R L L)) ∧ Below w.heap.size w w' := by
  have HROW := hid (fun (w1 : World) (hb : Below w.heap.size w w1) j (hj : j < L) => keep_cell hb (hrow j hj))
  have HL := hid (fun (w1 : World) (hb : Below w.heap.size w w1) i (hi : i < l.length) => keep_cell hb (hl i hi))
  have HLEN := hid hlen
  have HR := hid hR
  have HLL := hid hL
  clear hrow hl hlen
  go_enter Try.func70, Try.ntmps70
  go_wp2
  go_loop [3, 11] (fun s t => ∃ k : Nat, k ≤ L ∧ s = .int .i64 ((k * R : Nat) : Int) ∧ t = .int .i64 (k : Int)) (fun _ t => L - (intOf t).toNat)
  case atStart => exact ⟨0, Nat.zero_le _, by simp, rfl⟩
  case round =>
    obtain ⟨k, hk, rfl, rfl⟩ := hrel
    by_cases hlt : k < L
    · have hlt' : (k : Int) < L := by omega
      have e1 := HROW.out w (Below.refl _ _) k hlt
      have hle : (k + 1) * R ≤ L * R := Nat.mul_le_mul_right R hlt
      obtain ⟨S, hS⟩ : ∃ S, S = k * R := ⟨_, rfl⟩
      have HS := hid hS
      rw [Nat.add_mul, Nat.one_mul, ← hS] at hle
      rw [← hS]
      have hn0 : ¬ ((S : Int) + (R : Int) < 0) := by omega
      clear hS
      go_wp2
      go_round
      case rel => exact ⟨k + 1, hlt, by rw [Nat.add_mul, Nat.one_mul, ← HS.out]; go_num, by go_num⟩
      case measure => simp [intOf]; omega
    · obtain rfl : k = L := by omega
      clear hlt hk
      obtain ⟨S, hS⟩ : ∃ S, S = k * R := ⟨_, rfl⟩
      have HS := hid hS
      rw [← hS]
      have hS0 : 0 < S := by rw [hS]; exact Nat.mul_pos HLL.out HR.out
      rw [← hS] at hbig
      clear hS
      go_wp2_with fail
      refine (grow_any S w hS0 (by omega)).mono ?_
      rintro e w1 ⟨u, rfl, hu, hb⟩
      have HU := hid hu
      have HB := hid hb
      clear hu hb
      obtain ⟨u0, c0, rfl⟩ := rows_shapeC HU.out
      obtain ⟨i0, hi, hz0, hz1, hz2⟩ := info_parts infoQ
      go_wp2_with fail
      go_loopw [6, 27] (fun u t wr => ∃ m : Nat, m ≤ k ∧ t = .int .i64 (m : Int) ∧ Hid (wr.ownsRow w.heap.size 3 1 u (ivs (flL l R k m)).length (ivs (flL l R k m))) ∧ Hid (Below w.heap.size w wr)) (fun _ t _ => k - (intOf t).toNat)
      case atStart => exact ⟨0, Nat.zero_le _, rfl, HU, HB⟩
      case round =>
        obtain ⟨m, hm, rfl, hO, hB⟩ := hrel
        obtain ⟨ua, uc, rfl⟩ := rows_shapeC hO.out
        by_cases hlt : m < k
        · have hlt' : (m : Int) < k := by omega
          have e1 := HROW.out _ hB.out m hlt
          have HSRC := hid (ch_src HLEN.out hlt (HL.out _ hB.out))
          have HSUC := hid (flL_succ l R k m)
          have hml : (flL l R k m).length = m * R := flL_len HLEN.out m hm
          have hcl : (chL l R k m).length = R := chL_len HLEN.out hlt
          have hle : (m + 1) * R ≤ k * R := Nat.mul_le_mul_right R hlt
          rw [Nat.add_mul, Nat.one_mul, ← HS.out] at hle
          have HBD := hid (show (ivs (flL l R k m)).length + (chL l R k m).length ≤ 1000000 by rw [ivs_len, hml, hcl]; omega)
          have HLT := hid hlt
          generalize flL l R k m = F at *
          generalize chL l R k m = C at *
          clear hml hcl hle hlt
          go_wp2_with (at_builtin; (refine wpList_app rfl (.tmp 31) (.tmp 32) 24 rfl w.heap.size 3 i0 Try.underlying24 hi hz0 hz1 hz2 _ (ivs F) rfl hO.out _ C rfl HSRC.out HBD.out hB.out.size ?_); intro v3 w6 hA1; have HB6 := hid (app_low hB.out hO.out (Nat.le_refl _) hA1); have HO6 := hid (app_next hA1); obtain ⟨a3, c3, rfl⟩ := rows_shapeC HO6.out; clear hA1)
          go_roundw
          case rel => exact ⟨m + 1, HLT.out, by go_num, by have h := HO6.out; rw [List.length_append] at h; rw [HSUC.out, ivs_len, List.length_append]; exact hid h, HB6⟩
          case measure => have := HLT.out; simp [intOf]; omega
        · obtain rfl : m = k := by omega
          go_wp2_with fail
          go_ret
          refine ⟨_, rfl, ?_, hB.out⟩
          have := hO.out
          rw [ivs_len] at this
          rw [ivs_len]
          exact this
end Go.Proofs.Ytpkcnojcklmhmaa
