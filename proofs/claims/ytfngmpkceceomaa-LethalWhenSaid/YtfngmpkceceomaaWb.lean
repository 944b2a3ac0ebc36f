/- Walk of the reference's Times: contract. -/
import Derived.Test.YtfngmpkceceomaaWa
namespace Go.Proofs.Ytfngmpkceceomaa
open Go.RowKit Go.Lib

def at0 (l : List Nat) (i : Nat) : Nat := (l[i]?).getD 0
theorem at0_eq {l : List Nat} {i : Nat} (h : i < l.length) : at0 l i = l[i] := by simp [at0, h]
theorem mul_mill {x y : Nat} (h1 : x ≤ 1000000) (h2 : y ≤ 1000000) : x * y ≤ 1000000000000 := by
  have := Nat.mul_le_mul h1 h2
  omega
theorem dig_mill {l : List Nat} (h : ∀ x ∈ l, x < B6) {i : Nat} (hi : i < l.length) : l[i] ≤ 1000000 := by
  have := h _ (List.getElem_mem hi)
  rw [B6_eq] at this; omega

/-- Times, while it adds up: after i digits of a, and k of b with the next one. -/
structure TmR (a b : List Nat) (i k : Nat) (out : List Nat) : Prop where
  len : out.length = a.length + b.length + 1
  sum : Pw.vl B6 out = Pw.vl B6 (a.take i) * Pw.vl B6 b + at0 a i * B6 ^ i * Pw.vl B6 (b.take k)
  small : ∀ x ∈ out, x ≤ (i * b.length + k) * 1000000000000

theorem TmR.start (a b : List Nat) : TmR a b 0 0 (List.replicate (a.length + b.length + 1) 0) :=
  ⟨by simp, by rw [Pw.vl_zero]; simp [Pw.vl], fun x hx => by rw [List.eq_of_mem_replicate hx]; exact Nat.zero_le _⟩
theorem TmR.next {a b out : List Nat} {i : Nat} (h : TmR a b i b.length out) (hi : i < a.length) : TmR a b (i + 1) 0 out := by
  refine ⟨h.len, ?_, fun x hx => by have := h.small x hx; rw [Nat.add_mul i 1 b.length, Nat.one_mul, Nat.add_zero]; exact this⟩
  rw [h.sum, List.take_length, Pw.take_vl B6 a i hi]
  simp only [Pw.vl, List.take_zero, Nat.mul_zero, Nat.add_zero]
  rw [Nat.add_mul, at0_eq hi, Nat.mul_comm (B6 ^ i)]
theorem TmR.step {a b out : List Nat} {i k : Nat} (h : TmR a b i k out) (ha : ∀ x ∈ a, x < B6) (hb : ∀ x ∈ b, x < B6) (hi : i < a.length) (hk : k < b.length) (hik : i + k < out.length) :
    TmR a b i (k + 1) (out.set (i + k) (out[i + k] + a[i] * b[k])) := by
  refine ⟨by rw [List.length_set]; exact h.len, ?_, fun x hx => ?_⟩
  · rw [Pw.vl_set, h.sum, Pw.take_vl B6 b k hk, Nat.mul_add, at0_eq hi, Nat.pow_add]
    have : a[i] * b[k] * (B6 ^ i * B6 ^ k) = a[i] * B6 ^ i * (B6 ^ k * b[k]) := by
      rw [Nat.mul_assoc, Nat.mul_assoc, Nat.mul_comm b[k], Nat.mul_assoc]
    omega
  · rcases List.mem_or_eq_of_mem_set hx with hx | rfl
    · exact Nat.le_trans (h.small x hx) (Nat.mul_le_mul_right _ (by omega))
    · have h1 := h.small out[i + k] (List.getElem_mem _)
      have h2 := mul_mill (dig_mill ha hi) (dig_mill hb hk)
      rw [← Nat.add_assoc, Nat.succ_mul]; exact Nat.add_le_add h1 h2
theorem prod_le {a b : List Nat} {i k : Nat} (ha : ∀ x ∈ a, x < B6) (hb : ∀ x ∈ b, x < B6) (hi : i < a.length) (hk : k < b.length) : a[i] * b[k] ≤ 1000000000000 := mul_mill (dig_mill ha hi) (dig_mill hb hk)

/-- Times, while it carries: the first i digits are below the base. -/
structure TcR (V L i : Nat) (out : List Nat) : Prop where
  len : out.length = L
  sum : Pw.vl B6 out = V
  dig : ∀ j, j < i → (hj : j < out.length) → out[j] < B6
  small : ∀ x ∈ out, x ≤ 2000000000000000000
  rest : ∀ j, i < j → (hj : j < out.length) → out[j] ≤ 1000000000000000000
theorem TcR.step {V L i : Nat} {out : List Nat} (h : TcR V L i out) (hi : i + 1 < out.length) (hi' : i < out.length) :
    TcR V L (i + 1) ((out.set (i + 1) (out[i + 1] + out[i] / 1000000)).set i (out[i] % 1000000)) := by
  have hp := B6_pos
  have hc := Pw.carry_step B6 (by omega) out i hi
  rw [← B6_eq]
  refine ⟨by simp [h.len], by rw [hc]; exact h.sum, fun j hj hjl => ?_, fun x hx => ?_, fun j hj hjl => ?_⟩
  · rcases Nat.lt_or_ge j i with h1 | h1
    · rw [List.getElem_set_ne (by omega), List.getElem_set_ne (by omega)]
      exact h.dig j h1 (by simpa using hjl)
    · obtain rfl : j = i := by omega
      rw [List.getElem_set_self]; exact Nat.mod_lt _ (by omega)
  · rcases List.mem_or_eq_of_mem_set hx with hx | rfl
    · rcases List.mem_or_eq_of_mem_set hx with hx | rfl
      · exact h.small x hx
      · have h1 := h.rest (i + 1) (by omega) hi
        have h2 := h.small out[i] (List.getElem_mem _)
        have h3 : out[i] / B6 ≤ 2000000000000 := by rw [B6_eq]; omega
        omega
    · have : out[i] % B6 < B6 := Nat.mod_lt _ (by omega)
      rw [B6_eq] at this; rw [B6_eq]; omega
  · rw [List.getElem_set_ne (by omega), List.getElem_set_ne (by omega)]
    exact h.rest j (by omega) (by simpa using hjl)
theorem TcR.start {a b out : List Nat} (h : TmR a b a.length 0 out) (la : a.length ≤ 1000) (lb : b.length ≤ 1000) : TcR (Pw.vl B6 a * Pw.vl B6 b) (a.length + b.length + 1) 0 out := by
  have hs : ∀ x ∈ out, x ≤ 1000000000000000000 := fun x hx => by
    have h1 := h.small x hx
    have h2 := Nat.mul_le_mul la lb
    omega
  refine ⟨h.len, ?_, fun j hj => absurd hj (Nat.not_lt_zero _), fun x hx => Nat.le_trans (hs x hx) (by omega), fun j _ hj => hs _ (List.getElem_mem _)⟩
  rw [h.sum, List.take_length]; simp [Pw.vl]
/-- When all is carried, the number is whole but for zeros at its top. -/
theorem TcR.done {a b out : List Nat} {i : Nat} (h : TcR (Pw.vl B6 a * Pw.vl B6 b) (a.length + b.length + 1) i out) (hi : a.length + b.length ≤ i) (na : Pw.Norm B6 a) (nb : Pw.Norm B6 b) : ∀ x ∈ out, x < B6 := by
  have hp := B6_pos
  have hv : Pw.vl B6 out < B6 ^ (a.length + b.length) := by
    rw [h.sum, Nat.pow_add]
    exact Nat.mul_lt_mul'' (Pw.vl_lt na.dig) (Pw.vl_lt nb.dig)
  have h0 := Pw.last_zero (by omega) h.len hv
  intro x hx
  obtain ⟨j, hj, rfl⟩ := List.mem_iff_getElem.1 hx
  rcases Nat.lt_or_ge j (a.length + b.length) with h1 | h1
  · exact h.dig j (by omega) hj
  · have hl := h.len
    obtain rfl : j = a.length + b.length := by omega
    rw [h0]; omega
theorem row_cut {w : World} {base g cap n : Nat} {l : List Nat} (h : RowV w base (.slice (some ⟨g, 0, none⟩) l.length cap) l) (hn : n ≤ l.length) : RowV w base (.slice (some ⟨g, 0, none⟩) n cap) (l.take n) := by
  unfold RowV at h ⊢
  have hl : (l.take n).length = n := by simp [hn]
  rw [hl]
  rcases h.2 with ⟨h0, _⟩ | ⟨g', cap', cur, h0, hb, hg, hnc, hcm, hcs, htake⟩
  · cases h0
  · cases h0
    refine ⟨by simp [iv, hn], .inr ⟨g, cap, cur, rfl, hb, hg, by omega, hcm, hcs, ?_⟩⟩
    have : (iv l).take n = iv (l.take n) := by simp [iv, List.map_take]
    rw [← this, ← htake, List.take_take]
    congr 1; omega

theorem row_cell {w : World} {base : Nat} {g cap : Nat} {l : List Nat} (h : RowV w base (.slice (some ⟨g, 0, none⟩) l.length cap) l) {k : Nat} (hk : k < l.length) :
    w.cell? ⟨g, k, none⟩ = some (.int .i64 (l[k] : Nat)) ∧ w.frozen? ⟨g, k, none⟩ = false :=
  ⟨by rw [World.ownsRow.cellAt h k (by omega), iv_get _ k hk], World.ownsRow.frozenAt h k⟩
theorem row_store {w : World} {base : Nat} {g cap : Nat} {l : List Nat} (h : RowV w base (.slice (some ⟨g, 0, none⟩) l.length cap) l) (k x : Nat) (y : Int) (hy : y = (x : Int)) :
    RowV (w.setCell ⟨g, k, none⟩ (.int .i64 y)) base (.slice (some ⟨g, 0, none⟩) l.length cap) (l.set k x) ∧ w.grownBy (w.setCell ⟨g, k, none⟩ (.int .i64 y)) (some g) := by
  subst hy
  have := World.ownsRow.stored h k (.int .i64 (x : Int))
  rw [iv_set] at this
  refine ⟨?_, this.2⟩
  unfold RowV
  rw [List.length_set]
  exact this.1

/-- What is left when the zeros are cut. -/
theorem whole_cut {w : World} {base g L n V : Nat} {out : List Nat} (hR : RowV w base (.slice (some ⟨g, 0, none⟩) L L) out) (hL : out.length = L) (hd : ∀ x ∈ out, x < B6) (hs : Pw.vl B6 out = V)
    (hz : ∀ j, n ≤ j → (hj : j < out.length) → out[j] = 0) (hn : n ≤ L) (h : n = 0 ∨ ∃ hj : n - 1 < out.length, out[n - 1] ≠ 0) : Wh w base (.slice (some ⟨g, 0, none⟩) n L) V :=
  ⟨out.take n, row_cut (by rw [hL]; exact hR) (by omega), Pw.cut_norm (by omega) hd h, by rw [Pw.cut_vl hz]; exact hs⟩

/-- A row of digits that came in, at a known block. -/
def RowAt (w : World) (g : Nat) (l : List Nat) : Prop := ∀ k (h : k < l.length), w.cell? ⟨g, k, none⟩ = some (.int .i64 (l[k] : Nat)) ∧ g < w.heap.size

set_option maxHeartbeats 4000000 in
theorem times_row (a b : List Nat) (pa pb : Option Addr) (ga gb ca cb : Nat) (w : World) (hpa : 0 < a.length → pa = some ⟨ga, 0, none⟩) (hpb : 0 < b.length → pb = some ⟨gb, 0, none⟩)
    (ra : RowAt w ga a) (rb : RowAt w gb b) (na : Pw.Norm B6 a) (nb : Pw.Norm B6 b) (la : a.length ≤ 1000) (lb : b.length ≤ 1000) :
    Calls Try.prog 35 #[.slice pa a.length ca, .slice pb b.length cb] w (WhP (Pw.vl B6 a * Pw.vl B6 b) w) := by
  obtain ⟨i0, hi, hz0, hz1, hz2⟩ := info_parts info_int
  have HPA := hid hpa; have HPB := hid hpb; clear hpa hpb
  have RA := hid ra; have RB := hid rb; have NA := hid na; have NB := hid nb
  clear ra rb na nb
  go_enter Try.func35, Try.ntmps35
  go_wp2_with (at_make; refine wpList_make_full _ rfl _ _ 33 rfl w.heap.size 3 i0 (.int .i64 0) 1 Try.underlying33 hi hz0 hz1 _ _ _ _ (a.length + b.length + 1) rfl rfl (by omega) (by omega) (by rw [hz2]; omega) (by unfold maxLen; omega) (Nat.le_refl _) ?_; intro w1 hown1 hgrow1)
  have e0 : (madeCells (Value.int .i64 0).cells ((a.length + b.length + 1) * 1)).toList = iv (List.replicate (a.length + b.length + 1) 0) := by
    rw [Nat.mul_one]; show (madeCells #[_] _).toList = _
    rw [toList_madeCells_one]; simp [iv]
  rw [e0] at hown1
  have hrow1 : RowV w1 w.heap.size (.slice (some ⟨w.heap.size, 0, none⟩) (List.replicate (a.length + b.length + 1) 0).length (a.length + b.length + 1)) (List.replicate (a.length + b.length + 1) 0) := by
    unfold RowV; rw [List.length_replicate]; exact hown1
  have hB1 : Below w.heap.size w w1 := (Below.refl _ _).grown hgrow1 (Nat.le_refl _) (fun k h => by cases h)
  clear hown1 hgrow1 e0
  generalize hG : w.heap.size = G at hrow1 hB1 ⊢
  have HG := hid hG; clear hG
  have hTm0 := TmR.start a b
  generalize List.replicate (a.length + b.length + 1) 0 = out0 at hrow1 hTm0
  rw [hTm0.len] at hrow1
  have HR := hid hrow1
  have HB := hid hB1
  have HT := hid hTm0
  clear hrow1 hB1 hTm0
  go_wp2
  go_loopw [6] (fun si wr => ∃ i : Nat, i ≤ a.length ∧ si = .int .i64 i ∧ ∃ out : List Nat, Hid (RowV wr G (.slice (some ⟨G, 0, none⟩) (a.length + b.length + 1) (a.length + b.length + 1)) out) ∧ Hid (TmR a b i 0 out) ∧ Hid (Below G w wr)) (fun si _ => a.length - (intOf si).toNat)
  case atStart => exact ⟨0, Nat.zero_le _, rfl, out0, HR, HT, HB⟩
  case round =>
    obtain ⟨i, hi, rfl, out, hR, hT, hB⟩ := hrel
    by_cases hlt : i < a.length
    · obtain ⟨wo, rfl⟩ : ∃ wo : World, wo = wr := ⟨_, rfl⟩
      go_wp2
      go_loopw [7] (fun sk wr => ∃ k : Nat, k ≤ b.length ∧ sk = .int .i64 k ∧ ∃ out : List Nat, Hid (RowV wr G (.slice (some ⟨G, 0, none⟩) (a.length + b.length + 1) (a.length + b.length + 1)) out) ∧ Hid (TmR a b i k out) ∧ Hid (Below G w wr)) (fun sk _ => b.length - (intOf sk).toNat)
      case atStart => exact ⟨0, Nat.zero_le _, rfl, out, hR, hT, hB⟩
      case round =>
        clear hR hT hB out
        obtain ⟨k, hk, rfl, out, hR, hT, hB⟩ := hrel
        by_cases hkt : k < b.length
        · obtain rfl := HPA.out (by omega)
          obtain rfl := HPB.out (by omega)
          obtain ⟨hca, hgw⟩ := RA.out i hlt
          obtain ⟨hcb, hgw'⟩ := RB.out k hkt
          have hL := hT.out.len
          have hik : i + k < out.length := by omega
          have hRo := hR.out
          rw [← hL] at hRo
          obtain ⟨co, cf⟩ := row_cell hRo hik
          have cA := (hB.out.cell (p := ⟨ga, i, none⟩) (by rw [← HG.out]; exact hgw)).trans hca
          have cB := (hB.out.cell (p := ⟨gb, k, none⟩) (by rw [← HG.out]; exact hgw')).trans hcb
          have hpr := prod_le NA.out.dig NB.out.dig hlt hkt
          have hsm := hT.out.small _ (List.getElem_mem hik)
          have hst := hid (hT.out.step NA.out.dig NB.out.dig hlt hkt hik)
          have hbig : (i * b.length + k) * 1000000000000 ≤ 2000000000000000000 := by
            have := Nat.mul_le_mul (show i ≤ 1000 by omega) lb
            omega
          clear hRo
          obtain ⟨x, hx⟩ : ∃ x, x = a[i] := ⟨_, rfl⟩
          obtain ⟨y, hy⟩ : ∃ y, y = b[k] := ⟨_, rfl⟩
          obtain ⟨o, ho⟩ : ∃ o, o = out[i + k] := ⟨_, rfl⟩
          rw [← hx, ← hy] at hpr
          rw [← hx] at cA
          rw [← hy] at cB
          rw [← ho] at co hsm
          have HX := hid hx; have HY := hid hy; have HO := hid ho
          clear hx hy ho hca hcb hgw hgw'
          have hso : o ≤ 2000000000000000000 := Nat.le_trans hsm hbig
          clear hsm hbig
          have hik2 : i + k < a.length + b.length + 1 := by omega
          have HL := hid hL; clear hL
          go_wp2
          go_region
          go_wp2
          go_roundw
          case rel =>
            have R := row_store (l := out) (by rw [HL.out]; exact hR.out) (i + k) (out[i + k] + a[i] * b[k]) ((o : Int) + x * y) (by rw [HX.out, HY.out, HO.out]; simp)
            rw [HL.out] at R
            exact ⟨k + 1, by omega, by go_num, out.set (i + k) (out[i + k] + a[i] * b[k]), R.1, hst, (hB.out.setCell (Nat.le_refl _) _).drew⟩
          case measure => simp [intOf]; omega
        · obtain rfl : k = b.length := by omega
          have hnx := hid (hT.out.next hlt)
          go_wp2
          go_roundw
          case rel => exact ⟨i + 1, by omega, by go_num, out, hR, hnx, hB⟩
          case measure => simp [intOf]; omega
    · obtain rfl : i = a.length := by omega
      have hC := hid (TcR.start hT.out la lb)
      clear hT
      go_wp2
      go_loopw [8] (fun si wr => ∃ i : Nat, i ≤ a.length + b.length ∧ si = .int .i64 i ∧ ∃ out : List Nat, Hid (RowV wr G (.slice (some ⟨G, 0, none⟩) (a.length + b.length + 1) (a.length + b.length + 1)) out) ∧ Hid (TcR (Pw.vl B6 a * Pw.vl B6 b) (a.length + b.length + 1) i out) ∧ Hid (Below G w wr)) (fun si _ => a.length + b.length - (intOf si).toNat)
      case atStart => exact ⟨0, Nat.zero_le _, rfl, out, hR, hC, hB⟩
      case round =>
        clear hR hC hB out
        obtain ⟨i, hi2, rfl, out, hR, hC, hB⟩ := hrel
        by_cases hit : i + 1 < a.length + b.length + 1
        · have hL := hC.out.len
          have h1 : i + 1 < out.length := by omega
          have h0 : i < out.length := by omega
          have hRo := hR.out
          rw [← hL] at hRo
          obtain ⟨co, cf⟩ := row_cell hRo h1
          obtain ⟨co0, cf0⟩ := row_cell hRo h0
          have hs1 := hC.out.small _ (List.getElem_mem h1)
          have hs0 := hC.out.small _ (List.getElem_mem h0)
          have hst := hid (hC.out.step h1 h0)
          clear hRo
          obtain ⟨x, hx⟩ : ∃ x, x = out[i] := ⟨_, rfl⟩
          obtain ⟨y, hy⟩ : ∃ y, y = out[i + 1] := ⟨_, rfl⟩
          rw [← hx] at co0 hs0
          rw [← hy] at co hs1
          have HX := hid hx; have HY := hid hy
          clear hx hy
          have HL := hid hL; clear hL
          go_wp2
          go_region
          go_wp2
          go_roundw
          case rel =>
            have R1 := row_store (l := out) (by rw [HL.out]; exact hR.out) (i + 1) (out[i + 1] + out[i] / 1000000) ((y : Int) + x / 1000000) (by rw [HX.out, HY.out]; omega)
            have R2 := row_store (l := out.set (i + 1) (out[i + 1] + out[i] / 1000000)) (cap := a.length + b.length + 1) (by rw [List.length_set]; exact R1.1) i (out[i] % 1000000) ((x : Int) % 1000000) (by rw [HX.out]; omega)
            rw [List.length_set, HL.out] at R2
            exact ⟨i + 1, by omega, by go_num, _, R2.1, hst, ((hB.out.setCell (Nat.le_refl _) _).setCell (Nat.le_refl _) _).drew⟩
          case measure => simp [intOf]; omega
        · obtain rfl : i = a.length + b.length := by omega
          have hdig := hid (hC.out.done (Nat.le_refl _) NA.out NB.out)
          have hL := hC.out.len
          have HL := hid hL
          have hsum := hid hC.out.sum
          clear hC
          go_wp2
          go_loop [9] (fun sn => ∃ n : Nat, n ≤ a.length + b.length + 1 ∧ sn = .int .i64 n ∧ Hid (∀ j, n ≤ j → (hj : j < out.length) → out[j] = 0)) (fun sn => (intOf sn).toNat)
          case atStart => exact ⟨_, Nat.le_refl _, by go_num, fun j h1 h2 => absurd h2 (by omega)⟩
          case round =>
            obtain ⟨n, hn, rfl, hz⟩ := hrel
            by_cases hn0 : 0 < n
            · obtain ⟨m, rfl⟩ : ∃ m, n = m + 1 := ⟨n - 1, by omega⟩
              have hn1 : m < out.length := by omega
              obtain ⟨co, cf⟩ := row_cell (l := out) (by rw [HL.out]; exact hR.out) hn1
              obtain ⟨x, hx⟩ : ∃ x, x = out[m] := ⟨_, rfl⟩
              rw [← hx] at co
              have HX := hid hx; clear hx
              by_cases hx0 : x = 0
              · have hz' := hid (show ∀ j, m ≤ j → (hj : j < out.length) → out[j] = 0 from fun j h1 h2 => by
                  rcases Nat.eq_or_lt_of_le h1 with rfl | h3
                  · rw [← HX.out]; exact hx0
                  · exact hz.out j h3 h2)
                have hb : ((x : Int) == 0) = true := by rw [hx0]; rfl
                clear hx0
                go_wp2
                go_round
                case rel => exact ⟨m, by omega, by go_num, hz'⟩
                case measure => simp [intOf]
              · have hb : ((x : Int) == 0) = false := by simp; omega
                have hw := hid (whole_cut hR.out HL.out hdig.out hsum.out hz.out hn (.inr ⟨hn1, by show out[m] ≠ 0; rw [← HX.out]; exact hx0⟩))
                clear hx0
                go_wp2
                go_ret
                exact ⟨_, rfl, by rw [HG.out]; exact hw.out, by rw [HG.out]; exact hB.out⟩
            · obtain rfl : n = 0 := by omega
              have hw := hid (whole_cut hR.out HL.out hdig.out hsum.out hz.out hn (.inl rfl))
              go_wp2
              go_ret
              exact ⟨_, rfl, by rw [HG.out]; exact hw.out, by rw [HG.out]; exact hB.out⟩

theorem wtimes_any (va vb : Value) (x y : Nat) (w : World) (ra : WhR w va x) (rb : WhR w vb y) (hx : x < 1000000 ^ 1000) (hy : y < 1000000 ^ 1000) :
    Calls Try.prog 35 #[va, vb] w (WhP (x * y) w) := by
  obtain ⟨a, ra, na, rfl⟩ := ra
  obtain ⟨b, rb, nb, rfl⟩ := rb
  have la := Pw.len_le B6_pos na (k := 1000) (by rw [B6_eq] at hx ⊢; exact hx)
  have lb := Pw.len_le B6_pos nb (k := 1000) (by rw [B6_eq] at hy ⊢; exact hy)
  clear hx hy
  have hc : ∃ pa ga ca, va = .slice pa a.length ca ∧ (0 < a.length → pa = some ⟨ga, 0, none⟩) ∧ RowAt w ga a := by
    rcases ra with ⟨rfl, rfl⟩ | ⟨ga, ca, rfl, h⟩
    · exact ⟨none, 0, 0, rfl, fun h => absurd h (by simp), fun k h => absurd h (by simp)⟩
    · exact ⟨_, ga, ca, rfl, fun _ => rfl, fun k hk => ⟨h k hk, World.block_lt_of_cell? w _ (h k hk)⟩⟩
  have hd : ∃ pb gb cb, vb = .slice pb b.length cb ∧ (0 < b.length → pb = some ⟨gb, 0, none⟩) ∧ RowAt w gb b := by
    rcases rb with ⟨rfl, rfl⟩ | ⟨gb, cb, rfl, h⟩
    · exact ⟨none, 0, 0, rfl, fun h => absurd h (by simp), fun k h => absurd h (by simp)⟩
    · exact ⟨_, gb, cb, rfl, fun _ => rfl, fun k hk => ⟨h k hk, World.block_lt_of_cell? w _ (h k hk)⟩⟩
  obtain ⟨pa, ga, ca, rfl, h1, h2⟩ := hc
  obtain ⟨pb, gb, cb, rfl, h3, h4⟩ := hd
  exact times_row a b pa pb ga gb ca cb w h1 h3 h2 h4 na nb la lb
end Go.Proofs.Ytfngmpkceceomaa
