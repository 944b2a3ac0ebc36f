/- Texts of this seat, one behind the other. -/
import Derived.Test.YtihbjimnjhfpeaaGreatG10
import Derived.Test.YtihbjimnjhfpeaaGreatG09
/- Walk of the reference's Times: contract. -/
namespace Go.Proofs.YtihbjimnjhfpeaaGreat.Lt
open Go.RowKit Go.Lib

def at0 (l : List Nat) (i : Nat) : Nat := (l[i]?).getD 0
theorem at0_eq {l : List Nat} {i : Nat} (h : i < l.length) : at0 l i = l[i] := by simp [at0, h]
theorem mul_mill {x y : Nat} (h1 : x ≤ 1000000) (h2 : y ≤ 1000000) : x * y ≤ 1000000000000 := by
  have := Nat.mul_le_mul h1 h2
  omega
theorem dig_mill {l : List Nat} (h : ∀ x ∈ l, x < B6) {i : Nat} (hi : i < l.length) : l[i] ≤ 1000000 := by
  have := h _ (List.getElem_mem hi)
  rw [B6_eq] at this; omega

/-- Times, while it adds up: after i digits of a, and k of b with the next one. -/
structure TmR (a b : List Nat) (i k : Nat) (out : List Nat) : Prop where
  len : out.length = a.length + b.length + 1
  sum : Pw.vl B6 out = Pw.vl B6 (a.take i) * Pw.vl B6 b + at0 a i * B6 ^ i * Pw.vl B6 (b.take k)
  small : ∀ x ∈ out, x ≤ (i * b.length + k) * 1000000000000

theorem TmR.start (a b : List Nat) : TmR a b 0 0 (List.replicate (a.length + b.length + 1) 0) :=
  ⟨by simp, by rw [Pw.vl_zero]; simp [Pw.vl], fun x hx => by rw [List.eq_of_mem_replicate hx]; exact Nat.zero_le _⟩
theorem TmR.next {a b out : List Nat} {i : Nat} (h : TmR a b i b.length out) (hi : i < a.length) : TmR a b (i + 1) 0 out := by
  refine ⟨h.len, ?_, fun x hx => by have := h.small x hx; rw [Nat.add_mul i 1 b.length, Nat.one_mul, Nat.add_zero]; exact this⟩
  rw [h.sum, List.take_length, Pw.take_vl B6 a i hi]
  simp only [Pw.vl, List.take_zero, Nat.mul_zero, Nat.add_zero]
  rw [Nat.add_mul, at0_eq hi, Nat.mul_comm (B6 ^ i)]
theorem TmR.step {a b out : List Nat} {i k : Nat} (h : TmR a b i k out) (ha : ∀ x ∈ a, x < B6) (hb : ∀ x ∈ b, x < B6) (hi : i < a.length) (hk : k < b.length) (hik : i + k < out.length) :
    TmR a b i (k + 1) (out.set (i + k) (out[i + k] + a[i] * b[k])) := by
  refine ⟨by rw [List.length_set]; exact h.len, ?_, fun x hx => ?_⟩
  · rw [Pw.vl_set, h.sum, Pw.take_vl B6 b k hk, Nat.mul_add, at0_eq hi, Nat.pow_add]
    have : a[i] * b[k] * (B6 ^ i * B6 ^ k) = a[i] * B6 ^ i * (B6 ^ k * b[k]) := by
      rw [Nat.mul_assoc, Nat.mul_assoc, Nat.mul_comm b[k], Nat.mul_assoc]
    omega
  · rcases List.mem_or_eq_of_mem_set hx with hx | rfl
    · exact Nat.le_trans (h.small x hx) (Nat.mul_le_mul_right _ (by omega))
    · have h1 := h.small out[i + k] (List.getElem_mem _)
      have h2 := mul_mill (dig_mill ha hi) (dig_mill hb hk)
      rw [← Nat.add_assoc, Nat.succ_mul]; exact Nat.add_le_add h1 h2
theorem prod_le {a b : List Nat} {i k : Nat} (ha : ∀ x ∈ a, x < B6) (hb : ∀ x ∈ b, x < B6) (hi : i < a.length) (hk : k < b.length) : a[i] * b[k] ≤ 1000000000000 := mul_mill (dig_mill ha hi) (dig_mill hb hk)

/-- Times, while it carries: the first i digits are below the base. -/
structure TcR (V L i : Nat) (out : List Nat) : Prop where
  len : out.length = L
  sum : Pw.vl B6 out = V
  dig : ∀ j, j < i → (hj : j < out.length) → out[j] < B6
  small : ∀ x ∈ out, x ≤ 2000000000000000000
  rest : ∀ j, i < j → (hj : j < out.length) → out[j] ≤ 1000000000000000000
theorem TcR.step {V L i : Nat} {out : List Nat} (h : TcR V L i out) (hi : i + 1 < out.length) (hi' : i < out.length) :
    TcR V L (i + 1) ((out.set (i + 1) (out[i + 1] + out[i] / 1000000)).set i (out[i] % 1000000)) := by
  have hp := B6_pos
  have hc := Pw.carry_step B6 (by omega) out i hi
  rw [← B6_eq]
  refine ⟨by simp [h.len], by rw [hc]; exact h.sum, fun j hj hjl => ?_, fun x hx => ?_, fun j hj hjl => ?_⟩
  · rcases Nat.lt_or_ge j i with h1 | h1
    · rw [List.getElem_set_ne (by omega), List.getElem_set_ne (by omega)]
      exact h.dig j h1 (by simpa using hjl)
    · obtain rfl : j = i := by omega
      rw [List.getElem_set_self]; exact Nat.mod_lt _ (by omega)
  · rcases List.mem_or_eq_of_mem_set hx with hx | rfl
    · rcases List.mem_or_eq_of_mem_set hx with hx | rfl
      · exact h.small x hx
      · have h1 := h.rest (i + 1) (by omega) hi
        have h2 := h.small out[i] (List.getElem_mem _)
        have h3 : out[i] / B6 ≤ 2000000000000 := by rw [B6_eq]; omega
        omega
    · have : out[i] % B6 < B6 := Nat.mod_lt _ (by omega)
      rw [B6_eq] at this; rw [B6_eq]; omega
  · rw [List.getElem_set_ne (by omega), List.getElem_set_ne (by omega)]
    exact h.rest j (by omega) (by simpa using hjl)
theorem TcR.start {a b out : List Nat} (h : TmR a b a.length 0 out) (la : a.length ≤ 1000) (lb : b.length ≤ 1000) : TcR (Pw.vl B6 a * Pw.vl B6 b) (a.length + b.length + 1) 0 out := by
  have hs : ∀ x ∈ out, x ≤ 1000000000000000000 := fun x hx => by
    have h1 := h.small x hx
    have h2 := Nat.mul_le_mul la lb
    omega
  refine ⟨h.len, ?_, fun j hj => absurd hj (Nat.not_lt_zero _), fun x hx => Nat.le_trans (hs x hx) (by omega), fun j _ hj => hs _ (List.getElem_mem _)⟩
  rw [h.sum, List.take_length]; simp [Pw.vl]
/-- When all is carried, the number is whole but for zeros at its top. -/
theorem TcR.done {a b out : List Nat} {i : Nat} (h : TcR (Pw.vl B6 a * Pw.vl B6 b) (a.length + b.length + 1) i out) (hi : a.length + b.length ≤ i) (na : Pw.Norm B6 a) (nb : Pw.Norm B6 b) : ∀ x ∈ out, x < B6 := by
  have hp := B6_pos
  have hv : Pw.vl B6 out < B6 ^ (a.length + b.length) := by
    rw [h.sum, Nat.pow_add]
    exact Nat.mul_lt_mul'' (Pw.vl_lt na.dig) (Pw.vl_lt nb.dig)
  have h0 := Pw.last_zero (by omega) h.len hv
  intro x hx
  obtain ⟨j, hj, rfl⟩ := List.mem_iff_getElem.1 hx
  rcases Nat.lt_or_ge j (a.length + b.length) with h1 | h1
  · exact h.dig j (by omega) hj
  · have hl := h.len
    obtain rfl : j = a.length + b.length := by omega
    rw [h0]; omega
theorem row_cut {w : World} {base g cap n : Nat} {l : List Nat} (h : RowV w base (.slice (some ⟨g, 0, none⟩) l.length cap) l) (hn : n ≤ l.length) : RowV w base (.slice (some ⟨g, 0, none⟩) n cap) (l.take n) := by
  unfold RowV at h ⊢
  have hl : (l.take n).length = n := by simp [hn]
  rw [hl]
  rcases h.2 with ⟨h0, _⟩ | ⟨g', cap', cur, h0, hb, hg, hnc, hcm, hcs, htake⟩
  · cases h0
  · cases h0
    refine ⟨by simp [iv, hn], .inr ⟨g, cap, cur, rfl, hb, hg, by omega, hcm, hcs, ?_⟩⟩
    have : (iv l).take n = iv (l.take n) := by simp [iv, List.map_take]
    rw [← this, ← htake, List.take_take]
    congr 1; omega

theorem row_cell {w : World} {base : Nat} {g cap : Nat} {l : List Nat} (h : RowV w base (.slice (some ⟨g, 0, none⟩) l.length cap) l) {k : Nat} (hk : k < l.length) :
    w.cell? ⟨g, k, none⟩ = some (.int .i64 (l[k] : Nat)) ∧ w.frozen? ⟨g, k, none⟩ = false :=
  ⟨by rw [World.ownsRow.cellAt h k (by omega), iv_get _ k hk], World.ownsRow.frozenAt h k⟩
theorem row_store {w : World} {base : Nat} {g cap : Nat} {l : List Nat} (h : RowV w base (.slice (some ⟨g, 0, none⟩) l.length cap) l) (k x : Nat) (y : Int) (hy : y = (x : Int)) :
    RowV (w.setCell ⟨g, k, none⟩ (.int .i64 y)) base (.slice (some ⟨g, 0, none⟩) l.length cap) (l.set k x) ∧ w.grownBy (w.setCell ⟨g, k, none⟩ (.int .i64 y)) (some g) := by
  subst hy
  have := World.ownsRow.stored h k (.int .i64 (x : Int))
  rw [iv_set] at this
  refine ⟨?_, this.2⟩
  unfold RowV
  rw [List.length_set]
  exact this.1

/-- What is left when the zeros are cut. -/
theorem whole_cut {w : World} {base g L n V : Nat} {out : List Nat} (hR : RowV w base (.slice (some ⟨g, 0, none⟩) L L) out) (hL : out.length = L) (hd : ∀ x ∈ out, x < B6) (hs : Pw.vl B6 out = V)
    (hz : ∀ j, n ≤ j → (hj : j < out.length) → out[j] = 0) (hn : n ≤ L) (h : n = 0 ∨ ∃ hj : n - 1 < out.length, out[n - 1] ≠ 0) : Wh w base (.slice (some ⟨g, 0, none⟩) n L) V :=
  ⟨out.take n, row_cut (by rw [hL]; exact hR) (by omega), Pw.cut_norm (by omega) hd h, by rw [Pw.cut_vl hz]; exact hs⟩

/-- A row of digits that came in, at a known block. -/
def RowAt (w : World) (g : Nat) (l : List Nat) : Prop := ∀ k (h : k < l.length), w.cell? ⟨g, k, none⟩ = some (.int .i64 (l[k] : Nat)) ∧ g < w.heap.size

set_option maxRecDepth 20000 in
set_option maxHeartbeats 4000000 in
theorem times_row (a b : List Nat) (pa pb : Option Addr) (ga gb ca cb : Nat) (w : World) (hpa : 0 < a.length → pa = some ⟨ga, 0, none⟩) (hpb : 0 < b.length → pb = some ⟨gb, 0, none⟩)
    (ra : RowAt w ga a) (rb : RowAt w gb b) (na : Pw.Norm B6 a) (nb : Pw.Norm B6 b) (la : a.length ≤ 1000) (lb : b.length ≤ 1000) :
    Calls Tryz.prog 198 #[.slice pa a.length ca, .slice pb b.length cb] w (WhP (Pw.vl B6 a * Pw.vl B6 b) w) := by
  obtain ⟨i0, hi, hz0, hz1, hz2⟩ := info_parts info_int
  have HPA := hid hpa; have HPB := hid hpb; clear hpa hpb
  have RA := hid ra; have RB := hid rb; have NA := hid na; have NB := hid nb
  clear ra rb na nb
  go_enter Tryz.func198, Tryz.ntmps198
  go_wp2_with (at_make; refine wpList_make_full _ rfl _ _ 231 rfl w.heap.size 3 i0 (.int .i64 0) 1 Tryz.underlying231 hi hz0 hz1 _ _ _ _ (a.length + b.length + 1) rfl rfl (by omega) (by omega) (by rw [hz2]; omega) (by unfold maxLen; omega) (Nat.le_refl _) ?_; intro w1 hown1 hgrow1)
  have e0 : (madeCells (Value.int .i64 0).cells ((a.length + b.length + 1) * 1)).toList = iv (List.replicate (a.length + b.length + 1) 0) := by
    rw [Nat.mul_one]; show (madeCells #[_] _).toList = _
    rw [toList_madeCells_one]; simp [iv]
  rw [e0] at hown1
  have hrow1 : RowV w1 w.heap.size (.slice (some ⟨w.heap.size, 0, none⟩) (List.replicate (a.length + b.length + 1) 0).length (a.length + b.length + 1)) (List.replicate (a.length + b.length + 1) 0) := by
    unfold RowV; rw [List.length_replicate]; exact hown1
  have hB1 : Below w.heap.size w w1 := (Below.refl _ _).grown hgrow1 (Nat.le_refl _) (fun k h => by cases h)
  clear hown1 hgrow1 e0
  generalize hG : w.heap.size = G at hrow1 hB1 ⊢
  have HG := hid hG; clear hG
  have hTm0 := TmR.start a b
  generalize List.replicate (a.length + b.length + 1) 0 = out0 at hrow1 hTm0
  rw [hTm0.len] at hrow1
  have HR := hid hrow1
  have HB := hid hB1
  have HT := hid hTm0
  clear hrow1 hB1 hTm0
  go_wp2
  go_loopw [6] (fun si wr => ∃ i : Nat, i ≤ a.length ∧ si = .int .i64 i ∧ ∃ out : List Nat, Hid (RowV wr G (.slice (some ⟨G, 0, none⟩) (a.length + b.length + 1) (a.length + b.length + 1)) out) ∧ Hid (TmR a b i 0 out) ∧ Hid (Below G w wr)) (fun si _ => a.length - (intOf si).toNat)
  case atStart => exact ⟨0, Nat.zero_le _, rfl, out0, HR, HT, HB⟩
  case round =>
    obtain ⟨i, hi, rfl, out, hR, hT, hB⟩ := hrel
    by_cases hlt : i < a.length
    · obtain ⟨wo, rfl⟩ : ∃ wo : World, wo = wr := ⟨_, rfl⟩
      go_wp2
      go_loopw [7] (fun sk wr => ∃ k : Nat, k ≤ b.length ∧ sk = .int .i64 k ∧ ∃ out : List Nat, Hid (RowV wr G (.slice (some ⟨G, 0, none⟩) (a.length + b.length + 1) (a.length + b.length + 1)) out) ∧ Hid (TmR a b i k out) ∧ Hid (Below G w wr)) (fun sk _ => b.length - (intOf sk).toNat)
      case atStart => exact ⟨0, Nat.zero_le _, rfl, out, hR, hT, hB⟩
      case round =>
        clear hR hT hB out
        obtain ⟨k, hk, rfl, out, hR, hT, hB⟩ := hrel
        by_cases hkt : k < b.length
        · obtain rfl := HPA.out (by omega)
          obtain rfl := HPB.out (by omega)
          obtain ⟨hca, hgw⟩ := RA.out i hlt
          obtain ⟨hcb, hgw'⟩ := RB.out k hkt
          have hL := hT.out.len
          have hik : i + k < out.length := by omega
          have hRo := hR.out
          rw [← hL] at hRo
          obtain ⟨co, cf⟩ := row_cell hRo hik
          have cA := (hB.out.cell (p := ⟨ga, i, none⟩) (by rw [← HG.out]; exact hgw)).trans hca
          have cB := (hB.out.cell (p := ⟨gb, k, none⟩) (by rw [← HG.out]; exact hgw')).trans hcb
          have hpr := prod_le NA.out.dig NB.out.dig hlt hkt
          have hsm := hT.out.small _ (List.getElem_mem hik)
          have hst := hid (hT.out.step NA.out.dig NB.out.dig hlt hkt hik)
          have hbig : (i * b.length + k) * 1000000000000 ≤ 2000000000000000000 := by
            have := Nat.mul_le_mul (show i ≤ 1000 by omega) lb
            omega
          clear hRo
          obtain ⟨x, hx⟩ : ∃ x, x = a[i] := ⟨_, rfl⟩
          obtain ⟨y, hy⟩ : ∃ y, y = b[k] := ⟨_, rfl⟩
          obtain ⟨o, ho⟩ : ∃ o, o = out[i + k] := ⟨_, rfl⟩
          rw [← hx, ← hy] at hpr
          rw [← hx] at cA
          rw [← hy] at cB
          rw [← ho] at co hsm
          have HX := hid hx; have HY := hid hy; have HO := hid ho
          clear hx hy ho hca hcb hgw hgw'
          have hso : o ≤ 2000000000000000000 := Nat.le_trans hsm hbig
          clear hsm hbig
          have hik2 : i + k < a.length + b.length + 1 := by omega
          have HL := hid hL; clear hL
          go_wp2
          go_region
          go_wp2
          go_roundw
          case rel =>
            have R := row_store (l := out) (by rw [HL.out]; exact hR.out) (i + k) (out[i + k] + a[i] * b[k]) ((o : Int) + x * y) (by rw [HX.out, HY.out, HO.out]; simp)
            rw [HL.out] at R
            exact ⟨k + 1, by omega, by go_num, out.set (i + k) (out[i + k] + a[i] * b[k]), R.1, hst, (hB.out.setCell (Nat.le_refl _) _).drew⟩
          case measure => simp [intOf]; omega
        · obtain rfl : k = b.length := by omega
          have hnx := hid (hT.out.next hlt)
          go_wp2
          go_roundw
          case rel => exact ⟨i + 1, by omega, by go_num, out, hR, hnx, hB⟩
          case measure => simp [intOf]; omega
    · obtain rfl : i = a.length := by omega
      have hC := hid (TcR.start hT.out la lb)
      clear hT
      go_wp2
      go_loopw [8] (fun si wr => ∃ i : Nat, i ≤ a.length + b.length ∧ si = .int .i64 i ∧ ∃ out : List Nat, Hid (RowV wr G (.slice (some ⟨G, 0, none⟩) (a.length + b.length + 1) (a.length + b.length + 1)) out) ∧ Hid (TcR (Pw.vl B6 a * Pw.vl B6 b) (a.length + b.length + 1) i out) ∧ Hid (Below G w wr)) (fun si _ => a.length + b.length - (intOf si).toNat)
      case atStart => exact ⟨0, Nat.zero_le _, rfl, out, hR, hC, hB⟩
      case round =>
        clear hR hC hB out
        obtain ⟨i, hi2, rfl, out, hR, hC, hB⟩ := hrel
        by_cases hit : i + 1 < a.length + b.length + 1
        · have hL := hC.out.len
          have h1 : i + 1 < out.length := by omega
          have h0 : i < out.length := by omega
          have hRo := hR.out
          rw [← hL] at hRo
          obtain ⟨co, cf⟩ := row_cell hRo h1
          obtain ⟨co0, cf0⟩ := row_cell hRo h0
          have hs1 := hC.out.small _ (List.getElem_mem h1)
          have hs0 := hC.out.small _ (List.getElem_mem h0)
          have hst := hid (hC.out.step h1 h0)
          clear hRo
          obtain ⟨x, hx⟩ : ∃ x, x = out[i] := ⟨_, rfl⟩
          obtain ⟨y, hy⟩ : ∃ y, y = out[i + 1] := ⟨_, rfl⟩
          rw [← hx] at co0 hs0
          rw [← hy] at co hs1
          have HX := hid hx; have HY := hid hy
          clear hx hy
          have HL := hid hL; clear hL
          go_wp2
          go_region
          go_wp2
          go_roundw
          case rel =>
            have R1 := row_store (l := out) (by rw [HL.out]; exact hR.out) (i + 1) (out[i + 1] + out[i] / 1000000) ((y : Int) + x / 1000000) (by rw [HX.out, HY.out]; omega)
            have R2 := row_store (l := out.set (i + 1) (out[i + 1] + out[i] / 1000000)) (cap := a.length + b.length + 1) (by rw [List.length_set]; exact R1.1) i (out[i] % 1000000) ((x : Int) % 1000000) (by rw [HX.out]; omega)
            rw [List.length_set, HL.out] at R2
            exact ⟨i + 1, by omega, by go_num, _, R2.1, hst, ((hB.out.setCell (Nat.le_refl _) _).setCell (Nat.le_refl _) _).drew⟩
          case measure => simp [intOf]; omega
        · obtain rfl : i = a.length + b.length := by omega
          have hdig := hid (hC.out.done (Nat.le_refl _) NA.out NB.out)
          have hL := hC.out.len
          have HL := hid hL
          have hsum := hid hC.out.sum
          clear hC
          go_wp2
          go_loop [9] (fun sn => ∃ n : Nat, n ≤ a.length + b.length + 1 ∧ sn = .int .i64 n ∧ Hid (∀ j, n ≤ j → (hj : j < out.length) → out[j] = 0)) (fun sn => (intOf sn).toNat)
          case atStart => exact ⟨_, Nat.le_refl _, by go_num, fun j h1 h2 => absurd h2 (by omega)⟩
          case round =>
            obtain ⟨n, hn, rfl, hz⟩ := hrel
            by_cases hn0 : 0 < n
            · obtain ⟨m, rfl⟩ : ∃ m, n = m + 1 := ⟨n - 1, by omega⟩
              have hn1 : m < out.length := by omega
              obtain ⟨co, cf⟩ := row_cell (l := out) (by rw [HL.out]; exact hR.out) hn1
              obtain ⟨x, hx⟩ : ∃ x, x = out[m] := ⟨_, rfl⟩
              rw [← hx] at co
              have HX := hid hx; clear hx
              by_cases hx0 : x = 0
              · have hz' := hid (show ∀ j, m ≤ j → (hj : j < out.length) → out[j] = 0 from fun j h1 h2 => by
                  rcases Nat.eq_or_lt_of_le h1 with rfl | h3
                  · rw [← HX.out]; exact hx0
                  · exact hz.out j h3 h2)
                have hb : ((x : Int) == 0) = true := by rw [hx0]; rfl
                clear hx0
                go_wp2
                go_round
                case rel => exact ⟨m, by omega, by go_num, hz'⟩
                case measure => simp [intOf]
              · have hb : ((x : Int) == 0) = false := by simp; omega
                have hw := hid (whole_cut hR.out HL.out hdig.out hsum.out hz.out hn (.inr ⟨hn1, by show out[m] ≠ 0; rw [← HX.out]; exact hx0⟩))
                clear hx0
                go_wp2
                go_ret
                exact ⟨_, rfl, by rw [HG.out]; exact hw.out, by rw [HG.out]; exact hB.out⟩
            · obtain rfl : n = 0 := by omega
              have hw := hid (whole_cut hR.out HL.out hdig.out hsum.out hz.out hn (.inl rfl))
              go_wp2
              go_ret
              exact ⟨_, rfl, by rw [HG.out]; exact hw.out, by rw [HG.out]; exact hB.out⟩

theorem wtimes_any (va vb : Value) (x y : Nat) (w : World) (ra : WhR w va x) (rb : WhR w vb y) (hx : x < 1000000 ^ 1000) (hy : y < 1000000 ^ 1000) :
    Calls Tryz.prog 198 #[va, vb] w (WhP (x * y) w) := by
  obtain ⟨a, ra, na, rfl⟩ := ra
  obtain ⟨b, rb, nb, rfl⟩ := rb
  have la := Pw.len_le B6_pos na (k := 1000) (by rw [B6_eq] at hx ⊢; exact hx)
  have lb := Pw.len_le B6_pos nb (k := 1000) (by rw [B6_eq] at hy ⊢; exact hy)
  clear hx hy
  have hc : ∃ pa ga ca, va = .slice pa a.length ca ∧ (0 < a.length → pa = some ⟨ga, 0, none⟩) ∧ RowAt w ga a := by
    rcases ra with ⟨rfl, rfl⟩ | ⟨ga, ca, rfl, h⟩
    · exact ⟨none, 0, 0, rfl, fun h => absurd h (by simp), fun k h => absurd h (by simp)⟩
    · exact ⟨_, ga, ca, rfl, fun _ => rfl, fun k hk => ⟨h k hk, World.block_lt_of_cell? w _ (h k hk)⟩⟩
  have hd : ∃ pb gb cb, vb = .slice pb b.length cb ∧ (0 < b.length → pb = some ⟨gb, 0, none⟩) ∧ RowAt w gb b := by
    rcases rb with ⟨rfl, rfl⟩ | ⟨gb, cb, rfl, h⟩
    · exact ⟨none, 0, 0, rfl, fun h => absurd h (by simp), fun k h => absurd h (by simp)⟩
    · exact ⟨_, gb, cb, rfl, fun _ => rfl, fun k hk => ⟨h k hk, World.block_lt_of_cell? w _ (h k hk)⟩⟩
  obtain ⟨pa, ga, ca, rfl, h1, h2⟩ := hc
  obtain ⟨pb, gb, cb, rfl, h3, h4⟩ := hd
  exact times_row a b pa pb ga gb ca cb w h1 h3 h2 h4 na nb la lb
end Go.Proofs.YtihbjimnjhfpeaaGreat.Lt

/- Walks of the reference's Power and root: contracts. -/
namespace Go.Proofs.YtihbjimnjhfpeaaGreat.Lt
open Go.RowKit Go.Lib

theorem Wh.base {w : World} {B B' : Nat} {v : Value} {x : Nat} (h : Wh w B v x) (hB : B' ≤ B) : Wh w B' v x := by
  obtain ⟨l, ⟨h1, h2⟩, h3⟩ := h
  refine ⟨l, ⟨h1, ?_⟩, h3⟩
  rcases h2 with h2 | ⟨g, cap, cur, hv, hg, r⟩
  · exact .inl h2
  · exact .inr ⟨g, cap, cur, hv, Nat.le_trans hB hg, r⟩
theorem WhP.after {x : Nat} {w w1 w' : World} {e : Ending} (hB : Below w.heap.size w w1) (h : WhP x w1 e w') : WhP x w e w' := by
  obtain ⟨v, he, hv, hb⟩ := h
  exact ⟨v, he, hv.base hB.size, hB.trans (hb.mono hB.size)⟩

/-- x and all its powers up to n are small enough to be reckoned. -/
def PowOk (x n : Nat) : Prop := ∀ m, m ≤ n → x ^ m < 1000000 ^ 1000
theorem PowOk.le {x n m : Nat} (h : PowOk x n) (hm : m ≤ n) : PowOk x m := fun k hk => h k (Nat.le_trans hk hm)
theorem PowOk.of {x n : Nat} (hx : 1 ≤ x) (h : x ^ n < 1000000 ^ 1000) : PowOk x n := fun _ hm => Nat.lt_of_le_of_lt (Nat.pow_le_pow_right hx hm) h
attribute [irreducible] PowOk
theorem PowOk.at' {x n m : Nat} (h : PowOk x n) (hm : m ≤ n) : x ^ m < 1000000 ^ 1000 := by unfold PowOk at h; exact h m hm

theorem PowOk.self {x n : Nat} (h : PowOk x n) (hm : 1 ≤ n) : x < 1000000 ^ 1000 := by have := h.at' hm; rwa [Nat.pow_one] at this

theorem wpower_zero (va : Value) (x : Nat) (w : World) : Calls Tryz.prog 195 #[va, .int .i64 0] w (WhP (x ^ 0) w) := by
  go_enter Tryz.func195, Tryz.ntmps195
  go_wp2_with (go_at_call 196; refine (of_any 1 _ (by decide)).mono ?_; rintro e w1 ⟨v1, rfl, h1, hb1⟩)
  go_ret
  exact ⟨v1, rfl, h1, hb1⟩

set_option maxHeartbeats 1000000 in
theorem wpower_any (k : Nat) : ∀ (n : Nat) (va : Value) (x : Nat) (w : World), n ≤ k → n ≤ 100000 → WhR w va x → PowOk x n → Calls Tryz.prog 195 #[va, .int .i64 n] w (WhP (x ^ n) w) := by
  induction k with
  | zero =>
    intro n va x w hk _ _ _
    obtain rfl : n = 0 := by omega
    exact wpower_zero va x w
  | succ k ih =>
    intro n va x w hk hn ra hok
    by_cases h0 : n = 0
    · subst h0; exact wpower_zero va x w
    have IH := hid ih; clear ih
    have RA := hid ra; clear ra
    have OK := hid hok; clear hok
    have hb0 : ((n : Int) == 0) = false := by simp; omega
    by_cases h2 : n % 2 = 1
    · obtain ⟨m, rfl⟩ : ∃ m, n = m + 1 := ⟨n - 1, by omega⟩
      have hb1 : (((m + 1 : Nat) : Int) % 2 == 1) = true := by simp; omega
      have hb1' : (((m : Int) + 1) % 2 == 1) = true := by simp; omega
      have hb0' : (((m : Int) + 1) == 0) = false := by simp; omega
      clear h2
      go_enter Tryz.func195, Tryz.ntmps195
      go_wp2_with (first
        | (go_at_call 195; refine (IH.out m va x _ (by omega) (by omega) RA.out (OK.out.le (by omega))).mono ?_; rintro e w1 ⟨v1, rfl, h1, hb1⟩; have H1 := hid h1; clear h1)
        | (go_at_call 198; refine (wtimes_any _ _ x (x ^ m) _ (RA.out.keep hb1) H1.out.reads (OK.out.self (by omega)) (OK.out.at' (by omega))).mono ?_; rintro e w2 ⟨v2, rfl, h2, hb2⟩))
      go_ret
      refine WhP.after hb1 ⟨v2, rfl, ?_, hb2⟩
      rw [Nat.pow_succ, Nat.mul_comm]; exact h2
    · obtain ⟨m, rfl⟩ : ∃ m, n = 2 * m := ⟨n / 2, by omega⟩
      have hb1 : (((2 * m : Nat) : Int) % 2 == 1) = false := by simp
      have hb1' : ((2 * (m : Int)) % 2 == 1) = false := by simp
      have HH : Hid ((2 * (m : Int)) / 2 = m) := by unfold Hid; omega
      have HH' : Hid (((2 * m : Nat) : Int) / 2 = m) := by unfold Hid; omega
      clear h2
      go_enter Tryz.func195, Tryz.ntmps195
      go_wp2_with (first
        | (go_at_call 195; (first | rw [HH.out] | rw [HH'.out] | skip); refine (IH.out m va x _ (by omega) (by omega) RA.out (OK.out.le (by omega))).mono ?_; rintro e w1 ⟨v1, rfl, h1, hb1⟩; have H1 := hid h1; clear h1)
        | (go_at_call 198; refine (wtimes_any _ _ (x ^ m) (x ^ m) _ H1.out.reads H1.out.reads (OK.out.at' (by omega)) (OK.out.at' (by omega))).mono ?_; rintro e w2 ⟨v2, rfl, h2, hb2⟩))
      go_ret
      refine WhP.after hb1 ⟨v2, rfl, ?_, hb2⟩
      rw [Nat.two_mul, Nat.pow_add]; exact h2
end Go.Proofs.YtihbjimnjhfpeaaGreat.Lt

/- Plain lemmas on whole roots of powers of ten: shifts by decades, whole exponents, growth, when a root is exact. No Go in sight. -/
namespace Go.Proofs.YtihbjimnjhfpeaaGreat.Lt.Pm

theorem root_shift (e z k : Nat) (hz : 1 ≤ z) : rootN (e + k * z) z / 10 ^ k = rootN e z := by
  have h := rootN_is (e + k * z) z hz
  generalize rootN (e + k * z) z = N at h ⊢
  obtain ⟨h1, h2⟩ := h
  have hp : 0 < 10 ^ k := Nat.pow_pos (by decide)
  symm
  refine rootN_eq hz ⟨?_, ?_⟩
  · have a : (N / 10 ^ k * 10 ^ k) ^ z ≤ 10 ^ (e + k * z) := Nat.le_trans (Nat.pow_le_pow_left (Nat.div_mul_le_self _ _) _) h1
    rw [Nat.mul_pow, ← Nat.pow_mul, Nat.pow_add] at a
    exact Nat.le_of_mul_le_mul_right a (Nat.pow_pos (by decide))
  · have a : N + 1 ≤ (N / 10 ^ k + 1) * 10 ^ k := by
      have := Nat.div_add_mod N (10 ^ k)
      have := Nat.mod_lt N hp
      rw [Nat.add_mul, Nat.mul_comm]; omega
    have b := Nat.lt_of_lt_of_le h2 (Nat.pow_le_pow_left a z)
    rw [Nat.mul_pow, ← Nat.pow_mul, Nat.pow_add] at b
    exact Nat.lt_of_mul_lt_mul_right b

theorem root_whole (q z : Nat) (hz : 1 ≤ z) : rootN (q * z) z = 10 ^ q := by
  refine rootN_eq hz ⟨?_, ?_⟩
  · rw [← Nat.pow_mul]; exact Nat.le_refl _
  · rw [Nat.pow_mul]
    exact Nat.pow_lt_pow_left (Nat.lt_succ_self _) (by omega)

theorem root_mono {e e' z : Nat} (hz : 1 ≤ z) (h : e ≤ e') : rootN e z ≤ rootN e' z := by
  have h1 := rootN_is e z hz
  have h2 := rootN_is e' z hz
  rcases Nat.lt_or_ge (rootN e' z) (rootN e z) with h3 | h3
  · have a := Nat.pow_le_pow_left (show rootN e' z + 1 ≤ rootN e z from h3) z
    have b : 10 ^ e ≤ 10 ^ e' := Nat.pow_le_pow_right (by decide) h
    have := h1.1; have := h2.2
    omega
  · exact h3

theorem odd_pow {m : Nat} (h : m % 2 = 1) (k : Nat) : m ^ k % 2 = 1 := by
  induction k with
  | zero => rfl
  | succ k ih => rw [Nat.pow_succ, Nat.mul_mod, ih, h]
theorem two_part {a b m n : Nat} (hm : m % 2 = 1) (hn : n % 2 = 1) (h : 2 ^ a * m = 2 ^ b * n) : a = b := by
  induction a generalizing b with
  | zero =>
    cases b with
    | zero => rfl
    | succ b => rw [Nat.pow_succ, Nat.pow_zero, Nat.one_mul, Nat.mul_comm (2 ^ b) 2, Nat.mul_assoc] at h; omega
  | succ a ih =>
    cases b with
    | zero => rw [Nat.pow_succ, Nat.pow_zero, Nat.one_mul, Nat.mul_comm (2 ^ a) 2, Nat.mul_assoc] at h; omega
    | succ b =>
      rw [Nat.pow_succ, Nat.pow_succ, Nat.mul_comm (2 ^ a) 2, Nat.mul_comm (2 ^ b) 2, Nat.mul_assoc, Nat.mul_assoc] at h
      rw [ih (Nat.eq_of_mul_eq_mul_left (by decide) h)]
theorem two_split (n : Nat) (h : 0 < n) : ∃ a m, n = 2 ^ a * m ∧ m % 2 = 1 := by
  induction n using Nat.strongRecOn with
  | ind n ih =>
    rcases Nat.mod_two_eq_zero_or_one n with h2 | h2
    · obtain ⟨a, m, h3, h4⟩ := ih (n / 2) (by omega) (by omega)
      exact ⟨a + 1, m, by rw [Nat.pow_succ, Nat.mul_comm (2 ^ a) 2, Nat.mul_assoc, ← h3]; omega, h4⟩
    · exact ⟨0, n, by simp, h2⟩
/-- A power of ten is a z-th power only if z divides its exponent. -/
theorem exact_dvd {n z e : Nat} (h : n ^ z = 10 ^ e) : ∃ a, e = a * z := by
  have hn : 0 < n ∨ z = 0 := by
    rcases Nat.eq_zero_or_pos n with rfl | hn
    · right
      rcases Nat.eq_zero_or_pos z with hz | hz
      · exact hz
      · rw [Nat.zero_pow hz] at h
        have : 0 < 10 ^ e := Nat.pow_pos (by decide)
        omega
    · exact .inl hn
  rcases hn with hn | rfl
  · obtain ⟨a, m, rfl, hm⟩ := two_split n hn
    rw [Nat.mul_pow, ← Nat.pow_mul, show (10 : Nat) = 2 * 5 from rfl, Nat.mul_pow] at h
    exact ⟨a, (two_part (odd_pow hm z) (odd_pow (by decide) e) h).symm⟩
  · refine ⟨0, ?_⟩
    rw [Nat.pow_zero] at h
    rcases Nat.eq_zero_or_pos e with he | he
    · simp [he]
    · have : 10 ^ 1 ≤ 10 ^ e := Nat.pow_le_pow_right (by decide) he
      omega
theorem root_exact (e z : Nat) (hz : 1 ≤ z) : rootN e z ^ z = 10 ^ e ↔ e % z = 0 := by
  constructor
  · intro h
    obtain ⟨a, rfl⟩ := exact_dvd h
    exact Nat.mul_mod_left a z
  · intro h
    obtain ⟨q, rfl⟩ : ∃ q, e = q * z := ⟨e / z, by rw [Nat.mul_comm]; exact (Nat.mul_div_cancel' (Nat.dvd_of_mod_eq_zero h)).symm⟩
    rw [root_whole q z hz, ← Nat.pow_mul]
theorem root_le16 (e z : Nat) (hz : 1 ≤ z) (he : e ≤ 16 * z) : rootN e z ≤ 10000000000000000 := by
  have := root_mono hz he
  rw [root_whole 16 z hz] at this
  exact this
/-- The exponent of 10 (times z) in the rate, the rate down and up. -/
def expo (r z t : Int) : Int := 6 * z + min (t - r) (10 * z)
def rateD (r z t : Int) : Nat := if expo r z t < 0 then 0 else rootN (expo r z t).toNat z.toNat
def rateU (r z t : Int) : Nat := if expo r z t < 0 then 1 else if (expo r z t).toNat % z.toNat = 0 then rootN (expo r z t).toNat z.toNat else rootN (expo r z t).toNat z.toNat + 1
theorem expo_le (r z t : Int) : expo r z t ≤ 16 * z := by unfold expo; omega
theorem rateD_neg {r z t : Int} (h : expo r z t < 0) : rateD r z t = 0 := by unfold rateD; rw [if_pos h]
theorem rateD_pos {r z t : Int} (h : ¬ expo r z t < 0) : rateD r z t = rootN (expo r z t).toNat z.toNat := by unfold rateD; rw [if_neg h]
theorem rateD_le (r z t : Int) (hz : 1 ≤ z) : rateD r z t ≤ 10000000000000000 := by
  unfold rateD
  split
  · omega
  · have := expo_le r z t
    exact root_le16 _ _ (by omega) (by omega)
theorem rateU_eq (r z t : Int) : rateU r z t = if 0 ≤ expo r z t ∧ (expo r z t).toNat % z.toNat = 0 then rateD r z t else rateD r z t + 1 := by
  unfold rateU rateD
  by_cases h : expo r z t < 0
  · rw [if_pos h, if_pos h, if_neg (by omega)]
  · rw [if_neg h, if_neg h]
    by_cases h2 : (expo r z t).toNat % z.toNat = 0
    · rw [if_pos h2, if_pos ⟨by omega, h2⟩]
    · rw [if_neg h2, if_neg (by omega)]
/-- The rate out of the decade below the cut. -/
theorem rateD_digits {r z t : Int} (hz : 1 ≤ z) (h : ¬ expo r z t < 0) (hp : (expo r z t).toNat % z.toNat ≠ 0) :
    (expo r z t).toNat / z.toNat ≤ 15 ∧ rateD r z t = rootN (15 * z.toNat + (expo r z t).toNat % z.toNat) z.toNat / 10 ^ (15 - (expo r z t).toNat / z.toNat) := by
  have hle := expo_le r z t
  rw [rateD_pos h]
  have hZ : 1 ≤ z.toNat := by omega
  have hE : (expo r z t).toNat ≤ 16 * z.toNat := by omega
  generalize (expo r z t).toNat = E at *
  generalize z.toNat = Z at *
  have hdm := Nat.div_add_mod E Z
  have hq : E / Z ≤ 15 := by
    rcases Nat.lt_or_ge 15 (E / Z) with h16 | h16
    · have : Z * 16 ≤ Z * (E / Z) := Nat.mul_le_mul_left _ h16
      omega
    · exact h16
  refine ⟨hq, ?_⟩
  rw [← root_shift E Z (15 - E / Z) hZ]
  congr 2
  have : (15 - E / Z) * Z + Z * (E / Z) = 15 * Z := by
    rw [Nat.mul_comm Z, ← Nat.add_mul]; congr 1; omega
  omega
theorem rateD_whole {r z t : Int} (hz : 1 ≤ z) (h : ¬ expo r z t < 0) (hp : (expo r z t).toNat % z.toNat = 0) : rateD r z t = 10 ^ ((expo r z t).toNat / z.toNat) := by
  rw [rateD_pos h]
  conv => lhs; rw [← Nat.div_add_mod (expo r z t).toNat z.toNat, hp, Nat.add_zero, Nat.mul_comm]
  exact root_whole _ _ (by omega)
theorem rateD_mono {r z t u : Int} (hz : 1 ≤ z) (h : t ≤ u) : rateD r z t ≤ rateD r z u := by
  have he : expo r z t ≤ expo r z u := by unfold expo; omega
  by_cases h1 : expo r z t < 0
  · rw [rateD_neg h1]; exact Nat.zero_le _
  · rw [rateD_pos h1, rateD_pos (by omega)]
    exact root_mono (by omega) (by omega)
end Go.Proofs.YtihbjimnjhfpeaaGreat.Lt.Pm

/- Walks of sort.Search over the root's test, and root, Root of package lethal: contracts. -/
namespace Go.Proofs.YtihbjimnjhfpeaaGreat.Lt
open Go.RowKit Go.Lib

/-- What sort.Search finds, whatever the test. -/
def Found (n : Nat) (p : Nat → Bool) (r : Nat) : Prop := r ≤ n ∧ (r = 0 ∨ p (r - 1) = false) ∧ (r = n ∨ p r = true)
def SearchP (n : Nat) (p : Nat → Bool) (S : World → Prop) (e : Ending) (w' : World) : Prop := ∃ r : Nat, e = .returned (.int .i64 r) ∧ Found n p r ∧ S w'
structure Span (n : Nat) (p : Nat → Bool) (i j : Nat) : Prop where
  le : i ≤ j
  top : j ≤ n
  low : i = 0 ∨ p (i - 1) = false
  high : j = n ∨ p j = true
theorem Span.up {n : Nat} {p : Nat → Bool} {i j h : Nat} (s : Span n p i j) (h2 : h < j) (hp : p h = false) : Span n p (h + 1) j := ⟨h2, s.top, .inr hp, s.high⟩
theorem Span.down {n : Nat} {p : Nat → Bool} {i j h : Nat} (s : Span n p i j) (h1 : i ≤ h) (h2 : h < j) (hp : p h = true) : Span n p i h := ⟨h1, by have := s.top; omega, s.low, .inr hp⟩

set_option maxHeartbeats 1000000 in
theorem search_root (n : Nat) (p : Nat → Bool) (S : World → Prop) (c1 c2 c3 : Value) (w : World) (hn : n ≤ 4000000000000000000) (hS : S w)
    (hcall : ∀ (m : Nat) (wr : World), m < n → S wr → Calls Tryz.prog 184 #[.int .i64 m, c1, c2, c3] wr fun e w' => e = .returned (.bool (p m)) ∧ S w') :
    Calls Tryz.prog 173 #[.int .i64 n, .func (.func 184) #[] #[c1, c2, c3]] w (SearchP n p S) := by
  have HC := hid hcall; clear hcall
  have HS := hid hS; clear hS
  go_enter Tryz.func173, Tryz.ntmps173
  go_wp2
  go_loopw [5, 6] (fun a b wr => ∃ i j : Nat, a = .int .i64 i ∧ b = .int .i64 j ∧ Hid (Span n p i j) ∧ Hid (S wr)) (fun a b _ => (intOf b - intOf a).toNat)
  case atStart => exact ⟨0, n, rfl, rfl, ⟨Nat.zero_le _, Nat.le_refl _, .inl rfl, .inl rfl⟩, HS⟩
  case round =>
    obtain ⟨i, j, rfl, rfl, hs, hS⟩ := hrel
    have hij := hs.out.le
    have hjn := hs.out.top
    by_cases hlt : i < j
    · obtain ⟨m, hm⟩ : ∃ m, m = (i + j) / 2 := ⟨_, rfl⟩
      have hm1 : i ≤ m := by omega
      have hm2 : m < j := by omega
      have HM : Hid (((i : Int) + j) / 2 = (m : Int)) := by unfold Hid; omega
      clear hm
      cases hp : p m
      · have HP := hid hp
        go_wp2_with (go_at_call 184; rw [HM.out]; refine (HC.out m _ (by omega) hS.out).mono ?_; rintro e w2 ⟨rfl, hS2⟩)
        go_roundw
        case rel => exact ⟨m + 1, j, by go_num, rfl, hs.out.up hm2 HP.out, hS2⟩
        case measure => simp [intOf]; omega
      · have HP := hid hp
        go_wp2_with (go_at_call 184; rw [HM.out]; refine (HC.out m _ (by omega) hS.out).mono ?_; rintro e w2 ⟨rfl, hS2⟩)
        go_roundw
        case rel => exact ⟨i, m, rfl, rfl, hs.out.down hm1 hm2 HP.out, hS2⟩
        case measure => simp [intOf]; omega
    · obtain rfl : i = j := by omega
      go_wp2
      go_ret
      exact ⟨i, rfl, ⟨hs.out.top, hs.out.low, hs.out.high⟩, hS.out⟩
end Go.Proofs.YtihbjimnjhfpeaaGreat.Lt
