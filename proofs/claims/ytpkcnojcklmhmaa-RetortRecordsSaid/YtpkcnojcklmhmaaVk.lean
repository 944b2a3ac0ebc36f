/- Walks of change, aim and of the functions of kinds: contracts. -/
import Derived.Test.YtpkcnojcklmhmaaVj
namespace Go.Proofs.Ytpkcnojcklmhmaa
open Go.RowKit

set_option maxHeartbeats 400000 in
theorem isNaN_any (d : Int) (w : World) : Calls Try.prog 131 #[.int .i64 d] w fun e w' => e = .returned (.bool false) ∧ w = w' := by
  have h : (d != d) = false := by simp
  go_enter Try.func131, Try.ntmps131
  go_wp2
  go_ret
  exact ⟨rfl, rfl⟩
/-- Below, at, or above nothing. -/
def sgN (d : Int) : Int := if d < 0 then -1 else if 0 < d then 1 else 0
set_option maxHeartbeats 1000000 in
theorem compare_any (d : Int) (w : World) : Calls Try.prog 125 #[.int .i64 d, .int .i64 0] w fun e w' => e = .returned (.int .i64 (sgN d)) ∧ w = w' := by
  rcases Int.lt_trichotomy d 0 with h | h | h
  · have hE : Hid (sgN d = -1) := by unfold Hid sgN; rw [if_pos h]
    go_enter Try.func125, Try.ntmps125
    go_wp2_with (go_at_call 131; refine (isNaN_any _ _).mono ?_; rintro e w' ⟨rfl, rfl⟩)
    go_ret
    exact ⟨ret_int hE.out.symm, rfl⟩
  · subst h
    go_enter Try.func125, Try.ntmps125
    go_wp2_with (go_at_call 131; refine (isNaN_any _ _).mono ?_; rintro e w' ⟨rfl, rfl⟩)
    go_ret
    exact ⟨rfl, rfl⟩
  · have hE : Hid (sgN d = 1) := by unfold Hid sgN; rw [if_neg (by omega), if_pos h]
    have h' : ¬ d < 0 := by omega
    go_enter Try.func125, Try.ntmps125
    go_wp2_with (go_at_call 131; refine (isNaN_any _ _).mono ?_; rintro e w' ⟨rfl, rfl⟩)
    go_ret
    exact ⟨ret_int hE.out.symm, rfl⟩
theorem chN_eq (h c d : Int) : chN h c d = if (d * (if 0 < d then h else c)).tdiv 1000 ≠ 0 then (d * (if 0 < d then h else c)).tdiv 1000 else sgN d := rfl
set_option maxRecDepth 20000 in
set_option maxHeartbeats 2000000 in
theorem change_any (s : ByteArray) (h c v p ch : Int) (pa : Option Addr) (m pc : Nat) (qa : Option Addr) (n qc : Nat) (d : Int) (w : World) (d1 : -300000 ≤ d) (d2 : d ≤ 300000) (h1 : 1 ≤ h) (h2 : h ≤ 1000) (c1 : 1 ≤ c) (c2 : c ≤ 1000) :
    Calls Try.prog 114 #[.agg #[.string s, .int .i64 h, .int .i64 c, .int .i64 v, .int .i64 p, .int .i64 ch, .slice pa m pc, .slice qa n qc], .int .i64 d] w fun e w' => e = .returned (.int .i64 (chN h c d)) ∧ Below w.heap.size w w' := by
  have HE := hid (chN_eq h c d)
  by_cases hd : 0 < d
  · obtain ⟨_, p2, p3, _⟩ := prod_bd d1 d2 h1 h2
    obtain ⟨p4, _⟩ := p3 (by omega)
    rw [if_pos hd, Int.tdiv_eq_ediv_of_nonneg p4] at HE
    clear p3
    by_cases hz : d * h / 1000 = 0
    · have hz' : (d * h / 1000 != 0) = false := by simpa using hz
      have hE : Hid (chN h c d = sgN d) := by rw [HE.out, if_neg (by simpa using hz)]; rfl
      clear hz HE
      go_enter Try.func114, Try.ntmps114
      go_wp2_with (go_at_call 125; refine (compare_any _ _).mono ?_; rintro e w' ⟨rfl, rfl⟩)
      go_ret
      exact ⟨ret_int hE.out.symm, (Below.refl _ _).alloc (Nat.le_refl _) _⟩
    · have hz' : (d * h / 1000 != 0) = true := by simpa using hz
      have hE : Hid (chN h c d = d * h / 1000) := by rw [HE.out, if_pos hz]; rfl
      clear hz HE
      go_enter Try.func114, Try.ntmps114
      go_wp2_with (go_at_call 125; refine (compare_any _ _).mono ?_; rintro e w' ⟨rfl, rfl⟩)
      go_ret
      exact ⟨ret_int hE.out.symm, (Below.refl _ _).alloc (Nat.le_refl _) _⟩
  · obtain ⟨p1, p2, _, p3⟩ := prod_bd d1 d2 c1 c2
    obtain ⟨p4, _⟩ := p3 (by omega)
    rw [if_neg hd] at HE
    clear p3
    by_cases hz : (d * c).tdiv 1000 = 0
    · have hz' : ((d * c).tdiv 1000 != 0) = false := by simpa using hz
      have hE : Hid (chN h c d = sgN d) := by rw [HE.out, if_neg (by simpa using hz)]; rfl
      clear hz HE
      go_enter Try.func114, Try.ntmps114
      go_wp2_with (go_at_call 125; refine (compare_any _ _).mono ?_; rintro e w' ⟨rfl, rfl⟩)
      go_ret
      exact ⟨ret_int hE.out.symm, (Below.refl _ _).alloc (Nat.le_refl _) _⟩
    · have hz' : ((d * c).tdiv 1000 != 0) = true := by simpa using hz
      have hE : Hid (chN h c d = (d * c).tdiv 1000) := by rw [HE.out, if_pos hz]; rfl
      clear hz HE
      go_enter Try.func114, Try.ntmps114
      go_wp2_with (go_at_call 125; refine (compare_any _ _).mono ?_; rintro e w' ⟨rfl, rfl⟩)
      go_ret
      exact ⟨ret_int hE.out.symm, (Below.refl _ _).alloc (Nat.le_refl _) _⟩

/-- Where a vessel goes to, by the first k faults. -/
def aimK (q : Nat → Tri) (t set : Int) : Nat → Int
  | 0 => set
  | k + 1 => if (q k).x ≤ t ∧ t < (q k).y then min (aimK q t set k) (q k).z else aimK q t set k
theorem aimK_yes {q : Nat → Tri} {t set : Int} {k : Nat} (h1 : (q k).x ≤ t) (h2 : t < (q k).y) : aimK q t set (k + 1) = min (aimK q t set k) (q k).z := by show (if _ then _ else _) = _; rw [if_pos ⟨h1, h2⟩]
theorem aimK_no {q : Nat → Tri} {t set : Int} {k : Nat} (h : ¬ ((q k).x ≤ t ∧ t < (q k).y)) : aimK q t set (k + 1) = aimK q t set k := by show (if _ then _ else _) = _; rw [if_neg h]
theorem aimK_bd {q : Nat → Tri} {t set : Int} {n : Nat} (h0 : 0 ≤ set) (h1 : set ≤ 200000) (hq : ∀ j, j < n → fB (q j) = true) : ∀ k, k ≤ n → 0 ≤ aimK q t set k ∧ aimK q t set k ≤ 200000
  | 0, _ => ⟨h0, h1⟩
  | k + 1, hk => by
    obtain ⟨i1, i2⟩ := aimK_bd (t := t) h0 h1 hq k (by omega)
    have hb := hq k (by omega)
    simp only [fB, Bool.and_eq_true, inB_iff] at hb
    by_cases hc : (q k).x ≤ t ∧ t < (q k).y
    · rw [aimK_yes hc.1 hc.2]; omega
    · rw [aimK_no hc]; omega
set_option maxRecDepth 20000 in
set_option maxHeartbeats 4000000 in
theorem aim_any (s : ByteArray) (h c v p ch : Int) (u : Value) (m : Nat) (P : Nat → St) (z : Value) (n : Nat) (q : Nat → Tri) (t : Int) (st : Nat) (g tc ai : Int) (w : World) (hp : RowP w u m P) (hq : RowT w z n q) (hst : st < m) :
    Calls Try.prog 115 #[.agg #[.string s, .int .i64 h, .int .i64 c, .int .i64 v, .int .i64 p, .int .i64 ch, u, z], .agg #[.int .i64 t, .int .i64 st, .int .i64 g, .int .i64 tc, .int .i64 ai]] w fun e w' => e = .returned (.int .i64 (aimK q t (P st).s n)) ∧ Below w.heap.size w w' := by
  have HQ := hid (fun w1 (g : Below w.heap.size w w1) => hq.keep g)
  have HP := hid (fun w1 (g : Below w.heap.size w w1) => RowT.keep hp g)
  have hnm := hq.most
  have hmm := RowT.most hp
  unfold maxLen at hnm hmm
  obtain ⟨qa, qc, rfl⟩ := hq.shape
  obtain ⟨pa, pc, rfl⟩ := RowT.shape hp
  clear hp hq
  have BX := hid (box2_start (w := w) (A := #[.string s, .int .i64 h, .int .i64 c, .int .i64 v, .int .i64 p, .int .i64 ch, .slice pa m pc, .slice qa n qc]) (B := #[.int .i64 t, .int .i64 st, .int .i64 g, .int .i64 tc, .int .i64 ai]) (T := 117) (T' := 57) (fz := (0, 0)) (fz' := (0, 0)))
  obtain ⟨a', b', o', cap', hv, _, _, ha', hcell⟩ := HP.out _ BX.out.low
  injection hv with hv1 hv2 hv3
  subst hv1 hv3
  rcases ha' with h0 | rfl
  · omega
  have c1 := (hcell st hst).2.1
  simp only at c1
  clear hcell hv2
  obtain ⟨set, hset⟩ : ∃ x, x = (P st).s := ⟨_, rfl⟩
  rw [← hset] at c1 ⊢
  clear hset
  have hst' : (st : Int) < m := by omega
  go_enter Try.func115, Try.ntmps115
  go_wp2
  generalize hW : World.alloc (World.alloc w _) _ = W0
  rw [hW] at BX c1
  clear hW
  go_loopw [5, 18] (fun a i wr => ∃ k : Nat, k ≤ n ∧ i = .int .i64 (k : Int) ∧ a = .int .i64 (aimK q t set k) ∧ Hid (Below W0.heap.size W0 wr)) (fun _ i _ => n - (intOf i).toNat)
  case atStart => exact ⟨0, Nat.zero_le _, rfl, rfl, Below.refl _ _⟩
  case round =>
    obtain ⟨k, hk, rfl, rfl, hB⟩ := hrel
    have BX2 := hid (BX.out.keep hB.out)
    by_cases hlt : k < n
    · have hlt' : (k : Int) < n := by omega
      obtain ⟨a', b', o', cap', hv, _, _, ha', hcell⟩ := HQ.out _ BX2.out.low
      injection hv with hv1 hv2 hv3
      subst hv1 hv3
      rcases ha' with h0 | rfl
      · omega
      obtain ⟨d0, d1, d2⟩ := hcell k hlt
      have t0 := BX2.out.snd 0
      simp only [List.getElem?_toArray, List.getElem?_cons_zero] at t0
      have hz := BX2.out.sz
      have HB2 := hid (hB.out.alloc hB.out.size (.cells #[.int .i64 (q k).x, .int .i64 (q k).y, .int .i64 (q k).z] 144))
      have HY := hid (aimK_yes (q := q) (t := t) (set := set) (k := k))
      have HN := hid (aimK_no (q := q) (t := t) (set := set) (k := k))
      clear hcell hv2 hlt
      generalize (q k).x = x at d0 HB2 HY HN
      generalize (q k).y = y at d1 HB2 HY HN
      generalize (q k).z = z at d2 HB2 HY HN
      obtain ⟨A, hA⟩ : ∃ A, A = aimK q t set k := ⟨_, rfl⟩
      rw [← hA] at HY HN ⊢
      clear hA
      by_cases h1 : x ≤ t
      · by_cases h2 : t < y
        · have HE := hid (HY.out h1 h2)
          clear HY HN
          rcases (show z < A ∨ A ≤ z by omega) with h3 | h3
          · have HE := hid (HE.out.trans (show min A z = z by omega))
            go_wp2
            go_roundw
            case rel => exact ⟨k + 1, by omega, by go_num, int_eq HE.out.symm, HB2⟩
            case measure => simp [intOf]; omega
          · have HE := hid (HE.out.trans (show min A z = A by omega))
            go_wp2
            go_roundw
            case rel => exact ⟨k + 1, by omega, by go_num, int_eq HE.out.symm, HB2⟩
            case measure => simp [intOf]; omega
        · have HE := hid (HN.out (fun h => h2 h.2))
          have h2' : decide (t < y) = false := by simpa using h2
          clear HY HN
          go_wp2
          go_roundw
          case rel => exact ⟨k + 1, by omega, by go_num, int_eq HE.out.symm, HB2⟩
          case measure => simp [intOf]; omega
      · have HE := hid (HN.out (fun h => h1 h.1))
        have h1' : decide (x ≤ t) = false := by simpa using h1
        clear HY HN
        go_wp2
        go_roundw
        case rel => exact ⟨k + 1, by omega, by go_num, int_eq HE.out.symm, HB2⟩
        case measure => simp [intOf]; omega
    · obtain rfl : k = n := by omega
      go_wp2
      go_ret
      exact ⟨rfl, bstep BX.out.low BX.out.low.size hB.out⟩
end Go.Proofs.Ytpkcnojcklmhmaa
