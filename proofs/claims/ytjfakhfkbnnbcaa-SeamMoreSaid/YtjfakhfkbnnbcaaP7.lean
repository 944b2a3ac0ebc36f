/- Texts of this seat, one behind the other. -/
import Derived.Test.YtjfakhfkbnnbcaaP4
import Derived.Laws.StructEq
import Derived.Test.YtjfakhfkbnnbcaaIm
/- Walk of SameStretches: contract. -/
namespace Go.Proofs.Ytjfakhfkbnnbcaa
open Go.RowKit

set_option maxRecDepth 100000 in
theorem eqS (a b c d : Int) (w : World) : (Op.equalIn 10000 68 (.agg #[.int .i64 a, .int .i64 b]) (.agg #[.int .i64 c, .int .i64 d])).run Try.prog w = .ok (a == c && b == d) w := by
  have u3 := Try.underlying3
  have a3 := Try.isAgg3
  have z3 := Try.sizeOf3
  rw [show (10000 : Nat) = 9999 + 1 from rfl, run_equalIn_struct w 9999 68 _ _ (by kernel_rfl) (by kernel_rfl)]
  simp only [Program.fieldsOf, Try.underlying68]
  go_simp
  by_cases h1 : a = c
  case neg => simp [h1]
  by_cases h2 : b = d <;> simp [h1, h2]
theorem neqS (p q : Pr) (w : World) : (binOp .neq 68 (.agg #[.int .i64 p.x, .int .i64 p.y]) (.agg #[.int .i64 q.x, .int .i64 q.y])).run Try.prog w = .ok (.bool (!decide (p = q))) w := by
  rw [run_neq_struct, eqS]
  have : (p.x == q.x && p.y == q.y) = decide (p = q) := by
    rw [Bool.eq_iff_iff]; simp [Pr.ext_iff2]
  rw [this]
  rfl
theorem same_strs {l m : List Pr} (hn : l.length = m.length) (h : ∀ j (h1 : j < l.length) (h2 : j < m.length), l[j] = m[j]) : l = m := List.ext_getElem hn h
set_option maxRecDepth 20000 in
set_option maxHeartbeats 2000000 in
theorem strs_any (u v : Value) (l m : List Pr) (w : World) (hu : RowX w u l) (hv : RowX w v m) : Calls Try.prog 12 #[u, v] w fun e w' => e = .returned (.bool (decide (l = m))) ∧ Below w.heap.size w w' := by
  have HU := hid (fun w1 (g : Below w.heap.size w w1) => hu.keep g)
  have HV := hid (fun w1 (g : Below w.heap.size w w1) => hv.keep g)
  have h1 := hu.most
  have h2 := hv.most
  unfold maxLen at h1 h2
  obtain ⟨ua, uc, rfl⟩ := hu.shape
  obtain ⟨va, vc, rfl⟩ := hv.shape
  obtain ⟨n, hn⟩ : ∃ n, n = l.length := ⟨_, rfl⟩
  obtain ⟨q, hq⟩ : ∃ n, n = m.length := ⟨_, rfl⟩
  have HN := hid hn
  have HQ := hid hq
  rw [← hn] at h1 HU ⊢
  rw [← hq] at h2 HV ⊢
  clear hu hv hn hq
  by_cases hnq : n = q
  case neg =>
    have hnq' : ((n : Int) != (q : Int)) = true := by simp; omega
    have hnq2 : (n != q) = true := by simpa using hnq
    have HE := hid (show decide (l = m) = false from decide_eq_false fun h => hnq (by rw [HN.out, HQ.out, h]))
    clear hnq
    go_enter Try.func12, Try.ntmps12
    go_wp2
    go_ret
    exact ⟨ret_bool HE.out.symm, Below.refl _ _⟩
  subst hnq
  go_enter Try.func12, Try.ntmps12
  go_wp2
  go_loopw [5] (fun t wr => ∃ k : Nat, k ≤ n ∧ t = .int .i64 (k : Int) ∧ Hid (∀ j (h1 : j < l.length) (h2 : j < m.length), j < k → l[j] = m[j]) ∧ Hid (Below w.heap.size w wr)) (fun t _ => n - (intOf t).toNat)
  case atStart => exact ⟨0, Nat.zero_le _, rfl, fun j _ _ h => absurd h (Nat.not_lt_zero j), Below.refl _ _⟩
  case round =>
    obtain ⟨k, hk, rfl, hok, hB⟩ := hrel
    by_cases hlt : k < n
    · have hlt' : (k : Int) < n := by omega
      have k1 : k < l.length := by rw [← HN.out]; exact hlt
      have k2 : k < m.length := by rw [← HQ.out]; exact hlt
      obtain ⟨b, o, hua, c0, c1⟩ := (HU.out _ hB.out).get k1
      obtain ⟨b2, o2, hva, d0, d1⟩ := (HV.out _ hB.out).get k2
      subst hua hva
      have hne := neqS l[k] m[k]
      have HST := hid (fun (h : l[k] = m[k]) => show ∀ j (h1 : j < l.length) (h2 : j < m.length), j < k + 1 → l[j] = m[j] from fun j g1 g2 g3 => by
        rcases Nat.lt_succ_iff_lt_or_eq.1 g3 with g | rfl
        · exact hok.out j g1 g2 g
        · exact h)
      have HBAD := hid (fun (h : l[k] ≠ m[k]) => show decide (l = m) = false from decide_eq_false fun g => h (by subst g; rfl))
      generalize l[k] = x at *
      generalize m[k] = y at *
      have HLT := hid hlt
      clear hlt k1 k2
      by_cases hxy : x = y
      · have HE := hid (HST.out hxy)
        rw [decide_eq_true hxy] at hne
        simp only [Bool.not_true] at hne
        clear hxy
        go_wp2
        go_quiet (fail)
        have HB2 := hid (bdrewN (n := nq) hB.out)
        go_wp2
        go_roundw
        case rel => exact ⟨k + 1, HLT.out, by go_num, HE, HB2⟩
        case measure => have := HLT.out; simp [intOf]; omega
      · have HE := hid (HBAD.out hxy)
        rw [decide_eq_false hxy] at hne
        simp only [Bool.not_false] at hne
        clear hxy
        go_wp2
        go_quiet (fail)
        have HB2 := hid (bdrewN (n := nq) hB.out)
        go_wp2
        go_ret
        exact ⟨ret_bool HE.out.symm, HB2.out⟩
    · obtain rfl : k = n := by omega
      have HE := hid (show decide (l = m) = true from decide_eq_true (same_strs (by rw [← HN.out, ← HQ.out]) fun j g1 g2 => hok.out j g1 g2 (by rw [HN.out]; exact g1)))
      go_wp2
      go_ret
      exact ⟨ret_bool HE.out.symm, hB.out⟩
end Go.Proofs.Ytjfakhfkbnnbcaa

/- Walk of the reference's Length; SeamUnions' walk. -/
namespace Go.Proofs.Ytjfakhfkbnnbcaa
open Go.RowKit

set_option maxRecDepth 20000 in
set_option maxHeartbeats 4000000 in
theorem xlength_any (v : Value) (l : List Pr) (w : World) (hr : RowX w v l) (hf : l.length ≤ 1000) (hw : RawL l) : Calls Try.prog 73 #[v] w (LenP l w) := by
  have HU := hid (xunion_any v l w hr (by omega))
  have HF := hid hf
  have HW := hid hw
  clear hr hf hw
  go_enter Try.func73, Try.ntmps73
  go_wp2_with fail
  refine HU.out.mono ?_
  rintro e w1 ⟨u, m, rfl, hm, hown, hb⟩
  have hrow := hown.row
  have HUN := hid hm
  have HMR := hid (uni_raw hm HW.out)
  have HSM := hid (lenP_some (uni_raw hm HW.out) hm.can)
  have hfew : m.length ≤ 1000 := Nat.le_trans hm.few HF.out
  have HB := hid hb
  have HR := hid (fun w2 (g : Below w1.heap.size w1 w2) => hrow.keep g)
  obtain ⟨va, vc, rfl⟩ := hrow.shape
  obtain ⟨n, hn⟩ : ∃ n, n = m.length := ⟨_, rfl⟩
  have HN := hid hn
  rw [← hn] at hfew HR ⊢
  clear hm hown hrow hb hn HU HF HW
  go_wp2
  go_loopw [4, 5] (fun a t wr => ∃ k : Nat, k ≤ n ∧ t = .int .i64 (k : Int) ∧ a = .int .i64 (lenP (m.take k)) ∧ Hid (Below w1.heap.size w1 wr)) (fun _ t _ => n - (intOf t).toNat)
  case atStart => exact ⟨0, Nat.zero_le _, rfl, rfl, Below.refl _ _⟩
  case round =>
    obtain ⟨k, hk, rfl, rfl, hB⟩ := hrel
    by_cases hlt : k < n
    · have hlt' : (k : Int) < n := by omega
      have hkl : k < m.length := by rw [← HN.out]; exact hlt
      obtain ⟨b, o, hva, c0, c1⟩ := (HR.out _ hB.out).get hkl
      subst hva
      have hx := HMR.out m[k] (List.getElem_mem hkl)
      have HT := hid (lenP_take hkl)
      obtain ⟨s0, s1⟩ := HSM.out k (Nat.le_of_lt hkl)
      generalize m[k] = p at *
      obtain ⟨px, py⟩ := p
      simp only at c0 c1 hx
      generalize lenP (m.take k) = A at *
      obtain ⟨x1, x2, x3, x4⟩ := hx
      have s2 : A ≤ 2000000000000000000 := by omega
      have q1 : IntKind.i64.wrap (A + py) = A + py := IntWalk.i64_in _ ⟨by omega, by omega⟩
      have q2 : IntKind.i64.wrap (A + py - px) = A + py - px := IntWalk.i64_in _ ⟨by omega, by omega⟩
      have HE := hid (show A + py - px = A + (py - px) by omega)
      have HLT := hid hlt
      clear hlt hkl
      go_wp2
      go_quiet (fail)
      have HBQ := hid (bdrewN (n := nq) hB.out)
      go_wp2
      go_roundw
      case rel => exact ⟨k + 1, HLT.out, by go_num, by rw [HT.out, HE.out], HBQ⟩
      case measure => have := HLT.out; simp [intOf]; omega
    · obtain rfl : k = n := by omega
      have HE : Hid (lenP (m.take k) = lenP m) := by
        show lenP _ = _
        rw [HN.out, List.take_length]
      go_wp2
      go_ret
      exact ⟨m, HUN.out, ret_int HE.out, bstep HB.out HB.out.size hB.out⟩
theorem canon_at : ∀ {u : List Pr} {i : Nat} (h : i + 1 < u.length), Canon u → (u[i]'(by omega)).y < u[i + 1].x
  | [], i, h, _ => by simp at h
  | [p], i, h, _ => by simp at h
  | p :: q :: u, 0, _, hc => hc.2.1
  | p :: q :: u, i + 1, h, hc => by
    have := canon_at (u := q :: u) (i := i) (by simpa using h) hc.2.2
    simpa using this
theorem inPB_same {u l : List Pr} (h : Uni u l) (t : Int) : inPB u t = inPB l t := by
  rw [Bool.eq_iff_iff, inPB_iff, inPB_iff]
  exact h.same t
end Go.Proofs.Ytjfakhfkbnnbcaa

/- Further teardowns: plain facts of what is overdue; walks of ran, ranges, the reference's Overdue: contracts. -/
namespace Go.Proofs.Ytjfakhfkbnnbcaa
open Go.RowKit

/-- Ticks from one to another, in order, within bounds. -/
def ranB (b e : Int) : Bool := decide (0 ≤ b) && decide (b ≤ e) && decide (e ≤ 100000000)
theorem ranB_iff {b e : Int} : ranB b e = true ↔ 0 ≤ b ∧ b ≤ e ∧ e ≤ 100000000 := by
  simp only [ranB, Bool.and_eq_true, decide_eq_true_iff, and_assoc]
theorem ranB_not {b e : Int} (h : ¬ (0 ≤ b ∧ b ≤ e ∧ e ≤ 100000000)) : ranB b e = false := by
  rw [Bool.eq_false_iff]; exact fun g => h (ranB_iff.1 g)
theorem ran_any (b e : Int) (w : World) : Calls Try.prog 30 #[.int .i64 b, .int .i64 e] w fun r w' => r = .returned (.bool (ranB b e)) ∧ w = w' := by
  by_cases h1 : 0 ≤ b
  · by_cases h2 : b ≤ e
    · by_cases h3 : e ≤ 100000000
      · have hE := hid (ranB_iff.2 ⟨h1, h2, h3⟩)
        go_enter Try.func30, Try.ntmps30
        go_wp2
        go_ret
        exact ⟨ret_bool hE.out.symm, rfl⟩
      · have hE := hid (ranB_not (b := b) (e := e) (fun g => h3 g.2.2))
        have h3' : 100000000 < e := by omega
        clear h3
        go_enter Try.func30, Try.ntmps30
        go_wp2
        go_ret
        exact ⟨ret_bool (by rw [hE.out]; exact decide_eq_false (by omega)), rfl⟩
    · have hE := hid (ranB_not (b := b) (e := e) (fun g => h2 g.2.1))
      have h2' : e < b := by omega
      clear h2
      go_enter Try.func30, Try.ntmps30
      go_wp2
      go_ret
      exact ⟨ret_bool hE.out.symm, rfl⟩
  · have hE := hid (ranB_not (b := b) (e := e) (fun g => h1 g.1))
    have h1' : b < 0 := by omega
    clear h1
    go_enter Try.func30, Try.ntmps30
    go_wp2
    go_ret
    exact ⟨ret_bool hE.out.symm, rfl⟩
def rangesB (h b e : Int) : Bool := inB h 1 12 && ranB b e
theorem ranges_any (h b e : Int) (w : World) : Calls Try.prog 36 #[.int .i64 h, .int .i64 b, .int .i64 e] w fun r w' => r = .returned (.bool (rangesB h b e)) ∧ w = w' := by
  obtain ⟨A, hA⟩ : ∃ A, inB h 1 12 = A := ⟨_, rfl⟩
  have HW := hid (fun w1 => kxwithin_any h 1 12 w1)
  rw [hA] at HW
  have HQ := hid (show rangesB h b e = (A && ranB b e) by unfold rangesB; rw [hA])
  clear hA
  cases A
  · have hE := hid (show rangesB h b e = false by rw [HQ.out]; rfl)
    go_enter Try.func36, Try.ntmps36
    go_wp2_with fail
    refine (HW.out _).mono ?_
    rintro r w1 ⟨rfl, rfl⟩
    go_wp2_with fail
    go_ret
    exact ⟨ret_bool hE.out.symm, rfl⟩
  by_cases h1 : 0 ≤ b
  · by_cases h2 : b ≤ e
    · by_cases h3 : e ≤ 100000000
      · have hE := hid (show rangesB h b e = true by rw [HQ.out, ranB_iff.2 ⟨h1, h2, h3⟩]; rfl)
        go_enter Try.func36, Try.ntmps36
        go_wp2_with fail
        refine (HW.out _).mono ?_
        rintro r w1 ⟨rfl, rfl⟩
        go_wp2_with fail
        go_ret
        exact ⟨ret_bool hE.out.symm, rfl⟩
      · have hE := hid (show rangesB h b e = false by rw [HQ.out, ranB_not (b := b) (e := e) (fun g => h3 g.2.2)]; rfl)
        have h3' : 100000000 < e := by omega
        clear h3
        go_enter Try.func36, Try.ntmps36
        go_wp2_with fail
        refine (HW.out _).mono ?_
        rintro r w1 ⟨rfl, rfl⟩
        go_wp2_with fail
        go_ret
        exact ⟨ret_bool (by rw [hE.out]; exact decide_eq_false (by omega)), rfl⟩
    · have hE := hid (show rangesB h b e = false by rw [HQ.out, ranB_not (b := b) (e := e) (fun g => h2 g.2.1)]; rfl)
      have h2' : e < b := by omega
      clear h2
      go_enter Try.func36, Try.ntmps36
      go_wp2_with fail
      refine (HW.out _).mono ?_
      rintro r w1 ⟨rfl, rfl⟩
      go_wp2_with fail
      go_ret
      exact ⟨ret_bool hE.out.symm, rfl⟩
  · have hE := hid (show rangesB h b e = false by rw [HQ.out, ranB_not (b := b) (e := e) (fun g => h1 g.1)]; rfl)
    have h1' : b < 0 := by omega
    clear h1
    go_enter Try.func36, Try.ntmps36
    go_wp2_with fail
    refine (HW.out _).mono ?_
    rintro r w1 ⟨rfl, rfl⟩
    go_wp2_with fail
    go_ret
    exact ⟨ret_bool hE.out.symm, rfl⟩
/-- What a head's sheets so far leave overdue, and from when the head is overdue if none comes. -/
def gapS (h ev b E : Int) (s : List Pr × Int) (x : Sh) : List Pr × Int :=
  if x.hd = h then (s.1 ++ [⟨max s.2 b, min x.tk E⟩], x.tk + ev) else s
def gapF (h ev b E : Int) (l : List Sh) : List Pr × Int := l.foldl (gapS h ev b E) ([], b)
def gapL (h ev b E : Int) (l : List Sh) : List Pr := (gapF h ev b E l).1 ++ [⟨max (gapF h ev b E l).2 b, E⟩]
theorem gapF_yes {h ev b E : Int} {l : List Sh} {k : Nat} (hk : k < l.length) (g : l[k].hd = h) : gapF h ev b E (l.take (k + 1)) = ((gapF h ev b E (l.take k)).1 ++ [⟨max (gapF h ev b E (l.take k)).2 b, min l[k].tk E⟩], l[k].tk + ev) := by
  unfold gapF
  rw [List.take_succ_eq_append_getElem hk, List.foldl_append]
  simp only [List.foldl_cons, List.foldl_nil]
  rw [gapS, if_pos g]
theorem gapF_no {h ev b E : Int} {l : List Sh} {k : Nat} (hk : k < l.length) (g : ¬ l[k].hd = h) : gapF h ev b E (l.take (k + 1)) = gapF h ev b E (l.take k) := by
  unfold gapF
  rw [List.take_succ_eq_append_getElem hk, List.foldl_append]
  simp only [List.foldl_cons, List.foldl_nil]
  rw [gapS, if_neg g]
/-- All heads' from 1 to n. -/
def gapsN (ev b E : Int) (l : List Sh) : Nat → List Pr
  | 0 => []
  | n + 1 => gapsN ev b E l n ++ gapL ((n : Int) + 1) ev b E l
theorem neL_app (l m : List Pr) : neL (l ++ m) = neL l ++ neL m := by simp [neL]
theorem neL_one {p : Pr} (h : p.x < p.y) : neL [p] = [p] := by simp [neL, h]
theorem neL_none {p : Pr} (h : ¬ p.x < p.y) : neL [p] = [] := by simp [neL, h]
theorem gapF_len (h ev b E : Int) : ∀ l : List Sh, (gapF h ev b E l).1.length ≤ l.length := by
  have : ∀ (l : List Sh) (s : List Pr × Int), (l.foldl (gapS h ev b E) s).1.length ≤ s.1.length + l.length := by
    intro l
    induction l with
    | nil => intro s; simp
    | cons x l ih =>
      intro s
      rw [List.foldl_cons]
      refine Nat.le_trans (ih _) ?_
      unfold gapS
      by_cases g : x.hd = h
      · rw [if_pos g]; simp; omega
      · rw [if_neg g]; simp
  intro l
  have := this l ([], b)
  simpa [gapF] using this
theorem gapsN_len (ev b E : Int) (l : List Sh) : ∀ n, (gapsN ev b E l n).length ≤ n * (l.length + 1)
  | 0 => by simp [gapsN]
  | n + 1 => by
    have h1 := gapsN_len ev b E l n
    have h2 := gapF_len ((n : Int) + 1) ev b E l
    simp only [gapsN, gapL, List.length_append, List.length_cons, List.length_nil]
    rw [Nat.add_mul, Nat.one_mul]
    omega
theorem gap_one {G : List Pr} {s : List Pr} {f b : Int} {F T : Int} {y : Int} (hF : max f b = F) (hT : y = T) : neL (G ++ (s ++ [⟨max f b, y⟩])) = neL (G ++ s) ++ neL [⟨F, T⟩] := by
  rw [hF, hT, ← List.append_assoc, neL_app]
end Go.Proofs.Ytjfakhfkbnnbcaa
