/- Further teardowns: plain facts of what is overdue; walks of ran, ranges, the reference's Overdue: contracts. -/
import Derived.Test.YtjfakhfkbnnbcaaZf
import Derived.Test.YtjfakhfkbnnbcaaIn
namespace Go.Proofs.Ytjfakhfkbnnbcaa
open Go.RowKit

/-- Ticks from one to another, in order, within bounds. -/
def ranB (b e : Int) : Bool := decide (0 ≤ b) && decide (b ≤ e) && decide (e ≤ 100000000)
theorem ranB_iff {b e : Int} : ranB b e = true ↔ 0 ≤ b ∧ b ≤ e ∧ e ≤ 100000000 := by
  simp only [ranB, Bool.and_eq_true, decide_eq_true_iff, and_assoc]
theorem ranB_not {b e : Int} (h : ¬ (0 ≤ b ∧ b ≤ e ∧ e ≤ 100000000)) : ranB b e = false := by
  rw [Bool.eq_false_iff]; exact fun g => h (ranB_iff.1 g)
theorem ran_any (b e : Int) (w : World) : Calls Try.prog 30 #[.int .i64 b, .int .i64 e] w fun r w' => r = .returned (.bool (ranB b e)) ∧ w = w' := by
  by_cases h1 : 0 ≤ b
  · by_cases h2 : b ≤ e
    · by_cases h3 : e ≤ 100000000
      · have hE := hid (ranB_iff.2 ⟨h1, h2, h3⟩)
        go_enter Try.func30, Try.ntmps30
        go_wp2
        go_ret
        exact ⟨ret_bool hE.out.symm, rfl⟩
      · have hE := hid (ranB_not (b := b) (e := e) (fun g => h3 g.2.2))
        have h3' : 100000000 < e := by omega
        clear h3
        go_enter Try.func30, Try.ntmps30
        go_wp2
        go_ret
        exact ⟨ret_bool (by rw [hE.out]; exact decide_eq_false (by omega)), rfl⟩
    · have hE := hid (ranB_not (b := b) (e := e) (fun g => h2 g.2.1))
      have h2' : e < b := by omega
      clear h2
      go_enter Try.func30, Try.ntmps30
      go_wp2
      go_ret
      exact ⟨ret_bool hE.out.symm, rfl⟩
  · have hE := hid (ranB_not (b := b) (e := e) (fun g => h1 g.1))
    have h1' : b < 0 := by omega
    clear h1
    go_enter Try.func30, Try.ntmps30
    go_wp2
    go_ret
    exact ⟨ret_bool hE.out.symm, rfl⟩
def rangesB (h b e : Int) : Bool := inB h 1 12 && ranB b e
theorem ranges_any (h b e : Int) (w : World) : Calls Try.prog 36 #[.int .i64 h, .int .i64 b, .int .i64 e] w fun r w' => r = .returned (.bool (rangesB h b e)) ∧ w = w' := by
  obtain ⟨A, hA⟩ : ∃ A, inB h 1 12 = A := ⟨_, rfl⟩
  have HW := hid (fun w1 => kxwithin_any h 1 12 w1)
  rw [hA] at HW
  have HQ := hid (show rangesB h b e = (A && ranB b e) by unfold rangesB; rw [hA])
  clear hA
  cases A
  · have hE := hid (show rangesB h b e = false by rw [HQ.out]; rfl)
    go_enter Try.func36, Try.ntmps36
    go_wp2_with fail
    refine (HW.out _).mono ?_
    rintro r w1 ⟨rfl, rfl⟩
    go_wp2_with fail
    go_ret
    exact ⟨ret_bool hE.out.symm, rfl⟩
  by_cases h1 : 0 ≤ b
  · by_cases h2 : b ≤ e
    · by_cases h3 : e ≤ 100000000
      · have hE := hid (show rangesB h b e = true by rw [HQ.out, ranB_iff.2 ⟨h1, h2, h3⟩]; rfl)
        go_enter Try.func36, Try.ntmps36
        go_wp2_with fail
        refine (HW.out _).mono ?_
        rintro r w1 ⟨rfl, rfl⟩
        go_wp2_with fail
        go_ret
        exact ⟨ret_bool hE.out.symm, rfl⟩
      · have hE := hid (show rangesB h b e = false by rw [HQ.out, ranB_not (b := b) (e := e) (fun g => h3 g.2.2)]; rfl)
        have h3' : 100000000 < e := by omega
        clear h3
        go_enter Try.func36, Try.ntmps36
        go_wp2_with fail
        refine (HW.out _).mono ?_
        rintro r w1 ⟨rfl, rfl⟩
        go_wp2_with fail
        go_ret
        exact ⟨ret_bool (by rw [hE.out]; exact decide_eq_false (by omega)), rfl⟩
    · have hE := hid (show rangesB h b e = false by rw [HQ.out, ranB_not (b := b) (e := e) (fun g => h2 g.2.1)]; rfl)
      have h2' : e < b := by omega
      clear h2
      go_enter Try.func36, Try.ntmps36
      go_wp2_with fail
      refine (HW.out _).mono ?_
      rintro r w1 ⟨rfl, rfl⟩
      go_wp2_with fail
      go_ret
      exact ⟨ret_bool hE.out.symm, rfl⟩
  · have hE := hid (show rangesB h b e = false by rw [HQ.out, ranB_not (b := b) (e := e) (fun g => h1 g.1)]; rfl)
    have h1' : b < 0 := by omega
    clear h1
    go_enter Try.func36, Try.ntmps36
    go_wp2_with fail
    refine (HW.out _).mono ?_
    rintro r w1 ⟨rfl, rfl⟩
    go_wp2_with fail
    go_ret
    exact ⟨ret_bool hE.out.symm, rfl⟩
/-- What a head's sheets so far leave overdue, and from when the head is overdue if none comes. -/
def gapS (h ev b E : Int) (s : List Pr × Int) (x : Sh) : List Pr × Int :=
  if x.hd = h then (s.1 ++ [⟨max s.2 b, min x.tk E⟩], x.tk + ev) else s
def gapF (h ev b E : Int) (l : List Sh) : List Pr × Int := l.foldl (gapS h ev b E) ([], b)
def gapL (h ev b E : Int) (l : List Sh) : List Pr := (gapF h ev b E l).1 ++ [⟨max (gapF h ev b E l).2 b, E⟩]
theorem gapF_yes {h ev b E : Int} {l : List Sh} {k : Nat} (hk : k < l.length) (g : l[k].hd = h) : gapF h ev b E (l.take (k + 1)) = ((gapF h ev b E (l.take k)).1 ++ [⟨max (gapF h ev b E (l.take k)).2 b, min l[k].tk E⟩], l[k].tk + ev) := by
  unfold gapF
  rw [List.take_succ_eq_append_getElem hk, List.foldl_append]
  simp only [List.foldl_cons, List.foldl_nil]
  rw [gapS, if_pos g]
theorem gapF_no {h ev b E : Int} {l : List Sh} {k : Nat} (hk : k < l.length) (g : ¬ l[k].hd = h) : gapF h ev b E (l.take (k + 1)) = gapF h ev b E (l.take k) := by
  unfold gapF
  rw [List.take_succ_eq_append_getElem hk, List.foldl_append]
  simp only [List.foldl_cons, List.foldl_nil]
  rw [gapS, if_neg g]
/-- All heads' from 1 to n. -/
def gapsN (ev b E : Int) (l : List Sh) : Nat → List Pr
  | 0 => []
  | n + 1 => gapsN ev b E l n ++ gapL ((n : Int) + 1) ev b E l
theorem neL_app (l m : List Pr) : neL (l ++ m) = neL l ++ neL m := by simp [neL]
theorem neL_one {p : Pr} (h : p.x < p.y) : neL [p] = [p] := by simp [neL, h]
theorem neL_none {p : Pr} (h : ¬ p.x < p.y) : neL [p] = [] := by simp [neL, h]
theorem gapF_len (h ev b E : Int) : ∀ l : List Sh, (gapF h ev b E l).1.length ≤ l.length := by
  have : ∀ (l : List Sh) (s : List Pr × Int), (l.foldl (gapS h ev b E) s).1.length ≤ s.1.length + l.length := by
    intro l
    induction l with
    | nil => intro s; simp
    | cons x l ih =>
      intro s
      rw [List.foldl_cons]
      refine Nat.le_trans (ih _) ?_
      unfold gapS
      by_cases g : x.hd = h
      · rw [if_pos g]; simp; omega
      · rw [if_neg g]; simp
  intro l
  have := this l ([], b)
  simpa [gapF] using this
theorem gapsN_len (ev b E : Int) (l : List Sh) : ∀ n, (gapsN ev b E l n).length ≤ n * (l.length + 1)
  | 0 => by simp [gapsN]
  | n + 1 => by
    have h1 := gapsN_len ev b E l n
    have h2 := gapF_len ((n : Int) + 1) ev b E l
    simp only [gapsN, gapL, List.length_append, List.length_cons, List.length_nil]
    rw [Nat.add_mul, Nat.one_mul]
    omega
theorem gap_one {G : List Pr} {s : List Pr} {f b : Int} {F T : Int} {y : Int} (hF : max f b = F) (hT : y = T) : neL (G ++ (s ++ [⟨max f b, y⟩])) = neL (G ++ s) ++ neL [⟨F, T⟩] := by
  rw [hF, hT, ← List.append_assoc, neL_app]
end Go.Proofs.Ytjfakhfkbnnbcaa
