/- Walks of Done and Begin of both, of brief; a struct Job that comes in, opened. -/
import Derived.Test.YtpkcnojcklmhmaaVr
namespace Go.Proofs.Ytpkcnojcklmhmaa
open Go.ChangeShapes Go.WideShapes Go.ChangeAt Go.RowKit Go.Joins Go.Deep

def doneB (m : Nat) (p : Nat → St) (x : Ld) : Bool := ldB m p x && (x.step == (m : Int))
theorem doneB_eq (m : Nat) (p : Nat → St) (t s g c a : Int) : doneB m p ⟨t, s, g, c, a⟩ = (ldB m p ⟨t, s, g, c, a⟩ && (s == (m : Int))) := rfl

/-- What Begin hands back. -/
def begT (t : Int) : Int := if inB t (-50000) 200000 then t else 0
def begA (t : Int) : Int := if inB t (-50000) 200000 then 1000 else 0
def begE (t : Int) : Int := if inB t (-50000) 200000 then 0 else 7
def BegP (T A E : Int) (w : World) (e : Ending) (w' : World) : Prop := e = .returned (.tuple #[.agg #[.int .i64 0, .int .i64 0, .int .i64 0, .int .i64 T, .int .i64 A], .int .i64 E]) ∧ Below w.heap.size w w'
set_option maxHeartbeats 2000000 in
theorem begin_any (t : Int) (w : World) : Calls Try.prog 40 #[.int .i64 t] w (BegP (begT t) (begA t) (begE t) w) := by
  cases h : inB t (-50000) 200000
  · rw [show begT t = 0 by unfold begT; rw [h]; rfl, show begA t = 0 by unfold begA; rw [h]; rfl, show begE t = 7 by unfold begE; rw [h]; rfl]
    go_enter Try.func40, Try.ntmps40
    go_wp2_with (go_at_call 78; refine (vwithin_any _ _ _ _).mono ?_; rintro e w' ⟨rfl, rfl⟩; rw [h])
    exact bodyPost_ret (v := .tuple #[.agg #[.int .i64 0, .int .i64 0, .int .i64 0, .int .i64 0, .int .i64 0], .int .i64 7]) (by simp [results, Try.results40, go_sem]) rfl ⟨rfl, (Below.refl _ _).alloc (Nat.le_refl _) _⟩
  · rw [show begT t = t by unfold begT; rw [h]; rfl, show begA t = 1000 by unfold begA; rw [h]; rfl, show begE t = 0 by unfold begE; rw [h]; rfl]
    go_enter Try.func40, Try.ntmps40
    go_wp2_with (go_at_call 78; refine (vwithin_any _ _ _ _).mono ?_; rintro e w' ⟨rfl, rfl⟩; rw [h])
    exact bodyPost_ret (v := .tuple #[.agg #[.int .i64 0, .int .i64 0, .int .i64 0, .int .i64 t, .int .i64 1000], .int .i64 0]) (by simp [results, Try.results40, go_sem]) rfl ⟨rfl, (Below.refl _ _).alloc (Nat.le_refl _) _⟩

/-- A struct Job by value: its thirteen cells. -/
def jobA (s : ByteArray) (h c v p ch : Int) (u z : Value) (t st g tc ai : Int) : Array Value := #[.string s, .int .i64 h, .int .i64 c, .int .i64 v, .int .i64 p, .int .i64 ch, u, z, .int .i64 t, .int .i64 st, .int .i64 g, .int .i64 tc, .int .i64 ai]
set_option maxRecDepth 20000 in
set_option maxHeartbeats 2000000 in
theorem vbrief_any (s : ByteArray) (h c v p ch : Int) (ua : Option Addr) (m uc : Nat) (za : Option Addr) (n zc : Nat) (t st g tc ai : Int) (w : World) :
    Calls Try.prog 35 #[.agg #[.string s, .int .i64 h, .int .i64 c, .int .i64 v, .int .i64 p, .int .i64 ch, .slice ua m uc, .slice za n zc, .int .i64 t, .int .i64 st, .int .i64 g, .int .i64 tc, .int .i64 ai]] w fun e w' => e = .returned (.bool (decide (m ≤ 40) && decide (n ≤ 40))) ∧ Below w.heap.size w w' := by
  have hB := hid ((Below.refl w.heap.size w).alloc (Nat.le_refl _) (.cells #[.string s, .int .i64 h, .int .i64 c, .int .i64 v, .int .i64 p, .int .i64 ch, .slice ua m uc, .slice za n zc, .int .i64 t, .int .i64 st, .int .i64 g, .int .i64 tc, .int .i64 ai] 59))
  by_cases h1 : m ≤ 40
  · have d1 : decide ((m : Int) ≤ 40) = true := by simp; omega
    have hE : Hid (decide ((n : Int) ≤ 40) = (decide (m ≤ 40) && decide (n ≤ 40))) := by
      unfold Hid
      rw [decide_eq_true h1, Bool.true_and, Bool.eq_iff_iff]
      simp only [decide_eq_true_iff]; omega
    clear h1
    go_enter Try.func35, Try.ntmps35
    go_wp2
    go_ret
    exact ⟨ret_bool hE.out, hB.out⟩
  · have d1 : decide ((m : Int) ≤ 40) = false := by simp; omega
    have hE : Hid ((decide (m ≤ 40) && decide (n ≤ 40)) = false) := by unfold Hid; rw [decide_eq_false h1]; rfl
    clear h1
    go_enter Try.func35, Try.ntmps35
    go_wp2
    go_ret
    exact ⟨ret_bool hE.out.symm, hB.out⟩

section
variable {H : Type} {enc : TypeId × Value → H} {w : World} {base : Nat} {spare : Nat → Bool} {held : Bool}
theorem cellsV : Try.prog.cellsOf 53 = 6 := by kernel_rfl
theorem cellsLd : Try.prog.cellsOf 57 = 5 := by kernel_rfl
theorem cellsFt : Try.prog.cellsOf 144 = 3 := by kernel_rfl
theorem cellsSl1 : Try.prog.cellsOf 54 = 1 := by kernel_rfl
theorem cellsSl2 : Try.prog.cellsOf 55 = 1 := by kernel_rfl
theorem cellsJob : Try.prog.cellsOf 59 = 13 := by kernel_rfl
theorem cellsInt : Try.prog.cellsOf 3 = 1 := by kernel_rfl
theorem cellsStr : Try.prog.cellsOf 9 = 1 := by kernel_rfl
set_option maxRecDepth 100000 in
theorem rowT_of {v : Value} {n : Nat} {y : DataW H × List MemPlace} (h : DataW.trod enc Try.prog w base spare held n 55 [v] = some y) : ∃ (m : Nat) (q : Nat → Tri), RowT w v m q := by
  rcases open_slice_fields Try.underlying55 Try.underlying144 (by kernel_rfl) cellsFt h with h0 | ⟨a, len, cap, m, hcs, hl, hm, hlm, hc⟩
  · simp at h0
    subst h0
    exact ⟨0, fun _ => ⟨0, 0, 0⟩, none, 0, 0, 0, rfl, Nat.le_refl _, by simp, .inl rfl, fun k hk => absurd hk (Nat.not_lt_zero k)⟩
  · simp at hcs
    subst hcs
    rcases Nat.eq_zero_or_pos len with rfl | hp
    · exact ⟨0, fun _ => ⟨0, 0, 0⟩, some a, 0, 0, cap, rfl, hl, hm, .inl rfl, fun k hk => absurd hk (Nat.not_lt_zero k)⟩
    · obtain ⟨v0, _, _, hc0, _⟩ := hc 0 (by omega) 0 _ rfl
      obtain ⟨b, o, rfl⟩ := plain_of hc0
      have hx : ∀ k, ∃ x : Tri, k < len → TrAt w b (o + k * 3) x.x x.y x.z := fun k => by
        by_cases hk : k < len
        · obtain ⟨u0, _, _, g0, t0⟩ := hc k (by omega) 0 _ rfl
          obtain ⟨u1, _, _, g1, t1⟩ := hc k (by omega) 1 _ rfl
          obtain ⟨u2, _, _, g2, t2⟩ := hc k (by omega) 2 _ rfl
          obtain ⟨z0, rfl⟩ := trod_i t0
          obtain ⟨z1, rfl⟩ := trod_i t1
          obtain ⟨z2, rfl⟩ := trod_i t2
          rw [Go.WideShapes.add_plain] at g0 g1 g2
          exact ⟨⟨z0, z1, z2⟩, fun _ => ⟨g0, g1, g2⟩⟩
        · exact ⟨⟨0, 0, 0⟩, fun h => absurd h hk⟩
      obtain ⟨p, hp'⟩ := Classical.axiomOfChoice hx
      exact ⟨len, p, some ⟨b, o, none⟩, b, o, cap, rfl, hl, hm, .inr rfl, hp'⟩
set_option maxRecDepth 100000 in
theorem trod_vessel {n : Nat} {c0 c1 c2 c3 c4 c5 : Value} {y : DataW H × List MemPlace} (h : DataW.trod enc Try.prog w base spare held n 53 [c0, c1, c2, c3, c4, c5] = some y) :
    ∃ (s : ByteArray) (h c v p ch : Int), c0 = .string s ∧ c1 = .int .i64 h ∧ c2 = .int .i64 c ∧ c3 = .int .i64 v ∧ c4 = .int .i64 p ∧ c5 = .int .i64 ch ∧ s.size ≤ maxLen := by
  obtain ⟨xs, m, _, hx, _, hlen, hg⟩ := DataW.trod_struct Try.underlying53 h
  match xs, hlen with
  | [y0, y1, y2, y3, y4, y5], _ =>
    have g0 := hg 0 _ rfl; have g1 := hg 1 _ rfl; have g2 := hg 2 _ rfl; have g3 := hg 3 _ rfl; have g4 := hg 4 _ rfl; have g5 := hg 5 _ rfl
    simp [cellsInt, cellsStr] at g0 g1 g2 g3 g4 g5
    obtain ⟨s, e0, _, ws⟩ := DataW.trod_string Try.underlying9 g0
    simp at e0
    obtain ⟨z1, rfl⟩ := trod_i g1
    obtain ⟨z2, rfl⟩ := trod_i g2
    obtain ⟨z3, rfl⟩ := trod_i g3
    obtain ⟨z4, rfl⟩ := trod_i g4
    obtain ⟨z5, rfl⟩ := trod_i g5
    exact ⟨s, z1, z2, z3, z4, z5, e0, rfl, rfl, rfl, rfl, rfl, ws⟩
set_option maxRecDepth 100000 in
theorem trod_load {n : Nat} {c0 c1 c2 c3 c4 : Value} {y : DataW H × List MemPlace} (h : DataW.trod enc Try.prog w base spare held n 57 [c0, c1, c2, c3, c4] = some y) :
    ∃ t s g c a : Int, c0 = .int .i64 t ∧ c1 = .int .i64 s ∧ c2 = .int .i64 g ∧ c3 = .int .i64 c ∧ c4 = .int .i64 a := by
  obtain ⟨xs, m, _, hx, _, hlen, hg⟩ := DataW.trod_struct Try.underlying57 h
  match xs, hlen with
  | [y0, y1, y2, y3, y4], _ =>
    have g0 := hg 0 _ rfl; have g1 := hg 1 _ rfl; have g2 := hg 2 _ rfl; have g3 := hg 3 _ rfl; have g4 := hg 4 _ rfl
    simp [cellsInt] at g0 g1 g2 g3 g4
    obtain ⟨z0, rfl⟩ := trod_i g0
    obtain ⟨z1, rfl⟩ := trod_i g1
    obtain ⟨z2, rfl⟩ := trod_i g2
    obtain ⟨z3, rfl⟩ := trod_i g3
    obtain ⟨z4, rfl⟩ := trod_i g4
    exact ⟨z0, z1, z2, z3, z4, rfl, rfl, rfl, rfl, rfl⟩
set_option maxRecDepth 100000 in
theorem open_job {r : Reach} {b0 : Nat} {v : Value} {d : DataW H} {p : List MemPlace} (hv : Value.okWide Try.prog w r b0 59 v) (h : DataW.Trod enc Try.prog w base spare held 59 v d p) :
    ∃ (s : ByteArray) (h c v1 p1 ch : Int) (u : Value) (m : Nat) (P : Nat → St) (z : Value) (n : Nat) (q : Nat → Tri) (t st g tc ai : Int), v = .agg (jobA s h c v1 p1 ch u z t st g tc ai) ∧ s.size ≤ maxLen ∧ RowP w u m P ∧ RowT w z n q := by
  obtain ⟨cs, rfl, hsz⟩ := okWide_struct Try.underlying59 hv
  obtain ⟨ls⟩ := cs
  match ls, hsz.trans cellsJob with
  | [c0, c1, c2, c3, c4, c5, c6, c7, c8, c9, c10, c11, c12], _ =>
    obtain ⟨fuel, hf⟩ := h
    obtain ⟨xs, n, _, hx, _, hlen, hg⟩ := DataW.trod_struct Try.underlying59 hf
    match xs, hlen with
    | [y0, y1, y2, y3], _ =>
      have g0 := hg 0 _ rfl; have g1 := hg 1 _ rfl; have g2 := hg 2 _ rfl; have g3 := hg 3 _ rfl
      simp [Value.cells, cellsV, cellsLd, cellsSl1, cellsSl2] at g0 g1 g2 g3
      obtain ⟨s, h, c, v1, p1, ch, rfl, rfl, rfl, rfl, rfl, rfl, ws⟩ := trod_vessel g0
      obtain ⟨m, P, hP⟩ := rowP_of g1
      obtain ⟨n1, q, hQ⟩ := rowT_of g2
      obtain ⟨t, st, g, tc, ai, rfl, rfl, rfl, rfl, rfl⟩ := trod_load g3
      exact ⟨s, h, c, v1, p1, ch, c6, m, P, c7, n1, q, t, st, g, tc, ai, rfl, ws, hP, hQ⟩
end
end Go.Proofs.Ytpkcnojcklmhmaa
