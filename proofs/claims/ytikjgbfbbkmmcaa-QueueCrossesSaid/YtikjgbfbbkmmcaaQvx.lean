/- Walks of isCount, isCook, isWait, served, and of Plan where something is out of its range: contracts. -/
import Derived.Test.YtikjgbfbbkmmcaaQvw
namespace Go.Proofs.Ytikjgbfbbkmmcaa
open Go.RowKit Go.Shelf Rt
attribute [local go_sem] Oper.semAt_some

theorem qcount_any (m : Int) (w : World) : Calls Try.prog 47 #[.int .i64 m] w fun e w' => e = .returned (.bool (inQ m 1 12)) ∧ w = w' := by
  have H := hid (qwithin_any m 1 12)
  generalize inQ m 1 12 = q at H ⊢
  go_enter Try.func47, Try.ntmps47
  go_wp2_with fail
  refine (H.out _).mono ?_
  rintro e w1 ⟨rfl, rfl⟩
  go_wp2
  go_ret
  exact ⟨rfl, rfl⟩
theorem qcook_any (m : Int) (w : World) : Calls Try.prog 48 #[.int .i64 m] w fun e w' => e = .returned (.bool (inQ m 1 100000000)) ∧ w = w' := by
  have H := hid (qwithin_any m 1 100000000)
  generalize inQ m 1 100000000 = q at H ⊢
  go_enter Try.func48, Try.ntmps48
  go_wp2_with fail
  refine (H.out _).mono ?_
  rintro e w1 ⟨rfl, rfl⟩
  go_wp2
  go_ret
  exact ⟨rfl, rfl⟩
theorem qwait_any (m : Int) (w : World) : Calls Try.prog 49 #[.int .i64 m] w fun e w' => e = .returned (.bool (inQ m 0 100000000)) ∧ w = w' := by
  have H := hid (qwithin_any m 0 100000000)
  generalize inQ m 0 100000000 = q at H ⊢
  go_enter Try.func49, Try.ntmps49
  go_wp2_with fail
  refine (H.out _).mono ?_
  rintro e w1 ⟨rfl, rfl⟩
  go_wp2
  go_ret
  exact ⟨rfl, rfl⟩
theorem served_any (va : Option Addr) (n vc : Nat) (m p : Int) (w : World) :
    Calls Try.prog 56 #[.slice va n vc, .int .i64 m, .int .i64 p] w fun e w' => e = .returned (.func (.func 78) #[] #[.pointer (some ⟨w.heap.size + 1, 0, none⟩), .pointer (some ⟨w.heap.size, 0, none⟩), .pointer (some ⟨w.heap.size + 1 + 1, 0, none⟩)]) ∧
      w' = ((w.alloc (.cells #[.slice va n vc] 22)).alloc (.cells #[.int .i64 m] 3)).alloc (.cells #[.int .i64 p] 3) := by
  go_enter Try.func56, Try.ntmps56
  go_wp2
  go_ret
  exact ⟨rfl, rfl⟩
/-- Plan's error, and what it hands back. -/
def numsQ (m p wt : Int) : Bool := inQ m 1 12 && inQ p 1 100000000 && inQ wt 0 100000000
def timeQ (l : List Bsk) (m p wt : Int) : Bool := decide (∀ k, k < l.length → fcT (caQ l) m.toNat p k ≤ caQ l k + wt)
def planE (l : List Bsk) (m p wt : Int) : Int := if bskQ l = false then 1 else if numsQ m p wt = false then 7 else if timeQ l m p wt = true then 0 else 8
def planL (l : List Bsk) (m p wt : Int) : List Sst := if planE l m p wt = 0 then fcL (caQ l) m.toNat p l.length else []
/-- What Plan hands back. -/
def PlanP (l : List Bsk) (m p wt : Int) (w : World) (e : Ending) (w' : World) : Prop :=
  ∃ (u : Value) (f k : Int), e = .returned (.tuple #[u, .agg #[.int .i64 f, .int .i64 k], .int .i64 (planE l m p wt)]) ∧ RowE encS w' u (planL l m p wt) ∧ (planE l m p wt ≠ 8 → f = 0 ∧ k = 0) ∧
    (planE l m p wt = 8 → ∃ f' k' : Nat, f = f' ∧ k = k' ∧ k' < l.length ∧ RsnP (caQ l) m.toNat p f' k' ∧ caQ l k' + wt < fcT (caQ l) m.toNat p k') ∧ Below w.heap.size w w'
/-- Plan's six boxes. -/
structure PlB (va : Option Addr) (n vc : Nat) (m wt : Int) (xv : Value) (w W : World) : Prop where
  bl : W.heap[w.heap.size]? = some (.cells #[.slice va n vc] 22 (0, 0))
  bm : W.heap[w.heap.size + 1]? = some (.cells #[.int .i64 m] 3 (0, 0))
  bw : W.heap[w.heap.size + 1 + 1]? = some (.cells #[.int .i64 wt] 3 (0, 0))
  bx : W.heap[w.heap.size + 1 + 1 + 1]? = some (.cells #[xv] 30 (0, 0))
  bt : W.heap[w.heap.size + 1 + 1 + 1 + 1]? = some (.cells #[.int .i64 0, .int .i64 0] 32 (0, 0))
  be : W.heap[w.heap.size + 1 + 1 + 1 + 1 + 1]? = some (.cells #[.int .i64 0] 25 (0, 0))
  low : Below w.heap.size w W
theorem heap_two' (W : World) (o o' : Obj) : ((W.alloc o).alloc o').heap[W.heap.size + 1]? = some o' := by
  have := heap_alloc_new (W.alloc o) o'
  rwa [World.size_alloc] at this
section
variable {va : Option Addr} {n vc : Nat} {m wt : Int} {xv : Value} {w W W' : World}
theorem plB_start (va : Option Addr) (n vc : Nat) (m wt : Int) (w : World) : PlB va n vc m wt (.slice none 0 0) w ((((((w.alloc (.cells #[.slice va n vc] 22)).alloc (.cells #[.int .i64 m] 3)).alloc (.cells #[.int .i64 wt] 3)).alloc (.cells #[.slice none 0 0] 30)).alloc (.cells #[.int .i64 0, .int .i64 0] 32)).alloc (.cells #[.int .i64 0] 25)) := by
  have b0 := heap_alloc_new w (.cells #[.slice va n vc] 22)
  generalize hA : w.alloc (.cells #[.slice va n vc] 22) = A at b0 ⊢
  have sA : A.heap.size = w.heap.size + 1 := by rw [← hA]; simp
  have lA : Below w.heap.size w A := by rw [← hA]; exact (Below.refl _ _).alloc (Nat.le_refl _) _
  have b1 := heap_alloc_new A (.cells #[.int .i64 m] 3)
  generalize hB : A.alloc (.cells #[.int .i64 m] 3) = B at b1 ⊢
  have sB : B.heap.size = A.heap.size + 1 := by rw [← hB]; simp
  have lB : Below A.heap.size A B := by rw [← hB]; exact (Below.refl _ _).alloc (Nat.le_refl _) _
  have b2 := heap_alloc_new B (.cells #[.int .i64 wt] 3)
  generalize hC : B.alloc (.cells #[.int .i64 wt] 3) = C at b2 ⊢
  have sC : C.heap.size = B.heap.size + 1 := by rw [← hC]; simp
  have lC : Below B.heap.size B C := by rw [← hC]; exact (Below.refl _ _).alloc (Nat.le_refl _) _
  have b3 := heap_alloc_new C (.cells #[.slice none 0 0] 30)
  generalize hD : C.alloc (.cells #[.slice none 0 0] 30) = D at b3 ⊢
  have sD : D.heap.size = C.heap.size + 1 := by rw [← hD]; simp
  have lD : Below C.heap.size C D := by rw [← hD]; exact (Below.refl _ _).alloc (Nat.le_refl _) _
  have b4 := heap_alloc_new D (.cells #[.int .i64 0, .int .i64 0] 32)
  generalize hE : D.alloc (.cells #[.int .i64 0, .int .i64 0] 32) = E at b4 ⊢
  have sE : E.heap.size = D.heap.size + 1 := by rw [← hE]; simp
  have lE : Below D.heap.size D E := by rw [← hE]; exact (Below.refl _ _).alloc (Nat.le_refl _) _
  have b5 := heap_alloc_new E (.cells #[.int .i64 0] 25)
  have lF : Below E.heap.size E (E.alloc (.cells #[.int .i64 0] 25)) := (Below.refl _ _).alloc (Nat.le_refl _) _
  generalize E.alloc (.cells #[.int .i64 0] 25) = G at b5 lF ⊢
  rw [sA] at b1; rw [sB, sA] at b2; rw [sC, sB, sA] at b3; rw [sD, sC, sB, sA] at b4; rw [sE, sD, sC, sB, sA] at b5
  have k4 := (lF.block _ (by omega)).trans b4
  have k3 := (lF.block _ (by omega)).trans ((lE.block _ (by omega)).trans b3)
  have k2 := (lF.block _ (by omega)).trans ((lE.block _ (by omega)).trans ((lD.block _ (by omega)).trans b2))
  have k1 := (lF.block _ (by omega)).trans ((lE.block _ (by omega)).trans ((lD.block _ (by omega)).trans ((lC.block _ (by omega)).trans b1)))
  have k0 := (lF.block _ (by omega)).trans ((lE.block _ (by omega)).trans ((lD.block _ (by omega)).trans ((lC.block _ (by omega)).trans ((lB.block _ (by omega)).trans b0))))
  exact ⟨k0, k1, k2, k3, k4, b5, (((((lA.trans (lB.mono (by omega))).trans (lC.mono (by omega))).trans (lD.mono (by omega))).trans (lE.mono (by omega))).trans (lF.mono (by omega)))⟩
theorem PlB.keep (h : PlB va n vc m wt xv w W) (hb : Below W.heap.size W W') : PlB va n vc m wt xv w W' := by
  have lt : ∀ {j : Nat} {o : Obj}, W.heap[j]? = some o → W'.heap[j]? = some o := fun {j o} e => (hb.block _ (Array.getElem?_eq_some_iff.1 e).1).trans e
  exact ⟨lt h.bl, lt h.bm, lt h.bw, lt h.bx, lt h.bt, lt h.be, bstep h.low h.low.size hb⟩
/-- What the walk reads. -/
theorem PlB.facts (h : PlB va n vc m wt xv w W) : (W.cell? ⟨w.heap.size, 0, none⟩ = some (.slice va n vc) ∧ W.cell? ⟨w.heap.size + 1, 0, none⟩ = some (.int .i64 m) ∧ W.cell? ⟨w.heap.size + 1 + 1, 0, none⟩ = some (.int .i64 wt) ∧ W.cell? ⟨w.heap.size + 1 + 1 + 1, 0, none⟩ = some xv) ∧
    (W.cell? ⟨w.heap.size + 1 + 1 + 1 + 1, 0, none⟩ = some (.int .i64 0) ∧ W.cell? ⟨w.heap.size + 1 + 1 + 1 + 1, 1, none⟩ = some (.int .i64 0) ∧ W.cell? ⟨w.heap.size + 1 + 1 + 1 + 1 + 1, 0, none⟩ = some (.int .i64 0)) ∧
    (W.frozen? ⟨w.heap.size + 1 + 1 + 1, 0, none⟩ = false ∧ W.frozen? ⟨w.heap.size + 1 + 1 + 1 + 1, 0, none⟩ = false ∧ W.frozen? ⟨w.heap.size + 1 + 1 + 1 + 1, 1, none⟩ = false ∧ W.frozen? ⟨w.heap.size + 1 + 1 + 1 + 1 + 1, 0, none⟩ = false) ∧ w.heap.size + 1 + 1 + 1 + 1 + 1 < W.heap.size :=
  ⟨⟨cell_of_row _ _ 0 _ _ _ h.bl, cell_of_row _ _ 0 _ _ _ h.bm, cell_of_row _ _ 0 _ _ _ h.bw, cell_of_row _ _ 0 _ _ _ h.bx⟩, ⟨cell_of_row _ _ 0 _ _ _ h.bt, cell_of_row _ _ 1 _ _ _ h.bt, cell_of_row _ _ 0 _ _ _ h.be⟩, ⟨frozen_of_row _ _ 0 _ _ h.bx, frozen_of_row _ _ 0 _ _ h.bt, frozen_of_row _ _ 1 _ _ h.bt, frozen_of_row _ _ 0 _ _ h.be⟩, (Array.getElem?_eq_some_iff.1 h.be).1⟩
theorem below4 (h : Below w.heap.size w W) (a b c d : Value) : Below w.heap.size w ((((W.setCell ⟨w.heap.size + 1 + 1 + 1, 0, none⟩ a).setCell ⟨w.heap.size + 1 + 1 + 1 + 1, 0, none⟩ b).setCell ⟨w.heap.size + 1 + 1 + 1 + 1, 1, none⟩ c).setCell ⟨w.heap.size + 1 + 1 + 1 + 1 + 1, 0, none⟩ d) :=
  (((h.setCell (p := ⟨w.heap.size + 1 + 1 + 1, 0, none⟩) (show w.heap.size ≤ w.heap.size + 1 + 1 + 1 by omega) _).setCell (p := ⟨w.heap.size + 1 + 1 + 1 + 1, 0, none⟩) (show w.heap.size ≤ w.heap.size + 1 + 1 + 1 + 1 by omega) _).setCell (p := ⟨w.heap.size + 1 + 1 + 1 + 1, 1, none⟩) (show w.heap.size ≤ w.heap.size + 1 + 1 + 1 + 1 by omega) _).setCell (p := ⟨w.heap.size + 1 + 1 + 1 + 1 + 1, 0, none⟩) (show w.heap.size ≤ w.heap.size + 1 + 1 + 1 + 1 + 1 by omega) _
end
set_option maxRecDepth 20000 in
set_option maxHeartbeats 8000000 in
theorem plan_bad (v : Value) (l : List Bsk) (m p wt : Int) (w : World) (hr : RowE encB w v l) (hs : ∀ b ∈ l, b.pr.size ≤ maxLen) (hb : bskQ l = false) :
    Calls Try.prog 22 #[v, .int .i64 m, .int .i64 p, .int .i64 wt] w (PlanP l m p wt w) := by
  have hE : planE l m p wt = 1 := by unfold planE; rw [if_pos hb]
  have hL : planL l m p wt = [] := by unfold planL; rw [hE, if_neg (by decide)]
  unfold PlanP
  rw [hE, hL]
  obtain ⟨va, vc, rfl⟩ := hr.shape
  have HX := hid (plB_start va l.length vc m wt w)
  have HV := hid (fun w1 (g : Below w.heap.size w w1) => valid_any _ l w1 (hr.keep g) hs)
  rw [hb] at HV
  generalize l.length = n at *
  clear hE hL hr hs hb
  go_enter Try.func22, Try.ntmps22
  obtain ⟨⟨x0, x1, x2, x3⟩, ⟨y0, y1, y2⟩, ⟨z0, z1, z2, z3⟩, hz⟩ := HX.out.facts
  go_wp2_with fail
  refine (HV.out _ HX.out.low).mono ?_
  rintro e w1 ⟨rfl, hb1⟩
  have H1 := hid (HX.out.keep hb1)
  clear hb1 HX HV x0 x1 x2 x3 y0 y1 y2 z0 z1 z2 z3 hz
  obtain ⟨⟨x0, x1, x2, x3⟩, ⟨y0, y1, y2⟩, ⟨z0, z1, z2, z3⟩, hz⟩ := H1.out.facts
  go_wp2
  refine bodyPost_ret (v := .tuple #[.slice none 0 0, .agg #[.int .i64 0, .int .i64 0], .int .i64 1]) (by simp [results, Try.results22, go_sem, x3, y0, y1, y2]) rfl ⟨_, 0, 0, rfl, rowE_nil _ _ _ _ (by unfold maxLen; omega), fun _ => ⟨rfl, rfl⟩, fun h => absurd h (by decide), ?_⟩
  exact below4 H1.out.low _ _ _ _
set_option maxRecDepth 20000 in
set_option maxHeartbeats 8000000 in
theorem plan_far (v : Value) (l : List Bsk) (m p wt : Int) (w : World) (hr : RowE encB w v l) (hs : ∀ b ∈ l, b.pr.size ≤ maxLen) (hb : bskQ l = true) (hn : numsQ m p wt = false) :
    Calls Try.prog 22 #[v, .int .i64 m, .int .i64 p, .int .i64 wt] w (PlanP l m p wt w) := by
  have hE : planE l m p wt = 7 := by unfold planE; rw [if_neg (by rw [hb]; decide), if_pos hn]
  have hL : planL l m p wt = [] := by unfold planL; rw [hE, if_neg (by decide)]
  unfold PlanP
  rw [hE, hL]
  obtain ⟨va, vc, rfl⟩ := hr.shape
  have HX := hid (plB_start va l.length vc m wt w)
  have HV := hid (fun w1 (g : Below w.heap.size w w1) => valid_any _ l w1 (hr.keep g) hs)
  rw [hb] at HV
  generalize l.length = n at *
  have H1 := hid (qcount_any m); have H2 := hid (qcook_any p); have H3 := hid (qwait_any wt)
  unfold numsQ at hn
  generalize inQ m 1 12 = q1 at *
  generalize inQ p 1 100000000 = q2 at *
  generalize inQ wt 0 100000000 = q3 at *
  have HC1 := H1; have HC2 := H2; have HC3 := H3
  clear hE hL hr hs hb H1 H2 H3
  go_enter Try.func22, Try.ntmps22
  obtain ⟨⟨x0, x1, x2, x3⟩, ⟨y0, y1, y2⟩, ⟨z0, z1, z2, z3⟩, hz⟩ := HX.out.facts
  go_wp2_with fail
  refine (HV.out _ HX.out.low).mono ?_
  rintro e w1 ⟨rfl, hb1⟩
  have H1 := hid (HX.out.keep hb1)
  clear hb1 HX HV x0 x1 x2 x3 y0 y1 y2 z0 z1 z2 z3 hz
  obtain ⟨⟨x0, x1, x2, x3⟩, ⟨y0, y1, y2⟩, ⟨z0, z1, z2, z3⟩, hz⟩ := H1.out.facts
  go_wp2_with fail
  refine (HC1.out _).mono ?_
  rintro e w2 ⟨rfl, rfl⟩
  cases q1
  · clear hn
    go_wp2
    refine bodyPost_ret (v := .tuple #[.slice none 0 0, .agg #[.int .i64 0, .int .i64 0], .int .i64 7]) (by simp [results, Try.results22, go_sem, x3, y0, y1, y2]) rfl ⟨_, 0, 0, rfl, rowE_nil _ _ _ _ (by unfold maxLen; omega), fun _ => ⟨rfl, rfl⟩, fun h => absurd h (by decide), ?_⟩
    exact below4 H1.out.low _ _ _ _

  · go_wp2_with fail
    refine (HC2.out _).mono ?_
    rintro e w2 ⟨rfl, rfl⟩

    cases q2
    · clear hn
      go_wp2
      refine bodyPost_ret (v := .tuple #[.slice none 0 0, .agg #[.int .i64 0, .int .i64 0], .int .i64 7]) (by simp [results, Try.results22, go_sem, x3, y0, y1, y2]) rfl ⟨_, 0, 0, rfl, rowE_nil _ _ _ _ (by unfold maxLen; omega), fun _ => ⟨rfl, rfl⟩, fun h => absurd h (by decide), ?_⟩
      exact below4 H1.out.low _ _ _ _

    · cases q3
      · clear hn
        go_wp2_with fail
        refine (HC3.out _).mono ?_
        rintro e w2 ⟨rfl, rfl⟩
        go_wp2
        refine bodyPost_ret (v := .tuple #[.slice none 0 0, .agg #[.int .i64 0, .int .i64 0], .int .i64 7]) (by simp [results, Try.results22, go_sem, x3, y0, y1, y2]) rfl ⟨_, 0, 0, rfl, rowE_nil _ _ _ _ (by unfold maxLen; omega), fun _ => ⟨rfl, rfl⟩, fun h => absurd h (by decide), ?_⟩
        exact below4 H1.out.low _ _ _ _

      · cases hn
end Go.Proofs.Ytikjgbfbbkmmcaa
