/- Walks of Run where something is wrong, of the reference's sound, of its after told of a job: contracts. -/
import Derived.Test.YtpkcnojcklmhmaaXe
import Derived.Test.YtpkcnojcklmhmaaYs
import Derived.Test.YtpkcnojcklmhmaaVr
namespace Go.Proofs.Ytpkcnojcklmhmaa
open Go.RowKit

/-- What both hand back where something is wrong. -/
def RunBad (w : World) (e : Ending) (w' : World) : Prop := e = .returned (.tuple #[.agg (ldA ⟨0, 0, 0, 0, 0⟩), .slice none 0 0, .int .i64 1]) ∧ Below w.heap.size w w'
set_option maxRecDepth 20000 in
set_option maxHeartbeats 4000000 in
theorem run_bad (J : Jb) (x : Ld) (u z : Value) (w : World) (hs : J.s.size ≤ maxLen) (hp : RowP w u J.m J.P) (hq : RowT w z J.n J.q) (hg : goodB J.s J.h J.c J.v J.p J.ch J.m J.P J.n J.q x = false) :
    Calls Try.prog 37 #[.agg J.wA, u, z, .agg (ldA x)] w (RunBad w) := by
  have HVAL := hid (fun w1 (h1 : RowP w1 u J.m J.P) (h2 : RowT w1 z J.n J.q) => valid_any J.s J.h J.c J.v J.p J.ch u J.m J.P z J.n J.q x.tick x.step x.gone x.temp x.air w1 hs h1 h2)
  rw [show goodB J.s J.h J.c J.v J.p J.ch J.m J.P J.n J.q ⟨x.tick, x.step, x.gone, x.temp, x.air⟩ = false from hg] at HVAL
  have HP := hid (fun w1 (g : Below w.heap.size w w1) => RowT.keep hp g)
  have HQ := hid (fun w1 (g : Below w.heap.size w w1) => hq.keep g)
  obtain ⟨pa, pc, rfl⟩ := RowT.shape hp
  obtain ⟨qa, qc, rfl⟩ := hq.shape
  have HS := hid (ruB_start w J x)
  clear hp hq hg hs
  unfold Jb.wA ldA at HS ⊢
  go_enter Try.func37, Try.ntmps37
  go_wp2_with (first
    | (go_at_call 74; refine (HVAL.out _ (HP.out _ HS.out.low) (HQ.out _ HS.out.low)).mono ?_; rintro e w1 ⟨rfl, hb⟩; have H1 := hid (HS.out.keep hb); clear hb)
    | (refine wpList_store_row rfl 57 _ _ rfl (w.heap.size + 1 + 1) (ldA ⟨0, 0, 0, 0, 0⟩) rfl rfl 57 _ H1.out.res (infoLd _) (by rfl) (ldA_one _) ?_; generalize hW : World.setRow _ _ _ = W6; have H6 := hid (own_row hW H1.out.res); clear hW))
  have e0 := cell_of_row _ _ 0 _ _ _ H6.out.1; have e1 := cell_of_row _ _ 1 _ _ _ H6.out.1; have e2 := cell_of_row _ _ 2 _ _ _ H6.out.1; have e3 := cell_of_row _ _ 3 _ _ _ H6.out.1; have e4 := cell_of_row _ _ 4 _ _ _ H6.out.1
  simp only [ldA, List.getElem?_toArray, List.getElem?_cons_zero, List.getElem?_cons_succ] at e0 e1 e2 e3 e4
  refine bodyPost_ret (v := .tuple #[.agg (ldA ⟨0, 0, 0, 0, 0⟩), .slice none 0 0, .int .i64 1]) (by simp [ldA, results, Try.results37, go_sem, e0, e1, e2, e3, e4]) rfl ⟨rfl, ?_⟩
  exact H1.out.low.grown H6.out.2.1 H1.out.low.size (fun j e => by cases e; omega)
/-- A tick of the reference, told of a job. -/
theorem after_job (J : Jb) (x : Ld) (u z : Value) (w : World) (hp : RowP w u J.m J.P) (hq : RowT w z J.n J.q) (hJ : J.Ok) (hx : J.LOk x) (hl : J.live x = true) :
    Calls Try.prog 77 #[.agg J.wA, u, z, .agg (ldA x)] w (TkP J x w) := by
  obtain ⟨l1, l2⟩ := Jb.live_iff.1 hl
  obtain ⟨e1, e2⟩ := Jb.at_lt hx l1
  obtain ⟨a1, a2⟩ := Jb.aim_bd hJ hx l1
  have ht := hx.temp; have hg := hx.gone; have ha := hx.air; have hk := hx.tick
  obtain ⟨t, s, g, c, a⟩ := x
  dsimp only at *
  have h := xafter_any J.s J.h J.c J.v J.p J.ch u J.m J.P z J.n J.q t s.toNat g c a w hp hq e1 hJ.h.1 hJ.h.2 hJ.c.1 hJ.c.2 ht.1 ht.2 a1 a2 hJ.v.1 hJ.v.2 hJ.p.1 hJ.p.2 hJ.ch.1 hJ.ch.2 ha.1 ha.2 hg.1 (by omega) hk.1 hk.2
  have h2 := h.mono (fun e w' h => tkP_of e2 h)
  rw [e2] at h2
  exact h2
/-- The two boxes of sound. -/
theorem four4 (a b c d : Bool) : a = false ∨ (a = true ∧ b = false) ∨ (a = true ∧ b = true ∧ c = false) ∨ (a = true ∧ b = true ∧ c = true ∧ d = false) ∨ (a = true ∧ b = true ∧ c = true ∧ d = true) := by cases a <;> cases b <;> cases c <;> cases d <;> simp
theorem goodX_eq (s : ByteArray) (h c v p ch : Int) (m : Nat) (P : Nat → St) (n : Nat) (q : Nat → Tri) (x : Ld) : goodB s h c v p ch m P n q x = (vesB s h c v p ch && (progB m P && (fltB n q && ldB m P x))) := by
  obtain ⟨t, st, g, tc, ai⟩ := x
  rw [goodB_eq, ldB_eq]
  cases progB m P <;> simp
set_option maxRecDepth 20000 in
set_option maxHeartbeats 4000000 in
theorem xsound_any (s : ByteArray) (h c v p ch : Int) (u : Value) (m : Nat) (P : Nat → St) (z : Value) (n : Nat) (q : Nat → Tri) (t st g tc ai : Int) (w : World) (hs : s.size ≤ maxLen) (hp : RowP w u m P) (hq : RowT w z n q) :
    Calls Try.prog 76 #[.agg #[.string s, .int .i64 h, .int .i64 c, .int .i64 v, .int .i64 p, .int .i64 ch], u, z, .agg #[.int .i64 t, .int .i64 st, .int .i64 g, .int .i64 tc, .int .i64 ai]] w fun e w' => e = .returned (.bool (goodB s h c v p ch m P n q ⟨t, st, g, tc, ai⟩)) ∧ Below w.heap.size w w' := by
  have HP := hid (fun w1 (g : Below w.heap.size w w1) => hp.keep g)
  have HQ := hid (fun w1 (g : Below w.heap.size w w1) => hq.keep g)
  obtain ⟨pa, pc, rfl⟩ := RowT.shape hp
  obtain ⟨qa, qc, rfl⟩ := hq.shape
  have HS := hid hs
  clear hp hq hs
  have hc := hid (goodX_eq s h c v p ch m P n q ⟨t, st, g, tc, ai⟩)
  have BX := hid (box2_start (w := w) (A := #[.string s, .int .i64 h, .int .i64 c, .int .i64 v, .int .i64 p, .int .i64 ch]) (B := #[.int .i64 t, .int .i64 st, .int .i64 g, .int .i64 tc, .int .i64 ai]) (T := 53) (T' := 57) (fz := (0, 0)) (fz' := (0, 0)))
  rcases four4 (vesB s h c v p ch) (progB m P) (fltB n q) (ldB m P ⟨t, st, g, tc, ai⟩) with h1 | ⟨h1, h2⟩ | ⟨h1, h2, h3⟩ | ⟨h1, h2, h3, h4⟩ | ⟨h1, h2, h3, h4⟩
  all_goals
    go_enter Try.func76, Try.ntmps76
    go_wp2_with (first
      | (go_at_call 100; refine (xves_any _ _ _ _ _ _ _ HS.out).mono ?_; rintro e w1 ⟨rfl, hb⟩; have BX := hid (BX.out.keep hb); obtain ⟨⟨a0, a1, a2, a3, a4, a5⟩, b0, b1, b2, b3, b4⟩ := BX.out.elf; clear hb)
      | (go_at_call 101; refine (xprog_any _ _ _ _ (HP.out _ BX.out.low)).mono ?_; rintro e w2 ⟨rfl, hb⟩; have BX := hid (BX.out.keep hb); obtain ⟨⟨a0, a1, a2, a3, a4, a5⟩, b0, b1, b2, b3, b4⟩ := BX.out.elf; clear hb)
      | (go_at_call 102; refine (xflt_any _ _ _ _ (HQ.out _ BX.out.low)).mono ?_; rintro e w2 ⟨rfl, hb⟩; have BX := hid (BX.out.keep hb); obtain ⟨⟨a0, a1, a2, a3, a4, a5⟩, b0, b1, b2, b3, b4⟩ := BX.out.elf; clear hb)
      | (go_at_call 103; refine (xld_any _ _ _ _ _ _ _ _ _ (HP.out _ BX.out.low)).mono ?_; rintro e w3 ⟨rfl, hb⟩; have BX := hid (BX.out.keep hb); obtain ⟨⟨a0, a1, a2, a3, a4, a5⟩, b0, b1, b2, b3, b4⟩ := BX.out.elf; clear hb))
    go_ret
    exact ⟨ret_bool (by rw [hc.out]; simp only [Bool.false_and, Bool.true_and, *]), BX.out.low⟩
end Go.Proofs.Ytpkcnojcklmhmaa
