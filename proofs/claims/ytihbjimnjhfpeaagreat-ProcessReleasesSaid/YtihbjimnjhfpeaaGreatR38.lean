/- Texts of this seat, one behind the other. -/
import Derived.Test.YtihbjimnjhfpeaaGreatR37
import Derived.Test.YtihbjimnjhfpeaaGreatPch
import Derived.Test.YtihbjimnjhfpeaaGreatR21
/- Walk of Judge: contract. -/
namespace Go.Proofs.YtihbjimnjhfpeaaGreat
open Go.RowKit Go.Lib

/-- Four boxes behind one another, whole. -/
structure B4 (w W : World) (T1 T2 T3 T4 : TypeId) (A B C E : Array Value) : Prop where
  one : W.heap[w.heap.size]? = some (.cells A T1 (0, 0))
  two : W.heap[w.heap.size + 1]? = some (.cells B T2 (0, 0))
  three : W.heap[w.heap.size + 1 + 1]? = some (.cells C T3 (0, 0))
  four : W.heap[w.heap.size + 1 + 1 + 1]? = some (.cells E T4 (0, 0))
  low : Below w.heap.size w W
section
variable {w W : World} {T1 T2 T3 T4 : TypeId} {A B C E : Array Value}
theorem b4_start : B4 w ((((w.alloc (.cells A T1)).alloc (.cells B T2)).alloc (.cells C T3)).alloc (.cells E T4)) T1 T2 T3 T4 A B C E := by
  have h := b3_start (w := w) (T1 := T1) (T2 := T2) (T3 := T3) (A := A) (B := B) (R := C)
  have hb := (Below.refl _ (((w.alloc (.cells A T1)).alloc (.cells B T2)).alloc (.cells C T3))).alloc (Nat.le_refl _) (.cells E T4)
  have h2 := h.keep hb
  refine ⟨h2.one, h2.two, h2.three, ?_, h2.low⟩
  have := heap_alloc_new (((w.alloc (.cells A T1)).alloc (.cells B T2)).alloc (.cells C T3)) (.cells E T4)
  rwa [World.size_alloc, World.size_alloc, World.size_alloc] at this
theorem B4.keep {w2 : World} (h : B4 w W T1 T2 T3 T4 A B C E) (hb : Below W.heap.size W w2) : B4 w w2 T1 T2 T3 T4 A B C E :=
  ⟨(hb.block _ (lt_of_block h.one)).trans h.one, (hb.block _ (lt_of_block h.two)).trans h.two, (hb.block _ (lt_of_block h.three)).trans h.three, (hb.block _ (lt_of_block h.four)).trans h.four, bstep h.low h.low.size hb⟩
theorem B4.sch (h : B4 w W T1 T2 T3 T4 A B C E) (i : Nat) : W.cell? ⟨w.heap.size, i, none⟩ = A[i]? := cell_of_row _ _ i _ _ _ h.one
theorem B4.can (h : B4 w W T1 T2 T3 T4 A B C E) (i : Nat) : W.cell? ⟨w.heap.size + 1, i, none⟩ = B[i]? := cell_of_row _ _ i _ _ _ h.two
theorem B4.kil (h : B4 w W T1 T2 T3 T4 A B C E) (i : Nat) : W.cell? ⟨w.heap.size + 1 + 1, i, none⟩ = C[i]? := cell_of_row _ _ i _ _ _ h.three
theorem B4.spo (h : B4 w W T1 T2 T3 T4 A B C E) (i : Nat) : W.cell? ⟨w.heap.size + 1 + 1 + 1, i, none⟩ = E[i]? := cell_of_row _ _ i _ _ _ h.four
end
/-- The first error of Judge. -/
def judE (s : Sch) (rb vv : Bool) (t fi : Int) : Int := if ((s.ok && rb) && vv) = false then 1 else if (okT t && inB fi 0 1000000) = false then 7 else 0
/-- The verdict. -/
def judV (s : Sch) (m : Nat) (st : Nat → Rt.St) (n : Nat) (rd : Nat → Rt.Rd) (vb : Bool) (t fi : Int) (r l a b k a2 b2 : Int) (q x : Kl) : Int :=
  verV (unpV (Rt.wholeB m st n rd) vb (Rt.highN n rd)) (schV s t fi (Rt.devL st rd n).length (Rt.cookN st rd s.tm n)) (steV (sterO q (lowO (sumsO r l a b k a2 b2 q t (cutL (Rt.bathsL rd n)))) (chk4 (canB r l a b k a2 b2) q.vB t (cutL (Rt.bathsL rd n))))) (unsV (spoO r l a b k a2 b2 x t (cutL (Rt.bathsL rd n))) (x.g * (x.d * 1000000)))
def JudP (v e0 : Int) (w : World) (e : Ending) (w' : World) : Prop := e = .returned (.tuple #[.int .i64 v, .int .i64 e0]) ∧ Below w.heap.size w w'
/-- What Judge's boxes read. -/
def RawJ (s : Sch) (r l a b k a2 b2 : Int) (q x : Kl) (w W : World) : Prop :=
  (W.cell? ⟨w.heap.size, 0, none⟩ = some (.string s.pr) ∧ W.cell? ⟨w.heap.size, 1, none⟩ = some (.int .i64 s.it) ∧ W.cell? ⟨w.heap.size, 2, none⟩ = some (.int .i64 s.tm) ∧ W.cell? ⟨w.heap.size, 3, none⟩ = some (.int .i64 s.tk) ∧ W.cell? ⟨w.heap.size, 4, none⟩ = some (.int .i64 s.fl)) ∧ (W.cell? ⟨w.heap.size + 1, 0, none⟩ = some (.int .i64 r) ∧ W.cell? ⟨w.heap.size + 1, 1, none⟩ = some (.int .i64 l) ∧ W.cell? ⟨w.heap.size + 1, 2, none⟩ = some (.int .i64 a) ∧ W.cell? ⟨w.heap.size + 1, 3, none⟩ = some (.int .i64 b) ∧ W.cell? ⟨w.heap.size + 1, 4, none⟩ = some (.int .i64 k) ∧ W.cell? ⟨w.heap.size + 1, 5, none⟩ = some (.int .i64 a2) ∧ W.cell? ⟨w.heap.size + 1, 6, none⟩ = some (.int .i64 b2)) ∧ (W.cell? ⟨w.heap.size + 1 + 1, 0, none⟩ = some (.string q.s) ∧ W.cell? ⟨w.heap.size + 1 + 1, 1, none⟩ = some (.int .i64 q.r) ∧ W.cell? ⟨w.heap.size + 1 + 1, 2, none⟩ = some (.int .i64 q.z) ∧ W.cell? ⟨w.heap.size + 1 + 1, 3, none⟩ = some (.int .i64 q.d) ∧ W.cell? ⟨w.heap.size + 1 + 1, 4, none⟩ = some (.int .i64 q.g)) ∧ (W.cell? ⟨w.heap.size + 1 + 1 + 1, 0, none⟩ = some (.string x.s) ∧ W.cell? ⟨w.heap.size + 1 + 1 + 1, 1, none⟩ = some (.int .i64 x.r) ∧ W.cell? ⟨w.heap.size + 1 + 1 + 1, 2, none⟩ = some (.int .i64 x.z) ∧ W.cell? ⟨w.heap.size + 1 + 1 + 1, 3, none⟩ = some (.int .i64 x.d) ∧ W.cell? ⟨w.heap.size + 1 + 1 + 1, 4, none⟩ = some (.int .i64 x.g)) ∧ B4 w W 38 23 25 25 #[.string s.pr, .int .i64 s.it, .int .i64 s.tm, .int .i64 s.tk, .int .i64 s.fl] #[.int .i64 r, .int .i64 l, .int .i64 a, .int .i64 b, .int .i64 k, .int .i64 a2, .int .i64 b2] #[.string q.s, .int .i64 q.r, .int .i64 q.z, .int .i64 q.d, .int .i64 q.g] #[.string x.s, .int .i64 x.r, .int .i64 x.z, .int .i64 x.d, .int .i64 x.g]
theorem rawJ {s : Sch} {r l a b k a2 b2 : Int} {q x : Kl} {w W : World} (h : B4 w W 38 23 25 25 #[.string s.pr, .int .i64 s.it, .int .i64 s.tm, .int .i64 s.tk, .int .i64 s.fl] #[.int .i64 r, .int .i64 l, .int .i64 a, .int .i64 b, .int .i64 k, .int .i64 a2, .int .i64 b2] #[.string q.s, .int .i64 q.r, .int .i64 q.z, .int .i64 q.d, .int .i64 q.g] #[.string x.s, .int .i64 x.r, .int .i64 x.z, .int .i64 x.d, .int .i64 x.g]) : RawJ s r l a b k a2 b2 q x w W :=
  ⟨⟨h.sch 0, h.sch 1, h.sch 2, h.sch 3, h.sch 4⟩, ⟨h.can 0, h.can 1, h.can 2, h.can 3, h.can 4, h.can 5, h.can 6⟩, ⟨h.kil 0, h.kil 1, h.kil 2, h.kil 3, h.kil 4⟩, ⟨h.spo 0, h.spo 1, h.spo 2, h.spo 3, h.spo 4⟩, h⟩
set_option maxRecDepth 100000 in
set_option maxHeartbeats 8000000 in
theorem judge_err (s : Sch) (pa : Option Addr) (m pc : Nat) (st : Nat → Rt.St) (va : Option Addr) (n vc : Nat) (rd : Nat → Rt.Rd) (t fi : Int) (r l a b k a2 b2 : Int) (q x : Kl) (w : World) (hp : Rt.RowP w (.slice pa m pc) m st) (hr : Rt.RowR w (.slice va n vc) n rd) (hsp : s.pr.size ≤ maxLen) (hs : q.s.size ≤ maxLen) (hx : x.s.size ≤ maxLen) (hne : judE s (Rt.recB m st n rd) ((q.vB && x.vB) && canB r l a b k a2 b2) t fi ≠ 0) :
    Calls Tryz.prog 11 #[.agg #[.string s.pr, .int .i64 s.it, .int .i64 s.tm, .int .i64 s.tk, .int .i64 s.fl], .slice pa m pc, .slice va n vc, .int .i64 t, .int .i64 fi, .agg #[.int .i64 r, .int .i64 l, .int .i64 a, .int .i64 b, .int .i64 k, .int .i64 a2, .int .i64 b2], .agg #[.string q.s, .int .i64 q.r, .int .i64 q.z, .int .i64 q.d, .int .i64 q.g], .agg #[.string x.s, .int .i64 x.r, .int .i64 x.z, .int .i64 x.d, .int .i64 x.g]] w (JudP 0 (judE s (Rt.recB m st n rd) ((q.vB && x.vB) && canB r l a b k a2 b2) t fi) w) := by
  have HX := hid (b4_start (w := w) (T1 := 38) (T2 := 23) (T3 := 25) (T4 := 25) (A := #[.string s.pr, .int .i64 s.it, .int .i64 s.tm, .int .i64 s.tk, .int .i64 s.fl]) (B := #[.int .i64 r, .int .i64 l, .int .i64 a, .int .i64 b, .int .i64 k, .int .i64 a2, .int .i64 b2]) (C := #[.string q.s, .int .i64 q.r, .int .i64 q.z, .int .i64 q.d, .int .i64 q.g]) (E := #[.string x.s, .int .i64 x.r, .int .i64 x.z, .int .i64 x.d, .int .i64 x.g]))
  have HP := hid (fun w1 (g : Below w.heap.size w w1) => (show Rt.RowP w1 (.slice pa m pc) m st from Rt.RowT.keep hp g))
  have HR := hid (fun w1 (g : Below w.heap.size w w1) => hr.keep g)
  have HSC := hid (fun W => pvs_any s W hsp)
  have HRE := hid (fun W h1 h2 => Rt.vrec_any (.slice pa m pc) m st (.slice va n vc) n rd W h1 h2)
  have HV := hid (fun (W : World) (n : Nat) (hn : W.heap.size = n) => pvalid_two r l a b k a2 b2 W q x n hn hs hx)
  have HT : Hid (∀ (W : World) (n : Nat) (_ : W.heap.size = n), Calls Tryz.prog 28 #[.slice (some ⟨n, 0, none⟩) 1 1] (W.alloc (.cells #[.int .i64 t] 3)) fun e w' => e = .returned (.bool (okT t)) ∧ (W.alloc (.cells #[.int .i64 t] 3)) = w') := fun W n h => by
    have := ptemps_any (W.alloc (.cells #[.int .i64 t] 3)) _ [t] (one_row t 3 h)
    rwa [show okL [t] = okT t by simp [okL]] at this
  have HF : Hid (∀ W, Calls Tryz.prog 42 #[.int .i64 fi, .int .i64 0, .int .i64 1000000] W fun e w' => e = .returned (.bool (inB fi 0 1000000)) ∧ W = w') := fun W => pwithin_any fi 0 1000000 W
  have HE := hid (show ∀ sb rb vv tb fb, s.ok = sb → Rt.recB m st n rd = rb → ((q.vB && x.vB) && canB r l a b k a2 b2) = vv → okT t = tb → inB fi 0 1000000 = fb → judE s (Rt.recB m st n rd) ((q.vB && x.vB) && canB r l a b k a2 b2) t fi = if ((sb && rb) && vv) = false then 1 else if (tb && fb) = false then 7 else 0 from fun _ _ _ _ _ h1 h2 h3 h4 h5 => by unfold judE; rw [h1, h2, h3, h4, h5])
  obtain ⟨je, hje⟩ : ∃ y, y = judE s (Rt.recB m st n rd) ((q.vB && x.vB) && canB r l a b k a2 b2) t fi := ⟨_, rfl⟩
  rw [← hje] at HE hne ⊢
  clear hje hp hr hs hx hsp
  cases h1 : s.ok
  · rw [h1] at HSC
    have HJ := hid (HE.out false _ _ _ _ h1 rfl rfl rfl rfl)
    rw [show je = 1 from HJ.out.trans (by simp)]
    clear HE hne HJ
    obtain ⟨⟨s0, s1, s2, s3, s4⟩, ⟨x0, x1, x2, x3, x4, x5, x6⟩, ⟨y0, y1, y2, y3, y4⟩, ⟨z0, z1, z2, z3, z4⟩, _⟩ := rawJ HX.out
    go_enter Tryz.func11, Tryz.ntmps11
    go_wp2_with fail
    refine (HSC.out _).mono ?_
    rintro e w1 ⟨rfl, hb⟩
    have HX := hid (HX.out.keep hb)
    clear hb
    clear s0 s1 s2 s3 s4 x0 x1 x2 x3 x4 x5 x6 y0 y1 y2 y3 y4 z0 z1 z2 z3 z4
    go_wp2_with fail
    refine bodyPost_ret (v := .tuple #[.int .i64 0, .int .i64 1]) (by simp [results, Tryz.results11, go_sem]) rfl ⟨rfl, HX.out.low⟩
  rw [h1] at HSC
  cases h2 : Rt.recB m st n rd
  · rw [h2] at HRE
    have HJ := hid (HE.out true false _ _ _ h1 h2 rfl rfl rfl)
    rw [show je = 1 from HJ.out.trans (by simp)]
    clear HE hne HJ
    obtain ⟨⟨s0, s1, s2, s3, s4⟩, ⟨x0, x1, x2, x3, x4, x5, x6⟩, ⟨y0, y1, y2, y3, y4⟩, ⟨z0, z1, z2, z3, z4⟩, _⟩ := rawJ HX.out
    go_enter Tryz.func11, Tryz.ntmps11
    go_wp2_with fail
    refine (HSC.out _).mono ?_
    rintro e w1 ⟨rfl, hb⟩
    have HX := hid (HX.out.keep hb)
    clear hb
    clear s0 s1 s2 s3 s4 x0 x1 x2 x3 x4 x5 x6 y0 y1 y2 y3 y4 z0 z1 z2 z3 z4
    obtain ⟨⟨s0, s1, s2, s3, s4⟩, ⟨x0, x1, x2, x3, x4, x5, x6⟩, ⟨y0, y1, y2, y3, y4⟩, ⟨z0, z1, z2, z3, z4⟩, _⟩ := rawJ HX.out
    go_wp2_with fail
    refine (HRE.out _ (HP.out _ HX.out.low) (HR.out _ HX.out.low)).mono ?_
    rintro e w2 ⟨rfl, hb⟩
    have HX := hid (HX.out.keep hb)
    clear hb
    clear s0 s1 s2 s3 s4 x0 x1 x2 x3 x4 x5 x6 y0 y1 y2 y3 y4 z0 z1 z2 z3 z4
    go_wp2_with fail
    refine bodyPost_ret (v := .tuple #[.int .i64 0, .int .i64 1]) (by simp [results, Tryz.results11, go_sem]) rfl ⟨rfl, HX.out.low⟩
  rw [h2] at HRE
  cases h3 : ((q.vB && x.vB) && canB r l a b k a2 b2)
  · rw [h3] at HV
    have HJ := hid (HE.out true true false _ _ h1 h2 h3 rfl rfl)
    rw [show je = 1 from HJ.out.trans (by simp)]
    clear HE hne HJ
    obtain ⟨⟨s0, s1, s2, s3, s4⟩, ⟨x0, x1, x2, x3, x4, x5, x6⟩, ⟨y0, y1, y2, y3, y4⟩, ⟨z0, z1, z2, z3, z4⟩, _⟩ := rawJ HX.out
    go_enter Tryz.func11, Tryz.ntmps11
    go_wp2_with fail
    refine (HSC.out _).mono ?_
    rintro e w1 ⟨rfl, hb⟩
    have HX := hid (HX.out.keep hb)
    clear hb
    clear s0 s1 s2 s3 s4 x0 x1 x2 x3 x4 x5 x6 y0 y1 y2 y3 y4 z0 z1 z2 z3 z4
    obtain ⟨⟨s0, s1, s2, s3, s4⟩, ⟨x0, x1, x2, x3, x4, x5, x6⟩, ⟨y0, y1, y2, y3, y4⟩, ⟨z0, z1, z2, z3, z4⟩, _⟩ := rawJ HX.out
    go_wp2_with fail
    refine (HRE.out _ (HP.out _ HX.out.low) (HR.out _ HX.out.low)).mono ?_
    rintro e w2 ⟨rfl, hb⟩
    have HX := hid (HX.out.keep hb)
    clear hb
    clear s0 s1 s2 s3 s4 x0 x1 x2 x3 x4 x5 x6 y0 y1 y2 y3 y4 z0 z1 z2 z3 z4
    obtain ⟨⟨s0, s1, s2, s3, s4⟩, ⟨x0, x1, x2, x3, x4, x5, x6⟩, ⟨y0, y1, y2, y3, y4⟩, ⟨z0, z1, z2, z3, z4⟩, _⟩ := rawJ HX.out
    go_wp2_with fail
    refine (HV.out _ _ (by simp)).mono ?_
    rintro e w3 ⟨rfl, hb⟩
    have HX := hid (HX.out.keep (balloc hb))
    clear hb
    clear s0 s1 s2 s3 s4 x0 x1 x2 x3 x4 x5 x6 y0 y1 y2 y3 y4 z0 z1 z2 z3 z4
    go_wp2_with fail
    refine bodyPost_ret (v := .tuple #[.int .i64 0, .int .i64 1]) (by simp [results, Tryz.results11, go_sem]) rfl ⟨rfl, HX.out.low⟩
  rw [h3] at HV
  cases h4 : okT t
  · rw [h4] at HT
    have HJ := hid (HE.out true true true false _ h1 h2 h3 h4 rfl)
    rw [show je = 7 from HJ.out.trans (by simp)]
    clear HE hne HJ
    obtain ⟨⟨s0, s1, s2, s3, s4⟩, ⟨x0, x1, x2, x3, x4, x5, x6⟩, ⟨y0, y1, y2, y3, y4⟩, ⟨z0, z1, z2, z3, z4⟩, _⟩ := rawJ HX.out
    go_enter Tryz.func11, Tryz.ntmps11
    go_wp2_with fail
    refine (HSC.out _).mono ?_
    rintro e w1 ⟨rfl, hb⟩
    have HX := hid (HX.out.keep hb)
    clear hb
    clear s0 s1 s2 s3 s4 x0 x1 x2 x3 x4 x5 x6 y0 y1 y2 y3 y4 z0 z1 z2 z3 z4
    obtain ⟨⟨s0, s1, s2, s3, s4⟩, ⟨x0, x1, x2, x3, x4, x5, x6⟩, ⟨y0, y1, y2, y3, y4⟩, ⟨z0, z1, z2, z3, z4⟩, _⟩ := rawJ HX.out
    go_wp2_with fail
    refine (HRE.out _ (HP.out _ HX.out.low) (HR.out _ HX.out.low)).mono ?_
    rintro e w2 ⟨rfl, hb⟩
    have HX := hid (HX.out.keep hb)
    clear hb
    clear s0 s1 s2 s3 s4 x0 x1 x2 x3 x4 x5 x6 y0 y1 y2 y3 y4 z0 z1 z2 z3 z4
    obtain ⟨⟨s0, s1, s2, s3, s4⟩, ⟨x0, x1, x2, x3, x4, x5, x6⟩, ⟨y0, y1, y2, y3, y4⟩, ⟨z0, z1, z2, z3, z4⟩, _⟩ := rawJ HX.out
    go_wp2_with fail
    refine (HV.out _ _ (by simp)).mono ?_
    rintro e w3 ⟨rfl, hb⟩
    have HX := hid (HX.out.keep (balloc hb))
    clear hb
    clear s0 s1 s2 s3 s4 x0 x1 x2 x3 x4 x5 x6 y0 y1 y2 y3 y4 z0 z1 z2 z3 z4
    go_wp2_with fail
    refine (HT.out _ _ (by simp)).mono ?_
    rintro e w4 ⟨rfl, rfl⟩
    have HX := hid (HX.out.keep ((Below.refl _ _).alloc (Nat.le_refl _) (.cells #[.int .i64 t] 3)))
    go_wp2_with fail
    refine bodyPost_ret (v := .tuple #[.int .i64 0, .int .i64 7]) (by simp [results, Tryz.results11, go_sem]) rfl ⟨rfl, HX.out.low⟩
  rw [h4] at HT
  cases h5 : inB fi 0 1000000
  · rw [h5] at HF
    have HJ := hid (HE.out true true true true false h1 h2 h3 h4 h5)
    rw [show je = 7 from HJ.out.trans (by simp)]
    clear HE hne HJ
    obtain ⟨⟨s0, s1, s2, s3, s4⟩, ⟨x0, x1, x2, x3, x4, x5, x6⟩, ⟨y0, y1, y2, y3, y4⟩, ⟨z0, z1, z2, z3, z4⟩, _⟩ := rawJ HX.out
    go_enter Tryz.func11, Tryz.ntmps11
    go_wp2_with fail
    refine (HSC.out _).mono ?_
    rintro e w1 ⟨rfl, hb⟩
    have HX := hid (HX.out.keep hb)
    clear hb
    clear s0 s1 s2 s3 s4 x0 x1 x2 x3 x4 x5 x6 y0 y1 y2 y3 y4 z0 z1 z2 z3 z4
    obtain ⟨⟨s0, s1, s2, s3, s4⟩, ⟨x0, x1, x2, x3, x4, x5, x6⟩, ⟨y0, y1, y2, y3, y4⟩, ⟨z0, z1, z2, z3, z4⟩, _⟩ := rawJ HX.out
    go_wp2_with fail
    refine (HRE.out _ (HP.out _ HX.out.low) (HR.out _ HX.out.low)).mono ?_
    rintro e w2 ⟨rfl, hb⟩
    have HX := hid (HX.out.keep hb)
    clear hb
    clear s0 s1 s2 s3 s4 x0 x1 x2 x3 x4 x5 x6 y0 y1 y2 y3 y4 z0 z1 z2 z3 z4
    obtain ⟨⟨s0, s1, s2, s3, s4⟩, ⟨x0, x1, x2, x3, x4, x5, x6⟩, ⟨y0, y1, y2, y3, y4⟩, ⟨z0, z1, z2, z3, z4⟩, _⟩ := rawJ HX.out
    go_wp2_with fail
    refine (HV.out _ _ (by simp)).mono ?_
    rintro e w3 ⟨rfl, hb⟩
    have HX := hid (HX.out.keep (balloc hb))
    clear hb
    clear s0 s1 s2 s3 s4 x0 x1 x2 x3 x4 x5 x6 y0 y1 y2 y3 y4 z0 z1 z2 z3 z4
    go_wp2_with fail
    refine (HT.out _ _ (by simp)).mono ?_
    rintro e w4 ⟨rfl, rfl⟩
    have HX := hid (HX.out.keep ((Below.refl _ _).alloc (Nat.le_refl _) (.cells #[.int .i64 t] 3)))
    go_wp2_with fail
    refine (HF.out _).mono ?_
    rintro e w5 ⟨rfl, rfl⟩
    go_wp2_with fail
    refine bodyPost_ret (v := .tuple #[.int .i64 0, .int .i64 7]) (by simp [results, Tryz.results11, go_sem]) rfl ⟨rfl, HX.out.low⟩
  rw [h5] at HF
  exact absurd (HE.out _ _ _ _ _ h1 h2 h3 h4 h5) hne
/-- What stands behind a trial's making: it at mm. -/
structure JdE (T : Array Value) (u : Value) (bl : List Int) (mm : Nat) (w W : World) : Prop where
  met : W.heap[mm]? = some (.cells T 98 (0, 0))
  row : RowI W u bl
  low : Below w.heap.size w W
theorem own_kept3 {w w' : World} {base e n : Nat} {v : Value} {xs : List Value} (h : w.ownsRow base e 1 v n xs) (hb : Below w.heap.size w w') : w'.ownsRow base e 1 v n xs := by
  refine ⟨h.1, ?_⟩
  rcases h.2 with hn | ⟨g, cap, cur, rfl, h1, hg, rest⟩
  · exact .inl hn
  · exact .inr ⟨g, cap, cur, rfl, h1, (hb.block _ (Array.getElem?_eq_some_iff.1 hg).1).trans hg, rest⟩
theorem own_trset {W : World} {base n mm : Nat} {v : Value} {xs : List Value} {cs cs' : Array Value} (h : W.ownsRow base 3 1 v n xs) (hm : W.heap[mm]? = some (.cells cs 98 (0, 0))) : (W.setRow mm cs').ownsRow base 3 1 v n xs := by
  refine ⟨h.1, ?_⟩
  rcases h.2 with hn | ⟨g, cap, cur, hv, hb, hg, rest⟩
  · exact .inl hn
  · refine .inr ⟨g, cap, cur, hv, hb, (setRow_other _ _ _ _ ?_).trans hg, rest⟩
    rintro rfl
    rw [hg] at hm
    exact absurd (Obj.cells.inj (Option.some.inj hm)).2.1 (by decide)
theorem jdE_end {T cs : Array Value} {v : Value} {bl : List Int} {base mm : Nat} {w W W9 : World} (hlow : Below w.heap.size w W) (hm : W.heap[mm]? = some (.cells cs 98 (0, 0))) (hle : w.heap.size ≤ mm) (ho : W.ownsRow base 3 1 v bl.length (ivs bl)) (hbl : bl.length ≤ 1000000) (hW : W.setRow mm T = W9) : JdE T v bl mm w W9 := by
  subst hW
  exact ⟨setRow_heap _ _ _ _ _ _ hm, own_rowI (own_trset ho hm) hbl, hlow.trans ⟨rfl, rfl, rfl, by simp, fun k hk => setRow_other _ _ _ _ (by omega)⟩⟩
set_option maxRecDepth 100000 in
set_option maxHeartbeats 16000000 in
theorem judge_ok (s : Sch) (pa : Option Addr) (m pc : Nat) (st : Nat → Rt.St) (va : Option Addr) (n vc : Nat) (rd : Nat → Rt.Rd) (t fi : Int) (r l a b k a2 b2 : Int) (q x : Kl) (w : World) (hp : Rt.RowP w (.slice pa m pc) m st) (hr : Rt.RowR w (.slice va n vc) n rd) (hsp : s.pr.size ≤ maxLen) (hs : q.s.size ≤ maxLen) (hx : x.s.size ≤ maxLen) (h0 : judE s (Rt.recB m st n rd) ((q.vB && x.vB) && canB r l a b k a2 b2) t fi = 0) {vb : Bool} {ve : Int} (hVE : Rt.VentV m st n rd vb ve) :
    Calls Tryz.prog 11 #[.agg #[.string s.pr, .int .i64 s.it, .int .i64 s.tm, .int .i64 s.tk, .int .i64 s.fl], .slice pa m pc, .slice va n vc, .int .i64 t, .int .i64 fi, .agg #[.int .i64 r, .int .i64 l, .int .i64 a, .int .i64 b, .int .i64 k, .int .i64 a2, .int .i64 b2], .agg #[.string q.s, .int .i64 q.r, .int .i64 q.z, .int .i64 q.d, .int .i64 q.g], .agg #[.string x.s, .int .i64 x.r, .int .i64 x.z, .int .i64 x.d, .int .i64 x.g]] w (JudP (judV s m st n rd vb t fi r l a b k a2 b2 q x) 0 w) := by
  have hall : s.ok = true ∧ Rt.recB m st n rd = true ∧ ((q.vB && x.vB) && canB r l a b k a2 b2) = true ∧ okT t = true ∧ inB fi 0 1000000 = true := by
    unfold judE at h0
    split at h0
    · cases h0
    · split at h0
      · cases h0
      · rename_i g1 g2
        simp only [Bool.not_eq_false, Bool.and_eq_true] at g1 g2
        exact ⟨g1.1.1, g1.1.2, by simpa using g1.2, g2.1, g2.2⟩
  obtain ⟨g1, g2, g3, g4, g5⟩ := hall
  have hn2 : n ≤ 2000 := (Rt.rec_step g2).1
  have hxv : x.vB = true := by
    simp only [Bool.and_eq_true] at g3
    exact g3.1.2
  have HX := hid (b4_start (w := w) (T1 := 38) (T2 := 23) (T3 := 25) (T4 := 25) (A := #[.string s.pr, .int .i64 s.it, .int .i64 s.tm, .int .i64 s.tk, .int .i64 s.fl]) (B := #[.int .i64 r, .int .i64 l, .int .i64 a, .int .i64 b, .int .i64 k, .int .i64 a2, .int .i64 b2]) (C := #[.string q.s, .int .i64 q.r, .int .i64 q.z, .int .i64 q.d, .int .i64 q.g]) (E := #[.string x.s, .int .i64 x.r, .int .i64 x.z, .int .i64 x.d, .int .i64 x.g]))
  have HP := hid (fun w1 (g : Below w.heap.size w w1) => (show Rt.RowP w1 (.slice pa m pc) m st from Rt.RowT.keep hp g))
  have HR := hid (fun w1 (g : Below w.heap.size w w1) => hr.keep g)
  have HSC := hid (fun W => pvs_any s W hsp)
  have HRE := hid (fun W h1 h2 => Rt.vrec_any (.slice pa m pc) m st (.slice va n vc) n rd W h1 h2)
  have HV := hid (fun (W : World) (n : Nat) (hn : W.heap.size = n) => pvalid_two r l a b k a2 b2 W q x n hn hs hx)
  have HT : Hid (∀ (W : World) (n : Nat) (_ : W.heap.size = n), Calls Tryz.prog 28 #[.slice (some ⟨n, 0, none⟩) 1 1] (W.alloc (.cells #[.int .i64 t] 3)) fun e w' => e = .returned (.bool (okT t)) ∧ (W.alloc (.cells #[.int .i64 t] 3)) = w') := fun W n h => by
    have := ptemps_any (W.alloc (.cells #[.int .i64 t] 3)) _ [t] (one_row t 3 h)
    rwa [show okL [t] = okT t by simp [okL]] at this
  have HF : Hid (∀ W, Calls Tryz.prog 42 #[.int .i64 fi, .int .i64 0, .int .i64 1000000] W fun e w' => e = .returned (.bool (inB fi 0 1000000)) ∧ W = w') := fun W => pwithin_any fi 0 1000000 W
  rw [g1] at HSC
  rw [g2] at HRE
  rw [g3] at HV
  rw [g4] at HT
  rw [g5] at HF
  have HBA := hid (fun W h => Rt.baths_any (.slice va n vc) n rd W h (by omega))
  have hbn : (Rt.bathsL rd n).length = n := by unfold Rt.bathsL; simp
  have HCU := hid (fun (W : World) (v : Value) (h : RowI W v (Rt.bathsL rd n)) => cut_any v (Rt.bathsL rd n) W h (by omega))
  have HCL := hid (show (cutL (Rt.bathsL rd n)).length ≤ 1000000 by rw [cutL_len]; omega)
  have HBN := hid (show (Rt.bathsL rd n).length ≤ 1000000 by omega)
  have HVD := hid (fun (ba : Option Addr) (bc : Nat) (W : World) (hlow : Below w.heap.size w W) (hrow : RowI W (.slice ba (cutL (Rt.bathsL rd n)).length bc) (cutL (Rt.bathsL rd n))) =>
    verdict_gen #[.string s.pr, .int .i64 s.it, .int .i64 s.tm, .int .i64 s.tk, .int .i64 s.fl, .slice pa m pc, .slice va n vc, .slice ba (cutL (Rt.bathsL rd n)).length bc, .int .i64 t, .int .i64 fi, .int .i64 r, .int .i64 l, .int .i64 a, .int .i64 b, .int .i64 k, .int .i64 a2, .int .i64 b2, .string q.s, .int .i64 q.r, .int .i64 q.z, .int .i64 q.d, .int .i64 q.g, .string x.s, .int .i64 x.r, .int .i64 x.z, .int .i64 x.d, .int .i64 x.g] W _ _ _ _ rfl (by simp [Value.oneCell'])
      (fun W2 hb => unproved_any s pa m pc st va n vc rd ba (cutL (Rt.bathsL rd n)) bc t fi r l a b k a2 b2 q x W2 (HP.out W2 (bstep hlow hlow.size hb)) (HR.out W2 (bstep hlow hlow.size hb)) hVE)
      (fun W2 hb => scheduled_any s pa m pc st va n vc rd ba (cutL (Rt.bathsL rd n)) bc t fi r l a b k a2 b2 q x W2 (HP.out W2 (bstep hlow hlow.size hb)) (HR.out W2 (bstep hlow hlow.size hb)) g2 hn2)
      (fun W2 hb => tsterile_any s pa m pc st va n vc rd ba (cutL (Rt.bathsL rd n)) bc t fi r l a b k a2 b2 q x W2 (hrow.keep hb) hs)
      (fun W2 hb => unspoiled_any s pa m pc st va n vc rd ba (cutL (Rt.bathsL rd n)) bc t fi r l a b k a2 b2 q x W2 (hrow.keep hb) hx hxv))
  obtain ⟨jv, hjv⟩ : ∃ y, y = judV s m st n rd vb t fi r l a b k a2 b2 q x := ⟨_, rfl⟩
  have HVD : Hid (∀ (ba : Option Addr) (bc : Nat) (W : World), Below w.heap.size w W → RowI W (.slice ba (cutL (Rt.bathsL rd n)).length bc) (cutL (Rt.bathsL rd n)) → Calls Tryz.prog 45 #[.agg #[.string s.pr, .int .i64 s.it, .int .i64 s.tm, .int .i64 s.tk, .int .i64 s.fl, .slice pa m pc, .slice va n vc, .slice ba (cutL (Rt.bathsL rd n)).length bc, .int .i64 t, .int .i64 fi, .int .i64 r, .int .i64 l, .int .i64 a, .int .i64 b, .int .i64 k, .int .i64 a2, .int .i64 b2, .string q.s, .int .i64 q.r, .int .i64 q.z, .int .i64 q.d, .int .i64 q.g, .string x.s, .int .i64 x.r, .int .i64 x.z, .int .i64 x.d, .int .i64 x.g]] W (IntW jv W)) := by rw [hjv]; exact HVD
  rw [← hjv]
  clear hjv g1 g2 g3 g4 g5 hn2 hxv hbn hp hr hs hx hsp h0 hVE
  obtain ⟨⟨s0, s1, s2, s3, s4⟩, ⟨x0, x1, x2, x3, x4, x5, x6⟩, ⟨y0, y1, y2, y3, y4⟩, ⟨z0, z1, z2, z3, z4⟩, _⟩ := rawJ HX.out
  go_enter Tryz.func11, Tryz.ntmps11
  go_wp2_with fail
  refine (HSC.out _).mono ?_
  rintro e w1 ⟨rfl, hb⟩
  have HX := hid (HX.out.keep hb)
  clear hb
  clear s0 s1 s2 s3 s4 x0 x1 x2 x3 x4 x5 x6 y0 y1 y2 y3 y4 z0 z1 z2 z3 z4
  obtain ⟨⟨s0, s1, s2, s3, s4⟩, ⟨x0, x1, x2, x3, x4, x5, x6⟩, ⟨y0, y1, y2, y3, y4⟩, ⟨z0, z1, z2, z3, z4⟩, _⟩ := rawJ HX.out
  go_wp2_with fail
  refine (HRE.out _ (HP.out _ HX.out.low) (HR.out _ HX.out.low)).mono ?_
  rintro e w2 ⟨rfl, hb⟩
  have HX := hid (HX.out.keep hb)
  clear hb
  clear s0 s1 s2 s3 s4 x0 x1 x2 x3 x4 x5 x6 y0 y1 y2 y3 y4 z0 z1 z2 z3 z4
  obtain ⟨⟨s0, s1, s2, s3, s4⟩, ⟨x0, x1, x2, x3, x4, x5, x6⟩, ⟨y0, y1, y2, y3, y4⟩, ⟨z0, z1, z2, z3, z4⟩, _⟩ := rawJ HX.out
  go_wp2_with fail
  refine (HV.out _ _ (by simp)).mono ?_
  rintro e w3 ⟨rfl, hb⟩
  have HX := hid (HX.out.keep (balloc hb))
  clear hb
  clear s0 s1 s2 s3 s4 x0 x1 x2 x3 x4 x5 x6 y0 y1 y2 y3 y4 z0 z1 z2 z3 z4
  go_wp2_with fail
  refine (HT.out _ _ (by simp)).mono ?_
  rintro e w4 ⟨rfl, rfl⟩
  have HX := hid (HX.out.keep ((Below.refl _ _).alloc (Nat.le_refl _) (.cells #[.int .i64 t] 3)))
  go_wp2_with fail
  refine (HF.out _).mono ?_
  rintro e w5 ⟨rfl, rfl⟩
  generalize hWW : w3.alloc (.cells #[.int .i64 t] 3) = W5 at *
  clear hWW
  go_upto_region 5 with (fail)
  go_cut [18] (fun s18 wx => ∃ mm ba bc, s18 = .pointer (some ⟨mm, 0, none⟩) ∧ Hid (JdE #[.string s.pr, .int .i64 s.it, .int .i64 s.tm, .int .i64 s.tk, .int .i64 s.fl, .slice pa m pc, .slice va n vc, .slice ba (cutL (Rt.bathsL rd n)).length bc, .int .i64 t, .int .i64 fi, .int .i64 r, .int .i64 l, .int .i64 a, .int .i64 b, .int .i64 k, .int .i64 a2, .int .i64 b2, .string q.s, .int .i64 q.r, .int .i64 q.z, .int .i64 q.d, .int .i64 q.g, .string x.s, .int .i64 x.r, .int .i64 x.z, .int .i64 x.d, .int .i64 x.g] (.slice ba (cutL (Rt.bathsL rd n)).length bc) (cutL (Rt.bathsL rd n)) mm w wx))
  case first =>
    have HX := hid (HX.out.keep (Below.refl _ W5).drew)
    refine wp_region_sink (S := RawJ s r l a b k a2 b2 q x w) 13 (by kernel_rfl) (by kernel_rfl) (by kernel_rfl) (by kernel_rfl) (rawJ HX.out) (fun hS0 => ?_)
    generalize W5.drew = W0 at *
    refine wpAnyH_take (i := 0) (v := ?_) rfl (by kernel_rfl) (by kernel_rfl) (by kernel_rfl) (fun _ _ _ h => h) (Or.inl ⟨by rfl, ?_⟩) hS0 ?_
    rotate_left
    · intro w' hSw
      obtain ⟨⟨q0, q1, q2, q3, q4⟩, _⟩ := hSw
      go_simp
      try with_reducible rfl
    try simp only [Act.put]
    try simp only [List.setIfInBounds_toArray]
    try simp only [List.set_cons_zero, List.set_cons_succ]
    refine wpAnyH_take (i := 1) (v := ?_) rfl (by kernel_rfl) (by kernel_rfl) (by kernel_rfl) (fun _ _ _ h => h) (Or.inl ⟨by rfl, ?_⟩) hS0 ?_
    rotate_left
    · intro w' hSw
      obtain _ := hSw
      go_simp
      try with_reducible rfl
    try simp only [Act.put]
    try simp only [List.setIfInBounds_toArray]
    try simp only [List.set_cons_zero, List.set_cons_succ]
    refine wpAnyH_take (i := 2) (v := ?_) rfl (by kernel_rfl) (by kernel_rfl) (by kernel_rfl) (fun _ _ _ h => h) (Or.inl ⟨by rfl, ?_⟩) hS0 ?_
    rotate_left
    · intro w' hSw
      obtain _ := hSw
      go_simp
      try with_reducible rfl
    try simp only [Act.put]
    try simp only [List.setIfInBounds_toArray]
    try simp only [List.set_cons_zero, List.set_cons_succ]
    refine wpAnyH_take (i := 3) (v := ?_) rfl (by kernel_rfl) (by kernel_rfl) (by kernel_rfl) (fun _ _ _ h => h) (Or.inl ⟨by rfl, ?_⟩) hS0 ?_
    rotate_left
    · intro w' hSw
      obtain _ := hSw
      go_simp
      try with_reducible rfl
    try simp only [Act.put]
    try simp only [List.setIfInBounds_toArray]
    try simp only [List.set_cons_zero, List.set_cons_succ]
    refine wpAnyH_take (i := 6) (v := ?_) rfl (by kernel_rfl) (by kernel_rfl) (by kernel_rfl) (fun _ _ _ h => h) (Or.inl ⟨by rfl, ?_⟩) hS0 ?_
    rotate_left
    · intro w' hSw
      obtain _ := hSw
      go_simp
      try with_reducible rfl
    try simp only [Act.put]
    try simp only [List.setIfInBounds_toArray]
    try simp only [List.set_cons_zero, List.set_cons_succ]
    refine wpAnyH_take (i := 7) (v := ?_) rfl (by kernel_rfl) (by kernel_rfl) (by kernel_rfl) (fun _ _ _ h => h) (Or.inl ⟨by rfl, ?_⟩) hS0 ?_
    rotate_left
    · intro w' hSw
      obtain _ := hSw
      go_simp
      try with_reducible rfl
    try simp only [Act.put]
    try simp only [List.setIfInBounds_toArray]
    try simp only [List.set_cons_zero, List.set_cons_succ]
    refine wpAnyH_take (i := 8) (v := ?_) rfl (by kernel_rfl) (by kernel_rfl) (by kernel_rfl) (fun _ _ _ h => h) (Or.inl ⟨by rfl, ?_⟩) hS0 ?_
    rotate_left
    · intro w' hSw
      obtain ⟨_, ⟨q0, q1, q2, q3, q4, q5, q6⟩, _⟩ := hSw
      go_simp
      try with_reducible rfl
    try simp only [Act.put]
    try simp only [List.setIfInBounds_toArray]
    try simp only [List.set_cons_zero, List.set_cons_succ]
    refine wpAnyH_take (i := 9) (v := ?_) rfl (by kernel_rfl) (by kernel_rfl) (by kernel_rfl) (fun _ _ _ h => h) (Or.inl ⟨by rfl, ?_⟩) hS0 ?_
    rotate_left
    · intro w' hSw
      obtain ⟨_, _, ⟨q0, q1, q2, q3, q4⟩, _⟩ := hSw
      go_simp
      try with_reducible rfl
    try simp only [Act.put]
    try simp only [List.setIfInBounds_toArray]
    try simp only [List.set_cons_zero, List.set_cons_succ]
    refine wpAnyH_take (i := 10) (v := ?_) rfl (by kernel_rfl) (by kernel_rfl) (by kernel_rfl) (fun _ _ _ h => h) (Or.inl ⟨by rfl, ?_⟩) hS0 ?_
    rotate_left
    · intro w' hSw
      obtain ⟨_, _, _, ⟨q0, q1, q2, q3, q4⟩, _⟩ := hSw
      go_simp
      try with_reducible rfl
    try simp only [Act.put]
    try simp only [List.setIfInBounds_toArray]
    try simp only [List.set_cons_zero, List.set_cons_succ]
    (refine wpAnyH_ready (rs := [4, 12]) (by kernel_rfl) (by simp) ?_)
    refine AllReadyH.cons rfl (fun K hK => ?_) ?_
    · go_simp
      refine (HBA.out _ (HR.out _ HX.out.low)).mono ?_
      rintro e W11 ⟨u4, rfl, ho4, hb⟩
      have RB := hid (Rt.OwnL.rowI ho4 HBN.out)
      clear ho4
      have HX := hid (HX.out.keep hb)
      refine hK.out _ _ (rawJ HX.out) (fun hS0 => ?_)
      clear hK K
      (refine wpAnyH_ready (rs := [5, 12]) (by kernel_rfl) (by simp) ?_)
      refine AllReadyH.cons rfl (fun K hK => ?_) ?_
      · go_simp
        refine (HCU.out _ _ RB.out).mono ?_
        rintro e W12 ⟨u5, rfl, ho5, hb⟩
        obtain ⟨ba, bc, rfl⟩ := own_shapeP ho5
        rw [ivs_len] at ho5
        have RC := hid ho5
        clear ho5
        simp only [ivs_len]
        have HX := hid (HX.out.keep hb)
        have RB := hid (RB.out.keep hb)
        refine hK.out _ _ (rawJ HX.out) (fun hS0 => ?_)
        clear hK K
        refine wpAnyH_take (i := 11) (v := ?_) rfl (by kernel_rfl) (by kernel_rfl) (by kernel_rfl) (fun _ _ _ h => h) (Or.inl ⟨by rfl, ?_⟩) hS0 ?_
        rotate_left
        · intro w' hSw
          obtain _ := hSw
          go_simp
          try with_reducible rfl
        try simp only [Act.put]
        try simp only [List.setIfInBounds_toArray]
        try simp only [List.set_cons_zero, List.set_cons_succ]
        (refine wpAnyH_ready (rs := [12]) (by kernel_rfl) (by simp) ?_)
        refine AllReadyH.cons rfl (fun K hK => ?_) AllReadyH.nil
        go_simp
        have hb : Below W12.heap.size W12 (W12.alloc (.cells #[.string ⟨#[]⟩, .int .i64 0, .int .i64 0, .int .i64 0, .int .i64 0, .slice none 0 0, .slice none 0 0, .slice none 0 0, .int .i64 0, .int .i64 0, .int .i64 0, .int .i64 0, .int .i64 0, .int .i64 0, .int .i64 0, .int .i64 0, .int .i64 0, .string ⟨#[]⟩, .int .i64 0, .int .i64 0, .int .i64 0, .int .i64 0, .string ⟨#[]⟩, .int .i64 0, .int .i64 0, .int .i64 0, .int .i64 0] 98)) := (Below.refl _ _).alloc (Nat.le_refl _) _
        have ME := hid (heap_alloc_new W12 (.cells #[.string ⟨#[]⟩, .int .i64 0, .int .i64 0, .int .i64 0, .int .i64 0, .slice none 0 0, .slice none 0 0, .slice none 0 0, .int .i64 0, .int .i64 0, .int .i64 0, .int .i64 0, .int .i64 0, .int .i64 0, .int .i64 0, .int .i64 0, .int .i64 0, .string ⟨#[]⟩, .int .i64 0, .int .i64 0, .int .i64 0, .int .i64 0, .string ⟨#[]⟩, .int .i64 0, .int .i64 0, .int .i64 0, .int .i64 0] 98))
        have ML := hid (show w.heap.size ≤ W12.heap.size from HX.out.low.size)
        generalize hW : (W12.alloc (.cells #[.string ⟨#[]⟩, .int .i64 0, .int .i64 0, .int .i64 0, .int .i64 0, .slice none 0 0, .slice none 0 0, .slice none 0 0, .int .i64 0, .int .i64 0, .int .i64 0, .int .i64 0, .int .i64 0, .int .i64 0, .int .i64 0, .int .i64 0, .int .i64 0, .string ⟨#[]⟩, .int .i64 0, .int .i64 0, .int .i64 0, .int .i64 0, .string ⟨#[]⟩, .int .i64 0, .int .i64 0, .int .i64 0, .int .i64 0] 98)) = W13 at *
        clear hW
        generalize hm : W12.heap.size = mm at ME ML ⊢
        have HX := hid (HX.out.keep hb)
        have RB := hid (RB.out.keep hb)
        have RC := hid (own_kept3 RC.out hb)
        refine hK.out _ _ (rawJ HX.out) (fun hS0 => ?_)
        clear hK K
        have hm0 := ME.out
        clear hS0
        refine wpAnyH_done (by kernel_rfl) ?_ _
        refine sink_last rfl (fun K hK => ?_)
        refine wp_store_row 98 _ _ rfl mm _ rfl rfl 98 _ hm0 infoTr rfl (by simp [Value.oneCell']) ?_
        generalize hW9 : World.setRow _ _ _ = W9
        have HE := hid (jdE_end HX.out.low hm0 ML.out RC.out HCL.out hW9)
        clear hW9 hm0
        refine hK.out _ _ ?_
        clear hK K
        simp only [List.getElem_toArray, List.getElem_cons_succ, List.getElem_cons_zero, Act.put]
        go_wp2_with fail
        go_meet
        exact ⟨mm, ba, bc, rfl, HE⟩
      refine AllReadyH.cons rfl (fun K hK => ?_) AllReadyH.nil
      go_simp
      have hb : Below W11.heap.size W11 (W11.alloc (.cells #[.string ⟨#[]⟩, .int .i64 0, .int .i64 0, .int .i64 0, .int .i64 0, .slice none 0 0, .slice none 0 0, .slice none 0 0, .int .i64 0, .int .i64 0, .int .i64 0, .int .i64 0, .int .i64 0, .int .i64 0, .int .i64 0, .int .i64 0, .int .i64 0, .string ⟨#[]⟩, .int .i64 0, .int .i64 0, .int .i64 0, .int .i64 0, .string ⟨#[]⟩, .int .i64 0, .int .i64 0, .int .i64 0, .int .i64 0] 98)) := (Below.refl _ _).alloc (Nat.le_refl _) _
      have ME := hid (heap_alloc_new W11 (.cells #[.string ⟨#[]⟩, .int .i64 0, .int .i64 0, .int .i64 0, .int .i64 0, .slice none 0 0, .slice none 0 0, .slice none 0 0, .int .i64 0, .int .i64 0, .int .i64 0, .int .i64 0, .int .i64 0, .int .i64 0, .int .i64 0, .int .i64 0, .int .i64 0, .string ⟨#[]⟩, .int .i64 0, .int .i64 0, .int .i64 0, .int .i64 0, .string ⟨#[]⟩, .int .i64 0, .int .i64 0, .int .i64 0, .int .i64 0] 98))
      have ML := hid (show w.heap.size ≤ W11.heap.size from HX.out.low.size)
      generalize hW : (W11.alloc (.cells #[.string ⟨#[]⟩, .int .i64 0, .int .i64 0, .int .i64 0, .int .i64 0, .slice none 0 0, .slice none 0 0, .slice none 0 0, .int .i64 0, .int .i64 0, .int .i64 0, .int .i64 0, .int .i64 0, .int .i64 0, .int .i64 0, .int .i64 0, .int .i64 0, .string ⟨#[]⟩, .int .i64 0, .int .i64 0, .int .i64 0, .int .i64 0, .string ⟨#[]⟩, .int .i64 0, .int .i64 0, .int .i64 0, .int .i64 0] 98)) = W14 at *
      clear hW
      generalize hm : W11.heap.size = mm at ME ML ⊢
      have HX := hid (HX.out.keep hb)
      have RB := hid (RB.out.keep hb)
      refine hK.out _ _ (rawJ HX.out) (fun hS0 => ?_)
      clear hK K
      (refine wpAnyH_ready (rs := [5]) (by kernel_rfl) (by simp) ?_)
      refine AllReadyH.cons rfl (fun K hK => ?_) AllReadyH.nil
      go_simp
      refine (HCU.out _ _ RB.out).mono ?_
      rintro e W15 ⟨u5, rfl, ho5, hb⟩
      obtain ⟨ba, bc, rfl⟩ := own_shapeP ho5
      rw [ivs_len] at ho5
      have RC := hid ho5
      clear ho5
      simp only [ivs_len]
      have HX := hid (HX.out.keep hb)
      have RB := hid (RB.out.keep hb)
      have ME := hid ((hb.block _ (lt_of_block ME.out)).trans ME.out)
      refine hK.out _ _ (rawJ HX.out) (fun hS0 => ?_)
      clear hK K
      refine wpAnyH_take (i := 11) (v := ?_) rfl (by kernel_rfl) (by kernel_rfl) (by kernel_rfl) (fun _ _ _ h => h) (Or.inl ⟨by rfl, ?_⟩) hS0 ?_
      rotate_left
      · intro w' hSw
        obtain _ := hSw
        go_simp
        try with_reducible rfl
      try simp only [Act.put]
      try simp only [List.setIfInBounds_toArray]
      try simp only [List.set_cons_zero, List.set_cons_succ]
      have hm0 := ME.out
      clear hS0
      refine wpAnyH_done (by kernel_rfl) ?_ _
      refine sink_last rfl (fun K hK => ?_)
      refine wp_store_row 98 _ _ rfl mm _ rfl rfl 98 _ hm0 infoTr rfl (by simp [Value.oneCell']) ?_
      generalize hW9 : World.setRow _ _ _ = W9
      have HE := hid (jdE_end HX.out.low hm0 ML.out RC.out HCL.out hW9)
      clear hW9 hm0
      refine hK.out _ _ ?_
      clear hK K
      simp only [List.getElem_toArray, List.getElem_cons_succ, List.getElem_cons_zero, Act.put]
      go_wp2_with fail
      go_meet
      exact ⟨mm, ba, bc, rfl, HE⟩
    refine AllReadyH.cons rfl (fun K hK => ?_) AllReadyH.nil
    go_simp
    have hb : Below W0.heap.size W0 (W0.alloc (.cells #[.string ⟨#[]⟩, .int .i64 0, .int .i64 0, .int .i64 0, .int .i64 0, .slice none 0 0, .slice none 0 0, .slice none 0 0, .int .i64 0, .int .i64 0, .int .i64 0, .int .i64 0, .int .i64 0, .int .i64 0, .int .i64 0, .int .i64 0, .int .i64 0, .string ⟨#[]⟩, .int .i64 0, .int .i64 0, .int .i64 0, .int .i64 0, .string ⟨#[]⟩, .int .i64 0, .int .i64 0, .int .i64 0, .int .i64 0] 98)) := (Below.refl _ _).alloc (Nat.le_refl _) _
    have ME := hid (heap_alloc_new W0 (.cells #[.string ⟨#[]⟩, .int .i64 0, .int .i64 0, .int .i64 0, .int .i64 0, .slice none 0 0, .slice none 0 0, .slice none 0 0, .int .i64 0, .int .i64 0, .int .i64 0, .int .i64 0, .int .i64 0, .int .i64 0, .int .i64 0, .int .i64 0, .int .i64 0, .string ⟨#[]⟩, .int .i64 0, .int .i64 0, .int .i64 0, .int .i64 0, .string ⟨#[]⟩, .int .i64 0, .int .i64 0, .int .i64 0, .int .i64 0] 98))
    have ML := hid (show w.heap.size ≤ W0.heap.size from HX.out.low.size)
    generalize hW : (W0.alloc (.cells #[.string ⟨#[]⟩, .int .i64 0, .int .i64 0, .int .i64 0, .int .i64 0, .slice none 0 0, .slice none 0 0, .slice none 0 0, .int .i64 0, .int .i64 0, .int .i64 0, .int .i64 0, .int .i64 0, .int .i64 0, .int .i64 0, .int .i64 0, .int .i64 0, .string ⟨#[]⟩, .int .i64 0, .int .i64 0, .int .i64 0, .int .i64 0, .string ⟨#[]⟩, .int .i64 0, .int .i64 0, .int .i64 0, .int .i64 0] 98)) = W16 at *
    clear hW
    generalize hm : W0.heap.size = mm at ME ML ⊢
    have HX := hid (HX.out.keep hb)
    refine hK.out _ _ (rawJ HX.out) (fun hS0 => ?_)
    clear hK K
    (refine wpAnyH_ready (rs := [4]) (by kernel_rfl) (by simp) ?_)
    refine AllReadyH.cons rfl (fun K hK => ?_) AllReadyH.nil
    go_simp
    refine (HBA.out _ (HR.out _ HX.out.low)).mono ?_
    rintro e W17 ⟨u4, rfl, ho4, hb⟩
    have RB := hid (Rt.OwnL.rowI ho4 HBN.out)
    clear ho4
    have HX := hid (HX.out.keep hb)
    have ME := hid ((hb.block _ (lt_of_block ME.out)).trans ME.out)
    refine hK.out _ _ (rawJ HX.out) (fun hS0 => ?_)
    clear hK K
    (refine wpAnyH_ready (rs := [5]) (by kernel_rfl) (by simp) ?_)
    refine AllReadyH.cons rfl (fun K hK => ?_) AllReadyH.nil
    go_simp
    refine (HCU.out _ _ RB.out).mono ?_
    rintro e W18 ⟨u5, rfl, ho5, hb⟩
    obtain ⟨ba, bc, rfl⟩ := own_shapeP ho5
    rw [ivs_len] at ho5
    have RC := hid ho5
    clear ho5
    simp only [ivs_len]
    have HX := hid (HX.out.keep hb)
    have RB := hid (RB.out.keep hb)
    have ME := hid ((hb.block _ (lt_of_block ME.out)).trans ME.out)
    refine hK.out _ _ (rawJ HX.out) (fun hS0 => ?_)
    clear hK K
    refine wpAnyH_take (i := 11) (v := ?_) rfl (by kernel_rfl) (by kernel_rfl) (by kernel_rfl) (fun _ _ _ h => h) (Or.inl ⟨by rfl, ?_⟩) hS0 ?_
    rotate_left
    · intro w' hSw
      obtain _ := hSw
      go_simp
      try with_reducible rfl
    try simp only [Act.put]
    try simp only [List.setIfInBounds_toArray]
    try simp only [List.set_cons_zero, List.set_cons_succ]
    have hm0 := ME.out
    clear hS0
    refine wpAnyH_done (by kernel_rfl) ?_ _
    refine sink_last rfl (fun K hK => ?_)
    refine wp_store_row 98 _ _ rfl mm _ rfl rfl 98 _ hm0 infoTr rfl (by simp [Value.oneCell']) ?_
    generalize hW9 : World.setRow _ _ _ = W9
    have HE := hid (jdE_end HX.out.low hm0 ML.out RC.out HCL.out hW9)
    clear hW9 hm0
    refine hK.out _ _ ?_
    clear hK K
    simp only [List.getElem_toArray, List.getElem_cons_succ, List.getElem_cons_zero, Act.put]
    go_wp2_with fail
    go_meet
    exact ⟨mm, ba, bc, rfl, HE⟩
  case rest =>
    obtain ⟨mm, ba, bc, rfl, HE⟩ := hcut
    have HV2 := hid (HVD.out ba bc wc HE.out.low HE.out.row)
    have HM := hid HE.out.met
    have HLO := hid HE.out.low
    generalize hT : (#[.string s.pr, .int .i64 s.it, .int .i64 s.tm, .int .i64 s.tk, .int .i64 s.fl, .slice pa m pc, .slice va n vc, .slice ba (cutL (Rt.bathsL rd n)).length bc, .int .i64 t, .int .i64 fi, .int .i64 r, .int .i64 l, .int .i64 a, .int .i64 b, .int .i64 k, .int .i64 a2, .int .i64 b2, .string q.s, .int .i64 q.r, .int .i64 q.z, .int .i64 q.d, .int .i64 q.g, .string x.s, .int .i64 x.r, .int .i64 x.z, .int .i64 x.d, .int .i64 x.g] : Array Value) = T at *
    have HI := hid (show (Tryz.prog.info? 98).map (·.size) = some T.size by rw [← hT]; exact infoTr)
    clear hT HE HVD HX
    go_wp2_with (refine wpList_load_row rfl 98 _ rfl mm rfl 98 T (0, 0) _ HM.out Tryz.underlying98 rfl HI.out ?_)
    refine HV2.out.mono ?_
    rintro e w9 ⟨rfl, hb⟩
    have HLO := hid (bstep HLO.out HLO.out.size hb)
    clear hb
    go_wp2_with fail
    refine bodyPost_ret (v := .tuple #[.int .i64 jv, .int .i64 0]) (by simp [results, Tryz.results11, go_sem]) rfl ⟨rfl, HLO.out⟩
end Go.Proofs.YtihbjimnjhfpeaaGreat

/- Walk of enough and of a search's sterile: contracts, for a meter whose map stays. -/
namespace Go.Proofs.YtihbjimnjhfpeaaGreat
open Go.RowKit Go.Lib

/-- What the rate stands on says what the map at mb holds. -/
def Fix (I : World → Prop) (mb : Nat) : Prop := ∃ o : Obj, ∀ W, I W → W.heap[mb]? = some o
theorem Fix.low {I : World → Prop} {mb : Nat} {W W' : World} (h : Fix I mb) (h1 : I W) (h2 : I W') (hg : W.grownBy W' (some mb)) : Below W.heap.size W W' := by
  obtain ⟨o, ho⟩ := h
  refine ⟨hg.os, hg.tape, hg.output, hg.size, fun k hk => ?_⟩
  by_cases e : k = mb
  · subst e; rw [ho _ h1, ho _ h2]
  · exact hg.block k hk (fun h => e (Option.some.inj h))
/-- The sums of a dish are what is needed. -/
def enD (need : Int) (D : Dish) : Bool := decide (need ≤ minA (ivN D.2))
def RawEn (c : Cn) (need : Int) (F : Nat) (lb : Array Value) (D : Dish) (ua ub : Option Addr) (uc ud : Nat) (w W : World) : Prop :=
  W.cell? ⟨w.heap.size, 7, none⟩ = some (.int .i64 need) ∧ W.cell? ⟨w.heap.size + 1, 2, none⟩ = some (.slice ub D.2.length ud) ∧
  B2 w W 80 89 #[.int .i64 (c.R : Int), .int .i64 (c.L : Int), .int .i64 c.A, .int .i64 c.B, .int .i64 c.K, .int .i64 c.A2, .int .i64 c.B2, .int .i64 need, .func (.func F) #[] lb] #[.slice ua D.1.1.length uc, .bool D.1.2, .slice ub D.2.length ud] ∧ RowI W (.slice ub D.2.length ud) (ivN D.2)
theorem rawEn {c : Cn} {need : Int} {F : Nat} {lb : Array Value} {D : Dish} {ua ub : Option Addr} {uc ud : Nat} {w W : World} (h : B2 w W 80 89 #[.int .i64 (c.R : Int), .int .i64 (c.L : Int), .int .i64 c.A, .int .i64 c.B, .int .i64 c.K, .int .i64 c.A2, .int .i64 c.B2, .int .i64 need, .func (.func F) #[] lb] #[.slice ua D.1.1.length uc, .bool D.1.2, .slice ub D.2.length ud]) (hr : RowI W (.slice ub D.2.length ud) (ivN D.2)) : RawEn c need F lb D ua ub uc ud w W :=
  ⟨cell_of_row _ _ 7 _ _ _ h.one, cell_of_row _ _ 2 _ _ _ h.two, h, hr⟩
set_option maxRecDepth 20000 in
set_option maxHeartbeats 4000000 in
theorem enough_any (c : Cn) (need : Int) (F : Nat) (lb : Array Value) (D : Dish) (ua ub : Option Addr) (uc ud : Nat) (w : World) (h0 : 0 < D.2.length) (h1 : D.2.length ≤ 48) (hs : RowI w (.slice ub D.2.length ud) (ivN D.2)) :
    Calls Tryz.prog 145 #[.agg #[.int .i64 (c.R : Int), .int .i64 (c.L : Int), .int .i64 c.A, .int .i64 c.B, .int .i64 c.K, .int .i64 c.A2, .int .i64 c.B2, .int .i64 need, .func (.func F) #[] lb], .agg #[.slice ua D.1.1.length uc, .bool D.1.2, .slice ub D.2.length ud]] w fun e w' => e = .returned (.bool (enD need D)) ∧ Below w.heap.size w w' := by
  have HX := hid (b2_start (w := w) (T1 := 80) (T2 := 89) (A := #[.int .i64 (c.R : Int), .int .i64 (c.L : Int), .int .i64 c.A, .int .i64 c.B, .int .i64 c.K, .int .i64 c.A2, .int .i64 c.B2, .int .i64 need, .func (.func F) #[] lb]) (B := #[.slice ua D.1.1.length uc, .bool D.1.2, .slice ub D.2.length ud]))
  have HMN := hid (fun (W : World) (h : RowI W (.slice ub D.2.length ud) (ivN D.2)) => minA_any _ (ivN D.2) W h (by rw [ivN_len]; omega) (by rw [ivN_len]; omega))
  have HL := hid (fun W (g : Below w.heap.size w W) => hs.keep g)
  unfold enD
  generalize minA (ivN D.2) = mn at *
  clear hs h0 h1
  go_enter Tryz.func145, Tryz.ntmps145
  go_wp2_with fail
  have HL2 := hid (HL.out _ HX.out.low)
  refine wp_region_sink (S := RawEn c need F lb D ua ub uc ud w) 6 (by kernel_rfl) (by kernel_rfl) (by kernel_rfl) (by kernel_rfl) (rawEn (HX.out.keep (Below.refl _ _).drew) (HL2.out.keep (Below.refl _ _).drew)) (fun hS0 => ?_)
  refine wpAnyH_take (i := 0) (v := ?_) rfl (by kernel_rfl) (by kernel_rfl) (by kernel_rfl) (fun _ _ _ h => h) (Or.inl ⟨by rfl, ?_⟩) hS0 ?_
  rotate_left
  · intro w' hSw
    obtain ⟨q0, q1, _⟩ := hSw
    go_simp
    try with_reducible rfl
  try simp only [Act.put]
  try simp only [List.setIfInBounds_toArray]
  try simp only [List.set_cons_zero, List.set_cons_succ]
  refine wpAnyH_take (i := 1) (v := ?_) rfl (by kernel_rfl) (by kernel_rfl) (by kernel_rfl) (fun _ _ _ h => h) (Or.inl ⟨by rfl, ?_⟩) hS0 ?_
  rotate_left
  · intro w' hSw
    obtain ⟨q0, q1, _⟩ := hSw
    go_simp
    try with_reducible rfl
  try simp only [Act.put]
  try simp only [List.setIfInBounds_toArray]
  try simp only [List.set_cons_zero, List.set_cons_succ]
  refine wpAnyH_take (i := 3) (v := ?_) rfl (by kernel_rfl) (by kernel_rfl) (by kernel_rfl) (fun _ _ _ h => h) (Or.inl ⟨by rfl, ?_⟩) hS0 ?_
  rotate_left
  · intro w' hSw
    obtain ⟨q0, q1, _⟩ := hSw
    go_simp
    try with_reducible rfl
  try simp only [Act.put]
  try simp only [List.setIfInBounds_toArray]
  try simp only [List.set_cons_zero, List.set_cons_succ]
  refine wpAnyH_take (i := 4) (v := ?_) rfl (by kernel_rfl) (by kernel_rfl) (by kernel_rfl) (fun _ _ _ h => h) (Or.inl ⟨by rfl, ?_⟩) hS0 ?_
  rotate_left
  · intro w' hSw
    obtain ⟨q0, q1, _⟩ := hSw
    go_simp
    try with_reducible rfl
  try simp only [Act.put]
  try simp only [List.setIfInBounds_toArray]
  try simp only [List.set_cons_zero, List.set_cons_succ]
  (refine wpAnyH_ready (rs := [2]) (by kernel_rfl) (by simp) ?_)
  refine AllReadyH.cons rfl (fun K hK => ?_) AllReadyH.nil
  go_simp
  refine (HMN.out _ hS0.2.2.2).mono ?_
  rintro e w5 ⟨rfl, rfl⟩
  (refine hK.out _ _ (hS0) (fun hS1 => ?_); clear hK K)
  refine wpAnyH_take (i := 5) (v := ?_) rfl (by kernel_rfl) (by kernel_rfl) (by kernel_rfl) (fun _ _ _ h => h) (Or.inl ⟨by rfl, ?_⟩) hS1 ?_
  rotate_left
  · intro w' hSw
    obtain ⟨q0, q1, _⟩ := hSw
    go_simp
    try with_reducible rfl
  try simp only [Act.put]
  try simp only [List.setIfInBounds_toArray]
  try simp only [List.set_cons_zero, List.set_cons_succ]
  refine wpAnyH_done (by kernel_rfl) ?_ _
  have HX9 := hid hS1.2.2.1
  refine sink_last rfl (fun K hK => ?_)
  go_simp
  refine hK.out _ _ ?_
  clear hK K
  go_wp2_with fail
  refine bodyPost_ret (v := .bool (decide (need ≤ mn))) (by simp [results, Tryz.results145, go_sem]) rfl ⟨rfl, HX9.out.low⟩

/-- The dish after n ticks in a bath. -/
def afN (c : Cn) (f : Int → Nat) (D : Dish) (b : Int) (n : Nat) : Dish := dishR c f D (List.replicate n b)
theorem afN_zero (c : Cn) (f : Int → Nat) (D : Dish) (b : Int) : afN c f D b 0 = D := dishR_nil c f D
theorem afN_succ (c : Cn) (f : Int → Nat) (D : Dish) (b : Int) (n : Nat) : afN c f D b (n + 1) = dishT c f (afN c f D b n) b := by
  unfold afN
  have h := dishR_succ c f D (List.replicate (n + 1) b) n (by simp)
  simpa [List.take_replicate] using h
theorem afN_good {c : Cn} {f : Int → Nat} {D : Dish} {b : Int} (n : Nat) (hv : c.Ok) (hG : Good c D) (hb : okT b = true) : Good c (afN c f D b n) :=
  hG.run hv (by simp [okL, hb])
theorem afN_bd {c : Cn} {f : Int → Nat} {D : Dish} {b lo hi : Int} (n : Nat) (hv : c.Ok) (hG : Good c D) (hb : lo ≤ b ∧ b ≤ hi) (hD : ∀ t ∈ D.1.1, lo ≤ t ∧ t ≤ hi) : ∀ t ∈ (afN c f D b n).1.1, lo ≤ t ∧ t ≤ hi := by
  unfold afN
  rw [dishR_body]
  exact runS_bd hv _ _ (bodyV_iff.1 hG.body).1 hD (fun x hx => by have := List.eq_of_mem_replicate hx; omega)
end Go.Proofs.YtihbjimnjhfpeaaGreat
