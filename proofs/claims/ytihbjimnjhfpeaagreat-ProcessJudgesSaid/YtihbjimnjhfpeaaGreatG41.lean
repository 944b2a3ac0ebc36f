/- Texts of this seat, one behind the other. -/
import Derived.Test.YtihbjimnjhfpeaaGreatPib
import Derived.Test.YtihbjimnjhfpeaaGreatPch
import Derived.Test.YtihbjimnjhfpeaaGreatG21
/- Walk of the reference's Judge: contract. -/
namespace Go.Proofs.YtihbjimnjhfpeaaGreat
open Go.RowKit Go.Lib

set_option maxRecDepth 100000 in
set_option maxHeartbeats 8000000 in
theorem xjudge_err (s : Sch) (pa : Option Addr) (m pc : Nat) (st : Nat → Rt.St) (va : Option Addr) (n vc : Nat) (rd : Nat → Rt.Rd) (t fi : Int) (r l a b k a2 b2 : Int) (q x : Kl) (w : World) (hp : Rt.RowP w (.slice pa m pc) m st) (hr : Rt.RowR w (.slice va n vc) n rd) (hsp : s.pr.size ≤ maxLen) (hs : q.s.size ≤ maxLen) (hx : x.s.size ≤ maxLen) (hne : judE s (Rt.recB m st n rd) ((q.vB && x.vB) && canB r l a b k a2 b2) t fi ≠ 0) :
    Calls Tryz.prog 12 #[.agg #[.string s.pr, .int .i64 s.it, .int .i64 s.tm, .int .i64 s.tk, .int .i64 s.fl], .slice pa m pc, .slice va n vc, .int .i64 t, .int .i64 fi, .agg #[.int .i64 r, .int .i64 l, .int .i64 a, .int .i64 b, .int .i64 k, .int .i64 a2, .int .i64 b2], .agg #[.string q.s, .int .i64 q.r, .int .i64 q.z, .int .i64 q.d, .int .i64 q.g], .agg #[.string x.s, .int .i64 x.r, .int .i64 x.z, .int .i64 x.d, .int .i64 x.g]] w (JudP 0 (judE s (Rt.recB m st n rd) ((q.vB && x.vB) && canB r l a b k a2 b2) t fi) w) := by
  have HX := hid (b4_start (w := w) (T1 := 38) (T2 := 23) (T3 := 25) (T4 := 25) (A := #[.string s.pr, .int .i64 s.it, .int .i64 s.tm, .int .i64 s.tk, .int .i64 s.fl]) (B := #[.int .i64 r, .int .i64 l, .int .i64 a, .int .i64 b, .int .i64 k, .int .i64 a2, .int .i64 b2]) (C := #[.string q.s, .int .i64 q.r, .int .i64 q.z, .int .i64 q.d, .int .i64 q.g]) (E := #[.string x.s, .int .i64 x.r, .int .i64 x.z, .int .i64 x.d, .int .i64 x.g]))
  have HP := hid (fun w1 (g : Below w.heap.size w w1) => (show Rt.RowP w1 (.slice pa m pc) m st from Rt.RowT.keep hp g))
  have HR := hid (fun w1 (g : Below w.heap.size w w1) => hr.keep g)
  have HSC := hid (fun W => xvs_any s W hsp)
  have HRE := hid (fun W h1 h2 => Rt.xrec_any (.slice pa m pc) m st (.slice va n vc) n rd W h1 h2)
  have HCA := hid (fun W => rvcan_any r l a b k a2 b2 W)
  have HKQ : Hid (∀ W, Calls Tryz.prog 18 #[.agg #[.string q.s, .int .i64 q.r, .int .i64 q.z, .int .i64 q.d, .int .i64 q.g]] W fun e w' => e = .returned (.bool q.vB) ∧ Below W.heap.size W w') := fun W => Lt.rvalid_any q.s q.r q.z q.d q.g W hs
  have HKX : Hid (∀ W, Calls Tryz.prog 18 #[.agg #[.string x.s, .int .i64 x.r, .int .i64 x.z, .int .i64 x.d, .int .i64 x.g]] W fun e w' => e = .returned (.bool x.vB) ∧ Below W.heap.size W w') := fun W => Lt.rvalid_any x.s x.r x.z x.d x.g W hx
  have HT : Hid (∀ W, Calls Tryz.prog 36 #[.int .i64 t] W fun e w' => e = .returned (.bool (okT t)) ∧ W = w') := fun W => warm_any t W
  have HF : Hid (∀ W, Calls Tryz.prog 48 #[.int .i64 fi, .int .i64 0, .int .i64 1000000] W fun e w' => e = .returned (.bool (inB fi 0 1000000)) ∧ W = w') := fun W => x4within_any fi 0 1000000 W
  have HE := hid (show ∀ sb rb cb kb xb tb fb, s.ok = sb → Rt.recB m st n rd = rb → canB r l a b k a2 b2 = cb → q.vB = kb → x.vB = xb → okT t = tb → inB fi 0 1000000 = fb → judE s (Rt.recB m st n rd) ((q.vB && x.vB) && canB r l a b k a2 b2) t fi = if ((sb && rb) && ((kb && xb) && cb)) = false then 1 else if (tb && fb) = false then 7 else 0 from fun _ _ _ _ _ _ _ h1 h2 h3 h4 h5 h6 h7 => by unfold judE; rw [h1, h2, h3, h4, h5, h6, h7])
  obtain ⟨je, hje⟩ : ∃ y, y = judE s (Rt.recB m st n rd) ((q.vB && x.vB) && canB r l a b k a2 b2) t fi := ⟨_, rfl⟩
  rw [← hje] at HE hne ⊢
  clear hje hp hr hs hx hsp
  cases h1 : s.ok
  · rw [h1] at HSC
    have HJ := hid (HE.out false _ _ _ _ _ _ h1 rfl rfl rfl rfl rfl rfl)
    rw [show je = 1 from HJ.out.trans (by simp)]
    clear HE hne HJ
    obtain ⟨⟨s0, s1, s2, s3, s4⟩, ⟨x0, x1, x2, x3, x4, x5, x6⟩, ⟨y0, y1, y2, y3, y4⟩, ⟨z0, z1, z2, z3, z4⟩, _⟩ := rawJ HX.out
    go_enter Tryz.func12, Tryz.ntmps12
    go_wp2_with fail
    refine (HSC.out _).mono ?_
    rintro e w1 ⟨rfl, hb⟩
    have HX := hid (HX.out.keep hb)
    clear hb
    clear s0 s1 s2 s3 s4 x0 x1 x2 x3 x4 x5 x6 y0 y1 y2 y3 y4 z0 z1 z2 z3 z4
    go_wp2_with fail
    refine bodyPost_ret (v := .tuple #[.int .i64 0, .int .i64 1]) (by simp [results, Tryz.results12, go_sem]) rfl ⟨rfl, HX.out.low⟩
  rw [h1] at HSC
  cases h2 : Rt.recB m st n rd
  · rw [h2] at HRE
    have HJ := hid (HE.out true false _ _ _ _ _ h1 h2 rfl rfl rfl rfl rfl)
    rw [show je = 1 from HJ.out.trans (by simp)]
    clear HE hne HJ
    obtain ⟨⟨s0, s1, s2, s3, s4⟩, ⟨x0, x1, x2, x3, x4, x5, x6⟩, ⟨y0, y1, y2, y3, y4⟩, ⟨z0, z1, z2, z3, z4⟩, _⟩ := rawJ HX.out
    go_enter Tryz.func12, Tryz.ntmps12
    go_wp2_with fail
    refine (HSC.out _).mono ?_
    rintro e w1 ⟨rfl, hb⟩
    have HX := hid (HX.out.keep hb)
    clear hb
    clear s0 s1 s2 s3 s4 x0 x1 x2 x3 x4 x5 x6 y0 y1 y2 y3 y4 z0 z1 z2 z3 z4
    obtain ⟨⟨s0, s1, s2, s3, s4⟩, ⟨x0, x1, x2, x3, x4, x5, x6⟩, ⟨y0, y1, y2, y3, y4⟩, ⟨z0, z1, z2, z3, z4⟩, _⟩ := rawJ HX.out
    go_wp2_with fail
    refine (HRE.out _ (HP.out _ HX.out.low) (HR.out _ HX.out.low)).mono ?_
    rintro e w2 ⟨rfl, hb⟩
    have HX := hid (HX.out.keep hb)
    clear hb
    clear s0 s1 s2 s3 s4 x0 x1 x2 x3 x4 x5 x6 y0 y1 y2 y3 y4 z0 z1 z2 z3 z4
    go_wp2_with fail
    refine bodyPost_ret (v := .tuple #[.int .i64 0, .int .i64 1]) (by simp [results, Tryz.results12, go_sem]) rfl ⟨rfl, HX.out.low⟩
  rw [h2] at HRE
  cases h3 : canB r l a b k a2 b2
  · rw [h3] at HCA
    have HJ := hid (HE.out true true false _ _ _ _ h1 h2 h3 rfl rfl rfl rfl)
    rw [show je = 1 from HJ.out.trans (by simp)]
    clear HE hne HJ
    obtain ⟨⟨s0, s1, s2, s3, s4⟩, ⟨x0, x1, x2, x3, x4, x5, x6⟩, ⟨y0, y1, y2, y3, y4⟩, ⟨z0, z1, z2, z3, z4⟩, _⟩ := rawJ HX.out
    go_enter Tryz.func12, Tryz.ntmps12
    go_wp2_with fail
    refine (HSC.out _).mono ?_
    rintro e w1 ⟨rfl, hb⟩
    have HX := hid (HX.out.keep hb)
    clear hb
    clear s0 s1 s2 s3 s4 x0 x1 x2 x3 x4 x5 x6 y0 y1 y2 y3 y4 z0 z1 z2 z3 z4
    obtain ⟨⟨s0, s1, s2, s3, s4⟩, ⟨x0, x1, x2, x3, x4, x5, x6⟩, ⟨y0, y1, y2, y3, y4⟩, ⟨z0, z1, z2, z3, z4⟩, _⟩ := rawJ HX.out
    go_wp2_with fail
    refine (HRE.out _ (HP.out _ HX.out.low) (HR.out _ HX.out.low)).mono ?_
    rintro e w2 ⟨rfl, hb⟩
    have HX := hid (HX.out.keep hb)
    clear hb
    clear s0 s1 s2 s3 s4 x0 x1 x2 x3 x4 x5 x6 y0 y1 y2 y3 y4 z0 z1 z2 z3 z4
    obtain ⟨⟨s0, s1, s2, s3, s4⟩, ⟨x0, x1, x2, x3, x4, x5, x6⟩, ⟨y0, y1, y2, y3, y4⟩, ⟨z0, z1, z2, z3, z4⟩, _⟩ := rawJ HX.out
    go_wp2_with fail
    refine (HCA.out _).mono ?_
    rintro e w3 ⟨rfl, hb⟩
    have HX := hid (HX.out.keep hb)
    clear hb
    clear s0 s1 s2 s3 s4 x0 x1 x2 x3 x4 x5 x6 y0 y1 y2 y3 y4 z0 z1 z2 z3 z4
    go_wp2_with fail
    refine bodyPost_ret (v := .tuple #[.int .i64 0, .int .i64 1]) (by simp [results, Tryz.results12, go_sem]) rfl ⟨rfl, HX.out.low⟩
  rw [h3] at HCA
  cases h4 : q.vB
  · rw [h4] at HKQ
    have HJ := hid (HE.out true true true false _ _ _ h1 h2 h3 h4 rfl rfl rfl)
    rw [show je = 1 from HJ.out.trans (by simp)]
    clear HE hne HJ
    obtain ⟨⟨s0, s1, s2, s3, s4⟩, ⟨x0, x1, x2, x3, x4, x5, x6⟩, ⟨y0, y1, y2, y3, y4⟩, ⟨z0, z1, z2, z3, z4⟩, _⟩ := rawJ HX.out
    go_enter Tryz.func12, Tryz.ntmps12
    go_wp2_with fail
    refine (HSC.out _).mono ?_
    rintro e w1 ⟨rfl, hb⟩
    have HX := hid (HX.out.keep hb)
    clear hb
    clear s0 s1 s2 s3 s4 x0 x1 x2 x3 x4 x5 x6 y0 y1 y2 y3 y4 z0 z1 z2 z3 z4
    obtain ⟨⟨s0, s1, s2, s3, s4⟩, ⟨x0, x1, x2, x3, x4, x5, x6⟩, ⟨y0, y1, y2, y3, y4⟩, ⟨z0, z1, z2, z3, z4⟩, _⟩ := rawJ HX.out
    go_wp2_with fail
    refine (HRE.out _ (HP.out _ HX.out.low) (HR.out _ HX.out.low)).mono ?_
    rintro e w2 ⟨rfl, hb⟩
    have HX := hid (HX.out.keep hb)
    clear hb
    clear s0 s1 s2 s3 s4 x0 x1 x2 x3 x4 x5 x6 y0 y1 y2 y3 y4 z0 z1 z2 z3 z4
    obtain ⟨⟨s0, s1, s2, s3, s4⟩, ⟨x0, x1, x2, x3, x4, x5, x6⟩, ⟨y0, y1, y2, y3, y4⟩, ⟨z0, z1, z2, z3, z4⟩, _⟩ := rawJ HX.out
    go_wp2_with fail
    refine (HCA.out _).mono ?_
    rintro e w3 ⟨rfl, hb⟩
    have HX := hid (HX.out.keep hb)
    clear hb
    clear s0 s1 s2 s3 s4 x0 x1 x2 x3 x4 x5 x6 y0 y1 y2 y3 y4 z0 z1 z2 z3 z4
    obtain ⟨⟨s0, s1, s2, s3, s4⟩, ⟨x0, x1, x2, x3, x4, x5, x6⟩, ⟨y0, y1, y2, y3, y4⟩, ⟨z0, z1, z2, z3, z4⟩, _⟩ := rawJ HX.out
    go_wp2_with fail
    refine (HKQ.out _).mono ?_
    rintro e w4 ⟨rfl, hb⟩
    have HX := hid (HX.out.keep hb)
    clear hb
    clear s0 s1 s2 s3 s4 x0 x1 x2 x3 x4 x5 x6 y0 y1 y2 y3 y4 z0 z1 z2 z3 z4
    go_wp2_with fail
    refine bodyPost_ret (v := .tuple #[.int .i64 0, .int .i64 1]) (by simp [results, Tryz.results12, go_sem]) rfl ⟨rfl, HX.out.low⟩
  rw [h4] at HKQ
  cases h5 : x.vB
  · rw [h5] at HKX
    have HJ := hid (HE.out true true true true false _ _ h1 h2 h3 h4 h5 rfl rfl)
    rw [show je = 1 from HJ.out.trans (by simp)]
    clear HE hne HJ
    obtain ⟨⟨s0, s1, s2, s3, s4⟩, ⟨x0, x1, x2, x3, x4, x5, x6⟩, ⟨y0, y1, y2, y3, y4⟩, ⟨z0, z1, z2, z3, z4⟩, _⟩ := rawJ HX.out
    go_enter Tryz.func12, Tryz.ntmps12
    go_wp2_with fail
    refine (HSC.out _).mono ?_
    rintro e w1 ⟨rfl, hb⟩
    have HX := hid (HX.out.keep hb)
    clear hb
    clear s0 s1 s2 s3 s4 x0 x1 x2 x3 x4 x5 x6 y0 y1 y2 y3 y4 z0 z1 z2 z3 z4
    obtain ⟨⟨s0, s1, s2, s3, s4⟩, ⟨x0, x1, x2, x3, x4, x5, x6⟩, ⟨y0, y1, y2, y3, y4⟩, ⟨z0, z1, z2, z3, z4⟩, _⟩ := rawJ HX.out
    go_wp2_with fail
    refine (HRE.out _ (HP.out _ HX.out.low) (HR.out _ HX.out.low)).mono ?_
    rintro e w2 ⟨rfl, hb⟩
    have HX := hid (HX.out.keep hb)
    clear hb
    clear s0 s1 s2 s3 s4 x0 x1 x2 x3 x4 x5 x6 y0 y1 y2 y3 y4 z0 z1 z2 z3 z4
    obtain ⟨⟨s0, s1, s2, s3, s4⟩, ⟨x0, x1, x2, x3, x4, x5, x6⟩, ⟨y0, y1, y2, y3, y4⟩, ⟨z0, z1, z2, z3, z4⟩, _⟩ := rawJ HX.out
    go_wp2_with fail
    refine (HCA.out _).mono ?_
    rintro e w3 ⟨rfl, hb⟩
    have HX := hid (HX.out.keep hb)
    clear hb
    clear s0 s1 s2 s3 s4 x0 x1 x2 x3 x4 x5 x6 y0 y1 y2 y3 y4 z0 z1 z2 z3 z4
    obtain ⟨⟨s0, s1, s2, s3, s4⟩, ⟨x0, x1, x2, x3, x4, x5, x6⟩, ⟨y0, y1, y2, y3, y4⟩, ⟨z0, z1, z2, z3, z4⟩, _⟩ := rawJ HX.out
    go_wp2_with fail
    refine (HKQ.out _).mono ?_
    rintro e w4 ⟨rfl, hb⟩
    have HX := hid (HX.out.keep hb)
    clear hb
    clear s0 s1 s2 s3 s4 x0 x1 x2 x3 x4 x5 x6 y0 y1 y2 y3 y4 z0 z1 z2 z3 z4
    obtain ⟨⟨s0, s1, s2, s3, s4⟩, ⟨x0, x1, x2, x3, x4, x5, x6⟩, ⟨y0, y1, y2, y3, y4⟩, ⟨z0, z1, z2, z3, z4⟩, _⟩ := rawJ HX.out
    go_wp2_with fail
    refine (HKX.out _).mono ?_
    rintro e w5 ⟨rfl, hb⟩
    have HX := hid (HX.out.keep hb)
    clear hb
    clear s0 s1 s2 s3 s4 x0 x1 x2 x3 x4 x5 x6 y0 y1 y2 y3 y4 z0 z1 z2 z3 z4
    go_wp2_with fail
    refine bodyPost_ret (v := .tuple #[.int .i64 0, .int .i64 1]) (by simp [results, Tryz.results12, go_sem]) rfl ⟨rfl, HX.out.low⟩
  rw [h5] at HKX
  cases h6 : okT t
  · rw [h6] at HT
    have HJ := hid (HE.out true true true true true false _ h1 h2 h3 h4 h5 h6 rfl)
    rw [show je = 7 from HJ.out.trans (by simp)]
    clear HE hne HJ
    obtain ⟨⟨s0, s1, s2, s3, s4⟩, ⟨x0, x1, x2, x3, x4, x5, x6⟩, ⟨y0, y1, y2, y3, y4⟩, ⟨z0, z1, z2, z3, z4⟩, _⟩ := rawJ HX.out
    go_enter Tryz.func12, Tryz.ntmps12
    go_wp2_with fail
    refine (HSC.out _).mono ?_
    rintro e w1 ⟨rfl, hb⟩
    have HX := hid (HX.out.keep hb)
    clear hb
    clear s0 s1 s2 s3 s4 x0 x1 x2 x3 x4 x5 x6 y0 y1 y2 y3 y4 z0 z1 z2 z3 z4
    obtain ⟨⟨s0, s1, s2, s3, s4⟩, ⟨x0, x1, x2, x3, x4, x5, x6⟩, ⟨y0, y1, y2, y3, y4⟩, ⟨z0, z1, z2, z3, z4⟩, _⟩ := rawJ HX.out
    go_wp2_with fail
    refine (HRE.out _ (HP.out _ HX.out.low) (HR.out _ HX.out.low)).mono ?_
    rintro e w2 ⟨rfl, hb⟩
    have HX := hid (HX.out.keep hb)
    clear hb
    clear s0 s1 s2 s3 s4 x0 x1 x2 x3 x4 x5 x6 y0 y1 y2 y3 y4 z0 z1 z2 z3 z4
    obtain ⟨⟨s0, s1, s2, s3, s4⟩, ⟨x0, x1, x2, x3, x4, x5, x6⟩, ⟨y0, y1, y2, y3, y4⟩, ⟨z0, z1, z2, z3, z4⟩, _⟩ := rawJ HX.out
    go_wp2_with fail
    refine (HCA.out _).mono ?_
    rintro e w3 ⟨rfl, hb⟩
    have HX := hid (HX.out.keep hb)
    clear hb
    clear s0 s1 s2 s3 s4 x0 x1 x2 x3 x4 x5 x6 y0 y1 y2 y3 y4 z0 z1 z2 z3 z4
    obtain ⟨⟨s0, s1, s2, s3, s4⟩, ⟨x0, x1, x2, x3, x4, x5, x6⟩, ⟨y0, y1, y2, y3, y4⟩, ⟨z0, z1, z2, z3, z4⟩, _⟩ := rawJ HX.out
    go_wp2_with fail
    refine (HKQ.out _).mono ?_
    rintro e w4 ⟨rfl, hb⟩
    have HX := hid (HX.out.keep hb)
    clear hb
    clear s0 s1 s2 s3 s4 x0 x1 x2 x3 x4 x5 x6 y0 y1 y2 y3 y4 z0 z1 z2 z3 z4
    obtain ⟨⟨s0, s1, s2, s3, s4⟩, ⟨x0, x1, x2, x3, x4, x5, x6⟩, ⟨y0, y1, y2, y3, y4⟩, ⟨z0, z1, z2, z3, z4⟩, _⟩ := rawJ HX.out
    go_wp2_with fail
    refine (HKX.out _).mono ?_
    rintro e w5 ⟨rfl, hb⟩
    have HX := hid (HX.out.keep hb)
    clear hb
    clear s0 s1 s2 s3 s4 x0 x1 x2 x3 x4 x5 x6 y0 y1 y2 y3 y4 z0 z1 z2 z3 z4
    go_wp2_with fail
    refine (HT.out _).mono ?_
    rintro e w6 ⟨rfl, rfl⟩
    go_wp2_with fail
    refine bodyPost_ret (v := .tuple #[.int .i64 0, .int .i64 7]) (by simp [results, Tryz.results12, go_sem]) rfl ⟨rfl, HX.out.low⟩
  rw [h6] at HT
  cases h7 : inB fi 0 1000000
  · rw [h7] at HF
    have HJ := hid (HE.out true true true true true true false h1 h2 h3 h4 h5 h6 h7)
    rw [show je = 7 from HJ.out.trans (by simp)]
    clear HE hne HJ
    obtain ⟨⟨s0, s1, s2, s3, s4⟩, ⟨x0, x1, x2, x3, x4, x5, x6⟩, ⟨y0, y1, y2, y3, y4⟩, ⟨z0, z1, z2, z3, z4⟩, _⟩ := rawJ HX.out
    go_enter Tryz.func12, Tryz.ntmps12
    go_wp2_with fail
    refine (HSC.out _).mono ?_
    rintro e w1 ⟨rfl, hb⟩
    have HX := hid (HX.out.keep hb)
    clear hb
    clear s0 s1 s2 s3 s4 x0 x1 x2 x3 x4 x5 x6 y0 y1 y2 y3 y4 z0 z1 z2 z3 z4
    obtain ⟨⟨s0, s1, s2, s3, s4⟩, ⟨x0, x1, x2, x3, x4, x5, x6⟩, ⟨y0, y1, y2, y3, y4⟩, ⟨z0, z1, z2, z3, z4⟩, _⟩ := rawJ HX.out
    go_wp2_with fail
    refine (HRE.out _ (HP.out _ HX.out.low) (HR.out _ HX.out.low)).mono ?_
    rintro e w2 ⟨rfl, hb⟩
    have HX := hid (HX.out.keep hb)
    clear hb
    clear s0 s1 s2 s3 s4 x0 x1 x2 x3 x4 x5 x6 y0 y1 y2 y3 y4 z0 z1 z2 z3 z4
    obtain ⟨⟨s0, s1, s2, s3, s4⟩, ⟨x0, x1, x2, x3, x4, x5, x6⟩, ⟨y0, y1, y2, y3, y4⟩, ⟨z0, z1, z2, z3, z4⟩, _⟩ := rawJ HX.out
    go_wp2_with fail
    refine (HCA.out _).mono ?_
    rintro e w3 ⟨rfl, hb⟩
    have HX := hid (HX.out.keep hb)
    clear hb
    clear s0 s1 s2 s3 s4 x0 x1 x2 x3 x4 x5 x6 y0 y1 y2 y3 y4 z0 z1 z2 z3 z4
    obtain ⟨⟨s0, s1, s2, s3, s4⟩, ⟨x0, x1, x2, x3, x4, x5, x6⟩, ⟨y0, y1, y2, y3, y4⟩, ⟨z0, z1, z2, z3, z4⟩, _⟩ := rawJ HX.out
    go_wp2_with fail
    refine (HKQ.out _).mono ?_
    rintro e w4 ⟨rfl, hb⟩
    have HX := hid (HX.out.keep hb)
    clear hb
    clear s0 s1 s2 s3 s4 x0 x1 x2 x3 x4 x5 x6 y0 y1 y2 y3 y4 z0 z1 z2 z3 z4
    obtain ⟨⟨s0, s1, s2, s3, s4⟩, ⟨x0, x1, x2, x3, x4, x5, x6⟩, ⟨y0, y1, y2, y3, y4⟩, ⟨z0, z1, z2, z3, z4⟩, _⟩ := rawJ HX.out
    go_wp2_with fail
    refine (HKX.out _).mono ?_
    rintro e w5 ⟨rfl, hb⟩
    have HX := hid (HX.out.keep hb)
    clear hb
    clear s0 s1 s2 s3 s4 x0 x1 x2 x3 x4 x5 x6 y0 y1 y2 y3 y4 z0 z1 z2 z3 z4
    go_wp2_with fail
    refine (HT.out _).mono ?_
    rintro e w6 ⟨rfl, rfl⟩
    go_wp2_with fail
    refine (HF.out _).mono ?_
    rintro e w7 ⟨rfl, rfl⟩
    go_wp2_with fail
    refine bodyPost_ret (v := .tuple #[.int .i64 0, .int .i64 7]) (by simp [results, Tryz.results12, go_sem]) rfl ⟨rfl, HX.out.low⟩
  rw [h7] at HF
  exact absurd (HE.out _ _ _ _ _ _ _ h1 h2 h3 h4 h5 h6 h7) hne
set_option maxRecDepth 100000 in
set_option maxHeartbeats 16000000 in
theorem xjudge_ok (s : Sch) (pa : Option Addr) (m pc : Nat) (st : Nat → Rt.St) (va : Option Addr) (n vc : Nat) (rd : Nat → Rt.Rd) (t fi : Int) (r l a b k a2 b2 : Int) (q x : Kl) (w : World) (hp : Rt.RowP w (.slice pa m pc) m st) (hr : Rt.RowR w (.slice va n vc) n rd) (hsp : s.pr.size ≤ maxLen) (hs : q.s.size ≤ maxLen) (hx : x.s.size ≤ maxLen) (h0 : judE s (Rt.recB m st n rd) ((q.vB && x.vB) && canB r l a b k a2 b2) t fi = 0) {vb : Bool} {ve : Int} (hVE : Rt.VentV m st n rd vb ve) :
    Calls Tryz.prog 12 #[.agg #[.string s.pr, .int .i64 s.it, .int .i64 s.tm, .int .i64 s.tk, .int .i64 s.fl], .slice pa m pc, .slice va n vc, .int .i64 t, .int .i64 fi, .agg #[.int .i64 r, .int .i64 l, .int .i64 a, .int .i64 b, .int .i64 k, .int .i64 a2, .int .i64 b2], .agg #[.string q.s, .int .i64 q.r, .int .i64 q.z, .int .i64 q.d, .int .i64 q.g], .agg #[.string x.s, .int .i64 x.r, .int .i64 x.z, .int .i64 x.d, .int .i64 x.g]] w (JudP (judV s m st n rd vb t fi r l a b k a2 b2 q x) 0 w) := by
  have hall : s.ok = true ∧ Rt.recB m st n rd = true ∧ ((q.vB && x.vB) && canB r l a b k a2 b2) = true ∧ okT t = true ∧ inB fi 0 1000000 = true := by
    unfold judE at h0
    split at h0
    · cases h0
    · split at h0
      · cases h0
      · rename_i g1 g2
        simp only [Bool.not_eq_false, Bool.and_eq_true] at g1 g2
        exact ⟨g1.1.1, g1.1.2, by simpa using g1.2, g2.1, g2.2⟩
  obtain ⟨g1, g2, g3, g4, g5⟩ := hall
  have hn2 : n ≤ 2000 := (Rt.rec_step g2).1
  simp only [Bool.and_eq_true] at g3
  obtain ⟨⟨g6, g7⟩, g8⟩ := g3
  have HX := hid (b4_start (w := w) (T1 := 38) (T2 := 23) (T3 := 25) (T4 := 25) (A := #[.string s.pr, .int .i64 s.it, .int .i64 s.tm, .int .i64 s.tk, .int .i64 s.fl]) (B := #[.int .i64 r, .int .i64 l, .int .i64 a, .int .i64 b, .int .i64 k, .int .i64 a2, .int .i64 b2]) (C := #[.string q.s, .int .i64 q.r, .int .i64 q.z, .int .i64 q.d, .int .i64 q.g]) (E := #[.string x.s, .int .i64 x.r, .int .i64 x.z, .int .i64 x.d, .int .i64 x.g]))
  have HP := hid (fun w1 (g : Below w.heap.size w w1) => (show Rt.RowP w1 (.slice pa m pc) m st from Rt.RowT.keep hp g))
  have HR := hid (fun w1 (g : Below w.heap.size w w1) => hr.keep g)
  have HSC := hid (fun W => xvs_any s W hsp)
  have HRE := hid (fun W h1 h2 => Rt.xrec_any (.slice pa m pc) m st (.slice va n vc) n rd W h1 h2)
  have HCA := hid (fun W => rvcan_any r l a b k a2 b2 W)
  have HKQ : Hid (∀ W, Calls Tryz.prog 18 #[.agg #[.string q.s, .int .i64 q.r, .int .i64 q.z, .int .i64 q.d, .int .i64 q.g]] W fun e w' => e = .returned (.bool q.vB) ∧ Below W.heap.size W w') := fun W => Lt.rvalid_any q.s q.r q.z q.d q.g W hs
  have HKX : Hid (∀ W, Calls Tryz.prog 18 #[.agg #[.string x.s, .int .i64 x.r, .int .i64 x.z, .int .i64 x.d, .int .i64 x.g]] W fun e w' => e = .returned (.bool x.vB) ∧ Below W.heap.size W w') := fun W => Lt.rvalid_any x.s x.r x.z x.d x.g W hx
  have HT : Hid (∀ W, Calls Tryz.prog 36 #[.int .i64 t] W fun e w' => e = .returned (.bool (okT t)) ∧ W = w') := fun W => warm_any t W
  have HF : Hid (∀ W, Calls Tryz.prog 48 #[.int .i64 fi, .int .i64 0, .int .i64 1000000] W fun e w' => e = .returned (.bool (inB fi 0 1000000)) ∧ W = w') := fun W => x4within_any fi 0 1000000 W
  rw [g1] at HSC
  rw [g2] at HRE
  rw [g8] at HCA
  rw [g6] at HKQ
  rw [g7] at HKX
  rw [g4] at HT
  rw [g5] at HF
  have HVE := hid hVE
  have HG2 := hid g2
  have HVT := hid (fun W h1 h2 => Rt.xvent_any (.slice pa m pc) m st (.slice va n vc) n rd W h1 h2)
  have HWH := hid (fun W h1 h2 => Rt.xwhole_any (.slice pa m pc) m st (.slice va n vc) n rd W h1 h2)
  have HHI := hid (fun W h => Rt.xhigh_any (.slice va n vc) n rd W h)
  have HDV := hid (fun W h1 h2 => Rt.xdev_any (.slice pa m pc) m st (.slice va n vc) n rd W h1 h2)
  have HCK := hid (fun W h1 h2 => Rt.xcook_any (.slice pa m pc) m st (.slice va n vc) n rd s.tm W h1 h2)
  have HBA := hid (fun W h => Rt.xbaths_any (.slice va n vc) n rd W h (by omega))
  have hbn : (Rt.bathsL rd n).length = n := by unfold Rt.bathsL; simp
  have HCU := hid (fun (W : World) (v : Value) (h : RowI W v (Rt.bathsL rd n)) => xbounded_any v (Rt.bathsL rd n) W h (by omega))
  have HCL := hid (show (cutL (Rt.bathsL rd n)).length ≤ 1000000 by rw [cutL_len]; omega)
  have HBN := hid (show (Rt.bathsL rd n).length ≤ 1000000 by omega)
  have HSTE := hid (fun (W : World) (v : Value) (h : RowI W v (cutL (Rt.bathsL rd n))) => xster_any r l a b k a2 b2 W q t v (cutL (Rt.bathsL rd n)) hs h (by have := HCL.out; unfold maxLen; omega))
  have HSPO := hid (fun (W : World) (v : Value) (h : RowI W v (cutL (Rt.bathsL rd n))) => xspoil_any r l a b k a2 b2 W x t v (cutL (Rt.bathsL rd n)) hx h (by have := HCL.out; unfold maxLen; omega))
  have HND := hid (fun W => Lt.rneeds_yes x.s x.r x.z x.d x.g W hx g7)
  have hdl : (Rt.devL st rd n).length ≤ n := (Rt.dev_ok st rd n).few
  obtain ⟨jv, hjv⟩ : ∃ y, y = judV s m st n rd vb t fi r l a b k a2 b2 q x := ⟨_, rfl⟩
  unfold judV at hjv
  obtain ⟨DL, hDL⟩ : ∃ d, d = Rt.devL st rd n := ⟨_, rfl⟩
  obtain ⟨CK, hCK⟩ : ∃ d, d = Rt.cookN st rd s.tm n := ⟨_, rfl⟩
  have HDL := hid hDL
  have HCKE := hid hCK
  rw [← hDL] at hdl hjv
  rw [← hCK] at hjv
  obtain ⟨so, hso⟩ : ∃ y, y = sterO q (lowO (sumsO r l a b k a2 b2 q t (cutL (Rt.bathsL rd n)))) (chk4 (canB r l a b k a2 b2) q.vB t (cutL (Rt.bathsL rd n))) := ⟨_, rfl⟩
  rw [← hso] at HSTE hjv
  generalize chk4 (canB r l a b k a2 b2) q.vB t (cutL (Rt.bathsL rd n)) = ce1 at HSTE
  obtain ⟨sp, hsp2⟩ : ∃ y, y = spoO r l a b k a2 b2 x t (cutL (Rt.bathsL rd n)) := ⟨_, rfl⟩
  rw [← hsp2] at HSPO hjv
  generalize chk4 (canB r l a b k a2 b2) x.vB t (cutL (Rt.bathsL rd n)) = ce2 at HSPO
  obtain ⟨nd, hnd⟩ : ∃ y, y = x.g * (x.d * 1000000) := ⟨_, rfl⟩
  rw [← hnd] at HND hjv
  obtain ⟨wb, hwb⟩ : ∃ y, y = Rt.wholeB m st n rd := ⟨_, rfl⟩
  rw [← hwb] at HWH hjv
  obtain ⟨hi, hhi⟩ : ∃ y, y = Rt.highN n rd := ⟨_, rfl⟩
  rw [← hhi] at HHI hjv
  rw [show judV s m st n rd vb t fi r l a b k a2 b2 q x = jv by rw [hjv, hwb, hhi, hDL, hCK, hso, hsp2, hnd]; rfl]
  have HJV := hid hjv
  clear hjv g1 g2 g4 g5 g6 g7 g8 hn2 hbn hp hr hs hx hsp h0 hVE hDL hCK hso hsp2 hnd hwb hhi
  obtain ⟨⟨s0, s1, s2, s3, s4⟩, ⟨x0, x1, x2, x3, x4, x5, x6⟩, ⟨y0, y1, y2, y3, y4⟩, ⟨z0, z1, z2, z3, z4⟩, _⟩ := rawJ HX.out
  go_enter Tryz.func12, Tryz.ntmps12
  go_wp2_with fail
  refine (HSC.out _).mono ?_
  rintro e w1 ⟨rfl, hb⟩
  have HX := hid (HX.out.keep hb)
  clear hb
  clear s0 s1 s2 s3 s4 x0 x1 x2 x3 x4 x5 x6 y0 y1 y2 y3 y4 z0 z1 z2 z3 z4
  obtain ⟨⟨s0, s1, s2, s3, s4⟩, ⟨x0, x1, x2, x3, x4, x5, x6⟩, ⟨y0, y1, y2, y3, y4⟩, ⟨z0, z1, z2, z3, z4⟩, _⟩ := rawJ HX.out
  go_wp2_with fail
  refine (HRE.out _ (HP.out _ HX.out.low) (HR.out _ HX.out.low)).mono ?_
  rintro e w2 ⟨rfl, hb⟩
  have HX := hid (HX.out.keep hb)
  clear hb
  clear s0 s1 s2 s3 s4 x0 x1 x2 x3 x4 x5 x6 y0 y1 y2 y3 y4 z0 z1 z2 z3 z4
  obtain ⟨⟨s0, s1, s2, s3, s4⟩, ⟨x0, x1, x2, x3, x4, x5, x6⟩, ⟨y0, y1, y2, y3, y4⟩, ⟨z0, z1, z2, z3, z4⟩, _⟩ := rawJ HX.out
  go_wp2_with fail
  refine (HCA.out _).mono ?_
  rintro e w3 ⟨rfl, hb⟩
  have HX := hid (HX.out.keep hb)
  clear hb
  clear s0 s1 s2 s3 s4 x0 x1 x2 x3 x4 x5 x6 y0 y1 y2 y3 y4 z0 z1 z2 z3 z4
  obtain ⟨⟨s0, s1, s2, s3, s4⟩, ⟨x0, x1, x2, x3, x4, x5, x6⟩, ⟨y0, y1, y2, y3, y4⟩, ⟨z0, z1, z2, z3, z4⟩, _⟩ := rawJ HX.out
  go_wp2_with fail
  refine (HKQ.out _).mono ?_
  rintro e w4 ⟨rfl, hb⟩
  have HX := hid (HX.out.keep hb)
  clear hb
  clear s0 s1 s2 s3 s4 x0 x1 x2 x3 x4 x5 x6 y0 y1 y2 y3 y4 z0 z1 z2 z3 z4
  obtain ⟨⟨s0, s1, s2, s3, s4⟩, ⟨x0, x1, x2, x3, x4, x5, x6⟩, ⟨y0, y1, y2, y3, y4⟩, ⟨z0, z1, z2, z3, z4⟩, _⟩ := rawJ HX.out
  go_wp2_with fail
  refine (HKX.out _).mono ?_
  rintro e w5 ⟨rfl, hb⟩
  have HX := hid (HX.out.keep hb)
  clear hb
  clear s0 s1 s2 s3 s4 x0 x1 x2 x3 x4 x5 x6 y0 y1 y2 y3 y4 z0 z1 z2 z3 z4
  go_wp2_with fail
  refine (HT.out _).mono ?_
  rintro e w6 ⟨rfl, rfl⟩
  go_wp2_with fail
  refine (HF.out _).mono ?_
  rintro e w7 ⟨rfl, rfl⟩
  clear HSC HRE HCA HKQ HKX HT HF
  go_wp2_with fail
  refine (HVT.out _ (HP.out _ HX.out.low) (HR.out _ HX.out.low)).mono ?_
  rintro e w8 ⟨b1, c1, rfl, hv, hb⟩
  obtain ⟨rfl, rfl⟩ := HVE.out.one hv
  have HX := hid (HX.out.keep hb)
  clear hb hv HVE
  go_wp2_with fail
  refine (HWH.out _ (HP.out _ HX.out.low) (HR.out _ HX.out.low)).mono ?_
  rintro e w9 ⟨rfl, hb⟩
  have HX := hid (HX.out.keep hb)
  clear hb
  cases wb
  · go_wp2_with fail
    refine bodyPost_ret (v := .tuple #[.int .i64 2, .int .i64 0]) (by simp [results, Tryz.results12, go_sem]) rfl ⟨(by have h := HJV.out; rw [h]; unfold verV unpV schV steV unsV; simp), HX.out.low⟩
  cases vb
  · go_wp2_with fail
    refine bodyPost_ret (v := .tuple #[.int .i64 2, .int .i64 0]) (by simp [results, Tryz.results12, go_sem]) rfl ⟨(by have h := HJV.out; rw [h]; unfold verV unpV schV steV unsV; simp), HX.out.low⟩
  by_cases g1 : hi < 0
  case neg =>
    have g1' : 0 ≤ hi := by omega
    go_wp2_with fail
    refine (HHI.out _ (HR.out _ HX.out.low)).mono ?_
    rintro e w10 ⟨rfl, hb⟩
    have HX := hid (HX.out.keep hb)
    clear hb
    go_wp2_with fail
    refine bodyPost_ret (v := .tuple #[.int .i64 2, .int .i64 0]) (by simp [results, Tryz.results12, go_sem]) rfl ⟨(by have h := HJV.out; rw [h]; unfold verV unpV schV steV unsV; simp [g1]), HX.out.low⟩
  go_wp2_with fail
  refine (HHI.out _ (HR.out _ HX.out.low)).mono ?_
  rintro e w10 ⟨rfl, hb⟩
  have HX := hid (HX.out.keep hb)
  clear hb
  go_wp2_with fail
  refine (HDV.out _ (HP.out _ HX.out.low) (HR.out _ HX.out.low)).mono ?_
  rintro e w11 ⟨v1, l1, c1, rfl, h1, h2, hb⟩
  have hl1 : l1 = DL := by
    rcases h1 with ⟨_, _, h1⟩ | ⟨h1, _⟩
    · rw [h1, HDL.out]
    · rw [HG2.out] at h1; cases h1
  subst hl1
  obtain ⟨da, dc, rfl⟩ := Rt.RowT.shape h2
  have HX := hid (HX.out.keep hb)
  clear hb h1 h2
  obtain ⟨⟨s0, s1, s2, s3, s4⟩, ⟨x0, x1, x2, x3, x4, x5, x6⟩, ⟨y0, y1, y2, y3, y4⟩, ⟨z0, z1, z2, z3, z4⟩, _⟩ := rawJ HX.out
  go_wp2_with fail
  refine (HCK.out _ (HP.out _ HX.out.low) (HR.out _ HX.out.low)).mono ?_
  rintro e w12 ⟨a1, c2, rfl, h1, hb⟩
  have ha1 : a1 = (CK : Int) := by
    rcases h1 with ⟨_, _, h1⟩ | ⟨h1, _⟩
    · rw [h1, HCKE.out]
    · rw [HG2.out] at h1; cases h1
  subst ha1
  have HX := hid (HX.out.keep hb)
  clear hb h1
  clear s0 s1 s2 s3 s4 x0 x1 x2 x3 x4 x5 x6 y0 y1 y2 y3 y4 z0 z1 z2 z3 z4
  obtain ⟨⟨s0, s1, s2, s3, s4⟩, ⟨x0, x1, x2, x3, x4, x5, x6⟩, ⟨y0, y1, y2, y3, y4⟩, ⟨z0, z1, z2, z3, z4⟩, _⟩ := rawJ HX.out
  have HFT := hid (show s.fit t fi = (decide (s.it ≤ t) && decide (fi ≤ s.fl)) from rfl)
  have HG1 := hid g1
  have g1 := HG1.out
  cases f1 : decide (s.it ≤ t)
  · have f1' := of_decide_eq_false f1
    have HS0 := hid (show s.fit t fi = false by rw [HFT.out, f1]; rfl)
    go_wp2_with fail
    refine (HBA.out _ (HR.out _ HX.out.low)).mono ?_
    rintro e w13 ⟨u4, rfl, ho4, hb⟩
    have HX := hid (HX.out.keep hb)
    have RB := hid (Rt.OwnL.rowI ho4 HBN.out)
    clear ho4 hb
    go_wp2_with fail
    refine (HCU.out _ _ RB.out).mono ?_
    rintro e w14 ⟨u5, rfl, ho5, hb⟩
    have HX := hid (HX.out.keep hb)
    have RC := hid (NewI.rowI ho5 HCL.out)
    clear ho5 hb
    clear s0 s1 s2 s3 s4 x0 x1 x2 x3 x4 x5 x6 y0 y1 y2 y3 y4 z0 z1 z2 z3 z4
    obtain ⟨⟨s0, s1, s2, s3, s4⟩, ⟨x0, x1, x2, x3, x4, x5, x6⟩, ⟨y0, y1, y2, y3, y4⟩, ⟨z0, z1, z2, z3, z4⟩, _⟩ := rawJ HX.out
    go_wp2_with fail
    refine (HSTE.out _ _ RC.out).mono ?_
    rintro e w15 ⟨rfl, hb⟩
    have HX := hid (HX.out.keep hb)
    have RC := hid (RC.out.keep hb)
    clear hb
    clear s0 s1 s2 s3 s4 x0 x1 x2 x3 x4 x5 x6 y0 y1 y2 y3 y4 z0 z1 z2 z3 z4
    cases so
    case true =>
      go_wp2_with fail
      refine bodyPost_ret (v := .tuple #[.int .i64 1, .int .i64 0]) (by simp [results, Tryz.results12, go_sem]) rfl ⟨(by have h := HJV.out; rw [h]; unfold verV unpV schV steV unsV; simp [HS0.out, g1]), HX.out.low⟩
    obtain ⟨⟨s0, s1, s2, s3, s4⟩, ⟨x0, x1, x2, x3, x4, x5, x6⟩, ⟨y0, y1, y2, y3, y4⟩, ⟨z0, z1, z2, z3, z4⟩, _⟩ := rawJ HX.out
    go_wp2_with fail
    refine (HSPO.out _ _ RC.out).mono ?_
    rintro e w16 ⟨rfl, hb⟩
    have HX := hid (HX.out.keep hb)
    clear hb
    clear s0 s1 s2 s3 s4 x0 x1 x2 x3 x4 x5 x6 y0 y1 y2 y3 y4 z0 z1 z2 z3 z4
    obtain ⟨⟨s0, s1, s2, s3, s4⟩, ⟨x0, x1, x2, x3, x4, x5, x6⟩, ⟨y0, y1, y2, y3, y4⟩, ⟨z0, z1, z2, z3, z4⟩, _⟩ := rawJ HX.out
    cases h9 : decide (sp < nd)
    · have h9' := of_decide_eq_false h9
      have h9i : ¬ sp < nd := h9'
      have H9 := hid h9i
      clear h9i
      go_wp2_with fail
      refine (HND.out _).mono ?_
      rintro e w17 ⟨rfl, hb⟩
      have HX := hid (HX.out.keep hb)
      clear hb
      clear s0 s1 s2 s3 s4 x0 x1 x2 x3 x4 x5 x6 y0 y1 y2 y3 y4 z0 z1 z2 z3 z4
      go_wp2_with fail
      refine bodyPost_ret (v := .tuple #[.int .i64 4, .int .i64 0]) (by simp [results, Tryz.results12, go_sem]) rfl ⟨(by have h := HJV.out; rw [h]; unfold verV unpV schV steV unsV; simp [HS0.out, g1, H9.out]), HX.out.low⟩
    · have h9' := of_decide_eq_true h9
      have H9 := hid h9'
      go_wp2_with fail
      refine (HND.out _).mono ?_
      rintro e w17 ⟨rfl, hb⟩
      have HX := hid (HX.out.keep hb)
      clear hb
      clear s0 s1 s2 s3 s4 x0 x1 x2 x3 x4 x5 x6 y0 y1 y2 y3 y4 z0 z1 z2 z3 z4
      go_wp2_with fail
      refine bodyPost_ret (v := .tuple #[.int .i64 3, .int .i64 0]) (by simp [results, Tryz.results12, go_sem]) rfl ⟨(by have h := HJV.out; rw [h]; unfold verV unpV schV steV unsV; simp [HS0.out, g1, H9.out]), HX.out.low⟩
  have f1' := of_decide_eq_true f1
  cases f2 : decide (fi ≤ s.fl)
  · have f2' := of_decide_eq_false f2
    have HS0 := hid (show s.fit t fi = false by rw [HFT.out, f1, f2]; rfl)
    go_wp2_with fail
    refine (HBA.out _ (HR.out _ HX.out.low)).mono ?_
    rintro e w13 ⟨u4, rfl, ho4, hb⟩
    have HX := hid (HX.out.keep hb)
    have RB := hid (Rt.OwnL.rowI ho4 HBN.out)
    clear ho4 hb
    go_wp2_with fail
    refine (HCU.out _ _ RB.out).mono ?_
    rintro e w14 ⟨u5, rfl, ho5, hb⟩
    have HX := hid (HX.out.keep hb)
    have RC := hid (NewI.rowI ho5 HCL.out)
    clear ho5 hb
    clear s0 s1 s2 s3 s4 x0 x1 x2 x3 x4 x5 x6 y0 y1 y2 y3 y4 z0 z1 z2 z3 z4
    obtain ⟨⟨s0, s1, s2, s3, s4⟩, ⟨x0, x1, x2, x3, x4, x5, x6⟩, ⟨y0, y1, y2, y3, y4⟩, ⟨z0, z1, z2, z3, z4⟩, _⟩ := rawJ HX.out
    go_wp2_with fail
    refine (HSTE.out _ _ RC.out).mono ?_
    rintro e w15 ⟨rfl, hb⟩
    have HX := hid (HX.out.keep hb)
    have RC := hid (RC.out.keep hb)
    clear hb
    clear s0 s1 s2 s3 s4 x0 x1 x2 x3 x4 x5 x6 y0 y1 y2 y3 y4 z0 z1 z2 z3 z4
    cases so
    case true =>
      go_wp2_with fail
      refine bodyPost_ret (v := .tuple #[.int .i64 1, .int .i64 0]) (by simp [results, Tryz.results12, go_sem]) rfl ⟨(by have h := HJV.out; rw [h]; unfold verV unpV schV steV unsV; simp [HS0.out, g1]), HX.out.low⟩
    obtain ⟨⟨s0, s1, s2, s3, s4⟩, ⟨x0, x1, x2, x3, x4, x5, x6⟩, ⟨y0, y1, y2, y3, y4⟩, ⟨z0, z1, z2, z3, z4⟩, _⟩ := rawJ HX.out
    go_wp2_with fail
    refine (HSPO.out _ _ RC.out).mono ?_
    rintro e w16 ⟨rfl, hb⟩
    have HX := hid (HX.out.keep hb)
    clear hb
    clear s0 s1 s2 s3 s4 x0 x1 x2 x3 x4 x5 x6 y0 y1 y2 y3 y4 z0 z1 z2 z3 z4
    obtain ⟨⟨s0, s1, s2, s3, s4⟩, ⟨x0, x1, x2, x3, x4, x5, x6⟩, ⟨y0, y1, y2, y3, y4⟩, ⟨z0, z1, z2, z3, z4⟩, _⟩ := rawJ HX.out
    cases h9 : decide (sp < nd)
    · have h9' := of_decide_eq_false h9
      have h9i : ¬ sp < nd := h9'
      have H9 := hid h9i
      clear h9i
      go_wp2_with fail
      refine (HND.out _).mono ?_
      rintro e w17 ⟨rfl, hb⟩
      have HX := hid (HX.out.keep hb)
      clear hb
      clear s0 s1 s2 s3 s4 x0 x1 x2 x3 x4 x5 x6 y0 y1 y2 y3 y4 z0 z1 z2 z3 z4
      go_wp2_with fail
      refine bodyPost_ret (v := .tuple #[.int .i64 4, .int .i64 0]) (by simp [results, Tryz.results12, go_sem]) rfl ⟨(by have h := HJV.out; rw [h]; unfold verV unpV schV steV unsV; simp [HS0.out, g1, H9.out]), HX.out.low⟩
    · have h9' := of_decide_eq_true h9
      have H9 := hid h9'
      go_wp2_with fail
      refine (HND.out _).mono ?_
      rintro e w17 ⟨rfl, hb⟩
      have HX := hid (HX.out.keep hb)
      clear hb
      clear s0 s1 s2 s3 s4 x0 x1 x2 x3 x4 x5 x6 y0 y1 y2 y3 y4 z0 z1 z2 z3 z4
      go_wp2_with fail
      refine bodyPost_ret (v := .tuple #[.int .i64 3, .int .i64 0]) (by simp [results, Tryz.results12, go_sem]) rfl ⟨(by have h := HJV.out; rw [h]; unfold verV unpV schV steV unsV; simp [HS0.out, g1, H9.out]), HX.out.low⟩
  have f2' := of_decide_eq_true f2
  have HS0 := hid (show s.fit t fi = true by rw [HFT.out, f1, f2]; rfl)
  cases f3 : decide (l1.length = 0)
  · have f3' : ((l1.length : Int) == 0) = false := by simpa using f3
    have HS1 := hid (of_decide_eq_false f3)
    clear f3
    go_wp2_with fail
    refine (HBA.out _ (HR.out _ HX.out.low)).mono ?_
    rintro e w13 ⟨u4, rfl, ho4, hb⟩
    have HX := hid (HX.out.keep hb)
    have RB := hid (Rt.OwnL.rowI ho4 HBN.out)
    clear ho4 hb
    go_wp2_with fail
    refine (HCU.out _ _ RB.out).mono ?_
    rintro e w14 ⟨u5, rfl, ho5, hb⟩
    have HX := hid (HX.out.keep hb)
    have RC := hid (NewI.rowI ho5 HCL.out)
    clear ho5 hb
    clear s0 s1 s2 s3 s4 x0 x1 x2 x3 x4 x5 x6 y0 y1 y2 y3 y4 z0 z1 z2 z3 z4
    obtain ⟨⟨s0, s1, s2, s3, s4⟩, ⟨x0, x1, x2, x3, x4, x5, x6⟩, ⟨y0, y1, y2, y3, y4⟩, ⟨z0, z1, z2, z3, z4⟩, _⟩ := rawJ HX.out
    go_wp2_with fail
    refine (HSTE.out _ _ RC.out).mono ?_
    rintro e w15 ⟨rfl, hb⟩
    have HX := hid (HX.out.keep hb)
    have RC := hid (RC.out.keep hb)
    clear hb
    clear s0 s1 s2 s3 s4 x0 x1 x2 x3 x4 x5 x6 y0 y1 y2 y3 y4 z0 z1 z2 z3 z4
    cases so
    case true =>
      go_wp2_with fail
      refine bodyPost_ret (v := .tuple #[.int .i64 1, .int .i64 0]) (by simp [results, Tryz.results12, go_sem]) rfl ⟨(by have h := HJV.out; rw [h]; unfold verV unpV schV steV unsV; simp [HS0.out, HS1.out, g1]), HX.out.low⟩
    obtain ⟨⟨s0, s1, s2, s3, s4⟩, ⟨x0, x1, x2, x3, x4, x5, x6⟩, ⟨y0, y1, y2, y3, y4⟩, ⟨z0, z1, z2, z3, z4⟩, _⟩ := rawJ HX.out
    go_wp2_with fail
    refine (HSPO.out _ _ RC.out).mono ?_
    rintro e w16 ⟨rfl, hb⟩
    have HX := hid (HX.out.keep hb)
    clear hb
    clear s0 s1 s2 s3 s4 x0 x1 x2 x3 x4 x5 x6 y0 y1 y2 y3 y4 z0 z1 z2 z3 z4
    obtain ⟨⟨s0, s1, s2, s3, s4⟩, ⟨x0, x1, x2, x3, x4, x5, x6⟩, ⟨y0, y1, y2, y3, y4⟩, ⟨z0, z1, z2, z3, z4⟩, _⟩ := rawJ HX.out
    cases h9 : decide (sp < nd)
    · have h9' := of_decide_eq_false h9
      have h9i : ¬ sp < nd := h9'
      have H9 := hid h9i
      clear h9i
      go_wp2_with fail
      refine (HND.out _).mono ?_
      rintro e w17 ⟨rfl, hb⟩
      have HX := hid (HX.out.keep hb)
      clear hb
      clear s0 s1 s2 s3 s4 x0 x1 x2 x3 x4 x5 x6 y0 y1 y2 y3 y4 z0 z1 z2 z3 z4
      go_wp2_with fail
      refine bodyPost_ret (v := .tuple #[.int .i64 4, .int .i64 0]) (by simp [results, Tryz.results12, go_sem]) rfl ⟨(by have h := HJV.out; rw [h]; unfold verV unpV schV steV unsV; simp [HS0.out, HS1.out, g1, H9.out]), HX.out.low⟩
    · have h9' := of_decide_eq_true h9
      have H9 := hid h9'
      go_wp2_with fail
      refine (HND.out _).mono ?_
      rintro e w17 ⟨rfl, hb⟩
      have HX := hid (HX.out.keep hb)
      clear hb
      clear s0 s1 s2 s3 s4 x0 x1 x2 x3 x4 x5 x6 y0 y1 y2 y3 y4 z0 z1 z2 z3 z4
      go_wp2_with fail
      refine bodyPost_ret (v := .tuple #[.int .i64 3, .int .i64 0]) (by simp [results, Tryz.results12, go_sem]) rfl ⟨(by have h := HJV.out; rw [h]; unfold verV unpV schV steV unsV; simp [HS0.out, HS1.out, g1, H9.out]), HX.out.low⟩
  have f3' : ((l1.length : Int) == 0) = true := by simpa using f3
  have HS1 := hid (of_decide_eq_true f3)
  clear f3
  cases f4 : decide (s.tk ≤ (CK : Int))
  · have f4' := of_decide_eq_false f4
    have HS2 := hid f4'
    go_wp2_with fail
    refine (HBA.out _ (HR.out _ HX.out.low)).mono ?_
    rintro e w13 ⟨u4, rfl, ho4, hb⟩
    have HX := hid (HX.out.keep hb)
    have RB := hid (Rt.OwnL.rowI ho4 HBN.out)
    clear ho4 hb
    go_wp2_with fail
    refine (HCU.out _ _ RB.out).mono ?_
    rintro e w14 ⟨u5, rfl, ho5, hb⟩
    have HX := hid (HX.out.keep hb)
    have RC := hid (NewI.rowI ho5 HCL.out)
    clear ho5 hb
    clear s0 s1 s2 s3 s4 x0 x1 x2 x3 x4 x5 x6 y0 y1 y2 y3 y4 z0 z1 z2 z3 z4
    obtain ⟨⟨s0, s1, s2, s3, s4⟩, ⟨x0, x1, x2, x3, x4, x5, x6⟩, ⟨y0, y1, y2, y3, y4⟩, ⟨z0, z1, z2, z3, z4⟩, _⟩ := rawJ HX.out
    go_wp2_with fail
    refine (HSTE.out _ _ RC.out).mono ?_
    rintro e w15 ⟨rfl, hb⟩
    have HX := hid (HX.out.keep hb)
    have RC := hid (RC.out.keep hb)
    clear hb
    clear s0 s1 s2 s3 s4 x0 x1 x2 x3 x4 x5 x6 y0 y1 y2 y3 y4 z0 z1 z2 z3 z4
    cases so
    case true =>
      go_wp2_with fail
      refine bodyPost_ret (v := .tuple #[.int .i64 1, .int .i64 0]) (by simp [results, Tryz.results12, go_sem]) rfl ⟨(by have h := HJV.out; rw [h]; unfold verV unpV schV steV unsV; simp [HS0.out, HS1.out, HS2.out, g1]), HX.out.low⟩
    obtain ⟨⟨s0, s1, s2, s3, s4⟩, ⟨x0, x1, x2, x3, x4, x5, x6⟩, ⟨y0, y1, y2, y3, y4⟩, ⟨z0, z1, z2, z3, z4⟩, _⟩ := rawJ HX.out
    go_wp2_with fail
    refine (HSPO.out _ _ RC.out).mono ?_
    rintro e w16 ⟨rfl, hb⟩
    have HX := hid (HX.out.keep hb)
    clear hb
    clear s0 s1 s2 s3 s4 x0 x1 x2 x3 x4 x5 x6 y0 y1 y2 y3 y4 z0 z1 z2 z3 z4
    obtain ⟨⟨s0, s1, s2, s3, s4⟩, ⟨x0, x1, x2, x3, x4, x5, x6⟩, ⟨y0, y1, y2, y3, y4⟩, ⟨z0, z1, z2, z3, z4⟩, _⟩ := rawJ HX.out
    cases h9 : decide (sp < nd)
    · have h9' := of_decide_eq_false h9
      have h9i : ¬ sp < nd := h9'
      have H9 := hid h9i
      clear h9i
      go_wp2_with fail
      refine (HND.out _).mono ?_
      rintro e w17 ⟨rfl, hb⟩
      have HX := hid (HX.out.keep hb)
      clear hb
      clear s0 s1 s2 s3 s4 x0 x1 x2 x3 x4 x5 x6 y0 y1 y2 y3 y4 z0 z1 z2 z3 z4
      go_wp2_with fail
      refine bodyPost_ret (v := .tuple #[.int .i64 4, .int .i64 0]) (by simp [results, Tryz.results12, go_sem]) rfl ⟨(by have h := HJV.out; rw [h]; unfold verV unpV schV steV unsV; simp [HS0.out, HS1.out, HS2.out, g1, H9.out]), HX.out.low⟩
    · have h9' := of_decide_eq_true h9
      have H9 := hid h9'
      go_wp2_with fail
      refine (HND.out _).mono ?_
      rintro e w17 ⟨rfl, hb⟩
      have HX := hid (HX.out.keep hb)
      clear hb
      clear s0 s1 s2 s3 s4 x0 x1 x2 x3 x4 x5 x6 y0 y1 y2 y3 y4 z0 z1 z2 z3 z4
      go_wp2_with fail
      refine bodyPost_ret (v := .tuple #[.int .i64 3, .int .i64 0]) (by simp [results, Tryz.results12, go_sem]) rfl ⟨(by have h := HJV.out; rw [h]; unfold verV unpV schV steV unsV; simp [HS0.out, HS1.out, HS2.out, g1, H9.out]), HX.out.low⟩
  have f4' := of_decide_eq_true f4
  have HS2 := hid f4'
  go_wp2_with fail
  refine bodyPost_ret (v := .tuple #[.int .i64 1, .int .i64 0]) (by simp [results, Tryz.results12, go_sem]) rfl ⟨(by have h := HJV.out; rw [h]; unfold verV unpV schV steV unsV; simp [HS0.out, HS1.out, HS2.out, g1]), HX.out.low⟩
end Go.Proofs.YtihbjimnjhfpeaaGreat

/- Walk of enough and of a search's sterile: contracts, for a meter whose map stays. -/
namespace Go.Proofs.YtihbjimnjhfpeaaGreat
open Go.RowKit Go.Lib

/-- What the rate stands on says what the map at mb holds. -/
def Fix (I : World → Prop) (mb : Nat) : Prop := ∃ o : Obj, ∀ W, I W → W.heap[mb]? = some o
theorem Fix.low {I : World → Prop} {mb : Nat} {W W' : World} (h : Fix I mb) (h1 : I W) (h2 : I W') (hg : W.grownBy W' (some mb)) : Below W.heap.size W W' := by
  obtain ⟨o, ho⟩ := h
  refine ⟨hg.os, hg.tape, hg.output, hg.size, fun k hk => ?_⟩
  by_cases e : k = mb
  · subst e; rw [ho _ h1, ho _ h2]
  · exact hg.block k hk (fun h => e (Option.some.inj h))
/-- The sums of a dish are what is needed. -/
def enD (need : Int) (D : Dish) : Bool := decide (need ≤ minA (ivN D.2))
def RawEn (c : Cn) (need : Int) (F : Nat) (lb : Array Value) (D : Dish) (ua ub : Option Addr) (uc ud : Nat) (w W : World) : Prop :=
  W.cell? ⟨w.heap.size, 7, none⟩ = some (.int .i64 need) ∧ W.cell? ⟨w.heap.size + 1, 2, none⟩ = some (.slice ub D.2.length ud) ∧
  B2 w W 80 89 #[.int .i64 (c.R : Int), .int .i64 (c.L : Int), .int .i64 c.A, .int .i64 c.B, .int .i64 c.K, .int .i64 c.A2, .int .i64 c.B2, .int .i64 need, .func (.func F) #[] lb] #[.slice ua D.1.1.length uc, .bool D.1.2, .slice ub D.2.length ud] ∧ RowI W (.slice ub D.2.length ud) (ivN D.2)
theorem rawEn {c : Cn} {need : Int} {F : Nat} {lb : Array Value} {D : Dish} {ua ub : Option Addr} {uc ud : Nat} {w W : World} (h : B2 w W 80 89 #[.int .i64 (c.R : Int), .int .i64 (c.L : Int), .int .i64 c.A, .int .i64 c.B, .int .i64 c.K, .int .i64 c.A2, .int .i64 c.B2, .int .i64 need, .func (.func F) #[] lb] #[.slice ua D.1.1.length uc, .bool D.1.2, .slice ub D.2.length ud]) (hr : RowI W (.slice ub D.2.length ud) (ivN D.2)) : RawEn c need F lb D ua ub uc ud w W :=
  ⟨cell_of_row _ _ 7 _ _ _ h.one, cell_of_row _ _ 2 _ _ _ h.two, h, hr⟩
set_option maxRecDepth 20000 in
set_option maxHeartbeats 4000000 in
theorem enough_any (c : Cn) (need : Int) (F : Nat) (lb : Array Value) (D : Dish) (ua ub : Option Addr) (uc ud : Nat) (w : World) (h0 : 0 < D.2.length) (h1 : D.2.length ≤ 48) (hs : RowI w (.slice ub D.2.length ud) (ivN D.2)) :
    Calls Tryz.prog 145 #[.agg #[.int .i64 (c.R : Int), .int .i64 (c.L : Int), .int .i64 c.A, .int .i64 c.B, .int .i64 c.K, .int .i64 c.A2, .int .i64 c.B2, .int .i64 need, .func (.func F) #[] lb], .agg #[.slice ua D.1.1.length uc, .bool D.1.2, .slice ub D.2.length ud]] w fun e w' => e = .returned (.bool (enD need D)) ∧ Below w.heap.size w w' := by
  have HX := hid (b2_start (w := w) (T1 := 80) (T2 := 89) (A := #[.int .i64 (c.R : Int), .int .i64 (c.L : Int), .int .i64 c.A, .int .i64 c.B, .int .i64 c.K, .int .i64 c.A2, .int .i64 c.B2, .int .i64 need, .func (.func F) #[] lb]) (B := #[.slice ua D.1.1.length uc, .bool D.1.2, .slice ub D.2.length ud]))
  have HMN := hid (fun (W : World) (h : RowI W (.slice ub D.2.length ud) (ivN D.2)) => minA_any _ (ivN D.2) W h (by rw [ivN_len]; omega) (by rw [ivN_len]; omega))
  have HL := hid (fun W (g : Below w.heap.size w W) => hs.keep g)
  unfold enD
  generalize minA (ivN D.2) = mn at *
  clear hs h0 h1
  go_enter Tryz.func145, Tryz.ntmps145
  go_wp2_with fail
  have HL2 := hid (HL.out _ HX.out.low)
  refine wp_region_sink (S := RawEn c need F lb D ua ub uc ud w) 6 (by kernel_rfl) (by kernel_rfl) (by kernel_rfl) (by kernel_rfl) (rawEn (HX.out.keep (Below.refl _ _).drew) (HL2.out.keep (Below.refl _ _).drew)) (fun hS0 => ?_)
  refine wpAnyH_take (i := 0) (v := ?_) rfl (by kernel_rfl) (by kernel_rfl) (by kernel_rfl) (fun _ _ _ h => h) (Or.inl ⟨by rfl, ?_⟩) hS0 ?_
  rotate_left
  · intro w' hSw
    obtain ⟨q0, q1, _⟩ := hSw
    go_simp
    try with_reducible rfl
  try simp only [Act.put]
  try simp only [List.setIfInBounds_toArray]
  try simp only [List.set_cons_zero, List.set_cons_succ]
  refine wpAnyH_take (i := 1) (v := ?_) rfl (by kernel_rfl) (by kernel_rfl) (by kernel_rfl) (fun _ _ _ h => h) (Or.inl ⟨by rfl, ?_⟩) hS0 ?_
  rotate_left
  · intro w' hSw
    obtain ⟨q0, q1, _⟩ := hSw
    go_simp
    try with_reducible rfl
  try simp only [Act.put]
  try simp only [List.setIfInBounds_toArray]
  try simp only [List.set_cons_zero, List.set_cons_succ]
  refine wpAnyH_take (i := 3) (v := ?_) rfl (by kernel_rfl) (by kernel_rfl) (by kernel_rfl) (fun _ _ _ h => h) (Or.inl ⟨by rfl, ?_⟩) hS0 ?_
  rotate_left
  · intro w' hSw
    obtain ⟨q0, q1, _⟩ := hSw
    go_simp
    try with_reducible rfl
  try simp only [Act.put]
  try simp only [List.setIfInBounds_toArray]
  try simp only [List.set_cons_zero, List.set_cons_succ]
  refine wpAnyH_take (i := 4) (v := ?_) rfl (by kernel_rfl) (by kernel_rfl) (by kernel_rfl) (fun _ _ _ h => h) (Or.inl ⟨by rfl, ?_⟩) hS0 ?_
  rotate_left
  · intro w' hSw
    obtain ⟨q0, q1, _⟩ := hSw
    go_simp
    try with_reducible rfl
  try simp only [Act.put]
  try simp only [List.setIfInBounds_toArray]
  try simp only [List.set_cons_zero, List.set_cons_succ]
  (refine wpAnyH_ready (rs := [2]) (by kernel_rfl) (by simp) ?_)
  refine AllReadyH.cons rfl (fun K hK => ?_) AllReadyH.nil
  go_simp
  refine (HMN.out _ hS0.2.2.2).mono ?_
  rintro e w5 ⟨rfl, rfl⟩
  (refine hK.out _ _ (hS0) (fun hS1 => ?_); clear hK K)
  refine wpAnyH_take (i := 5) (v := ?_) rfl (by kernel_rfl) (by kernel_rfl) (by kernel_rfl) (fun _ _ _ h => h) (Or.inl ⟨by rfl, ?_⟩) hS1 ?_
  rotate_left
  · intro w' hSw
    obtain ⟨q0, q1, _⟩ := hSw
    go_simp
    try with_reducible rfl
  try simp only [Act.put]
  try simp only [List.setIfInBounds_toArray]
  try simp only [List.set_cons_zero, List.set_cons_succ]
  refine wpAnyH_done (by kernel_rfl) ?_ _
  have HX9 := hid hS1.2.2.1
  refine sink_last rfl (fun K hK => ?_)
  go_simp
  refine hK.out _ _ ?_
  clear hK K
  go_wp2_with fail
  refine bodyPost_ret (v := .bool (decide (need ≤ mn))) (by simp [results, Tryz.results145, go_sem]) rfl ⟨rfl, HX9.out.low⟩

/-- The dish after n ticks in a bath. -/
def afN (c : Cn) (f : Int → Nat) (D : Dish) (b : Int) (n : Nat) : Dish := dishR c f D (List.replicate n b)
theorem afN_zero (c : Cn) (f : Int → Nat) (D : Dish) (b : Int) : afN c f D b 0 = D := dishR_nil c f D
theorem afN_succ (c : Cn) (f : Int → Nat) (D : Dish) (b : Int) (n : Nat) : afN c f D b (n + 1) = dishT c f (afN c f D b n) b := by
  unfold afN
  have h := dishR_succ c f D (List.replicate (n + 1) b) n (by simp)
  simpa [List.take_replicate] using h
theorem afN_good {c : Cn} {f : Int → Nat} {D : Dish} {b : Int} (n : Nat) (hv : c.Ok) (hG : Good c D) (hb : okT b = true) : Good c (afN c f D b n) :=
  hG.run hv (by simp [okL, hb])
theorem afN_bd {c : Cn} {f : Int → Nat} {D : Dish} {b lo hi : Int} (n : Nat) (hv : c.Ok) (hG : Good c D) (hb : lo ≤ b ∧ b ≤ hi) (hD : ∀ t ∈ D.1.1, lo ≤ t ∧ t ≤ hi) : ∀ t ∈ (afN c f D b n).1.1, lo ≤ t ∧ t ≤ hi := by
  unfold afN
  rw [dishR_body]
  exact runS_bd hv _ _ (bodyV_iff.1 hG.body).1 hD (fun x hx => by have := List.eq_of_mem_replicate hx; omega)
end Go.Proofs.YtihbjimnjhfpeaaGreat
