/- Walks of goodBy's function, of goodBy, Good and Faults: contracts. -/
import Derived.Test.YtlhjiikbehmamaaOe
import Derived.Test.YtlhjiikbehmamaaOb
namespace Go.Proofs.Ytlhjiikbehmamaa
open Go.RowKit

def fltB (n : Nm) (x : Sh) : Nat → Bool
  | 0 => !inB x.bh n.bl n.bh
  | 1 => !inB x.ch n.cl n.ch
  | 2 => decide (pctT x < n.pc)
  | 3 => decide (n.wr < x.wr)
  | 4 => !inB x.th n.tl n.th
  | _ => !inB x.cs n.sl n.sh
def wdB : Nat → ByteArray
  | 0 => ⟨#[98, 111, 100, 121]⟩
  | 1 => ⟨#[99, 111, 118, 101, 114]⟩
  | 2 => ⟨#[111, 118, 101, 114, 108, 97, 112]⟩
  | 3 => ⟨#[119, 114, 105, 110, 107, 108, 101]⟩
  | 4 => ⟨#[116, 104, 105, 99, 107, 110, 101, 115, 115]⟩
  | _ => ⟨#[99, 111, 117, 110, 116, 101, 114, 115, 105, 110, 107]⟩
/-- The words for what is not good among the first k. -/
def fltL (n : Nm) (x : Sh) (k : Nat) : List ByteArray := ((List.range k).filter (fltB n x)).map wdB
def goodB (n : Nm) (x : Sh) : Bool := allB 6 fun k => !fltB n x k
theorem fltL_yes {n : Nm} {x : Sh} {k : Nat} (h : fltB n x k = true) : fltL n x (k + 1) = fltL n x k ++ [wdB k] := by simp [fltL, List.range_succ, List.filter_append, h]
theorem fltL_no {n : Nm} {x : Sh} {k : Nat} (h : fltB n x k = false) : fltL n x (k + 1) = fltL n x k := by simp [fltL, List.range_succ, List.filter_append, h]
theorem fltL_len (n : Nm) (x : Sh) (k : Nat) : (fltL n x k).length ≤ k := by
  have h := List.length_filter_le (fltB n x) (List.range k)
  simpa [fltL] using h
theorem good_list (n : Nm) (x : Sh) : decide ((fltL n x 6).length = 0) = goodB n x := by
  rw [Bool.eq_iff_iff, decide_eq_true_iff]
  unfold goodB fltL
  rw [allB_iff, List.length_map, List.length_eq_zero_iff, List.filter_eq_nil_iff]
  constructor
  · intro h j hj
    have := h j (List.mem_range.2 hj)
    simpa using this
  · intro h j hj
    have := h j (List.mem_range.1 hj)
    simpa using this
theorem call_enter {F : Nat} {fn : Func} (hf : Try.prog.funcs[F]? = some fn) (hn : (fn.name == "runtime.NumGoroutine") = false) (hb : fn.body.isNone = false) (args : Array Value) (W : World) : Sem.run Try.prog (callFunc F args) W = .ok (.enter F args) W := by
  have hn' : ¬ fn.name = "runtime.NumGoroutine" := by simpa using hn
  have hb' : ¬ fn.body = none := fun h => by rw [h] at hb; cases hb
  simp [callFunc, go_sem, hf, hn', hb']
/-- Six faults that lie in a slice, and do what they should. -/
def FaultR (n : Nm) (w : World) (v : Value) : Prop := ∃ g : Nat, v = .slice (some ⟨g, 0, none⟩) 6 6 ∧ ∀ k, k < 6 → ∃ (F : Nat) (caps : Array Value), w.cell? ⟨g, k * 2, none⟩ = some (.string (wdB k)) ∧ w.cell? ⟨g, k * 2 + 1, none⟩ = some (.func (.func F) #[] caps) ∧
  (∀ (W : World) (x : Sh), Sem.run Try.prog (callFunc F (#[.agg #[.int .i64 x.tk, .int .i64 x.hd, .int .i64 x.bh, .int .i64 x.ch, .int .i64 x.ht, .int .i64 x.ep, .int .i64 x.bp, .int .i64 x.wr, .int .i64 x.th, .int .i64 x.cs]] ++ caps)) W = .ok (.enter F (#[.agg #[.int .i64 x.tk, .int .i64 x.hd, .int .i64 x.bh, .int .i64 x.ch, .int .i64 x.ht, .int .i64 x.ep, .int .i64 x.bp, .int .i64 x.wr, .int .i64 x.th, .int .i64 x.cs]] ++ caps)) W) ∧ ∀ (W : World) (x : Sh), Below w.heap.size w W → shB x = true → Calls Try.prog F (#[.agg #[.int .i64 x.tk, .int .i64 x.hd, .int .i64 x.bh, .int .i64 x.ch, .int .i64 x.ht, .int .i64 x.ep, .int .i64 x.bp, .int .i64 x.wr, .int .i64 x.th, .int .i64 x.cs]] ++ caps) W fun e w' => e = .returned (.bool (fltB n x k)) ∧ Below W.heap.size W w'
theorem FaultR.keep {n : Nm} {W w2 : World} {v : Value} (h : FaultR n W v) (hb : Below W.heap.size W w2) : FaultR n w2 v := by
  obtain ⟨g, hv, h⟩ := h
  refine ⟨g, hv, fun k hk => ?_⟩
  obtain ⟨F, caps, h1, h2, h0, h3⟩ := h k hk
  exact ⟨F, caps, keep_cell hb h1, keep_cell hb h2, h0, fun W2 x g2 hx => h3 W2 x (bstep hb hb.size g2) hx⟩
theorem faultR_of {n : Nm} {w w' : World} {e : Ending} (h : FaultsP n w e w') : ∃ v, e = .returned v ∧ FaultR n w' v ∧ Below w.heap.size w w' := by
  obtain ⟨g, b0, b1, b4, b5, he, hc, p0, p1, p4, p5, hx⟩ := h
  refine ⟨_, he, ⟨g, rfl, fun k hk => ?_⟩, hx.low⟩
  rcases (show k = 0 ∨ k = 1 ∨ k = 2 ∨ k = 3 ∨ k = 4 ∨ k = 5 by omega) with rfl | rfl | rfl | rfl | rfl | rfl
  · exact ⟨_, _, hc 0, hc 1, fun W x => call_enter Try.func65 (by kernel_rfl) (by kernel_rfl) _ W, fun W x hb hs => fault1_any x _ _ b0 W (p0.keep hb)⟩
  · exact ⟨_, _, hc 2, hc 3, fun W x => call_enter Try.func65 (by kernel_rfl) (by kernel_rfl) _ W, fun W x hb hs => fault2_any x _ _ b1 W (p1.keep hb)⟩
  · exact ⟨_, _, hc 4, hc 5, fun W x => call_enter Try.func58 (by kernel_rfl) (by kernel_rfl) _ W, fun W x hb hs => fault3_any x _ _ W (shB_iff.1 hs) (keep_cell hb (hx.fst 4))⟩
  · exact ⟨_, _, hc 6, hc 7, fun W x => call_enter Try.func59 (by kernel_rfl) (by kernel_rfl) _ W, fun W x hb hs => fault4_any x _ _ W (keep_cell hb (hx.fst 5))⟩
  · exact ⟨_, _, hc 8, hc 9, fun W x => call_enter Try.func65 (by kernel_rfl) (by kernel_rfl) _ W, fun W x hb hs => fault5_any x _ _ b4 W (p4.keep hb)⟩
  · exact ⟨_, _, hc 10, hc 11, fun W x => call_enter Try.func65 (by kernel_rfl) (by kernel_rfl) _ W, fun W x hb hs => fault6_any x _ _ b5 W (p5.keep hb)⟩
set_option maxRecDepth 20000 in
set_option maxHeartbeats 8000000 in
theorem goodF_any (n : Nm) (x : Sh) (v : Value) (g1 : Nat) (w : World) (hx : shB x = true) (hv : w.cell? ⟨g1, 0, none⟩ = some v) (hF : FaultR n w v) :
    Calls Try.prog 54 #[.agg #[.int .i64 x.tk, .int .i64 x.hd, .int .i64 x.bh, .int .i64 x.ch, .int .i64 x.ht, .int .i64 x.ep, .int .i64 x.bp, .int .i64 x.wr, .int .i64 x.th, .int .i64 x.cs], .pointer (some ⟨g1, 0, none⟩)] w fun e w' => e = .returned (.bool (goodB n x)) ∧ Below w.heap.size w w' := by
  have HX := hid hx
  have HFR := hid (fun W (g : Below w.heap.size w W) => hF.keep g)
  obtain ⟨g, rfl, _⟩ := hF
  have HB := hid (boxS_below w x)
  have HBX := hid (boxS_new w x)
  have hv1 := keep_cell (boxS_below w x) hv
  clear hx hv
  go_enter Try.func54, Try.ntmps54
  go_wp2
  generalize World.alloc w _ = W0 at *
  clear hv1
  go_loopw [8] (fun t wr => ∃ k : Nat, k ≤ 6 ∧ t = .int .i64 (k : Int) ∧ Hid (∀ j, j < k → (!fltB n x j) = true) ∧ Hid (BoxS wr w.heap.size x) ∧ Hid (Below w.heap.size w wr)) (fun t _ => 6 - (intOf t).toNat)
  case atStart => exact ⟨0, Nat.zero_le _, rfl, fun j h => absurd h (Nat.not_lt_zero j), HBX, HB⟩
  case round =>
    obtain ⟨k, hk, rfl, hok, hbs, hB⟩ := hrel
    by_cases hlt : k < 6
    · have hlt' : (k : Int) < 6 := by omega
      obtain ⟨g', hg, hat⟩ := HFR.out _ hB.out
      injection hg with hg
      injection hg with hg
      injection hg with hg
      subst hg
      obtain ⟨F, caps, c0, c1, hrun, hcall⟩ := hat k hlt
      have hrunx := fun W => hrun W x
      have HC := hid hcall
      have HST := hid (fun h => all_step (p := fun k => !fltB n x k) (k := k) hok.out h)
      have HBAD := hid (fun h => allB_bad (n := 6) (p := fun k => !fltB n x k) hlt h)
      obtain ⟨wd, hwd⟩ : ∃ wd, wd = wdB k := ⟨_, rfl⟩
      rw [← hwd] at c0
      have HB1 := hid (show Below wr.heap.size wr (wr.alloc (.cells #[.string wd, .func (.func F) #[] caps] 68)) from (Below.refl _ _).alloc (Nat.le_refl _) _)
      obtain ⟨b0, b1, b2, b3, b4, b5, b6, b7, b8, b9⟩ := hbs.out.keep HB1.out
      have HLT := hid hlt
      clear hcall hat hlt hwd hrun
      have HBW := hid (fun W2 (g : Below wr.heap.size wr W2) => And.intro (hbs.out.keep g) (bstep hB.out hB.out.size g))
      cases hf : fltB n x k
      · have HE := hid (HST.out (by rw [hf]; rfl))
        have HF := hid hf
        clear hf
        go_wp2_with fail
        refine (HC.out _ x HB1.out HX.out).mono ?_
        rintro e w3 ⟨rfl, hb⟩
        rw [HF.out]
        obtain ⟨hq1, hq2⟩ := HBW.out _ (bstep HB1.out HB1.out.size hb)
        have HQ1 := hid hq1
        have HQ2 := hid hq2
        clear hb hq1 hq2 b0 b1 b2 b3 b4 b5 b6 b7 b8 b9
        go_wp2_with fail
        go_roundw
        case rel => exact ⟨k + 1, HLT.out, by go_num, HE, HQ1, HQ2⟩
        case measure => have := HLT.out; simp [intOf]; omega
      · have HE := hid (show goodB n x = false from HBAD.out (by rw [hf]; rfl))
        have HF := hid hf
        clear hf
        go_wp2_with fail
        refine (HC.out _ x HB1.out HX.out).mono ?_
        rintro e w3 ⟨rfl, hb⟩
        rw [HF.out]
        have HQ2 := hid (HBW.out _ (bstep HB1.out HB1.out.size hb)).2
        clear hb b0 b1 b2 b3 b4 b5 b6 b7 b8 b9
        go_wp2_with fail
        go_ret
        exact ⟨ret_bool HE.out.symm, HQ2.out⟩
    · obtain rfl : k = 6 := by omega
      have HE := hid (show goodB n x = true from allB_end hok.out)
      go_wp2
      go_ret
      exact ⟨ret_bool HE.out.symm, hB.out⟩
end Go.Proofs.Ytlhjiikbehmamaa
