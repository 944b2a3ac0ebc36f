/- Texts of this seat, one behind the other. -/
import Derived.Test.YtjfakhfkbnnbcaaOe
import Derived.Test.YtjfakhfkbnnbcaaOb
/- Walks of goodBy's function, of goodBy, Good and Faults: contracts. -/
namespace Go.Proofs.Ytjfakhfkbnnbcaa
open Go.RowKit

def fltB (n : Nm) (x : Sh) : Nat → Bool
  | 0 => !inB x.bh n.bl n.bh
  | 1 => !inB x.ch n.cl n.ch
  | 2 => decide (pctT x < n.pc)
  | 3 => decide (n.wr < x.wr)
  | 4 => !inB x.th n.tl n.th
  | _ => !inB x.cs n.sl n.sh
def wdB : Nat → ByteArray
  | 0 => ⟨#[98, 111, 100, 121]⟩
  | 1 => ⟨#[99, 111, 118, 101, 114]⟩
  | 2 => ⟨#[111, 118, 101, 114, 108, 97, 112]⟩
  | 3 => ⟨#[119, 114, 105, 110, 107, 108, 101]⟩
  | 4 => ⟨#[116, 104, 105, 99, 107, 110, 101, 115, 115]⟩
  | _ => ⟨#[99, 111, 117, 110, 116, 101, 114, 115, 105, 110, 107]⟩
/-- The words for what is not good among the first k. -/
def fltL (n : Nm) (x : Sh) (k : Nat) : List ByteArray := ((List.range k).filter (fltB n x)).map wdB
def goodB (n : Nm) (x : Sh) : Bool := allB 6 fun k => !fltB n x k
theorem fltL_yes {n : Nm} {x : Sh} {k : Nat} (h : fltB n x k = true) : fltL n x (k + 1) = fltL n x k ++ [wdB k] := by simp [fltL, List.range_succ, List.filter_append, h]
theorem fltL_no {n : Nm} {x : Sh} {k : Nat} (h : fltB n x k = false) : fltL n x (k + 1) = fltL n x k := by simp [fltL, List.range_succ, List.filter_append, h]
theorem fltL_len (n : Nm) (x : Sh) (k : Nat) : (fltL n x k).length ≤ k := by
  have h := List.length_filter_le (fltB n x) (List.range k)
  simpa [fltL] using h
theorem good_list (n : Nm) (x : Sh) : decide ((fltL n x 6).length = 0) = goodB n x := by
  rw [Bool.eq_iff_iff, decide_eq_true_iff]
  unfold goodB fltL
  rw [allB_iff, List.length_map, List.length_eq_zero_iff, List.filter_eq_nil_iff]
  constructor
  · intro h j hj
    have := h j (List.mem_range.2 hj)
    simpa using this
  · intro h j hj
    have := h j (List.mem_range.1 hj)
    simpa using this
theorem call_enter {F : Nat} {fn : Func} (hf : Try.prog.funcs[F]? = some fn) (hn : (fn.name == "runtime.NumGoroutine") = false) (hb : fn.body.isNone = false) (args : Array Value) (W : World) : Sem.run Try.prog (callFunc F args) W = .ok (.enter F args) W := by
  have hn' : ¬ fn.name = "runtime.NumGoroutine" := by simpa using hn
  have hb' : ¬ fn.body = none := fun h => by rw [h] at hb; cases hb
  simp [callFunc, go_sem, hf, hn', hb']
/-- Six faults that lie in a slice, and do what they should. -/
def FaultR (n : Nm) (w : World) (v : Value) : Prop := ∃ g : Nat, v = .slice (some ⟨g, 0, none⟩) 6 6 ∧ ∀ k, k < 6 → ∃ (F : Nat) (caps : Array Value), w.cell? ⟨g, k * 2, none⟩ = some (.string (wdB k)) ∧ w.cell? ⟨g, k * 2 + 1, none⟩ = some (.func (.func F) #[] caps) ∧
  (∀ (W : World) (x : Sh), Sem.run Try.prog (callFunc F (#[.agg #[.int .i64 x.tk, .int .i64 x.hd, .int .i64 x.bh, .int .i64 x.ch, .int .i64 x.ht, .int .i64 x.ep, .int .i64 x.bp, .int .i64 x.wr, .int .i64 x.th, .int .i64 x.cs]] ++ caps)) W = .ok (.enter F (#[.agg #[.int .i64 x.tk, .int .i64 x.hd, .int .i64 x.bh, .int .i64 x.ch, .int .i64 x.ht, .int .i64 x.ep, .int .i64 x.bp, .int .i64 x.wr, .int .i64 x.th, .int .i64 x.cs]] ++ caps)) W) ∧ ∀ (W : World) (x : Sh), Below w.heap.size w W → shB x = true → Calls Try.prog F (#[.agg #[.int .i64 x.tk, .int .i64 x.hd, .int .i64 x.bh, .int .i64 x.ch, .int .i64 x.ht, .int .i64 x.ep, .int .i64 x.bp, .int .i64 x.wr, .int .i64 x.th, .int .i64 x.cs]] ++ caps) W fun e w' => e = .returned (.bool (fltB n x k)) ∧ Below W.heap.size W w'
theorem FaultR.keep {n : Nm} {W w2 : World} {v : Value} (h : FaultR n W v) (hb : Below W.heap.size W w2) : FaultR n w2 v := by
  obtain ⟨g, hv, h⟩ := h
  refine ⟨g, hv, fun k hk => ?_⟩
  obtain ⟨F, caps, h1, h2, h0, h3⟩ := h k hk
  exact ⟨F, caps, keep_cell hb h1, keep_cell hb h2, h0, fun W2 x g2 hx => h3 W2 x (bstep hb hb.size g2) hx⟩
theorem faultR_of {n : Nm} {w w' : World} {e : Ending} (h : FaultsP n w e w') : ∃ v, e = .returned v ∧ FaultR n w' v ∧ Below w.heap.size w w' := by
  obtain ⟨g, b0, b1, b4, b5, he, hc, p0, p1, p4, p5, hx⟩ := h
  refine ⟨_, he, ⟨g, rfl, fun k hk => ?_⟩, hx.low⟩
  rcases (show k = 0 ∨ k = 1 ∨ k = 2 ∨ k = 3 ∨ k = 4 ∨ k = 5 by omega) with rfl | rfl | rfl | rfl | rfl | rfl
  · exact ⟨_, _, hc 0, hc 1, fun W x => call_enter Try.func91 (by kernel_rfl) (by kernel_rfl) _ W, fun W x hb hs => fault1_any x _ _ b0 W (p0.keep hb)⟩
  · exact ⟨_, _, hc 2, hc 3, fun W x => call_enter Try.func91 (by kernel_rfl) (by kernel_rfl) _ W, fun W x hb hs => fault2_any x _ _ b1 W (p1.keep hb)⟩
  · exact ⟨_, _, hc 4, hc 5, fun W x => call_enter Try.func79 (by kernel_rfl) (by kernel_rfl) _ W, fun W x hb hs => fault3_any x _ _ W (shB_iff.1 hs) (keep_cell hb (hx.fst 4))⟩
  · exact ⟨_, _, hc 6, hc 7, fun W x => call_enter Try.func80 (by kernel_rfl) (by kernel_rfl) _ W, fun W x hb hs => fault4_any x _ _ W (keep_cell hb (hx.fst 5))⟩
  · exact ⟨_, _, hc 8, hc 9, fun W x => call_enter Try.func91 (by kernel_rfl) (by kernel_rfl) _ W, fun W x hb hs => fault5_any x _ _ b4 W (p4.keep hb)⟩
  · exact ⟨_, _, hc 10, hc 11, fun W x => call_enter Try.func91 (by kernel_rfl) (by kernel_rfl) _ W, fun W x hb hs => fault6_any x _ _ b5 W (p5.keep hb)⟩
set_option maxRecDepth 20000 in
set_option maxHeartbeats 8000000 in
theorem goodF_any (n : Nm) (x : Sh) (v : Value) (g1 : Nat) (w : World) (hx : shB x = true) (hv : w.cell? ⟨g1, 0, none⟩ = some v) (hF : FaultR n w v) :
    Calls Try.prog 59 #[.agg #[.int .i64 x.tk, .int .i64 x.hd, .int .i64 x.bh, .int .i64 x.ch, .int .i64 x.ht, .int .i64 x.ep, .int .i64 x.bp, .int .i64 x.wr, .int .i64 x.th, .int .i64 x.cs], .pointer (some ⟨g1, 0, none⟩)] w fun e w' => e = .returned (.bool (goodB n x)) ∧ Below w.heap.size w w' := by
  have HX := hid hx
  have HFR := hid (fun W (g : Below w.heap.size w W) => hF.keep g)
  obtain ⟨g, rfl, _⟩ := hF
  have HB := hid (boxS_below w x)
  have HBX := hid (boxS_new w x)
  have hv1 := keep_cell (boxS_below w x) hv
  clear hx hv
  go_enter Try.func59, Try.ntmps59
  go_wp2
  generalize World.alloc w _ = W0 at *
  clear hv1
  go_loopw [8] (fun t wr => ∃ k : Nat, k ≤ 6 ∧ t = .int .i64 (k : Int) ∧ Hid (∀ j, j < k → (!fltB n x j) = true) ∧ Hid (BoxS wr w.heap.size x) ∧ Hid (Below w.heap.size w wr)) (fun t _ => 6 - (intOf t).toNat)
  case atStart => exact ⟨0, Nat.zero_le _, rfl, fun j h => absurd h (Nat.not_lt_zero j), HBX, HB⟩
  case round =>
    obtain ⟨k, hk, rfl, hok, hbs, hB⟩ := hrel
    by_cases hlt : k < 6
    · have hlt' : (k : Int) < 6 := by omega
      obtain ⟨g', hg, hat⟩ := HFR.out _ hB.out
      injection hg with hg
      injection hg with hg
      injection hg with hg
      subst hg
      obtain ⟨F, caps, c0, c1, hrun, hcall⟩ := hat k hlt
      have hrunx := fun W => hrun W x
      have HC := hid hcall
      have HST := hid (fun h => all_step (p := fun k => !fltB n x k) (k := k) hok.out h)
      have HBAD := hid (fun h => allB_bad (n := 6) (p := fun k => !fltB n x k) hlt h)
      obtain ⟨wd, hwd⟩ : ∃ wd, wd = wdB k := ⟨_, rfl⟩
      rw [← hwd] at c0
      have HB1 := hid (show Below wr.heap.size wr (wr.alloc (.cells #[.string wd, .func (.func F) #[] caps] 91)) from (Below.refl _ _).alloc (Nat.le_refl _) _)
      obtain ⟨b0, b1, b2, b3, b4, b5, b6, b7, b8, b9⟩ := hbs.out.keep HB1.out
      have HLT := hid hlt
      clear hcall hat hlt hwd hrun
      have HBW := hid (fun W2 (g : Below wr.heap.size wr W2) => And.intro (hbs.out.keep g) (bstep hB.out hB.out.size g))
      cases hf : fltB n x k
      · have HE := hid (HST.out (by rw [hf]; rfl))
        have HF := hid hf
        clear hf
        go_wp2_with fail
        refine (HC.out _ x HB1.out HX.out).mono ?_
        rintro e w3 ⟨rfl, hb⟩
        rw [HF.out]
        obtain ⟨hq1, hq2⟩ := HBW.out _ (bstep HB1.out HB1.out.size hb)
        have HQ1 := hid hq1
        have HQ2 := hid hq2
        clear hb hq1 hq2 b0 b1 b2 b3 b4 b5 b6 b7 b8 b9
        go_wp2_with fail
        go_roundw
        case rel => exact ⟨k + 1, HLT.out, by go_num, HE, HQ1, HQ2⟩
        case measure => have := HLT.out; simp [intOf]; omega
      · have HE := hid (show goodB n x = false from HBAD.out (by rw [hf]; rfl))
        have HF := hid hf
        clear hf
        go_wp2_with fail
        refine (HC.out _ x HB1.out HX.out).mono ?_
        rintro e w3 ⟨rfl, hb⟩
        rw [HF.out]
        have HQ2 := hid (HBW.out _ (bstep HB1.out HB1.out.size hb)).2
        clear hb b0 b1 b2 b3 b4 b5 b6 b7 b8 b9
        go_wp2_with fail
        go_ret
        exact ⟨ret_bool HE.out.symm, HQ2.out⟩
    · obtain rfl : k = 6 := by omega
      have HE := hid (show goodB n x = true from allB_end hok.out)
      go_wp2
      go_ret
      exact ⟨ret_bool HE.out.symm, hB.out⟩
end Go.Proofs.Ytjfakhfkbnnbcaa

/- Walks of goodBy, Good and Faults: contracts. -/
namespace Go.Proofs.Ytjfakhfkbnnbcaa
open Go.RowKit

/-- What goodBy makes. -/
def GoodByP (n : Nm) (w : World) (e : Ending) (w' : World) : Prop := ∃ (g1 : Nat) (v : Value), e = .returned (.func (.func 59) #[] #[.pointer (some ⟨g1, 0, none⟩)]) ∧ w'.cell? ⟨g1, 0, none⟩ = some v ∧ FaultR n w' v ∧ Below w.heap.size w w'
set_option maxHeartbeats 2000000 in
theorem goodBy_any (n : Nm) (w : World) : Calls Try.prog 32 #[.agg #[.int .i64 n.bl, .int .i64 n.bh, .int .i64 n.cl, .int .i64 n.ch, .int .i64 n.pc, .int .i64 n.wr, .int .i64 n.tl, .int .i64 n.th, .int .i64 n.sl, .int .i64 n.sh]] w (GoodByP n w) := by
  have HX := hid (box1_start (w := w) (A := #[.int .i64 n.bl, .int .i64 n.bh, .int .i64 n.cl, .int .i64 n.ch, .int .i64 n.pc, .int .i64 n.wr, .int .i64 n.tl, .int .i64 n.th, .int .i64 n.sl, .int .i64 n.sh]) (T := 23) (fz := (0, 0)))
  have HBX := hid (fun w1 (g : Below (w.alloc (.cells #[.int .i64 n.bl, .int .i64 n.bh, .int .i64 n.cl, .int .i64 n.ch, .int .i64 n.pc, .int .i64 n.wr, .int .i64 n.tl, .int .i64 n.th, .int .i64 n.sl, .int .i64 n.sh] 23)).heap.size (w.alloc (.cells #[.int .i64 n.bl, .int .i64 n.bh, .int .i64 n.cl, .int .i64 n.ch, .int .i64 n.pc, .int .i64 n.wr, .int .i64 n.tl, .int .i64 n.th, .int .i64 n.sl, .int .i64 n.sh] 23)) w1) => box1_call g)
  go_enter Try.func32, Try.ntmps32
  go_wp2_with fail
  refine (faultsBy_any n _).mono ?_
  intro e w1 hf
  obtain ⟨v, rfl, hF, hb⟩ := faultR_of hf
  have HX1 := hid (HBX.out _ hb)
  have HK := hid (show Below w1.heap.size w1 (w1.alloc (.cells #[v] 88)) from (Below.refl _ _).alloc (Nat.le_refl _) _)
  have HF := hid (hF.keep HK.out)
  have HC := hid (cell_alloc_new w1 #[v] 88 (0, 0) 0)
  have HB := hid (bstep HX1.out.low HX1.out.low.size HK.out)
  obtain ⟨g, rfl, _⟩ := hF
  clear hf hb
  go_wp2_with fail
  go_ret
  exact ⟨_, _, rfl, HC.out, HF.out, HB.out⟩
def okG (n : Nm) (x : Sh) : Bool := nmB n && shB x
/-- A bool and an error. -/
def BoolP (b : Bool) (c : Int) (w : World) (e : Ending) (w' : World) : Prop := e = .returned (.tuple #[.bool b, .int .i64 c]) ∧ Below w.heap.size w w'
theorem sg_keep {w W w2 : World} {a b : Nat} {n : Nm} {x : Sh} (hb : Below W.heap.size W w2) (h : World.cell? (W) ⟨a, 0, none⟩ = some (.int .i64 n.bl) ∧ World.cell? (W) ⟨a, 1, none⟩ = some (.int .i64 n.bh) ∧ World.cell? (W) ⟨a, 2, none⟩ = some (.int .i64 n.cl) ∧ World.cell? (W) ⟨a, 3, none⟩ = some (.int .i64 n.ch) ∧ World.cell? (W) ⟨a, 4, none⟩ = some (.int .i64 n.pc) ∧ World.cell? (W) ⟨a, 5, none⟩ = some (.int .i64 n.wr) ∧ World.cell? (W) ⟨a, 6, none⟩ = some (.int .i64 n.tl) ∧ World.cell? (W) ⟨a, 7, none⟩ = some (.int .i64 n.th) ∧ World.cell? (W) ⟨a, 8, none⟩ = some (.int .i64 n.sl) ∧ World.cell? (W) ⟨a, 9, none⟩ = some (.int .i64 n.sh) ∧ World.cell? (W) ⟨b, 0, none⟩ = some (.int .i64 x.tk) ∧ World.cell? (W) ⟨b, 1, none⟩ = some (.int .i64 x.hd) ∧ World.cell? (W) ⟨b, 2, none⟩ = some (.int .i64 x.bh) ∧ World.cell? (W) ⟨b, 3, none⟩ = some (.int .i64 x.ch) ∧ World.cell? (W) ⟨b, 4, none⟩ = some (.int .i64 x.ht) ∧ World.cell? (W) ⟨b, 5, none⟩ = some (.int .i64 x.ep) ∧ World.cell? (W) ⟨b, 6, none⟩ = some (.int .i64 x.bp) ∧ World.cell? (W) ⟨b, 7, none⟩ = some (.int .i64 x.wr) ∧ World.cell? (W) ⟨b, 8, none⟩ = some (.int .i64 x.th) ∧ World.cell? (W) ⟨b, 9, none⟩ = some (.int .i64 x.cs) ∧ Below w.heap.size w (W)) : World.cell? (w2) ⟨a, 0, none⟩ = some (.int .i64 n.bl) ∧ World.cell? (w2) ⟨a, 1, none⟩ = some (.int .i64 n.bh) ∧ World.cell? (w2) ⟨a, 2, none⟩ = some (.int .i64 n.cl) ∧ World.cell? (w2) ⟨a, 3, none⟩ = some (.int .i64 n.ch) ∧ World.cell? (w2) ⟨a, 4, none⟩ = some (.int .i64 n.pc) ∧ World.cell? (w2) ⟨a, 5, none⟩ = some (.int .i64 n.wr) ∧ World.cell? (w2) ⟨a, 6, none⟩ = some (.int .i64 n.tl) ∧ World.cell? (w2) ⟨a, 7, none⟩ = some (.int .i64 n.th) ∧ World.cell? (w2) ⟨a, 8, none⟩ = some (.int .i64 n.sl) ∧ World.cell? (w2) ⟨a, 9, none⟩ = some (.int .i64 n.sh) ∧ World.cell? (w2) ⟨b, 0, none⟩ = some (.int .i64 x.tk) ∧ World.cell? (w2) ⟨b, 1, none⟩ = some (.int .i64 x.hd) ∧ World.cell? (w2) ⟨b, 2, none⟩ = some (.int .i64 x.bh) ∧ World.cell? (w2) ⟨b, 3, none⟩ = some (.int .i64 x.ch) ∧ World.cell? (w2) ⟨b, 4, none⟩ = some (.int .i64 x.ht) ∧ World.cell? (w2) ⟨b, 5, none⟩ = some (.int .i64 x.ep) ∧ World.cell? (w2) ⟨b, 6, none⟩ = some (.int .i64 x.bp) ∧ World.cell? (w2) ⟨b, 7, none⟩ = some (.int .i64 x.wr) ∧ World.cell? (w2) ⟨b, 8, none⟩ = some (.int .i64 x.th) ∧ World.cell? (w2) ⟨b, 9, none⟩ = some (.int .i64 x.cs) ∧ Below w.heap.size w (w2) :=
  ⟨keep_cell hb h.1, keep_cell hb h.2.1, keep_cell hb h.2.2.1, keep_cell hb h.2.2.2.1, keep_cell hb h.2.2.2.2.1, keep_cell hb h.2.2.2.2.2.1, keep_cell hb h.2.2.2.2.2.2.1, keep_cell hb h.2.2.2.2.2.2.2.1, keep_cell hb h.2.2.2.2.2.2.2.2.1, keep_cell hb h.2.2.2.2.2.2.2.2.2.1, keep_cell hb h.2.2.2.2.2.2.2.2.2.2.1, keep_cell hb h.2.2.2.2.2.2.2.2.2.2.2.1, keep_cell hb h.2.2.2.2.2.2.2.2.2.2.2.2.1, keep_cell hb h.2.2.2.2.2.2.2.2.2.2.2.2.2.1, keep_cell hb h.2.2.2.2.2.2.2.2.2.2.2.2.2.2.1, keep_cell hb h.2.2.2.2.2.2.2.2.2.2.2.2.2.2.2.1, keep_cell hb h.2.2.2.2.2.2.2.2.2.2.2.2.2.2.2.2.1, keep_cell hb h.2.2.2.2.2.2.2.2.2.2.2.2.2.2.2.2.2.1, keep_cell hb h.2.2.2.2.2.2.2.2.2.2.2.2.2.2.2.2.2.2.1, keep_cell hb h.2.2.2.2.2.2.2.2.2.2.2.2.2.2.2.2.2.2.2.1, bstep h.2.2.2.2.2.2.2.2.2.2.2.2.2.2.2.2.2.2.2.2 h.2.2.2.2.2.2.2.2.2.2.2.2.2.2.2.2.2.2.2.2.size hb⟩
theorem sg_new {w W : World} {n : Nm} {x : Sh} (h : Box2 w W #[.int .i64 n.bl, .int .i64 n.bh, .int .i64 n.cl, .int .i64 n.ch, .int .i64 n.pc, .int .i64 n.wr, .int .i64 n.tl, .int .i64 n.th, .int .i64 n.sl, .int .i64 n.sh] #[.int .i64 x.tk, .int .i64 x.hd, .int .i64 x.bh, .int .i64 x.ch, .int .i64 x.ht, .int .i64 x.ep, .int .i64 x.bp, .int .i64 x.wr, .int .i64 x.th, .int .i64 x.cs]) : World.cell? (W.drew) ⟨w.heap.size, 0, none⟩ = some (.int .i64 n.bl) ∧ World.cell? (W.drew) ⟨w.heap.size, 1, none⟩ = some (.int .i64 n.bh) ∧ World.cell? (W.drew) ⟨w.heap.size, 2, none⟩ = some (.int .i64 n.cl) ∧ World.cell? (W.drew) ⟨w.heap.size, 3, none⟩ = some (.int .i64 n.ch) ∧ World.cell? (W.drew) ⟨w.heap.size, 4, none⟩ = some (.int .i64 n.pc) ∧ World.cell? (W.drew) ⟨w.heap.size, 5, none⟩ = some (.int .i64 n.wr) ∧ World.cell? (W.drew) ⟨w.heap.size, 6, none⟩ = some (.int .i64 n.tl) ∧ World.cell? (W.drew) ⟨w.heap.size, 7, none⟩ = some (.int .i64 n.th) ∧ World.cell? (W.drew) ⟨w.heap.size, 8, none⟩ = some (.int .i64 n.sl) ∧ World.cell? (W.drew) ⟨w.heap.size, 9, none⟩ = some (.int .i64 n.sh) ∧ World.cell? (W.drew) ⟨w.heap.size + 1, 0, none⟩ = some (.int .i64 x.tk) ∧ World.cell? (W.drew) ⟨w.heap.size + 1, 1, none⟩ = some (.int .i64 x.hd) ∧ World.cell? (W.drew) ⟨w.heap.size + 1, 2, none⟩ = some (.int .i64 x.bh) ∧ World.cell? (W.drew) ⟨w.heap.size + 1, 3, none⟩ = some (.int .i64 x.ch) ∧ World.cell? (W.drew) ⟨w.heap.size + 1, 4, none⟩ = some (.int .i64 x.ht) ∧ World.cell? (W.drew) ⟨w.heap.size + 1, 5, none⟩ = some (.int .i64 x.ep) ∧ World.cell? (W.drew) ⟨w.heap.size + 1, 6, none⟩ = some (.int .i64 x.bp) ∧ World.cell? (W.drew) ⟨w.heap.size + 1, 7, none⟩ = some (.int .i64 x.wr) ∧ World.cell? (W.drew) ⟨w.heap.size + 1, 8, none⟩ = some (.int .i64 x.th) ∧ World.cell? (W.drew) ⟨w.heap.size + 1, 9, none⟩ = some (.int .i64 x.cs) ∧ Below w.heap.size w (W.drew) :=
  ⟨h.fst 0, h.fst 1, h.fst 2, h.fst 3, h.fst 4, h.fst 5, h.fst 6, h.fst 7, h.fst 8, h.fst 9, h.snd 0, h.snd 1, h.snd 2, h.snd 3, h.snd 4, h.snd 5, h.snd 6, h.snd 7, h.snd 8, h.snd 9, h.low.drew⟩
theorem sg_low {w W : World} {a b : Nat} {n : Nm} {x : Sh} (h : World.cell? (W) ⟨a, 0, none⟩ = some (.int .i64 n.bl) ∧ World.cell? (W) ⟨a, 1, none⟩ = some (.int .i64 n.bh) ∧ World.cell? (W) ⟨a, 2, none⟩ = some (.int .i64 n.cl) ∧ World.cell? (W) ⟨a, 3, none⟩ = some (.int .i64 n.ch) ∧ World.cell? (W) ⟨a, 4, none⟩ = some (.int .i64 n.pc) ∧ World.cell? (W) ⟨a, 5, none⟩ = some (.int .i64 n.wr) ∧ World.cell? (W) ⟨a, 6, none⟩ = some (.int .i64 n.tl) ∧ World.cell? (W) ⟨a, 7, none⟩ = some (.int .i64 n.th) ∧ World.cell? (W) ⟨a, 8, none⟩ = some (.int .i64 n.sl) ∧ World.cell? (W) ⟨a, 9, none⟩ = some (.int .i64 n.sh) ∧ World.cell? (W) ⟨b, 0, none⟩ = some (.int .i64 x.tk) ∧ World.cell? (W) ⟨b, 1, none⟩ = some (.int .i64 x.hd) ∧ World.cell? (W) ⟨b, 2, none⟩ = some (.int .i64 x.bh) ∧ World.cell? (W) ⟨b, 3, none⟩ = some (.int .i64 x.ch) ∧ World.cell? (W) ⟨b, 4, none⟩ = some (.int .i64 x.ht) ∧ World.cell? (W) ⟨b, 5, none⟩ = some (.int .i64 x.ep) ∧ World.cell? (W) ⟨b, 6, none⟩ = some (.int .i64 x.bp) ∧ World.cell? (W) ⟨b, 7, none⟩ = some (.int .i64 x.wr) ∧ World.cell? (W) ⟨b, 8, none⟩ = some (.int .i64 x.th) ∧ World.cell? (W) ⟨b, 9, none⟩ = some (.int .i64 x.cs) ∧ Below w.heap.size w (W)) : Below w.heap.size w W := h.2.2.2.2.2.2.2.2.2.2.2.2.2.2.2.2.2.2.2.2
theorem Box2.sheet {w w1 : World} {A : Array Value} {x : Sh} (h : Box2 w w1 A #[.int .i64 x.tk, .int .i64 x.hd, .int .i64 x.bh, .int .i64 x.ch, .int .i64 x.ht, .int .i64 x.ep, .int .i64 x.bp, .int .i64 x.wr, .int .i64 x.th, .int .i64 x.cs]) : BoxS w1 (w.heap.size + 1) x := ⟨h.snd 0, h.snd 1, h.snd 2, h.snd 3, h.snd 4, h.snd 5, h.snd 6, h.snd 7, h.snd 8, h.snd 9⟩
theorem Box2.norm {w w1 : World} {B : Array Value} {n : Nm} (h : Box2 w w1 #[.int .i64 n.bl, .int .i64 n.bh, .int .i64 n.cl, .int .i64 n.ch, .int .i64 n.pc, .int .i64 n.wr, .int .i64 n.tl, .int .i64 n.th, .int .i64 n.sl, .int .i64 n.sh] B) : World.cell? (w1) ⟨w.heap.size, 0, none⟩ = some (.int .i64 n.bl) ∧ World.cell? (w1) ⟨w.heap.size, 1, none⟩ = some (.int .i64 n.bh) ∧ World.cell? (w1) ⟨w.heap.size, 2, none⟩ = some (.int .i64 n.cl) ∧ World.cell? (w1) ⟨w.heap.size, 3, none⟩ = some (.int .i64 n.ch) ∧ World.cell? (w1) ⟨w.heap.size, 4, none⟩ = some (.int .i64 n.pc) ∧ World.cell? (w1) ⟨w.heap.size, 5, none⟩ = some (.int .i64 n.wr) ∧ World.cell? (w1) ⟨w.heap.size, 6, none⟩ = some (.int .i64 n.tl) ∧ World.cell? (w1) ⟨w.heap.size, 7, none⟩ = some (.int .i64 n.th) ∧ World.cell? (w1) ⟨w.heap.size, 8, none⟩ = some (.int .i64 n.sl) ∧ World.cell? (w1) ⟨w.heap.size, 9, none⟩ = some (.int .i64 n.sh) := ⟨h.fst 0, h.fst 1, h.fst 2, h.fst 3, h.fst 4, h.fst 5, h.fst 6, h.fst 7, h.fst 8, h.fst 9⟩
end Go.Proofs.Ytjfakhfkbnnbcaa
