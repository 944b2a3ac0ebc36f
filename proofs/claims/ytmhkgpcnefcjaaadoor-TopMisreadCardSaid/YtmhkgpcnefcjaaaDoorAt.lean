/- Layer 6's example of the whole (awake6 of the top); walk of TopMisread: what its last part stands on. -/
import Derived.Test.YtmhkgpcnefcjaaaDoorAr
import Derived.Test.YtmhkgpcnefcjaaaDoorZa
import Derived.Laws.Tables
import Derived.Test.YtmhkgpcnefcjaaaDoorAm
namespace Go.Proofs.YtmhkgpcnefcjaaaDoor
open Go.RowKit

def exC : ByteArray := ⟨#[65, 49, 55, 48, 49, 85, 50, 51, 85]⟩
def exT : ByteArray := ⟨#[66, 49, 55, 48, 49, 85, 50, 51, 85]⟩
set_option maxRecDepth 100000 in
theorem ex_only : dsC exT [exC] 1 = 0 ∧ dbO exT [exC] 1 = [0] := by
  have h1 : nineB exT = true := by decide
  have h2 : nineB exC = true := by decide
  have h : dsC exT [exC] 1 = 0 := by
    unfold dsC okS
    rw [h1]
    simp only [List.all_cons, List.all_nil, h2]
    decide
  refine ⟨h, ?_⟩
  unfold dbO
  rw [if_pos h]
  decide
set_option maxRecDepth 100000 in
set_option maxHeartbeats 4000000 in
theorem awake6t_any (w : World) (hw : Wts w) : Calls Tryd.prog 26 #[] w fun e w' => e = .returned (.bool true) ∧ Below w.heap.size w w' := by
  have HW := hid hw
  have HP := hid (fun W (g : Wts W) => cprint_ok ⟨#[65]⟩ ⟨#[49, 55]⟩ ⟨#[50]⟩ 59 3 2000 W ex_stamp isDate_59.1 g)
  rw [ex_print] at HP
  have hsl : exC.extract 1 9 = ⟨#[49, 55, 48, 49, 85, 50, 51, 85]⟩ := by kernel_rfl
  have HO := hid (fun W v (g : RowS W v [exC]) => conly_any exT v [exC] 1 W g)
  rw [ex_only.1, ex_only.2] at HO
  unfold exC exT at HO
  unfold exC at hsl
  clear hw
  go_enter Tryd.func26, Tryd.ntmps26
  go_wp2_with fail
  refine (HP.out _ HW.out).mono ?_
  rintro e w1 ⟨rfl, hb⟩
  have HB1 := hid hb
  clear hb
  have HR := hid (show RowS (w1.alloc (.cells #[.string ⟨#[65, 49, 55, 48, 49, 85, 50, 51, 85]⟩] 9)) (.slice (some ⟨w1.heap.size, 0, none⟩) 1 1) [⟨#[65, 49, 55, 48, 49, 85, 50, 51, 85]⟩] from
    ⟨_, w1.heap.size, 0, 1, rfl, .inr rfl, by unfold maxLen; simp, fun j hj => by
      obtain rfl : j = 0 := by simpa using hj
      rw [cell_alloc_new]
      rfl⟩)
  have HB2 := hid (HB1.out.alloc HB1.out.size (.cells #[.string ⟨#[65, 49, 55, 48, 49, 85, 50, 51, 85]⟩] 9))
  have HOO := hid (HO.out _ _ HR.out)
  go_wp2_with fail
  refine HOO.out.mono ?_
  rintro e w2 ⟨rfl, hb⟩
  have HB3 := hid (bstep HB2.out HB2.out.size hb)
  clear hb
  have h1 : onI [0] 0 = 0 := rfl
  have h2 : onB [0] 0 = true := rfl
  rw [h1, h2]
  go_wp2_with fail
  go_ret
  exact ⟨rfl, HB3.out⟩

/-- The facts on a misread code and the list of made ones. -/
structure Mis (cs : List ByteArray) (c S : ByteArray) (q p : Nat) (D d : Int) (L : List Int) : Prop where
  c0 : dsC S cs D = 0
  db : dbO S cs D = upQ D (dsL S cs)
  inn : decide ((q : Int) ∈ upQ D (dsL S cs)) = true
  le : d ≤ D
  dp : D ≤ p
  d0 : 0 ≤ D ∧ D ≤ 9
  near : d = D → decide ((q : Int) ∈ L) = true
  only : onB (upQ D (dsL S cs)) 0 = true → onI (upQ D (dsL S cs)) 0 = q
  one : D = 1 → soundS S = false
theorem mis_of {cs : List ByteArray} {c S : ByteArray} {q p : Nat} {d e : Int} {L : List Int} (hq : q < cs.length) (hc : cs[q] = c) (hall : cs.all nineB = true) (hsc : soundB (vals c) = true) (hn : cs.length ≤ 30) (hS : nineB S = true) (hp : dist9 (vals S) (vals c) ≤ p)
    (hN : Nr S cs L d e) : Mis cs c S q p (dist9 (vals S) (vals c)) d L ∧ e = 0 := by
  have hc9 : nineB c = true := by rw [← hc]; exact List.all_eq_true.1 hall _ (List.getElem_mem hq)
  have hbd := dist9_bd (vals S) (vals c)
  have hok : okS S cs = true := by unfold okS; rw [hS, hall]; rfl
  have hC : ∀ m : Int, 0 ≤ m ∧ m ≤ 9 → dsC S cs m = 0 := fun m hm => by
    unfold dsC
    rw [if_pos hok, if_pos (inB_iff.2 hm), if_neg (by omega)]
  have hdl : q < (dsL S cs).length := by rw [dsL_len]; exact hq
  have hdq : (dsL S cs)[q] = dist9 (vals S) (vals c) := by rw [dsL_at S cs hq hdl, hc]
  have hne : cs ≠ [] := by rintro rfl; simp at hq
  obtain ⟨n1, n2, n3⟩ := hN.some (hC 9 (by omega)) hne
  have hin : (q : Int) ∈ upQ (dist9 (vals S) (vals c)) (dsL S cs) := upQ_at hdl (by rw [hdq]; exact Int.le_refl _)
  have hle : d ≤ dist9 (vals S) (vals c) := n1.2 _ (by rw [← hdq]; exact List.getElem_mem hdl)
  refine ⟨⟨hC _ hbd, by unfold dbO; rw [if_pos (hC _ hbd)], decide_eq_true hin, hle, hp, hbd, fun h => ?_, fun h => ?_, fun h => one_off hS hc9 hsc h⟩, n3⟩
  · rw [n2, h]; exact decide_eq_true hin
  · unfold onB at h
    rw [if_pos rfl, decide_eq_true_iff] at h
    obtain ⟨x, hx⟩ := List.length_eq_one_iff.1 h
    rw [hx] at hin ⊢
    rw [List.mem_singleton] at hin
    rw [hin]
    rfl
/-- A stamp's five cells, in a world that is W but for what is new. -/
def C5 (W wx : World) (b : Nat) (x : Stp) : Prop := (wx.cell? ⟨b, 0, none⟩ = some (.string x.pl) ∧ wx.cell? ⟨b, 1, none⟩ = some (.string x.pr) ∧ wx.cell? ⟨b, 2, none⟩ = some (.string x.ln) ∧ wx.cell? ⟨b, 3, none⟩ = some (.int .i64 x.dy) ∧ wx.cell? ⟨b, 4, none⟩ = some (.int .i64 x.pe)) ∧ Below W.heap.size W wx
theorem c5_of {W w1 : World} {b : Nat} {x : Stp} {vs : List Value} (ht : w1.there b 0 vs.length) (hv : vs = [.string x.pl, .string x.pr, .string x.ln, .int .i64 x.dy, .int .i64 x.pe]) (hl : Below W.heap.size W (w1.setCells b 0 vs)) : C5 W (w1.setCells b 0 vs) b x := by
  have h : ∀ k (hk : k < vs.length), (w1.setCells b 0 vs).cell? ⟨b, k, none⟩ = some vs[k] := fun k hk => by
    have := World.rangeAt_setCells_same w1 b 0 vs ht k (vs[k]'hk) (List.getElem?_eq_getElem _)
    rw [Nat.zero_add] at this
    exact this
  subst hv
  exact ⟨⟨h 0 (by simp), h 1 (by simp), h 2 (by simp), h 3 (by simp), h 4 (by simp)⟩, hl⟩
theorem bk3 {A B : Prop} {W w1 w2 : World} (h : A ∧ B ∧ Hid (Below W.heap.size W w1)) (hb : Below w1.heap.size w1 w2) : Below W.heap.size W w2 := bstep h.2.2.out h.2.2.out.size hb
theorem ba3 {A B : Prop} {W w1 : World} (h : A ∧ B ∧ Hid (Below W.heap.size W w1)) (o : Obj) : Below W.heap.size W (w1.alloc o) := h.2.2.out.alloc h.2.2.out.size o
theorem below_stc {W : World} {b : Nat} (h2 : W.heap.size ≤ b) : ∀ (vs : List Value) (o : Nat) (w1 : World), Below W.heap.size W w1 → Below W.heap.size W (w1.setCells b o vs)
  | [], _, _, h => h
  | _ :: vs, o, _, h => below_stc h2 vs (o + 1) _ (h.setCell (p := ⟨b, o, none⟩) h2 _)
theorem bs3 {A B : Prop} {W w1 : World} {b : Nat} {vs : List Value} (h : A ∧ B ∧ Hid (Below W.heap.size W w1)) (h2 : W.heap.size ≤ b) : Below W.heap.size W (w1.setCells b 0 vs) := below_stc h2 vs 0 w1 h.2.2.out
theorem bst {w w1 w2 : World} (h : Below w.heap.size w w1) (k : Below w1.heap.size w1 w2) : Below w.heap.size w w2 := bstep h h.size k
theorem c5_new {W w1 : World} {x : Stp} (h : Below W.heap.size W w1) : C5 W (w1.alloc (.cells #[.string x.pl, .string x.pr, .string x.ln, .int .i64 x.dy, .int .i64 x.pe] 48)) w1.heap.size x :=
  ⟨⟨cell_alloc_new w1 _ _ _ 0, cell_alloc_new w1 _ _ _ 1, cell_alloc_new w1 _ _ _ 2, cell_alloc_new w1 _ _ _ 3, cell_alloc_new w1 _ _ _ 4⟩, h.alloc h.size _⟩
theorem c5_put {W w1 : World} {b : Nat} {T : TypeId} {x : Stp} {p q r s t : Value} (h : Bx W w1 b T #[p, q, r, s, t]) : C5 W (((((w1.setCell ⟨b, 0, none⟩ (.string x.pl)).setCell ⟨b, 1, none⟩ (.string x.pr)).setCell ⟨b, 2, none⟩ (.string x.ln)).setCell ⟨b, 3, none⟩ (.int .i64 x.dy)).setCell ⟨b, 4, none⟩ (.int .i64 x.pe)) b x :=
  have g := h.put5 (.string x.pl) (.string x.pr) (.string x.ln) (.int .i64 x.dy) (.int .i64 x.pe)
  ⟨g.five, g.low⟩
theorem low_setRow {B : Nat} {w w1 : World} {g : Nat} {cs : Array Value} (h : Below B w w1) (hg : B ≤ g) : Below B w (w1.setRow g cs) :=
  ⟨h.os, h.tape, h.output, by rw [size_setRow]; exact h.size, fun k hk => by
    unfold World.setRow
    simp only [Array.getElem?_modify]
    rw [if_neg (by omega)]
    exact h.block k hk⟩
theorem c5_set {W w1 : World} {g : Nat} {x : Stp} {old : Array Value} {T : TypeId} (hg : w1.heap[g]? = some (.cells old T (0, 0))) (hl : Below W.heap.size W w1) (h2 : W.heap.size ≤ g) : C5 W (w1.setRow g #[.string x.pl, .string x.pr, .string x.ln, .int .i64 x.dy, .int .i64 x.pe]) g x := by
  have h := setRow_heap w1 g old #[.string x.pl, .string x.pr, .string x.ln, .int .i64 x.dy, .int .i64 x.pe] T _ hg
  exact ⟨⟨cell_of_row _ _ 0 _ _ _ h, cell_of_row _ _ 1 _ _ _ h, cell_of_row _ _ 2 _ _ _ h, cell_of_row _ _ 3 _ _ _ h, cell_of_row _ _ 4 _ _ _ h⟩, low_setRow hl h2⟩
/-- The law of a store of a whole struct, at a step of a region that draws its order. -/
theorem step_store {P : Program} {w : World} {ops : Array Oper} {o : Oper} {a : Act} {K : Act → World → Prop} {Q : Exit → Act → World → Prop} {E : Prop} (hgd : o.guard = none) (ty : TypeId) (x y : Operand) (ho : o.op = .store ty x y)
    (g : Nat) (cells : Array Value) (hx : a.eval x = .pointer (some ⟨g, 0, none⟩)) (hy : a.eval y = .agg cells) (t : TypeId) (old : Array Value) (hg : w.heap[g]? = some (.cells old t (0, 0))) (hi : (P.info? ty).map (·.size) = some cells.size)
    (hold : old.size = cells.size) (h1 : cells.all (·.oneCell') = true) (h : K (a.put o.dst undef) (w.setRow g cells)) : if Region.wanted o (yielded ops a.tmps) = true then Oper.wp P o a w K Q else E := by
  have hw : Region.wanted o (yielded ops a.tmps) = true := by simp [Region.wanted, hgd]
  rw [if_pos hw]
  exact wp_store_row ty x y ho g cells hx hy t old hg hi hold h1 h
theorem eqZ3 (x : Stp) (w : World) : (Op.equalIn 10000 48 (.agg #[.string x.pl, .string x.pr, .string x.ln, .int .i64 x.dy, .int .i64 x.pe]) (.agg #[.string x.pl, .string x.pr, .string x.ln, .int .i64 x.dy, .int .i64 x.pe])).run Tryd.prog w = .ok true w := by
  rw [eq5]
  have : sameZ x x = true := sameZ_iff.2 rfl
  unfold sameZ at this
  rw [this]
theorem hoc5 {a b c : ByteArray} {d e : Int} : ∀ v : Value, v ∈ [Value.string a, .string b, .string c, .int .i64 d, .int .i64 e] → v.oneCell' = true := by simp [Value.oneCell']
theorem setS_step {c S : ByteArray} {k : Nat} {a b : Int} (hS : nineB S = true) (hd : dist9 (vals S) (vals c) ≤ k) (_ha : 0 ≤ a) (hb : 0 ≤ b ∧ b ≤ 30) : nineB (setS S a.toNat (sgn b)) = true ∧ dist9 (vals (setS S a.toNat (sgn b))) (vals c) ≤ ((k + 1 : Nat) : Int) := by
  refine ⟨nine_setS hS (by rw [valB_sgn hb]; exact hb.1), ?_⟩
  rw [vals_setS]
  have := dist9_set (vals S) (vals c) a.toNat (valB (sgn b))
  omega
theorem xchanged_i (s : ByteArray) (k : Nat) (c : UInt8) (a : Int) (v : Value) (w : World) (h : k < s.size) (ha : a = (k : Int)) (hv : v = .int .u8 (c.toNat : Int)) :
    Calls Tryd.prog 28 #[.string s, .int .i64 a, v] w fun e w' => e = .returned (.string (setS s k c)) ∧ Below w.heap.size w w' := by
  subst ha hv
  exact xchanged_any s k c w h
end Go.Proofs.YtmhkgpcnefcjaaaDoor
