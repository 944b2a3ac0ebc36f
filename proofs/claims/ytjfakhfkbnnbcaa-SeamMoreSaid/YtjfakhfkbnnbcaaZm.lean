/- Walk of the iterator over the pairs of checks of a head. -/
import Derived.Test.YtjfakhfkbnnbcaaP8
import Derived.Shelf.Abstract
import Derived.Shelf.RegionOpen
import Derived.WalkKit
import Derived.OwnWalkIn
import Derived.TacticsInMore
import Derived.LoopNIn
import Derived.LoopIn
namespace Go.Proofs.Ytjfakhfkbnnbcaa
open Go.RowKit Go.Shelf
attribute [local go_sem] Oper.semAt_some

section
variable {F : Fence} {nF : Nat} {P : Program} {w : World} {ops : Array Oper} {rest : List Oper} {o : Oper} {a : Act} {Q : Exit → Act → World → Prop}
/-- A whole struct is loaded, in a fenced walk. -/
theorem wpListIn_load_whole (hgd : o.guard = none) (ty : TypeId) (x : Operand) (ho : o.op = .load ty x) (g : Nat) (hx : a.eval x = .pointer (some ⟨g, 0, none⟩)) (t : TypeId) (cs : Array Value) (fr : Nat × Nat) (d : TypeDesc) (hg : w.heap[g]? = some (.cells cs t fr))
    (hu : P.underlying ty = some d) (hd : (match d with | .struct _ | .array _ _ => true | _ => false) = true) (hi : (P.info? ty).map (·.size) = some cs.size)
    (h : wpListIn F nF P ops Q rest (a.put o.dst (.agg cs)) w) : wpListIn F nF P ops Q (o :: rest) a w := by
  refine wpListIn_plain hgd fun K hK => ?_
  unfold Oper.wpIn
  refine ⟨by simp [Oper.about, ho], ?_⟩
  rw [Oper.semAt_plain F _ _ (by rw [ho]; intro c hc'; cases hc')]
  simp only [execOp, ho, hx, Instr.loadAt, Instr.sureAddr, Sem.run_bind, Sem.run_pure, Result.andThen_ok, run_loadVar_row w g t ty cs fr d hg hu hd hi]
  exact hK _ _ h
/-- A whole struct is stored, in a fenced walk. -/
theorem wpListIn_store_whole (hgd : o.guard = none) (ty : TypeId) (x y : Operand) (ho : o.op = .store ty x y) (g : Nat) (cells : Array Value) (hx : a.eval x = .pointer (some ⟨g, 0, none⟩)) (hy : a.eval y = .agg cells)
    (t : TypeId) (old : Array Value) (hg : w.heap[g]? = some (.cells old t (0, 0))) (hi : (P.info? ty).map (·.size) = some cells.size) (hold : old.size = cells.size) (h1 : cells.all (·.oneCell') = true)
    (h : wpListIn F nF P ops Q rest (a.put o.dst undef) (w.setRow g cells)) : wpListIn F nF P ops Q (o :: rest) a w := by
  refine wpListIn_plain hgd fun K hK => ?_
  unfold Oper.wpIn
  refine ⟨by simp [Oper.about, ho], ?_⟩
  rw [Oper.semAt_plain F _ _ (by rw [ho]; intro c hc'; cases hc')]
  simp only [execOp, ho, hx, hy, Instr.storeAt, Instr.sureAddr, Sem.run_bind, Sem.run_pure, Result.andThen_ok, run_storeVar_row w g t ty old cells hg hi hold h1]
  exact hK _ _ h
end

/-- A check's cells. -/
def ckA (c : Ck) : Array Value := #[.int .i64 c.tk, .int .i64 c.hd, .bool c.gd]
def encP (p : Ck × Ck) : Array Value := #[.agg (ckA p.1), .agg (ckA p.2)]
/-- Every block of the n0 first stays, but two; and every check stays. -/
structure KpP (n0 x0 y0 : Nat) (W W' : World) : Prop where
  size : W.heap.size ≤ W'.heap.size
  low : ∀ j, j < n0 → j ≠ x0 → j ≠ y0 → W'.heap[j]? = W.heap[j]?
  cks : ∀ (j : Nat) (cs : Array Value), W.heap[j]? = some (Obj.cells cs 75 (0, 0)) → W'.heap[j]? = some (Obj.cells cs 75 (0, 0))
theorem KpP.trans {n0 x0 y0 : Nat} {A B C : World} (h : KpP n0 x0 y0 A B) (k : KpP n0 x0 y0 B C) : KpP n0 x0 y0 A C :=
  ⟨Nat.le_trans h.size k.size, fun j h1 h2 h3 => (k.low j h1 h2 h3).trans (h.low j h1 h2 h3), fun j cs h1 => k.cks j cs (h.cks j cs h1)⟩
theorem KpP.put {n0 x0 y0 l : Nat} {W : World} {o o' : Obj} (hl : n0 ≤ l) (h : W.heap[l]? = some o) (hc : o.isCells = false) : KpP n0 x0 y0 W (W.putObj l o') :=
  ⟨by simp, fun j h1 _ _ => World.putObj_heap_other (by omega), fun j cs h1 => (World.putObj_heap_other (by rintro rfl; rw [h] at h1; cases h1; cases hc)).trans h1⟩
/-- What the iterator stands on: the head's box, the closer's box, the checks. -/
structure ItP (h : Int) (l : List Ck) (hb cb : Nat) (a : Option Addr) (ba o cap n0 : Nat) (w : World) : Prop where
  hp : w.cell? ⟨hb, 0, none⟩ = some (.int .i64 h)
  cp : w.cell? ⟨cb, 0, none⟩ = some (.slice a l.length cap)
  addr : l = [] ∨ a = some ⟨ba, o, none⟩
  cells : ∀ j (h : j < l.length), w.cell? ⟨ba, o + j * 3, none⟩ = some (.int .i64 l[j].tk) ∧ w.cell? ⟨ba, o + j * 3 + 1, none⟩ = some (.int .i64 l[j].hd) ∧ w.cell? ⟨ba, o + j * 3 + 2, none⟩ = some (.bool l[j].gd)
  lt : hb < n0 ∧ cb < n0 ∧ (l ≠ [] → ba < n0)
  le : n0 ≤ w.heap.size
section
variable {h : Int} {l : List Ck} {hb cb : Nat} {a : Option Addr} {ba o cap n0 x0 y0 : Nat} {w w' : World}
theorem ItP.keep (H : ItP h l hb cb a ba o cap n0 w) (hs : w.heap.size ≤ w'.heap.size) (hk : ∀ j, j < n0 → j ≠ x0 → j ≠ y0 → w'.heap[j]? = w.heap[j]?) (hx : (hb ≠ x0 ∧ hb ≠ y0) ∧ (cb ≠ x0 ∧ cb ≠ y0) ∧ (l ≠ [] → ba ≠ x0 ∧ ba ≠ y0)) : ItP h l hb cb a ba o cap n0 w' := by
  obtain ⟨x1, x2, x3⟩ := hx
  obtain ⟨l1, l2, l3⟩ := H.lt
  refine ⟨(World.cell?_of_block (a := ⟨hb, 0, none⟩) (hk _ l1 x1.1 x1.2)).trans H.hp, (World.cell?_of_block (a := ⟨cb, 0, none⟩) (hk _ l2 x2.1 x2.2)).trans H.cp, H.addr, fun j hj => ?_, H.lt, Nat.le_trans H.le hs⟩
  have hl : l ≠ [] := by rintro rfl; exact absurd hj (Nat.not_lt_zero _)
  have e := fun i => World.cell?_of_block (a := ⟨ba, i, none⟩) (hk _ (l3 hl) (x3 hl).1 (x3 hl).2)
  exact ⟨(e _).trans (H.cells j hj).1, (e _).trans (H.cells j hj).2.1, (e _).trans (H.cells j hj).2.2⟩
theorem ItP.past (H : ItP h l hb cb a ba o cap n0 w) (hs : w.heap.size ≤ w'.heap.size) (hk : ∀ j, j < n0 → w'.heap[j]? = w.heap[j]?) : ItP h l hb cb a ba o cap n0 w' := by
  obtain ⟨l1, l2, l3⟩ := H.lt
  refine ⟨(World.cell?_of_block (a := ⟨hb, 0, none⟩) (hk _ l1)).trans H.hp, (World.cell?_of_block (a := ⟨cb, 0, none⟩) (hk _ l2)).trans H.cp, H.addr, fun j hj => ?_, H.lt, Nat.le_trans H.le hs⟩
  have hl : l ≠ [] := by rintro rfl; exact absurd hj (Nat.not_lt_zero _)
  have e := fun i => World.cell?_of_block (a := ⟨ba, i, none⟩) (hk _ (l3 hl))
  exact ⟨(e _).trans (H.cells j hj).1, (e _).trans (H.cells j hj).2.1, (e _).trans (H.cells j hj).2.2⟩
end
theorem gbelowP {w w' : World} (h : Below w.heap.size w w') : w.grownBy w' none := ⟨h.os, h.tape, h.output, h.size, fun j hj _ => h.block j hj⟩
theorem ck_cells {W : World} {nb : Nat} {c : Ck} (h : W.heap[nb]? = some (.cells (ckA c) 75 (0, 0))) : W.cell? ⟨nb, 0, none⟩ = some (.int .i64 c.tk) ∧ W.cell? ⟨nb, 1, none⟩ = some (.int .i64 c.hd) ∧ W.cell? ⟨nb, 2, none⟩ = some (.bool c.gd) :=
  ⟨cell_of_row W nb 0 _ _ _ h, cell_of_row W nb 1 _ _ _ h, cell_of_row W nb 2 _ _ _ h⟩
theorem growK (W : World) (g : Nat) (cs : Array Value) : W.grownBy (W.setRow g cs) (some g) := ⟨rfl, rfl, rfl, by simp, fun k _ hne => setRow_other _ _ _ _ (fun e => hne (by rw [e]))⟩
theorem infoKx {n : Nat} (hn : n = 3 := by rfl) : (Try.prog.info? 75).map (·.size) = some n := by
  obtain ⟨i, h1, _, h3, _⟩ := infoK
  rw [h1, hn]
  exact congrArg some h3
set_option maxRecDepth 20000 in
set_option maxHeartbeats 8000000 in
theorem pairs_run (l0 : Nat) (h : Int) (l : List Ck) (hb cb : Nat) (a : Option Addr) (ba o cap n0 x0 y0 B : Nat) (J Jx : List (Ck × Ck) → World → Prop) (hlen : l.length ≤ 10000)
    (hne : (hb ≠ x0 ∧ hb ≠ y0) ∧ (cb ≠ x0 ∧ cb ≠ y0) ∧ (l ≠ [] → ba ≠ x0 ∧ ba ≠ y0))
    (hJ : AbG 75 B J) (hY : ∀ k y W1, (prL h l)[k]? = some y → J ((prL h l).take k) W1 → YieldAt Fence.wide 8 Try.prog l0 (encP y) W1 fun e W' =>
      (e = .returned (.bool true) ∧ J ((prL h l).take (k + 1)) W' ∧ KpP n0 x0 y0 W1 W') ∨ (e = .returned (.bool false) ∧ Jx ((prL h l).take (k + 1)) W'))
    (W : World) (hI : ItP h l hb cb a ba o cap n0 W) (hB : B ≤ W.heap.size) (h0 : J [] W) :
    CallsIn Fence.wide 9 Try.prog 88 #[.func (.yield l0) #[] #[], .pointer (some ⟨hb, 0, none⟩), .pointer (some ⟨cb, 0, none⟩)] W fun e W' => (∃ v, e = .returned v) ∧ (J (prL h l) W' ∨ ∃ k, Jx ((prL h l).take k) W') := by
  have HI := hid hI; have HY := hid hY; have HJ := hid hJ; have H0 := hid h0
  have hh := hI.hp
  have hcp := hI.cp
  have hh' := keep_cell ((Below.refl W.heap.size W).alloc (Nat.le_refl _) (.cells #[.int .i64 (-100000000), .int .i64 h, .bool false] 75)) hh
  have hcp' := keep_cell ((Below.refl W.heap.size W).alloc (Nat.le_refl _) (.cells #[.int .i64 (-100000000), .int .i64 h, .bool false] 75)) hcp
  clear hI hY hJ h0
  refine callsIn_of_wp Try.func88 rfl trivial ?_ rfl
  simp only [Try.ntmps88, List.size_toArray, List.length_cons, List.length_nil, Nat.reduceAdd, Nat.reduceSub, Array.replicate_succ, Array.replicate_zero, List.push_toArray, List.append_toArray, List.nil_append, List.cons_append]
  gi_wp2
  have HK0 := hid (And.intro (HI.out.past (by simp) (fun j hj => ((Below.refl W.heap.size W).alloc (Nat.le_refl _) (.cells #[.int .i64 (-100000000), .int .i64 h, .bool false] 75)).block j (Nat.lt_of_lt_of_le hj HI.out.le))) (And.intro (heap_alloc_new W (.cells #[.int .i64 (-100000000), .int .i64 h, .bool false] 75)) (HJ.out _ _ _ none H0.out (gbelowP ((Below.refl W.heap.size W).alloc (Nat.le_refl _) (.cells #[.int .i64 (-100000000), .int .i64 h, .bool false] 75))) (fun j e => by cases e))))
  have hn0 : n0 ≤ W.heap.size := HI.out.le
  clear hh hcp hh' hcp' H0 HI
  gi_loopw [12] (fun i wr => ∃ k : Nat, k ≤ l.length ∧ i = .int .i64 (k : Int) ∧ Hid (ItP h l hb cb a ba o cap n0 wr ∧ wr.heap[W.heap.size]? = some (Obj.cells (ckA (prF h (l.take k)).2) 75 (0, 0)) ∧ J ((prL h l).take (prN h l k)) wr)) (fun i _ => l.length - (intOf i).toNat)
  case atStart => exact ⟨0, Nat.zero_le _, rfl, HK0⟩
  case round =>
    obtain ⟨k, hk, rfl, hR⟩ := hrel
    clear HK0
    have hWlt : W.heap.size < wr.heap.size := (Array.getElem?_eq_some_iff.1 hR.out.2.1).1
    by_cases hlt : k < l.length
    · obtain rfl : a = some ⟨ba, o, none⟩ := hR.out.1.addr.resolve_left (by rintro rfl; exact absurd hlt (Nat.not_lt_zero _))
      have hlt' : (k : Int) < l.length := by omega
      obtain ⟨e1, e2, e3⟩ := hR.out.1.cells k hlt
      have HGY := hid (@prF_yes h l k hlt)
      have HGN := hid (@prF_no h l k hlt)
      have HNY := hid (@prN_get h l k hlt)
      have HNN := hid (@prN_no h l k hlt)
      obtain ⟨c, hc⟩ : ∃ c, c = l[k] := ⟨_, rfl⟩
      rw [← hc] at e1 e2 e3 HGY HGN HNY HNN
      obtain ⟨la, hla⟩ : ∃ la, la = (prF h (l.take k)).2 := ⟨_, rfl⟩
      have hcl := hR.out.2.1
      rw [← hla] at hcl HNY
      have hbw := (Below.refl wr.heap.size wr).alloc (Nat.le_refl _) (.cells (ckA c) 75)
      have hl2 : (wr.alloc (.cells (ckA c) 75)).heap[W.heap.size]? = some (Obj.cells (ckA la) 75 (0, 0)) := (hbw.block _ hWlt).trans hcl
      have hI2 := hR.out.1.past hbw.size (fun j hj => hbw.block j (Nat.lt_of_lt_of_le hj hR.out.1.le))
      have hJ2 := HJ.out _ _ _ none hR.out.2.2 (gbelowP hbw) (fun j e => by cases e)
      have hn2 := heap_alloc_new wr (.cells (ckA c) 75)
      obtain ⟨y1, y2, y3⟩ := ck_cells hl2
      obtain ⟨z1, z2, z3⟩ := ck_cells hn2
      have hh2 := hI2.hp
      have HL2 := hid hl2; have HI2 := hid hI2; have HJ2 := hid hJ2; have HN2 := hid hn2; have HBW := hid hbw; have HC := hid hc; have HLA := hid hla
      clear hl2 hI2 hJ2 hn2 hbw hc hla hcl
      by_cases g : c.hd = h
      · obtain ⟨fn, tmps, assign, body, hy, hRR⟩ := HY.out (prN h l k) (la, c) (wr.alloc (.cells (ckA c) 75)) (HNY.out g).1 HJ2.out
        have eA : ckA c = #[.int .i64 c.tk, .int .i64 h, .bool c.gd] := by simp only [ckA, g]
        simp only [encP] at hy
        rw [eA] at hRR hy HL2 HI2 HJ2 HN2 HBW
        have HR := hid hRR
        clear hRR
        have G := hid g
        have EA := hid eA
        simp only [ckA] at hy y1 y2 y3 z1 z2 z3 hh2
        rw [g] at e2 z2
        simp only [g] at y1 y2 y3 z1 z3 hh2
        clear g eA
        gi_wp2
        refine HR.out.mono ?_
        clear hy
        rintro e W6 (⟨rfl, hJ6, hk6⟩ | ⟨rfl, hJx6⟩)
        · have hn6 := hk6.cks _ _ HN2.out
          obtain ⟨w1, w2, w3⟩ := ck_cells (c := ⟨c.tk, h, c.gd⟩) hn6
          have HL6 := hid (hk6.cks _ _ HL2.out)
          have HI6 := hid (HI2.out.keep hk6.size hk6.low hne)
          have HJ6 := hid hJ6
          clear hn6 hJ6 hk6 y1 y2 y3 z1 z2 z3 hh2 e1 e2 e3
          gi_wp2_with (first
            | (refine wpListIn_store_whole rfl 75 _ _ rfl W.heap.size #[.int .i64 c.tk, .int .i64 h, .bool c.gd] rfl rfl 75 _ HL6.out (infoKx (n := 3)) rfl (by simp [Value.oneCell']) ?_; generalize hW : World.setRow _ _ _ = W7; have HS := hid hW; clear hW))
          go_roundw
          case rel =>
            refine ⟨k + 1, by omega, by go_num, ?_⟩
            have hS := HS.out
            subst hS
            refine hid ⟨HI6.out.past (by simp) (fun j hj => setRow_other _ _ _ _ (by omega)), ?_, ?_⟩
            · rw [HGY.out G.out, EA.out]; exact setRow_heap _ _ _ _ _ _ HL6.out
            · rw [(HNY.out G.out).2]
              exact HJ.out _ _ _ (some W.heap.size) HJ6.out (growK _ _ _) (fun j e => by cases e; exact ⟨hB, _, HL6.out, .inr ⟨_, rfl⟩⟩)
          case measure => simp [intOf]; omega
        · have HX6 := hid hJx6
          clear hJx6
          gi_wp2
          refine bodyPost_ret (results_none rfl _ _ _) rfl ?_
          exact ⟨⟨_, rfl⟩, .inr ⟨_, HX6.out⟩⟩
      · simp only [ckA] at y1 y2 y3 z1 z2 z3 hh2
        gi_wp2
        go_roundw
        case rel => exact ⟨k + 1, by omega, by go_num, hid ⟨HI2.out, by rw [HGN.out g, ← HLA.out]; exact HL2.out, by rw [HNN.out g]; exact HJ2.out⟩⟩
        case measure => simp [intOf]; omega
    · obtain rfl : k = l.length := by omega
      have hE := prN_end h l
      have hcl := hR.out.2.1
      rw [List.take_length] at hcl
      obtain ⟨la, hla⟩ : ∃ la, la = (prF h l).2 := ⟨_, rfl⟩
      rw [← hla] at hcl hE
      obtain ⟨y1, y2, y3⟩ := ck_cells hcl
      have hh2 := hR.out.1.hp
      obtain ⟨fn, tmps, assign, body, hy, hRR⟩ := HY.out (prN h l l.length) (la, ckNever h) wr hE.1 hR.out.2.2
      have HR := hid hRR
      have HE := hid hE.2
      clear hRR hE hcl hla
      simp only [encP, ckA, ckNever] at hy
      gi_wp2
      refine HR.out.mono ?_
      clear hy
      rintro e W6 (⟨rfl, hJ6, hk6⟩ | ⟨rfl, hJx6⟩)
      · have HJ6 := hid hJ6
        clear hJ6 hk6
        gi_wp2
        go_end0
        exact ⟨⟨_, rfl⟩, .inl (by have e := HJ6.out; rwa [HE.out, List.take_length] at e)⟩
      · have HX6 := hid hJx6
        clear hJx6
        gi_wp2
        go_end0
        exact ⟨⟨_, rfl⟩, .inr ⟨_, HX6.out⟩⟩
end Go.Proofs.Ytjfakhfkbnnbcaa
