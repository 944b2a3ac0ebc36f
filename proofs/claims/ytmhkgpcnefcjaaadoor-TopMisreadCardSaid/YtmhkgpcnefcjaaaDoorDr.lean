/- Walk of printed: contract. -/
import Derived.Test.YtmhkgpcnefcjaaaDoorDq
import Derived.Test.YtmhkgpcnefcjaaaDoorDs
import Derived.Deep.DeepCutAuto
namespace Go.Proofs.YtmhkgpcnefcjaaaDoor
open Go.RowKit

def txtV (cs : Array Value) : ByteArray := txt (cs.toList.map intOf)
theorem textof_row (w : World) (b n : Nat) (cs : Array Value) (hr : w.heap[b]? = some (.cells cs 3 (0, 0))) (hn : n = cs.size) (hn0 : 0 < n) (hn9 : n ≤ 9) (hv : ∀ k (h : k < cs.size), cs[k] = .int .i64 (intOf cs[k])) :
    Calls Tryd.prog 65 #[.slice (some ⟨b, 0, none⟩) n n] w fun e w' => e = .returned (.string (txtV cs)) ∧ Below w.heap.size w w' := by
  refine textof_any w b 0 n n (cs.toList.map intOf) (by rw [List.length_map]; exact hn) hn0 hn9 (fun k hk => ?_)
  rw [List.length_map] at hk
  have hk' : k < cs.size := hk
  rw [Nat.zero_add, cell_of_row _ _ k _ _ _ hr, Array.getElem?_eq_getElem hk', hv k hk', List.getElem_map]
  rfl
theorem row_alloc {w : World} {b : Nat} {o p : Obj} (h : w.heap[b]? = some o) : (w.alloc p).heap[b]? = some o :=
  (Below.heap_alloc _ _ _ (Array.getElem?_eq_some_iff.1 h).1).trans h
theorem row_new {w : World} {b : Nat} {o : Obj} (h : b = w.heap.size) : (w.alloc o).heap[b]? = some o := by subst h; exact heap_alloc_new _ _
theorem drew_size (w : World) : w.drew.heap.size = w.heap.size := rfl
theorem row_dr {w : World} {b : Nat} {o : Obj} (h : w.heap[b]? = some o) : w.drew.heap[b]? = some o := h
theorem zr_dr {w W : World} {b : Nat} {o : Obj} (h : w.heap.size < b ∧ W.heap[b]? = some o) : w.heap.size < b ∧ W.drew.heap[b]? = some o := h
theorem zr_new {w W : World} {b : Nat} {o : Obj} (h : w.heap.size < W.heap.size) (hb : b = W.heap.size) : w.heap.size < b ∧ (W.alloc o).heap[b]? = some o := ⟨by rw [hb]; exact h, row_new hb⟩
theorem zr_old {w W : World} {b : Nat} {o p : Obj} (h : w.heap.size < b ∧ W.heap[b]? = some o) : w.heap.size < b ∧ (W.alloc p).heap[b]? = some o := ⟨h.1, row_alloc h.2⟩
theorem row_keep {w w2 : World} {b : Nat} {o : Obj} (hb : Below w.heap.size w w2) (h : w.heap[b]? = some o) : w2.heap[b]? = some o :=
  (hb.block _ (Array.getElem?_eq_some_iff.1 h).1).trans h
theorem zr_keep {w W w2 : World} {b : Nat} {o : Obj} (hb : Below W.heap.size W w2) (h : w.heap.size < b ∧ W.heap[b]? = some o) : w.heap.size < b ∧ w2.heap[b]? = some o := ⟨h.1, row_keep hb h.2⟩
theorem there_row {W : World} {b : Nat} {T : TypeId} {cs : Array Value} (h : W.heap[b]? = some (.cells cs T (0, 0))) {n : Nat} (hn : n = cs.size) : W.there b 0 n := fun j hj => by
  rw [Nat.zero_add]
  refine ⟨?_, ?_⟩
  · rw [cell_of_row _ _ j _ _ _ h, Array.getElem?_eq_getElem (by omega)]; rfl
  · have := frozen_of_row W b j _ _ h
    simpa using this
theorem Bx.stc {w W : World} {b b2 : Nat} {T : TypeId} {cs : Array Value} (hne : b ≠ b2) (h2 : w.heap.size ≤ b2) : ∀ (vs : List Value) (o : Nat) (W : World), Bx w W b T cs → Bx w (W.setCells b2 o vs) b T cs
  | [], _, _, h => h
  | _ :: vs, o, _, h => Bx.stc (W := W) hne h2 vs (o + 1) _ (h.other hne h2 o _)
theorem Bx.stb {w W : World} {b2 o : Nat} {T : TypeId} {cs : Array Value} {vs : List Value} (h : Bx w W w.heap.size T cs) (h2 : w.heap.size < b2) : Bx w (W.setCells b2 o vs) w.heap.size T cs :=
  Bx.stc (W := W) (by omega) (by omega) vs o W h
/-- Nine cells, in a world that is w but for what is new. -/
def C9 (w W : World) (b : Nat) (l : List Int) : Prop := (∀ k, k < 9 → W.cell? ⟨b, k, none⟩ = (cvs l)[k]?) ∧ Below w.heap.size w W
theorem c9_of {w W : World} {b : Nat} {l : List Int} {vs : List Value} (ht : W.there b 0 vs.length) (hv : cvs l = vs.toArray) (h9 : vs.length = 9) (hl : Below w.heap.size w (W.setCells b 0 vs)) : C9 w (W.setCells b 0 vs) b l := by
  refine ⟨fun k hk => ?_, hl⟩
  have := World.rangeAt_setCells_same W b 0 vs ht k (vs[k]'(by omega)) (List.getElem?_eq_getElem _)
  rw [Nat.zero_add] at this
  rw [this, hv]
  simp
theorem c9_cells {w W : World} {B : Nat} {a b c d e f g h i : Int} (H : C9 w W B [a, b, c, d, e, f, g, h, i]) : W.cell? ⟨B, 0, none⟩ = some (.int .i64 a) ∧ W.cell? ⟨B, 1, none⟩ = some (.int .i64 b) ∧ W.cell? ⟨B, 2, none⟩ = some (.int .i64 c) ∧ W.cell? ⟨B, 3, none⟩ = some (.int .i64 d) ∧ W.cell? ⟨B, 4, none⟩ = some (.int .i64 e) ∧ W.cell? ⟨B, 5, none⟩ = some (.int .i64 f) ∧ W.cell? ⟨B, 6, none⟩ = some (.int .i64 g) ∧ W.cell? ⟨B, 7, none⟩ = some (.int .i64 h) ∧ W.cell? ⟨B, 8, none⟩ = some (.int .i64 i) :=
  ⟨H.1 0 (by omega), H.1 1 (by omega), H.1 2 (by omega), H.1 3 (by omega), H.1 4 (by omega), H.1 5 (by omega), H.1 6 (by omega), H.1 7 (by omega), H.1 8 (by omega)⟩
theorem txt_size (l : List Int) : (txt l).size = l.length := by
  show (txt l).data.size = _
  unfold txt
  simp
/-- What stands in front of the check sign. -/
def preT (pl pr ln : ByteArray) (Z A B pe : Int) : ByteArray := pl ++ pr ++ txtV #[.int .i64 Z, .int .i64 A, .int .i64 B] ++ ln ++ txtV #[.int .i64 pe, .int .i64 0]
/-- The stamp's box and what is kept. -/
structure St5 (w W : World) (b : Nat) (cs : Array Value) : Prop where
  bx : Bx w W b 48 cs
theorem st_of {w W : World} {pl pr ln : ByteArray} {dy pe : Int} (h : W.cell? ⟨w.heap.size, 0, none⟩ = some (.string pl) ∧ W.cell? ⟨w.heap.size, 1, none⟩ = some (.string pr) ∧ W.cell? ⟨w.heap.size, 2, none⟩ = some (.string ln) ∧ W.cell? ⟨w.heap.size, 3, none⟩ = some (.int .i64 dy) ∧ W.cell? ⟨w.heap.size, 4, none⟩ = some (.int .i64 pe) ∧ Hid (Bx w W w.heap.size 48 #[.string pl, .string pr, .string ln, .int .i64 dy, .int .i64 pe])) : Bx w W w.heap.size 48 #[.string pl, .string pr, .string ln, .int .i64 dy, .int .i64 pe] := h.2.2.2.2.2.out
theorem Bx.all5 {w W : World} {pl pr ln : ByteArray} {dy pe : Int} (h : Bx w W w.heap.size 48 #[.string pl, .string pr, .string ln, .int .i64 dy, .int .i64 pe]) : W.cell? ⟨w.heap.size, 0, none⟩ = some (.string pl) ∧ W.cell? ⟨w.heap.size, 1, none⟩ = some (.string pr) ∧ W.cell? ⟨w.heap.size, 2, none⟩ = some (.string ln) ∧ W.cell? ⟨w.heap.size, 3, none⟩ = some (.int .i64 dy) ∧ W.cell? ⟨w.heap.size, 4, none⟩ = some (.int .i64 pe) ∧ Hid (Bx w W w.heap.size 48 #[.string pl, .string pr, .string ln, .int .i64 dy, .int .i64 pe]) :=
  ⟨h.cell 0, h.cell 1, h.cell 2, h.cell 3, h.cell 4, hid h⟩
theorem Bx.drw {w W : World} {b : Nat} {T : TypeId} {cs : Array Value} (h : Bx w W b T cs) : Bx w W.drew b T cs := ⟨h.row, h.new, h.low.drew⟩
theorem Bx.alc {w W : World} {b : Nat} {T : TypeId} {cs : Array Value} (h : Bx w W b T cs) (o : Obj) : Bx w (W.alloc o) b T cs := h.keep ((Below.refl _ _).alloc (Nat.le_refl _) _)
set_option linter.unusedSimpArgs false in
set_option maxRecDepth 100000 in
set_option maxHeartbeats 8000000 in
theorem printed_any (pl pr ln : ByteArray) (dy pe : Int) (y L : Int) (w : World) (hpl : pl.size = 1) (hpr : pr.size = 2) (hln : ln.size = 1) (hy : IsYear dy y) (hL : L = dy - soY y)
    (h9 : nineB (preT pl pr ln (y % 10) (L / 31) (L % 31) pe) = true) (hw : Wts w) :
    Calls Tryd.prog 54 #[.agg #[.string pl, .string pr, .string ln, .int .i64 dy, .int .i64 pe]] w fun e w' => e = .returned (.string (txt (mend (vals (preT pl pr ln (y % 10) (L / 31) (L % 31) pe)) 8))) ∧ Below w.heap.size w w' := by
  have HX := hid (bx_new w 48 #[.string pl, .string pr, .string ln, .int .i64 dy, .int .i64 pe])
  have HY := hid hy
  have HN9 := hid h9
  have HW := hid hw
  have HLQ := hid hL
  have y1 := hy.1
  have y2 := hy.2.1
  have L0 : 0 ≤ L := by have := hy.2.2.1; omega
  have L1 : L ≤ 366 := by have := hy.2.2.2; rw [soY_succ y1, ylen_lp] at this; rcases lp_01 y with ⟨_, h2⟩ | ⟨_, h2⟩ <;> omega
  have t1 : y.tmod 10 = y % 10 := Int.tmod_eq_emod_of_nonneg (by omega)
  have t2 : L.tdiv 31 = L / 31 := Int.tdiv_eq_ediv_of_nonneg L0
  have t3 : L.tmod 31 = L % 31 := Int.tmod_eq_emod_of_nonneg L0
  have hwA : IntKind.i64.wrap (L / 31) = L / 31 := IntWalk.i64_in _ ⟨by omega, by omega⟩
  have hwB : IntKind.i64.wrap (L % 31) = L % 31 := IntWalk.i64_in _ ⟨by omega, by omega⟩
  have hwC : IntKind.i64.wrap (y % 10) = y % 10 := IntWalk.i64_in _ ⟨by omega, by omega⟩
  have s3 : (txtV #[.int .i64 (y % 10), .int .i64 (L / 31), .int .i64 (L % 31)]).size = 3 := txt_size _
  have s2 : (txtV #[.int .i64 pe, .int .i64 0]).size = 2 := txt_size _
  have hV9 := (vals_is9 h9)
  obtain ⟨a, b, c, d, e, f, g, h', i, hv⟩ := nine_list hV9.1
  have H9 := hid hV9
  obtain ⟨T3, hT3⟩ : ∃ T, T = txtV #[.int .i64 (y % 10), .int .i64 (L / 31), .int .i64 (L % 31)] := ⟨_, rfl⟩
  obtain ⟨T2, hT2⟩ : ∃ T, T = txtV #[.int .i64 pe, .int .i64 0] := ⟨_, rfl⟩
  obtain ⟨cs, hcs⟩ : ∃ cs : Nat → Array Value, cs = fun n => if n = 3 then #[.int .i64 (y % 10), .int .i64 (L / 31), .int .i64 (L % 31)] else #[.int .i64 pe, .int .i64 0] := ⟨_, rfl⟩
  have HC3 := hid (show cs 3 = #[.int .i64 (y % 10), .int .i64 (L / 31), .int .i64 (L % 31)] by rw [hcs]; rfl)
  have HC2 := hid (show cs 2 = #[.int .i64 pe, .int .i64 0] by rw [hcs]; rfl)
  obtain ⟨S, hS⟩ : ∃ S : Nat → ByteArray, S = fun n => txtV (cs n) := ⟨_, rfl⟩
  have hS3 : S 3 = T3 := by rw [hS, hT3]; show txtV (cs 3) = _; rw [HC3.out]
  have hS2 : S 2 = T2 := by rw [hS, hT2]; show txtV (cs 2) = _; rw [HC2.out]
  have HT := hid (fun (W : World) (b n : Nat) (hn : n = 3 ∨ n = 2) (hr : W.heap[b]? = some (.cells (cs n) 3 (0, 0))) => show Calls Tryd.prog 65 #[.slice (some ⟨b, 0, none⟩) n n] W fun e w' => e = .returned (.string (S n)) ∧ Below W.heap.size W w' by
    rw [hS]
    rcases hn with rfl | rfl
    · exact textof_row W b 3 (cs 3) hr (by rw [HC3.out]; rfl) (by omega) (by omega) (by rw [HC3.out]; intro k hk; simp at hk; (obtain rfl | rfl | rfl : k = 0 ∨ k = 1 ∨ k = 2 := by omega) <;> rfl)
    · exact textof_row W b 2 (cs 2) hr (by rw [HC2.out]; rfl) (by omega) (by omega) (by rw [HC2.out]; intro k hk; simp at hk; (obtain rfl | rfl : k = 0 ∨ k = 1 := by omega) <;> rfl))
  have hpre : preT pl pr ln (y % 10) (L / 31) (L % 31) pe = pl ++ pr ++ T3 ++ ln ++ T2 := by rw [hT3, hT2]; rfl
  rw [← hT3] at s3
  rw [← hT2] at s2
  rw [hpre] at hv h9 H9 ⊢
  have HVL := hid (fun W => values_ok (pl ++ pr ++ T3 ++ ln ++ T2) W h9)
  have HV := hid hv
  rw [hv] at HVL H9 ⊢
  unfold cvs at HVL
  simp only [List.map_cons, List.map_nil] at HVL
  have hoc : ∀ v : Value, v ∈ [Value.int .i64 a, .int .i64 b, .int .i64 c, .int .i64 d, .int .i64 e, .int .i64 f, .int .i64 g, .int .i64 h', .int .i64 i] → v.oneCell' = true := by simp [Value.oneCell']
  have hif : (Tryd.prog.info? 66).map (·.size) = some ([Value.int .i64 a, .int .i64 b, .int .i64 c, .int .i64 d, .int .i64 e, .int .i64 f, .int .i64 g, .int .i64 h', .int .i64 i] : List Value).length := by kernel_rfl
  clear hy h9 hw hL hv hV9 hT3 hT2 hcs hS hpre HN9 HV
  go_enter Tryd.func54, Tryd.ntmps54
  go_wp2_with (go_at_call 60; refine (yearof_any _ y _ HY.out).mono ?_; rintro e w' ⟨rfl, rfl⟩; rw [← HLQ.out])
  generalize World.alloc w _ = W1 at *
  have hl1 := bx_lt HX.out
  go_cut [5] (fun s5 wx => ∃ n5 : Nat, s5 = .pointer (some ⟨n5, 0, none⟩) ∧ Hid (C9 w wx n5 [a, b, c, d, e, f, g, h', i]))
  case first =>
    go_region_held3 (fun w' => w'.cell? ⟨w.heap.size, 0, none⟩ = some (.string pl) ∧ w'.cell? ⟨w.heap.size, 1, none⟩ = some (.string pr) ∧ w'.cell? ⟨w.heap.size, 2, none⟩ = some (.string ln) ∧ w'.cell? ⟨w.heap.size, 3, none⟩ = some (.int .i64 dy) ∧ w'.cell? ⟨w.heap.size, 4, none⟩ = some (.int .i64 pe) ∧ Hid (Bx w w' w.heap.size 48 #[.string pl, .string pr, .string ln, .int .i64 dy, .int .i64 pe]))
      (first | with_reducible exact ((st_of (by assumption)).keep (by assumption)).all5 | with_reducible exact HX.out.drw.all5 | with_reducible exact ((st_of (by assumption)).stb (by first | exact hz.1 | exact hlk)).all5 | with_reducible exact (((st_of (by assumption)).alc _).stb (by first | exact hz.1 | exact hlk)).all5 | with_reducible exact ((st_of (by assumption)).alc _).all5 | with_reducible exact (HX.out.alc _).drw.all5 | with_reducible exact ((HX.out.alc _).alc _).drw.all5 | with_reducible exact (((HX.out.alc _).alc _).alc _).drw.all5)
      (first
      | (go_at_call 65; refine (HT.out _ _ _ (by first | exact .inl rfl | exact .inr rfl) (by first | (rw [HC3.out]; (repeat (first | with_reducible exact row_new (by simp) | with_reducible refine row_dr ?_ | with_reducible refine row_keep (by assumption) ?_ | with_reducible refine row_alloc ?_))) | (rw [HC2.out]; (repeat (first | with_reducible exact row_new (by simp) | with_reducible refine row_dr ?_ | with_reducible refine row_keep (by assumption) ?_ | with_reducible refine row_alloc ?_))))).mono ?_; rintro e wk ⟨rfl, hb⟩; have hlk := bx_lt ((st_of (by assumption)).keep hb); (try have hz := zr_keep (w := w) (o := .cells #[.int .i64 0, .int .i64 0, .int .i64 0, .int .i64 0, .int .i64 0, .int .i64 0, .int .i64 0, .int .i64 0, .int .i64 0] 66 (0, 0)) hb (by (repeat (first | with_reducible assumption | with_reducible exact zr_new (by first | assumption | (simp only [alloc_size, drew_size]; omega)) (by (try simp only [alloc_size, drew_size]); exact rfl) | with_reducible apply zr_dr | with_reducible apply zr_old)))))
      | (go_at_call 36; refine (HVL.out _).mono ?_; rintro e wk ⟨rfl, hb⟩; have hlk := bx_lt ((st_of (by assumption)).keep hb); (first | (have hz := zr_keep (w := w) (o := .cells #[.int .i64 0, .int .i64 0, .int .i64 0, .int .i64 0, .int .i64 0, .int .i64 0, .int .i64 0, .int .i64 0, .int .i64 0] 66 (0, 0)) hb (by (repeat (first | with_reducible assumption | with_reducible exact zr_new (by first | assumption | (simp only [alloc_size, drew_size]; omega)) (by (try simp only [alloc_size, drew_size]); exact rfl) | with_reducible apply zr_dr | with_reducible apply zr_old))); have hth := there_row hz.2 (n := [Value.int .i64 a, .int .i64 b, .int .i64 c, .int .i64 d, .int .i64 e, .int .i64 f, .int .i64 g, .int .i64 h', .int .i64 i].length) rfl) | (have hth := there_row (heap_alloc_new wk (.cells #[.int .i64 0, .int .i64 0, .int .i64 0, .int .i64 0, .int .i64 0, .int .i64 0, .int .i64 0, .int .i64 0, .int .i64 0] 66 (0, 0))) (n := [Value.int .i64 a, .int .i64 b, .int .i64 c, .int .i64 d, .int .i64 e, .int .i64 f, .int .i64 g, .int .i64 h', .int .i64 i].length) rfl))))
    all_goals
      go_wp2_with fail
      go_meet
      exact ⟨_, rfl, hid (c9_of (by assumption) rfl rfl (st_of (by assumption)).low)⟩
  case rest =>
    obtain ⟨n5, rfl, HC⟩ := hcut
    obtain ⟨b0, b1, b2, b3, b4, b5, b6, b7, b8⟩ := c9_cells HC.out
    have HM := hid (mended_any [a, b, c, d, e, f, g, h', i] 8 _ H9.out (by omega) (HW.out.keep HC.out.2))
    have HLM := hid (show (mend [a, b, c, d, e, f, g, h', i] 8).length = 9 by unfold mend; rw [List.length_set]; rfl)
    go_wp2_with fail
    refine HM.out.mono ?_
    rintro e2 w2 ⟨rfl, hb⟩
    have HB := hid (bstep HC.out.2 HC.out.2.size hb)
    clear hb
    go_wp2_with fail
    refine (ctext_any (mend [a, b, c, d, e, f, g, h', i] 8) _ HLM.out).mono ?_
    rintro e3 w3 ⟨rfl, hb⟩
    have HB2 := hid (bstep HB.out HB.out.size hb)
    clear hb
    go_wp2_with fail
    go_ret
    exact ⟨rfl, HB2.out⟩
end Go.Proofs.YtmhkgpcnefcjaaaDoor
