/- Walk of the reference's Print: contracts. -/
import Derived.Test.YtmhkgpcnefcjaaaDoorCe
import Derived.Deep.DeepCutAuto
namespace Go.Proofs.YtmhkgpcnefcjaaaDoor
open Go.RowKit

set_option maxRecDepth 100000 in
set_option maxHeartbeats 2000000 in
theorem xprint_bad (pl pr ln : ByteArray) (dy pe : Int) (w : World) (h : stampB pl pr ln dy pe = false) :
    Calls Tryd.prog 55 #[.agg #[.string pl, .string pr, .string ln, .int .i64 dy, .int .i64 pe]] w fun e w' => e = .returned (.tuple #[.string ⟨#[]⟩, .int .i64 1]) ∧ Below w.heap.size w w' := by
  have HX := hid (bx_new w 48 #[.string pl, .string pr, .string ln, .int .i64 dy, .int .i64 pe])
  have HS := hid h
  clear h
  go_enter Tryd.func55, Tryd.ntmps55
  go_wp2_with fail
  refine (xstamp_any _ _ _ _ _ _).mono ?_
  rintro e w1 ⟨rfl, hb⟩
  rw [HS.out]
  have HX := hid (HX.out.keep hb); obtain ⟨b0, b1, b2, b3, b4⟩ := HX.out.five; clear hb
  go_wp2_with fail
  go_ret2
  exact ⟨rfl, HX.out.low⟩
def B2d (w W : World) (b : Nat) (pl pr ln : ByteArray) (dy pe : Int) (y mm dd : Int) : Prop := Bx w W w.heap.size 48 #[.string pl, .string pr, .string ln, .int .i64 dy, .int .i64 pe] ∧ Bx w W b 61 #[.int .i64 y, .int .i64 mm, .int .i64 dd]
theorem B2d.drw {w W : World} {b : Nat} {pl pr ln : ByteArray} {dy pe y mm dd : Int} (h : B2d w W b pl pr ln dy pe y mm dd) : B2d w W.drew b pl pr ln dy pe y mm dd := ⟨h.1.dr1, h.2.dr1⟩
theorem B2d.alc {w W : World} {b : Nat} {pl pr ln : ByteArray} {dy pe y mm dd : Int} (h : B2d w W b pl pr ln dy pe y mm dd) (o : Obj) : B2d w (W.alloc o) b pl pr ln dy pe y mm dd := ⟨h.1.alc o, h.2.alc o⟩
theorem B2d.all {w W : World} {b : Nat} {pl pr ln : ByteArray} {dy pe y mm dd : Int} (h : B2d w W b pl pr ln dy pe y mm dd) : W.cell? ⟨w.heap.size, 0, none⟩ = some (.string pl) ∧ W.cell? ⟨w.heap.size, 1, none⟩ = some (.string pr) ∧ W.cell? ⟨w.heap.size, 2, none⟩ = some (.string ln) ∧ W.cell? ⟨w.heap.size, 3, none⟩ = some (.int .i64 dy) ∧ W.cell? ⟨w.heap.size, 4, none⟩ = some (.int .i64 pe) ∧ W.cell? ⟨b, 0, none⟩ = some (.int .i64 y) ∧ Hid (B2d w W b pl pr ln dy pe y mm dd) :=
  ⟨h.1.cell 0, h.1.cell 1, h.1.cell 2, h.1.cell 3, h.1.cell 4, h.2.cell 0, hid h⟩
theorem b2_of {w W : World} {b : Nat} {pl pr ln : ByteArray} {dy pe y mm dd : Int} (h : W.cell? ⟨w.heap.size, 0, none⟩ = some (.string pl) ∧ W.cell? ⟨w.heap.size, 1, none⟩ = some (.string pr) ∧ W.cell? ⟨w.heap.size, 2, none⟩ = some (.string ln) ∧ W.cell? ⟨w.heap.size, 3, none⟩ = some (.int .i64 dy) ∧ W.cell? ⟨w.heap.size, 4, none⟩ = some (.int .i64 pe) ∧ W.cell? ⟨b, 0, none⟩ = some (.int .i64 y) ∧ Hid (B2d w W b pl pr ln dy pe y mm dd)) : B2d w W b pl pr ln dy pe y mm dd := h.2.2.2.2.2.2.out
theorem bytes_at (W : World) (b n : Nat) (l : List UInt8) (hn : n = l.length) (hr : W.heap[b]? = some (.cells (bvs l).toArray 5 (0, 0))) : (convert 50 9 (.slice (some ⟨b, 0, none⟩) n n)).run Tryd.prog W = .ok (.string ⟨l.toArray⟩) W := by
  subst hn
  refine run_convert_bytes_back (P := Tryd.prog) W 50 9 5 ⟨b, 0, none⟩ l.length l Tryd.underlying50 Tryd.underlying5 Tryd.underlying9 (fun j hj => ?_)
  have h1 := cell_of_row W b j _ _ _ hr
  rw [bvs_at _ hj] at h1
  rw [show (⟨b, 0, none⟩ : Addr).add j = ⟨b, j, none⟩ by unfold Addr.add; split <;> simp_all]
  exact h1
/-- The two conversions of the drawn region, by name: so the walk does not try them ahead of what they wait for. -/
def opP : Oper := { dst := some 42, op := Op.convert 50 9 (Operand.tmp 41), type := 9, pos := "ref.go:163", after := #[{ on := 15, ground := Ground.data }], guard := none }
def opQ : Oper := { dst := some 51, op := Op.convert 50 9 (Operand.tmp 50), type := 9, pos := "ref.go:163", after := #[{ on := 24, ground := Ground.data }], guard := none }
theorem opP_eq : opP = { dst := some 42, op := Op.convert 50 9 (Operand.tmp 41), type := 9, pos := "ref.go:163", after := #[{ on := 15, ground := Ground.data }], guard := none } := rfl
theorem opQ_eq : opQ = { dst := some 51, op := Op.convert 50 9 (Operand.tmp 50), type := 9, pos := "ref.go:163", after := #[{ on := 24, ground := Ground.data }], guard := none } := rfl
set_option maxRecDepth 100000 in
set_option maxHeartbeats 8000000 in
theorem xprint_ok (pl pr ln : ByteArray) (dy pe : Int) (y mm dd : Int) (w : World) (h : stampB pl pr ln dy pe = true) (hdt : IsDate dy y mm dd) :
    Calls Tryd.prog 55 #[.agg #[.string pl, .string pr, .string ln, .int .i64 dy, .int .i64 pe]] w fun e w' => e = .returned (.tuple #[.string (printS pl pr ln dy pe y), .int .i64 0]) ∧ Below w.heap.size w w' := by
  have HX := hid (bx_new w 48 #[.string pl, .string pr, .string ln, .int .i64 dy, .int .i64 pe])
  have HS := hid h
  have h9 := pre_ok h hdt.1
  have H9 := hid h9
  obtain ⟨q1, q2, q3, _, q5⟩ := (stampB_iff ..).1 h
  have hpl : pl.size = 1 := by have := (speltB_iff.1 q1).1; omega
  have hpr : pr.size = 2 := by have := (speltB_iff.1 q2).1; omega
  have hln : ln.size = 1 := by have := (speltB_iff.1 q3).1; omega
  have y1 := hdt.1.1
  have y2 := hdt.1.2.1
  have hLb := year_bd hdt.1
  have HDT := hid hdt
  obtain ⟨L, hL⟩ : ∃ L, L = dy - soY y := ⟨_, rfl⟩
  have HLQ := hid hL
  rw [← hL] at hLb h9
  obtain ⟨L0, L1⟩ := hLb
  have t1 : y.tmod 10 = y % 10 := Int.tmod_eq_emod_of_nonneg (by omega)
  have t2 : L.tdiv 31 = L / 31 := Int.tdiv_eq_ediv_of_nonneg L0
  have t3 : L.tmod 31 = L % 31 := Int.tmod_eq_emod_of_nonneg L0
  have hwA : IntKind.i64.wrap (L / 31) = L / 31 := IntWalk.i64_in _ ⟨by omega, by omega⟩
  have hwB : IntKind.i64.wrap (L % 31) = L % 31 := IntWalk.i64_in _ ⟨by omega, by omega⟩
  have hwC : IntKind.i64.wrap (y % 10) = y % 10 := IntWalk.i64_in _ ⟨by omega, by omega⟩
  clear h hdt q1 q2 q3 q5 h9 hL
  go_enter Tryd.func55, Tryd.ntmps55
  go_wp2_with fail
  refine (xstamp_any _ _ _ _ _ _).mono ?_
  rintro e w1 ⟨rfl, hb⟩
  rw [HS.out]
  have HX := hid (HX.out.keep hb); obtain ⟨b0, b1, b2, b3, b4⟩ := HX.out.five; clear hb
  go_wp2_with fail
  refine (xdate_ok dy y mm dd _ HDT.out).mono ?_
  rintro e w2 ⟨rfl, hb⟩
  have HX2 := HX.out.keep hb
  have HX3 := HX2.keep ((Below.refl w2.heap.size w2).alloc (Nat.le_refl _) (.cells #[.int .i64 y, .int .i64 mm, .int .i64 dd] 61))
  have HY3 := show Bx w (w2.alloc (.cells #[.int .i64 y, .int .i64 mm, .int .i64 dd] 61)) w2.heap.size 61 #[.int .i64 y, .int .i64 mm, .int .i64 dd] from ⟨heap_alloc_new _ _, HX2.low.size, HX3.low⟩
  have HX := hid HX3
  have HY := hid HY3
  obtain ⟨b0, b1, b2, b3, b4⟩ := HX.out.five
  clear hb HX2 HX3 HY3
  go_wp2_with fail
  refine (xofyear_ok dy y mm dd _ HDT.out).mono ?_
  rintro e w3 ⟨rfl, hb⟩
  rw [← HLQ.out]
  have HX := hid (HX.out.keep hb)
  have HY := hid (HY.out.keep hb)
  obtain ⟨b0, b1, b2, b3, b4⟩ := HX.out.five
  clear hb
  go_wp2_with fail
  have HXY := hid (show B2d w w3 w2.heap.size pl pr ln dy pe y mm dd from ⟨HX.out, HY.out⟩)
  obtain ⟨P, hP⟩ : ∃ P, P = P8 pl pr ln (y % 10) (L / 31) (L % 31) pe := ⟨_, rfl⟩
  have HPQ := hid hP
  have hPl : pl ++ pr ++ (⟨#[sgn (y % 10), sgn (L / 31), sgn (L % 31)]⟩ : ByteArray) ++ ln ++ (⟨#[sgn pe]⟩ : ByteArray) = P := hP.symm
  have v1 : (convert 50 9 (.slice (some ⟨w3.heap.size, 0, none⟩) 3 3)).run Tryd.prog (World.drew (World.alloc w3 (.cells #[.int .u8 ((sgn (y % 10)).toNat : Int), .int .u8 ((sgn (L / 31)).toNat : Int), .int .u8 ((sgn (L % 31)).toNat : Int)] 5))) = .ok (.string (⟨#[sgn (y % 10), sgn (L / 31), sgn (L % 31)]⟩ : ByteArray)) (World.drew (World.alloc w3 (.cells #[.int .u8 ((sgn (y % 10)).toNat : Int), .int .u8 ((sgn (L / 31)).toNat : Int), .int .u8 ((sgn (L % 31)).toNat : Int)] 5))) := bytes_at _ _ 3 [sgn (y % 10), sgn (L / 31), sgn (L % 31)] rfl (row_dr (row_new (by simp)))
  have v2 : (convert 50 9 (.slice (some ⟨w3.heap.size, 0, none⟩) 3 3)).run Tryd.prog (World.drew (World.alloc (World.alloc w3 (.cells #[.int .u8 ((sgn (y % 10)).toNat : Int), .int .u8 ((sgn (L / 31)).toNat : Int), .int .u8 ((sgn (L % 31)).toNat : Int)] 5)) (.cells #[.int .u8 ((sgn pe).toNat : Int)] 5))) = .ok (.string (⟨#[sgn (y % 10), sgn (L / 31), sgn (L % 31)]⟩ : ByteArray)) (World.drew (World.alloc (World.alloc w3 (.cells #[.int .u8 ((sgn (y % 10)).toNat : Int), .int .u8 ((sgn (L / 31)).toNat : Int), .int .u8 ((sgn (L % 31)).toNat : Int)] 5)) (.cells #[.int .u8 ((sgn pe).toNat : Int)] 5))) := bytes_at _ _ 3 [sgn (y % 10), sgn (L / 31), sgn (L % 31)] rfl (row_dr (row_alloc (row_new (by simp))))
  have v3 : (convert 50 9 (.slice (some ⟨w3.heap.size + 1, 0, none⟩) 3 3)).run Tryd.prog (World.drew (World.alloc (World.alloc w3 (.cells #[.int .u8 ((sgn pe).toNat : Int)] 5)) (.cells #[.int .u8 ((sgn (y % 10)).toNat : Int), .int .u8 ((sgn (L / 31)).toNat : Int), .int .u8 ((sgn (L % 31)).toNat : Int)] 5))) = .ok (.string (⟨#[sgn (y % 10), sgn (L / 31), sgn (L % 31)]⟩ : ByteArray)) (World.drew (World.alloc (World.alloc w3 (.cells #[.int .u8 ((sgn pe).toNat : Int)] 5)) (.cells #[.int .u8 ((sgn (y % 10)).toNat : Int), .int .u8 ((sgn (L / 31)).toNat : Int), .int .u8 ((sgn (L % 31)).toNat : Int)] 5))) := bytes_at _ _ 3 [sgn (y % 10), sgn (L / 31), sgn (L % 31)] rfl (row_dr (row_new (by simp)))
  have v4 : (convert 50 9 (.slice (some ⟨w3.heap.size, 0, none⟩) 1 1)).run Tryd.prog (World.drew (World.alloc w3 (.cells #[.int .u8 ((sgn pe).toNat : Int)] 5))) = .ok (.string (⟨#[sgn pe]⟩ : ByteArray)) (World.drew (World.alloc w3 (.cells #[.int .u8 ((sgn pe).toNat : Int)] 5))) := bytes_at _ _ 1 [sgn pe] rfl (row_dr (row_new (by simp)))
  have v5 : (convert 50 9 (.slice (some ⟨w3.heap.size, 0, none⟩) 1 1)).run Tryd.prog (World.drew (World.alloc (World.alloc w3 (.cells #[.int .u8 ((sgn pe).toNat : Int)] 5)) (.cells #[.int .u8 ((sgn (y % 10)).toNat : Int), .int .u8 ((sgn (L / 31)).toNat : Int), .int .u8 ((sgn (L % 31)).toNat : Int)] 5))) = .ok (.string (⟨#[sgn pe]⟩ : ByteArray)) (World.drew (World.alloc (World.alloc w3 (.cells #[.int .u8 ((sgn pe).toNat : Int)] 5)) (.cells #[.int .u8 ((sgn (y % 10)).toNat : Int), .int .u8 ((sgn (L / 31)).toNat : Int), .int .u8 ((sgn (L % 31)).toNat : Int)] 5))) := bytes_at _ _ 1 [sgn pe] rfl (row_dr (row_alloc (row_new (by simp))))
  have v6 : (convert 50 9 (.slice (some ⟨w3.heap.size + 1, 0, none⟩) 1 1)).run Tryd.prog (World.drew (World.alloc (World.alloc w3 (.cells #[.int .u8 ((sgn (y % 10)).toNat : Int), .int .u8 ((sgn (L / 31)).toNat : Int), .int .u8 ((sgn (L % 31)).toNat : Int)] 5)) (.cells #[.int .u8 ((sgn pe).toNat : Int)] 5))) = .ok (.string (⟨#[sgn pe]⟩ : ByteArray)) (World.drew (World.alloc (World.alloc w3 (.cells #[.int .u8 ((sgn (y % 10)).toNat : Int), .int .u8 ((sgn (L / 31)).toNat : Int), .int .u8 ((sgn (L % 31)).toNat : Int)] 5)) (.cells #[.int .u8 ((sgn pe).toNat : Int)] 5))) := bytes_at _ _ 1 [sgn pe] rfl (row_dr (row_new (by simp)))
  clear hP
  go_cut [8] (fun s8 wx => s8 = .string P ∧ Hid (Below w.heap.size w wx))
  case first =>
    rw [← opP_eq, ← opQ_eq]
    have hopP := opP_eq
    have hopQ := opQ_eq
    go_region_held3 (fun w' => w'.cell? ⟨w.heap.size, 0, none⟩ = some (.string pl) ∧ w'.cell? ⟨w.heap.size, 1, none⟩ = some (.string pr) ∧ w'.cell? ⟨w.heap.size, 2, none⟩ = some (.string ln) ∧ w'.cell? ⟨w.heap.size, 3, none⟩ = some (.int .i64 dy) ∧ w'.cell? ⟨w.heap.size, 4, none⟩ = some (.int .i64 pe) ∧ w'.cell? ⟨w2.heap.size, 0, none⟩ = some (.int .i64 y) ∧ Hid (B2d w w' w2.heap.size pl pr ln dy pe y mm dd))
      (first | with_reducible assumption | exact HXY.out.drw.all | exact (HXY.out.alc _).drw.all | exact ((HXY.out.alc _).alc _).drw.all)
      ((go_at_call 29; refine (xsign_any _ _).mono ?_; rintro e wk ⟨rfl, rfl⟩))
    all_goals
      go_wp2_with fail
      go_meet
      exact ⟨rfl, hid (b2_of (by assumption)).1.low⟩
  case rest =>
    obtain ⟨rfl, HB⟩ := hcut
    obtain ⟨l, hl⟩ : ∃ l, l = vals (preT pl pr ln (y % 10) (L / 31) (L % 31) pe) := ⟨_, rfl⟩
    have HLV := hid hl
    have h9 := H9.out
    rw [← HLQ.out] at h9
    have H9L := hid h9
    have HL9 := hid (show l.length = 9 by rw [hl, vals_len]; exact (nineB_iff.1 h9).1)
    have HSP := hid (fun (v : Int) (hv : 0 ≤ v ∧ v ≤ 30) => show soundS (P ++ ⟨#[sgn v]⟩) = soundB (l.set 8 v) by rw [HPQ.out, hl]; exact sound_p8 hpl hpr hln hv H9L.out)
    have HTX := hid (fun (v : Int) (hv : 0 ≤ v ∧ v ≤ 30) => show txt (l.set 8 v) = P ++ ⟨#[sgn v]⟩ by rw [HPQ.out, hl]; exact txt_p8 hpl hpr hln hv H9L.out)
    have hPs : P.size = 8 := by rw [HPQ.out]; exact p8_len hpl hpr hln
    have HPR := hid (show printS pl pr ln dy pe y = txt (mend l 8) by unfold printS; rw [← HLQ.out, hl])
    clear hl h9 hPl v1 v2 v3 v4 v5 v6 b0 b1 b2 b3 b4
    go_wp2_with fail
    go_loopw [9] (fun t wr => ∃ v : Nat, v ≤ 31 ∧ t = .int .i64 (v : Int) ∧ Hid (∀ j < v, soundB (l.set 8 (j : Int)) = false) ∧ Hid (Below w.heap.size w wr)) (fun t _ => 31 - (intOf t).toNat)
    case atStart => exact ⟨0, by omega, rfl, fun j hj => absurd hj (Nat.not_lt_zero j), HB⟩
    case round =>
      obtain ⟨v, hv, rfl, hno, HBr⟩ := hrel
      by_cases hlt : v < 31
      · have hlt' : (v : Int) < 31 := by omega
        have HLT := hid hlt
        have hcv : (convert 50 9 (.slice (some ⟨wr.heap.size, 0, none⟩) 1 1)).run Tryd.prog (World.alloc wr (.cells #[.int .u8 ((sgn (v : Int)).toNat : Int)] 5)) = .ok (.string (⟨#[sgn (v : Int)]⟩ : ByteArray)) (World.alloc wr (.cells #[.int .u8 ((sgn (v : Int)).toNat : Int)] 5)) := bytes_at _ _ 1 [sgn (v : Int)] rfl (row_new (by simp))
        have HB1 := hid (bstep HBr.out HBr.out.size ((Below.refl wr.heap.size wr).alloc (Nat.le_refl _) (.cells #[.int .u8 ((sgn (v : Int)).toNat : Int)] 5)))
        have HSV := hid (HSP.out (v : Int) ⟨by omega, by omega⟩)
        have HTV := hid (HTX.out (v : Int) ⟨by omega, by omega⟩)
        cases hsd : soundB (l.set 8 (v : Int))
        · have HSD := hid hsd
          clear hsd hlt
          go_wp2_with (first
            | (go_at_call 29; refine (xsign_any _ _).mono ?_; rintro e wk ⟨rfl, rfl⟩)
            | (go_at_call 42; refine (xsound_any _ _).mono ?_; rintro e wk ⟨rfl, rfl⟩; rw [HSV.out, HSD.out]))
          go_roundw
          case rel =>
            refine ⟨v + 1, HLT.out, by go_num, fun j hj => ?_, HB1⟩
            rcases Nat.lt_succ_iff_lt_or_eq.1 hj with h1 | h1
            · exact hno.out j h1
            · subst h1; exact HSD.out
          case measure => have := HLT.out; simp [intOf]; omega
        · have HSD := hid hsd
          have HMV := hid (show txt (mend l 8) = P ++ ⟨#[sgn (v : Int)]⟩ by unfold mend; rw [mv_of HLT.out hno.out hsd]; exact HTV.out)
          clear hsd hlt
          go_wp2_with (first
            | (go_at_call 29; refine (xsign_any _ _).mono ?_; rintro e wk ⟨rfl, rfl⟩)
            | (go_at_call 42; refine (xsound_any _ _).mono ?_; rintro e wk ⟨rfl, rfl⟩; rw [HSV.out, HSD.out]))
          go_ret2
          exact ⟨by rw [HPR.out, HMV.out]; rfl, HB1.out⟩
      · exfalso
        obtain rfl : v = 31 := by omega
        obtain ⟨j, hj, hs⟩ := mend_ex HL9.out (p := 8) (by omega)
        rw [hno.out j hj] at hs
        cases hs
end Go.Proofs.YtmhkgpcnefcjaaaDoor
