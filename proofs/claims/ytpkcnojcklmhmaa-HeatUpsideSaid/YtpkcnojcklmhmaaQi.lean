/- Walk of Turned of the code: contract. -/
import Derived.Test.YtpkcnojcklmhmaaQh
import Derived.Test.YtpkcnojcklmhmaaHx
import Derived.Deep.RegionHeld3
namespace Go.Proofs.Ytpkcnojcklmhmaa
open Go.RowKit Go.Shelf Go.Lib

/-- What Turned hands back: a body and an error. -/
def turnO (r l a b k a2 b2 : Int) (x : Bd) : Bd × Int := if bothB r l a b k a2 b2 x.1 x.2 = false then (([], false), 1) else ((flL x.1 r.toNat l.toNat l.toNat, x.2), 0)
theorem turnO_can {r l a b k a2 b2 : Int} {x : Bd} (h : bothB r l a b k a2 b2 x.1 x.2 = false) : turnO r l a b k a2 b2 x = (([], false), 1) := by unfold turnO; rw [if_pos h]
theorem turnO_ok {r l a b k a2 b2 : Int} {x : Bd} (h : bothB r l a b k a2 b2 x.1 x.2 = true) : turnO r l a b k a2 b2 x = ((flL x.1 r.toNat l.toNat l.toNat, x.2), 0) := by unfold turnO; rw [if_neg (by rw [h]; simp)]
/-- There is room for its ints. -/
def CapR (v : Value) (l : List Int) : Prop := ∃ a cap, v = .slice a l.length cap ∧ l.length ≤ cap ∧ cap ≤ 9223372036854775807
theorem R3.keepB {w w1 w2 : World} {A B R : Array Value} {b : Nat} (h : R3 w w1 A B R) (hb : Below b w1 w2) (h2 : w.heap.size + 1 + 1 < b) : R3 w w2 A B R :=
  ⟨(hb.block _ (by omega)).trans h.can, (hb.block _ (by omega)).trans h.bod, (hb.block _ (by omega)).trans h.res, h.low.trans (hb.mono (by omega))⟩
theorem cell_far2 {W : World} {a m i j k : Nat} {u v x : Value} (h : W.cell? ⟨a, k, none⟩ = some x) (hne : a ≠ m) : ((W.setCell ⟨m, i, none⟩ u).setCell ⟨m, j, none⟩ v).cell? ⟨a, k, none⟩ = some x :=
  (World.cell?_of_block (a := ⟨a, k, none⟩) (by rw [heap_setCell_other _ _ _ _ hne, heap_setCell_other _ _ _ _ hne])).trans h
theorem itC_start {w : World} {b o P cap R : Nat} : ItC w.heap.size (w.heap.size + 1) b o P cap R ((w.alloc (.cells #[.slice (some ⟨b, o, none⟩) P cap] 24)).alloc (.cells #[.int .i64 (R : Int)] 3)).heap.size ((w.alloc (.cells #[.slice (some ⟨b, o, none⟩) P cap] 24)).alloc (.cells #[.int .i64 (R : Int)] 3)) := by
  have h1 := heap_alloc2_old w (.cells #[.slice (some ⟨b, o, none⟩) P cap] 24) (.cells #[.int .i64 (R : Int)] 3)
  have h2 := heap_alloc2_new w (.cells #[.slice (some ⟨b, o, none⟩) P cap] 24) (.cells #[.int .i64 (R : Int)] 3)
  exact ⟨cell_of_row _ _ 0 _ _ _ h1, cell_of_row _ _ 0 _ _ _ h2, by simp; omega, Nat.le_refl _⟩
theorem ck_rev {b o R L j : Nat} (hj : j < L) : ((List.range L).map (ckV b o R)).reverse[j]? = some (.slice (some ⟨b, o + (L - 1 - j) * R, none⟩) R R) := by
  rw [List.getElem?_reverse (by simpa using hj)]
  simp [ckV, show L - 1 - j < L by omega]
set_option maxRecDepth 20000 in
set_option maxHeartbeats 4000000 in
theorem turned_all (r l a b k a2 b2 : Int) (w : World) (v : Value) (T : List Int) (br : Bool) (hl : RowI w v T) (hc : CapR v T) :
    Calls Try.prog 31 #[.agg #[.int .i64 r, .int .i64 l, .int .i64 a, .int .i64 b, .int .i64 k, .int .i64 a2, .int .i64 b2], .agg #[v, .bool br]] w (OutB (turnO r l a b k a2 b2 (T, br)) w) := by
  have HL := hid (fun w1 (g : Below w.heap.size w w1) => hl.keep g)
  obtain ⟨a0, cap, rfl, hcap, _⟩ := hc
  have HS := hid (r3_start (w := w) (A := #[.int .i64 r, .int .i64 l, .int .i64 a, .int .i64 b, .int .i64 k, .int .i64 a2, .int .i64 b2]) (B := #[.slice a0 T.length cap, .bool br]) (R := #[.slice none 0 0, .bool false]))
  clear hl
  cases hbb : bothB r l a b k a2 b2 T br
  · rw [turnO_can hbb]
    go_enter Try.func31, Try.ntmps31
    go_wp2_with fail
    refine (vboth_any _ _ _ _ _ _ _ _ _ T _ (HL.out _ HS.out.low)).mono ?_
    rintro e w1 ⟨rfl, hb⟩
    rw [hbb]
    have H1 := hid (HS.out.keep hb)
    have k0 := H1.out.cell.2.2.1 0; have k1 := H1.out.cell.2.2.1 1; have k2 := H1.out.cell.2.2.2 0; have k3 := H1.out.cell.2.2.2 1
    simp only [List.getElem?_toArray, List.getElem?_cons_zero, List.getElem?_cons_succ] at k0 k1
    go_wp2_with fail
    obtain ⟨c6, c7, c9⟩ := H1.out.nil (u := .slice none 0 0) (v := .bool false)
    exact bodyPost_ret (v := .tuple #[.agg #[.slice none 0 0, .bool false], .int .i64 1]) (by simp [results, Try.results31, go_sem, c6, c7]) rfl (outB_nil rfl c9)
  rw [turnO_ok (x := (T, br)) hbb]
  obtain ⟨c, hcv, ⟨rfl, rfl, rfl, rfl, rfl, rfl, rfl⟩, hbv, hwm⟩ := both_open hbb
  have HOK := hid hcv.ok
  have hr1 := hcv.ok.r1; have hr2 := hcv.ok.r2; have hl1 := hcv.ok.l1; have hl2 := hcv.ok.l2
  have hTl : T.length = c.L * c.R := by rw [Nat.mul_comm]; exact hwm.len
  have hp := hcv.ok.p
  unfold Cn.P at hp
  rw [Nat.mul_comm] at hp
  have hT0 : 0 < T.length := by omega
  obtain ⟨b, o, cap', hv, hcl⟩ := (HL.out w (Below.refl _ _)).some hT0
  injection hv with hv1 hv2 hv3
  subst hv1 hv3
  have HBB := hid hbb
  have HTL := hid hTl
  have HCL := hid (fun (w1 : World) (g : Below w.heap.size w w1) i (hi : i < T.length) => keep_cell g (hcl i hi))
  have hrt : (c.R : Int).toNat = c.R := by simp
  have hlt : (c.L : Int).toNat = c.L := by simp
  simp only [hrt, hlt]
  have hcap2 : c.L * c.R ≤ cap := by omega
  clear hbb hbv hwm hcv hv2 hcl hrt hlt hTl
  generalize hLe : c.L = L at *
  generalize hRe : c.R = R at *
  go_enter Try.func31, Try.ntmps31
  go_wp2_with fail
  refine (vboth_any _ _ _ _ _ _ _ _ _ T _ (HL.out _ HS.out.low)).mono ?_
  rintro e w1 ⟨rfl, hb⟩
  rw [HBB.out]
  have H1 := hid (HS.out.keep hb)
  have k0 := H1.out.cell.2.1 0; have k1 := H1.out.cell.2.1 1
  have k2 := H1.out.cell.1 0
  simp only [List.getElem?_toArray, List.getElem?_cons_zero, List.getElem?_cons_succ] at k0 k1 k2
  clear hb
  go_wp2_with fail
  refine (chunk_any b o T.length cap R w1 (by omega)).mono ?_
  rintro e w2 ⟨rfl, hw2⟩
  have HI := hid (itC_start (w := w1) (b := b) (o := o) (P := T.length) (cap := cap) (R := R))
  have hb2 : Below w1.heap.size w1 w2 := by rw [hw2]; exact ((Below.refl _ w1).alloc (Nat.le_refl _) _).alloc (by simp) _
  rw [← hw2] at HI
  clear hw2
  have H2 := hid (H1.out.keep hb2)
  clear k0 k1 k2 hb2
  go_wp2_with fail
  refine (collect_any w1.heap.size (w1.heap.size + 1) b o T.length cap R L w2 (by omega) HTL.out hcap (by have := HTL.out; omega) (by omega) HI.out).mono ?_
  rintro e w3 ⟨u, rfl, hu, hb3⟩
  have hxl : ((List.range L).map (ckV b o R)).length = L := by simp
  obtain ⟨g, ucap, rfl, hg1, hg2⟩ := ownV_some hu (by omega)
  rw [hxl]
  have HU := hid hu
  rw [hxl] at HU
  have H3 := hid (H2.out.keep hb3)
  have hws := lt_of_block H2.out.res
  clear hu hb3
  go_wp2_with fail
  have hrev := reverse_any (.slice (some ⟨g, 0, none⟩) L ucap) _ (w2.heap.size + 1) w3 HU.out (by omega) (by omega) (fun x hx => by obtain ⟨i, _, rfl⟩ := List.mem_map.1 hx; exact ⟨_, _, _, rfl⟩)
  refine hrev.mono ?_
  rintro e w4 ⟨rfl, hu, hb4⟩
  clear hrev
  have HU4 := hid hu
  have H4 := hid (H3.out.keepB hb4 (by omega))
  clear hu hb4
  have HROW := hid (fun j (hj : j < L) => show w4.cell? ⟨g, j, none⟩ = some (.slice (some ⟨b, o + (L - 1 - j) * R, none⟩) R R) from by
    have h := HU4.out
    unfold OwnV at h
    rw [List.length_reverse, hxl] at h
    exact (World.ownsRow.cellAt h j (by omega)).trans (ck_rev hj))
  have HCON := hid (fun (w5 : World) (hb : Below w4.heap.size w4 w5) => concat_any g ucap b o R L T w5 (by omega) (by omega) HTL.out (by omega) (by omega) (by omega) (fun j hj => keep_cell hb (HROW.out j hj)) (fun i hi => HCL.out w5 (bstep H4.out.low H4.out.low.size hb) i hi))
  have k1 := H4.out.cell.2.1 1
  simp only [List.getElem?_toArray, List.getElem?_cons_zero, List.getElem?_cons_succ] at k1
  have HK1 := hid (fun (w5 : World) (hb : Below w4.heap.size w4 w5) => show w5.cell? ⟨w.heap.size + 1, 1, none⟩ = some (.bool br) from keep_cell hb k1)
  clear HU HU4 HI k1
  go_wp2_with fail
  go_region_held3 (fun w5 => w5.cell? ⟨w.heap.size + 1, 1, none⟩ = some (.bool br))
    (first | with_reducible exact HK1.out _ (Below.refl _ _).drew | with_reducible exact HK1.out _ HBK.out | exact cell_far2 (HK1.out _ HBK.out) (by omega))
    ((go_at_call 70; refine (HCON.out _ (by with_reducible exact (Below.refl _ _).drew)).mono ?_; rintro e wk ⟨u5, rfl, ho, hb⟩; have HBK := hid (show Below w4.heap.size w4 wk from (Below.refl _ _).drew.trans hb); obtain ⟨ua5, uc5, rfl⟩ := rows_shapeC ho; have HO5 := hid ho; have H5 := hid (H4.out.keep HBK.out); have k0 := H5.out.cell.2.2.1 0; have k1 := H5.out.cell.2.2.1 1; have k2 := H5.out.cell.2.2.2 0; have k3 := H5.out.cell.2.2.2 1; simp only [List.getElem?_toArray, List.getElem?_cons_zero, List.getElem?_cons_succ] at k0 k1; clear hb ho))
  all_goals
    go_wp2_with fail
    have hlen := flL_len HTL.out L (Nat.le_refl _)
    obtain ⟨c6, c7, c9⟩ := H5.out.nil (u := .slice ua5 (flL T R L L).length uc5) (v := .bool br)
    refine bodyPost_ret (v := .tuple #[.agg #[.slice ua5 (flL T R L L).length uc5, .bool br], .int .i64 0]) (by simp [results, Try.results31, go_sem, c6, c7]) rfl ⟨ua5, uc5, rfl, ?_, c9⟩
    have ho := HO5.out
    have hri := own_rowI ho (by rw [hlen]; omega)
    rcases ho.2 with ⟨_, h0⟩ | ⟨g5, cap5, cur5, hv5, hb5, _⟩
    · rw [hlen] at h0; omega
    · injection hv5 with e1 e2 e3
      subst e1
      have hwr := lt_of_block H4.out.res
      exact rowI_far hri (by have h := hb5; simp at h; omega)
end Go.Proofs.Ytpkcnojcklmhmaa
