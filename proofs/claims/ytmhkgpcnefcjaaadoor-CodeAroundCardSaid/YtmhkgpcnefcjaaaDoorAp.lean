/- Own rows of stamps; walks of Around of both: contracts. -/
import Derived.Test.YtmhkgpcnefcjaaaDoorAm
import Derived.Test.YtmhkgpcnefcjaaaDoorCf
namespace Go.Proofs.YtmhkgpcnefcjaaaDoor
open Go.RowKit

def uvs : List Stp → List Value
  | [] => []
  | x :: l => .string x.pl :: .string x.pr :: .string x.ln :: .int .i64 x.dy :: .int .i64 x.pe :: uvs l
theorem uvs_len : ∀ l : List Stp, (uvs l).length = l.length * 5
  | [] => rfl
  | d :: l => by simp only [uvs, List.length_cons, uvs_len l]; omega
theorem uvs_app : ∀ l m : List Stp, uvs (l ++ m) = uvs l ++ uvs m
  | [], m => rfl
  | d :: l, m => by simp only [uvs, List.cons_append, uvs_app l m]
theorem uvs_at : ∀ (l : List Stp) (j : Nat) (h : j < l.length), (uvs l)[j * 5]? = some (.string l[j].pl) ∧ (uvs l)[j * 5 + 1]? = some (.string l[j].pr) ∧ (uvs l)[j * 5 + 2]? = some (.string l[j].ln) ∧ (uvs l)[j * 5 + 3]? = some (.int .i64 l[j].dy) ∧ (uvs l)[j * 5 + 4]? = some (.int .i64 l[j].pe)
  | d :: l, 0, _ => by simp [uvs]
  | d :: l, j + 1, h => by
    have ih := uvs_at l j (by simpa using h)
    have e : (j + 1) * 5 = j * 5 + 1 + 1 + 1 + 1 + 1 := by omega
    rw [e]
    simpa [uvs] using ih
/-- Stamps in a row of the call's own. -/
def OwnU (w : World) (base : Nat) (v : Value) (l : List Stp) : Prop := w.ownsRow base 48 5 v l.length (uvs l)
theorem OwnU.row {w : World} {base : Nat} {v : Value} {l : List Stp} (h : OwnU w base v l) : RowU w v l := by
  rcases h.2 with ⟨rfl, h0⟩ | ⟨g, cap, cur, rfl, _, hg, hcap, hmx, hcs, ht⟩
  · obtain rfl := List.length_eq_zero_iff.1 h0
    exact RowU.nil w _ _
  · refine ⟨some ⟨g, 0, none⟩, g, 0, cap, rfl, .inr rfl, Nat.le_trans hcap hmx, fun k hk => ?_⟩
    obtain ⟨h1, h2, h3, h4, h5⟩ := uvs_at l k hk
    rw [← ht] at h1 h2 h3 h4 h5
    rw [List.getElem?_take_of_lt (by omega)] at h1 h2 h3 h4 h5
    simp only [Nat.zero_add]
    refine ⟨?_, ?_, ?_, ?_, ?_⟩ <;> rw [cell_of_row w g _ cur _ _ hg]
    · simpa using h1
    · simpa using h2
    · simpa using h3
    · simpa using h4
    · simpa using h5
theorem ownU_nil (w : World) (base : Nat) : OwnU w base (.slice none 0 0) [] := World.ownsRow_nil w base _ 5
theorem ownU_shape {w : World} {base : Nat} {v : Value} {l : List Stp} (h : OwnU w base v l) : ∃ ua uc, v = .slice ua l.length uc := by
  rcases h.2 with ⟨rfl, h0⟩ | ⟨g, cap, cur, rfl, _⟩
  · exact ⟨_, _, by rw [h0]⟩
  · exact ⟨_, _, rfl⟩
theorem OwnU.app {w : World} {base : Nat} {v : Value} {l : List Stp} {d : Stp} (h : w.ownsRow base 48 5 v (l.length + 1) (uvs l ++ [.string d.pl, .string d.pr, .string d.ln, .int .i64 d.dy, .int .i64 d.pe])) : OwnU w base v (l ++ [d]) := by
  unfold OwnU
  rw [List.length_append, uvs_app]
  exact h
theorem OwnU.keep {W w2 : World} {base : Nat} {v : Value} {l : List Stp} (h : OwnU W base v l) (hb : Below W.heap.size W w2) : OwnU w2 base v l := by
  refine ⟨h.1, ?_⟩
  rcases h.2 with hn | ⟨g, cap, cur, rfl, hb', hg, rest⟩
  · exact .inl hn
  · exact .inr ⟨g, cap, cur, rfl, hb', (hb.block _ (Array.getElem?_eq_some_iff.1 hg).1).trans hg, rest⟩
theorem cell_five_new {w : World} {a b c d e : Value} {T : TypeId} {m : Nat} (hm : w.heap.size = m) : ∀ j y, [a, b, c, d, e][j]? = some y → (w.alloc (.cells #[a, b, c, d, e] T)).cell? ((⟨m, 0, none⟩ : Addr).add j) = some y := by
  subst hm
  intro j y h
  match j with
  | 0 => simp at h; subst h; simp [Addr.add]
  | 1 => simp at h; subst h; simp [Addr.add]
  | 2 => simp at h; subst h; simp [Addr.add]
  | 3 => simp at h; subst h; simp [Addr.add]
  | 4 => simp at h; subst h; simp [Addr.add]
  | j + 5 => simp at h
theorem five_cell1 {a b c : ByteArray} {d e : Int} : ∀ u ∈ [Value.string a, .string b, .string c, .int .i64 d, .int .i64 e], u.oneCell' = true := by
  intro u hu
  simp at hu
  rcases hu with rfl | rfl | rfl | rfl | rfl <;> rfl
theorem infoU2 : (Tryd.prog.info? 48).map (fun i => (i.zero, i.size, i.bytes)) = some (some (.agg #[.string ⟨#[]⟩, .string ⟨#[]⟩, .string ⟨#[]⟩, .int .i64 0, .int .i64 0]), 5, 64) := by kernel_rfl
theorem infoU : ∃ i, Tryd.prog.info? 48 = some i ∧ i.zero = some (.agg #[.string ⟨#[]⟩, .string ⟨#[]⟩, .string ⟨#[]⟩, .int .i64 0, .int .i64 0]) ∧ i.size = 5 ∧ i.bytes = 64 := info_cut infoU2
/-- The stamps from a period on. -/
def arL (x : Stp) (A : Int) (k : Nat) : List Stp := (List.range k).map fun i : Nat => ⟨x.pl, x.pr, x.ln, (A + i) / 31, (A + i) % 31⟩
theorem arL_succ (x : Stp) (A : Int) (k : Nat) : arL x A (k + 1) = arL x A k ++ [⟨x.pl, x.pr, x.ln, (A + k) / 31, (A + k) % 31⟩] := by simp [arL, List.range_succ]
theorem arL_len (x : Stp) (A : Int) (k : Nat) : (arL x A k).length = k := by simp [arL]
/-- What Around answers. -/
def arC (x : Stp) (m : Int) : Int := if x.ok = true then (if 0 ≤ m ∧ m ≤ 30 ∧ m ≤ x.dy * 31 + x.pe then 0 else 7) else 1
def arO (x : Stp) (m : Int) : List Stp := if arC x m = 0 then arL x (x.dy * 31 + x.pe - m) (m.toNat + 1) else []
def ArP (L : List Stp) (c : Int) (w : World) (e : Ending) (w' : World) : Prop := ∃ u, e = .returned (.tuple #[u, .int .i64 c]) ∧ RowU w' u L ∧ Below w.heap.size w w'
theorem Bx.appU {w wr w1 : World} {B : Nat} {T : TypeId} {cs : Array Value} {v : Value} {ls : List Stp} {o : Obj} (h : Bx w wr B T cs) (hv : OwnU wr (B + 1) v ls) (hg : (wr.alloc o).grownBy w1 v.ownBlock) : Bx w w1 B T cs := by
  have hlt := bx_lt h
  have hn := h.new
  have hne : ∀ k, v.ownBlock = some k → B + 1 ≤ k ∧ k < wr.heap.size := World.ownsRow.lt hv
  refine ⟨?_, hn, ?_⟩
  · rw [hg.block B (by simp; omega) (fun e => by have := (hne _ e.symm).1; omega)]
    exact row_alloc h.row
  · exact (h.low.alloc h.low.size _).grown hg (by have := h.low.size; simp; omega) (fun k hk => by have := (hne k hk).1; omega)
theorem OwnU.other {w : World} {base b : Nat} {v : Value} {l : List Stp} (h : OwnU w base v l) (hb : b < base) (k : Nat) (u : Value) : OwnU (w.setCell ⟨b, k, none⟩ u) base v l := by
  refine ⟨h.1, ?_⟩
  rcases h.2 with hn | ⟨g, cap, cur, rfl, hb', hg, rest⟩
  · exact .inl hn
  · exact .inr ⟨g, cap, cur, rfl, hb', (heap_setCell_other _ _ _ _ (show g ≠ b by omega)).trans hg, rest⟩
set_option maxRecDepth 100000 in
set_option maxHeartbeats 8000000 in
theorem caround_any (x : Stp) (m : Int) (w : World) : Calls Tryd.prog 24 #[.agg #[.string x.pl, .string x.pr, .string x.ln, .int .i64 x.dy, .int .i64 x.pe], .int .i64 m] w (ArP (arO x m) (arC x m) w) := by
  have HV := hid (cvalid_f x)
  obtain ⟨pl, pr, ln, dy, pe⟩ := x
  have HX := hid (bx_new w 48 #[.string pl, .string pr, .string ln, .int .i64 dy, .int .i64 pe])
  cases hx : Stp.ok ⟨pl, pr, ln, dy, pe⟩
  · have HE := hid (show arO ⟨pl, pr, ln, dy, pe⟩ m = [] ∧ arC ⟨pl, pr, ln, dy, pe⟩ m = 1 by
      have : arC ⟨pl, pr, ln, dy, pe⟩ m = 1 := by unfold arC; rw [hx]; rfl
      exact ⟨by unfold arO; rw [this]; rfl, this⟩)
    rw [hx] at HV
    rw [HE.out.1, HE.out.2]
    clear hx
    simp only at HV
    go_enter Tryd.func24, Tryd.ntmps24
    go_wp2_with fail
    refine (HV.out _).mono ?_
    rintro e w2 ⟨rfl, hb⟩
    have HX := hid (HX.out.keep hb)
    clear hb
    go_wp2_with fail
    go_ret2
    exact ⟨_, rfl, RowU.nil _ _ _, HX.out.low⟩
  have HOK := hid hx
  obtain ⟨_, _, _, ⟨d0, d1⟩, ⟨p0, p1⟩⟩ := (stampB_iff ..).1 (show stampB pl pr ln dy pe = true from hx)
  rw [hx] at HV
  simp only at HV
  obtain ⟨P, hP⟩ : ∃ P, dy * 31 + pe = P := ⟨_, rfl⟩
  have hP0 : 0 ≤ P := by omega
  have hP1 : P ≤ 3000000 := by omega
  have HPQ := hid hP
  obtain ⟨Q, hQ, hQ2⟩ : ∃ Q, (P < 30 ∧ Q = P ∨ ¬ P < 30 ∧ Q = 30) ∧ Q = (if P < 30 then P else 30) := by
    by_cases g : P < 30
    · exact ⟨P, .inl ⟨g, rfl⟩, by rw [if_pos g]⟩
    · exact ⟨30, .inr ⟨g, rfl⟩, by rw [if_neg g]⟩
  obtain ⟨R, hR⟩ : ∃ R, inB m 0 Q = R := ⟨_, rfl⟩
  have HRB := hid hR
  have HRI := hid (show R = true ↔ 0 ≤ m ∧ m ≤ 30 ∧ m ≤ P by
    rw [← hR, inB_iff]
    rcases hQ with ⟨g, rfl⟩ | ⟨g, rfl⟩ <;> omega)
  clear hx hR hQ2
  cases R
  · have HE := hid (show arO ⟨pl, pr, ln, dy, pe⟩ m = [] ∧ arC ⟨pl, pr, ln, dy, pe⟩ m = 7 by
      have h7 : ¬ (0 ≤ m ∧ m ≤ 30 ∧ m ≤ P) := fun g => by have := HRI.out.2 g; cases this
      have : arC ⟨pl, pr, ln, dy, pe⟩ m = 7 := by
        unfold arC
        rw [HOK.out, if_pos rfl]
        simp only
        rw [hP, if_neg h7]
      exact ⟨by unfold arO; rw [this]; rfl, this⟩)
    rw [HE.out.1, HE.out.2]
    rcases hQ with ⟨g30, hQe⟩ | ⟨g30, hQe⟩
    all_goals
    rw [hQe] at HRB
    rw [← hP] at g30
    clear hQe HRI
    clear hP
    go_enter Tryd.func24, Tryd.ntmps24
    go_wp2_with fail
    refine (HV.out _).mono ?_
    rintro e w2 ⟨rfl, hb⟩
    have HX := hid (HX.out.keep hb)
    obtain ⟨b0, b1, b2, b3, b4⟩ := HX.out.five
    clear hb
    go_wp2_with fail
    (try rw [HPQ.out])
    refine (cwithin_any _ _ _ _).mono ?_
    rintro e w3 ⟨rfl, rfl⟩
    (try rw [HPQ.out])
    rw [HRB.out]
    go_wp2_with fail
    go_ret2
    exact ⟨_, rfl, RowU.nil _ _ _, HX.out.low⟩
  · obtain ⟨m0, m1, m2⟩ := HRI.out.1 rfl
    have HE := hid (show arO ⟨pl, pr, ln, dy, pe⟩ m = arL ⟨pl, pr, ln, dy, pe⟩ (P - m) (m.toNat + 1) ∧ arC ⟨pl, pr, ln, dy, pe⟩ m = 0 by
      have : arC ⟨pl, pr, ln, dy, pe⟩ m = 0 := by
        unfold arC
        rw [HOK.out, if_pos rfl]
        simp only
        rw [hP, if_pos ⟨m0, m1, m2⟩]
      refine ⟨?_, this⟩
      unfold arO
      rw [this, if_pos rfl]
      simp only
      rw [hP])
    rw [HE.out.1, HE.out.2]
    obtain ⟨M, rfl⟩ : ∃ M : Nat, m = (M : Int) := ⟨m.toNat, by omega⟩
    simp only [Int.toNat_natCast]
    obtain ⟨i0, hi, hz0, hz1, hz2⟩ := infoU
    rcases hQ with ⟨g30, hQe⟩ | ⟨g30, hQe⟩
    all_goals
    rw [hQe] at HRB
    rw [← hP] at g30
    clear hQe HRI
    clear hP
    go_enter Tryd.func24, Tryd.ntmps24
    go_wp2_with fail
    refine (HV.out _).mono ?_
    rintro e w2 ⟨rfl, hb⟩
    have HX := hid (HX.out.keep hb)
    obtain ⟨b0, b1, b2, b3, b4⟩ := HX.out.five
    clear hb
    go_wp2_with fail
    (try rw [HPQ.out])
    refine (cwithin_any _ _ _ _).mono ?_
    rintro e w3 ⟨rfl, rfl⟩
    (try rw [HPQ.out])
    rw [HRB.out]
    clear b0 b1 b2 b3 b4
    go_wp2_with fail
    obtain ⟨A, hA⟩ : ∃ A, P - (M : Int) = A := ⟨_, rfl⟩
    have hA0 : 0 ≤ A := by omega
    have hAM : A + M = P := by omega
    rw [hA]
    have HAQ := hid hA
    clear hA
    go_loopw [7, 8] (fun u t wr => ∃ (k : Nat) (d e : Int), k ≤ M + 1 ∧ t = .int .i64 (A + (k : Int)) ∧ Hid (OwnU wr (w.heap.size + 1) u (arL ⟨pl, pr, ln, dy, pe⟩ A k)) ∧ Hid (Bx w wr w.heap.size 48 #[.string pl, .string pr, .string ln, .int .i64 d, .int .i64 e])) (fun _ t _ => (P + 1 - intOf t).toNat)
    case atStart => exact ⟨0, dy, pe, by omega, by go_num, ownU_nil _ _, HX⟩
    case round =>
      clear HX
      obtain ⟨k, d, e, hk, rfl, hO, HX⟩ := hrel
      have HLN := hid (arL_len ⟨pl, pr, ln, dy, pe⟩ A k)
      have HSC := hid (arL_succ ⟨pl, pr, ln, dy, pe⟩ A k)
      obtain ⟨oa, oc, rfl⟩ := ownU_shape hO.out
      by_cases hlt : k ≤ M
      · have hle : A + (k : Int) ≤ P := by omega
        obtain ⟨T, hT⟩ : ∃ T, A + (k : Int) = T := ⟨_, rfl⟩
        have HTQ := hid hT
        have hT0 : 0 ≤ T := by omega
        have hT1 : T ≤ 3000000 := by omega
        rw [hT] at hle ⊢
        rw [hT] at HSC
        have t1 : T.tdiv 31 = T / 31 := Int.tdiv_eq_ediv_of_nonneg hT0
        have t2 : T.tmod 31 = T % 31 := Int.tmod_eq_emod_of_nonneg hT0
        have q3 := HX.out.frz 3
        have q4 := HX.out.frz 4
        obtain ⟨b0, b1, b2, b3, b4⟩ := HX.out.five
        have HX2 := hid (show Bx w ((wr.setCell ⟨w.heap.size, 3, none⟩ (.int .i64 (T / 31))).setCell ⟨w.heap.size, 4, none⟩ (.int .i64 (T % 31))) w.heap.size 48 #[.string pl, .string pr, .string ln, .int .i64 (T / 31), .int .i64 (T % 31)] from
          (HX.out.set 3 (.int .i64 (T / 31)) (ms := #[.string pl, .string pr, .string ln, .int .i64 (T / 31), .int .i64 e]) rfl).set 4 (.int .i64 (T % 31)) (ms := #[.string pl, .string pr, .string ln, .int .i64 (T / 31), .int .i64 (T % 31)]) rfl)
        have HO2 := hid ((hO.out.other (b := w.heap.size) (by omega) 3 (.int .i64 (T / 31))).other (b := w.heap.size) (by omega) 4 (.int .i64 (T % 31)))
        have HLT := hid hlt
        generalize arL ⟨pl, pr, ln, dy, pe⟩ A k = L at *
        clear hT hlt
        go_wp2_with (at_builtin; refine wpList_append_own _ rfl _ _ 40 rfl (w.heap.size + 1) 48 i0 (.agg #[.string ⟨#[]⟩, .string ⟨#[]⟩, .string ⟨#[]⟩, .int .i64 0, .int .i64 0]) 5 64 Tryd.underlying40 hi hz0 hz1 hz2 rfl (by decide) _ _ _ rfl (World.ownsRow.alloc HO2.out _) ⟨wr.heap.size, 0, none⟩ 1 1 [.string pl, .string pr, .string ln, .int .i64 (T / 31), .int .i64 (T % 31)] rfl rfl (cell_five_new (by simp)) five_cell1 (by have := HLN.out; unfold maxLen; omega) (by have := HLN.out; omega) (by have := bx_lt HX2.out; simp at this ⊢; omega) ?_; intro v1 w6 hown6 hgrow6 _)
        have HX6 := hid (HX2.out.appU HO2.out hgrow6)
        have HR6 := hid (OwnU.app (d := ⟨pl, pr, ln, T / 31, T % 31⟩) hown6)
        clear hown6 hgrow6
        go_roundw
        case rel => exact ⟨k + 1, T / 31, T % 31, by have := HLT.out; omega, by rw [← HTQ.out]; go_num, by rw [HSC.out]; exact HR6, HX6⟩
        case measure => have := HLT.out; simp [intOf]; omega
      · obtain rfl : k = M + 1 := by omega
        have hle : ¬ A + ((M + 1 : Nat) : Int) ≤ P := by omega
        go_wp2_with fail
        go_ret2
        exact ⟨_, rfl, by rw [HAQ.out]; exact hO.out.row, HX.out.low⟩
set_option maxRecDepth 100000 in
set_option maxHeartbeats 8000000 in
theorem xaround_any (x : Stp) (m : Int) (w : World) : Calls Tryd.prog 25 #[.agg #[.string x.pl, .string x.pr, .string x.ln, .int .i64 x.dy, .int .i64 x.pe], .int .i64 m] w (ArP (arO x m) (arC x m) w) := by
  have HV := hid (fun W => xstamp_any x.pl x.pr x.ln x.dy x.pe W)
  obtain ⟨pl, pr, ln, dy, pe⟩ := x
  have HX := hid (bx_new w 48 #[.string pl, .string pr, .string ln, .int .i64 dy, .int .i64 pe])
  simp only at HV
  cases hx : stampB pl pr ln dy pe
  · have hx2 : Stp.ok ⟨pl, pr, ln, dy, pe⟩ = false := hx
    have HE := hid (show arO ⟨pl, pr, ln, dy, pe⟩ m = [] ∧ arC ⟨pl, pr, ln, dy, pe⟩ m = 1 by
      have : arC ⟨pl, pr, ln, dy, pe⟩ m = 1 := by unfold arC; rw [hx2]; rfl
      exact ⟨by unfold arO; rw [this]; rfl, this⟩)
    rw [hx] at HV
    rw [HE.out.1, HE.out.2]
    clear hx hx2
    go_enter Tryd.func25, Tryd.ntmps25
    go_wp2_with fail
    refine (HV.out _).mono ?_
    rintro e w2 ⟨rfl, hb⟩
    have HX := hid (HX.out.keep hb)
    clear hb
    go_wp2_with fail
    go_ret2
    exact ⟨_, rfl, RowU.nil _ _ _, HX.out.low⟩
  have hok : Stp.ok ⟨pl, pr, ln, dy, pe⟩ = true := hx
  have HOK := hid hok
  obtain ⟨_, _, _, ⟨d0, d1⟩, ⟨p0, p1⟩⟩ := (stampB_iff ..).1 hx
  rw [hx] at HV
  obtain ⟨P, hP⟩ : ∃ P, 31 * dy + pe = P := ⟨_, rfl⟩
  have hP0 : 0 ≤ P := by omega
  have hP1 : P ≤ 3000000 := by omega
  have HPQ := hid hP
  have hP2 : dy * 31 + pe = P := by omega
  have HP2 := hid hP2
  clear hx hok hP2
  obtain ⟨R, hR⟩ : ∃ R, inB m 0 30 = R := ⟨_, rfl⟩
  have HRB := hid hR
  cases R
  · have HE := hid (show arO ⟨pl, pr, ln, dy, pe⟩ m = [] ∧ arC ⟨pl, pr, ln, dy, pe⟩ m = 7 by
      have h7 : ¬ (0 ≤ m ∧ m ≤ 30 ∧ m ≤ P) := fun g => by rw [inB_iff.2 ⟨g.1, g.2.1⟩] at hR; cases hR
      have : arC ⟨pl, pr, ln, dy, pe⟩ m = 7 := by
        unfold arC
        rw [HOK.out, if_pos rfl]
        simp only
        rw [HP2.out, if_neg h7]
      exact ⟨by unfold arO; rw [this]; rfl, this⟩)
    rw [HE.out.1, HE.out.2]
    clear hP hR
    go_enter Tryd.func25, Tryd.ntmps25
    go_wp2_with fail
    refine (HV.out _).mono ?_
    rintro e w2 ⟨rfl, hb⟩
    have HX := hid (HX.out.keep hb)
    obtain ⟨b0, b1, b2, b3, b4⟩ := HX.out.five
    clear hb
    go_wp2_with (go_at_call 52; refine (xwithin_any _ _ _ _).mono ?_; rintro e w3 ⟨rfl, rfl⟩; rw [HRB.out])
    go_ret2
    exact ⟨_, rfl, RowU.nil _ _ _, HX.out.low⟩
  obtain ⟨m0, m1⟩ := inB_iff.1 hR
  by_cases hmP : m ≤ P
  case neg =>
    have HE := hid (show arO ⟨pl, pr, ln, dy, pe⟩ m = [] ∧ arC ⟨pl, pr, ln, dy, pe⟩ m = 7 by
      have h7 : ¬ (0 ≤ m ∧ m ≤ 30 ∧ m ≤ P) := fun g => hmP g.2.2
      have : arC ⟨pl, pr, ln, dy, pe⟩ m = 7 := by
        unfold arC
        rw [HOK.out, if_pos rfl]
        simp only
        rw [HP2.out, if_neg h7]
      exact ⟨by unfold arO; rw [this]; rfl, this⟩)
    rw [HE.out.1, HE.out.2]
    have hlt : 31 * dy + pe < m := by omega
    clear hP hR hmP
    go_enter Tryd.func25, Tryd.ntmps25
    go_wp2_with fail
    refine (HV.out _).mono ?_
    rintro e w2 ⟨rfl, hb⟩
    have HX := hid (HX.out.keep hb)
    obtain ⟨b0, b1, b2, b3, b4⟩ := HX.out.five
    clear hb
    go_wp2_with (go_at_call 52; refine (xwithin_any _ _ _ _).mono ?_; rintro e w3 ⟨rfl, rfl⟩; rw [HRB.out])
    go_ret2
    exact ⟨_, rfl, RowU.nil _ _ _, HX.out.low⟩
  have HE := hid (show arO ⟨pl, pr, ln, dy, pe⟩ m = arL ⟨pl, pr, ln, dy, pe⟩ (P - m) (m.toNat + 1) ∧ arC ⟨pl, pr, ln, dy, pe⟩ m = 0 by
      have : arC ⟨pl, pr, ln, dy, pe⟩ m = 0 := by
        unfold arC
        rw [HOK.out, if_pos rfl]
        simp only
        rw [HP2.out, if_pos ⟨m0, m1, hmP⟩]
      refine ⟨?_, this⟩
      unfold arO
      rw [this, if_pos rfl]
      simp only
      rw [HP2.out])
  rw [HE.out.1, HE.out.2]
  obtain ⟨M, rfl⟩ : ∃ M : Nat, m = (M : Int) := ⟨m.toNat, by omega⟩
  simp only [Int.toNat_natCast]
  obtain ⟨i0, hi, hz0, hz1, hz2⟩ := infoU
  have hlt : ¬ 31 * dy + pe < (M : Int) := by omega
  clear hP hR
  go_enter Tryd.func25, Tryd.ntmps25
  go_wp2_with fail
  refine (HV.out _).mono ?_
  rintro e w2 ⟨rfl, hb⟩
  have HX := hid (HX.out.keep hb)
  obtain ⟨b0, b1, b2, b3, b4⟩ := HX.out.five
  clear hb
  go_wp2_with (go_at_call 52; refine (xwithin_any _ _ _ _).mono ?_; rintro e w3 ⟨rfl, rfl⟩; rw [HRB.out])
  clear b0 b1 b2 b3 b4 hlt
  (try rw [HPQ.out])
  obtain ⟨A, hA⟩ : ∃ A, P - (M : Int) = A := ⟨_, rfl⟩
  have hA0 : 0 ≤ A := by omega
  have hAM : A + M = P := by omega
  have HAQ := hid hA
  clear hA
  go_loopw [6, 7] (fun u t wr => ∃ (k : Nat), k ≤ M + 1 ∧ t = .int .i64 (A + (k : Int)) ∧ Hid (OwnU wr (w.heap.size + 1) u (arL ⟨pl, pr, ln, dy, pe⟩ A k)) ∧ Hid (Bx w wr w.heap.size 48 #[.string pl, .string pr, .string ln, .int .i64 dy, .int .i64 pe])) (fun _ t _ => (P + 1 - intOf t).toNat)
  case atStart => exact ⟨0, by omega, by rw [← HAQ.out, ← HPQ.out]; go_num, ownU_nil _ _, HX⟩
  case round =>
    clear HX
    obtain ⟨k, hk, rfl, hO, HX⟩ := hrel
    have HLN := hid (arL_len ⟨pl, pr, ln, dy, pe⟩ A k)
    have HSC := hid (arL_succ ⟨pl, pr, ln, dy, pe⟩ A k)
    obtain ⟨oa, oc, rfl⟩ := ownU_shape hO.out
    have q3 := HX.out.frz 3
    obtain ⟨b0, b1, b2, b3, b4⟩ := HX.out.five
    by_cases hlt : k ≤ M
    · have hle : A + (k : Int) ≤ 31 * dy + pe := by have := HPQ.out; omega
      obtain ⟨T, hT⟩ : ∃ T, A + (k : Int) = T := ⟨_, rfl⟩
      have HTQ := hid hT
      have hT0 : 0 ≤ T := by omega
      have hT1 : T ≤ 3000000 := by omega
      rw [hT] at hle ⊢
      rw [hT] at HSC
      have t1 : T.tdiv 31 = T / 31 := Int.tdiv_eq_ediv_of_nonneg hT0
      have t2 : T.tmod 31 = T % 31 := Int.tmod_eq_emod_of_nonneg hT0
      have HLT := hid hlt
      have hHP := HPQ.out
      clear hT hlt
      have HX2 := hid (HX.out.keep ((Below.refl wr.heap.size wr).alloc (Nat.le_refl _) (.cells #[.string pl, .string pr, .string ln, .int .i64 (T / 31), .int .i64 (T % 31)] 48)))
      have HO2 := hid (hO.out.keep ((Below.refl wr.heap.size wr).alloc (Nat.le_refl _) (.cells #[.string pl, .string pr, .string ln, .int .i64 (T / 31), .int .i64 (T % 31)] 48)))
      generalize arL ⟨pl, pr, ln, dy, pe⟩ A k = L at *
      go_wp2_with (at_builtin; refine wpList_append_own _ rfl _ _ 40 rfl (w.heap.size + 1) 48 i0 (.agg #[.string ⟨#[]⟩, .string ⟨#[]⟩, .string ⟨#[]⟩, .int .i64 0, .int .i64 0]) 5 64 Tryd.underlying40 hi hz0 hz1 hz2 rfl (by decide) _ _ _ rfl (World.ownsRow.alloc HO2.out _) ⟨wr.heap.size + 1, 0, none⟩ 1 1 [.string pl, .string pr, .string ln, .int .i64 (T / 31), .int .i64 (T % 31)] rfl rfl (cell_five_new (by simp)) five_cell1 (by have := HLN.out; unfold maxLen; omega) (by have := HLN.out; omega) (by have := bx_lt HX2.out; simp at this ⊢; omega) ?_; intro v1 w6 hown6 hgrow6 _)
      have HX6 := hid (HX2.out.appU HO2.out hgrow6)
      have HR6 := hid (OwnU.app (d := ⟨pl, pr, ln, T / 31, T % 31⟩) hown6)
      clear hown6 hgrow6
      go_roundw
      case rel => exact ⟨k + 1, by have := HLT.out; omega, by rw [← HTQ.out]; go_num, by rw [HSC.out]; exact HR6, HX6⟩
      case measure => have := HLT.out; simp [intOf]; omega
    · obtain rfl : k = M + 1 := by omega
      have hle : ¬ A + ((M + 1 : Nat) : Int) ≤ 31 * dy + pe := by have := HPQ.out; omega
      go_wp2_with fail
      go_ret2
      exact ⟨_, rfl, by rw [HAQ.out]; exact hO.out.row, HX.out.low⟩
end Go.Proofs.YtmhkgpcnefcjaaaDoor
