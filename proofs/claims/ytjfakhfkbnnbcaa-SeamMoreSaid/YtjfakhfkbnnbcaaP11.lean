/- Texts of this seat, one behind the other. -/
import Derived.Test.YtjfakhfkbnnbcaaOa
import Derived.Laws.EntriesVeiled
import Derived.Deep.DeepCutAuto
/- Walk of outside: contract. -/
namespace Go.Proofs.Ytjfakhfkbnnbcaa
open Go.RowKit

def OutB (W : World) (b : Nat) (lo hi : Int) (fv : Value) : Prop := W.cell? ⟨b, 0, none⟩ = some (.int .i64 lo) ∧ W.cell? ⟨b + 1, 0, none⟩ = some (.int .i64 hi) ∧ W.cell? ⟨b + 2, 0, none⟩ = some fv
theorem OutB.keep {W w2 : World} {b : Nat} {lo hi : Int} {fv : Value} (h : OutB W b lo hi fv) (hb : Below W.heap.size W w2) : OutB w2 b lo hi fv := ⟨keep_cell hb h.1, keep_cell hb h.2.1, keep_cell hb h.2.2⟩
def OutP (lo hi : Int) (fv : Value) (w : World) (e : Ending) (w' : World) : Prop := ∃ b, e = .returned (.func (.func 91) #[] #[.pointer (some ⟨b + 2, 0, none⟩), .pointer (some ⟨b, 0, none⟩), .pointer (some ⟨b + 1, 0, none⟩)]) ∧ OutB w' b lo hi fv ∧ Below w.heap.size w w'
theorem out_start (w : World) (lo hi : Int) (fv : Value) (T T' : TypeId) : OutB (((w.alloc (.cells #[.int .i64 lo] T)).alloc (.cells #[.int .i64 hi] T)).alloc (.cells #[fv] T')) w.heap.size lo hi fv ∧ Below w.heap.size w (((w.alloc (.cells #[.int .i64 lo] T)).alloc (.cells #[.int .i64 hi] T)).alloc (.cells #[fv] T')) := by
  have h := box2_start (w := w) (A := #[.int .i64 lo]) (B := #[.int .i64 hi]) (T := T) (T' := T) (fz := (0, 0)) (fz' := (0, 0))
  have h2 := h.keep ((Below.refl _ _).alloc (Nat.le_refl _) (.cells #[fv] T'))
  refine ⟨⟨h2.fst 0, h2.snd 0, ?_⟩, h2.low⟩
  have h3 := cell_alloc_new ((w.alloc (.cells #[.int .i64 lo] T)).alloc (.cells #[.int .i64 hi] T)) #[fv] T' (0, 0) 0
  rw [show ((w.alloc (.cells #[.int .i64 lo] T)).alloc (.cells #[.int .i64 hi] T)).heap.size = w.heap.size + 2 by simp] at h3
  exact h3
set_option maxHeartbeats 1000000 in
theorem outside_any (lo hi : Int) (F : Nat) (w : World) : Calls Try.prog 76 #[.int .i64 lo, .int .i64 hi, .func (.func F) #[] #[]] w (OutP lo hi (.func (.func F) #[] #[]) w) := by
  have HS := hid (out_start w lo hi (.func (.func F) #[] #[]) 3 82)
  go_enter Try.func76, Try.ntmps76
  go_wp2
  go_ret
  exact ⟨_, rfl, HS.out.1, HS.out.2⟩
end Go.Proofs.Ytjfakhfkbnnbcaa

/- Walks of the reference's floor, percent, Overlap, Percent; of Overlap and Percent of the code, whatever comes in: contracts. -/
namespace Go.Proofs.Ytjfakhfkbnnbcaa
open Go.RowKit

theorem fx_neg {n b : Int} (hn : n < 0) (hb : 0 < b) : (¬ n.tmod b = 0 → n.tdiv b - 1 = n / b) ∧ (n.tmod b = 0 → n.tdiv b = n / b) := by
  obtain ⟨_, _, h3, h4⟩ := fl_neg hn hb
  have h0 : n.tmod b ≤ 0 := by
    have := Int.tmod_nonneg b (show 0 ≤ -n by omega)
    rw [Int.neg_tmod] at this
    omega
  exact ⟨fun h => h3 (by omega), fun h => h4 (by omega)⟩
set_option maxHeartbeats 1000000 in
theorem kxfloor_any (n b : Int) (w : World) (hb : 1 ≤ b) (h1 : -1000000000000000 ≤ n) (h2 : n ≤ 1000000000000000) : Calls Try.prog 83 #[.int .i64 n, .int .i64 b] w fun e w' => e = .returned (.int .i64 (n / b)) ∧ w = w' := by
  by_cases hn : 0 ≤ n
  · have hm' : decide (n < 0) = false := decide_eq_false (by omega)
    go_enter Try.func83, Try.ntmps83
    go_wp2
    go_ret
    exact ⟨rfl, rfl⟩
  · have hn0 : n < 0 := by omega
    obtain ⟨f1, f2, _, _⟩ := fl_neg hn0 (show 0 < b by omega)
    obtain ⟨g3, g4⟩ := fx_neg hn0 (show 0 < b by omega)
    obtain ⟨q, hq⟩ : ∃ q, n.tdiv b = q := ⟨_, rfl⟩
    obtain ⟨r, hr⟩ : ∃ r, n.tmod b = r := ⟨_, rfl⟩
    rw [hq] at f1 f2 g3 g4
    rw [hr] at g3 g4
    have HF3 := hid g3
    have HF4 := hid g4
    clear g3 g4
    by_cases hr0 : r = 0
    · have HE := hid (HF4.out hr0)
      have hb0 : (r != 0) = false := by simpa using hr0
      clear hr0
      go_enter Try.func83, Try.ntmps83
      go_wp2
      go_ret
      exact ⟨ret_int HE.out, rfl⟩
    · have HE := hid (HF3.out hr0)
      have hb0 : (r != 0) = true := by simpa using hr0
      clear hr0
      go_enter Try.func83, Try.ntmps83
      go_wp2
      go_ret
      exact ⟨ret_int HE.out, rfl⟩
set_option maxHeartbeats 4000000 in
theorem kxpct_any (x : Sh) (w : World) (h : ShOk x) : Calls Try.prog 62 #[.agg #[.int .i64 x.tk, .int .i64 x.hd, .int .i64 x.bh, .int .i64 x.ch, .int .i64 x.ht, .int .i64 x.ep, .int .i64 x.bp, .int .i64 x.wr, .int .i64 x.th, .int .i64 x.cs]] w fun e w' => e = .returned (.int .i64 (pctT x)) ∧ Below w.heap.size w w' := by
  have HOK := hid h
  obtain ⟨_, _, _, ⟨e1, e2⟩, ⟨p1, p2⟩, ⟨h1, h2⟩, ⟨h3, h4⟩, ⟨h5, h6⟩, _, _⟩ := h
  have HO1 := hid (show -1000000 ≤ ovT x ∧ ovT x ≤ 1000000 by unfold ovT; omega)
  have HB := hid (boxS_below w x)
  have HBB := hid (fun W (g : Below (w.alloc (.cells #[.int .i64 x.tk, .int .i64 x.hd, .int .i64 x.bh, .int .i64 x.ch, .int .i64 x.ht, .int .i64 x.ep, .int .i64 x.bp, .int .i64 x.wr, .int .i64 x.th, .int .i64 x.cs] 39)).heap.size (w.alloc (.cells #[.int .i64 x.tk, .int .i64 x.hd, .int .i64 x.bh, .int .i64 x.ch, .int .i64 x.ht, .int .i64 x.ep, .int .i64 x.bp, .int .i64 x.wr, .int .i64 x.th, .int .i64 x.cs] 39)) W) => bstep (boxS_below w x) (boxS_below w x).size g)
  have HRT := hid (show roomT x = 10 * x.ht - 11 * (2 * x.ep + x.bp) from rfl)
  have HP := hid (show pctT x = if roomT x ≤ 0 then 0 else 100 * ovT x / roomT x from rfl)
  by_cases h0 : 10 * x.ht - 11 * (2 * x.ep + x.bp) ≤ 0
  · have HE := hid (show pctT x = 0 by rw [HP.out, HRT.out, if_pos h0])
    go_enter Try.func62, Try.ntmps62
    go_wp2_with fail
    go_ret
    exact ⟨ret_int HE.out.symm, HB.out⟩
  · have HE := hid (show pctT x = 100 * ovT x / (10 * x.ht - 11 * (2 * x.ep + x.bp)) by rw [HP.out, HRT.out, if_neg h0])
    obtain ⟨O, hO⟩ : ∃ O, O = ovT x := ⟨_, rfl⟩
    have HO := hid hO
    rw [← hO] at HO1 HE
    obtain ⟨o1, o2⟩ := HO1.out
    clear hO
    go_enter Try.func62, Try.ntmps62
    go_wp2_with fail
    refine (ktenth_any x _ HOK.out).mono ?_
    rintro e w1 ⟨rfl, hb⟩
    rw [← HO.out]
    have HB1 := hid (HBB.out _ hb)
    clear hb
    go_wp2_with fail
    refine (kxfloor_any (100 * O) _ _ (by omega) (by omega) (by omega)).mono ?_
    rintro e w2 ⟨rfl, rfl⟩
    go_wp2_with fail
    go_ret
    exact ⟨ret_int HE.out.symm, HB1.out⟩
end Go.Proofs.Ytjfakhfkbnnbcaa

/- Overlap and Percent of both, whatever comes in: contracts. -/
namespace Go.Proofs.Ytjfakhfkbnnbcaa
open Go.RowKit

def eI (x : Sh) : Int := if shB x then 0 else 1
def ovA (x : Sh) : Int := if shB x then ovT x / 10 else 0
def pcA (x : Sh) : Int := if shB x then pctT x else 0
/-- Two numbers. -/
def NumP (a c : Int) (w : World) (e : Ending) (w' : World) : Prop := e = .returned (.tuple #[.int .i64 a, .int .i64 c]) ∧ Below w.heap.size w w'
theorem sh_no {x : Sh} (h : shB x = false) : eI x = 1 ∧ ovA x = 0 ∧ pcA x = 0 := by simp [eI, ovA, pcA, h]
theorem sh_yes {x : Sh} (h : shB x = true) : eI x = 0 ∧ ovA x = ovT x / 10 ∧ pcA x = pctT x := by simp [eI, ovA, pcA, h]
set_option maxHeartbeats 1000000 in
theorem koverl_no (x : Sh) (w : World) (h : shB x = false) : Calls Try.prog 26 #[.agg #[.int .i64 x.tk, .int .i64 x.hd, .int .i64 x.bh, .int .i64 x.ch, .int .i64 x.ht, .int .i64 x.ep, .int .i64 x.bp, .int .i64 x.wr, .int .i64 x.th, .int .i64 x.cs]] w (NumP 0 1 w) := by
  have HH := hid h
  have HBX := hid (fun W (g : Below (w.alloc (.cells #[.int .i64 x.tk, .int .i64 x.hd, .int .i64 x.bh, .int .i64 x.ch, .int .i64 x.ht, .int .i64 x.ep, .int .i64 x.bp, .int .i64 x.wr, .int .i64 x.th, .int .i64 x.cs] 39)).heap.size (w.alloc (.cells #[.int .i64 x.tk, .int .i64 x.hd, .int .i64 x.bh, .int .i64 x.ch, .int .i64 x.ht, .int .i64 x.ep, .int .i64 x.bp, .int .i64 x.wr, .int .i64 x.th, .int .i64 x.cs] 39)) W) => bstep (boxS_below w x) (boxS_below w x).size g)
  clear h
  go_enter Try.func26, Try.ntmps26
  go_wp2_with fail
  refine (ksheet_any x _).mono ?_
  rintro e w1 ⟨rfl, hb⟩
  rw [HH.out]
  have HB1 := hid (HBX.out _ hb)
  clear hb
  go_wp2_with fail
  go_ret2
  exact ⟨rfl, HB1.out⟩
set_option maxHeartbeats 1000000 in
theorem kperc_no (x : Sh) (w : World) (h : shB x = false) : Calls Try.prog 25 #[.agg #[.int .i64 x.tk, .int .i64 x.hd, .int .i64 x.bh, .int .i64 x.ch, .int .i64 x.ht, .int .i64 x.ep, .int .i64 x.bp, .int .i64 x.wr, .int .i64 x.th, .int .i64 x.cs]] w (NumP 0 1 w) := by
  have HH := hid h
  have HBX := hid (fun W (g : Below (w.alloc (.cells #[.int .i64 x.tk, .int .i64 x.hd, .int .i64 x.bh, .int .i64 x.ch, .int .i64 x.ht, .int .i64 x.ep, .int .i64 x.bp, .int .i64 x.wr, .int .i64 x.th, .int .i64 x.cs] 39)).heap.size (w.alloc (.cells #[.int .i64 x.tk, .int .i64 x.hd, .int .i64 x.bh, .int .i64 x.ch, .int .i64 x.ht, .int .i64 x.ep, .int .i64 x.bp, .int .i64 x.wr, .int .i64 x.th, .int .i64 x.cs] 39)) W) => bstep (boxS_below w x) (boxS_below w x).size g)
  clear h
  go_enter Try.func25, Try.ntmps25
  go_wp2_with fail
  refine (ksheet_any x _).mono ?_
  rintro e w1 ⟨rfl, hb⟩
  rw [HH.out]
  have HB1 := hid (HBX.out _ hb)
  clear hb
  go_wp2_with fail
  go_ret2
  exact ⟨rfl, HB1.out⟩
theorem koverl_all (x : Sh) (w : World) : Calls Try.prog 26 #[.agg #[.int .i64 x.tk, .int .i64 x.hd, .int .i64 x.bh, .int .i64 x.ch, .int .i64 x.ht, .int .i64 x.ep, .int .i64 x.bp, .int .i64 x.wr, .int .i64 x.th, .int .i64 x.cs]] w (NumP (ovA x) (eI x) w) := by
  cases h : shB x
  · rw [(sh_no h).1, (sh_no h).2.1]; exact koverl_no x w h
  · rw [(sh_yes h).1, (sh_yes h).2.1]; exact koverl_ok x w h
theorem kperc_all (x : Sh) (w : World) : Calls Try.prog 25 #[.agg #[.int .i64 x.tk, .int .i64 x.hd, .int .i64 x.bh, .int .i64 x.ch, .int .i64 x.ht, .int .i64 x.ep, .int .i64 x.bp, .int .i64 x.wr, .int .i64 x.th, .int .i64 x.cs]] w (NumP (pcA x) (eI x) w) := by
  cases h : shB x
  · rw [(sh_no h).1, (sh_no h).2.2]; exact kperc_no x w h
  · rw [(sh_yes h).1, (sh_yes h).2.2]; exact kperc_ok x w h
end Go.Proofs.Ytjfakhfkbnnbcaa
