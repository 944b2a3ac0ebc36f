/- Overlap and Percent of both, whatever comes in: contracts. -/
import Derived.Test.YtlhjiikbehmamaaOc
namespace Go.Proofs.Ytlhjiikbehmamaa
open Go.RowKit

def eI (x : Sh) : Int := if shB x then 0 else 1
def ovA (x : Sh) : Int := if shB x then ovT x / 10 else 0
def pcA (x : Sh) : Int := if shB x then pctT x else 0
/-- Two numbers. -/
def NumP (a c : Int) (w : World) (e : Ending) (w' : World) : Prop := e = .returned (.tuple #[.int .i64 a, .int .i64 c]) ∧ Below w.heap.size w w'
theorem sh_no {x : Sh} (h : shB x = false) : eI x = 1 ∧ ovA x = 0 ∧ pcA x = 0 := by simp [eI, ovA, pcA, h]
theorem sh_yes {x : Sh} (h : shB x = true) : eI x = 0 ∧ ovA x = ovT x / 10 ∧ pcA x = pctT x := by simp [eI, ovA, pcA, h]
set_option maxHeartbeats 1000000 in
theorem koverl_no (x : Sh) (w : World) (h : shB x = false) : Calls Try.prog 17 #[.agg #[.int .i64 x.tk, .int .i64 x.hd, .int .i64 x.bh, .int .i64 x.ch, .int .i64 x.ht, .int .i64 x.ep, .int .i64 x.bp, .int .i64 x.wr, .int .i64 x.th, .int .i64 x.cs]] w (NumP 0 1 w) := by
  have HH := hid h
  have HBX := hid (fun W (g : Below (w.alloc (.cells #[.int .i64 x.tk, .int .i64 x.hd, .int .i64 x.bh, .int .i64 x.ch, .int .i64 x.ht, .int .i64 x.ep, .int .i64 x.bp, .int .i64 x.wr, .int .i64 x.th, .int .i64 x.cs] 28)).heap.size (w.alloc (.cells #[.int .i64 x.tk, .int .i64 x.hd, .int .i64 x.bh, .int .i64 x.ch, .int .i64 x.ht, .int .i64 x.ep, .int .i64 x.bp, .int .i64 x.wr, .int .i64 x.th, .int .i64 x.cs] 28)) W) => bstep (boxS_below w x) (boxS_below w x).size g)
  clear h
  go_enter Try.func17, Try.ntmps17
  go_wp2_with fail
  refine (ksheet_any x _).mono ?_
  rintro e w1 ⟨rfl, hb⟩
  rw [HH.out]
  have HB1 := hid (HBX.out _ hb)
  clear hb
  go_wp2_with fail
  go_ret2
  exact ⟨rfl, HB1.out⟩
set_option maxHeartbeats 1000000 in
theorem kperc_no (x : Sh) (w : World) (h : shB x = false) : Calls Try.prog 19 #[.agg #[.int .i64 x.tk, .int .i64 x.hd, .int .i64 x.bh, .int .i64 x.ch, .int .i64 x.ht, .int .i64 x.ep, .int .i64 x.bp, .int .i64 x.wr, .int .i64 x.th, .int .i64 x.cs]] w (NumP 0 1 w) := by
  have HH := hid h
  have HBX := hid (fun W (g : Below (w.alloc (.cells #[.int .i64 x.tk, .int .i64 x.hd, .int .i64 x.bh, .int .i64 x.ch, .int .i64 x.ht, .int .i64 x.ep, .int .i64 x.bp, .int .i64 x.wr, .int .i64 x.th, .int .i64 x.cs] 28)).heap.size (w.alloc (.cells #[.int .i64 x.tk, .int .i64 x.hd, .int .i64 x.bh, .int .i64 x.ch, .int .i64 x.ht, .int .i64 x.ep, .int .i64 x.bp, .int .i64 x.wr, .int .i64 x.th, .int .i64 x.cs] 28)) W) => bstep (boxS_below w x) (boxS_below w x).size g)
  clear h
  go_enter Try.func19, Try.ntmps19
  go_wp2_with fail
  refine (ksheet_any x _).mono ?_
  rintro e w1 ⟨rfl, hb⟩
  rw [HH.out]
  have HB1 := hid (HBX.out _ hb)
  clear hb
  go_wp2_with fail
  go_ret2
  exact ⟨rfl, HB1.out⟩
set_option maxHeartbeats 1000000 in
theorem kxoverl_no (x : Sh) (w : World) (h : shB x = false) : Calls Try.prog 18 #[.agg #[.int .i64 x.tk, .int .i64 x.hd, .int .i64 x.bh, .int .i64 x.ch, .int .i64 x.ht, .int .i64 x.ep, .int .i64 x.bp, .int .i64 x.wr, .int .i64 x.th, .int .i64 x.cs]] w (NumP 0 1 w) := by
  have HH := hid h
  have HBX := hid (fun W (g : Below (w.alloc (.cells #[.int .i64 x.tk, .int .i64 x.hd, .int .i64 x.bh, .int .i64 x.ch, .int .i64 x.ht, .int .i64 x.ep, .int .i64 x.bp, .int .i64 x.wr, .int .i64 x.th, .int .i64 x.cs] 28)).heap.size (w.alloc (.cells #[.int .i64 x.tk, .int .i64 x.hd, .int .i64 x.bh, .int .i64 x.ch, .int .i64 x.ht, .int .i64 x.ep, .int .i64 x.bp, .int .i64 x.wr, .int .i64 x.th, .int .i64 x.cs] 28)) W) => bstep (boxS_below w x) (boxS_below w x).size g)
  clear h
  go_enter Try.func18, Try.ntmps18
  go_wp2_with fail
  refine (kxsheet_any x _).mono ?_
  rintro e w1 ⟨rfl, hb⟩
  rw [HH.out]
  have HB1 := hid (HBX.out _ hb)
  clear hb
  go_wp2_with fail
  go_ret2
  exact ⟨rfl, HB1.out⟩
set_option maxHeartbeats 1000000 in
theorem kxperc_no (x : Sh) (w : World) (h : shB x = false) : Calls Try.prog 20 #[.agg #[.int .i64 x.tk, .int .i64 x.hd, .int .i64 x.bh, .int .i64 x.ch, .int .i64 x.ht, .int .i64 x.ep, .int .i64 x.bp, .int .i64 x.wr, .int .i64 x.th, .int .i64 x.cs]] w (NumP 0 1 w) := by
  have HH := hid h
  have HBX := hid (fun W (g : Below (w.alloc (.cells #[.int .i64 x.tk, .int .i64 x.hd, .int .i64 x.bh, .int .i64 x.ch, .int .i64 x.ht, .int .i64 x.ep, .int .i64 x.bp, .int .i64 x.wr, .int .i64 x.th, .int .i64 x.cs] 28)).heap.size (w.alloc (.cells #[.int .i64 x.tk, .int .i64 x.hd, .int .i64 x.bh, .int .i64 x.ch, .int .i64 x.ht, .int .i64 x.ep, .int .i64 x.bp, .int .i64 x.wr, .int .i64 x.th, .int .i64 x.cs] 28)) W) => bstep (boxS_below w x) (boxS_below w x).size g)
  clear h
  go_enter Try.func20, Try.ntmps20
  go_wp2_with fail
  refine (kxsheet_any x _).mono ?_
  rintro e w1 ⟨rfl, hb⟩
  rw [HH.out]
  have HB1 := hid (HBX.out _ hb)
  clear hb
  go_wp2_with fail
  go_ret2
  exact ⟨rfl, HB1.out⟩
set_option maxHeartbeats 4000000 in
theorem kxoverl_ok (x : Sh) (w : World) (h : shB x = true) : Calls Try.prog 18 #[.agg #[.int .i64 x.tk, .int .i64 x.hd, .int .i64 x.bh, .int .i64 x.ch, .int .i64 x.ht, .int .i64 x.ep, .int .i64 x.bp, .int .i64 x.wr, .int .i64 x.th, .int .i64 x.cs]] w (NumP (ovT x / 10) 0 w) := by
  have HOK := hid (shB_iff.1 h)
  have HH := hid h
  have hO : -1000000 ≤ ovT x ∧ ovT x ≤ 1000000 := by
    obtain ⟨_, _, _, ⟨e1, e2⟩, ⟨p1, p2⟩, ⟨h1, h2⟩, ⟨h3, h4⟩, ⟨h5, h6⟩, _, _⟩ := HOK.out
    unfold ovT; omega
  obtain ⟨O, hO'⟩ : ∃ O, O = ovT x := ⟨_, rfl⟩
  have HO := hid hO'
  rw [← hO'] at hO ⊢
  obtain ⟨o1, o2⟩ := hO
  have HBX := hid (fun W (g : Below (w.alloc (.cells #[.int .i64 x.tk, .int .i64 x.hd, .int .i64 x.bh, .int .i64 x.ch, .int .i64 x.ht, .int .i64 x.ep, .int .i64 x.bp, .int .i64 x.wr, .int .i64 x.th, .int .i64 x.cs] 28)).heap.size (w.alloc (.cells #[.int .i64 x.tk, .int .i64 x.hd, .int .i64 x.bh, .int .i64 x.ch, .int .i64 x.ht, .int .i64 x.ep, .int .i64 x.bp, .int .i64 x.wr, .int .i64 x.th, .int .i64 x.cs] 28)) W) => (boxS_new w x).keep g)
  have HBB := hid (fun W (g : Below (w.alloc (.cells #[.int .i64 x.tk, .int .i64 x.hd, .int .i64 x.bh, .int .i64 x.ch, .int .i64 x.ht, .int .i64 x.ep, .int .i64 x.bp, .int .i64 x.wr, .int .i64 x.th, .int .i64 x.cs] 28)).heap.size (w.alloc (.cells #[.int .i64 x.tk, .int .i64 x.hd, .int .i64 x.bh, .int .i64 x.ch, .int .i64 x.ht, .int .i64 x.ep, .int .i64 x.bp, .int .i64 x.wr, .int .i64 x.th, .int .i64 x.cs] 28)) W) => bstep (boxS_below w x) (boxS_below w x).size g)
  clear hO' h
  go_enter Try.func18, Try.ntmps18
  go_wp2_with fail
  refine (kxsheet_any x _).mono ?_
  rintro e w1 ⟨rfl, hb⟩
  rw [HH.out]
  obtain ⟨b0, b1, b2, b3, b4, b5, b6, b7, b8, b9⟩ := HBX.out _ hb
  have HB1 := hid (HBB.out _ hb)
  clear hb
  go_wp2_with fail
  refine (ktenth_any x _ HOK.out).mono ?_
  rintro e w2 ⟨rfl, hb⟩
  rw [← HO.out]
  have HB2 := hid (bstep HB1.out HB1.out.size hb)
  clear hb
  go_wp2_with fail
  refine (kxfloor_any O 10 _ (by omega) (by omega) (by omega)).mono ?_
  rintro e w3 ⟨rfl, rfl⟩
  go_wp2_with fail
  go_ret2
  exact ⟨rfl, HB2.out⟩
set_option maxHeartbeats 4000000 in
theorem kxperc_ok (x : Sh) (w : World) (h : shB x = true) : Calls Try.prog 20 #[.agg #[.int .i64 x.tk, .int .i64 x.hd, .int .i64 x.bh, .int .i64 x.ch, .int .i64 x.ht, .int .i64 x.ep, .int .i64 x.bp, .int .i64 x.wr, .int .i64 x.th, .int .i64 x.cs]] w (NumP (pctT x) 0 w) := by
  have HOK := hid (shB_iff.1 h)
  have HH := hid h
  have HBX := hid (fun W (g : Below (w.alloc (.cells #[.int .i64 x.tk, .int .i64 x.hd, .int .i64 x.bh, .int .i64 x.ch, .int .i64 x.ht, .int .i64 x.ep, .int .i64 x.bp, .int .i64 x.wr, .int .i64 x.th, .int .i64 x.cs] 28)).heap.size (w.alloc (.cells #[.int .i64 x.tk, .int .i64 x.hd, .int .i64 x.bh, .int .i64 x.ch, .int .i64 x.ht, .int .i64 x.ep, .int .i64 x.bp, .int .i64 x.wr, .int .i64 x.th, .int .i64 x.cs] 28)) W) => (boxS_new w x).keep g)
  have HBB := hid (fun W (g : Below (w.alloc (.cells #[.int .i64 x.tk, .int .i64 x.hd, .int .i64 x.bh, .int .i64 x.ch, .int .i64 x.ht, .int .i64 x.ep, .int .i64 x.bp, .int .i64 x.wr, .int .i64 x.th, .int .i64 x.cs] 28)).heap.size (w.alloc (.cells #[.int .i64 x.tk, .int .i64 x.hd, .int .i64 x.bh, .int .i64 x.ch, .int .i64 x.ht, .int .i64 x.ep, .int .i64 x.bp, .int .i64 x.wr, .int .i64 x.th, .int .i64 x.cs] 28)) W) => bstep (boxS_below w x) (boxS_below w x).size g)
  clear h
  go_enter Try.func20, Try.ntmps20
  go_wp2_with fail
  refine (kxsheet_any x _).mono ?_
  rintro e w1 ⟨rfl, hb⟩
  rw [HH.out]
  obtain ⟨b0, b1, b2, b3, b4, b5, b6, b7, b8, b9⟩ := HBX.out _ hb
  have HB1 := hid (HBB.out _ hb)
  clear hb
  go_wp2_with fail
  refine (kxpct_any x _ HOK.out).mono ?_
  rintro e w2 ⟨rfl, hb⟩
  have HB2 := hid (bstep HB1.out HB1.out.size hb)
  clear hb
  go_wp2_with fail
  go_ret2
  exact ⟨rfl, HB2.out⟩
theorem koverl_all (x : Sh) (w : World) : Calls Try.prog 17 #[.agg #[.int .i64 x.tk, .int .i64 x.hd, .int .i64 x.bh, .int .i64 x.ch, .int .i64 x.ht, .int .i64 x.ep, .int .i64 x.bp, .int .i64 x.wr, .int .i64 x.th, .int .i64 x.cs]] w (NumP (ovA x) (eI x) w) := by
  cases h : shB x
  · rw [(sh_no h).1, (sh_no h).2.1]; exact koverl_no x w h
  · rw [(sh_yes h).1, (sh_yes h).2.1]; exact koverl_ok x w h
theorem kperc_all (x : Sh) (w : World) : Calls Try.prog 19 #[.agg #[.int .i64 x.tk, .int .i64 x.hd, .int .i64 x.bh, .int .i64 x.ch, .int .i64 x.ht, .int .i64 x.ep, .int .i64 x.bp, .int .i64 x.wr, .int .i64 x.th, .int .i64 x.cs]] w (NumP (pcA x) (eI x) w) := by
  cases h : shB x
  · rw [(sh_no h).1, (sh_no h).2.2]; exact kperc_no x w h
  · rw [(sh_yes h).1, (sh_yes h).2.2]; exact kperc_ok x w h
theorem kxoverl_all (x : Sh) (w : World) : Calls Try.prog 18 #[.agg #[.int .i64 x.tk, .int .i64 x.hd, .int .i64 x.bh, .int .i64 x.ch, .int .i64 x.ht, .int .i64 x.ep, .int .i64 x.bp, .int .i64 x.wr, .int .i64 x.th, .int .i64 x.cs]] w (NumP (ovA x) (eI x) w) := by
  cases h : shB x
  · rw [(sh_no h).1, (sh_no h).2.1]; exact kxoverl_no x w h
  · rw [(sh_yes h).1, (sh_yes h).2.1]; exact kxoverl_ok x w h
theorem kxperc_all (x : Sh) (w : World) : Calls Try.prog 20 #[.agg #[.int .i64 x.tk, .int .i64 x.hd, .int .i64 x.bh, .int .i64 x.ch, .int .i64 x.ht, .int .i64 x.ep, .int .i64 x.bp, .int .i64 x.wr, .int .i64 x.th, .int .i64 x.cs]] w (NumP (pcA x) (eI x) w) := by
  cases h : shB x
  · rw [(sh_no h).1, (sh_no h).2.2]; exact kxperc_no x w h
  · rw [(sh_yes h).1, (sh_yes h).2.2]; exact kxperc_ok x w h
end Go.Proofs.Ytlhjiikbehmamaa
