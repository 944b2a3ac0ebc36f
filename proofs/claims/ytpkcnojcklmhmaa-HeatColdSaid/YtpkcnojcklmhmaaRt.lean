/- Walks of Follow of both, whatever comes in; of Step, Run and SameBodies of the reference: contracts. -/
import Derived.Test.YtpkcnojcklmhmaaRs
import Derived.Test.YtpkcnojcklmhmaaHq
import Derived.Test.YtpkcnojcklmhmaaZa
namespace Go.Proofs.Ytpkcnojcklmhmaa
open Go.RowKit

/-- What Follow hands back. -/
def folO (r l a b k a2 b2 : Int) (x : Bd) (p : List Int) : List Bd × Int :=
  if chkE (bothB r l a b k a2 b2 x.1 x.2) p = 0 then (folL (cnOf r l a b k a2 b2) x p, 0) else ([], chkE (bothB r l a b k a2 b2 x.1 x.2) p)
theorem folO_ok {r l a b k a2 b2 : Int} {x : Bd} {p : List Int} (h : chkE (bothB r l a b k a2 b2 x.1 x.2) p = 0) : folO r l a b k a2 b2 x p = (folL (cnOf r l a b k a2 b2) x p, 0) := by unfold folO; rw [if_pos h]
theorem folO_err {r l a b k a2 b2 : Int} {x : Bd} {p : List Int} (h : chkE (bothB r l a b k a2 b2 x.1 x.2) p ≠ 0) : folO r l a b k a2 b2 x p = ([], chkE (bothB r l a b k a2 b2 x.1 x.2) p) := by unfold folO; rw [if_neg h]
set_option maxRecDepth 20000 in
set_option maxHeartbeats 2000000 in
theorem follow_err (r l a b k a2 b2 : Int) (w : World) (v : Value) (T : List Int) (br : Bool) (v2 : Value) (p : List Int) (hl : RowI w v T) (hl2 : RowI w v2 p) (hne : chkE (bothB r l a b k a2 b2 T br) p ≠ 0) :
    Calls Try.prog 17 #[.agg #[.int .i64 r, .int .i64 l, .int .i64 a, .int .i64 b, .int .i64 k, .int .i64 a2, .int .i64 b2], .agg #[v, .bool br], v2] w (FolP [] (chkE (bothB r l a b k a2 b2 T br) p) w) := by
  obtain ⟨ce, hce⟩ : ∃ ce, ce = chkE (bothB r l a b k a2 b2 T br) p := ⟨_, rfl⟩
  rw [← hce] at hne ⊢
  have HC := hid hce; clear hce
  have hb0 : (ce == 0) = false := by simpa using hne
  have hb1 : (ce != 0) = true := by simpa using hne
  have HL := hid (fun w1 (g : Below w.heap.size w w1) => hl.keep g)
  have HL2 := hid (fun w1 (g : Below w.heap.size w w1) => hl2.keep g)
  obtain ⟨a0, cap, rfl⟩ := hl.shape
  clear hl hl2
  have HS := hid (r2_start (w := w) (A := #[.int .i64 r, .int .i64 l, .int .i64 a, .int .i64 b, .int .i64 k, .int .i64 a2, .int .i64 b2]) (R := #[.slice a0 T.length cap, .bool br]))
  go_enter Try.func17, Try.ntmps17
  go_wp2_with (go_at_call 47; refine (check_any _ _ _ _ _ _ _ _ _ T _ _ p (HL.out _ HS.out.low) (HL2.out _ HS.out.low)).mono ?_; rintro e w1 ⟨rfl, hb⟩; rw [← HC.out]; have H1 := hid (HS.out.keep hb); clear hb)
  go_ret2
  exact ⟨_, rfl, rowBd_nil _, H1.out.low⟩
theorem follow_all (r l a b k a2 b2 : Int) (w : World) (v : Value) (T : List Int) (br : Bool) (v2 : Value) (p : List Int) (hl : RowI w v T) (hl2 : RowI w v2 p) :
    Calls Try.prog 17 #[.agg #[.int .i64 r, .int .i64 l, .int .i64 a, .int .i64 b, .int .i64 k, .int .i64 a2, .int .i64 b2], .agg #[v, .bool br], v2] w (FolP (folO r l a b k a2 b2 (T, br) p).1 (folO r l a b k a2 b2 (T, br) p).2 w) := by
  rcases chkE_cases (bothB r l a b k a2 b2 T br) p with hne | ⟨h0, hbb, ho, hlen⟩
  · rw [folO_err (x := (T, br)) hne]
    exact follow_err r l a b k a2 b2 w v T br v2 p hl hl2 hne
  · rw [folO_ok (x := (T, br)) h0]
    obtain ⟨c, hcv, ⟨rfl, rfl, rfl, rfl, rfl, rfl, rfl⟩, hbv, hwm⟩ := both_open hbb
    rw [cnOf_cn]
    exact follow_ok c (T, br) v v2 p w hcv hbv ho hlen hl hl2
set_option maxRecDepth 20000 in
set_option maxHeartbeats 2000000 in
theorem rfollow_err (r l a b k a2 b2 : Int) (w : World) (v : Value) (T : List Int) (br : Bool) (v2 : Value) (p : List Int) (hl : RowI w v T) (hl2 : RowI w v2 p) (hne : chkE (bothB r l a b k a2 b2 T br) p ≠ 0) :
    Calls Try.prog 18 #[.agg #[.int .i64 r, .int .i64 l, .int .i64 a, .int .i64 b, .int .i64 k, .int .i64 a2, .int .i64 b2], .agg #[v, .bool br], v2] w (FolP [] (chkE (bothB r l a b k a2 b2 T br) p) w) := by
  obtain ⟨ce, hce⟩ : ∃ ce, ce = chkE (bothB r l a b k a2 b2 T br) p := ⟨_, rfl⟩
  rw [← hce] at hne ⊢
  have HC := hid hce; clear hce
  have hb0 : (ce == 0) = false := by simpa using hne
  have hb1 : (ce != 0) = true := by simpa using hne
  have HL := hid (fun w1 (g : Below w.heap.size w w1) => hl.keep g)
  have HL2 := hid (fun w1 (g : Below w.heap.size w w1) => hl2.keep g)
  obtain ⟨a0, cap, rfl⟩ := hl.shape
  clear hl hl2
  have HS := hid (r2_start (w := w) (A := #[.int .i64 r, .int .i64 l, .int .i64 a, .int .i64 b, .int .i64 k, .int .i64 a2, .int .i64 b2]) (R := #[.slice a0 T.length cap, .bool br]))
  go_enter Try.func18, Try.ntmps18
  go_wp2_with (go_at_call 45; refine (asked_any _ _ _ _ _ _ _ _ _ T _ _ p (HL.out _ HS.out.low) (HL2.out _ HS.out.low)).mono ?_; rintro e w1 ⟨rfl, hb⟩; rw [← HC.out]; have H1 := hid (HS.out.keep hb); clear hb)
  go_ret2
  exact ⟨_, rfl, rowBd_nil _, H1.out.low⟩
theorem rfollow_all (r l a b k a2 b2 : Int) (w : World) (v : Value) (T : List Int) (br : Bool) (v2 : Value) (p : List Int) (hl : RowI w v T) (hl2 : RowI w v2 p) :
    Calls Try.prog 18 #[.agg #[.int .i64 r, .int .i64 l, .int .i64 a, .int .i64 b, .int .i64 k, .int .i64 a2, .int .i64 b2], .agg #[v, .bool br], v2] w (FolP (folO r l a b k a2 b2 (T, br) p).1 (folO r l a b k a2 b2 (T, br) p).2 w) := by
  rcases chkE_cases (bothB r l a b k a2 b2 T br) p with hne | ⟨h0, hbb, ho, hlen⟩
  · rw [folO_err (x := (T, br)) hne]
    exact rfollow_err r l a b k a2 b2 w v T br v2 p hl hl2 hne
  · rw [folO_ok (x := (T, br)) h0]
    obtain ⟨c, hcv, ⟨rfl, rfl, rfl, rfl, rfl, rfl, rfl⟩, hbv, hwm⟩ := both_open hbb
    rw [cnOf_cn]
    exact rfollow_ok c (T, br) v v2 p w hcv hbv ho hlen hl hl2
theorem folL_len (c : Cn) (x : Bd) (p : List Int) : (folL c x p).length = p.length + 1 := by unfold folL; rw [List.length_map, seqH_len]
theorem folL_at (c : Cn) (x : Bd) (p : List Int) (k : Nat) (h : k ≤ p.length) : (folL c x p)[k]'(by rw [folL_len]; omega) = runS c x (p.take k) := by
  have h1 := seqH_get c x p k h
  unfold folL
  rw [List.getElem_map]
  have h2 := (List.getElem?_eq_some_iff.1 h1).2
  rw [h2]
set_option maxRecDepth 100000 in
set_option maxHeartbeats 4000000 in
theorem rrun_all (r l a b k a2 b2 : Int) (w : World) (v : Value) (T : List Int) (br : Bool) (v2 : Value) (p : List Int) (hl : RowI w v T) (hl2 : RowI w v2 p) :
    Calls Try.prog 16 #[.agg #[.int .i64 r, .int .i64 l, .int .i64 a, .int .i64 b, .int .i64 k, .int .i64 a2, .int .i64 b2], .agg #[v, .bool br], v2] w (OutB (runO r l a b k a2 b2 (T, br) p) w) := by
  have HL := hid (fun w1 (g : Below w.heap.size w w1) => hl.keep g)
  have HL2 := hid (fun w1 (g : Below w.heap.size w w1) => hl2.keep g)
  have HF := hid (fun w1 v h1 h2 => rfollow_all r l a b k a2 b2 w1 v T br v2 p h1 h2)
  obtain ⟨a0, cap, rfl⟩ := hl.shape
  have HS := hid (r3_start (w := w) (A := #[.int .i64 r, .int .i64 l, .int .i64 a, .int .i64 b, .int .i64 k, .int .i64 a2, .int .i64 b2]) (B := #[.slice a0 T.length cap, .bool br]) (R := #[.slice none 0 0, .bool false]))
  clear hl hl2
  by_cases hne : chkE (bothB r l a b k a2 b2 T br) p = 0
  · rw [runO_ok (x := (T, br)) hne]
    rw [folO_ok (x := (T, br)) hne] at HF
    dsimp only at HF
    have hfl := folL_len (cnOf r l a b k a2 b2) (T, br) p
    have hat := folL_at (cnOf r l a b k a2 b2) (T, br) p p.length (Nat.le_refl _)
    rw [List.take_length] at hat
    have hlen : p.length ≤ 2000 := by
      rcases chkE_cases (bothB r l a b k a2 b2 T br) p with h | ⟨_, _, _, h⟩
      · exact absurd hne h
      · exact h
    obtain ⟨Y, hY⟩ : ∃ Y, Y = runS (cnOf r l a b k a2 b2) (T, br) p := ⟨_, rfl⟩
    rw [← hY] at hat ⊢
    obtain ⟨L, hL⟩ : ∃ L, L = folL (cnOf r l a b k a2 b2) (T, br) p := ⟨_, rfl⟩
    rw [← hL] at HF
    have hfl2 : L.length = p.length + 1 := by rw [hL]; exact hfl
    have hat2 : L[p.length]'(by omega) = Y := by subst hL; exact hat
    clear hat hfl hne hY hL
    go_enter Try.func16, Try.ntmps16
    go_wp2_with fail
    refine (HF.out _ _ (HL.out _ HS.out.low) (HL2.out _ HS.out.low)).mono ?_
    rintro e w1 ⟨u, rfl, hrb, hb⟩
    have H1 := hid (HS.out.keep hb)
    clear hb
    obtain ⟨ua, ub, uo, uc, rfl, hm, hu, hcs⟩ := hrb
    obtain rfl : ua = some ⟨ub, uo, none⟩ := hu.resolve_left (by rintro rfl; simp at hfl2)
    obtain ⟨ya, yc, g1, g2, g3⟩ := hcs p.length (by omega)
    rw [hat2] at g1 g2 g3
    rw [hfl2]
    have HG3 := hid g3
    clear hcs hu hm g3 hat2
    have k0 := H1.out.cell.2.2.1 0; have k1 := H1.out.cell.2.2.1 1; have k2 := H1.out.cell.2.2.2 0; have k3 := H1.out.cell.2.2.2 1
    simp only [List.getElem?_toArray, List.getElem?_cons_zero, List.getElem?_cons_succ] at k0 k1
    have hi1 : (p.length : Int) < (p.length : Int) + 1 := by omega
    go_wp2_with fail
    obtain ⟨c6, c7, c8, c9⟩ := res_set (u := .slice ya Y.1.length yc) (v := .bool Y.2) H1.out
    exact bodyPost_ret (v := .tuple #[.agg #[.slice ya Y.1.length yc, .bool Y.2], .int .i64 0]) (by simp [results, Try.results16, go_sem, c6, c7]) rfl ⟨_, _, rfl, rowI_by HG3.out H1.out.res, c9⟩
  · rw [runO_err (x := (T, br)) hne]
    rw [folO_err (x := (T, br)) hne] at HF
    dsimp only at HF
    obtain ⟨ce, hce⟩ : ∃ ce, ce = chkE (bothB r l a b k a2 b2 T br) p := ⟨_, rfl⟩
    rw [← hce] at hne HF ⊢
    clear hce
    have hb0 : (ce == 0) = false := by simpa using hne
    have hb1 : (ce != 0) = true := by simpa using hne
    go_enter Try.func16, Try.ntmps16
    go_wp2_with fail
    refine (HF.out _ _ (HL.out _ HS.out.low) (HL2.out _ HS.out.low)).mono ?_
    rintro e w1 ⟨u, rfl, hrb, hb⟩
    have H1 := hid (HS.out.keep hb)
    clear hb hrb
    have k0 := H1.out.cell.2.2.1 0; have k1 := H1.out.cell.2.2.1 1; have k2 := H1.out.cell.2.2.2 0; have k3 := H1.out.cell.2.2.2 1
    simp only [List.getElem?_toArray, List.getElem?_cons_zero, List.getElem?_cons_succ] at k0 k1
    go_wp2_with fail
    obtain ⟨c6, c7, c9⟩ := H1.out.nil (u := .slice none 0 0) (v := .bool false)
    exact bodyPost_ret (v := .tuple #[.agg #[.slice none 0 0, .bool false], .int .i64 ce]) (by simp [results, Try.results16, go_sem, c6, c7]) rfl (outB_nil rfl c9)
set_option maxRecDepth 100000 in
set_option maxHeartbeats 4000000 in
theorem rstep_all (r l a b k a2 b2 : Int) (w : World) (v : Value) (T : List Int) (br : Bool) (bath : Int) (hl : RowI w v T) :
    Calls Try.prog 13 #[.agg #[.int .i64 r, .int .i64 l, .int .i64 a, .int .i64 b, .int .i64 k, .int .i64 a2, .int .i64 b2], .agg #[v, .bool br], .int .i64 bath] w (OutB (runO r l a b k a2 b2 (T, br) [bath]) w) := by
  have HL := hid (fun w1 (g : Below w.heap.size w w1) => hl.keep g)
  have HA := hid (fun w1 v v2 h1 h2 => asked_any r l a b k a2 b2 w1 v T br v2 [bath] h1 h2)
  obtain ⟨a0, cap, rfl⟩ := hl.shape
  have HS := hid (r3_start (w := w) (A := #[.int .i64 r, .int .i64 l, .int .i64 a, .int .i64 b, .int .i64 k, .int .i64 a2, .int .i64 b2]) (B := #[.slice a0 T.length cap, .bool br]) (R := #[.slice none 0 0, .bool false]))
  clear hl
  rcases chkE_cases (bothB r l a b k a2 b2 T br) [bath] with hne | ⟨h0, hbb, ho, hlen⟩
  · rw [runO_err (x := (T, br)) hne]
    obtain ⟨ce, hce⟩ : ∃ ce, ce = chkE (bothB r l a b k a2 b2 T br) [bath] := ⟨_, rfl⟩
    rw [← hce] at hne HA ⊢
    clear hce
    have hb0 : (ce == 0) = false := by simpa using hne
    have hb1 : (ce != 0) = true := by simpa using hne
    go_enter Try.func13, Try.ntmps13
    go_wp2_with (go_at_call 45; refine (HA.out _ _ _ (HL.out _ (HS.out.low.alloc HS.out.low.size _)) (one_at _ _ (by simp))).mono ?_; rintro e w1 ⟨rfl, hb⟩; have H1 := hid (HS.out.keep (balloc hb)); clear hb; have k0 := H1.out.cell.2.2.1 0; have k1 := H1.out.cell.2.2.1 1; have k2 := H1.out.cell.2.2.2 0; have k3 := H1.out.cell.2.2.2 1; simp only [List.getElem?_toArray, List.getElem?_cons_zero, List.getElem?_cons_succ] at k0 k1)
    obtain ⟨c6, c7, c9⟩ := H1.out.nil (u := .slice none 0 0) (v := .bool false)
    exact bodyPost_ret (v := .tuple #[.agg #[.slice none 0 0, .bool false], .int .i64 ce]) (by simp [results, Try.results13, go_sem, c6, c7]) rfl (outB_nil rfl c9)
  · rw [runO_ok (x := (T, br)) h0]
    rw [h0] at HA
    obtain ⟨c, hcv, ⟨rfl, rfl, rfl, rfl, rfl, rfl, rfl⟩, hbv, hwm⟩ := both_open hbb
    rw [cnOf_cn, runS_one]
    have hb2 : -50000 ≤ bath ∧ bath ≤ 200000 := okL_bd ho bath (by simp)
    have hlen2 : (tickS c (T, br) bath).1.length = T.length := (hwm.tick hcv.ok hb2.1 hb2.2).len.trans hwm.len.symm
    have HAF := hid (fun w1 v h1 => rafter_any c v T br bath w1 hcv.ok hwm hb2.1 hb2.2 h1)
    obtain ⟨Y, hY⟩ : ∃ Y, Y = tickS c (T, br) bath := ⟨_, rfl⟩
    rw [← hY] at HAF hlen2 ⊢
    clear hY hbb ho hlen hbv hwm hcv hb2 h0
    go_enter Try.func13, Try.ntmps13
    go_wp2_with (first
      | (go_at_call 45; refine (HA.out _ _ _ (HL.out _ (HS.out.low.alloc HS.out.low.size _)) (one_at _ _ (by simp))).mono ?_; rintro e w1 ⟨rfl, hb⟩; have H1 := hid (HS.out.keep (balloc hb)); clear hb; have m0 := H1.out.cell.1 0; have m1 := H1.out.cell.1 1; have m2 := H1.out.cell.1 2; have m3 := H1.out.cell.1 3; have m4 := H1.out.cell.1 4; have m5 := H1.out.cell.1 5; have m6 := H1.out.cell.1 6; have m7 := H1.out.cell.2.1 0; have m8 := H1.out.cell.2.1 1; simp only [List.getElem?_toArray, List.getElem?_cons_zero, List.getElem?_cons_succ] at m0 m1 m2 m3 m4 m5 m6 m7 m8)
      | (go_at_call 46; refine (HAF.out _ _ (HL.out _ H1.out.low)).mono ?_; rintro e w2 ⟨va, vc, rfl, hri, hb⟩; have H2 := hid (H1.out.keep hb); have HRI := hid hri; clear hb hri m0 m1 m2 m3 m4 m5 m6 m7 m8; have k0 := H2.out.cell.2.2.1 0; have k1 := H2.out.cell.2.2.1 1; have k2 := H2.out.cell.2.2.2 0; have k3 := H2.out.cell.2.2.2 1; simp only [List.getElem?_toArray, List.getElem?_cons_zero, List.getElem?_cons_succ] at k0 k1))
    rw [← hlen2] at HRI
    obtain ⟨c6, c7, c8, c9⟩ := res_set (u := .slice va T.length vc) (v := .bool Y.2) H2.out
    exact bodyPost_ret (v := .tuple #[.agg #[.slice va T.length vc, .bool Y.2], .int .i64 0]) (by simp [results, Try.results13, go_sem, c6, c7]) rfl ⟨va, vc, by rw [← hlen2], by have h := rowI_by (x := .slice va T.length vc) (y := .bool Y.2) HRI.out H2.out.res; exact h, c9⟩
set_option maxRecDepth 100000 in
set_option maxHeartbeats 4000000 in
theorem rsameb_same (v v2 : Value) (L : List Bd) (w : World) (h1 : RowBd w v L) (h2 : RowBd w v2 L) (hL : L.length ≤ 1000000) :
    Calls Try.prog 19 #[v, v2] w fun e w' => e = .returned (.bool true) ∧ Below w.heap.size w w' := by
  have H1 := hid (fun w1 (g : Below w.heap.size w w1) => h1.keep g)
  have H2 := hid (fun w1 (g : Below w.heap.size w w1) => h2.keep g)
  obtain ⟨a, _, _, cap, rfl, _⟩ := h1
  obtain ⟨a', _, _, cap', rfl, _⟩ := h2
  have HB := hid (Below.refl w.heap.size w)
  go_enter Try.func19, Try.ntmps19
  go_wp2_with fail
  go_loopw [5] (fun i wr => ∃ n : Nat, n ≤ L.length ∧ i = .int .i64 (n : Int) ∧ Hid (Below w.heap.size w wr)) (fun i _ => L.length - (intOf i).toNat)
  case atStart => exact ⟨0, Nat.zero_le _, rfl, HB⟩
  case round =>
    obtain ⟨n, hn, rfl, HB⟩ := hrel
    by_cases hlt : n < L.length
    · have hlt' : (n : Int) < L.length := by omega
      obtain ⟨_, b, o, cN, e1, _, hu, hcs⟩ := H1.out _ HB.out
      obtain ⟨_, b', o', cM, e2, _, hu', hcs'⟩ := H2.out _ HB.out
      injection e1 with e1 _ e3
      injection e2 with e2 _ e4
      subst e1 e2 e3 e4
      obtain rfl := hu.resolve_left (by rintro rfl; exact absurd hlt (Nat.not_lt_zero _))
      obtain rfl := hu'.resolve_left (by rintro rfl; exact absurd hlt (Nat.not_lt_zero _))
      obtain ⟨ya, yc, g1, g2, g3⟩ := hcs n hlt
      obtain ⟨za, zc, g1', g2', g3'⟩ := hcs' n hlt
      obtain ⟨y, hy⟩ : ∃ y, y = L[n] := ⟨_, rfl⟩
      rw [← hy] at g1 g2 g3 g1' g2' g3'
      have HS := hid (fun w1 (g : Below wr.heap.size wr w1) => rsame_any w1 (.slice ya y.1.length yc) (.slice za y.1.length zc) y.1 y.1 y.2 y.2 (g3.keep g) (g3'.keep g))
      clear hcs hcs' hu hu' g3 g3' hy
      rw [show (y.2 == y.2 && decide (y.1 = y.1)) = true by simp] at HS
      have p0 := fun p : LowBy wr => low_cell g1 p
      have p1 := fun p : LowBy wr => low_cell g2 p
      have p2 := fun p : LowBy wr => low_cell g1' p
      have p3 := fun p : LowBy wr => low_cell g2' p
      have hcs := fun p : LowBy wr => low_of (HS.out p.W p.low)
      clear HS g1 g2 g1' g2'
      go_wp2_with fail
      refine wp_region_low (by kernel_rfl) (by kernel_rfl) (fun R hR => ?_)
      (refine low_step (by assumption) ?_; intro R hR K hK; go_simp; first | (refine hK _ ?_; clear hK K) | (apply Exists.intro; refine ⟨fun _ => ?_, hK _ ?_⟩; (go_at_call 14; exact hcs _); clear hK K))
      (refine low_step (by assumption) ?_; intro R hR K hK; go_simp; first | (refine hK _ ?_; clear hK K) | (apply Exists.intro; refine ⟨fun _ => ?_, hK _ ?_⟩; (go_at_call 14; exact hcs _); clear hK K))
      (refine low_step (by assumption) ?_; intro R hR K hK; go_simp; first | (refine hK _ ?_; clear hK K) | (apply Exists.intro; refine ⟨fun _ => ?_, hK _ ?_⟩; (go_at_call 14; exact hcs _); clear hK K))
      (refine low_step (by assumption) ?_; intro R hR K hK; go_simp; first | (refine hK _ ?_; clear hK K) | (apply Exists.intro; refine ⟨fun _ => ?_, hK _ ?_⟩; (go_at_call 14; exact hcs _); clear hK K))
      (refine low_step (by assumption) ?_; intro R hR K hK; go_simp; first | (refine hK _ ?_; clear hK K) | (apply Exists.intro; refine ⟨fun _ => ?_, hK _ ?_⟩; (go_at_call 14; exact hcs _); clear hK K))
      (refine low_step (by assumption) ?_; intro R hR K hK; go_simp; first | (refine hK _ ?_; clear hK K) | (apply Exists.intro; refine ⟨fun _ => ?_, hK _ ?_⟩; (go_at_call 14; exact hcs _); clear hK K))
      (refine low_step (by assumption) ?_; intro R hR K hK; go_simp; first | (refine hK _ ?_; clear hK K) | (apply Exists.intro; refine ⟨fun _ => ?_, hK _ ?_⟩; (go_at_call 14; exact hcs _); clear hK K))
      (refine low_step (by assumption) ?_; intro R hR K hK; go_simp; first | (refine hK _ ?_; clear hK K) | (apply Exists.intro; refine ⟨fun _ => ?_, hK _ ?_⟩; (go_at_call 14; exact hcs _); clear hK K))
      (refine low_step (by assumption) ?_; intro R hR K hK; go_simp; first | (refine hK _ ?_; clear hK K) | (apply Exists.intro; refine ⟨fun _ => ?_, hK _ ?_⟩; (go_at_call 14; exact hcs _); clear hK K))
      (refine low_step (by assumption) ?_; intro R hR K hK; go_simp; first | (refine hK _ ?_; clear hK K) | (apply Exists.intro; refine ⟨fun _ => ?_, hK _ ?_⟩; (go_at_call 14; exact hcs _); clear hK K))
      refine low_nil (by assumption) ?_; intro _ hw'; obtain ⟨⟨wq, hlow⟩, hw''⟩ := hw'; subst hw''; have HLOW := hid hlow; clear hlow; (try simp only)
      have HB2 := hid (bstep HB.out HB.out.size HLOW.out)
      go_wp2_with fail
      go_roundw
      case rel => exact ⟨n + 1, by omega, by go_num, HB2⟩
      case measure => simp [intOf]; omega
    · obtain rfl : n = L.length := by omega
      go_wp2_with fail
      go_ret
      exact ⟨rfl, HB.out⟩
end Go.Proofs.Ytpkcnojcklmhmaa
