/- Walk of Turned of the reference: contract. -/
import Derived.Test.YtpkcnojcklmhmaaQi
import Derived.Test.YtpkcnojcklmhmaaJa
namespace Go.Proofs.Ytpkcnojcklmhmaa
open Go.RowKit

/-- The first n temperatures of the turned body. -/
def tuL (T : List Int) (R L n : Nat) : List Int := (List.range n).map fun i => T.getD ((L - 1 - i / R) * R + i % R) 0
theorem tuL_succ (T : List Int) (R L n : Nat) : tuL T R L (n + 1) = tuL T R L n ++ [T.getD ((L - 1 - n / R) * R + n % R) 0] := by
  unfold tuL; rw [List.range_succ, List.map_append]; rfl
theorem tuL_len (T : List Int) (R L n : Nat) : (tuL T R L n).length = n := by simp [tuL]
theorem tu_chunk {T : List Int} {R L k : Nat} (hR : 0 < R) (hT : T.length = L * R) (hk : k < L) : (List.range R).map (fun j => T.getD ((L - 1 - (k * R + j) / R) * R + (k * R + j) % R) 0) = chL T R L k := by
  apply List.ext_getElem (by rw [chL_len hT hk]; simp)
  intro j h1 h2
  have hj : j < R := by simpa using h1
  have e1 : (k * R + j) / R = k := by
    rw [Nat.add_comm, Nat.add_mul_div_right _ _ hR, Nat.div_eq_of_lt hj, Nat.zero_add]
  have e2 : (k * R + j) % R = j := by
    rw [Nat.add_comm, Nat.add_mul_mod_self_right, Nat.mod_eq_of_lt hj]
  have := ch_in (R := R) hk
  simp only [List.getElem_map, List.getElem_range, e1, e2, chL, List.getElem_take, List.getElem_drop]
  rw [List.getD_eq_getElem?_getD, List.getElem?_eq_getElem (by omega)]
  rfl
theorem tuL_fl {T : List Int} {R L : Nat} (hR : 0 < R) (hT : T.length = L * R) : ∀ k, k ≤ L → tuL T R L (k * R) = flL T R L k
  | 0, _ => by simp [tuL, flL]
  | k + 1, hk => by
    rw [flL_succ, ← tuL_fl hR hT k (by omega), ← tu_chunk hR hT (show k < L by omega), Nat.add_mul, Nat.one_mul]
    unfold tuL
    rw [List.range_add, List.map_append, List.map_map]
    rfl
theorem tu_idx {R L n : Nat} (hR : 0 < R) (hn : n < L * R) : (L - 1 - n / R) * R + n % R < L * R ∧ n / R ≤ L - 1 ∧ n % R < R := by
  have h1 : n / R < L := Nat.div_lt_of_lt_mul (by rw [Nat.mul_comm]; exact hn)
  have h2 := Nat.mod_lt n hR
  have h3 := ch_in (R := R) h1
  exact ⟨by omega, by omega, h2⟩
/-- What the region of the append stands on. -/
def RawTu (w : World) (n8 b' o' idx cap len R L : Nat) (t : Int) (A : Array Value) (br : Bool) (w1 : World) : Prop := w1.cell? ⟨w.heap.size + 1, 0, none⟩ = some (.slice (some ⟨b', o', none⟩) len cap) ∧ w1.cell? ⟨b', o' + idx, none⟩ = some (.int .i64 t) ∧ w1.cell? ⟨w.heap.size, 0, none⟩ = some (.int .i64 (R : Int)) ∧ w1.cell? ⟨w.heap.size, 1, none⟩ = some (.int .i64 (L : Int)) ∧ R4e w n8 w1 A #[.slice (some ⟨b', o', none⟩) len cap, .bool br] (.bool br)
theorem rawTu {w W : World} {n8 b' o' idx cap len R L : Nat} {t : Int} {A : Array Value} {br : Bool} (hA : A[0]? = some (.int .i64 (R : Int)) ∧ A[1]? = some (.int .i64 (L : Int))) (hx : ∀ w1, Below w.heap.size w w1 → w1.cell? ⟨b', o' + idx, none⟩ = some (.int .i64 t)) (h : R4e w n8 W A #[.slice (some ⟨b', o', none⟩) len cap, .bool br] (.bool br)) : RawTu w n8 b' o' idx cap len R L t A br W :=
  ⟨by obtain ⟨u, h⟩ := h; exact cell_of_row _ _ 0 _ _ _ h.bod, hx _ h.low, by obtain ⟨u, h⟩ := h; exact (cell_of_row _ _ 0 _ _ _ h.can).trans hA.1, by obtain ⟨u, h⟩ := h; exact (cell_of_row _ _ 1 _ _ _ h.can).trans hA.2, h⟩
set_option maxRecDepth 100000 in
set_option maxHeartbeats 4000000 in
theorem rturned_all (r l a b k a2 b2 : Int) (w : World) (v : Value) (T : List Int) (br : Bool) (hl : RowI w v T) :
    Calls Try.prog 32 #[.agg #[.int .i64 r, .int .i64 l, .int .i64 a, .int .i64 b, .int .i64 k, .int .i64 a2, .int .i64 b2], .agg #[v, .bool br]] w (OutB (turnO r l a b k a2 b2 (T, br)) w) := by
  have HL := hid (fun w1 (g : Below w.heap.size w w1) => hl.keep g)
  cases hbb : bothB r l a b k a2 b2 T br
  · obtain ⟨a0, cap, rfl⟩ := hl.shape
    have HS := hid (r3_start (w := w) (A := #[.int .i64 r, .int .i64 l, .int .i64 a, .int .i64 b, .int .i64 k, .int .i64 a2, .int .i64 b2]) (B := #[.slice a0 T.length cap, .bool br]) (R := #[.slice none 0 0, .bool false]))
    clear hl
    rw [turnO_can hbb]
    go_enter Try.func32, Try.ntmps32
    go_wp2_with fail
    refine (rvboth_any _ _ _ _ _ _ _ _ _ T _ (HL.out _ HS.out.low)).mono ?_
    rintro e w1 ⟨rfl, hb⟩
    rw [hbb]
    have H1 := hid (HS.out.keep hb)
    have k0 := H1.out.cell.2.2.1 0; have k1 := H1.out.cell.2.2.1 1; have k2 := H1.out.cell.2.2.2 0; have k3 := H1.out.cell.2.2.2 1
    simp only [List.getElem?_toArray, List.getElem?_cons_zero, List.getElem?_cons_succ] at k0 k1
    go_wp2_with fail
    obtain ⟨c6, c7, c9⟩ := H1.out.nil (u := .slice none 0 0) (v := .bool false)
    exact bodyPost_ret (v := .tuple #[.agg #[.slice none 0 0, .bool false], .int .i64 1]) (by simp [results, Try.results32, go_sem, c6, c7]) rfl (outB_nil rfl c9)
  rw [turnO_ok (x := (T, br)) hbb]
  obtain ⟨c, hcv, ⟨rfl, rfl, rfl, rfl, rfl, rfl, rfl⟩, hbv, hwm⟩ := both_open hbb
  have hr1 := hcv.ok.r1; have hr2 := hcv.ok.r2; have hl1 := hcv.ok.l1; have hl2 := hcv.ok.l2
  have hTl : T.length = c.L * c.R := by rw [Nat.mul_comm]; exact hwm.len
  have hp := hcv.ok.p
  unfold Cn.P at hp
  rw [Nat.mul_comm] at hp
  have hT0 : 0 < T.length := by omega
  have hT48 : T.length ≤ 48 := by omega
  obtain ⟨b', o', cap, rfl, hc⟩ := hl.some hT0
  have HC := hid (fun w1 (g : Below w.heap.size w w1) j h => keep_cell g (hc j h))
  have HS := hid (r3_start (w := w) (A := #[.int .i64 (c.R : Int), .int .i64 (c.L : Int), .int .i64 c.A, .int .i64 c.B, .int .i64 c.K, .int .i64 c.A2, .int .i64 c.B2]) (B := #[.slice (some ⟨b', o', none⟩) T.length cap, .bool br]) (R := #[.slice none 0 0, .bool false]))
  obtain ⟨i0, hi, hz0, hz1', hz2'⟩ := info_parts infoIf
  have HBB := hid hbb
  have HTL := hid hTl
  have hrt : (c.R : Int).toNat = c.R := by simp
  have hlt : (c.L : Int).toNat = c.L := by simp
  simp only [hrt, hlt]
  have HFL := hid (tuL_fl (T := T) (by omega) hTl c.L (Nat.le_refl _))
  rw [← hTl] at HFL
  have HIX := hid (fun n (hn : n < T.length) => tu_idx (n := n) (R := c.R) (L := c.L) (by omega) (by rw [← hTl]; exact hn))
  clear hbb hbv hwm hcv hrt hlt hTl hc hl
  generalize hLe : c.L = L at *
  generalize hRe : c.R = R at *
  go_enter Try.func32, Try.ntmps32
  go_wp2_with fail
  refine (rvboth_any _ _ _ _ _ _ _ _ _ T _ (HL.out _ HS.out.low)).mono ?_
  rintro e w1 ⟨rfl, hb⟩
  rw [HBB.out]
  have H1 := hid (HS.out.keep hb)
  have k2 := H1.out.cell.2.1 0; have k3 := H1.out.cell.2.1 1
  simp only [List.getElem?_toArray, List.getElem?_cons_zero, List.getElem?_cons_succ] at k2 k3
  clear hb
  go_wp2_with fail
  obtain ⟨n8, hn8⟩ : ∃ n, n = w1.heap.size := ⟨_, rfl⟩
  have h8 : w.heap.size + 1 + 1 < n8 := by rw [hn8]; exact lt_of_block H1.out.res
  have HB8 := hid (Below.alloc (Below.refl _ w1) (Nat.le_refl _) (.cells #[.slice none 0 0, .bool br] 26))
  have HR0 := hid (show R4 w n8 (w1.alloc (.cells #[.slice none 0 0, .bool br] 26)) #[.int .i64 (R : Int), .int .i64 (L : Int), .int .i64 c.A, .int .i64 c.B, .int .i64 c.K, .int .i64 c.A2, .int .i64 c.B2] #[.slice (some ⟨b', o', none⟩) T.length cap, .bool br] #[.slice none 0 0, .bool false] #[.slice none 0 0, .bool br] from ⟨(H1.out.keep HB8.out).can, (H1.out.keep HB8.out).bod, (H1.out.keep HB8.out).res, by rw [hn8]; exact heap_alloc_new w1 _, h8, (H1.out.keep HB8.out).low⟩)
  rw [← hn8]
  clear hn8 k2 k3
  go_loopw [7] (fun i wr => ∃ n : Nat, n ≤ T.length ∧ i = .int .i64 (n : Int) ∧ ∃ (a' : Option Addr) (c' : Nat), Hid (R4 w n8 wr #[.int .i64 (R : Int), .int .i64 (L : Int), .int .i64 c.A, .int .i64 c.B, .int .i64 c.K, .int .i64 c.A2, .int .i64 c.B2] #[.slice (some ⟨b', o', none⟩) T.length cap, .bool br] #[.slice none 0 0, .bool false] #[.slice a' n c', .bool br]) ∧ Hid (wr.ownsRow (n8 + 1) 3 1 (.slice a' n c') (ivs (tuL T R L n)).length (ivs (tuL T R L n)))) (fun i _ => T.length - (intOf i).toNat)
  case atStart => exact ⟨0, Nat.zero_le _, rfl, none, 0, HR0, World.ownsRow_nil _ _ _ _⟩
  case round =>
    obtain ⟨n, hn, rfl, a', c', HR, HO⟩ := hrel
    obtain ⟨k0, k1, d0, d1, f0, f1, e0, e1, g0, g1, hz⟩ := HR.out.facts
    by_cases hlt : n < T.length
    · have hlt' : (n : Int) < T.length := by omega
      obtain ⟨hidx, hq1, hq2⟩ := HIX.out n hlt
      rw [← HTL.out] at hidx
      have HX := hid (fun w1 g => HC.out w1 g _ hidx)
      have HMS := hid (tuL_succ T R L n)
      rw [List.getD_eq_getElem?_getD, List.getElem?_eq_getElem hidx, Option.getD_some] at HMS
      generalize T[(L - 1 - n / R) * R + n % R] = t at HX HMS
      obtain ⟨qq, hqq⟩ : ∃ q, q = n / R := ⟨_, rfl⟩
      obtain ⟨mm, hmm⟩ : ∃ q, q = n % R := ⟨_, rfl⟩
      rw [← hqq] at hq1
      rw [← hmm] at hq2
      have hqz : (n : Int) / (R : Int) = (qq : Int) := by rw [hqq]; exact (Int.natCast_ediv n R).symm
      have hmz : (n : Int) % (R : Int) = (mm : Int) := by rw [hmm]; exact (Int.natCast_emod n R).symm
      have hqt : (n : Int).tdiv (R : Int) = (qq : Int) := by rw [Int.tdiv_eq_ediv_of_nonneg (by omega)]; exact hqz
      have hmt : (n : Int).tmod (R : Int) = (mm : Int) := by rw [Int.tmod_eq_emod_of_nonneg (by omega)]; exact hmz
      rw [← hqq, ← hmm] at hidx HX
      obtain ⟨idx, hid2⟩ : ∃ x, x = (L - 1 - qq) * R + mm := ⟨_, rfl⟩
      obtain ⟨pr, hpr⟩ : ∃ x, x = (L - 1 - qq) * R := ⟨_, rfl⟩
      rw [← hpr] at hid2
      have hprz : ((L : Int) - 1 - (qq : Int)) * (R : Int) = (pr : Int) := by
        rw [hpr, Int.natCast_mul]
        congr 1
        omega
      rw [← hpr, ← hid2] at hidx HX
      obtain ⟨L1, hL1⟩ : ∃ x : Nat, (L : Int) - 1 = (x : Int) := ⟨L - 1, by omega⟩
      obtain ⟨L2, hL2⟩ : ∃ x : Nat, (L1 : Int) - (qq : Int) = (x : Int) := ⟨L1 - qq, by omega⟩
      rw [hL1, hL2] at hprz
      have hpm : (pr : Int) + (mm : Int) = (idx : Int) := by omega
      have hw1 : IntKind.i64.wrap (L1 : Int) = L1 := wrap_i64 (by omega) (by omega)
      have hw2 : IntKind.i64.wrap (qq : Int) = qq := wrap_i64 (by omega) (by omega)
      have hw3 : IntKind.i64.wrap (L2 : Int) = L2 := wrap_i64 (by omega) (by omega)
      have hw4 : IntKind.i64.wrap (pr : Int) = pr := wrap_i64 (by omega) (by omega)
      have hw5 : IntKind.i64.wrap (mm : Int) = mm := wrap_i64 (by omega) (by omega)
      have hw6 : IntKind.i64.wrap (idx : Int) = idx := wrap_i64 (by omega) (by omega)
      have hR0 : ¬ R = 0 := by omega
      have hR1 : (1 : Int) ≤ (R : Int) := by omega
      have hidz : (idx : Int) < (T.length : Int) := by omega
      have hidx2 : idx < T.length := hidx
      clear hid2 hidx
      clear hqq hmm hpr
      have HLN := hid (show n + 1 ≤ 1000000 by omega)
      have HZ1 := hid (show n8 + 1 ≤ wr.heap.size by omega)
      have c0 := cell_of_row _ _ 0 _ _ _ HR.out.can
      have c1 := cell_of_row _ _ 1 _ _ _ HR.out.can
      simp only [List.getElem?_toArray, List.getElem?_cons_zero, List.getElem?_cons_succ] at c0 c1
      go_wp2_with fail
      refine wp_region_held_drew (S := RawTu w n8 b' o' idx cap T.length R L t #[.int .i64 (R : Int), .int .i64 (L : Int), .int .i64 c.A, .int .i64 c.B, .int .i64 c.K, .int .i64 c.A2, .int .i64 c.B2] br) (by kernel_rfl) (rawTu ⟨rfl, rfl⟩ HX.out (R4e.keep ⟨_, HR.out⟩ (Below.refl _ _).drew)) (fun hS0 => ?_)
      refine wpAnyH_take (i := 0) (v := ?_) rfl (by kernel_rfl) (by kernel_rfl) (by kernel_rfl) (fun _ _ _ h => h) (Or.inl ⟨by rfl, ?_⟩) hS0 ?_
      rotate_left
      · intro w' hSw
        obtain ⟨q0, q1, q2, q3, _⟩ := hSw
        go_simp
        try with_reducible rfl
      simp only [Act.put, List.getElem_toArray, List.getElem_cons_succ, List.getElem_cons_zero, List.setIfInBounds_toArray, List.set_cons_zero, List.set_cons_succ]
      refine wpAnyH_take (i := 2) (v := ?_) rfl (by kernel_rfl) (by kernel_rfl) (by kernel_rfl) (fun _ _ _ h => h) (Or.inl ⟨by rfl, ?_⟩) hS0 ?_
      rotate_left
      · intro w' hSw
        obtain ⟨q0, q1, q2, q3, _⟩ := hSw
        go_simp
        try with_reducible rfl
      simp only [Act.put, List.getElem_toArray, List.getElem_cons_succ, List.getElem_cons_zero, List.setIfInBounds_toArray, List.set_cons_zero, List.set_cons_succ]
      refine wpAnyH_take (i := 3) (v := ?_) rfl (by kernel_rfl) (by kernel_rfl) (by kernel_rfl) (fun _ _ _ h => h) (Or.inl ⟨by rfl, ?_⟩) hS0 ?_
      rotate_left
      · intro w' hSw
        obtain ⟨q0, q1, q2, q3, _⟩ := hSw
        go_simp
        try with_reducible rfl
      simp only [Act.put, List.getElem_toArray, List.getElem_cons_succ, List.getElem_cons_zero, List.setIfInBounds_toArray, List.set_cons_zero, List.set_cons_succ]
      refine wpAnyH_take (i := 4) (v := ?_) rfl (by kernel_rfl) (by kernel_rfl) (by kernel_rfl) (fun _ _ _ h => h) (Or.inl ⟨by rfl, ?_⟩) hS0 ?_
      rotate_left
      · intro w' hSw
        obtain ⟨q0, q1, q2, q3, _⟩ := hSw
        go_simp
        try with_reducible rfl
      simp only [Act.put, List.getElem_toArray, List.getElem_cons_succ, List.getElem_cons_zero, List.setIfInBounds_toArray, List.set_cons_zero, List.set_cons_succ]
      refine wpAnyH_take (i := 5) (v := ?_) rfl (by kernel_rfl) (by kernel_rfl) (by kernel_rfl) (fun _ _ _ h => h) (Or.inl ⟨by rfl, ?_⟩) hS0 ?_
      rotate_left
      · intro w' hSw
        obtain ⟨q0, q1, q2, q3, _⟩ := hSw
        go_simp
        try with_reducible rfl
      simp only [Act.put, List.getElem_toArray, List.getElem_cons_succ, List.getElem_cons_zero, List.setIfInBounds_toArray, List.set_cons_zero, List.set_cons_succ]
      refine wpAnyH_take (i := 6) (v := .int .i64 (L1 : Int)) rfl (by kernel_rfl) (by kernel_rfl) (by kernel_rfl) (fun _ _ _ h => h) (Or.inl ⟨by rfl, ?_⟩) hS0 ?_
      · intro w' hSw
        obtain ⟨q0, q1, q2, q3, _⟩ := hSw
        go_simp
      simp only [Act.put, List.getElem_toArray, List.getElem_cons_succ, List.getElem_cons_zero, List.setIfInBounds_toArray, List.set_cons_zero, List.set_cons_succ]
      refine wpAnyH_take (i := 7) (v := ?_) rfl (by kernel_rfl) (by kernel_rfl) (by kernel_rfl) (fun _ _ _ h => h) (Or.inl ⟨by rfl, ?_⟩) hS0 ?_
      rotate_left
      · intro w' hSw
        obtain ⟨q0, q1, q2, q3, _⟩ := hSw
        go_simp
        try with_reducible rfl
      simp only [Act.put, List.getElem_toArray, List.getElem_cons_succ, List.getElem_cons_zero, List.setIfInBounds_toArray, List.set_cons_zero, List.set_cons_succ]
      refine wpAnyH_take (i := 8) (v := ?_) rfl (by kernel_rfl) (by kernel_rfl) (by kernel_rfl) (fun _ _ _ h => h) (Or.inl ⟨by rfl, ?_⟩) hS0 ?_
      rotate_left
      · intro w' hSw
        obtain ⟨q0, q1, q2, q3, _⟩ := hSw
        go_simp
        try with_reducible rfl
      simp only [Act.put, List.getElem_toArray, List.getElem_cons_succ, List.getElem_cons_zero, List.setIfInBounds_toArray, List.set_cons_zero, List.set_cons_succ]
      refine wpAnyH_take (i := 9) (v := ?_) rfl (by kernel_rfl) (by kernel_rfl) (by kernel_rfl) (fun _ _ _ h => h) (Or.inl ⟨by rfl, ?_⟩) hS0 ?_
      rotate_left
      · intro w' hSw
        obtain ⟨q0, q1, q2, q3, _⟩ := hSw
        go_simp
        try with_reducible rfl
      simp only [Act.put, List.getElem_toArray, List.getElem_cons_succ, List.getElem_cons_zero, List.setIfInBounds_toArray, List.set_cons_zero, List.set_cons_succ]
      refine wpAnyH_take (i := 10) (v := .int .i64 (qq : Int)) rfl (by kernel_rfl) (by kernel_rfl) (by kernel_rfl) (fun _ _ _ h => h) (Or.inl ⟨by rfl, ?_⟩) hS0 ?_
      · intro w' hSw
        obtain ⟨q0, q1, q2, q3, _⟩ := hSw
        go_simp
      simp only [Act.put, List.getElem_toArray, List.getElem_cons_succ, List.getElem_cons_zero, List.setIfInBounds_toArray, List.set_cons_zero, List.set_cons_succ]
      refine wpAnyH_take (i := 11) (v := .int .i64 (L2 : Int)) rfl (by kernel_rfl) (by kernel_rfl) (by kernel_rfl) (fun _ _ _ h => h) (Or.inl ⟨by rfl, ?_⟩) hS0 ?_
      · intro w' hSw
        obtain ⟨q0, q1, q2, q3, _⟩ := hSw
        go_simp
      simp only [Act.put, List.getElem_toArray, List.getElem_cons_succ, List.getElem_cons_zero, List.setIfInBounds_toArray, List.set_cons_zero, List.set_cons_succ]
      refine wpAnyH_take (i := 12) (v := ?_) rfl (by kernel_rfl) (by kernel_rfl) (by kernel_rfl) (fun _ _ _ h => h) (Or.inl ⟨by rfl, ?_⟩) hS0 ?_
      rotate_left
      · intro w' hSw
        obtain ⟨q0, q1, q2, q3, _⟩ := hSw
        go_simp
        try with_reducible rfl
      simp only [Act.put, List.getElem_toArray, List.getElem_cons_succ, List.getElem_cons_zero, List.setIfInBounds_toArray, List.set_cons_zero, List.set_cons_succ]
      refine wpAnyH_take (i := 13) (v := ?_) rfl (by kernel_rfl) (by kernel_rfl) (by kernel_rfl) (fun _ _ _ h => h) (Or.inl ⟨by rfl, ?_⟩) hS0 ?_
      rotate_left
      · intro w' hSw
        obtain ⟨q0, q1, q2, q3, _⟩ := hSw
        go_simp
        try with_reducible rfl
      simp only [Act.put, List.getElem_toArray, List.getElem_cons_succ, List.getElem_cons_zero, List.setIfInBounds_toArray, List.set_cons_zero, List.set_cons_succ]
      refine wpAnyH_take (i := 14) (v := .int .i64 (pr : Int)) rfl (by kernel_rfl) (by kernel_rfl) (by kernel_rfl) (fun _ _ _ h => h) (Or.inl ⟨by rfl, ?_⟩) hS0 ?_
      · intro w' hSw
        obtain ⟨q0, q1, q2, q3, _⟩ := hSw
        go_simp
      simp only [Act.put, List.getElem_toArray, List.getElem_cons_succ, List.getElem_cons_zero, List.setIfInBounds_toArray, List.set_cons_zero, List.set_cons_succ]
      refine wpAnyH_take (i := 15) (v := ?_) rfl (by kernel_rfl) (by kernel_rfl) (by kernel_rfl) (fun _ _ _ h => h) (Or.inl ⟨by rfl, ?_⟩) hS0 ?_
      rotate_left
      · intro w' hSw
        obtain ⟨q0, q1, q2, q3, _⟩ := hSw
        go_simp
        try with_reducible rfl
      simp only [Act.put, List.getElem_toArray, List.getElem_cons_succ, List.getElem_cons_zero, List.setIfInBounds_toArray, List.set_cons_zero, List.set_cons_succ]
      refine wpAnyH_take (i := 16) (v := ?_) rfl (by kernel_rfl) (by kernel_rfl) (by kernel_rfl) (fun _ _ _ h => h) (Or.inl ⟨by rfl, ?_⟩) hS0 ?_
      rotate_left
      · intro w' hSw
        obtain ⟨q0, q1, q2, q3, _⟩ := hSw
        go_simp
        try with_reducible rfl
      simp only [Act.put, List.getElem_toArray, List.getElem_cons_succ, List.getElem_cons_zero, List.setIfInBounds_toArray, List.set_cons_zero, List.set_cons_succ]
      refine wpAnyH_take (i := 17) (v := ?_) rfl (by kernel_rfl) (by kernel_rfl) (by kernel_rfl) (fun _ _ _ h => h) (Or.inl ⟨by rfl, ?_⟩) hS0 ?_
      rotate_left
      · intro w' hSw
        obtain ⟨q0, q1, q2, q3, _⟩ := hSw
        go_simp
        try with_reducible rfl
      simp only [Act.put, List.getElem_toArray, List.getElem_cons_succ, List.getElem_cons_zero, List.setIfInBounds_toArray, List.set_cons_zero, List.set_cons_succ]
      refine wpAnyH_take (i := 18) (v := .int .i64 (mm : Int)) rfl (by kernel_rfl) (by kernel_rfl) (by kernel_rfl) (fun _ _ _ h => h) (Or.inl ⟨by rfl, ?_⟩) hS0 ?_
      · intro w' hSw
        obtain ⟨q0, q1, q2, q3, _⟩ := hSw
        go_simp
      simp only [Act.put, List.getElem_toArray, List.getElem_cons_succ, List.getElem_cons_zero, List.setIfInBounds_toArray, List.set_cons_zero, List.set_cons_succ]
      refine wpAnyH_take (i := 19) (v := .int .i64 (idx : Int)) rfl (by kernel_rfl) (by kernel_rfl) (by kernel_rfl) (fun _ _ _ h => h) (Or.inl ⟨by rfl, ?_⟩) hS0 ?_
      · intro w' hSw
        obtain ⟨q0, q1, q2, q3, _⟩ := hSw
        go_simp
      simp only [Act.put, List.getElem_toArray, List.getElem_cons_succ, List.getElem_cons_zero, List.setIfInBounds_toArray, List.set_cons_zero, List.set_cons_succ]
      refine wpAnyH_take (i := 20) (v := ?_) rfl (by kernel_rfl) (by kernel_rfl) (by kernel_rfl) (fun _ _ _ h => h) (Or.inl ⟨by rfl, ?_⟩) hS0 ?_
      rotate_left
      · intro w' hSw
        obtain ⟨q0, q1, q2, q3, _⟩ := hSw
        go_simp
        try with_reducible rfl
      simp only [Act.put, List.getElem_toArray, List.getElem_cons_succ, List.getElem_cons_zero, List.setIfInBounds_toArray, List.set_cons_zero, List.set_cons_succ]
      refine wpAnyH_take (i := 21) (v := ?_) rfl (by kernel_rfl) (by kernel_rfl) (by kernel_rfl) (fun _ _ _ h => h) (Or.inl ⟨by rfl, ?_⟩) hS0 ?_
      rotate_left
      · intro w' hSw
        obtain ⟨q0, q1, q2, q3, _⟩ := hSw
        go_simp
        try with_reducible rfl
      simp only [Act.put, List.getElem_toArray, List.getElem_cons_succ, List.getElem_cons_zero, List.setIfInBounds_toArray, List.set_cons_zero, List.set_cons_succ]
      refine wpAnyH_ready (rs := [1, 22]) (by kernel_rfl) (by simp) ?_
      refine AllReadyH.cons rfl (fun K hK => ?_) (AllReadyH.cons rfl (fun K hK => ?_) AllReadyH.nil)
      · go_simp
        refine hK.out _ _ hS0 (fun hS1 => ?_)
        clear hK K
        refine wpAnyH_ready (rs := [22]) (by kernel_rfl) (by simp) ?_
        refine AllReadyH.cons rfl (fun K hK => ?_) AllReadyH.nil
        go_simp
        refine hK.out _ _ (rawTu ⟨rfl, rfl⟩ HX.out (R4e.keep ⟨_, HR.out⟩ ((Below.refl _ _).alloc (Nat.le_refl _) _).drew)) (fun hS2 => ?_)
        clear hK K
        refine wpAnyH_ready (rs := [23]) (by kernel_rfl) (by simp) ?_
        refine AllReadyH.cons rfl (fun K hK => ?_) AllReadyH.nil
        refine step_app2 rfl (.tmp 24) (.tmp 45) 24 rfl (n8 + 1) 3 i0 Try.underlying24 hi hz0 hz1' hz2' (.slice a' n c') (ivs (tuL T R L n)) rfl (HO.out.alloc _) (.slice (some ⟨wr.heap.size, 0, none⟩) 1 1) [t] rfl (RowI.src (one_at _ _ rfl)) (by rw [ivs_len, tuL_len]; have := HLN.out; show n + 1 ≤ 1000000; omega) (by have := HZ1.out; show n8 + 1 ≤ (wr.alloc _).heap.size; rw [World.size_alloc]; omega) ?_
        intro v3 w6 hO1 hA1
        have hR6 := (R4.app (HR.out.keep ((Below.refl _ _).alloc (Nat.le_refl _) _).drew) hO1 hA1)
        have HR6 := hid hR6
        have ho6 := app_next hA1
        rw [← HMS.out] at ho6
        obtain ⟨a3, c3, rfl⟩ := own_shape ho6
        have hl6 : (tuL T R L (n + 1)).length = n + 1 := tuL_len _ _ _ _
        rw [hl6] at ho6 ⊢
        have HO6 := hid ho6
        clear hO1 hA1 ho6 hl6
        refine hK.out _ _ (rawTu ⟨rfl, rfl⟩ HX.out ⟨_, HR6.out⟩) (fun hS3 => ?_)
        clear hK K k0 k1 d0 d1 f0 f1 e0 e1 g0 g1 hz
        have hF := HR6.out.facts
        obtain ⟨k0, k1, d0, d1, f0, f1, e0, e1, g0, g1, hz⟩ := hF
        refine wpAnyH_take (i := 24) (v := ?_) rfl (by kernel_rfl) (by kernel_rfl) (by kernel_rfl) (fun _ _ _ h => h) (Or.inl ⟨by rfl, ?_⟩) hS3 ?_
        rotate_left
        · intro w' hSw
          obtain ⟨q0, q1, q2, q3, _⟩ := hSw
          go_simp
          try with_reducible rfl
        simp only [Act.put, List.getElem_toArray, List.getElem_cons_succ, List.getElem_cons_zero, List.setIfInBounds_toArray, List.set_cons_zero, List.set_cons_succ]
        refine wpAnyH_ready (rs := [25]) (by kernel_rfl) (by simp) ?_
        refine AllReadyH.cons rfl (fun K hK => ?_) AllReadyH.nil
        go_simp
        refine hK.out _ _ (rawTu ⟨rfl, rfl⟩ HX.out ⟨_, HR6.out.set0⟩) (fun hS4 => ?_)
        clear hK K
        refine wpAnyH_done (by kernel_rfl) ?_ _
        have HS6 := hid (HR6.out.set0 (u := .slice a3 (n + 1) c3))
        have HO7 := hid (own_set (m := n8) (j := 0) (u := .slice a3 (n + 1) c3) HO6.out (by omega))
        go_wp2
        go_roundw
        case rel => exact ⟨n + 1, by omega, by go_num, a3, c3, HS6, by rw [ivs_len, tuL_len]; exact HO7⟩
        case measure => simp [intOf]; omega
      · go_simp
        refine hK.out _ _ (rawTu ⟨rfl, rfl⟩ HX.out (R4e.keep ⟨_, HR.out⟩ ((Below.refl _ _).alloc (Nat.le_refl _) _).drew)) (fun hS1 => ?_)
        clear hK K
        refine wpAnyH_ready (rs := [1]) (by kernel_rfl) (by simp) ?_
        refine AllReadyH.cons rfl (fun K hK => ?_) AllReadyH.nil
        go_simp
        refine hK.out _ _ hS1 (fun hS2 => ?_)
        clear hK K
        refine wpAnyH_ready (rs := [23]) (by kernel_rfl) (by simp) ?_
        refine AllReadyH.cons rfl (fun K hK => ?_) AllReadyH.nil
        refine step_app2 rfl (.tmp 24) (.tmp 45) 24 rfl (n8 + 1) 3 i0 Try.underlying24 hi hz0 hz1' hz2' (.slice a' n c') (ivs (tuL T R L n)) rfl (HO.out.alloc _) (.slice (some ⟨wr.heap.size, 0, none⟩) 1 1) [t] rfl (RowI.src (one_at _ _ rfl)) (by rw [ivs_len, tuL_len]; have := HLN.out; show n + 1 ≤ 1000000; omega) (by have := HZ1.out; show n8 + 1 ≤ (wr.alloc _).heap.size; rw [World.size_alloc]; omega) ?_
        intro v3 w6 hO1 hA1
        have hR6 := (R4.app (HR.out.keep ((Below.refl _ _).alloc (Nat.le_refl _) _).drew) hO1 hA1)
        have HR6 := hid hR6
        have ho6 := app_next hA1
        rw [← HMS.out] at ho6
        obtain ⟨a3, c3, rfl⟩ := own_shape ho6
        have hl6 : (tuL T R L (n + 1)).length = n + 1 := tuL_len _ _ _ _
        rw [hl6] at ho6 ⊢
        have HO6 := hid ho6
        clear hO1 hA1 ho6 hl6
        refine hK.out _ _ (rawTu ⟨rfl, rfl⟩ HX.out ⟨_, HR6.out⟩) (fun hS3 => ?_)
        clear hK K k0 k1 d0 d1 f0 f1 e0 e1 g0 g1 hz
        have hF := HR6.out.facts
        obtain ⟨k0, k1, d0, d1, f0, f1, e0, e1, g0, g1, hz⟩ := hF
        refine wpAnyH_take (i := 24) (v := ?_) rfl (by kernel_rfl) (by kernel_rfl) (by kernel_rfl) (fun _ _ _ h => h) (Or.inl ⟨by rfl, ?_⟩) hS3 ?_
        rotate_left
        · intro w' hSw
          obtain ⟨q0, q1, q2, q3, _⟩ := hSw
          go_simp
          try with_reducible rfl
        simp only [Act.put, List.getElem_toArray, List.getElem_cons_succ, List.getElem_cons_zero, List.setIfInBounds_toArray, List.set_cons_zero, List.set_cons_succ]
        refine wpAnyH_ready (rs := [25]) (by kernel_rfl) (by simp) ?_
        refine AllReadyH.cons rfl (fun K hK => ?_) AllReadyH.nil
        go_simp
        refine hK.out _ _ (rawTu ⟨rfl, rfl⟩ HX.out ⟨_, HR6.out.set0⟩) (fun hS4 => ?_)
        clear hK K
        refine wpAnyH_done (by kernel_rfl) ?_ _
        have HS6 := hid (HR6.out.set0 (u := .slice a3 (n + 1) c3))
        have HO7 := hid (own_set (m := n8) (j := 0) (u := .slice a3 (n + 1) c3) HO6.out (by omega))
        go_wp2
        go_roundw
        case rel => exact ⟨n + 1, by omega, by go_num, a3, c3, HS6, by rw [ivs_len, tuL_len]; exact HO7⟩
        case measure => simp [intOf]; omega
    · obtain rfl : n = T.length := by omega
      rw [HFL.out] at HO
      have h8' := HR.out.h8
      have hfl : (flL T R L L).length = T.length := by rw [← HFL.out, tuL_len]
      go_wp2
      obtain ⟨c6, c7, c9⟩ := HR.out.r3.nil (u := .slice a' T.length c') (v := .bool br)
      have hown := own_set (m := w.heap.size + 1 + 1) (j := 1) (u := .bool br) (own_set (m := w.heap.size + 1 + 1) (j := 0) (u := .slice a' T.length c') HO.out (by omega)) (by omega)
      have hri := own_rowI (l := flL T R L L) (by rw [ivs_len] at hown; exact hown) (by rw [hfl]; omega)
      exact bodyPost_ret (v := .tuple #[.agg #[.slice a' T.length c', .bool br], .int .i64 0]) (by simp [results, Try.results32, go_sem, c6, c7]) rfl ⟨a', c', by dsimp only; rw [hfl], by dsimp only; rw [hfl]; exact hri, c9⟩
end Go.Proofs.Ytpkcnojcklmhmaa
