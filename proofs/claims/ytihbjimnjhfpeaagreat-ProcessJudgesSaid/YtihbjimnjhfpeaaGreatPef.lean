/- Walk of the reference's begun: contract. -/
import Derived.Test.YtihbjimnjhfpeaaGreatG33
import Derived.Test.YtihbjimnjhfpeaaGreatG17
import Derived.Test.YtihbjimnjhfpeaaGreatG08
namespace Go.Proofs.YtihbjimnjhfpeaaGreat
open Go.RowKit Go.Lib

def StartN (c : Cn) (t : Int) (w : World) (e : Ending) (w' : World) : Prop := ∃ (ua : Option Addr) (cap : Nat), e = .returned (.agg #[.slice ua c.P cap, .bool (decide (0 < c.K) && decide (c.K ≤ t))]) ∧ RowI w' (.slice ua c.P cap) (List.replicate c.P t) ∧ (∀ ad, ua = some ad → w.heap.size ≤ ad.block) ∧ Below w.heap.size w w'
set_option maxRecDepth 100000 in
set_option maxHeartbeats 4000000 in
theorem start_new (c : Cn) (t : Int) (w : World) (hv : c.V) :
    Calls Tryz.prog 126 #[.agg #[.int .i64 (c.R : Int), .int .i64 (c.L : Int), .int .i64 c.A, .int .i64 c.B, .int .i64 c.K, .int .i64 c.A2, .int .i64 c.B2], .int .i64 t] w (StartN c t w) := by
  have HS := hid (r3b_start (w := w) (A := #[.int .i64 (c.R : Int), .int .i64 (c.L : Int), .int .i64 c.A, .int .i64 c.B, .int .i64 c.K, .int .i64 c.A2, .int .i64 c.B2]) (R := #[.slice none 0 0, .bool false]) (S := #[.slice none 0 0, .bool false]))
  obtain ⟨p1, p2⟩ := hv.ok.mul
  have hp := hv.ok.p
  have hr := hv.ok.r1; have hr2 := hv.ok.r2; have hl := hv.ok.l1; have hl2 := hv.ok.l2
  have HP := hid c.P_int
  obtain ⟨i0, hi, hz0, hz1', hz2'⟩ := info_parts infoIf
  clear hv
  go_enter Tryz.func126, Tryz.ntmps126
  go_wp2_with fail
  go_loopw [6] (fun i wr => ∃ n : Nat, n ≤ c.P ∧ i = .int .i64 (n : Int) ∧ ∃ (a : Option Addr) (cap : Nat), Hid (R3b w wr #[.int .i64 (c.R : Int), .int .i64 (c.L : Int), .int .i64 c.A, .int .i64 c.B, .int .i64 c.K, .int .i64 c.A2, .int .i64 c.B2] #[.slice none 0 0, .bool false] #[.slice a n cap, .bool false]) ∧ Hid (wr.ownsRow (w.heap.size + 3) 3 1 (.slice a n cap) (ivs (List.replicate n t)).length (ivs (List.replicate n t)))) (fun i _ => c.P - (intOf i).toNat)
  case atStart => exact ⟨0, Nat.zero_le _, rfl, none, 0, HS, World.ownsRow_nil _ _ _ _⟩
  case round =>
    obtain ⟨n, hn, rfl, a, cap, HR, HO⟩ := hrel
    obtain ⟨k0, k1, k4, d0, d1, f0, f1, e0, e1, g0, g1, hz⟩ := HR.out.facts
    by_cases hlt : n < c.P
    · have hlt' : (n : Int) < (c.R : Int) * c.L := by rw [← HP.out]; omega
      have HR1 := hid (HR.out.alloc (.cells #[.int .i64 t] 3))
      have HL1 := hid (show n + 1 ≤ 1000000 by omega)
      have HZ1 := hid (show w.heap.size + 3 ≤ wr.heap.size + 1 by omega)
      go_wp2_with (at_builtin; (refine wpList_app rfl (.tmp 17) (.tmp 19) 28 rfl (w.heap.size + 3) 3 i0 Tryz.underlying28 hi hz0 hz1' hz2' _ (ivs (List.replicate n t)) rfl (HO.out.alloc _) (.slice (some ⟨wr.heap.size, 0, none⟩) 1 1) [t] rfl (RowI.src (one_at _ _ rfl)) (by rw [ivs_len, List.length_replicate]; exact HL1.out) (by rw [World.size_alloc]; exact HZ1.out) ?_); intro v3 w6 hA1; have HR6 := hid (HR1.out.app (HO.out.alloc _) hA1); have HO6 := hid (app_next hA1); obtain ⟨a3, c3, rfl⟩ := own_shape HO6.out; obtain ⟨k0, k1, k4, d0, d1, f0, f1, e0, e1, g0, g1, hz⟩ := HR6.out.facts; clear hA1)
      have ho6 := HO6.out
      rw [show List.replicate n t ++ [t] = List.replicate (n + 1) t from (List.replicate_succ' ..).symm] at ho6
      rw [List.length_replicate] at ho6
      have HS6 := hid (HR6.out.set0 (u := .slice a3 (n + 1) c3))
      have HO7 := hid (own_set (m := w.heap.size + 1 + 1) (j := 0) (u := .slice a3 (n + 1) c3) ho6 (by omega))
      go_roundw
      case rel => exact ⟨n + 1, by omega, by go_num, a3, c3, HS6, by rw [ivs_len, List.length_replicate]; exact HO7⟩
      case measure => simp [intOf]; omega
    · obtain rfl : n = c.P := by omega
      have hge : (c.R : Int) * c.L ≤ c.P := by rw [← HP.out]; omega
      have hkk : 0 < c.K ∨ decide (0 < c.K) = false := by by_cases h : 0 < c.K <;> simp [h]
      rcases hkk with hk | hk
      all_goals
        go_wp2_with fail
        have hfin := HR.out.fin (u := .slice a c.P cap) (v := .bool (decide (0 < c.K) && decide (c.K ≤ t))) (z := .bool (decide (0 < c.K) && decide (c.K ≤ t)))
        have hown := own_set (m := w.heap.size + 1) (j := 1) (u := .bool (decide (0 < c.K) && decide (c.K ≤ t))) (own_set (m := w.heap.size + 1) (j := 0) (u := .slice a c.P cap) (own_set (m := w.heap.size + 1 + 1) (j := 1) (u := .bool (decide (0 < c.K) && decide (c.K ≤ t))) HO.out (by omega)) (by omega)) (by omega)
        obtain ⟨q0, q1, q2⟩ := hfin
        have hri := own_rowI (l := List.replicate c.P t) (by rw [ivs_len] at hown; exact hown) (by rw [List.length_replicate]; omega)
        have hfr : ∀ ad, a = some ad → w.heap.size ≤ ad.block := fun ad e => by have := (World.ownsRow.lt hown ad.block (by rw [e]; rfl)).1; omega
        clear hown
        unfold StartN
        (try simp only [hk, decide_true, Bool.true_and, Bool.false_and] at q0 q1 q2 hri ⊢)
        exact bodyPost_ret (v := .agg #[.slice a c.P cap, .bool _]) (by first | (simp [results, Tryz.results126, go_sem, q0, q1]; done) | (simp [results, Tryz.results126, go_sem, q0, q1]; rfl)) rfl ⟨a, cap, rfl, hri, hfr, q2⟩

theorem mk_row (W : World) (N : Nat) (hN : N ≤ 1000) : RowI (W.alloc (.cells (madeCells #[.int .i64 0] N) 3)) (.slice (some ⟨W.heap.size, 0, none⟩) N N) (ivN (List.replicate N 0)) := by
  have h := made_at W N 3
  have h2 := rowI_of_block (W := W.alloc (.cells (madeCells #[.int .i64 0] N) 3)) (g := W.heap.size) (cap := N) (l := List.replicate N 0) (t := 3) (fr := (0, 0)) (by rw [List.map_replicate]; exact h) (by rw [List.length_replicate]; omega)
  rw [List.length_replicate] at h2
  simpa [ivN] using h2
/-- What begun's region stands on. -/
def RawB (c : Cn) (s : ByteArray) (r : Int) (Z : Nat) (d g : Int) (R : Array Value) (w W : World) : Prop :=
  (W.cell? ⟨w.heap.size, 0, none⟩ = some (.int .i64 (c.R : Int)) ∧ W.cell? ⟨w.heap.size, 1, none⟩ = some (.int .i64 (c.L : Int)) ∧ W.cell? ⟨w.heap.size, 2, none⟩ = some (.int .i64 c.A) ∧ W.cell? ⟨w.heap.size, 3, none⟩ = some (.int .i64 c.B) ∧ W.cell? ⟨w.heap.size, 4, none⟩ = some (.int .i64 c.K) ∧ W.cell? ⟨w.heap.size, 5, none⟩ = some (.int .i64 c.A2) ∧ W.cell? ⟨w.heap.size, 6, none⟩ = some (.int .i64 c.B2)) ∧ (W.cell? ⟨w.heap.size + 1, 0, none⟩ = some (.string s) ∧ W.cell? ⟨w.heap.size + 1, 1, none⟩ = some (.int .i64 r) ∧ W.cell? ⟨w.heap.size + 1, 2, none⟩ = some (.int .i64 (Z : Int)) ∧ W.cell? ⟨w.heap.size + 1, 3, none⟩ = some (.int .i64 d) ∧ W.cell? ⟨w.heap.size + 1, 4, none⟩ = some (.int .i64 g)) ∧ B3 w W 23 25 136 #[.int .i64 (c.R : Int), .int .i64 (c.L : Int), .int .i64 c.A, .int .i64 c.B, .int .i64 c.K, .int .i64 c.A2, .int .i64 c.B2] #[.string s, .int .i64 r, .int .i64 (Z : Int), .int .i64 d, .int .i64 g] R
theorem rawB {c : Cn} {s : ByteArray} {r : Int} {Z : Nat} {d g : Int} {R : Array Value} {w W : World} (h : B3 w W 23 25 136 #[.int .i64 (c.R : Int), .int .i64 (c.L : Int), .int .i64 c.A, .int .i64 c.B, .int .i64 c.K, .int .i64 c.A2, .int .i64 c.B2] #[.string s, .int .i64 r, .int .i64 (Z : Int), .int .i64 d, .int .i64 g] R) : RawB c s r Z d g R w W :=
  ⟨⟨cell_of_row _ _ 0 _ _ _ h.one, cell_of_row _ _ 1 _ _ _ h.one, cell_of_row _ _ 2 _ _ _ h.one, cell_of_row _ _ 3 _ _ _ h.one, cell_of_row _ _ 4 _ _ _ h.one, cell_of_row _ _ 5 _ _ _ h.one, cell_of_row _ _ 6 _ _ _ h.one⟩, ⟨cell_of_row _ _ 0 _ _ _ h.two, cell_of_row _ _ 1 _ _ _ h.two, cell_of_row _ _ 2 _ _ _ h.two, cell_of_row _ _ 3 _ _ _ h.two, cell_of_row _ _ 4 _ _ _ h.two⟩, h⟩
/-- What begun hands back: a run at its beginning, with kept rates of its own. -/
def BegP (c : Cn) (s : ByteArray) (r : Int) (Z : Nat) (d g t : Int) (w : World) (e : Ending) (w' : World) : Prop :=
  ∃ K : Kq, (K.s = s ∧ K.r = r ∧ K.Z = Z ∧ K.d = d ∧ K.g = g) ∧ K.wF = w ∧ Below w.heap.size w w' ∧ w.heap.size ≤ K.b ∧ RnP c K (rs0 c t) w e w'
/-- A row that lies beside the kept rates' rows. -/
def RowK2 (gD gU : Nat) (W : World) (v : Value) (l : List Int) : Prop := RowI W v l ∧ ∀ ad n cap, v = .slice (some ad) n cap → ad.block ≠ gD ∧ ad.block ≠ gU
theorem rowK2_before {gD gU b n cap : Nat} {a : Option Addr} {W W' : World} {l : List Int} (h : RowI W (.slice a n cap) l) (h0 : 0 < l.length) (hb : Below W.heap.size W W') (h1 : W.heap.size ≤ b) (h2 : b < gD) (h3 : b < gU) : RowK2 gD gU W' (.slice a n cap) l := by
  refine ⟨h.keep hb, fun ad m c hv => ?_⟩
  obtain ⟨b', o, c', hv', hc⟩ := h.some h0
  rw [hv] at hv'
  injection hv' with e1
  injection e1 with e1
  subst e1
  have := World.block_lt_of_cell? W ⟨b', o + 0, none⟩ (hc 0 h0)
  have : b' < W.heap.size := this
  constructor <;> show b' ≠ _ <;> omega
theorem rowK2_after {gD gU m n cap : Nat} {W : World} {l : List Int} (h : RowI W (.slice (some ⟨m, 0, none⟩) n cap) l) (h2 : gD < m) (h3 : gU < m) : RowK2 gD gU W (.slice (some ⟨m, 0, none⟩) n cap) l :=
  ⟨h, fun ad _ _ hv => by injection hv with e1; injection e1 with e1; subst e1; constructor <;> show m ≠ _ <;> omega⟩
theorem RowK2.below {gD gU : Nat} {W W' : World} {v : Value} {l : List Int} (h : RowK2 gD gU W v l) (hb : Below W.heap.size W W') : RowK2 gD gU W' v l := ⟨h.1.keep hb, h.2⟩
theorem RowK2.set {gD gU N n cap : Nat} {a : Option Addr} {W W9 : World} {l : List Int} (h : RowK2 gD gU W (.slice a n cap) l) (ha : ∀ ad, a = some ad → N < ad.block) (hs : ∀ g, g ≠ N → W9.heap[g]? = W.heap[g]?) : RowK gD gU W9 (.slice a n cap) l := by
  intro W' hst
  rcases h.1 with h1 | ⟨b', o, cap', hv, hm, hc⟩
  · exact .inl h1
  · refine .inr ⟨b', o, cap', hv, hm, fun k hk => ?_⟩
    obtain ⟨n1, n2⟩ := h.2 ⟨b', o, none⟩ _ _ hv
    injection hv with e1
    have hN := ha _ e1
    have hN : N < b' := hN
    have hb' : W9.cell? ⟨b', o + k, none⟩ = some (.int .i64 l[k]) := by
      rw [World.cell?_of_block (a := ⟨b', o + k, none⟩) (hs b' (by omega))]
      exact hc k hk
    rw [World.cell?_of_block (a := ⟨b', o + k, none⟩) (hst.block b' (World.block_lt_of_cell? W9 ⟨b', o + k, none⟩ hb') n1 n2)]
    exact hb'
theorem kept_rebase {s : ByteArray} {r z d g : Int} {w W wr : World} {b gD gU : Nat} (h : Lt.KeptS s r z d g W b gD gU wr) (hb : Below w.heap.size w W) : Lt.KeptS s r z d g w b gD gU wr ∧ W.heap.size ≤ b := by
  obtain ⟨l1, l2, cD, cU, hF, hR⟩ := h
  exact ⟨⟨l1, l2, cD, cU, ⟨hF.blk, hF.rowD, hF.rowU, hF.ne, hb.trans (hF.low.mono hb.size), Nat.le_trans hb.size hF.le⟩, hR⟩, hF.le⟩
/-- Behind begun's last store. -/
theorem beg_end {K : Kq} {T1 T2 : TypeId} {A B R cs : Array Value} {w W W9 : World} (h : B3 w W T1 T2 136 A B R) (hK : K.at W) (hw : K.wF = w) (hlt : w.heap.size + 1 + 1 < K.b) (hW : W.setRow (w.heap.size + 1 + 1) cs = W9) :
    W9.heap[w.heap.size + 1 + 1]? = some (.cells cs 136 (0, 0)) ∧ K.at W9 ∧ Below w.heap.size w W9 ∧ ∀ g, g ≠ w.heap.size + 1 + 1 → W9.heap[g]? = W.heap[g]? := by
  subst hW
  have ho : ∀ g, g ≠ w.heap.size + 1 + 1 → (W.setRow (w.heap.size + 1 + 1) cs).heap[g]? = W.heap[g]? := fun g hg => setRow_other _ _ _ _ hg
  have hbl : Below w.heap.size W (W.setRow (w.heap.size + 1 + 1) cs) := ⟨rfl, rfl, rfl, by simp, fun k hk => ho k (by omega)⟩
  refine ⟨setRow_heap _ _ _ _ _ _ h.three, ?_, h.low.trans hbl, ho⟩
  have hl := Kq.lt hK
  obtain ⟨l1, l2, cD, cU, hF, hR⟩ := hK
  have hg : W.grownBy (W.setRow (w.heap.size + 1 + 1) cs) (some (w.heap.size + 1 + 1)) := ⟨rfl, rfl, rfl, by simp, fun k _ hk => ho k (fun e => hk (by rw [e]))⟩
  refine ⟨l1, l2, cD, cU, ⟨(ho _ (by omega)).trans hF.blk, World.ownsRow.kept hF.rowD hg (.inr fun e => ?_), World.ownsRow.kept hF.rowU hg (.inr fun e => ?_), hF.ne, ?_, hF.le⟩, hR⟩
  · have : K.gD = w.heap.size + 1 + 1 := Option.some.inj e
    omega
  · have : K.gU = w.heap.size + 1 + 1 := Option.some.inj e
    omega
  · rw [hw] at hF ⊢
    exact hF.low.trans hbl
theorem beg_post {c : Cn} {K : Kq} {s : ByteArray} {r d g t : Int} {Z b m7 m9 xc : Nat} {xa : Option Addr} {w W W9 : World} (he : (K.s = s ∧ K.r = r ∧ K.Z = Z ∧ K.d = d ∧ K.g = g) ∧ K.b = b) (hwF : K.wF = w) (hwb : w.heap.size ≤ b)
    (hK : K.at W9) (hb : Below w.heap.size w W9) (hs : ∀ g, g ≠ w.heap.size + 1 + 1 → W9.heap[g]? = W.heap[g]?)
    (hx : RowK2 K.gD K.gU W (.slice xa c.P xc) (List.replicate c.P t)) (h7 : RowK2 K.gD K.gU W (.slice (some ⟨m7, 0, none⟩) c.P c.P) (ivN (List.replicate c.P 0))) (h9 : RowK2 K.gD K.gU W (.slice (some ⟨m9, 0, none⟩) c.P c.P) (ivN (List.replicate c.P 0)))
    (fx : ∀ ad, xa = some ad → w.heap.size + 1 + 1 < ad.block) (f7 : w.heap.size + 1 + 1 < m7) (f9 : w.heap.size + 1 + 1 < m9) :
    BegP c s r Z d g t w (.returned (.agg #[.int .i64 (c.R : Int), .int .i64 (c.L : Int), .int .i64 c.A, .int .i64 c.B, .int .i64 c.K, .int .i64 c.A2, .int .i64 c.B2, .slice xa c.P xc, .bool (decide (0 < c.K) && decide (c.K ≤ t)), .pointer (some ⟨b, 0, none⟩), .slice (some ⟨m7, 0, none⟩) c.P c.P, .slice (some ⟨m9, 0, none⟩) c.P c.P, .int .i64 0])) W9 := by
  obtain ⟨he, rfl⟩ := he
  have hl1 : (rs0 c t).x.1.length = c.P := by simp [rs0, evB]
  have hl2 : (rs0 c t).d.length = c.P := by simp [rs0]
  have hl3 : (rs0 c t).u.length = c.P := by simp [rs0]
  refine ⟨K, he, hwF, hb, hwb, xa, xc, some ⟨m7, 0, none⟩, c.P, some ⟨m9, 0, none⟩, c.P, ?_, ⟨?_, ?_, ?_⟩, hK, Lt.Still.below hb⟩
  · rw [hl1, hl2, hl3]; rfl
  · rw [hl1]; exact hx.set fx hs
  · rw [hl2]; exact h7.set (fun ad e => by cases e; exact f7) hs
  · rw [hl3]; exact h9.set (fun ad e => by cases e; exact f9) hs
set_option maxRecDepth 100000 in
set_option maxHeartbeats 8000000 in
theorem xbegun_any (c : Cn) (s : ByteArray) (r d g t : Int) (Z : Nat) (w : World) (hs : s.size ≤ maxLen) (hcv : c.V) :
    Calls Tryz.prog 78 #[.agg #[.int .i64 (c.R : Int), .int .i64 (c.L : Int), .int .i64 c.A, .int .i64 c.B, .int .i64 c.K, .int .i64 c.A2, .int .i64 c.B2], .agg #[.string s, .int .i64 r, .int .i64 (Z : Int), .int .i64 d, .int .i64 g], .int .i64 t] w (BegP c s r Z d g t w) := by
  have H3 := hid (b3_start (w := w) (T1 := 23) (T2 := 25) (T3 := 136) (A := #[.int .i64 (c.R : Int), .int .i64 (c.L : Int), .int .i64 c.A, .int .i64 c.B, .int .i64 c.K, .int .i64 c.A2, .int .i64 c.B2]) (B := #[.string s, .int .i64 r, .int .i64 (Z : Int), .int .i64 d, .int .i64 g]) (R := #[.int .i64 0, .int .i64 0, .int .i64 0, .int .i64 0, .int .i64 0, .int .i64 0, .int .i64 0, .slice none 0 0, .bool false, .pointer none, .slice none 0 0, .slice none 0 0, .int .i64 0]))
  obtain ⟨p1, p2⟩ := hcv.ok.mul
  have hp := hcv.ok.p
  have hr := hcv.ok.r1; have hr2 := hcv.ok.r2; have hl := hcv.ok.l1; have hl2 := hcv.ok.l2
  have HP := hid c.P_int
  have HPB := hid hp
  have k0 := cell_of_row _ _ 0 _ _ _ H3.out.one
  have k1 := cell_of_row _ _ 1 _ _ _ H3.out.one
  simp only [List.getElem?_toArray, List.getElem?_cons_zero, List.getElem?_cons_succ] at k0 k1
  have HCV := hid hcv
  have HS := hid hs
  clear hcv hs
  go_enter Tryz.func78, Tryz.ntmps78
  go_wp2_with fail
  have hmk := run_make_row' (P := Tryz.prog) 28 3 (.int .i64 0) 8 Tryz.underlying28 infoIf rfl .i64 .i64 c.P (by omega) (by omega)
  rw [← HP.out]
  clear k0 k1 p1 p2 hp hr hr2 hl hl2
  generalize hW : ((w.alloc (.cells #[.int .i64 (c.R : Int), .int .i64 (c.L : Int), .int .i64 c.A, .int .i64 c.B, .int .i64 c.K, .int .i64 c.A2, .int .i64 c.B2] 23)).alloc (.cells #[.string s, .int .i64 r, .int .i64 (Z : Int), .int .i64 d, .int .i64 g] 25)).alloc (.cells #[.int .i64 0, .int .i64 0, .int .i64 0, .int .i64 0, .int .i64 0, .int .i64 0, .int .i64 0, .slice none 0 0, .bool false, .pointer none, .slice none 0 0, .slice none 0 0, .int .i64 0] 136) = W00 at *
  clear hW
  have HB0 := hid (H3.out.keep (Below.refl _ W00).drew)
  clear H3
  refine wp_region_sink (S := RawB c s r Z d g #[.int .i64 0, .int .i64 0, .int .i64 0, .int .i64 0, .int .i64 0, .int .i64 0, .int .i64 0, .slice none 0 0, .bool false, .pointer none, .slice none 0 0, .slice none 0 0, .int .i64 0] w) 11 (by kernel_rfl) (by kernel_rfl) (by kernel_rfl) (by kernel_rfl) (rawB HB0.out) (fun hS0 => ?_)
  generalize W00.drew = W0 at *
  have HB := HB0
  clear HB0
  refine wpAnyH_take (i := 0) (v := ?_) rfl (by kernel_rfl) (by kernel_rfl) (by kernel_rfl) (fun _ _ _ h => h) (Or.inl ⟨by rfl, ?_⟩) hS0 ?_
  rotate_left
  · intro w' hSw
    obtain ⟨⟨q0, q1, q2, q3, q4, q5, q6⟩, _⟩ := hSw
    go_simp
    try with_reducible rfl
  try simp only [Act.put]
  try simp only [List.setIfInBounds_toArray]
  try simp only [List.set_cons_zero, List.set_cons_succ]
  refine wpAnyH_take (i := 1) (v := ?_) rfl (by kernel_rfl) (by kernel_rfl) (by kernel_rfl) (fun _ _ _ h => h) (Or.inl ⟨by rfl, ?_⟩) hS0 ?_
  rotate_left
  · intro w' hSw
    obtain ⟨⟨q0, q1, q2, q3, q4, q5, q6⟩, _⟩ := hSw
    go_simp
    try with_reducible rfl
  try simp only [Act.put]
  try simp only [List.setIfInBounds_toArray]
  try simp only [List.set_cons_zero, List.set_cons_succ]
  refine wpAnyH_take (i := 2) (v := ?_) rfl (by kernel_rfl) (by kernel_rfl) (by kernel_rfl) (fun _ _ _ h => h) (Or.inl ⟨by rfl, ?_⟩) hS0 ?_
  rotate_left
  · intro w' hSw
    obtain _ := hSw
    go_simp
    try with_reducible rfl
  try simp only [Act.put]
  try simp only [List.setIfInBounds_toArray]
  try simp only [List.set_cons_zero, List.set_cons_succ]
  refine wpAnyH_take (i := 4) (v := ?_) rfl (by kernel_rfl) (by kernel_rfl) (by kernel_rfl) (fun _ _ _ h => h) (Or.inl ⟨by rfl, ?_⟩) hS0 ?_
  rotate_left
  · intro w' hSw
    obtain ⟨_, ⟨q0, q1, q2, q3, q4⟩, _⟩ := hSw
    go_simp
    try with_reducible rfl
  try simp only [Act.put]
  try simp only [List.setIfInBounds_toArray]
  try simp only [List.set_cons_zero, List.set_cons_succ]
  refine wpAnyH_take (i := 6) (v := ?_) rfl (by kernel_rfl) (by kernel_rfl) (by kernel_rfl) (fun _ _ _ h => h) (Or.inl ⟨by rfl, ?_⟩) hS0 ?_
  rotate_left
  · intro w' hSw
    obtain _ := hSw
    go_simp
    try with_reducible rfl
  try simp only [Act.put]
  try simp only [List.setIfInBounds_toArray]
  try simp only [List.set_cons_zero, List.set_cons_succ]
  refine wpAnyH_take (i := 8) (v := ?_) rfl (by kernel_rfl) (by kernel_rfl) (by kernel_rfl) (fun _ _ _ h => h) (Or.inl ⟨by rfl, ?_⟩) hS0 ?_
  rotate_left
  · intro w' hSw
    obtain _ := hSw
    go_simp
    try with_reducible rfl
  try simp only [Act.put]
  try simp only [List.setIfInBounds_toArray]
  try simp only [List.set_cons_zero, List.set_cons_succ]
  (refine wpAnyH_ready (rs := [3, 7, 9]) (by kernel_rfl) (by simp) ?_)
  refine AllReadyH.cons rfl (fun K hK => ?_) ?_
  · go_simp
    refine (start_new c t _ HCV.out).mono ?_
    rintro e W1 ⟨xa, xc, rfl, hx, hfx, hb⟩
    have HX := hid hx
    have HFX := hid (show ∀ ad, xa = some ad → w.heap.size + 1 + 1 < ad.block from fun ad e => by have := hfx ad e; have := HB.out.lt; omega)
    clear hx hfx
    have HB := hid (HB.out.keep hb)
    refine hK.out _ _ (rawB HB.out) (fun hS0 => ?_)
    clear hK hb
    (refine wpAnyH_ready (rs := [5, 7, 9]) (by kernel_rfl) (by simp) ?_)
    refine AllReadyH.cons rfl (fun K hK => ?_) ?_
    · go_simp
      refine (Lt.for_any s r Z d g _ HS.out).mono ?_
      rintro e W2 ⟨b, vD, vU, rfl, hF⟩
      obtain ⟨gD, gU, hKS, _, _, _⟩ := Lt.for_kept hF
      have hb := hKS.low
      obtain ⟨hKS2, hle⟩ := kept_rebase hKS HB.out.low
      obtain ⟨K, hKe, hKb, hKw, hKa⟩ : ∃ K : Kq, (K.s = s ∧ K.r = r ∧ K.Z = Z ∧ K.d = d ∧ K.g = g) ∧ K.b = b ∧ K.wF = w ∧ K.at W2 := ⟨⟨s, r, Z, d, g, w, b, gD, gU⟩, ⟨rfl, rfl, rfl, rfl, rfl⟩, rfl, rfl, hKS2⟩
      have HEQ := hid (And.intro hKe hKb)
      have HK := hid hKa
      have HWE := hid hKw
      have hlt := Kq.lt hKa
      rw [hKb] at hlt
      have HWF := hid (show w.heap.size ≤ b from Nat.le_trans HB.out.low.size hle)
      have HBL := hid (show w.heap.size + 1 + 1 < K.b from by rw [hKb]; exact Nat.lt_of_lt_of_le HB.out.lt hle)
      clear hF hKS hKS2 hKe hKb hKw hKa
      have HX := hid (rowK2_before (gD := K.gD) (gU := K.gU) HX.out (by rw [List.length_replicate]; exact HPB.out.1) hb hle hlt.2.2.2.1 hlt.2.2.2.2.1)
      clear hlt hle
      have HB := hid (HB.out.keep hb)
      refine hK.out _ _ (rawB HB.out) (fun hS0 => ?_)
      clear hK hb
      (refine wpAnyH_ready (rs := [7, 9]) (by kernel_rfl) (by simp) ?_)
      refine AllReadyH.cons rfl (fun K hK => ?_) ?_
      · go_simp
        have hb : Below W2.heap.size W2 (W2.alloc (.cells (madeCells #[.int .i64 0] c.P) 3)) := (Below.refl _ W2).alloc (Nat.le_refl _) _
        have hm := mk_row W2 c.P (by have := HPB.out.2; omega)
        have HF7 := hid (show w.heap.size + 1 + 1 < W2.heap.size from HB.out.lt)
        generalize hnW : W2.alloc (.cells (madeCells #[.int .i64 0] c.P) 3) = W3 at *
        clear hnW
        have HM7 := hid (rowK2_after hm (Kq.lt HK.out).2.1 (Kq.lt HK.out).2.2.1)
        clear hm
        generalize W2.heap.size = m7 at HM7 HF7 ⊢
        have HX := hid (HX.out.below hb)
        have HK := hid (Kq.below HK.out hb)
        have HB := hid (HB.out.keep hb)
        refine hK.out _ _ (rawB HB.out) (fun hS0 => ?_)
        clear hK hb
        (refine wpAnyH_ready (rs := [9]) (by kernel_rfl) (by simp) ?_)
        refine AllReadyH.cons rfl (fun K hK => ?_) AllReadyH.nil
        go_simp
        have hb : Below W3.heap.size W3 (W3.alloc (.cells (madeCells #[.int .i64 0] c.P) 3)) := (Below.refl _ W3).alloc (Nat.le_refl _) _
        have hm := mk_row W3 c.P (by have := HPB.out.2; omega)
        have HF9 := hid (show w.heap.size + 1 + 1 < W3.heap.size from HB.out.lt)
        generalize hnW : W3.alloc (.cells (madeCells #[.int .i64 0] c.P) 3) = W4 at *
        clear hnW
        have HM9 := hid (rowK2_after hm (Kq.lt HK.out).2.1 (Kq.lt HK.out).2.2.1)
        clear hm
        generalize W3.heap.size = m9 at HM9 HF9 ⊢
        have HX := hid (HX.out.below hb)
        have HM7 := hid (HM7.out.below hb)
        have HK := hid (Kq.below HK.out hb)
        have HB := hid (HB.out.keep hb)
        refine hK.out _ _ (rawB HB.out) (fun hS0 => ?_)
        clear hK hb
        refine wpAnyH_take (i := 10) (v := ?_) rfl (by kernel_rfl) (by kernel_rfl) (by kernel_rfl) (fun _ _ _ h => h) (Or.inl ⟨by rfl, ?_⟩) hS0 ?_
        rotate_left
        · intro w0 hSw
          go_simp
          try with_reducible rfl
        simp only [List.getElem_toArray, List.getElem_cons_succ, List.getElem_cons_zero, Act.put, List.setIfInBounds_toArray, List.set_cons_zero, List.set_cons_succ]
        refine wpAnyH_done (by kernel_rfl) ?_ _
        clear hS0
        refine sink_last rfl (fun K1 hK1 => ?_)
        refine wp_store_row 136 _ _ rfl (w.heap.size + 1 + 1) _ rfl rfl 136 _ HB.out.three infoRn rfl (by simp [Value.oneCell']) ?_
        generalize hW9 : World.setRow _ _ _ = W9
        have HE := hid (beg_end HB.out HK.out HWE.out HBL.out hW9)
        clear hW9
        refine hK1.out _ _ ?_
        clear hK1 K1
        simp only [List.getElem_toArray, List.getElem_cons_succ, List.getElem_cons_zero, Act.put]
        go_wp2_with fail
        refine bodyPost_ret (results_cell_row Tryz.results78 _ _ (w.heap.size + 1 + 1) 136 _ (0, 0) _ rfl HE.out.1 Tryz.underlying136 rfl infoRn) rfl ?_
        exact beg_post HEQ.out HWE.out HWF.out HE.out.2.1 HE.out.2.2.1 HE.out.2.2.2 HX.out HM7.out HM9.out HFX.out HF7.out HF9.out
      refine AllReadyH.cons rfl (fun K hK => ?_) AllReadyH.nil
      go_simp
      have hb : Below W2.heap.size W2 (W2.alloc (.cells (madeCells #[.int .i64 0] c.P) 3)) := (Below.refl _ W2).alloc (Nat.le_refl _) _
      have hm := mk_row W2 c.P (by have := HPB.out.2; omega)
      have HF9 := hid (show w.heap.size + 1 + 1 < W2.heap.size from HB.out.lt)
      generalize hnW : W2.alloc (.cells (madeCells #[.int .i64 0] c.P) 3) = W5 at *
      clear hnW
      have HM9 := hid (rowK2_after hm (Kq.lt HK.out).2.1 (Kq.lt HK.out).2.2.1)
      clear hm
      generalize W2.heap.size = m9 at HM9 HF9 ⊢
      have HX := hid (HX.out.below hb)
      have HK := hid (Kq.below HK.out hb)
      have HB := hid (HB.out.keep hb)
      refine hK.out _ _ (rawB HB.out) (fun hS0 => ?_)
      clear hK hb
      (refine wpAnyH_ready (rs := [7]) (by kernel_rfl) (by simp) ?_)
      refine AllReadyH.cons rfl (fun K hK => ?_) AllReadyH.nil
      go_simp
      have hb : Below W5.heap.size W5 (W5.alloc (.cells (madeCells #[.int .i64 0] c.P) 3)) := (Below.refl _ W5).alloc (Nat.le_refl _) _
      have hm := mk_row W5 c.P (by have := HPB.out.2; omega)
      have HF7 := hid (show w.heap.size + 1 + 1 < W5.heap.size from HB.out.lt)
      generalize hnW : W5.alloc (.cells (madeCells #[.int .i64 0] c.P) 3) = W6 at *
      clear hnW
      have HM7 := hid (rowK2_after hm (Kq.lt HK.out).2.1 (Kq.lt HK.out).2.2.1)
      clear hm
      generalize W5.heap.size = m7 at HM7 HF7 ⊢
      have HX := hid (HX.out.below hb)
      have HM9 := hid (HM9.out.below hb)
      have HK := hid (Kq.below HK.out hb)
      have HB := hid (HB.out.keep hb)
      refine hK.out _ _ (rawB HB.out) (fun hS0 => ?_)
      clear hK hb
      refine wpAnyH_take (i := 10) (v := ?_) rfl (by kernel_rfl) (by kernel_rfl) (by kernel_rfl) (fun _ _ _ h => h) (Or.inl ⟨by rfl, ?_⟩) hS0 ?_
      rotate_left
      · intro w0 hSw
        go_simp
        try with_reducible rfl
      simp only [List.getElem_toArray, List.getElem_cons_succ, List.getElem_cons_zero, Act.put, List.setIfInBounds_toArray, List.set_cons_zero, List.set_cons_succ]
      refine wpAnyH_done (by kernel_rfl) ?_ _
      clear hS0
      refine sink_last rfl (fun K1 hK1 => ?_)
      refine wp_store_row 136 _ _ rfl (w.heap.size + 1 + 1) _ rfl rfl 136 _ HB.out.three infoRn rfl (by simp [Value.oneCell']) ?_
      generalize hW9 : World.setRow _ _ _ = W9
      have HE := hid (beg_end HB.out HK.out HWE.out HBL.out hW9)
      clear hW9
      refine hK1.out _ _ ?_
      clear hK1 K1
      simp only [List.getElem_toArray, List.getElem_cons_succ, List.getElem_cons_zero, Act.put]
      go_wp2_with fail
      refine bodyPost_ret (results_cell_row Tryz.results78 _ _ (w.heap.size + 1 + 1) 136 _ (0, 0) _ rfl HE.out.1 Tryz.underlying136 rfl infoRn) rfl ?_
      exact beg_post HEQ.out HWE.out HWF.out HE.out.2.1 HE.out.2.2.1 HE.out.2.2.2 HX.out HM7.out HM9.out HFX.out HF7.out HF9.out
    refine AllReadyH.cons rfl (fun K hK => ?_) ?_
    · go_simp
      have hb : Below W1.heap.size W1 (W1.alloc (.cells (madeCells #[.int .i64 0] c.P) 3)) := (Below.refl _ W1).alloc (Nat.le_refl _) _
      have hm := mk_row W1 c.P (by have := HPB.out.2; omega)
      have HF7 := hid (show w.heap.size + 1 + 1 < W1.heap.size from HB.out.lt)
      generalize hnW : W1.alloc (.cells (madeCells #[.int .i64 0] c.P) 3) = W7 at *
      clear hnW
      have HM7 := hid (hm)
      clear hm
      generalize W1.heap.size = m7 at HM7 HF7 ⊢
      have HX := hid (HX.out.keep hb)
      have HB := hid (HB.out.keep hb)
      refine hK.out _ _ (rawB HB.out) (fun hS0 => ?_)
      clear hK hb
      (refine wpAnyH_ready (rs := [5, 9]) (by kernel_rfl) (by simp) ?_)
      refine AllReadyH.cons rfl (fun K hK => ?_) ?_
      · go_simp
        refine (Lt.for_any s r Z d g _ HS.out).mono ?_
        rintro e W8 ⟨b, vD, vU, rfl, hF⟩
        obtain ⟨gD, gU, hKS, _, _, _⟩ := Lt.for_kept hF
        have hb := hKS.low
        obtain ⟨hKS2, hle⟩ := kept_rebase hKS HB.out.low
        obtain ⟨K, hKe, hKb, hKw, hKa⟩ : ∃ K : Kq, (K.s = s ∧ K.r = r ∧ K.Z = Z ∧ K.d = d ∧ K.g = g) ∧ K.b = b ∧ K.wF = w ∧ K.at W8 := ⟨⟨s, r, Z, d, g, w, b, gD, gU⟩, ⟨rfl, rfl, rfl, rfl, rfl⟩, rfl, rfl, hKS2⟩
        have HEQ := hid (And.intro hKe hKb)
        have HK := hid hKa
        have HWE := hid hKw
        have hlt := Kq.lt hKa
        rw [hKb] at hlt
        have HWF := hid (show w.heap.size ≤ b from Nat.le_trans HB.out.low.size hle)
        have HBL := hid (show w.heap.size + 1 + 1 < K.b from by rw [hKb]; exact Nat.lt_of_lt_of_le HB.out.lt hle)
        clear hF hKS hKS2 hKe hKb hKw hKa
        have HX := hid (rowK2_before (gD := K.gD) (gU := K.gU) HX.out (by rw [List.length_replicate]; exact HPB.out.1) hb hle hlt.2.2.2.1 hlt.2.2.2.2.1)
        have HM7 := hid (rowK2_before (gD := K.gD) (gU := K.gU) HM7.out (by rw [ivN_len, List.length_replicate]; exact HPB.out.1) hb hle hlt.2.2.2.1 hlt.2.2.2.2.1)
        clear hlt hle
        have HB := hid (HB.out.keep hb)
        refine hK.out _ _ (rawB HB.out) (fun hS0 => ?_)
        clear hK hb
        (refine wpAnyH_ready (rs := [9]) (by kernel_rfl) (by simp) ?_)
        refine AllReadyH.cons rfl (fun K hK => ?_) AllReadyH.nil
        go_simp
        have hb : Below W8.heap.size W8 (W8.alloc (.cells (madeCells #[.int .i64 0] c.P) 3)) := (Below.refl _ W8).alloc (Nat.le_refl _) _
        have hm := mk_row W8 c.P (by have := HPB.out.2; omega)
        have HF9 := hid (show w.heap.size + 1 + 1 < W8.heap.size from HB.out.lt)
        generalize hnW : W8.alloc (.cells (madeCells #[.int .i64 0] c.P) 3) = W9 at *
        clear hnW
        have HM9 := hid (rowK2_after hm (Kq.lt HK.out).2.1 (Kq.lt HK.out).2.2.1)
        clear hm
        generalize W8.heap.size = m9 at HM9 HF9 ⊢
        have HX := hid (HX.out.below hb)
        have HM7 := hid (HM7.out.below hb)
        have HK := hid (Kq.below HK.out hb)
        have HB := hid (HB.out.keep hb)
        refine hK.out _ _ (rawB HB.out) (fun hS0 => ?_)
        clear hK hb
        refine wpAnyH_take (i := 10) (v := ?_) rfl (by kernel_rfl) (by kernel_rfl) (by kernel_rfl) (fun _ _ _ h => h) (Or.inl ⟨by rfl, ?_⟩) hS0 ?_
        rotate_left
        · intro w0 hSw
          go_simp
          try with_reducible rfl
        simp only [List.getElem_toArray, List.getElem_cons_succ, List.getElem_cons_zero, Act.put, List.setIfInBounds_toArray, List.set_cons_zero, List.set_cons_succ]
        refine wpAnyH_done (by kernel_rfl) ?_ _
        clear hS0
        refine sink_last rfl (fun K1 hK1 => ?_)
        refine wp_store_row 136 _ _ rfl (w.heap.size + 1 + 1) _ rfl rfl 136 _ HB.out.three infoRn rfl (by simp [Value.oneCell']) ?_
        generalize hW9 : World.setRow _ _ _ = W9
        have HE := hid (beg_end HB.out HK.out HWE.out HBL.out hW9)
        clear hW9
        refine hK1.out _ _ ?_
        clear hK1 K1
        simp only [List.getElem_toArray, List.getElem_cons_succ, List.getElem_cons_zero, Act.put]
        go_wp2_with fail
        refine bodyPost_ret (results_cell_row Tryz.results78 _ _ (w.heap.size + 1 + 1) 136 _ (0, 0) _ rfl HE.out.1 Tryz.underlying136 rfl infoRn) rfl ?_
        exact beg_post HEQ.out HWE.out HWF.out HE.out.2.1 HE.out.2.2.1 HE.out.2.2.2 HX.out HM7.out HM9.out HFX.out HF7.out HF9.out
      refine AllReadyH.cons rfl (fun K hK => ?_) AllReadyH.nil
      go_simp
      have hb : Below W7.heap.size W7 (W7.alloc (.cells (madeCells #[.int .i64 0] c.P) 3)) := (Below.refl _ W7).alloc (Nat.le_refl _) _
      have hm := mk_row W7 c.P (by have := HPB.out.2; omega)
      have HF9 := hid (show w.heap.size + 1 + 1 < W7.heap.size from HB.out.lt)
      generalize hnW : W7.alloc (.cells (madeCells #[.int .i64 0] c.P) 3) = W10 at *
      clear hnW
      have HM9 := hid (hm)
      clear hm
      generalize W7.heap.size = m9 at HM9 HF9 ⊢
      have HX := hid (HX.out.keep hb)
      have HM7 := hid (HM7.out.keep hb)
      have HB := hid (HB.out.keep hb)
      refine hK.out _ _ (rawB HB.out) (fun hS0 => ?_)
      clear hK hb
      (refine wpAnyH_ready (rs := [5]) (by kernel_rfl) (by simp) ?_)
      refine AllReadyH.cons rfl (fun K hK => ?_) AllReadyH.nil
      go_simp
      refine (Lt.for_any s r Z d g _ HS.out).mono ?_
      rintro e W11 ⟨b, vD, vU, rfl, hF⟩
      obtain ⟨gD, gU, hKS, _, _, _⟩ := Lt.for_kept hF
      have hb := hKS.low
      obtain ⟨hKS2, hle⟩ := kept_rebase hKS HB.out.low
      obtain ⟨K, hKe, hKb, hKw, hKa⟩ : ∃ K : Kq, (K.s = s ∧ K.r = r ∧ K.Z = Z ∧ K.d = d ∧ K.g = g) ∧ K.b = b ∧ K.wF = w ∧ K.at W11 := ⟨⟨s, r, Z, d, g, w, b, gD, gU⟩, ⟨rfl, rfl, rfl, rfl, rfl⟩, rfl, rfl, hKS2⟩
      have HEQ := hid (And.intro hKe hKb)
      have HK := hid hKa
      have HWE := hid hKw
      have hlt := Kq.lt hKa
      rw [hKb] at hlt
      have HWF := hid (show w.heap.size ≤ b from Nat.le_trans HB.out.low.size hle)
      have HBL := hid (show w.heap.size + 1 + 1 < K.b from by rw [hKb]; exact Nat.lt_of_lt_of_le HB.out.lt hle)
      clear hF hKS hKS2 hKe hKb hKw hKa
      have HX := hid (rowK2_before (gD := K.gD) (gU := K.gU) HX.out (by rw [List.length_replicate]; exact HPB.out.1) hb hle hlt.2.2.2.1 hlt.2.2.2.2.1)
      have HM7 := hid (rowK2_before (gD := K.gD) (gU := K.gU) HM7.out (by rw [ivN_len, List.length_replicate]; exact HPB.out.1) hb hle hlt.2.2.2.1 hlt.2.2.2.2.1)
      have HM9 := hid (rowK2_before (gD := K.gD) (gU := K.gU) HM9.out (by rw [ivN_len, List.length_replicate]; exact HPB.out.1) hb hle hlt.2.2.2.1 hlt.2.2.2.2.1)
      clear hlt hle
      have HB := hid (HB.out.keep hb)
      refine hK.out _ _ (rawB HB.out) (fun hS0 => ?_)
      clear hK hb
      refine wpAnyH_take (i := 10) (v := ?_) rfl (by kernel_rfl) (by kernel_rfl) (by kernel_rfl) (fun _ _ _ h => h) (Or.inl ⟨by rfl, ?_⟩) hS0 ?_
      rotate_left
      · intro w0 hSw
        go_simp
        try with_reducible rfl
      simp only [List.getElem_toArray, List.getElem_cons_succ, List.getElem_cons_zero, Act.put, List.setIfInBounds_toArray, List.set_cons_zero, List.set_cons_succ]
      refine wpAnyH_done (by kernel_rfl) ?_ _
      clear hS0
      refine sink_last rfl (fun K1 hK1 => ?_)
      refine wp_store_row 136 _ _ rfl (w.heap.size + 1 + 1) _ rfl rfl 136 _ HB.out.three infoRn rfl (by simp [Value.oneCell']) ?_
      generalize hW9 : World.setRow _ _ _ = W9
      have HE := hid (beg_end HB.out HK.out HWE.out HBL.out hW9)
      clear hW9
      refine hK1.out _ _ ?_
      clear hK1 K1
      simp only [List.getElem_toArray, List.getElem_cons_succ, List.getElem_cons_zero, Act.put]
      go_wp2_with fail
      refine bodyPost_ret (results_cell_row Tryz.results78 _ _ (w.heap.size + 1 + 1) 136 _ (0, 0) _ rfl HE.out.1 Tryz.underlying136 rfl infoRn) rfl ?_
      exact beg_post HEQ.out HWE.out HWF.out HE.out.2.1 HE.out.2.2.1 HE.out.2.2.2 HX.out HM7.out HM9.out HFX.out HF7.out HF9.out
    refine AllReadyH.cons rfl (fun K hK => ?_) AllReadyH.nil
    go_simp
    have hb : Below W1.heap.size W1 (W1.alloc (.cells (madeCells #[.int .i64 0] c.P) 3)) := (Below.refl _ W1).alloc (Nat.le_refl _) _
    have hm := mk_row W1 c.P (by have := HPB.out.2; omega)
    have HF9 := hid (show w.heap.size + 1 + 1 < W1.heap.size from HB.out.lt)
    generalize hnW : W1.alloc (.cells (madeCells #[.int .i64 0] c.P) 3) = W12 at *
    clear hnW
    have HM9 := hid (hm)
    clear hm
    generalize W1.heap.size = m9 at HM9 HF9 ⊢
    have HX := hid (HX.out.keep hb)
    have HB := hid (HB.out.keep hb)
    refine hK.out _ _ (rawB HB.out) (fun hS0 => ?_)
    clear hK hb
    (refine wpAnyH_ready (rs := [5, 7]) (by kernel_rfl) (by simp) ?_)
    refine AllReadyH.cons rfl (fun K hK => ?_) ?_
    · go_simp
      refine (Lt.for_any s r Z d g _ HS.out).mono ?_
      rintro e W13 ⟨b, vD, vU, rfl, hF⟩
      obtain ⟨gD, gU, hKS, _, _, _⟩ := Lt.for_kept hF
      have hb := hKS.low
      obtain ⟨hKS2, hle⟩ := kept_rebase hKS HB.out.low
      obtain ⟨K, hKe, hKb, hKw, hKa⟩ : ∃ K : Kq, (K.s = s ∧ K.r = r ∧ K.Z = Z ∧ K.d = d ∧ K.g = g) ∧ K.b = b ∧ K.wF = w ∧ K.at W13 := ⟨⟨s, r, Z, d, g, w, b, gD, gU⟩, ⟨rfl, rfl, rfl, rfl, rfl⟩, rfl, rfl, hKS2⟩
      have HEQ := hid (And.intro hKe hKb)
      have HK := hid hKa
      have HWE := hid hKw
      have hlt := Kq.lt hKa
      rw [hKb] at hlt
      have HWF := hid (show w.heap.size ≤ b from Nat.le_trans HB.out.low.size hle)
      have HBL := hid (show w.heap.size + 1 + 1 < K.b from by rw [hKb]; exact Nat.lt_of_lt_of_le HB.out.lt hle)
      clear hF hKS hKS2 hKe hKb hKw hKa
      have HX := hid (rowK2_before (gD := K.gD) (gU := K.gU) HX.out (by rw [List.length_replicate]; exact HPB.out.1) hb hle hlt.2.2.2.1 hlt.2.2.2.2.1)
      have HM9 := hid (rowK2_before (gD := K.gD) (gU := K.gU) HM9.out (by rw [ivN_len, List.length_replicate]; exact HPB.out.1) hb hle hlt.2.2.2.1 hlt.2.2.2.2.1)
      clear hlt hle
      have HB := hid (HB.out.keep hb)
      refine hK.out _ _ (rawB HB.out) (fun hS0 => ?_)
      clear hK hb
      (refine wpAnyH_ready (rs := [7]) (by kernel_rfl) (by simp) ?_)
      refine AllReadyH.cons rfl (fun K hK => ?_) AllReadyH.nil
      go_simp
      have hb : Below W13.heap.size W13 (W13.alloc (.cells (madeCells #[.int .i64 0] c.P) 3)) := (Below.refl _ W13).alloc (Nat.le_refl _) _
      have hm := mk_row W13 c.P (by have := HPB.out.2; omega)
      have HF7 := hid (show w.heap.size + 1 + 1 < W13.heap.size from HB.out.lt)
      generalize hnW : W13.alloc (.cells (madeCells #[.int .i64 0] c.P) 3) = W14 at *
      clear hnW
      have HM7 := hid (rowK2_after hm (Kq.lt HK.out).2.1 (Kq.lt HK.out).2.2.1)
      clear hm
      generalize W13.heap.size = m7 at HM7 HF7 ⊢
      have HX := hid (HX.out.below hb)
      have HM9 := hid (HM9.out.below hb)
      have HK := hid (Kq.below HK.out hb)
      have HB := hid (HB.out.keep hb)
      refine hK.out _ _ (rawB HB.out) (fun hS0 => ?_)
      clear hK hb
      refine wpAnyH_take (i := 10) (v := ?_) rfl (by kernel_rfl) (by kernel_rfl) (by kernel_rfl) (fun _ _ _ h => h) (Or.inl ⟨by rfl, ?_⟩) hS0 ?_
      rotate_left
      · intro w0 hSw
        go_simp
        try with_reducible rfl
      simp only [List.getElem_toArray, List.getElem_cons_succ, List.getElem_cons_zero, Act.put, List.setIfInBounds_toArray, List.set_cons_zero, List.set_cons_succ]
      refine wpAnyH_done (by kernel_rfl) ?_ _
      clear hS0
      refine sink_last rfl (fun K1 hK1 => ?_)
      refine wp_store_row 136 _ _ rfl (w.heap.size + 1 + 1) _ rfl rfl 136 _ HB.out.three infoRn rfl (by simp [Value.oneCell']) ?_
      generalize hW9 : World.setRow _ _ _ = W9
      have HE := hid (beg_end HB.out HK.out HWE.out HBL.out hW9)
      clear hW9
      refine hK1.out _ _ ?_
      clear hK1 K1
      simp only [List.getElem_toArray, List.getElem_cons_succ, List.getElem_cons_zero, Act.put]
      go_wp2_with fail
      refine bodyPost_ret (results_cell_row Tryz.results78 _ _ (w.heap.size + 1 + 1) 136 _ (0, 0) _ rfl HE.out.1 Tryz.underlying136 rfl infoRn) rfl ?_
      exact beg_post HEQ.out HWE.out HWF.out HE.out.2.1 HE.out.2.2.1 HE.out.2.2.2 HX.out HM7.out HM9.out HFX.out HF7.out HF9.out
    refine AllReadyH.cons rfl (fun K hK => ?_) AllReadyH.nil
    go_simp
    have hb : Below W12.heap.size W12 (W12.alloc (.cells (madeCells #[.int .i64 0] c.P) 3)) := (Below.refl _ W12).alloc (Nat.le_refl _) _
    have hm := mk_row W12 c.P (by have := HPB.out.2; omega)
    have HF7 := hid (show w.heap.size + 1 + 1 < W12.heap.size from HB.out.lt)
    generalize hnW : W12.alloc (.cells (madeCells #[.int .i64 0] c.P) 3) = W15 at *
    clear hnW
    have HM7 := hid (hm)
    clear hm
    generalize W12.heap.size = m7 at HM7 HF7 ⊢
    have HX := hid (HX.out.keep hb)
    have HM9 := hid (HM9.out.keep hb)
    have HB := hid (HB.out.keep hb)
    refine hK.out _ _ (rawB HB.out) (fun hS0 => ?_)
    clear hK hb
    (refine wpAnyH_ready (rs := [5]) (by kernel_rfl) (by simp) ?_)
    refine AllReadyH.cons rfl (fun K hK => ?_) AllReadyH.nil
    go_simp
    refine (Lt.for_any s r Z d g _ HS.out).mono ?_
    rintro e W16 ⟨b, vD, vU, rfl, hF⟩
    obtain ⟨gD, gU, hKS, _, _, _⟩ := Lt.for_kept hF
    have hb := hKS.low
    obtain ⟨hKS2, hle⟩ := kept_rebase hKS HB.out.low
    obtain ⟨K, hKe, hKb, hKw, hKa⟩ : ∃ K : Kq, (K.s = s ∧ K.r = r ∧ K.Z = Z ∧ K.d = d ∧ K.g = g) ∧ K.b = b ∧ K.wF = w ∧ K.at W16 := ⟨⟨s, r, Z, d, g, w, b, gD, gU⟩, ⟨rfl, rfl, rfl, rfl, rfl⟩, rfl, rfl, hKS2⟩
    have HEQ := hid (And.intro hKe hKb)
    have HK := hid hKa
    have HWE := hid hKw
    have hlt := Kq.lt hKa
    rw [hKb] at hlt
    have HWF := hid (show w.heap.size ≤ b from Nat.le_trans HB.out.low.size hle)
    have HBL := hid (show w.heap.size + 1 + 1 < K.b from by rw [hKb]; exact Nat.lt_of_lt_of_le HB.out.lt hle)
    clear hF hKS hKS2 hKe hKb hKw hKa
    have HX := hid (rowK2_before (gD := K.gD) (gU := K.gU) HX.out (by rw [List.length_replicate]; exact HPB.out.1) hb hle hlt.2.2.2.1 hlt.2.2.2.2.1)
    have HM7 := hid (rowK2_before (gD := K.gD) (gU := K.gU) HM7.out (by rw [ivN_len, List.length_replicate]; exact HPB.out.1) hb hle hlt.2.2.2.1 hlt.2.2.2.2.1)
    have HM9 := hid (rowK2_before (gD := K.gD) (gU := K.gU) HM9.out (by rw [ivN_len, List.length_replicate]; exact HPB.out.1) hb hle hlt.2.2.2.1 hlt.2.2.2.2.1)
    clear hlt hle
    have HB := hid (HB.out.keep hb)
    refine hK.out _ _ (rawB HB.out) (fun hS0 => ?_)
    clear hK hb
    refine wpAnyH_take (i := 10) (v := ?_) rfl (by kernel_rfl) (by kernel_rfl) (by kernel_rfl) (fun _ _ _ h => h) (Or.inl ⟨by rfl, ?_⟩) hS0 ?_
    rotate_left
    · intro w0 hSw
      go_simp
      try with_reducible rfl
    simp only [List.getElem_toArray, List.getElem_cons_succ, List.getElem_cons_zero, Act.put, List.setIfInBounds_toArray, List.set_cons_zero, List.set_cons_succ]
    refine wpAnyH_done (by kernel_rfl) ?_ _
    clear hS0
    refine sink_last rfl (fun K1 hK1 => ?_)
    refine wp_store_row 136 _ _ rfl (w.heap.size + 1 + 1) _ rfl rfl 136 _ HB.out.three infoRn rfl (by simp [Value.oneCell']) ?_
    generalize hW9 : World.setRow _ _ _ = W9
    have HE := hid (beg_end HB.out HK.out HWE.out HBL.out hW9)
    clear hW9
    refine hK1.out _ _ ?_
    clear hK1 K1
    simp only [List.getElem_toArray, List.getElem_cons_succ, List.getElem_cons_zero, Act.put]
    go_wp2_with fail
    refine bodyPost_ret (results_cell_row Tryz.results78 _ _ (w.heap.size + 1 + 1) 136 _ (0, 0) _ rfl HE.out.1 Tryz.underlying136 rfl infoRn) rfl ?_
    exact beg_post HEQ.out HWE.out HWF.out HE.out.2.1 HE.out.2.2.1 HE.out.2.2.2 HX.out HM7.out HM9.out HFX.out HF7.out HF9.out
  refine AllReadyH.cons rfl (fun K hK => ?_) ?_
  · go_simp
    have hb : Below W0.heap.size W0 (W0.alloc (.cells (madeCells #[.int .i64 0] c.P) 3)) := (Below.refl _ W0).alloc (Nat.le_refl _) _
    have hm := mk_row W0 c.P (by have := HPB.out.2; omega)
    have HF7 := hid (show w.heap.size + 1 + 1 < W0.heap.size from HB.out.lt)
    generalize hnW : W0.alloc (.cells (madeCells #[.int .i64 0] c.P) 3) = W17 at *
    clear hnW
    have HM7 := hid (hm)
    clear hm
    generalize W0.heap.size = m7 at HM7 HF7 ⊢
    have HB := hid (HB.out.keep hb)
    refine hK.out _ _ (rawB HB.out) (fun hS0 => ?_)
    clear hK hb
    (refine wpAnyH_ready (rs := [3, 9]) (by kernel_rfl) (by simp) ?_)
    refine AllReadyH.cons rfl (fun K hK => ?_) ?_
    · go_simp
      refine (start_new c t _ HCV.out).mono ?_
      rintro e W18 ⟨xa, xc, rfl, hx, hfx, hb⟩
      have HX := hid hx
      have HFX := hid (show ∀ ad, xa = some ad → w.heap.size + 1 + 1 < ad.block from fun ad e => by have := hfx ad e; have := HB.out.lt; omega)
      clear hx hfx
      have HM7 := hid (HM7.out.keep hb)
      have HB := hid (HB.out.keep hb)
      refine hK.out _ _ (rawB HB.out) (fun hS0 => ?_)
      clear hK hb
      (refine wpAnyH_ready (rs := [5, 9]) (by kernel_rfl) (by simp) ?_)
      refine AllReadyH.cons rfl (fun K hK => ?_) ?_
      · go_simp
        refine (Lt.for_any s r Z d g _ HS.out).mono ?_
        rintro e W19 ⟨b, vD, vU, rfl, hF⟩
        obtain ⟨gD, gU, hKS, _, _, _⟩ := Lt.for_kept hF
        have hb := hKS.low
        obtain ⟨hKS2, hle⟩ := kept_rebase hKS HB.out.low
        obtain ⟨K, hKe, hKb, hKw, hKa⟩ : ∃ K : Kq, (K.s = s ∧ K.r = r ∧ K.Z = Z ∧ K.d = d ∧ K.g = g) ∧ K.b = b ∧ K.wF = w ∧ K.at W19 := ⟨⟨s, r, Z, d, g, w, b, gD, gU⟩, ⟨rfl, rfl, rfl, rfl, rfl⟩, rfl, rfl, hKS2⟩
        have HEQ := hid (And.intro hKe hKb)
        have HK := hid hKa
        have HWE := hid hKw
        have hlt := Kq.lt hKa
        rw [hKb] at hlt
        have HWF := hid (show w.heap.size ≤ b from Nat.le_trans HB.out.low.size hle)
        have HBL := hid (show w.heap.size + 1 + 1 < K.b from by rw [hKb]; exact Nat.lt_of_lt_of_le HB.out.lt hle)
        clear hF hKS hKS2 hKe hKb hKw hKa
        have HX := hid (rowK2_before (gD := K.gD) (gU := K.gU) HX.out (by rw [List.length_replicate]; exact HPB.out.1) hb hle hlt.2.2.2.1 hlt.2.2.2.2.1)
        have HM7 := hid (rowK2_before (gD := K.gD) (gU := K.gU) HM7.out (by rw [ivN_len, List.length_replicate]; exact HPB.out.1) hb hle hlt.2.2.2.1 hlt.2.2.2.2.1)
        clear hlt hle
        have HB := hid (HB.out.keep hb)
        refine hK.out _ _ (rawB HB.out) (fun hS0 => ?_)
        clear hK hb
        (refine wpAnyH_ready (rs := [9]) (by kernel_rfl) (by simp) ?_)
        refine AllReadyH.cons rfl (fun K hK => ?_) AllReadyH.nil
        go_simp
        have hb : Below W19.heap.size W19 (W19.alloc (.cells (madeCells #[.int .i64 0] c.P) 3)) := (Below.refl _ W19).alloc (Nat.le_refl _) _
        have hm := mk_row W19 c.P (by have := HPB.out.2; omega)
        have HF9 := hid (show w.heap.size + 1 + 1 < W19.heap.size from HB.out.lt)
        generalize hnW : W19.alloc (.cells (madeCells #[.int .i64 0] c.P) 3) = W20 at *
        clear hnW
        have HM9 := hid (rowK2_after hm (Kq.lt HK.out).2.1 (Kq.lt HK.out).2.2.1)
        clear hm
        generalize W19.heap.size = m9 at HM9 HF9 ⊢
        have HX := hid (HX.out.below hb)
        have HM7 := hid (HM7.out.below hb)
        have HK := hid (Kq.below HK.out hb)
        have HB := hid (HB.out.keep hb)
        refine hK.out _ _ (rawB HB.out) (fun hS0 => ?_)
        clear hK hb
        refine wpAnyH_take (i := 10) (v := ?_) rfl (by kernel_rfl) (by kernel_rfl) (by kernel_rfl) (fun _ _ _ h => h) (Or.inl ⟨by rfl, ?_⟩) hS0 ?_
        rotate_left
        · intro w0 hSw
          go_simp
          try with_reducible rfl
        simp only [List.getElem_toArray, List.getElem_cons_succ, List.getElem_cons_zero, Act.put, List.setIfInBounds_toArray, List.set_cons_zero, List.set_cons_succ]
        refine wpAnyH_done (by kernel_rfl) ?_ _
        clear hS0
        refine sink_last rfl (fun K1 hK1 => ?_)
        refine wp_store_row 136 _ _ rfl (w.heap.size + 1 + 1) _ rfl rfl 136 _ HB.out.three infoRn rfl (by simp [Value.oneCell']) ?_
        generalize hW9 : World.setRow _ _ _ = W9
        have HE := hid (beg_end HB.out HK.out HWE.out HBL.out hW9)
        clear hW9
        refine hK1.out _ _ ?_
        clear hK1 K1
        simp only [List.getElem_toArray, List.getElem_cons_succ, List.getElem_cons_zero, Act.put]
        go_wp2_with fail
        refine bodyPost_ret (results_cell_row Tryz.results78 _ _ (w.heap.size + 1 + 1) 136 _ (0, 0) _ rfl HE.out.1 Tryz.underlying136 rfl infoRn) rfl ?_
        exact beg_post HEQ.out HWE.out HWF.out HE.out.2.1 HE.out.2.2.1 HE.out.2.2.2 HX.out HM7.out HM9.out HFX.out HF7.out HF9.out
      refine AllReadyH.cons rfl (fun K hK => ?_) AllReadyH.nil
      go_simp
      have hb : Below W18.heap.size W18 (W18.alloc (.cells (madeCells #[.int .i64 0] c.P) 3)) := (Below.refl _ W18).alloc (Nat.le_refl _) _
      have hm := mk_row W18 c.P (by have := HPB.out.2; omega)
      have HF9 := hid (show w.heap.size + 1 + 1 < W18.heap.size from HB.out.lt)
      generalize hnW : W18.alloc (.cells (madeCells #[.int .i64 0] c.P) 3) = W21 at *
      clear hnW
      have HM9 := hid (hm)
      clear hm
      generalize W18.heap.size = m9 at HM9 HF9 ⊢
      have HX := hid (HX.out.keep hb)
      have HM7 := hid (HM7.out.keep hb)
      have HB := hid (HB.out.keep hb)
      refine hK.out _ _ (rawB HB.out) (fun hS0 => ?_)
      clear hK hb
      (refine wpAnyH_ready (rs := [5]) (by kernel_rfl) (by simp) ?_)
      refine AllReadyH.cons rfl (fun K hK => ?_) AllReadyH.nil
      go_simp
      refine (Lt.for_any s r Z d g _ HS.out).mono ?_
      rintro e W22 ⟨b, vD, vU, rfl, hF⟩
      obtain ⟨gD, gU, hKS, _, _, _⟩ := Lt.for_kept hF
      have hb := hKS.low
      obtain ⟨hKS2, hle⟩ := kept_rebase hKS HB.out.low
      obtain ⟨K, hKe, hKb, hKw, hKa⟩ : ∃ K : Kq, (K.s = s ∧ K.r = r ∧ K.Z = Z ∧ K.d = d ∧ K.g = g) ∧ K.b = b ∧ K.wF = w ∧ K.at W22 := ⟨⟨s, r, Z, d, g, w, b, gD, gU⟩, ⟨rfl, rfl, rfl, rfl, rfl⟩, rfl, rfl, hKS2⟩
      have HEQ := hid (And.intro hKe hKb)
      have HK := hid hKa
      have HWE := hid hKw
      have hlt := Kq.lt hKa
      rw [hKb] at hlt
      have HWF := hid (show w.heap.size ≤ b from Nat.le_trans HB.out.low.size hle)
      have HBL := hid (show w.heap.size + 1 + 1 < K.b from by rw [hKb]; exact Nat.lt_of_lt_of_le HB.out.lt hle)
      clear hF hKS hKS2 hKe hKb hKw hKa
      have HX := hid (rowK2_before (gD := K.gD) (gU := K.gU) HX.out (by rw [List.length_replicate]; exact HPB.out.1) hb hle hlt.2.2.2.1 hlt.2.2.2.2.1)
      have HM7 := hid (rowK2_before (gD := K.gD) (gU := K.gU) HM7.out (by rw [ivN_len, List.length_replicate]; exact HPB.out.1) hb hle hlt.2.2.2.1 hlt.2.2.2.2.1)
      have HM9 := hid (rowK2_before (gD := K.gD) (gU := K.gU) HM9.out (by rw [ivN_len, List.length_replicate]; exact HPB.out.1) hb hle hlt.2.2.2.1 hlt.2.2.2.2.1)
      clear hlt hle
      have HB := hid (HB.out.keep hb)
      refine hK.out _ _ (rawB HB.out) (fun hS0 => ?_)
      clear hK hb
      refine wpAnyH_take (i := 10) (v := ?_) rfl (by kernel_rfl) (by kernel_rfl) (by kernel_rfl) (fun _ _ _ h => h) (Or.inl ⟨by rfl, ?_⟩) hS0 ?_
      rotate_left
      · intro w0 hSw
        go_simp
        try with_reducible rfl
      simp only [List.getElem_toArray, List.getElem_cons_succ, List.getElem_cons_zero, Act.put, List.setIfInBounds_toArray, List.set_cons_zero, List.set_cons_succ]
      refine wpAnyH_done (by kernel_rfl) ?_ _
      clear hS0
      refine sink_last rfl (fun K1 hK1 => ?_)
      refine wp_store_row 136 _ _ rfl (w.heap.size + 1 + 1) _ rfl rfl 136 _ HB.out.three infoRn rfl (by simp [Value.oneCell']) ?_
      generalize hW9 : World.setRow _ _ _ = W9
      have HE := hid (beg_end HB.out HK.out HWE.out HBL.out hW9)
      clear hW9
      refine hK1.out _ _ ?_
      clear hK1 K1
      simp only [List.getElem_toArray, List.getElem_cons_succ, List.getElem_cons_zero, Act.put]
      go_wp2_with fail
      refine bodyPost_ret (results_cell_row Tryz.results78 _ _ (w.heap.size + 1 + 1) 136 _ (0, 0) _ rfl HE.out.1 Tryz.underlying136 rfl infoRn) rfl ?_
      exact beg_post HEQ.out HWE.out HWF.out HE.out.2.1 HE.out.2.2.1 HE.out.2.2.2 HX.out HM7.out HM9.out HFX.out HF7.out HF9.out
    refine AllReadyH.cons rfl (fun K hK => ?_) AllReadyH.nil
    go_simp
    have hb : Below W17.heap.size W17 (W17.alloc (.cells (madeCells #[.int .i64 0] c.P) 3)) := (Below.refl _ W17).alloc (Nat.le_refl _) _
    have hm := mk_row W17 c.P (by have := HPB.out.2; omega)
    have HF9 := hid (show w.heap.size + 1 + 1 < W17.heap.size from HB.out.lt)
    generalize hnW : W17.alloc (.cells (madeCells #[.int .i64 0] c.P) 3) = W23 at *
    clear hnW
    have HM9 := hid (hm)
    clear hm
    generalize W17.heap.size = m9 at HM9 HF9 ⊢
    have HM7 := hid (HM7.out.keep hb)
    have HB := hid (HB.out.keep hb)
    refine hK.out _ _ (rawB HB.out) (fun hS0 => ?_)
    clear hK hb
    (refine wpAnyH_ready (rs := [3]) (by kernel_rfl) (by simp) ?_)
    refine AllReadyH.cons rfl (fun K hK => ?_) AllReadyH.nil
    go_simp
    refine (start_new c t _ HCV.out).mono ?_
    rintro e W24 ⟨xa, xc, rfl, hx, hfx, hb⟩
    have HX := hid hx
    have HFX := hid (show ∀ ad, xa = some ad → w.heap.size + 1 + 1 < ad.block from fun ad e => by have := hfx ad e; have := HB.out.lt; omega)
    clear hx hfx
    have HM7 := hid (HM7.out.keep hb)
    have HM9 := hid (HM9.out.keep hb)
    have HB := hid (HB.out.keep hb)
    refine hK.out _ _ (rawB HB.out) (fun hS0 => ?_)
    clear hK hb
    (refine wpAnyH_ready (rs := [5]) (by kernel_rfl) (by simp) ?_)
    refine AllReadyH.cons rfl (fun K hK => ?_) AllReadyH.nil
    go_simp
    refine (Lt.for_any s r Z d g _ HS.out).mono ?_
    rintro e W25 ⟨b, vD, vU, rfl, hF⟩
    obtain ⟨gD, gU, hKS, _, _, _⟩ := Lt.for_kept hF
    have hb := hKS.low
    obtain ⟨hKS2, hle⟩ := kept_rebase hKS HB.out.low
    obtain ⟨K, hKe, hKb, hKw, hKa⟩ : ∃ K : Kq, (K.s = s ∧ K.r = r ∧ K.Z = Z ∧ K.d = d ∧ K.g = g) ∧ K.b = b ∧ K.wF = w ∧ K.at W25 := ⟨⟨s, r, Z, d, g, w, b, gD, gU⟩, ⟨rfl, rfl, rfl, rfl, rfl⟩, rfl, rfl, hKS2⟩
    have HEQ := hid (And.intro hKe hKb)
    have HK := hid hKa
    have HWE := hid hKw
    have hlt := Kq.lt hKa
    rw [hKb] at hlt
    have HWF := hid (show w.heap.size ≤ b from Nat.le_trans HB.out.low.size hle)
    have HBL := hid (show w.heap.size + 1 + 1 < K.b from by rw [hKb]; exact Nat.lt_of_lt_of_le HB.out.lt hle)
    clear hF hKS hKS2 hKe hKb hKw hKa
    have HX := hid (rowK2_before (gD := K.gD) (gU := K.gU) HX.out (by rw [List.length_replicate]; exact HPB.out.1) hb hle hlt.2.2.2.1 hlt.2.2.2.2.1)
    have HM7 := hid (rowK2_before (gD := K.gD) (gU := K.gU) HM7.out (by rw [ivN_len, List.length_replicate]; exact HPB.out.1) hb hle hlt.2.2.2.1 hlt.2.2.2.2.1)
    have HM9 := hid (rowK2_before (gD := K.gD) (gU := K.gU) HM9.out (by rw [ivN_len, List.length_replicate]; exact HPB.out.1) hb hle hlt.2.2.2.1 hlt.2.2.2.2.1)
    clear hlt hle
    have HB := hid (HB.out.keep hb)
    refine hK.out _ _ (rawB HB.out) (fun hS0 => ?_)
    clear hK hb
    refine wpAnyH_take (i := 10) (v := ?_) rfl (by kernel_rfl) (by kernel_rfl) (by kernel_rfl) (fun _ _ _ h => h) (Or.inl ⟨by rfl, ?_⟩) hS0 ?_
    rotate_left
    · intro w0 hSw
      go_simp
      try with_reducible rfl
    simp only [List.getElem_toArray, List.getElem_cons_succ, List.getElem_cons_zero, Act.put, List.setIfInBounds_toArray, List.set_cons_zero, List.set_cons_succ]
    refine wpAnyH_done (by kernel_rfl) ?_ _
    clear hS0
    refine sink_last rfl (fun K1 hK1 => ?_)
    refine wp_store_row 136 _ _ rfl (w.heap.size + 1 + 1) _ rfl rfl 136 _ HB.out.three infoRn rfl (by simp [Value.oneCell']) ?_
    generalize hW9 : World.setRow _ _ _ = W9
    have HE := hid (beg_end HB.out HK.out HWE.out HBL.out hW9)
    clear hW9
    refine hK1.out _ _ ?_
    clear hK1 K1
    simp only [List.getElem_toArray, List.getElem_cons_succ, List.getElem_cons_zero, Act.put]
    go_wp2_with fail
    refine bodyPost_ret (results_cell_row Tryz.results78 _ _ (w.heap.size + 1 + 1) 136 _ (0, 0) _ rfl HE.out.1 Tryz.underlying136 rfl infoRn) rfl ?_
    exact beg_post HEQ.out HWE.out HWF.out HE.out.2.1 HE.out.2.2.1 HE.out.2.2.2 HX.out HM7.out HM9.out HFX.out HF7.out HF9.out
  refine AllReadyH.cons rfl (fun K hK => ?_) AllReadyH.nil
  go_simp
  have hb : Below W0.heap.size W0 (W0.alloc (.cells (madeCells #[.int .i64 0] c.P) 3)) := (Below.refl _ W0).alloc (Nat.le_refl _) _
  have hm := mk_row W0 c.P (by have := HPB.out.2; omega)
  have HF9 := hid (show w.heap.size + 1 + 1 < W0.heap.size from HB.out.lt)
  generalize hnW : W0.alloc (.cells (madeCells #[.int .i64 0] c.P) 3) = W26 at *
  clear hnW
  have HM9 := hid (hm)
  clear hm
  generalize W0.heap.size = m9 at HM9 HF9 ⊢
  have HB := hid (HB.out.keep hb)
  refine hK.out _ _ (rawB HB.out) (fun hS0 => ?_)
  clear hK hb
  (refine wpAnyH_ready (rs := [3, 7]) (by kernel_rfl) (by simp) ?_)
  refine AllReadyH.cons rfl (fun K hK => ?_) ?_
  · go_simp
    refine (start_new c t _ HCV.out).mono ?_
    rintro e W27 ⟨xa, xc, rfl, hx, hfx, hb⟩
    have HX := hid hx
    have HFX := hid (show ∀ ad, xa = some ad → w.heap.size + 1 + 1 < ad.block from fun ad e => by have := hfx ad e; have := HB.out.lt; omega)
    clear hx hfx
    have HM9 := hid (HM9.out.keep hb)
    have HB := hid (HB.out.keep hb)
    refine hK.out _ _ (rawB HB.out) (fun hS0 => ?_)
    clear hK hb
    (refine wpAnyH_ready (rs := [5, 7]) (by kernel_rfl) (by simp) ?_)
    refine AllReadyH.cons rfl (fun K hK => ?_) ?_
    · go_simp
      refine (Lt.for_any s r Z d g _ HS.out).mono ?_
      rintro e W28 ⟨b, vD, vU, rfl, hF⟩
      obtain ⟨gD, gU, hKS, _, _, _⟩ := Lt.for_kept hF
      have hb := hKS.low
      obtain ⟨hKS2, hle⟩ := kept_rebase hKS HB.out.low
      obtain ⟨K, hKe, hKb, hKw, hKa⟩ : ∃ K : Kq, (K.s = s ∧ K.r = r ∧ K.Z = Z ∧ K.d = d ∧ K.g = g) ∧ K.b = b ∧ K.wF = w ∧ K.at W28 := ⟨⟨s, r, Z, d, g, w, b, gD, gU⟩, ⟨rfl, rfl, rfl, rfl, rfl⟩, rfl, rfl, hKS2⟩
      have HEQ := hid (And.intro hKe hKb)
      have HK := hid hKa
      have HWE := hid hKw
      have hlt := Kq.lt hKa
      rw [hKb] at hlt
      have HWF := hid (show w.heap.size ≤ b from Nat.le_trans HB.out.low.size hle)
      have HBL := hid (show w.heap.size + 1 + 1 < K.b from by rw [hKb]; exact Nat.lt_of_lt_of_le HB.out.lt hle)
      clear hF hKS hKS2 hKe hKb hKw hKa
      have HX := hid (rowK2_before (gD := K.gD) (gU := K.gU) HX.out (by rw [List.length_replicate]; exact HPB.out.1) hb hle hlt.2.2.2.1 hlt.2.2.2.2.1)
      have HM9 := hid (rowK2_before (gD := K.gD) (gU := K.gU) HM9.out (by rw [ivN_len, List.length_replicate]; exact HPB.out.1) hb hle hlt.2.2.2.1 hlt.2.2.2.2.1)
      clear hlt hle
      have HB := hid (HB.out.keep hb)
      refine hK.out _ _ (rawB HB.out) (fun hS0 => ?_)
      clear hK hb
      (refine wpAnyH_ready (rs := [7]) (by kernel_rfl) (by simp) ?_)
      refine AllReadyH.cons rfl (fun K hK => ?_) AllReadyH.nil
      go_simp
      have hb : Below W28.heap.size W28 (W28.alloc (.cells (madeCells #[.int .i64 0] c.P) 3)) := (Below.refl _ W28).alloc (Nat.le_refl _) _
      have hm := mk_row W28 c.P (by have := HPB.out.2; omega)
      have HF7 := hid (show w.heap.size + 1 + 1 < W28.heap.size from HB.out.lt)
      generalize hnW : W28.alloc (.cells (madeCells #[.int .i64 0] c.P) 3) = W29 at *
      clear hnW
      have HM7 := hid (rowK2_after hm (Kq.lt HK.out).2.1 (Kq.lt HK.out).2.2.1)
      clear hm
      generalize W28.heap.size = m7 at HM7 HF7 ⊢
      have HX := hid (HX.out.below hb)
      have HM9 := hid (HM9.out.below hb)
      have HK := hid (Kq.below HK.out hb)
      have HB := hid (HB.out.keep hb)
      refine hK.out _ _ (rawB HB.out) (fun hS0 => ?_)
      clear hK hb
      refine wpAnyH_take (i := 10) (v := ?_) rfl (by kernel_rfl) (by kernel_rfl) (by kernel_rfl) (fun _ _ _ h => h) (Or.inl ⟨by rfl, ?_⟩) hS0 ?_
      rotate_left
      · intro w0 hSw
        go_simp
        try with_reducible rfl
      simp only [List.getElem_toArray, List.getElem_cons_succ, List.getElem_cons_zero, Act.put, List.setIfInBounds_toArray, List.set_cons_zero, List.set_cons_succ]
      refine wpAnyH_done (by kernel_rfl) ?_ _
      clear hS0
      refine sink_last rfl (fun K1 hK1 => ?_)
      refine wp_store_row 136 _ _ rfl (w.heap.size + 1 + 1) _ rfl rfl 136 _ HB.out.three infoRn rfl (by simp [Value.oneCell']) ?_
      generalize hW9 : World.setRow _ _ _ = W9
      have HE := hid (beg_end HB.out HK.out HWE.out HBL.out hW9)
      clear hW9
      refine hK1.out _ _ ?_
      clear hK1 K1
      simp only [List.getElem_toArray, List.getElem_cons_succ, List.getElem_cons_zero, Act.put]
      go_wp2_with fail
      refine bodyPost_ret (results_cell_row Tryz.results78 _ _ (w.heap.size + 1 + 1) 136 _ (0, 0) _ rfl HE.out.1 Tryz.underlying136 rfl infoRn) rfl ?_
      exact beg_post HEQ.out HWE.out HWF.out HE.out.2.1 HE.out.2.2.1 HE.out.2.2.2 HX.out HM7.out HM9.out HFX.out HF7.out HF9.out
    refine AllReadyH.cons rfl (fun K hK => ?_) AllReadyH.nil
    go_simp
    have hb : Below W27.heap.size W27 (W27.alloc (.cells (madeCells #[.int .i64 0] c.P) 3)) := (Below.refl _ W27).alloc (Nat.le_refl _) _
    have hm := mk_row W27 c.P (by have := HPB.out.2; omega)
    have HF7 := hid (show w.heap.size + 1 + 1 < W27.heap.size from HB.out.lt)
    generalize hnW : W27.alloc (.cells (madeCells #[.int .i64 0] c.P) 3) = W30 at *
    clear hnW
    have HM7 := hid (hm)
    clear hm
    generalize W27.heap.size = m7 at HM7 HF7 ⊢
    have HX := hid (HX.out.keep hb)
    have HM9 := hid (HM9.out.keep hb)
    have HB := hid (HB.out.keep hb)
    refine hK.out _ _ (rawB HB.out) (fun hS0 => ?_)
    clear hK hb
    (refine wpAnyH_ready (rs := [5]) (by kernel_rfl) (by simp) ?_)
    refine AllReadyH.cons rfl (fun K hK => ?_) AllReadyH.nil
    go_simp
    refine (Lt.for_any s r Z d g _ HS.out).mono ?_
    rintro e W31 ⟨b, vD, vU, rfl, hF⟩
    obtain ⟨gD, gU, hKS, _, _, _⟩ := Lt.for_kept hF
    have hb := hKS.low
    obtain ⟨hKS2, hle⟩ := kept_rebase hKS HB.out.low
    obtain ⟨K, hKe, hKb, hKw, hKa⟩ : ∃ K : Kq, (K.s = s ∧ K.r = r ∧ K.Z = Z ∧ K.d = d ∧ K.g = g) ∧ K.b = b ∧ K.wF = w ∧ K.at W31 := ⟨⟨s, r, Z, d, g, w, b, gD, gU⟩, ⟨rfl, rfl, rfl, rfl, rfl⟩, rfl, rfl, hKS2⟩
    have HEQ := hid (And.intro hKe hKb)
    have HK := hid hKa
    have HWE := hid hKw
    have hlt := Kq.lt hKa
    rw [hKb] at hlt
    have HWF := hid (show w.heap.size ≤ b from Nat.le_trans HB.out.low.size hle)
    have HBL := hid (show w.heap.size + 1 + 1 < K.b from by rw [hKb]; exact Nat.lt_of_lt_of_le HB.out.lt hle)
    clear hF hKS hKS2 hKe hKb hKw hKa
    have HX := hid (rowK2_before (gD := K.gD) (gU := K.gU) HX.out (by rw [List.length_replicate]; exact HPB.out.1) hb hle hlt.2.2.2.1 hlt.2.2.2.2.1)
    have HM7 := hid (rowK2_before (gD := K.gD) (gU := K.gU) HM7.out (by rw [ivN_len, List.length_replicate]; exact HPB.out.1) hb hle hlt.2.2.2.1 hlt.2.2.2.2.1)
    have HM9 := hid (rowK2_before (gD := K.gD) (gU := K.gU) HM9.out (by rw [ivN_len, List.length_replicate]; exact HPB.out.1) hb hle hlt.2.2.2.1 hlt.2.2.2.2.1)
    clear hlt hle
    have HB := hid (HB.out.keep hb)
    refine hK.out _ _ (rawB HB.out) (fun hS0 => ?_)
    clear hK hb
    refine wpAnyH_take (i := 10) (v := ?_) rfl (by kernel_rfl) (by kernel_rfl) (by kernel_rfl) (fun _ _ _ h => h) (Or.inl ⟨by rfl, ?_⟩) hS0 ?_
    rotate_left
    · intro w0 hSw
      go_simp
      try with_reducible rfl
    simp only [List.getElem_toArray, List.getElem_cons_succ, List.getElem_cons_zero, Act.put, List.setIfInBounds_toArray, List.set_cons_zero, List.set_cons_succ]
    refine wpAnyH_done (by kernel_rfl) ?_ _
    clear hS0
    refine sink_last rfl (fun K1 hK1 => ?_)
    refine wp_store_row 136 _ _ rfl (w.heap.size + 1 + 1) _ rfl rfl 136 _ HB.out.three infoRn rfl (by simp [Value.oneCell']) ?_
    generalize hW9 : World.setRow _ _ _ = W9
    have HE := hid (beg_end HB.out HK.out HWE.out HBL.out hW9)
    clear hW9
    refine hK1.out _ _ ?_
    clear hK1 K1
    simp only [List.getElem_toArray, List.getElem_cons_succ, List.getElem_cons_zero, Act.put]
    go_wp2_with fail
    refine bodyPost_ret (results_cell_row Tryz.results78 _ _ (w.heap.size + 1 + 1) 136 _ (0, 0) _ rfl HE.out.1 Tryz.underlying136 rfl infoRn) rfl ?_
    exact beg_post HEQ.out HWE.out HWF.out HE.out.2.1 HE.out.2.2.1 HE.out.2.2.2 HX.out HM7.out HM9.out HFX.out HF7.out HF9.out
  refine AllReadyH.cons rfl (fun K hK => ?_) AllReadyH.nil
  go_simp
  have hb : Below W26.heap.size W26 (W26.alloc (.cells (madeCells #[.int .i64 0] c.P) 3)) := (Below.refl _ W26).alloc (Nat.le_refl _) _
  have hm := mk_row W26 c.P (by have := HPB.out.2; omega)
  have HF7 := hid (show w.heap.size + 1 + 1 < W26.heap.size from HB.out.lt)
  generalize hnW : W26.alloc (.cells (madeCells #[.int .i64 0] c.P) 3) = W32 at *
  clear hnW
  have HM7 := hid (hm)
  clear hm
  generalize W26.heap.size = m7 at HM7 HF7 ⊢
  have HM9 := hid (HM9.out.keep hb)
  have HB := hid (HB.out.keep hb)
  refine hK.out _ _ (rawB HB.out) (fun hS0 => ?_)
  clear hK hb
  (refine wpAnyH_ready (rs := [3]) (by kernel_rfl) (by simp) ?_)
  refine AllReadyH.cons rfl (fun K hK => ?_) AllReadyH.nil
  go_simp
  refine (start_new c t _ HCV.out).mono ?_
  rintro e W33 ⟨xa, xc, rfl, hx, hfx, hb⟩
  have HX := hid hx
  have HFX := hid (show ∀ ad, xa = some ad → w.heap.size + 1 + 1 < ad.block from fun ad e => by have := hfx ad e; have := HB.out.lt; omega)
  clear hx hfx
  have HM7 := hid (HM7.out.keep hb)
  have HM9 := hid (HM9.out.keep hb)
  have HB := hid (HB.out.keep hb)
  refine hK.out _ _ (rawB HB.out) (fun hS0 => ?_)
  clear hK hb
  (refine wpAnyH_ready (rs := [5]) (by kernel_rfl) (by simp) ?_)
  refine AllReadyH.cons rfl (fun K hK => ?_) AllReadyH.nil
  go_simp
  refine (Lt.for_any s r Z d g _ HS.out).mono ?_
  rintro e W34 ⟨b, vD, vU, rfl, hF⟩
  obtain ⟨gD, gU, hKS, _, _, _⟩ := Lt.for_kept hF
  have hb := hKS.low
  obtain ⟨hKS2, hle⟩ := kept_rebase hKS HB.out.low
  obtain ⟨K, hKe, hKb, hKw, hKa⟩ : ∃ K : Kq, (K.s = s ∧ K.r = r ∧ K.Z = Z ∧ K.d = d ∧ K.g = g) ∧ K.b = b ∧ K.wF = w ∧ K.at W34 := ⟨⟨s, r, Z, d, g, w, b, gD, gU⟩, ⟨rfl, rfl, rfl, rfl, rfl⟩, rfl, rfl, hKS2⟩
  have HEQ := hid (And.intro hKe hKb)
  have HK := hid hKa
  have HWE := hid hKw
  have hlt := Kq.lt hKa
  rw [hKb] at hlt
  have HWF := hid (show w.heap.size ≤ b from Nat.le_trans HB.out.low.size hle)
  have HBL := hid (show w.heap.size + 1 + 1 < K.b from by rw [hKb]; exact Nat.lt_of_lt_of_le HB.out.lt hle)
  clear hF hKS hKS2 hKe hKb hKw hKa
  have HX := hid (rowK2_before (gD := K.gD) (gU := K.gU) HX.out (by rw [List.length_replicate]; exact HPB.out.1) hb hle hlt.2.2.2.1 hlt.2.2.2.2.1)
  have HM7 := hid (rowK2_before (gD := K.gD) (gU := K.gU) HM7.out (by rw [ivN_len, List.length_replicate]; exact HPB.out.1) hb hle hlt.2.2.2.1 hlt.2.2.2.2.1)
  have HM9 := hid (rowK2_before (gD := K.gD) (gU := K.gU) HM9.out (by rw [ivN_len, List.length_replicate]; exact HPB.out.1) hb hle hlt.2.2.2.1 hlt.2.2.2.2.1)
  clear hlt hle
  have HB := hid (HB.out.keep hb)
  refine hK.out _ _ (rawB HB.out) (fun hS0 => ?_)
  clear hK hb
  refine wpAnyH_take (i := 10) (v := ?_) rfl (by kernel_rfl) (by kernel_rfl) (by kernel_rfl) (fun _ _ _ h => h) (Or.inl ⟨by rfl, ?_⟩) hS0 ?_
  rotate_left
  · intro w0 hSw
    go_simp
    try with_reducible rfl
  simp only [List.getElem_toArray, List.getElem_cons_succ, List.getElem_cons_zero, Act.put, List.setIfInBounds_toArray, List.set_cons_zero, List.set_cons_succ]
  refine wpAnyH_done (by kernel_rfl) ?_ _
  clear hS0
  refine sink_last rfl (fun K1 hK1 => ?_)
  refine wp_store_row 136 _ _ rfl (w.heap.size + 1 + 1) _ rfl rfl 136 _ HB.out.three infoRn rfl (by simp [Value.oneCell']) ?_
  generalize hW9 : World.setRow _ _ _ = W9
  have HE := hid (beg_end HB.out HK.out HWE.out HBL.out hW9)
  clear hW9
  refine hK1.out _ _ ?_
  clear hK1 K1
  simp only [List.getElem_toArray, List.getElem_cons_succ, List.getElem_cons_zero, Act.put]
  go_wp2_with fail
  refine bodyPost_ret (results_cell_row Tryz.results78 _ _ (w.heap.size + 1 + 1) 136 _ (0, 0) _ rfl HE.out.1 Tryz.underlying136 rfl infoRn) rfl ?_
  exact beg_post HEQ.out HWE.out HWF.out HE.out.2.1 HE.out.2.2.1 HE.out.2.2.2 HX.out HM7.out HM9.out HFX.out HF7.out HF9.out
end Go.Proofs.YtihbjimnjhfpeaaGreat
