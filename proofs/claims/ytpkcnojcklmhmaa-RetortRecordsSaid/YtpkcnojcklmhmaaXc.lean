/- Walk of the iterator of ticks: contract. -/
import Derived.Test.YtpkcnojcklmhmaaXa
import Derived.Test.YtpkcnojcklmhmaaXb
import Derived.Test.YtpkcnojcklmhmaaXw
import Derived.Test.YtpkcnojcklmhmaaVta
namespace Go.Proofs.Ytpkcnojcklmhmaa
open Go.RowKit Go.Shelf
attribute [local go_sem] Oper.semAt_some

theorem infoLd (x : Ld) : (Try.prog.info? 57).map (·.size) = some (ldA x).size := by show _ = some 5; kernel_rfl
theorem infoRd1 (x : Rd) : (Try.prog.info? 74).map (·.size) = some (rdA x).size := by show _ = some 4; kernel_rfl
theorem infoVs (J : Jb) (u z : Value) : (Try.prog.info? 117).map (·.size) = some (J.vA u z).size := by show _ = some 8; kernel_rfl
theorem infoWs (J : Jb) : (Try.prog.info? 53).map (·.size) = some (J.wA).size := by show _ = some 6; kernel_rfl
theorem ldA_one (x : Ld) : (ldA x).all (·.oneCell') = true := by
  rw [Array.all_eq_true_iff_forall_mem]
  intro v hv
  simp only [ldA, List.mem_toArray, List.mem_cons, List.not_mem_nil, or_false] at hv
  rcases hv with rfl | rfl | rfl | rfl | rfl <;> rfl
theorem rdA_one (x : Rd) : (rdA x).all (·.oneCell') = true := by
  rw [Array.all_eq_true_iff_forall_mem]
  intro v hv
  simp only [rdA, List.mem_toArray, List.mem_cons, List.not_mem_nil, or_false] at hv
  rcases hv with rfl | rfl | rfl | rfl <;> rfl
theorem ldA_size (x : Ld) : (ldA x).size = 5 := rfl
theorem rdA_size (x : Rd) : (rdA x).size = 4 := rfl
/-- What stays of rows in old memory. -/
theorem RowT.low {w W : World} {v : Value} {n : Nat} {q : Nat → Tri} (h : RowT w v n q) (hl : ∀ j, j < w.heap.size → W.heap[j]? = w.heap[j]?) : RowT W v n q := by
  have hk : ∀ (a : Addr) (x : Value), w.cell? a = some x → W.cell? a = some x := fun a x h => (World.cell?_of_block (a := a) (hl _ (World.block_lt_of_cell? _ a h))).trans h
  obtain ⟨a, b, o, cap, hv, h1, h2, h3, h4⟩ := h
  exact ⟨a, b, o, cap, hv, h1, h2, h3, fun k g => ⟨hk _ _ (h4 k g).1, hk _ _ (h4 k g).2.1, hk _ _ (h4 k g).2.2⟩⟩
/-- A tick, told of a job. -/
theorem tick_job (J : Jb) (x : Ld) (u z : Value) (w : World) (hp : RowP w u J.m J.P) (hq : RowT w z J.n J.q) (hJ : J.Ok) (hx : J.LOk x) (hl : J.live x = true) :
    Calls Try.prog 95 #[.agg (J.vA u z), .agg (ldA x)] w (TkP J x w) := by
  obtain ⟨l1, l2⟩ := Jb.live_iff.1 hl
  obtain ⟨e1, e2⟩ := Jb.at_lt hx l1
  obtain ⟨a1, a2⟩ := Jb.aim_bd hJ hx l1
  obtain ⟨k1, k2⟩ := (Jb.stepB_bd (hJ.prog _ e1)).1
  have ht := hx.temp; have hg := hx.gone; have ha := hx.air; have hk := hx.tick
  obtain ⟨t, s, g, c, a⟩ := x
  dsimp only at *
  have h := tick_all J.s J.h J.c J.v J.p J.ch u J.m J.P z J.n J.q t s.toNat g c a w hp hq e1 hJ.h.1 hJ.h.2 hJ.c.1 hJ.c.2 ht.1 ht.2 a1 a2 k1 k2 hJ.v.1 hJ.v.2 hJ.p.1 hJ.p.2 hJ.ch.1 hJ.ch.2 ha.1 ha.2 hg.1 (by omega) hk.1 hk.2
  have h2 := h.mono (fun e w' h => tkP_of e2 h)
  rw [e2] at h2
  exact h2

/-- What the iterator hands to a round: a load and a reading. -/
def encT (y : Ld × Rd) : Array Value := #[.agg (ldA y.1), .agg (rdA y.2)]
def seqT (J : Jb) (x : Ld) (M : Nat) : List (Ld × Rd) := (List.range M).map fun k => (J.lds x (k + 1), J.rds x k)
theorem seqT_get (J : Jb) (x : Ld) (M k : Nat) (h : k < M) : (seqT J x M)[k]? = some (J.lds x (k + 1), J.rds x k) := by
  unfold seqT; rw [List.getElem?_map, List.getElem?_range h]; rfl
theorem seqT_len (J : Jb) (x : Ld) (M : Nat) : (seqT J x M).length = M := by simp [seqT]
theorem seqT_at {J : Jb} {x : Ld} {M k : Nat} {y : Ld × Rd} (h : (seqT J x M)[k]? = some y) : k < M ∧ y = (J.lds x (k + 1), J.rds x k) := by
  have hk : k < M := by have := (List.getElem?_eq_some_iff.1 h).1; rwa [seqT_len] at this
  rw [seqT_get J x M k hk] at h
  cases h
  exact ⟨hk, rfl⟩

/-- Every block of the n0 first stays, but two; and every block of type T stays, but one. -/
structure KpG (T n0 x0 y0 : Nat) (W W' : World) : Prop where
  size : W.heap.size ≤ W'.heap.size
  low : ∀ j, j < n0 → j ≠ x0 → j ≠ y0 → W'.heap[j]? = W.heap[j]?
  own : ∀ j cs, W.heap[j]? = some (.cells cs T (0, 0)) → j ≠ x0 → W'.heap[j]? = some (.cells cs T (0, 0))
theorem KpG.trans {T n0 x0 y0 : Nat} {A B C : World} (h : KpG T n0 x0 y0 A B) (k : KpG T n0 x0 y0 B C) : KpG T n0 x0 y0 A C :=
  ⟨Nat.le_trans h.size k.size, fun j h1 h2 h3 => (k.low j h1 h2 h3).trans (h.low j h1 h2 h3), fun j cs h1 h2 => k.own j cs (h.own j cs h1 h2) h2⟩
theorem KpG.refl (T n0 x0 y0 : Nat) (A : World) : KpG T n0 x0 y0 A A := ⟨Nat.le_refl _, fun _ _ _ _ => rfl, fun _ _ h _ => h⟩
theorem KpG.put {T n0 x0 y0 l : Nat} {W : World} {o o' : Obj} (hl : n0 ≤ l) (h : W.heap[l]? = some o) (hc : o.isCells = false) : KpG T n0 x0 y0 W (W.putObj l o') :=
  ⟨by simp, fun j h1 _ _ => World.putObj_heap_other (by omega), fun j cs h1 _ => (World.putObj_heap_other (by rintro rfl; rw [h] at h1; cases h1; cases hc)).trans h1⟩
theorem kpG_below {T n0 x0 y0 : Nat} {W W' : World} (hn : n0 ≤ W.heap.size) (h : Below W.heap.size W W') : KpG T n0 x0 y0 W W' :=
  ⟨h.size, fun j hj _ _ => h.block j (by omega), fun j cs hj _ => (h.block j (Array.getElem?_eq_some_iff.1 hj).1).trans hj⟩

/-- What the iterator stands on: its two boxes, and old memory. -/
structure ItT (J : Jb) (x : Ld) (u z : Value) (w0 : World) (tb vb n0 : Nat) (w : World) : Prop where
  tp : w.heap[tb]? = some (.cells (ldA x) 57 (0, 0))
  vp : w.heap[vb]? = some (.cells (J.vA u z) 117 (0, 0))
  low : ∀ j, j < w0.heap.size → w.heap[j]? = w0.heap[j]?
  lt : tb < n0 ∧ vb < n0 ∧ w0.heap.size ≤ n0
  le : n0 ≤ w.heap.size
section
variable {J : Jb} {x : Ld} {u z : Value} {w0 w w' : World} {tb vb n0 x0 y0 : Nat}
theorem ItT.keep (h : ItT J x u z w0 tb vb n0 w) (hs : w.heap.size ≤ w'.heap.size) (hb : ∀ j, j < n0 → j ≠ x0 → j ≠ y0 → w'.heap[j]? = w.heap[j]?) (hx : (tb ≠ x0 ∧ tb ≠ y0) ∧ (vb ≠ x0 ∧ vb ≠ y0) ∧ w0.heap.size ≤ x0 ∧ w0.heap.size ≤ y0) : ItT J x u z w0 tb vb n0 w' := by
  obtain ⟨x1, x2, x3, x4⟩ := hx
  obtain ⟨l1, l2, l3⟩ := h.lt
  exact ⟨(hb _ l1 x1.1 x1.2).trans h.tp, (hb _ l2 x2.1 x2.2).trans h.vp, fun j hj => (hb j (by omega) (by omega) (by omega)).trans (h.low j hj), h.lt, Nat.le_trans h.le hs⟩
theorem ItT.past (h : ItT J x u z w0 tb vb n0 w) (hs : w.heap.size ≤ w'.heap.size) (hb : ∀ j, j < n0 → w'.heap[j]? = w.heap[j]?) : ItT J x u z w0 tb vb n0 w' := by
  obtain ⟨l1, l2, l3⟩ := h.lt
  exact ⟨(hb _ l1).trans h.tp, (hb _ l2).trans h.vp, fun j hj => (hb j (by omega)).trans (h.low j hj), h.lt, Nat.le_trans h.le hs⟩
end
/-- A block that is laid and filled. -/
theorem new_row {W W2 : World} {Z cs : Array Value} {T : TypeId} (hW : (W.alloc (.cells Z T)).setRow W.heap.size cs = W2) : W2.heap[W.heap.size]? = some (.cells cs T (0, 0)) ∧ Below W.heap.size W W2 ∧ W2.heap.size = W.heap.size + 1 := by
  subst hW
  exact ⟨setRow_heap _ _ _ _ _ _ (heap_alloc_new W _), ((Below.refl _ W).alloc (Nat.le_refl _) _).trans ⟨rfl, rfl, rfl, by simp, fun k hk => setRow_other _ _ _ _ (by omega)⟩, by simp⟩
/-- Two blocks that are laid and filled. -/
theorem new_rows {W W2 : World} {Z Z' cs cs' : Array Value} {T T' : TypeId} (hW : (((W.alloc (.cells Z T)).alloc (.cells Z' T')).setRow W.heap.size cs).setRow (W.heap.size + 1) cs' = W2) :
    W2.heap[W.heap.size]? = some (.cells cs T (0, 0)) ∧ W2.heap[W.heap.size + 1]? = some (.cells cs' T' (0, 0)) ∧ Below W.heap.size W W2 ∧ W2.heap.size = W.heap.size + 2 := by
  subst hW
  have h0 : ((W.alloc (.cells Z T)).alloc (.cells Z' T')).heap[W.heap.size]? = some (.cells Z T (0, 0)) := (Below.heap_alloc _ _ _ (by simp)).trans (heap_alloc_new W _)
  have h1 : ((W.alloc (.cells Z T)).alloc (.cells Z' T')).heap[W.heap.size + 1]? = some (.cells Z' T' (0, 0)) := by
    have := heap_alloc_new (W.alloc (.cells Z T)) (.cells Z' T')
    rwa [World.size_alloc] at this
  refine ⟨(setRow_other _ _ _ _ (by omega)).trans (setRow_heap _ _ _ _ _ _ h0), setRow_heap _ _ _ _ _ _ ((setRow_other _ _ _ _ (by omega)).trans h1), ?_, by simp⟩
  exact (((Below.refl _ W).alloc (Nat.le_refl _) _).alloc (by simp) _).trans ⟨rfl, rfl, rfl, by simp, fun k hk => (setRow_other _ _ _ _ (by omega)).trans (setRow_other _ _ _ _ (by omega))⟩

theorem own_row {W W2 : World} {g : Nat} {Z cs : Array Value} {T : TypeId} (hW : W.setRow g cs = W2) (h : W.heap[g]? = some (.cells Z T (0, 0))) : W2.heap[g]? = some (.cells cs T (0, 0)) ∧ W.grownBy W2 (some g) ∧ W2.heap.size = W.heap.size ∧ ∀ j, j ≠ g → W2.heap[j]? = W.heap[j]? := by
  subst hW
  exact ⟨setRow_heap _ _ _ _ _ _ h, grownBy_setRow _ _ _, by simp, fun j hj => setRow_other _ _ _ _ hj⟩
theorem heap_two (W : World) (o o' : Obj) : ((W.alloc o).alloc o').heap[W.heap.size + 1]? = some o' := by
  have := heap_alloc_new (W.alloc o) o'
  rwa [World.size_alloc] at this
/-- The tick of a load's box. -/
def tickAt (s : Value) (w : World) : Int := match s with
  | .pointer (some a) => (match w.cell? ⟨a.block, 0, none⟩ with | some v => intOf v | none => 0)
  | _ => 0
theorem tickAt_row {w : World} {nb : Nat} {x : Ld} (h : w.heap[nb]? = some (.cells (ldA x) 57 (0, 0))) : tickAt (.pointer (some ⟨nb, 0, none⟩)) w = x.tick := by
  have h0 := cell_of_row _ _ 0 _ _ _ h
  simp only [ldA, List.getElem?_toArray, List.getElem?_cons_zero] at h0
  unfold tickAt
  simp only [h0, intOf]
set_option maxRecDepth 20000 in
set_option maxHeartbeats 8000000 in
theorem ticks_run (l0 : Nat) (J : Jb) (x : Ld) (M : Nat) (u z : Value) (w0 : World) (tb vb n0 x0 y0 B : Nat) (I Ix : List (Ld × Rd) → World → Prop) (hJ : J.Ok) (hx : J.LOk x) (hM : ∀ k, k < M → J.live (J.lds x k) = true) (hMe : J.live (J.lds x M) = false)
    (hp : RowP w0 u J.m J.P) (hq : RowT w0 z J.n J.q) (hx0 : x0 < n0) (hne : (tb ≠ x0 ∧ tb ≠ y0) ∧ (vb ≠ x0 ∧ vb ≠ y0) ∧ w0.heap.size ≤ x0 ∧ w0.heap.size ≤ y0)
    (hA : AbG 57 B I) (hY : ∀ k y W1, (seqT J x M)[k]? = some y → I ((seqT J x M).take k) W1 → YieldAt Fence.wide 8 Try.prog l0 (encT y) W1 fun e W' =>
      (e = .returned (.bool true) ∧ I ((seqT J x M).take (k + 1)) W' ∧ KpG 57 n0 x0 y0 W1 W') ∨ (e = .returned (.bool false) ∧ Ix ((seqT J x M).take (k + 1)) W'))
    (W : World) (hI : ItT J x u z w0 tb vb n0 W) (hB : B ≤ W.heap.size) (h0 : I [] W) :
    CallsIn Fence.wide 9 Try.prog 99 #[.func (.yield l0) #[] #[], .pointer (some ⟨tb, 0, none⟩), .pointer (some ⟨vb, 0, none⟩)] W fun e W' => (∃ v, e = .returned v) ∧ (I (seqT J x M) W' ∨ ∃ k, Ix ((seqT J x M).take k) W') := by
  have HI := hid hI; have HY := hid hY; have HA := hid hA; have H0 := hid h0; have HJ := hid hJ; have HX := hid hx; have HM := hid hM; have HME := hid hMe
  have HP := hid (fun (W1 : World) (g : ∀ j, j < w0.heap.size → W1.heap[j]? = w0.heap[j]?) => RowT.low hp g)
  have HQ := hid (fun (W1 : World) (g : ∀ j, j < w0.heap.size → W1.heap[j]? = w0.heap[j]?) => RowT.low hq g)
  obtain ⟨pa, pc, rfl⟩ := RowT.shape hp
  obtain ⟨qa, qc, rfl⟩ := hq.shape
  have hmm := hJ.m
  clear hI hY hA h0 hx hJ hM hMe hp hq
  refine callsIn_of_wp Try.func99 rfl trivial ?_ rfl
  simp only [Try.ntmps99, List.size_toArray, List.length_cons, List.length_nil, Nat.reduceAdd, Nat.reduceSub, Array.replicate_succ, Array.replicate_zero, List.push_toArray, List.append_toArray, List.nil_append, List.cons_append]
  gi_wp2_with (first
    | (refine wpListIn_load_whole rfl 57 _ rfl tb rfl 57 (ldA x) (0, 0) _ HI.out.tp Try.underlying57 rfl (infoLd x) ?_)
    | (refine wpListIn_store_whole rfl 57 _ _ rfl W.heap.size (ldA x) rfl rfl 57 _ (heap_alloc_new W _) (infoLd x) (by rfl) (ldA_one x) ?_; generalize hW : World.setRow _ _ _ = W2; have HS := hid (new_row hW); clear hW))
  have hI2 := HI.out.past HS.out.2.1.size (fun j hj => HS.out.2.1.block j (Nat.lt_of_lt_of_le hj HI.out.le))
  have H2 := hid (And.intro hI2 (And.intro HS.out.1 (HA.out _ _ _ none H0.out (gbelow HS.out.2.1) (fun j e => by cases e))))
  clear hI2
  dsimp only [Act.put]
  gi_loopw [4] (fun s wr => ∃ k : Nat, k ≤ M ∧ ∃ nb : Nat, s = .pointer (some ⟨nb, 0, none⟩) ∧ Hid (W.heap.size ≤ nb) ∧ Hid (ItT J x (.slice pa J.m pc) (.slice qa J.n qc) w0 tb vb n0 wr ∧ wr.heap[nb]? = some (.cells (ldA (J.lds x k)) 57 (0, 0)) ∧ I ((seqT J x M).take k) wr)) (fun s wr => (100000000 - tickAt s wr).toNat)
  case atStart => exact ⟨0, Nat.zero_le _, W.heap.size, rfl, Nat.le_refl _, by rw [List.take_zero]; exact H2⟩
  case round =>
    obtain ⟨k, hk, nb, rfl, hnb, hR⟩ := hrel
    clear H2 HS
    have HXK := hid (HX.out.lds HJ.out k (fun j hj => HM.out j (by omega)))
    have HTK := hid (Jb.lds_tick J x k)
    have HLV := hid (fun h : k < M => HM.out k h)
    have HDD := hid (fun h : k = M => (show J.live (J.lds x k) = false by rw [h]; exact HME.out))
    have HGT := hid (fun h : k < M => seqT_get J x M k h)
    have HGR := hid hR.out.2.1
    have HNX := hid (show J.lds x (k + 1) = J.next (J.lds x k) from rfl)
    have HRX := hid (show J.rds x k = J.read (J.lds x k) from rfl)
    rw [HNX.out, HRX.out] at HGT
    obtain ⟨y, hy0⟩ : ∃ y, y = J.lds x k := ⟨_, rfl⟩
    rw [← hy0] at HXK HTK HLV HDD HGT HGR HNX HRX
    have HY0 := hid hy0
    have c0 := cell_of_row _ _ 0 _ _ _ HGR.out
    have c1 := cell_of_row _ _ 1 _ _ _ HGR.out
    have v6 := cell_of_row _ _ 6 _ _ _ hR.out.1.vp
    simp only [ldA, Jb.vA, List.getElem?_toArray, List.getElem?_cons_zero, List.getElem?_cons_succ] at c0 c1 v6
    clear hy0
    by_cases hlt : k < M
    · have HLT := hid hlt
      have HLI := hid (HLV.out hlt)
      obtain ⟨l1, l2⟩ := Jb.live_iff.1 HLI.out
      clear hlt
      gi_wp2_with (first
        | (refine wpListIn_load_whole rfl 117 _ rfl vb rfl 117 (J.vA (.slice pa J.m pc) (.slice qa J.n qc)) (0, 0) _ hR.out.1.vp Try.underlying117 rfl (infoVs _ _ _) ?_)
        | (refine wpListIn_load_whole rfl 57 _ rfl nb rfl 57 (ldA y) (0, 0) _ HGR.out Try.underlying57 rfl (infoLd _) ?_))
      refine ⟨trivial, ?_⟩
      refine (callsIn_wide.2 (tick_job J y _ _ wr (HP.out _ hR.out.1.low) (HQ.out _ hR.out.1.low) HJ.out HXK.out HLI.out)).mono ?_
      rintro e W4 ⟨rfl, hb4⟩
      have HB4 := hid hb4
      clear hb4 c0 c1 v6
      gi_wp2_with (first
        | (refine wpListIn_store_whole rfl 57 _ _ rfl W4.heap.size (ldA (J.next y)) rfl rfl 57 _ ((Below.heap_alloc _ _ _ (by simp)).trans (heap_alloc_new W4 _)) (infoLd _) (by rfl) (ldA_one _) ?_)
        | (refine wpListIn_store_whole rfl 74 _ _ rfl (W4.heap.size + 1) (rdA (J.read y)) rfl rfl 74 _ ((setRow_other _ _ _ _ (by omega)).trans (heap_two W4 _ _)) (infoRd1 _) (by rfl) (rdA_one _) ?_; generalize hW : World.setRow (World.setRow _ _ _) _ _ = W5; have HS := hid (new_rows hW); clear hW)
        | (refine wpListIn_load_whole rfl 57 _ rfl W4.heap.size rfl 57 (ldA (J.next y)) (0, 0) _ HS.out.1 Try.underlying57 rfl (infoLd _) ?_)
        | (refine wpListIn_load_whole rfl 74 _ rfl (W4.heap.size + 1) rfl 74 (rdA (J.read y)) (0, 0) _ HS.out.2.1 Try.underlying74 rfl (infoRd1 _) ?_; have hb5 := HB4.out.trans (HS.out.2.2.1.mono HB4.out.size); obtain ⟨fn, tmps, assign, body, hy, hRR⟩ := HY.out k _ W5 (HGT.out HLT.out) (HA.out _ _ _ none hR.out.2.2 (gbelow hb5) (fun j e => by cases e)); simp only [encT] at hy; have HR := hid hRR; have HB5 := hid hb5; clear hRR hb5))
      refine HR.out.mono ?_
      have hnb2 : nb < wr.heap.size := (Array.getElem?_eq_some_iff.1 HGR.out).1
      have hz4 := HB4.out.size
      have hn0 : n0 ≤ W.heap.size := HI.out.le
      have hnb3 := hnb.out
      rintro e W6 (⟨rfl, hJ6, hk6⟩ | ⟨rfl, hJx6⟩)
      · have hI6 := (hR.out.1.past HB5.out.size (fun j hj => HB5.out.block j (Nat.lt_of_lt_of_le hj hR.out.1.le))).keep hk6.size hk6.low hne
        have hg6 : W6.heap[nb]? = some (.cells (ldA y) 57 (0, 0)) := hk6.own _ _ ((HB5.out.block _ hnb2).trans HGR.out) (by omega)
        have ht6 := hk6.own _ _ HS.out.1 (by omega)
        have H6 := hid (And.intro hI6 (And.intro hg6 (And.intro ht6 hJ6)))
        clear hI6 hg6 ht6 hJ6 hk6 hy HR HS HB4 HB5
        gi_wp2_with (first
          | (refine wpListIn_load_whole rfl 57 _ rfl W4.heap.size rfl 57 (ldA (J.next y)) (0, 0) _ H6.out.2.2.1 Try.underlying57 rfl (infoLd _) ?_)
          | (refine wpListIn_store_whole rfl 57 _ _ rfl nb (ldA (J.next y)) rfl rfl 57 _ H6.out.2.1 (infoLd _) (by rfl) (ldA_one _) ?_; generalize hW : World.setRow _ _ _ = W7; have H7 := hid (own_row hW H6.out.2.1); clear hW)
          | (refine wpListIn_load_whole rfl 57 _ rfl nb rfl 57 (ldA (J.next y)) (0, 0) _ H7.out.1 Try.underlying57 rfl (infoLd _) ?_)
          | (refine wpListIn_store_whole rfl 57 _ _ rfl W7.heap.size (ldA (J.next y)) rfl rfl 57 _ (heap_alloc_new W7 _) (infoLd _) (by rfl) (ldA_one _) ?_; generalize hW : World.setRow _ _ _ = W8; have H8 := hid (new_row hW); clear hW))
        dsimp only [Act.put]
        go_roundw
        case rel =>
          have hz7 := H7.out.2.2.1
          have hz8 := H8.out.2.1.size
          have hz6 := H6.out.1.le
          have hl6 := (Array.getElem?_eq_some_iff.1 H6.out.2.2.1).1
          have hI8 := (H6.out.1.past (by omega) (fun j hj => H7.out.2.2.2 j (by omega))).past H8.out.2.1.size (fun j hj => H8.out.2.1.block j (by omega))
          have hJ8 := HA.out _ _ _ none (HA.out _ _ _ (some nb) H6.out.2.2.2 H7.out.2.1 (fun j e => by cases e; exact ⟨by omega, _, H6.out.2.1, .inr ⟨_, rfl⟩⟩)) (gbelow H8.out.2.1) (fun j e => by cases e)
          have hL := HLT.out
          exact ⟨k + 1, by omega, W7.heap.size, rfl, (show W.heap.size ≤ W7.heap.size by omega), by rw [HNX.out]; exact ⟨hI8, H8.out.1, hJ8⟩⟩
        case measure =>
          rw [tickAt_row H8.out.1, tickAt_row HGR.out]
          show (100000000 - (y.tick + 1)).toNat < _
          omega
      · have HX6 := hid hJx6
        clear hJx6
        gi_wp2
        refine bodyPost_ret (results_none rfl _ _ _) rfl ?_
        exact ⟨⟨_, rfl⟩, .inr ⟨k + 1, HX6.out⟩⟩
    · obtain rfl : k = M := by omega
      have hd := Jb.live_no.1 (HDD.out rfl)
      by_cases l1 : y.step < (J.m : Int)
      · have l2 : ¬ y.tick < 100000000 := fun h => hd ⟨l1, h⟩
        clear hd
        gi_wp2
        go_end0
        exact ⟨⟨_, rfl⟩, .inl (by have := hR.out.2.2; rwa [List.take_of_length_le (by rw [seqT_len]; exact Nat.le_refl _)] at this)⟩
      · clear hd
        gi_wp2
        go_end0
        exact ⟨⟨_, rfl⟩, .inl (by have := hR.out.2.2; rwa [List.take_of_length_le (by rw [seqT_len]; exact Nat.le_refl _)] at this)⟩
end Go.Proofs.Ytpkcnojcklmhmaa
