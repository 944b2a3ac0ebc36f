/- Walk of the reference's through: contract. -/
import Derived.Test.YtedfajokiblfhaaGreatPed
import Derived.Test.YtedfajokiblfhaaGreatC3
namespace Go.Proofs.YtedfajokiblfhaaGreat
open Go.RowKit Go.Lib

theorem TkL.x13 {c : Cn} {K : Kq} {n : Nat} {vx vd vu : Value} {br : Bool} {k : Nat} {R : Array Value} {w W : World} (h : TkL K n (rnA c K vx br vd vu k) R w W) :
    W.cell? ⟨n, 0, none⟩ = some (.int .i64 (c.R : Int)) ∧ W.cell? ⟨n, 1, none⟩ = some (.int .i64 (c.L : Int)) ∧ W.cell? ⟨n, 2, none⟩ = some (.int .i64 c.A) ∧ W.cell? ⟨n, 3, none⟩ = some (.int .i64 c.B) ∧ W.cell? ⟨n, 4, none⟩ = some (.int .i64 c.K) ∧ W.cell? ⟨n, 5, none⟩ = some (.int .i64 c.A2) ∧ W.cell? ⟨n, 6, none⟩ = some (.int .i64 c.B2) ∧
    W.cell? ⟨n, 7, none⟩ = some vx ∧ W.cell? ⟨n, 8, none⟩ = some (.bool br) ∧ W.cell? ⟨n, 9, none⟩ = some (.pointer (some ⟨K.b, 0, none⟩)) ∧ W.cell? ⟨n, 10, none⟩ = some vd ∧ W.cell? ⟨n, 11, none⟩ = some vu ∧ W.cell? ⟨n, 12, none⟩ = some (.int .i64 (k : Nat)) :=
  ⟨cell_of_row _ _ 0 _ _ _ h.box, cell_of_row _ _ 1 _ _ _ h.box, cell_of_row _ _ 2 _ _ _ h.box, cell_of_row _ _ 3 _ _ _ h.box, cell_of_row _ _ 4 _ _ _ h.box, cell_of_row _ _ 5 _ _ _ h.box, cell_of_row _ _ 6 _ _ _ h.box, h.x⟩
/-- The run's box is laid as a whole. -/
theorem TkL.lay0 {K : Kq} {n : Nat} {A R cs : Array Value} {w W W' : World} (h : TkL K n A R w W) (hn : K.gD < n ∧ K.gU < n) (hw : w.heap.size ≤ n) (hW : W.setRow n cs = W') :
    TkL K n cs R w W' ∧ ∀ g, g ≠ n → W'.heap[g]? = W.heap[g]? := by
  subst hW
  have ho : ∀ g, g ≠ n → (W.setRow n cs).heap[g]? = W.heap[g]? := fun g hg => setRow_other _ _ _ _ hg
  have hg : W.grownBy (W.setRow n cs) (some n) := ⟨rfl, rfl, rfl, by simp, fun k _ hk => ho k (fun e => hk (by rw [e]))⟩
  exact ⟨⟨Kq.grown (base := n) h.kept hg (fun j e => by cases e; exact Nat.le_refl _) hn, ⟨Nat.le_trans h.still.size hg.size, fun j hj h1 h2 => (ho j (by omega)).trans (h.still.block j hj h1 h2)⟩, setRow_heap _ _ _ _ _ _ h.box, (ho _ (by omega)).trans h.res⟩, ho⟩
theorem rowK_same {gD gU base n cap : Nat} {W W' : World} {a : Option Addr} {l : List Int} (h : RowK gD gU W (.slice a n cap) l) (ha : ∀ ad, a = some ad → base ≤ ad.block) (hs : ∀ g, base ≤ g → W'.heap[g]? = W.heap[g]?) (hD : gD < base) (hU : gU < base) : RowK gD gU W' (.slice a n cap) l :=
  rowK_from (rowI_same2 h.row ha hs) ha hD hU
theorem RowsK.same {gD gU base : Nat} {W W' : World} {S : Rs} {xa da ua : Option Addr} {xc dc uc : Nat} (h : RowsK gD gU W S xa xc da dc ua uc) (hf : RowsF base xa da ua) (hs : ∀ g, base ≤ g → W'.heap[g]? = W.heap[g]?) (hD : gD < base) (hU : gU < base) : RowsK gD gU W' S xa xc da dc ua uc :=
  ⟨rowK_same h.tx hf.fx hs hD hU, rowK_same h.td hf.fd hs hD hU, rowK_same h.tu hf.fu hs hD hU⟩
theorem RowK.at {gD gU : Nat} {W : World} {a : Option Addr} {n cap : Nat} {l : List Int} (h : RowK gD gU W (.slice a n cap) l) {k : Nat} (hk : k < l.length) :
    ∃ b o, a = some ⟨b, o, none⟩ ∧ ∀ W', Lt.Still gD gU W W' → W'.cell? ⟨b, o + k, none⟩ = some (.int .i64 l[k]) := by
  obtain ⟨b, o, h1, h2⟩ := h.cells (by omega)
  exact ⟨b, o, h1, fun W' hs => h2 W' hs k hk⟩

/-- What the round of a run stands on: its box's cells, and the bath's. -/
def RawT (c : Cn) (K : Kq) (n : Nat) (xa : Option Addr) (xn xc : Nat) (br : Bool) (da : Option Addr) (dn dc : Nat) (ua : Option Addr) (un uc : Nat) (sk : Nat) (R : Array Value) (w : World) (bb bo : Nat) (t : Int) (W : World) : Prop :=
  (W.cell? ⟨n, 0, none⟩ = some (.int .i64 (c.R : Int)) ∧ W.cell? ⟨n, 1, none⟩ = some (.int .i64 (c.L : Int)) ∧ W.cell? ⟨n, 2, none⟩ = some (.int .i64 c.A) ∧ W.cell? ⟨n, 3, none⟩ = some (.int .i64 c.B) ∧ W.cell? ⟨n, 4, none⟩ = some (.int .i64 c.K) ∧ W.cell? ⟨n, 5, none⟩ = some (.int .i64 c.A2) ∧ W.cell? ⟨n, 6, none⟩ = some (.int .i64 c.B2) ∧
    W.cell? ⟨n, 7, none⟩ = some (.slice xa xn xc) ∧ W.cell? ⟨n, 8, none⟩ = some (.bool br) ∧ W.cell? ⟨n, 9, none⟩ = some (.pointer (some ⟨K.b, 0, none⟩)) ∧ W.cell? ⟨n, 10, none⟩ = some (.slice da dn dc) ∧ W.cell? ⟨n, 11, none⟩ = some (.slice ua un uc) ∧ W.cell? ⟨n, 12, none⟩ = some (.int .i64 (sk : Nat))) ∧
  W.cell? ⟨bb, bo, none⟩ = some (.int .i64 t) ∧ TkL K n (rnA c K (.slice xa xn xc) br (.slice da dn dc) (.slice ua un uc) sk) R w W
/-- Rows that two boxes spare. -/
def RowsO (gD gU n : Nat) (W : World) (S : Rs) (xa : Option Addr) (xc : Nat) (da : Option Addr) (dc : Nat) (ua : Option Addr) (uc : Nat) : Prop :=
  ∀ W', (∀ g, g ≠ n → g ≠ n + 1 → W'.heap[g]? = W.heap[g]?) → W.heap.size ≤ W'.heap.size → RowsK gD gU W' S xa xc da dc ua uc
theorem RowsK.off {gD gU n : Nat} {W : World} {S : Rs} {xa da ua : Option Addr} {xc dc uc : Nat} (h : RowsK gD gU W S xa xc da dc ua uc) (hf : RowsF (n + 2) xa da ua) (hD : gD < n) (hU : gU < n) : RowsO gD gU n W S xa xc da dc ua uc :=
  fun _ hs _ => h.same hf (fun g hg => hs g (by omega) (by omega)) (by omega) (by omega)
theorem RowsK.start {gD gU : Nat} {w W : World} {S : Rs} {xa da ua : Option Addr} {xc dc uc : Nat} (h : RowsK gD gU w S xa xc da dc ua uc) (hs : Lt.Still gD gU w W) : RowsO gD gU w.heap.size W S xa xc da dc ua uc :=
  fun _ h1 h2 => h.still ⟨Nat.le_trans hs.size h2, fun j hj a b => (h1 j (by omega) (by omega)).trans (hs.block j hj a b)⟩
set_option maxRecDepth 100000 in
set_option maxHeartbeats 4000000 in
theorem xthrough_any (c : Cn) (K : Kq) (S : Rs) (v : Value) (l : List Int) (xa : Option Addr) (xc : Nat) (da : Option Addr) (dc : Nat) (ua : Option Addr) (uc : Nat) (w : World) (hc : c.Ok) (hV : K.V) (hG : GoodR c S) (hb : okL l = true) (hR : RowsK K.gD K.gU w S xa xc da dc ua uc) (hK : K.at w) (hl : RowK K.gD K.gU w v l) (hlen : l.length ≤ 100000) :
    Calls Tryz.prog 40 #[.agg #[.int .i64 (c.R : Int), .int .i64 (c.L : Int), .int .i64 c.A, .int .i64 c.B, .int .i64 c.K, .int .i64 c.A2, .int .i64 c.B2, .slice xa S.x.1.length xc, .bool S.x.2, .pointer (some ⟨K.b, 0, none⟩), .slice da S.d.length dc, .slice ua S.u.length uc, .int .i64 (S.k : Nat)], v] w (RnP c K (rsR c K.f K.u S l) w) := by
  have HN := hid (Kq.lt hK)
  have hn : Hid (K.gD < w.heap.size ∧ K.gU < w.heap.size) := ⟨HN.out.2.1, HN.out.2.2.1⟩
  have HT := hid (tkL_start (A := #[.int .i64 (c.R : Int), .int .i64 (c.L : Int), .int .i64 c.A, .int .i64 c.B, .int .i64 c.K, .int .i64 c.A2, .int .i64 c.B2, .slice xa S.x.1.length xc, .bool S.x.2, .pointer (some ⟨K.b, 0, none⟩), .slice da S.d.length dc, .slice ua S.u.length uc, .int .i64 (S.k : Nat)]) (R := #[.int .i64 0, .int .i64 0, .int .i64 0, .int .i64 0, .int .i64 0, .int .i64 0, .int .i64 0, .slice none 0 0, .bool false, .pointer none, .slice none 0 0, .slice none 0 0, .int .i64 0]) hK)
  obtain ⟨ba, bc, rfl⟩ := hl.row.shape
  have HL := hid hl
  have HR := hid (hR.start HT.out.still)
  have HB := hid hb
  clear hR hK hl hb
  go_enter Tryz.func40, Tryz.ntmps40
  go_wp2_with fail
  go_loopw [5] (fun i wr => ∃ k : Nat, k ≤ l.length ∧ i = .int .i64 (k : Int) ∧ ∃ S' xa xc da dc ua uc, Hid (S' = rsR c K.f K.u S (l.take k)) ∧ Hid (TkL K w.heap.size (rnA c K (.slice xa S'.x.1.length xc) S'.x.2 (.slice da S'.d.length dc) (.slice ua S'.u.length uc) S'.k) #[.int .i64 0, .int .i64 0, .int .i64 0, .int .i64 0, .int .i64 0, .int .i64 0, .int .i64 0, .slice none 0 0, .bool false, .pointer none, .slice none 0 0, .slice none 0 0, .int .i64 0] w wr) ∧ Hid (RowsO K.gD K.gU w.heap.size wr S' xa xc da dc ua uc)) (fun i _ => l.length - (intOf i).toNat)
  case atStart => exact ⟨0, Nat.zero_le _, rfl, S, xa, xc, da, dc, ua, uc, rfl, HT, HR⟩
  case round =>
    obtain ⟨k, hk, rfl, S', ya, yc, ea, ec, ga, gc, HS, HTr, HRo⟩ := hrel
    have HRr := hid (HRo.out wr (fun _ _ _ => rfl) (Nat.le_refl _))
    by_cases hlt : k < l.length
    · have hlt' : (k : Int) < l.length := by omega
      obtain ⟨bb, bo, rfl, hcb⟩ := HL.out.at hlt
      have hot := okL_all HB.out k hlt
      have HSU := hid (rsR_succ c K.f K.u S l k hlt)
      have HGk : Hid (GoodR c S') := by refine hid ?_; rw [HS.out]; exact hG.run hc (okL_take HB.out k)
      rw [← HS.out] at HSU
      generalize l[k] = t at *
      have HCB := hid hcb
      have HOT := hid hot
      have HLT := hid hlt
      clear hcb hot hlt
      have HTK := hid (fun W h1 h2 => xtick_any c K S' t ya yc ea ec ga gc W hc hV HGk.out HOT.out h1 h2)
      have HTD := hid (HTr.out.below (Below.refl _ wr).drew)
      have HRD := hid (HRr.out.still (Lt.Still.below (Below.refl _ wr).drew))
      go_wp2_with fail
      refine wp_region_sink (S := RawT c K w.heap.size ya S'.x.1.length yc S'.x.2 ea S'.d.length ec ga S'.u.length gc S'.k #[.int .i64 0, .int .i64 0, .int .i64 0, .int .i64 0, .int .i64 0, .int .i64 0, .int .i64 0, .slice none 0 0, .bool false, .pointer none, .slice none 0 0, .slice none 0 0, .int .i64 0] w bb (bo + k) t) 6 (by kernel_rfl) (by kernel_rfl) (by kernel_rfl) (by kernel_rfl) ⟨HTD.out.x13, HCB.out _ HTD.out.still, HTD.out⟩ (fun hS0 => ?_)
      refine wpAnyH_take (i := 0) (v := ?_) rfl (by kernel_rfl) (by kernel_rfl) (by kernel_rfl) (fun _ _ _ h => h) (Or.inl ⟨by rfl, ?_⟩) hS0 ?_
      rotate_left
      · intro w' hSw
        obtain ⟨⟨q0, q1, q2, q3, q4, q5, q6, q7, q8, q9, q10, q11, q12⟩, _⟩ := hSw
        go_simp
        try with_reducible rfl
      try simp only [Act.put]
      try simp only [List.setIfInBounds_toArray]
      try simp only [List.set_cons_zero, List.set_cons_succ]
      refine wpAnyH_take (i := 1) (v := ?_) rfl (by kernel_rfl) (by kernel_rfl) (by kernel_rfl) (fun _ _ _ h => h) (Or.inl ⟨by rfl, ?_⟩) hS0 ?_
      rotate_left
      · intro w' hSw
        obtain _ := hSw
        go_simp
        try with_reducible rfl
      try simp only [Act.put]
      try simp only [List.setIfInBounds_toArray]
      try simp only [List.set_cons_zero, List.set_cons_succ]
      refine wpAnyH_take (i := 2) (v := ?_) rfl (by kernel_rfl) (by kernel_rfl) (by kernel_rfl) (fun _ _ _ h => h) (Or.inl ⟨by rfl, ?_⟩) hS0 ?_
      rotate_left
      · intro w' hSw
        obtain _ := hSw
        go_simp
        try with_reducible rfl
      try simp only [Act.put]
      try simp only [List.setIfInBounds_toArray]
      try simp only [List.set_cons_zero, List.set_cons_succ]
      refine wpAnyH_take (i := 3) (v := ?_) rfl (by kernel_rfl) (by kernel_rfl) (by kernel_rfl) (fun _ _ _ h => h) (Or.inl ⟨by rfl, ?_⟩) hS0 ?_
      rotate_left
      · intro w' hSw
        obtain _ := hSw
        go_simp
        try with_reducible rfl
      try simp only [Act.put]
      try simp only [List.setIfInBounds_toArray]
      try simp only [List.set_cons_zero, List.set_cons_succ]
      refine wpAnyH_take (i := 4) (v := ?_) rfl (by kernel_rfl) (by kernel_rfl) (by kernel_rfl) (fun _ _ _ h => h) (Or.inl ⟨by rfl, ?_⟩) hS0 ?_
      rotate_left
      · intro w' hSw
        obtain ⟨_, qb, _⟩ := hSw
        go_simp
        try with_reducible rfl
      try simp only [Act.put]
      try simp only [List.setIfInBounds_toArray]
      try simp only [List.set_cons_zero, List.set_cons_succ]
      (refine wpAnyH_ready (rs := [5]) (by kernel_rfl) (by simp) ?_)
      refine AllReadyH.cons rfl (fun K hK => ?_) AllReadyH.nil
      go_simp
      refine (HTK.out _ HRD.out HTD.out.kept).mono ?_
      rintro e w5 ⟨za, zc, fa, fc, ha, hc', rfl, hrows, hfr, hk5, hs5⟩
      have HT5 := hid (HTD.out.at hn.out hk5 hs5)
      (refine hK.out _ _ (⟨HT5.out.x13, HCB.out _ HT5.out.still, HT5.out⟩) (fun hS1 => ?_); clear hK K)
      refine wpAnyH_done (by kernel_rfl) ?_ _
      clear hS0 hS1
      refine sink_last rfl (fun K' hK' => ?_)
      refine wp_store_row 73 _ _ rfl w.heap.size _ rfl rfl 73 _ HT5.out.box infoRn rfl rnA_one ?_
      generalize hW : World.setRow _ _ _ = W6
      have HE := hid (HT5.out.lay0 hn.out (Nat.le_refl _) hW)
      clear hW
      refine hK'.out _ _ ?_
      clear hK' K'
      have hsz := HT5.out.lt
      have HR6 := hid ((hrows.same (base := w.heap.size + 2) ⟨fun ad e => by have h1 : wr.heap.size ≤ ad.block := hfr.fx ad e; have := HTr.out.lt; omega, fun ad e => by have h1 : wr.heap.size ≤ ad.block := hfr.fd ad e; have := HTr.out.lt; omega, fun ad e => by have h1 : wr.heap.size ≤ ad.block := hfr.fu ad e; have := HTr.out.lt; omega⟩ (fun g hg => HE.out.2 g (by omega)) (by have := hn.out; omega) (by have := hn.out; omega)).off (n := w.heap.size) ⟨fun ad e => by have h1 : wr.heap.size ≤ ad.block := hfr.fx ad e; have := HTr.out.lt; omega, fun ad e => by have h1 : wr.heap.size ≤ ad.block := hfr.fd ad e; have := HTr.out.lt; omega, fun ad e => by have h1 : wr.heap.size ≤ ad.block := hfr.fu ad e; have := HTr.out.lt; omega⟩ hn.out.1 hn.out.2)
      go_wp2_with fail
      go_roundw
      case rel => exact ⟨k + 1, HLT.out, by go_num, rsT c K.f K.u S' t, za, zc, fa, fc, ha, hc', HSU.out.symm, HE.out.1, HR6⟩
      case measure => have := HLT.out; simp [intOf]; omega
    · obtain rfl : k = l.length := by omega
      rw [List.take_length] at HS
      go_wp2_with (first
        | (refine wpList_load_row rfl 73 _ rfl w.heap.size rfl 73 _ (0, 0) _ HTr.out.box Tryz.underlying73 rfl infoRn ?_)
        | (refine wpList_store_row rfl 73 _ _ rfl (w.heap.size + 1) _ rfl rfl 73 _ HTr.out.res infoRn rfl rnA_one ?_; generalize hW : World.setRow _ _ _ = W5; have HE := hid (HTr.out.lay hn.out (Nat.le_refl _) hW); have HSZ : Hid (wr.heap.size ≤ W5.heap.size) := (by refine hid ?_; rw [← hW]; simp); clear hW))
      refine bodyPost_ret (results_cell_row Tryz.results40 _ _ (w.heap.size + 1) 73 _ (0, 0) _ rfl HE.out.1 Tryz.underlying73 rfl infoRn) rfl ?_
      have hS' := HS.out
      subst hS'
      exact ⟨ya, yc, ea, ec, ga, gc, rfl, HRo.out W5 (fun g _ h2 => HE.out.2.2.2 g h2) HSZ.out, HE.out.2.1, HE.out.2.2.1⟩
end Go.Proofs.YtedfajokiblfhaaGreat
