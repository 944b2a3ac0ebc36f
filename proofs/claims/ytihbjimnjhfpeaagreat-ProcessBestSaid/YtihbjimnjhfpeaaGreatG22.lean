/- Texts of this seat, one behind the other. -/
import Derived.Test.YtihbjimnjhfpeaaGreatPed
import Derived.Test.YtihbjimnjhfpeaaGreatG20
import Derived.Test.YtihbjimnjhfpeaaGreatG16
import Derived.Test.YtihbjimnjhfpeaaGreatG18
import Derived.Test.YtihbjimnjhfpeaaGreatG09
import Derived.Test.YtihbjimnjhfpeaaGreatG21
/- Walk of the reference's through: contract. -/
namespace Go.Proofs.YtihbjimnjhfpeaaGreat
open Go.RowKit Go.Lib

theorem TkL.x13 {c : Cn} {K : Kq} {n : Nat} {vx vd vu : Value} {br : Bool} {k : Nat} {R : Array Value} {w W : World} (h : TkL K n (rnA c K vx br vd vu k) R w W) :
    W.cell? ⟨n, 0, none⟩ = some (.int .i64 (c.R : Int)) ∧ W.cell? ⟨n, 1, none⟩ = some (.int .i64 (c.L : Int)) ∧ W.cell? ⟨n, 2, none⟩ = some (.int .i64 c.A) ∧ W.cell? ⟨n, 3, none⟩ = some (.int .i64 c.B) ∧ W.cell? ⟨n, 4, none⟩ = some (.int .i64 c.K) ∧ W.cell? ⟨n, 5, none⟩ = some (.int .i64 c.A2) ∧ W.cell? ⟨n, 6, none⟩ = some (.int .i64 c.B2) ∧
    W.cell? ⟨n, 7, none⟩ = some vx ∧ W.cell? ⟨n, 8, none⟩ = some (.bool br) ∧ W.cell? ⟨n, 9, none⟩ = some (.pointer (some ⟨K.b, 0, none⟩)) ∧ W.cell? ⟨n, 10, none⟩ = some vd ∧ W.cell? ⟨n, 11, none⟩ = some vu ∧ W.cell? ⟨n, 12, none⟩ = some (.int .i64 (k : Nat)) :=
  ⟨cell_of_row _ _ 0 _ _ _ h.box, cell_of_row _ _ 1 _ _ _ h.box, cell_of_row _ _ 2 _ _ _ h.box, cell_of_row _ _ 3 _ _ _ h.box, cell_of_row _ _ 4 _ _ _ h.box, cell_of_row _ _ 5 _ _ _ h.box, cell_of_row _ _ 6 _ _ _ h.box, h.x⟩
/-- The run's box is laid as a whole. -/
theorem TkL.lay0 {K : Kq} {n : Nat} {A R cs : Array Value} {w W W' : World} (h : TkL K n A R w W) (hn : K.gD < n ∧ K.gU < n) (hw : w.heap.size ≤ n) (hW : W.setRow n cs = W') :
    TkL K n cs R w W' ∧ ∀ g, g ≠ n → W'.heap[g]? = W.heap[g]? := by
  subst hW
  have ho : ∀ g, g ≠ n → (W.setRow n cs).heap[g]? = W.heap[g]? := fun g hg => setRow_other _ _ _ _ hg
  have hg : W.grownBy (W.setRow n cs) (some n) := ⟨rfl, rfl, rfl, by simp, fun k _ hk => ho k (fun e => hk (by rw [e]))⟩
  exact ⟨⟨Kq.grown (base := n) h.kept hg (fun j e => by cases e; exact Nat.le_refl _) hn, ⟨Nat.le_trans h.still.size hg.size, fun j hj h1 h2 => (ho j (by omega)).trans (h.still.block j hj h1 h2)⟩, setRow_heap _ _ _ _ _ _ h.box, (ho _ (by omega)).trans h.res⟩, ho⟩
theorem rowK_same {gD gU base n cap : Nat} {W W' : World} {a : Option Addr} {l : List Int} (h : RowK gD gU W (.slice a n cap) l) (ha : ∀ ad, a = some ad → base ≤ ad.block) (hs : ∀ g, base ≤ g → W'.heap[g]? = W.heap[g]?) (hD : gD < base) (hU : gU < base) : RowK gD gU W' (.slice a n cap) l :=
  rowK_from (rowI_same2 h.row ha hs) ha hD hU
theorem RowsK.same {gD gU base : Nat} {W W' : World} {S : Rs} {xa da ua : Option Addr} {xc dc uc : Nat} (h : RowsK gD gU W S xa xc da dc ua uc) (hf : RowsF base xa da ua) (hs : ∀ g, base ≤ g → W'.heap[g]? = W.heap[g]?) (hD : gD < base) (hU : gU < base) : RowsK gD gU W' S xa xc da dc ua uc :=
  ⟨rowK_same h.tx hf.fx hs hD hU, rowK_same h.td hf.fd hs hD hU, rowK_same h.tu hf.fu hs hD hU⟩
theorem RowK.at {gD gU : Nat} {W : World} {a : Option Addr} {n cap : Nat} {l : List Int} (h : RowK gD gU W (.slice a n cap) l) {k : Nat} (hk : k < l.length) :
    ∃ b o, a = some ⟨b, o, none⟩ ∧ ∀ W', Lt.Still gD gU W W' → W'.cell? ⟨b, o + k, none⟩ = some (.int .i64 l[k]) := by
  obtain ⟨b, o, h1, h2⟩ := h.cells (by omega)
  exact ⟨b, o, h1, fun W' hs => h2 W' hs k hk⟩

/-- What the round of a run stands on: its box's cells, and the bath's. -/
def RawT (c : Cn) (K : Kq) (n : Nat) (xa : Option Addr) (xn xc : Nat) (br : Bool) (da : Option Addr) (dn dc : Nat) (ua : Option Addr) (un uc : Nat) (sk : Nat) (R : Array Value) (w : World) (bb bo : Nat) (t : Int) (W : World) : Prop :=
  (W.cell? ⟨n, 0, none⟩ = some (.int .i64 (c.R : Int)) ∧ W.cell? ⟨n, 1, none⟩ = some (.int .i64 (c.L : Int)) ∧ W.cell? ⟨n, 2, none⟩ = some (.int .i64 c.A) ∧ W.cell? ⟨n, 3, none⟩ = some (.int .i64 c.B) ∧ W.cell? ⟨n, 4, none⟩ = some (.int .i64 c.K) ∧ W.cell? ⟨n, 5, none⟩ = some (.int .i64 c.A2) ∧ W.cell? ⟨n, 6, none⟩ = some (.int .i64 c.B2) ∧
    W.cell? ⟨n, 7, none⟩ = some (.slice xa xn xc) ∧ W.cell? ⟨n, 8, none⟩ = some (.bool br) ∧ W.cell? ⟨n, 9, none⟩ = some (.pointer (some ⟨K.b, 0, none⟩)) ∧ W.cell? ⟨n, 10, none⟩ = some (.slice da dn dc) ∧ W.cell? ⟨n, 11, none⟩ = some (.slice ua un uc) ∧ W.cell? ⟨n, 12, none⟩ = some (.int .i64 (sk : Nat))) ∧
  W.cell? ⟨bb, bo, none⟩ = some (.int .i64 t) ∧ TkL K n (rnA c K (.slice xa xn xc) br (.slice da dn dc) (.slice ua un uc) sk) R w W
/-- Rows that two boxes spare. -/
def RowsO (gD gU n : Nat) (W : World) (S : Rs) (xa : Option Addr) (xc : Nat) (da : Option Addr) (dc : Nat) (ua : Option Addr) (uc : Nat) : Prop :=
  ∀ W', (∀ g, g ≠ n → g ≠ n + 1 → W'.heap[g]? = W.heap[g]?) → W.heap.size ≤ W'.heap.size → RowsK gD gU W' S xa xc da dc ua uc
theorem RowsK.off {gD gU n : Nat} {W : World} {S : Rs} {xa da ua : Option Addr} {xc dc uc : Nat} (h : RowsK gD gU W S xa xc da dc ua uc) (hf : RowsF (n + 2) xa da ua) (hD : gD < n) (hU : gU < n) : RowsO gD gU n W S xa xc da dc ua uc :=
  fun _ hs _ => h.same hf (fun g hg => hs g (by omega) (by omega)) (by omega) (by omega)
theorem RowsK.start {gD gU : Nat} {w W : World} {S : Rs} {xa da ua : Option Addr} {xc dc uc : Nat} (h : RowsK gD gU w S xa xc da dc ua uc) (hs : Lt.Still gD gU w W) : RowsO gD gU w.heap.size W S xa xc da dc ua uc :=
  fun _ h1 h2 => h.still ⟨Nat.le_trans hs.size h2, fun j hj a b => (h1 j (by omega) (by omega)).trans (hs.block j hj a b)⟩
set_option maxRecDepth 100000 in
set_option maxHeartbeats 4000000 in
theorem xthrough_any (c : Cn) (K : Kq) (S : Rs) (v : Value) (l : List Int) (xa : Option Addr) (xc : Nat) (da : Option Addr) (dc : Nat) (ua : Option Addr) (uc : Nat) (w : World) (hc : c.Ok) (hV : K.V) (hG : GoodR c S) (hb : okL l = true) (hR : RowsK K.gD K.gU w S xa xc da dc ua uc) (hK : K.at w) (hl : RowK K.gD K.gU w v l) (hlen : l.length ≤ 100000) :
    Calls Tryz.prog 81 #[.agg #[.int .i64 (c.R : Int), .int .i64 (c.L : Int), .int .i64 c.A, .int .i64 c.B, .int .i64 c.K, .int .i64 c.A2, .int .i64 c.B2, .slice xa S.x.1.length xc, .bool S.x.2, .pointer (some ⟨K.b, 0, none⟩), .slice da S.d.length dc, .slice ua S.u.length uc, .int .i64 (S.k : Nat)], v] w (RnP c K (rsR c K.f K.u S l) w) := by
  have HN := hid (Kq.lt hK)
  have hn : Hid (K.gD < w.heap.size ∧ K.gU < w.heap.size) := ⟨HN.out.2.1, HN.out.2.2.1⟩
  have HT := hid (tkL_start (A := #[.int .i64 (c.R : Int), .int .i64 (c.L : Int), .int .i64 c.A, .int .i64 c.B, .int .i64 c.K, .int .i64 c.A2, .int .i64 c.B2, .slice xa S.x.1.length xc, .bool S.x.2, .pointer (some ⟨K.b, 0, none⟩), .slice da S.d.length dc, .slice ua S.u.length uc, .int .i64 (S.k : Nat)]) (R := #[.int .i64 0, .int .i64 0, .int .i64 0, .int .i64 0, .int .i64 0, .int .i64 0, .int .i64 0, .slice none 0 0, .bool false, .pointer none, .slice none 0 0, .slice none 0 0, .int .i64 0]) hK)
  obtain ⟨ba, bc, rfl⟩ := hl.row.shape
  have HL := hid hl
  have HR := hid (hR.start HT.out.still)
  have HB := hid hb
  clear hR hK hl hb
  go_enter Tryz.func81, Tryz.ntmps81
  go_wp2_with fail
  go_loopw [5] (fun i wr => ∃ k : Nat, k ≤ l.length ∧ i = .int .i64 (k : Int) ∧ ∃ S' xa xc da dc ua uc, Hid (S' = rsR c K.f K.u S (l.take k)) ∧ Hid (TkL K w.heap.size (rnA c K (.slice xa S'.x.1.length xc) S'.x.2 (.slice da S'.d.length dc) (.slice ua S'.u.length uc) S'.k) #[.int .i64 0, .int .i64 0, .int .i64 0, .int .i64 0, .int .i64 0, .int .i64 0, .int .i64 0, .slice none 0 0, .bool false, .pointer none, .slice none 0 0, .slice none 0 0, .int .i64 0] w wr) ∧ Hid (RowsO K.gD K.gU w.heap.size wr S' xa xc da dc ua uc)) (fun i _ => l.length - (intOf i).toNat)
  case atStart => exact ⟨0, Nat.zero_le _, rfl, S, xa, xc, da, dc, ua, uc, rfl, HT, HR⟩
  case round =>
    obtain ⟨k, hk, rfl, S', ya, yc, ea, ec, ga, gc, HS, HTr, HRo⟩ := hrel
    have HRr := hid (HRo.out wr (fun _ _ _ => rfl) (Nat.le_refl _))
    by_cases hlt : k < l.length
    · have hlt' : (k : Int) < l.length := by omega
      obtain ⟨bb, bo, rfl, hcb⟩ := HL.out.at hlt
      have hot := okL_all HB.out k hlt
      have HSU := hid (rsR_succ c K.f K.u S l k hlt)
      have HGk : Hid (GoodR c S') := by refine hid ?_; rw [HS.out]; exact hG.run hc (okL_take HB.out k)
      rw [← HS.out] at HSU
      generalize l[k] = t at *
      have HCB := hid hcb
      have HOT := hid hot
      have HLT := hid hlt
      clear hcb hot hlt
      have HTK := hid (fun W h1 h2 => xtick_any c K S' t ya yc ea ec ga gc W hc hV HGk.out HOT.out h1 h2)
      have HTD := hid (HTr.out.below (Below.refl _ wr).drew)
      have HRD := hid (HRr.out.still (Lt.Still.below (Below.refl _ wr).drew))
      go_wp2_with fail
      refine wp_region_sink (S := RawT c K w.heap.size ya S'.x.1.length yc S'.x.2 ea S'.d.length ec ga S'.u.length gc S'.k #[.int .i64 0, .int .i64 0, .int .i64 0, .int .i64 0, .int .i64 0, .int .i64 0, .int .i64 0, .slice none 0 0, .bool false, .pointer none, .slice none 0 0, .slice none 0 0, .int .i64 0] w bb (bo + k) t) 6 (by kernel_rfl) (by kernel_rfl) (by kernel_rfl) (by kernel_rfl) ⟨HTD.out.x13, HCB.out _ HTD.out.still, HTD.out⟩ (fun hS0 => ?_)
      refine wpAnyH_take (i := 0) (v := ?_) rfl (by kernel_rfl) (by kernel_rfl) (by kernel_rfl) (fun _ _ _ h => h) (Or.inl ⟨by rfl, ?_⟩) hS0 ?_
      rotate_left
      · intro w' hSw
        obtain ⟨⟨q0, q1, q2, q3, q4, q5, q6, q7, q8, q9, q10, q11, q12⟩, _⟩ := hSw
        go_simp
        try with_reducible rfl
      try simp only [Act.put]
      try simp only [List.setIfInBounds_toArray]
      try simp only [List.set_cons_zero, List.set_cons_succ]
      refine wpAnyH_take (i := 1) (v := ?_) rfl (by kernel_rfl) (by kernel_rfl) (by kernel_rfl) (fun _ _ _ h => h) (Or.inl ⟨by rfl, ?_⟩) hS0 ?_
      rotate_left
      · intro w' hSw
        obtain _ := hSw
        go_simp
        try with_reducible rfl
      try simp only [Act.put]
      try simp only [List.setIfInBounds_toArray]
      try simp only [List.set_cons_zero, List.set_cons_succ]
      refine wpAnyH_take (i := 2) (v := ?_) rfl (by kernel_rfl) (by kernel_rfl) (by kernel_rfl) (fun _ _ _ h => h) (Or.inl ⟨by rfl, ?_⟩) hS0 ?_
      rotate_left
      · intro w' hSw
        obtain _ := hSw
        go_simp
        try with_reducible rfl
      try simp only [Act.put]
      try simp only [List.setIfInBounds_toArray]
      try simp only [List.set_cons_zero, List.set_cons_succ]
      refine wpAnyH_take (i := 3) (v := ?_) rfl (by kernel_rfl) (by kernel_rfl) (by kernel_rfl) (fun _ _ _ h => h) (Or.inl ⟨by rfl, ?_⟩) hS0 ?_
      rotate_left
      · intro w' hSw
        obtain _ := hSw
        go_simp
        try with_reducible rfl
      try simp only [Act.put]
      try simp only [List.setIfInBounds_toArray]
      try simp only [List.set_cons_zero, List.set_cons_succ]
      refine wpAnyH_take (i := 4) (v := ?_) rfl (by kernel_rfl) (by kernel_rfl) (by kernel_rfl) (fun _ _ _ h => h) (Or.inl ⟨by rfl, ?_⟩) hS0 ?_
      rotate_left
      · intro w' hSw
        obtain ⟨_, qb, _⟩ := hSw
        go_simp
        try with_reducible rfl
      try simp only [Act.put]
      try simp only [List.setIfInBounds_toArray]
      try simp only [List.set_cons_zero, List.set_cons_succ]
      (refine wpAnyH_ready (rs := [5]) (by kernel_rfl) (by simp) ?_)
      refine AllReadyH.cons rfl (fun K hK => ?_) AllReadyH.nil
      go_simp
      refine (HTK.out _ HRD.out HTD.out.kept).mono ?_
      rintro e w5 ⟨za, zc, fa, fc, ha, hc', rfl, hrows, hfr, hk5, hs5⟩
      have HT5 := hid (HTD.out.at hn.out hk5 hs5)
      (refine hK.out _ _ (⟨HT5.out.x13, HCB.out _ HT5.out.still, HT5.out⟩) (fun hS1 => ?_); clear hK K)
      refine wpAnyH_done (by kernel_rfl) ?_ _
      clear hS0 hS1
      refine sink_last rfl (fun K' hK' => ?_)
      refine wp_store_row 136 _ _ rfl w.heap.size _ rfl rfl 136 _ HT5.out.box infoRn rfl rnA_one ?_
      generalize hW : World.setRow _ _ _ = W6
      have HE := hid (HT5.out.lay0 hn.out (Nat.le_refl _) hW)
      clear hW
      refine hK'.out _ _ ?_
      clear hK' K'
      have hsz := HT5.out.lt
      have HR6 := hid ((hrows.same (base := w.heap.size + 2) ⟨fun ad e => by have h1 : wr.heap.size ≤ ad.block := hfr.fx ad e; have := HTr.out.lt; omega, fun ad e => by have h1 : wr.heap.size ≤ ad.block := hfr.fd ad e; have := HTr.out.lt; omega, fun ad e => by have h1 : wr.heap.size ≤ ad.block := hfr.fu ad e; have := HTr.out.lt; omega⟩ (fun g hg => HE.out.2 g (by omega)) (by have := hn.out; omega) (by have := hn.out; omega)).off (n := w.heap.size) ⟨fun ad e => by have h1 : wr.heap.size ≤ ad.block := hfr.fx ad e; have := HTr.out.lt; omega, fun ad e => by have h1 : wr.heap.size ≤ ad.block := hfr.fd ad e; have := HTr.out.lt; omega, fun ad e => by have h1 : wr.heap.size ≤ ad.block := hfr.fu ad e; have := HTr.out.lt; omega⟩ hn.out.1 hn.out.2)
      go_wp2_with fail
      go_roundw
      case rel => exact ⟨k + 1, HLT.out, by go_num, rsT c K.f K.u S' t, za, zc, fa, fc, ha, hc', HSU.out.symm, HE.out.1, HR6⟩
      case measure => have := HLT.out; simp [intOf]; omega
    · obtain rfl : k = l.length := by omega
      rw [List.take_length] at HS
      go_wp2_with (first
        | (refine wpList_load_row rfl 136 _ rfl w.heap.size rfl 136 _ (0, 0) _ HTr.out.box Tryz.underlying136 rfl infoRn ?_)
        | (refine wpList_store_row rfl 136 _ _ rfl (w.heap.size + 1) _ rfl rfl 136 _ HTr.out.res infoRn rfl rnA_one ?_; generalize hW : World.setRow _ _ _ = W5; have HE := hid (HTr.out.lay hn.out (Nat.le_refl _) hW); have HSZ : Hid (wr.heap.size ≤ W5.heap.size) := (by refine hid ?_; rw [← hW]; simp); clear hW))
      refine bodyPost_ret (results_cell_row Tryz.results81 _ _ (w.heap.size + 1) 136 _ (0, 0) _ rfl HE.out.1 Tryz.underlying136 rfl infoRn) rfl ?_
      have hS' := HS.out
      subst hS'
      exact ⟨ya, yc, ea, ec, ga, gc, rfl, HRo.out W5 (fun g _ h2 => HE.out.2.2.2 g h2) HSZ.out, HE.out.2.1, HE.out.2.2.1⟩
end Go.Proofs.YtihbjimnjhfpeaaGreat

/- Walk of Table of package lethal: contracts. -/
namespace Go.Proofs.YtihbjimnjhfpeaaGreat.Lt
open Go.RowKit Go.Lib Go.Maps

/-- What Table works on behind k rates: the rates at L (their map at mb). -/
structure LT (s : ByteArray) (r : Int) (Z : Nat) (d g : Int) (L mb : Nat) (w : World) (k : Nat) (wr : World) : Prop where
  box : Box6 wr L s r Z d g mb
  map : MapI r Z wr mb k
  lt : mb < L
  ge : w.heap.size ≤ mb
  low : Below w.heap.size w wr
theorem LT.grown {s : ByteArray} {r : Int} {Z : Nat} {d g : Int} {L mb : Nat} {w : World} {k : Nat} {wr w1 : World} {row : Option Nat} (h : LT s r Z d g L mb w k wr) (hg : wr.grownBy w1 row) (hr : ∀ j, row = some j → L < j) : LT s r Z d g L mb w k w1 := by
  have h1 := h.lt; have h2 := h.ge
  exact ⟨h.box.grown hg (fun e => by have := hr _ e.symm; omega), h.map.kept hg (fun e => by have := hr _ e.symm; omega), h1, h2, h.low.grown hg h.low.size (fun j hj => by have := hr j hj; omega)⟩
theorem LT.append {s : ByteArray} {r : Int} {Z : Nat} {d g : Int} {L mb : Nat} {w : World} {k : Nat} {wr w1 : World} {v : Value} {l : List Nat} {o : Obj} (h : LT s r Z d g L mb w k wr) (hv : RowV wr (L + 1) v l) (hg : (wr.alloc o).grownBy w1 v.ownBlock) : LT s r Z d g L mb w k w1 :=
  (h.grown (World.grownBy_alloc wr o none) (fun k hk => by cases hk)).grown hg (fun k hk => (World.ownsRow.lt hv k hk).1)
theorem LT.call {s : ByteArray} {r : Int} {Z : Nat} {d g : Int} {L mb : Nat} {w : World} {k : Nat} {wr w1 : World} (h : LT s r Z d g L mb w k wr) (hg : wr.grownBy w1 (some mb)) (hm : MapI r Z w1 mb (k + 1)) : LT s r Z d g L mb w (k + 1) w1 := by
  have h1 := h.lt; have h2 := h.ge
  exact ⟨h.box.grown hg (fun e => by cases e; omega), hm, h1, h2, h.low.grown hg h.low.size (fun j hj => by cases hj; omega)⟩
theorem RowV.past {w w1 : World} {L mb : Nat} {v : Value} {l : List Nat} (h : RowV w (L + 1) v l) (hg : w.grownBy w1 (some mb)) (hlt : mb < L) : RowV w1 (L + 1) v l :=
  World.ownsRow.kept h hg (.inr fun e => by have := (World.ownsRow.lt h _ e).1; omega)
theorem lt_start {w w1 w2 : World} {s : ByteArray} {r : Int} {Z : Nat} {d g : Int} {mb : Nat} {T : TypeId} (hm : MapI r Z w2 mb 0) (hB : Below w.heap.size w w1) (hb : Below w1.heap.size w1 w2) (hmb : w1.heap.size ≤ mb) :
    LT s r Z d g w2.heap.size mb w 0 (w2.alloc (.cells #[.string s, .int .i64 r, .int .i64 Z, .int .i64 d, .int .i64 g, .map (some mb)] T)) := by
  have hb2 : Below w2.heap.size w2 (w2.alloc (.cells #[.string s, .int .i64 r, .int .i64 Z, .int .i64 d, .int .i64 g, .map (some mb)] T)) := (Below.refl _ _).alloc (Nat.le_refl _) _
  have hlt := hm.lt
  have h1 := hB.size
  have h2 := hb.size
  refine ⟨⟨?_, ?_, ?_, ?_, ?_, ?_, by simp⟩, hm.below hb2, hlt, by omega, (hB.trans (hb.mono h1)).trans (hb2.mono (by omega))⟩ <;> rw [cell_alloc_new] <;> rfl

theorem alloc_size (w : World) (o : Obj) : (w.alloc o).heap.size = w.heap.size + 1 := by simp

set_option maxRecDepth 20000 in
set_option maxHeartbeats 4000000 in
theorem lTable_ok (s : ByteArray) (r d g lo : Int) (Z n : Nat) (w : World) (hs : s.size ≤ maxLen) (hv : validB s.data.toList r Z d g = true)
    (l1 : -1000 ≤ lo) (l2 : lo + n ≤ 2000) (hn : n ≤ 1000) :
    Calls Tryz.prog 112 #[.agg #[.string s, .int .i64 r, .int .i64 Z, .int .i64 d, .int .i64 g], .int .i64 lo, .int .i64 (lo + n)] w (TableP r Z lo (n + 1) w) := by
  obtain ⟨_, ⟨r1, r2⟩, ⟨z1, z2⟩, _, _⟩ := validB_iff.1 hv
  obtain ⟨i0, hi, hz0, hz1, hz2⟩ := info_parts info_int
  have h1 : (decide (-1000 ≤ lo) && decide (lo ≤ 2000)) = true := by simp; omega
  have h2 : (decide (lo ≤ lo + (n : Int)) && decide (lo + (n : Int) ≤ 2000)) = true := by simp; omega
  have h4 : lo + (n : Int) - lo = n := by omega
  go_enter Tryz.func112, Tryz.ntmps112
  go_wp2_with (first
    | (go_at_call 65; refine (lvalid_any _ _ _ _ _ _ hs).mono ?_; rintro e w1 ⟨rfl, hb⟩; obtain ⟨b0, b1, b2, b3, b4, hz, hB⟩ := box5_below hb; clear hb)
    | (go_at_call 104; refine (within_any _ _ _ _).mono ?_; rintro e w1 ⟨rfl, rfl⟩)
    | (go_at_call 110; refine (ratesOf_any _ _ _ _ _ _ hs).mono ?_; rintro e w2 ⟨mb, rfl, hmb, hb2, hM⟩; have HS := hid (lt_start (T := 155) (s := s) (d := d) (g := g) (hM Z) hB hb2 hmb); clear hM hb2)
    | (at_make; refine wpList_make_own _ rfl _ _ 28 rfl (w2.heap.size + 1) 3 i0 (.int .i64 0) 1 Tryz.underlying28 hi hz0 hz1 _ _ _ (n + 1) rfl rfl (by omega) (by rw [hz2]; omega) (by unfold maxLen; omega) (by simp) ?_; intro w0 hown0 hgrow0))
  have HS0 := hid (HS.out.grown hgrow0 (fun j hj => by cases hj))
  rw [alloc_size] at hown0
  have HR0 := hid hown0
  clear hgrow0 HS b0 b1 b2 b3 b4 hown0
  generalize hL : w2.heap.size = L at HS0 HR0 ⊢
  clear hL
  go_loopw [9, 10] (fun v t wr => ∃ k : Nat, k ≤ n + 1 ∧ t = .int .i64 (lo + k) ∧ RowV wr (L + 1) v (ratesL r Z lo k) ∧ Hid (LT s r Z d g L mb w k wr)) (fun _ t _ => (n + 1) - (intOf t - lo).toNat)
  case atStart => exact ⟨0, Nat.zero_le _, by simp, HR0.out, HS0⟩
  case round =>
    obtain ⟨k, hk, rfl, hrow, hK⟩ := hrel
    obtain ⟨b0, b1, b2, b3, b4, b5, hzL⟩ := hK.out.box
    have hlen := ratesL_len r Z lo k
    have hmL := hK.out.lt
    by_cases hlt : k ≤ n
    · have hle : lo + (k : Int) ≤ lo + n := by omega
      have hx := Pm.rateD_le r Z (lo + k) z1
      obtain ⟨x, hX⟩ : ∃ x, x = Pm.rateD r Z (lo + k) := ⟨_, rfl⟩
      rw [← hX] at hx
      have HX := hid hX; clear hX
      go_wp2_with (first
        | (go_at_call 144; refine (down_any _ _ _ _ (lo + k) Z mb k _ r1 r2 (by omega) (by omega) (by omega) (by omega) (by omega) hK.out.map).mono ?_; rintro e w3 ⟨rfl, hg3, hM3⟩; rw [← HX.out]; have hrow2 := RowV.past hrow hg3 hmL; have HK2 := hid (LT.call hK.out hg3 hM3); have hs2 := Nat.lt_of_lt_of_le hzL hg3.size; clear hg3 hM3)
        | (at_builtin; refine wpList_append_own _ rfl _ _ 28 rfl (L + 1) 3 i0 (.int .i64 0) 1 8 Tryz.underlying28 hi hz0 hz1 hz2 rfl (by decide) _ _ _ rfl (World.ownsRow.alloc hrow2 _) ⟨w3.heap.size, 0, none⟩ 1 1 [.int .i64 (x : Int)] rfl rfl cell_one_at one_cell (by unfold maxLen; omega) (by omega) (by simp; omega) ?_; intro v1 w4 hown4 hgrow4 _))
      go_roundw
      case rel => exact ⟨k + 1, by omega, by go_num, by rw [ratesL_succ, ← HX.out]; exact row_append rfl hown4, HK2.out.append hrow2 hgrow4⟩
      case measure => simp [intOf]; omega
    · obtain rfl : k = n + 1 := by omega
      have hgt : ¬ lo + ((n + 1 : Nat) : Int) ≤ lo + n := by omega
      go_wp2
      go_ret2
      exact ⟨_, rfl, hrow.reads, hK.out.low⟩
end Go.Proofs.YtihbjimnjhfpeaaGreat.Lt

/- Walks of Table of both where there is none: contracts. -/
namespace Go.Proofs.YtihbjimnjhfpeaaGreat.Lt
open Go.RowKit Go.Lib

def tabB (lo hi : Int) : Bool := decide (-1000 ≤ lo) && decide (lo ≤ 2000) && (decide (lo ≤ hi) && decide (hi ≤ 2000)) && decide (hi - lo ≤ 1000)
def tabE (v : Bool) : Int := if v then 7 else 1

set_option maxHeartbeats 4000000 in
theorem lTable_no (s : ByteArray) (r z d g : Int) (w : World) (hs : s.size ≤ maxLen) (lo hi : Int) (h : (validB s.data.toList r z d g && tabB lo hi) = false) :
    Calls Tryz.prog 112 #[.agg #[.string s, .int .i64 r, .int .i64 z, .int .i64 d, .int .i64 g], .int .i64 lo, .int .i64 hi] w fun e w' => e = .returned (.tuple #[.slice none 0 0, .int .i64 (tabE (validB s.data.toList r z d g))]) ∧ Below w.heap.size w w' := by
  cases hv : validB s.data.toList r z d g
  · go_enter Tryz.func112, Tryz.ntmps112
    go_wp2_with (first | (go_at_call 65; refine (lvalid_any _ _ _ _ _ _ hs).mono ?_; rintro e w1 ⟨rfl, hb⟩; obtain ⟨b0, b1, b2, b3, b4, hz, hB⟩ := box5_below hb; clear hb) | (go_at_call 104; refine (within_any _ _ _ _).mono ?_; rintro e w1 ⟨rfl, rfl⟩))
    go_ret2
    exact ⟨rfl, hB⟩
  rw [hv, Bool.true_and] at h
  cases h1 : (decide (-1000 ≤ lo) && decide (lo ≤ 2000))
  · go_enter Tryz.func112, Tryz.ntmps112
    go_wp2_with (first | (go_at_call 65; refine (lvalid_any _ _ _ _ _ _ hs).mono ?_; rintro e w1 ⟨rfl, hb⟩; obtain ⟨b0, b1, b2, b3, b4, hz, hB⟩ := box5_below hb; clear hb) | (go_at_call 104; refine (within_any _ _ _ _).mono ?_; rintro e w1 ⟨rfl, rfl⟩))
    go_ret2
    exact ⟨rfl, hB⟩
  cases h2 : (decide (lo ≤ hi) && decide (hi ≤ 2000))
  · go_enter Tryz.func112, Tryz.ntmps112
    go_wp2_with (first | (go_at_call 65; refine (lvalid_any _ _ _ _ _ _ hs).mono ?_; rintro e w1 ⟨rfl, hb⟩; obtain ⟨b0, b1, b2, b3, b4, hz, hB⟩ := box5_below hb; clear hb) | (go_at_call 104; refine (within_any _ _ _ _).mono ?_; rintro e w1 ⟨rfl, rfl⟩))
    go_ret2
    exact ⟨rfl, hB⟩
  have h3 : ¬ hi - lo ≤ 1000 := by
    unfold tabB at h; rw [h1, h2] at h; simpa using h
  have l1 : -1000 ≤ lo ∧ lo ≤ 2000 := by simpa using h1
  have l2 : lo ≤ hi ∧ hi ≤ 2000 := by simpa using h2
  obtain ⟨l1, l3⟩ := l1
  obtain ⟨l2, l4⟩ := l2
  go_enter Tryz.func112, Tryz.ntmps112
  go_wp2_with (first | (go_at_call 65; refine (lvalid_any _ _ _ _ _ _ hs).mono ?_; rintro e w1 ⟨rfl, hb⟩; obtain ⟨b0, b1, b2, b3, b4, hz, hB⟩ := box5_below hb; clear hb) | (go_at_call 104; refine (within_any _ _ _ _).mono ?_; rintro e w1 ⟨rfl, rfl⟩))
  go_ret2
  exact ⟨rfl, hB⟩


theorem RowR.shape {w : World} {v : Value} {l : List Nat} (h : RowR w v l) (hl : l ≠ []) : ∃ g cap, v = .slice (some ⟨g, 0, none⟩) l.length cap ∧ ∀ k (h : k < l.length), w.cell? ⟨g, k, none⟩ = some (.int .i64 (l[k] : Nat)) := by
  rcases h with ⟨_, h⟩ | h
  · exact absurd h hl
  · exact h
end Go.Proofs.YtihbjimnjhfpeaaGreat.Lt

/- Walks of a meter's rate function and of meterDown: contracts. -/
namespace Go.Proofs.YtihbjimnjhfpeaaGreat
open Go.RowKit Go.Lib Go.Maps

/-- The map of a meter, as it reads: f of lo, lo + 1, .. -/
def MapT (f : Int → Nat) (lo : Int) (n : Nat) (w : World) (b : Nat) : Prop :=
  ∃ D : DataW Unit, w.ownsMap Tryz.prog 3 (plainElem Tryz.prog 3) b n D ∧ IsMap D ∧ ∀ j, j < n → D.atKey (.int .i64 (lo + (j : Nat))) (.lit (.int .i64 0)) = .lit (.int .i64 (f (lo + (j : Nat)) : Nat))
theorem MapT.kept {f : Int → Nat} {lo : Int} {n b : Nat} {w w' : World} {row : Option Nat} (h : MapT f lo n w b) (hg : w.grownBy w' row) (hne : some b ≠ row) : MapT f lo n w' b := by
  obtain ⟨D, h1, h2⟩ := h
  exact ⟨D, h1.kept hg hne, h2⟩
theorem MapT.lt {f : Int → Nat} {lo : Int} {n b : Nat} {w : World} (h : MapT f lo n w b) : b < w.heap.size := by
  obtain ⟨D, h1, _⟩ := h
  exact h1.lt
theorem MapT.isMap {f : Int → Nat} {lo : Int} {n b : Nat} {w : World} (h : MapT f lo n w b) : ∃ o : Obj, w.heap[b]? = some o ∧ o.isCells = false := by
  obtain ⟨D, ⟨es, clock, h1, _⟩, _⟩ := h
  exact ⟨_, h1, rfl⟩
theorem mapT_made (f : Int → Nat) (lo : Int) (w : World) : MapT f lo 0 (w.alloc (.map #[] 0)) w.heap.size :=
  ⟨.map [], World.ownsMap_made _ _ _ _, isMap_empty, fun _ h => absurd h (Nat.not_lt_zero _)⟩
theorem mapT_put {f : Int → Nat} {lo : Int} {n b : Nat} {w : World} {D : DataW Unit} (hD : IsMap D) (hj : ∀ j, j < n → D.atKey (.int .i64 (lo + (j : Nat))) (.lit (.int .i64 0)) = .lit (.int .i64 (f (lo + (j : Nat)) : Nat)))
    (h : w.ownsMap Tryz.prog 3 (plainElem Tryz.prog 3) b (n + 1) (D.put (.int .i64 (lo + (n : Nat))) (.lit (.int .i64 (f (lo + (n : Nat)) : Nat))))) : MapT f lo (n + 1) w b := by
  refine ⟨_, h, hD.put _ _, fun j hlt => ?_⟩
  by_cases e : j = n
  · subst e
    exact atKey_put_same hD (by constructor) _ _
  · have hne : (Lit.int .i64 (lo + (j : Nat))) ≠ .int .i64 (lo + (n : Nat)) := by
      intro he; injection he with _ he; omega
    rw [atKey_put_other hne]
    exact hj j (by omega)
/-- The look-up of a quarter that the map has. -/
theorem MapT.run {f : Int → Nat} {lo q : Int} {n b : Nat} {w : World} (h : MapT f lo n w b) (h1 : lo ≤ q) (h2 : q < lo + n) (b1 : -1000000 ≤ q) (b2 : q ≤ 1000000) :
    (Instr.lookup 121 (.map (some b)) (.int .i64 q) false).run Tryz.prog w = .ok (.int .i64 (f q : Nat)) w := by
  obtain ⟨D, h3, _, h4⟩ := h
  obtain ⟨c, hrun, hat, _⟩ := h3.lookup_int Lt.law_int Tryz.underlying121 Tryz.underlying3 (Lt.zero_int _) (Lt.key_int (t := q) (by omega) (by omega))
  have h5 := h4 (q - lo).toNat (by omega)
  have e : lo + ((q - lo).toNat : Nat) = q := by omega
  rw [e] at h5
  rw [h5] at hat
  have : c = (f q : Nat) := by simpa using hat.symm
  rw [hrun, this]

set_option maxRecDepth 20000 in
set_option maxHeartbeats 2000000 in
theorem rate1_any (f : Int → Nat) (lo t : Int) (n kb mb : Nat) (w : World) (hk : w.cell? ⟨kb, 0, none⟩ = some (.map (some mb))) (hm : MapT f lo n w mb) (h1 : lo ≤ t / 250) (h2 : t / 250 < lo + n) (b1 : -50000 ≤ t) (b2 : t ≤ 200000) :
    Calls Tryz.prog 113 #[.int .i64 t, .pointer (some ⟨kb, 0, none⟩)] w fun e w' => e = .returned (.int .i64 (f (t / 250) : Nat)) ∧ ∃ n, w' = w.drewN n := by
  have hr := hm.run h1 h2 (by omega) (by omega)
  have hr' : (Instr.lookup 121 (.map (some mb)) (.int .i64 (t / 250)) false).run Tryz.prog w.drew = .ok (.int .i64 (f (t / 250) : Nat)) w.drew := MapT.run (w := w.drew) hm h1 h2 (by omega) (by omega)
  clear hm hr h1 h2
  obtain ⟨qq, hqq⟩ : ∃ q : Int, q = t / 250 := ⟨_, rfl⟩
  rw [← hqq] at hr' ⊢
  have HQ := hid hqq
  clear hqq
  go_enter Tryz.func113, Tryz.ntmps113
  go_wp2
  go_region_held3 (fun w' => w'.cell? ⟨kb, 0, none⟩ = some (.map (some mb)) ∧ (Instr.lookup 121 (.map (some mb)) (.int .i64 qq) false).run Tryz.prog w' = .ok (.int .i64 (f qq : Nat)) w')
    (first | exact ⟨hk, hr'⟩ | assumption)
    (first
      | (go_at_call 108; refine (Lt.lQuarter_any t _ (by omega) (by omega)).mono ?_; rintro e w1 ⟨rfl, rfl⟩; rw [← HQ.out]))
  go_wp2
  go_ret
  exact ⟨rfl, 1, rfl⟩
end Go.Proofs.YtihbjimnjhfpeaaGreat
