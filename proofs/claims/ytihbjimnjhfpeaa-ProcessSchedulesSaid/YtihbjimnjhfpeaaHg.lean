/- Walks of gridOf and body: contracts. -/
import Derived.Test.YtihbjimnjhfpeaaG08
import Derived.Laws.CopyOwn
import Derived.Deep.RegionLaw
import Derived.Deep.OwnRows
namespace Go.Proofs.Ytihbjimnjhfpeaa
open Go.RowKit

theorem infoI : (Try.prog.info? 3).map (·.size) = some 1 := by kernel_rfl
theorem splice_mid {α : Type} (H Z R : List α) (T : List α) (h : T.length ≤ Z.length) : splice (H ++ (Z ++ R)) H.length T = H ++ (T ++ (Z.drop T.length ++ R)) := by
  unfold splice
  rw [List.take_left, List.drop_append, List.drop_eq_nil_of_le (by omega), List.nil_append, show H.length + T.length - H.length = T.length by omega, List.drop_append_of_le_length h]
theorem splice_grid {c : Cn} {T : List Int} {br : Bool} (h : T.length ≤ 48) : splice (gridL c ([], br)) 7 (T.map (.int .i64)) = gridL c (T, br) := by
  have e := splice_mid [Value.int .i64 (c.R : Int), .int .i64 (c.L : Int), .int .i64 c.A, .int .i64 c.B, .int .i64 c.K, .int .i64 c.A2, .int .i64 c.B2] (List.replicate 48 (.int .i64 0)) [.bool br] (T.map (.int .i64)) (by rw [List.length_replicate, List.length_map]; exact h)
  rw [List.drop_replicate, List.length_map] at e
  exact e
theorem new_at {W : World} {o : Obj} {n : Nat} (h : W.heap.size = n) : (W.alloc o).heap[n]? = some o := by subst h; exact heap_alloc_new W o
/-- What gridOf's boxes hold when the can is laid into the grid. -/
theorem gridOf_start {w W5 : World} {A B Z Z2 cs : Array Value} {TA TB : TypeId} (hW : ((((w.alloc (.cells A TA)).alloc (.cells B TB)).alloc (.cells Z 113)).alloc (.cells Z2 113)).setRow (w.heap.size + 1 + 1 + 1) cs = W5) :
    W5.heap[w.heap.size + 1 + 1 + 1]? = some (.cells cs 113 (0, 0)) ∧ W5.heap[w.heap.size + 1 + 1]? = some (.cells Z 113 (0, 0)) ∧ (∀ i, W5.cell? ⟨w.heap.size + 1, i, none⟩ = B[i]?) ∧ Below w.heap.size w W5 := by
  subst hW
  have h2 := box2_start (w := w) (A := A) (B := B) (T := TA) (T' := TB) (fz := (0, 0)) (fz' := (0, 0))
  have hs : ((w.alloc (.cells A TA)).alloc (.cells B TB)).heap.size = w.heap.size + 1 + 1 := by simp
  generalize (w.alloc (.cells A TA)).alloc (.cells B TB) = W2 at h2 hs
  have hb : Below W2.heap.size W2 (((W2.alloc (.cells Z 113)).alloc (.cells Z2 113)).setRow (w.heap.size + 1 + 1 + 1) cs) :=
    (((Below.refl _ W2).alloc (Nat.le_refl _) (.cells Z 113)).alloc (by simp) (.cells Z2 113)).trans ⟨rfl, rfl, rfl, by simp, fun k hk => setRow_other _ _ _ _ (by omega)⟩
  refine ⟨setRow_heap _ _ _ _ _ _ (new_at (by simp [hs])), ?_, fun i => (h2.keep hb).snd i, (h2.keep hb).low⟩
  rw [setRow_other _ _ _ _ (by omega), Below.heap_alloc _ _ _ (by simp [hs])]
  exact new_at hs
/-- A body's temperatures, as they are read. -/
theorem RowI.some {w : World} {v : Value} {l : List Int} (h : RowI w v l) (h0 : 0 < l.length) : ∃ b o cap, v = .slice (some ⟨b, o, none⟩) l.length cap ∧ ∀ k (h : k < l.length), w.cell? ⟨b, o + k, none⟩ = some (.int .i64 l[k]) := by
  rcases h with ⟨a, c, rfl, rfl⟩ | ⟨b, o, cap, rfl, _, hc⟩
  · simp at h0
  · exact ⟨b, o, cap, rfl, hc⟩
theorem src_cells {w : World} {b o : Nat} {l : List Int} (hc : ∀ k (h : k < l.length), w.cell? ⟨b, o + k, none⟩ = some (.int .i64 l[k])) : ∀ j v, (l.map (.int .i64))[j]? = some v → w.cell? ((⟨b, o, none⟩ : Addr).add j) = some v := by
  intro j v h
  have hj : j < l.length := by have := (List.getElem?_eq_some_iff.1 h).1; simpa using this
  have hadd : (⟨b, o, none⟩ : Addr).add j = ⟨b, o + j, none⟩ := by unfold Addr.add; split <;> simp_all
  rw [hadd, hc j hj, ← h]
  simp [hj]
theorem ints_one (l : List Int) : ∀ v ∈ l.map (Value.int .i64), v.oneCell' = true := by
  intro v hv
  simp only [List.mem_map] at hv
  obtain ⟨x, _, rfl⟩ := hv
  rfl

set_option maxRecDepth 20000 in
set_option maxHeartbeats 8000000 in
theorem gridOf_any (c : Cn) (T : List Int) (br : Bool) (v : Value) (w : World) (hl : RowI w v T) (h0 : 0 < T.length) (h48 : T.length ≤ 48) :
    Calls Try.prog 75 #[.agg #[.int .i64 (c.R : Int), .int .i64 (c.L : Int), .int .i64 c.A, .int .i64 c.B, .int .i64 c.K, .int .i64 c.A2, .int .i64 c.B2], .agg #[v, .bool br]] w fun e w' => e = .returned (.agg (gridA c (T, br))) ∧ Below w.heap.size w w' := by
  have HL := hid (fun w1 (g : Below w.heap.size w w1) => hl.keep g)
  obtain ⟨ba, oa, cap, rfl, _⟩ := hl.some h0
  clear hl
  obtain ⟨b0, b1, b2', b3, b4, b5, b6, x0, x1, hz, hB⟩ := nine_start (w := w) (c0 := .int .i64 c.R) (c1 := .int .i64 c.L) (c2 := .int .i64 c.A) (c3 := .int .i64 c.B) (c4 := .int .i64 c.K) (c5 := .int .i64 c.A2) (c6 := .int .i64 c.B2) (d0 := .slice (some ⟨ba, oa, none⟩) T.length cap) (d1 := .bool br) (T := 31) (T' := 61) (fz := (0, 0)) (fz' := (0, 0))
  go_enter Try.func75, Try.ntmps75
  go_wp2_with (refine wpList_store_row rfl 113 _ _ rfl (w.heap.size + 1 + 1 + 1) (gridA c ([], br)) rfl rfl 113 _ (new_at (by simp)) (infoGx c ([], br) (by simp)) (by rw [gridA_size (by simp)]; rfl) (gridA_one _ _) ?_; generalize hW : World.setRow _ _ _ = W5; have HS := hid (gridOf_start hW); clear hW)
  obtain ⟨Z, HS, hZs⟩ : ∃ Z : Array Value, Hid (W5.heap[w.heap.size + 1 + 1 + 1]? = some (.cells (gridA c ([], br)) 113 (0, 0)) ∧ W5.heap[w.heap.size + 1 + 1]? = some (.cells Z 113 (0, 0)) ∧ (∀ i, W5.cell? ⟨w.heap.size + 1, i, none⟩ = (#[Value.slice (some ⟨ba, oa, none⟩) T.length cap, .bool br] : Array Value)[i]?) ∧ Below w.heap.size w W5) ∧ Z.size = 56 := ⟨_, HS, rfl⟩
  have k0 : W5.cell? ⟨w.heap.size + 1, 0, none⟩ = some (.slice (some ⟨ba, oa, none⟩) T.length cap) := HS.out.2.2.1 0
  have HC : Hid (∀ k (h : k < T.length), W5.cell? ⟨ba, oa + k, none⟩ = some (.int .i64 T[k])) := by
    rcases HL.out _ HS.out.2.2.2 with ⟨a, cc, h1, h2⟩ | ⟨b', o', cc, h1, _, hc⟩
    · rw [h2] at h0; simp at h0
    · cases h1; exact hc
  have hmin : (T.map (Value.int .i64)).length = Nat.min T.length 48 := by rw [List.length_map]; exact (Nat.min_eq_left h48).symm
  have HMIN := hid hmin
  have hfit : 7 + (T.map (Value.int .i64)).length ≤ (gridL c ([], br)).length := by rw [gridL_len (by simp), List.length_map]; omega
  have HFIT := hid hfit
  have HZS := hid hZs
  clear hmin hfit hZs b0 b1 b2' b3 b4 b5 b6 x0 x1 hz hB HL
  go_region_law (refine step_copy_splice rfl (.tmp 11) (.tmp 13) 44 44 rfl 3 Try.underlying44 infoI (some ⟨w.heap.size + 1 + 1 + 1, 7, none⟩) (some ⟨ba, oa, none⟩) 48 48 T.length cap rfl rfl (w.heap.size + 1 + 1 + 1) 7 (gridL c ([], br)) 113 HS.out.1 (T.map (Value.int .i64)) HMIN.out (fun _ => ⟨rfl, _, rfl, src_cells HC.out⟩) HFIT.out (ints_one T) (w.heap.size + 1 + 1 + 1) W5 (Below.refl _ W5).drew (Nat.le_refl _) ?_; intro w6 HG6 hB6)
  have hg6 := HG6.out
  rw [splice_grid h48] at hg6
  have HR := hid (And.intro (show GridAt w6 (w.heap.size + 1 + 1 + 1) c (T, br) from hg6) (And.intro ((hB6.block (w.heap.size + 1 + 1) (by omega)).trans HS.out.2.1) (HS.out.2.2.2.trans (hB6.mono (by omega)))))
  clear hg6 HG6 hB6 k0 HS
  go_wp2_with (first
    | (refine wpList_load_row rfl 113 _ rfl (w.heap.size + 1 + 1 + 1) rfl 113 (gridA c (T, br)) (0, 0) _ HR.out.1 Try.underlying113 rfl (infoGx c (T, br) h48) ?_)
    | (refine wpList_store_row rfl 113 _ _ rfl (w.heap.size + 1 + 1) (gridA c (T, br)) rfl rfl 113 _ HR.out.2.1 (infoGx c (T, br) h48) (by rw [gridA_size h48, HZS.out]) (gridA_one c (T, br)) ?_))
  refine bodyPost_ret (results_cell_row Try.results75 _ _ (w.heap.size + 1 + 1) 113 (gridA c (T, br)) (0, 0) _ rfl (setRow_heap _ _ _ _ _ _ HR.out.2.1) Try.underlying113 rfl (infoGx c (T, br) h48)) rfl ?_
  exact ⟨rfl, HR.out.2.2.trans ⟨rfl, rfl, rfl, by simp, fun k hk => setRow_other _ _ _ _ (by omega)⟩⟩

/-- A row of ints in memory that is new since w. -/
def RowN (w W : World) (v : Value) (T : List Int) : Prop := ∃ g, v = .slice (some ⟨g, 0, none⟩) T.length T.length ∧ w.heap.size ≤ g ∧ W.heap[g]? = some (.cells (T.map (.int .i64)).toArray 3 (0, 0))
/-- A body comes back: its temperatures in new memory. -/
def BodyP (x : Bd) (w : World) (e : Ending) (w' : World) : Prop := ∃ v, e = .returned (.agg #[v, .bool x.2]) ∧ RowN w w' v x.1 ∧ Below w.heap.size w w'
theorem body_low {w w1 : World} {o : Obj} (hd : ∃ n, w1 = (w.alloc o).drewN n) : Below w.heap.size w w1 := by obtain ⟨n, rfl⟩ := hd; exact bdrewN ((Below.refl _ w).alloc (Nat.le_refl _) _)
theorem body_mid {w w1 w6 : World} {T : TypeId} (hd : ∃ n, w1 = (w.alloc (.cells #[.slice none 0 0, .bool false] T)).drewN n) (hB6 : Below w1.heap.size w1 w6) :
    w6.cell? ⟨w.heap.size, 0, none⟩ = some (.slice none 0 0) ∧ w6.cell? ⟨w.heap.size, 1, none⟩ = some (.bool false) ∧ w6.frozen? ⟨w.heap.size, 0, none⟩ = false ∧ w6.frozen? ⟨w.heap.size, 1, none⟩ = false ∧ w.heap.size < w1.heap.size ∧ Below w.heap.size w w6 := by
  obtain ⟨n, rfl⟩ := hd
  have hz : w.heap.size < ((w.alloc (.cells #[.slice none 0 0, .bool false] T)).drewN n).heap.size := by simp
  have hb := hB6.block w.heap.size hz
  have hn : w6.heap[w.heap.size]? = some (.cells #[.slice none 0 0, .bool false] T (0, 0)) := hb.trans (heap_alloc_new w _)
  exact ⟨cell_of_row _ _ 0 _ _ _ hn, cell_of_row _ _ 1 _ _ _ hn, frozen_of_row _ _ 0 _ _ hn, frozen_of_row _ _ 1 _ _ hn, hz, (bdrewN ((Below.refl _ w).alloc (Nat.le_refl _) _)).trans (hB6.mono (Nat.le_of_lt hz))⟩
theorem infoIf : (Try.prog.info? 3).map (fun i => (i.zero, i.size, i.bytes)) = some (some (.int .i64 0), 1, 8) := by kernel_rfl
theorem rowI_of_block {W : World} {g cap : Nat} {l : List Int} {t : TypeId} {fr : Nat × Nat} (h : W.heap[g]? = some (.cells (l.map (.int .i64)).toArray t fr)) (hm : l.length ≤ 1000000) : RowI W (.slice (some ⟨g, 0, none⟩) l.length cap) l := by
  refine .inr ⟨g, 0, cap, rfl, by unfold maxLen; omega, fun k hk => ?_⟩
  rw [Nat.zero_add, cell_of_row W g k _ t fr h]
  simp [hk]
theorem RowN.read {w W : World} {v : Value} {T : List Int} (h : RowN w W v T) (hm : T.length ≤ 1000000) : RowI W v T := by
  obtain ⟨g, rfl, _, hg⟩ := h
  exact rowI_of_block hg hm
theorem made_at (W : World) (n : Nat) (t : TypeId) : (W.alloc (.cells (madeCells #[.int .i64 0] n) t)).heap[W.heap.size]? = some (.cells (List.replicate n (Value.int .i64 0)).toArray t (0, 0)) := by
  rw [heap_alloc_new, ← toList_madeCells_one]
theorem splice_made (T : List Int) (n : Nat) (h : T.length = n) : splice (List.replicate n (Value.int .i64 0)) 0 (T.map (.int .i64)) = T.map (.int .i64) := by
  have e := splice_mid [] (List.replicate n (Value.int .i64 0)) [] (T.map (.int .i64)) (by rw [List.length_map, List.length_replicate, h]; exact Nat.le_refl _)
  rw [List.length_map, h, List.drop_replicate, Nat.sub_self] at e
  simpa using e
set_option maxRecDepth 20000 in
set_option maxHeartbeats 4000000 in
theorem body_any (b : Nat) (c : Cn) (x : Bd) (w : World) (hG : GridAt w b c x) (hc : c.Ok) (hlen : x.1.length = c.P) :
    Calls Try.prog 77 #[.pointer (some ⟨b, 0, none⟩)] w (BodyP x w) := by
  obtain ⟨p1, p2⟩ := hc.p
  have h48 : x.1.length ≤ 48 := by omega
  have HG := hid hG; have HOK := hid hc; have HLEN := hid hlen
  have hbl : b < w.heap.size := (Array.getElem?_eq_some_iff.1 hG).1
  have HR0 := hid (box1_start (w := w) (A := #[.slice none 0 0, .bool false]) (T := 61) (fz := (0, 0)))
  have HF0 := hid (fun i => frozen_of_row (w.alloc (.cells #[.slice none 0 0, .bool false] 61)) w.heap.size i _ _ (heap_alloc_new w _))
  have hmk := run_make_row' (P := Try.prog) 44 3 (.int .i64 0) 8 Try.underlying44 infoIf rfl .i64 .i64 c.P (by omega) (by omega)
  have hmin : (x.1.map (Value.int .i64)).length = Nat.min 48 c.P := by rw [List.length_map, hlen]; exact (Nat.min_eq_right p2).symm
  have HMIN := hid hmin
  have hfit : 0 + (x.1.map (Value.int .i64)).length ≤ (List.replicate c.P (Value.int .i64 0)).length := by rw [List.length_map, List.length_replicate]; omega
  have HFIT := hid hfit
  clear hG hlen hmin hfit
  go_enter Try.func77, Try.ntmps77
  go_wp2_with (first
    | (go_at_call 86; refine (gplaces_any b c x _ ((HG.out.keep ((Below.refl _ w).alloc (Nat.le_refl _) _)).read h48) HOK.out).mono ?_; rintro e w1 ⟨rfl, hd⟩; have HD := hid hd; have hB1 := body_low hd; clear hd)
    | (refine wpList_copy_splice rfl (.tmp 7) (.tmp 11) 44 44 rfl 3 Try.underlying44 infoI (some ⟨w1.heap.size, 0, none⟩) (some ⟨b, 7, none⟩) c.P c.P 48 48 rfl rfl w1.heap.size 0 (List.replicate c.P (Value.int .i64 0)) 3 (made_at w1 c.P 3) (x.1.map (Value.int .i64)) HMIN.out (fun _ => ⟨rfl, _, rfl, src_cells (fun k h => ((HG.out.keep (hB1.trans (((Below.refl _ w1).alloc (Nat.le_refl _) _).mono hB1.size))).read h48).temp k h)⟩) HFIT.out (ints_one x.1) w1.heap.size w1 ((Below.refl _ w1).alloc (Nat.le_refl _) _) (Nat.le_refl _) ?_; intro w6 HG6 hB6; obtain ⟨k0, k1, k2, k3, k4, k5⟩ := body_mid HD.out hB6; have k6 := ((HG.out.keep k5).read h48).brk; have HB6 := hid k5; clear hB6))
  have hg6 := HG6.out
  rw [splice_made x.1 c.P HLEN.out] at hg6
  rw [← HLEN.out]
  refine bodyPost_ret (v := .agg #[.slice (some ⟨w1.heap.size, 0, none⟩) x.1.length x.1.length, .bool x.2]) (by simp [results, Try.results77, go_sem, k0, k1]) rfl ⟨_, rfl, ?_, ?_⟩
  · refine ⟨_, rfl, Nat.le_of_lt k4, ?_⟩
    rw [heap_setCell_other _ _ _ _ (by show w1.heap.size ≠ w.heap.size; omega), heap_setCell_other _ _ _ _ (by show w1.heap.size ≠ w.heap.size; omega)]
    exact hg6
  · exact (k5.setCell (p := ⟨w.heap.size, 0, none⟩) (Nat.le_refl _) _).setCell (p := ⟨w.heap.size, 1, none⟩) (Nat.le_refl _) _
end Go.Proofs.Ytihbjimnjhfpeaa
