/- Texts of this seat, one behind the other. -/
import Derived.Test.YtihbjimnjhfpeaaGreatR02
import Derived.Laws.Rows
import Derived.Laws.Tables
import Derived.StillTailTactics
import Derived.Deep.LoopGhost
import Derived.Laws.CopyOwn
import Derived.Deep.RegionLaw
import Derived.Deep.OwnRows
/- Walk of after: contract. -/
namespace Go.Proofs.YtihbjimnjhfpeaaGreat
open Go.RowKit

theorem infoG : (Tryz.prog.info? 208).map (·.size) = some 56 := by kernel_rfl
theorem infoGx (c : Cn) (x : Bd) (h : x.1.length ≤ 48) : (Tryz.prog.info? 208).map (·.size) = some (gridA c x).size := by rw [gridA_size h]; exact infoG
theorem gridA_one (c : Cn) (x : Bd) : (gridA c x).all (·.oneCell') = true := by
  rw [Array.all_eq_true_iff_forall_mem]
  intro v hv
  simp only [gridA, List.mem_toArray, gridL, List.mem_append, List.mem_map, List.mem_cons, List.mem_replicate, List.not_mem_nil, or_false] at hv
  rcases hv with (rfl | rfl | rfl | rfl | rfl | rfl | rfl) | ⟨_, _, rfl⟩ | ⟨_, rfl⟩ | rfl <;> rfl

/-- The temperatures when n places have been reckoned. -/
def midT (T' T : List Int) (n : Nat) : List Int := T'.take n ++ T.drop n
theorem midT_len {T' T : List Int} {n : Nat} (h : T'.length = T.length) : (midT T' T n).length = T.length := by simp [midT]; omega
theorem midT_zero (T' T : List Int) : midT T' T 0 = T := by simp [midT]
theorem midT_all {T' T : List Int} {n : Nat} (h : T'.length = T.length) (hn : n = T.length) : midT T' T n = T' := by
  subst hn; unfold midT; rw [List.drop_length, List.append_nil, ← h, List.take_length]
theorem midT_set {T' T : List Int} {n : Nat} (h : T'.length = T.length) (hn : n < T'.length) : (midT T' T n).set n T'[n] = midT T' T (n + 1) := by
  apply List.ext_getElem?
  intro j
  unfold midT
  rw [List.getElem?_set, List.getElem?_append, List.getElem?_append, List.length_append, List.length_take, List.length_take, List.length_drop, List.getElem?_take, List.getElem?_take, List.getElem?_drop, List.getElem?_drop]
  by_cases h1 : n = j
  · subst h1
    rw [if_pos rfl, if_pos (by omega), if_pos (by omega), if_pos (by omega), List.getElem?_eq_getElem hn]
  · rw [if_neg h1]
    by_cases h2 : j < n
    · rw [if_pos (by omega), if_pos h2, if_pos (by omega), if_pos (by omega)]
    · rw [if_neg (by omega), if_neg (by omega)]
      congr 1; omega
theorem gridA_set {c : Cn} {y : List Int} {br : Bool} {n : Nat} (v : Int) (hn : n < y.length) : (gridA c (y, br)).setIfInBounds (7 + n) (.int .i64 v) = gridA c (y.set n v, br) := by
  unfold gridA
  rw [List.setIfInBounds_toArray]
  congr 1
  unfold gridL
  dsimp only
  rw [List.set_append_right _ _ (by simp), List.set_append_left _ _ (by simp; omega)]
  simp [List.map_set]
theorem gridA_break {c : Cn} {y : List Int} {br : Bool} (hy : y.length ≤ 48) : (gridA c (y, br)).setIfInBounds 55 (.bool true) = gridA c (y, true) := by
  unfold gridA
  rw [List.setIfInBounds_toArray]
  congr 1
  unfold gridL
  dsimp only
  rw [List.set_append_right _ _ (by simp), List.set_append_right _ _ (by simp; omega), List.set_append_right _ _ (by simp)]
  simp
  try rw [show 48 - y.length - (48 - y.length) = 0 by omega]
  try rfl
theorem gridC_any {w w1 : World} {b : Nat} {c : Cn} {x : Bd} (h : GridC w b c x) (he : w1.heap = w.heap) : GridC w1 b c x := by
  have hc : ∀ i, w1.cell? ⟨b, i, none⟩ = w.cell? ⟨b, i, none⟩ := fun i => World.cell?_of_block (a := ⟨b, i, none⟩) (by rw [he])
  exact ⟨(hc _).trans h.c0, (hc _).trans h.c1, (hc _).trans h.c2, (hc _).trans h.c3, (hc _).trans h.c4, (hc _).trans h.c5, (hc _).trans h.c6, fun j hj => (hc _).trans (h.temp j hj), (hc _).trans h.brk⟩
theorem GridAt.keep {w w1 : World} {b : Nat} {c : Cn} {x : Bd} (h : GridAt w b c x) (hb : Below w.heap.size w w1) : GridAt w1 b c x := (hb.block b (Array.getElem?_eq_some_iff.1 h).1).trans h
theorem Warm.same {c : Cn} {x : Bd} {br : Bool} (h : Warm c x) : Warm c (x.1, br) := ⟨h.len, h.bd⟩
theorem heap_drewN {w w1 : World} (h : ∃ n, w1 = w.drewN n) : w1.heap = w.heap := by obtain ⟨n, rfl⟩ := h; rfl
/-- What the loops of after stand on: the new grid, n of whose places are reckoned, the result's block, and what lay before. -/
structure AfI (w : World) (c : Cn) (x : Bd) (T' : List Int) (Z : Array Value) (n : Nat) (wr : World) : Prop where
  grid : GridAt wr (w.heap.size + 1) c (midT T' x.1 n, x.2)
  res : wr.heap[w.heap.size]? = some (.cells Z 208 (0, 0))
  low : Below w.heap.size w wr
theorem after_start {w W1 : World} {c : Cn} {x : Bd} {A B : Array Value} (T' : List Int) (hW : (((w.alloc (.cells A 208)).alloc (.cells B 208)).setRow (w.heap.size + 1) (gridA c x)) = W1) : AfI w c x T' A 0 W1 := by
  subst hW
  refine ⟨?_, ?_, ?_⟩
  · rw [midT_zero]
    exact setRow_heap _ _ _ _ _ _ (heap_alloc2_new w _ _)
  · rw [setRow_other _ _ _ _ (by omega)]
    exact heap_alloc2_old w _ _
  · refine (((Below.refl _ w).alloc (Nat.le_refl _) (.cells A 208)).alloc (by simp) (.cells B 208)).trans ⟨rfl, rfl, rfl, by simp, fun k hk => setRow_other _ _ _ _ (by omega)⟩
theorem AfI.set {w wr w2 : World} {c : Cn} {x : Bd} {T' : List Int} {Z : Array Value} {n : Nat} (h : AfI w c x T' Z n wr) (he : ∃ m, w2 = wr.drewN m) (hl : T'.length = x.1.length) (hn : n < T'.length) : AfI w c x T' Z (n + 1) (w2.setCell ⟨w.heap.size + 1, 7 + n, none⟩ (.int .i64 T'[n])) := by
  have hh := heap_drewN he
  refine ⟨?_, ?_, ?_⟩
  · have hg : w2.heap[w.heap.size + 1]? = some (.cells (gridA c (midT T' x.1 n, x.2)) 208 (0, 0)) := by rw [hh]; exact h.grid
    have := heap_setCell_same w2 (w.heap.size + 1) (7 + n) _ _ (.int .i64 T'[n]) hg
    unfold GridAt
    rw [this, gridA_set _ (by rw [midT_len hl]; omega), midT_set hl hn]
  · rw [heap_setCell_other _ _ _ _ (by show w.heap.size ≠ w.heap.size + 1; omega), hh]
    exact h.res
  · obtain ⟨m, rfl⟩ := he
    exact (bdrewN h.low).setCell (p := ⟨w.heap.size + 1, 7 + n, none⟩) (Nat.le_succ _) _

theorem hHd {w w1 : World} {b : Nat} {o : Obj} (hh : w1.heap = w.heap) (h : w.heap[b]? = some o) : w1.heap[b]? = some o := by rw [hh]; exact h
theorem after_low {w wr w3 : World} (hd : ∃ n, w3 = wr.drewN n) (h : Below w.heap.size w wr) : Below w.heap.size w w3 := by obtain ⟨n, rfl⟩ := hd; exact bdrewN h
theorem after_brk {w w3 : World} {c : Cn} {T' : List Int} {br : Bool} {Z : Array Value} (h1 : w3.heap[w.heap.size + 1]? = some (.cells (gridA c (T', br)) 208 (0, 0))) (h2 : w3.heap[w.heap.size]? = some (.cells Z 208 (0, 0))) (h3 : Below w.heap.size w w3) (h48 : T'.length ≤ 48) :
    (w3.setCell ⟨w.heap.size + 1, 55, none⟩ (.bool true)).heap[w.heap.size + 1]? = some (.cells (gridA c (T', true)) 208 (0, 0)) ∧ (w3.setCell ⟨w.heap.size + 1, 55, none⟩ (.bool true)).heap[w.heap.size]? = some (.cells Z 208 (0, 0)) ∧ Below w.heap.size w (w3.setCell ⟨w.heap.size + 1, 55, none⟩ (.bool true)) := by
  refine ⟨?_, ?_, h3.setCell (p := ⟨w.heap.size + 1, 55, none⟩) (Nat.le_succ _) _⟩
  · rw [heap_setCell_same w3 (w.heap.size + 1) 55 _ _ (.bool true) h1, gridA_break h48]
  · rw [heap_setCell_other _ _ _ _ (by show w.heap.size ≠ w.heap.size + 1; omega)]
    exact h2
set_option maxRecDepth 20000 in
set_option maxHeartbeats 8000000 in
theorem after_any (b : Nat) (c : Cn) (x : Bd) (bath : Int) (w : World) (hG : GridAt w b c x) (hc : c.Ok) (hx : Warm c x) (b1 : -50000 ≤ bath) (b2 : bath ≤ 200000) :
    Calls Tryz.prog 179 #[.pointer (some ⟨b, 0, none⟩), .int .i64 bath] w fun e w' => e = .returned (.agg (gridA c (tickS c x bath))) ∧ Below w.heap.size w w' := by
  have hlen : x.1.length = c.P := hx.len
  obtain ⟨p1, p2⟩ := hc.p
  have hL8 := hc.l2
  have hR6 := hc.r2
  have h48 : x.1.length ≤ 48 := by omega
  have HG := hid hG; have HOK := hid hc; have HX := hid hx; have HLEN := hid hlen
  have hbl : b < w.heap.size := (Array.getElem?_eq_some_iff.1 hG).1
  clear hG hx hlen
  go_enter Tryz.func179, Tryz.ntmps179
  go_wp2_with (first
    | (refine wpList_load_row rfl 208 _ rfl b rfl 208 (gridA c x) (0, 0) _ ((Below.heap_alloc w _ b hbl).trans HG.out) Tryz.underlying208 rfl (infoGx c x h48) ?_)
    | (refine wpList_store_row rfl 208 _ _ rfl (w.heap.size + 1) (gridA c x) rfl rfl 208 _ (heap_alloc2_new w _ _) (infoGx c x h48) (by rw [gridA_size h48]; rfl) (gridA_one c x) ?_; generalize hW : World.setRow _ _ _ = W1; have HI := hid (after_start (tickT c.R c.L (c.a x.2) (c.b x.2) x.1 bath) hW); have hr1 := ((HG.out.keep HI.out.low).read h48).c1; clear hW))
  obtain ⟨Z, hZ, hZs⟩ : ∃ Z, AfI w c x (tickT c.R c.L (c.a x.2) (c.b x.2) x.1 bath) Z 0 W1 ∧ Z.size = 56 := ⟨_, HI.out, rfl⟩
  have HZ := hid hZ; have HZS := hid hZs
  have HTL : Hid ((tickT c.R c.L (c.a x.2) (c.b x.2) x.1 bath).length = x.1.length) := by unfold Hid; rw [tickT_len, HLEN.out]; rfl
  have HTG : Hid (∀ (p q : Nat), p < c.R → q < c.L → ∀ h : q * c.R + p < (tickT c.R c.L (c.a x.2) (c.b x.2) x.1 bath).length, (tickT c.R c.L (c.a x.2) (c.b x.2) x.1 bath)[q * c.R + p] = mixT c.R c.L (c.a x.2) (c.b x.2) x.1 bath p q) := by
    intro p q hp hq h
    rw [tickT_get, Nat.mul_comm q c.R, Nat.mul_add_mod, Nat.mod_eq_of_lt hp, Nat.mul_add_div (by omega), Nat.div_eq_of_lt hp, Nat.add_zero]
  clear HI hZ hZs hr1
  have HT' : Hid (Warm c (tickT c.R c.L (c.a x.2) (c.b x.2) x.1 bath, x.2)) := (HX.out.tick HOK.out b1 b2 : Warm c (tickS c x bath)).same
  have HTS : Hid (tickS c x bath = (tickT c.R c.L (c.a x.2) (c.b x.2) x.1 bath, brk c.K x.2 (tickT c.R c.L (c.a x.2) (c.b x.2) x.1 bath))) := rfl
  generalize tickT c.R c.L (c.a x.2) (c.b x.2) x.1 bath = T' at HZ HTL HTG HT' HTS
  go_loopg [18] c.L (fun g l wr => ∃ q : Nat, q ≤ c.L ∧ g = c.L - q ∧ l = .int .i64 (q : Int) ∧ Hid (AfI w c x T' Z (q * c.R) wr))
  case atStart => exact ⟨0, Nat.zero_le _, rfl, rfl, by rw [Nat.zero_mul]; exact HZ⟩
  case round =>
    obtain ⟨q, hq, rfl, rfl, hI⟩ := hrel
    by_cases hlt : q < c.L
    · have hr0 := ((HG.out.keep hI.out.low).read h48).c0
      have hlt' : (q : Int) < c.L := by omega
      go_wp2
      go_loopg [26] c.R (fun g2 r wi => ∃ p : Nat, p ≤ c.R ∧ g2 = c.R - p ∧ r = .int .i64 (p : Int) ∧ Hid (AfI w c x T' Z (q * c.R + p) wi))
      case atStart => exact ⟨0, Nat.zero_le _, rfl, rfl, by rw [Nat.add_zero]; exact hI⟩
      case round =>
        clear hr0
        obtain ⟨p, hp, rfl, rfl, hJ⟩ := hrel
        by_cases hlp : p < c.R
        · have hlp' : (p : Int) < c.R := by omega
          have hidx : q * c.R + p < T'.length := by rw [HTL.out, HLEN.out]; exact idx_lt hlp hlt
          have HGC := hid ((HG.out.keep hJ.out.low).read h48)
          have hr0 := HGC.out.c0
          have hml : (midT T' x.1 (q * c.R + p)).length = x.1.length := midT_len HTL.out
          have hgd := hJ.out.grid
          have hold := (hgd.read (by dsimp only; omega)).temp (q * c.R + p) (by dsimp only; rw [hml, ← HTL.out]; exact hidx)
          have hfz := frozen_of_row _ _ (7 + (q * c.R + p)) _ _ hgd
          have HNX := hid (fun w2 (he : ∃ m, w2 = wr.drewN m) => hJ.out.set he HTL.out hidx)
          have HTP := hid (HTG.out p q hlp hlt hidx)
          clear hgd
          generalize (midT T' x.1 (q * c.R + p))[q * c.R + p]'_ = old at hold
          obtain ⟨t, ht⟩ : ∃ t, t = T'[q * c.R + p] := ⟨_, rfl⟩
          rw [← ht] at HNX HTP
          clear hml ht
          have hmb : q * c.R + p < 48 := by have := HTL.out; omega
          obtain ⟨m, hm⟩ : ∃ m, m = q * c.R := ⟨_, rfl⟩
          have hm' : (q : Int) * (c.R : Int) = (m : Int) := by rw [hm, Int.natCast_mul]
          have HM := hid hm
          rw [← hm] at hold hfz HNX hmb
          have s1 : IntKind.i64.wrap ((q : Int) * (c.R : Int)) = (m : Int) := by rw [hm']; exact wrap_i64 (by omega) (by omega)
          have s2 : IntKind.i64.wrap ((m : Int) + (p : Int)) = (m : Int) + p := wrap_i64 (by omega) (by omega)
          have s3 : 0 ≤ (m : Int) + p := by omega
          have s4 : (m : Int) + p < 48 := by omega
          have s5 : ((m : Int) + p).toNat = m + p := by omega
          clear hm hm' hidx
          have HOLD := hid (fun w2 (he : ∃ n, w2 = wr.drewN n) => (World.cell?_of_block (a := ⟨w.heap.size + 1, 7 + (m + p), none⟩) (by rw [heap_drewN he])).trans hold)
          have HFZ := hid (fun w2 (he : ∃ n, w2 = wr.drewN n) => (World.frozen?_of_block (a := ⟨w.heap.size + 1, 7 + (m + p), none⟩) (by rw [heap_drewN he])).trans hfz)
          have HR0 := hid (fun w2 (he : ∃ n, w2 = wr.drewN n) => (World.cell?_of_block (a := ⟨b, 0, none⟩) (by rw [heap_drewN he])).trans hr0)
          go_wp2
          have HCT := hid ((mixed_any b c x bath p q wr.drew (gridC_any HGC.out rfl) HOK.out HX.out b1 b2 hlp hlt).mono (R' := fun e w2 => e = .returned (.int .i64 t) ∧ ∃ m, w2 = wr.drewN m) fun e w2 h => by
            obtain ⟨rfl, hd⟩ := h
            exact ⟨by rw [← HTP.out], drew_more (show ∃ n, wr.drew = wr.drewN n from ⟨1, rfl⟩) hd⟩)
          go_region_with (go_at_call 186; refine HCT.out.mono ?_; rintro e w2 ⟨rfl, hd⟩; have HD := hid hd; have k1 := HOLD.out _ HD.out; have k2 := HFZ.out _ HD.out; have k3 := HR0.out _ HD.out; clear hd)
          all_goals
            go_wp2
            go_roundg (c.R - (p + 1))
            case measure => omega
            case rel => exact ⟨p + 1, by omega, rfl, by go_num, by rw [← HM.out]; exact HNX.out _ HD.out⟩
        · obtain rfl : p = c.R := by omega
          go_wp2
          go_roundg (c.L - (q + 1))
          case measure => omega
          case rel => exact ⟨q + 1, by omega, rfl, by go_num, by rw [Nat.succ_mul]; exact hJ⟩
    · obtain rfl : q = c.L := by omega
      have hP : c.L * c.R = c.P := Nat.mul_comm _ _
      have hfin : midT T' x.1 (c.L * c.R) = T' := midT_all HTL.out (by rw [hP, ← HLEN.out])
      have hT48 : T'.length ≤ 48 := by rw [HTL.out]; exact h48
      have HGN : Hid (GridAt wr (w.heap.size + 1) c (T', x.2)) := by have := hI.out.grid; rwa [hfin] at this
      have HRES := hid hI.out.res
      have HLOW := hid hI.out.low
      clear hP hfin
      obtain ⟨j, mn, HCOLD, HMN⟩ : ∃ (j : Nat) (mn : Int), Hid (Calls Tryz.prog 187 #[.pointer (some ⟨w.heap.size + 1, 0, none⟩)] wr fun e w3 => e = .returned (.tuple #[.int .i64 (j : Int), .int .i64 mn]) ∧ ∃ n, w3 = wr.drewN n) ∧ Hid (mn = minT T') :=
        ⟨_, _, coldest_any (w.heap.size + 1) c (T', x.2) wr (HGN.out.read hT48) HOK.out HT'.out, rfl⟩
      have hK0 := HOK.out.k1
      have HC4 := hid (((HG.out.keep HLOW.out).read h48).c4)
      have HBR := hid ((HGN.out.read hT48).brk)
      have HFR := hid (frozen_of_row _ _ 55 _ _ HGN.out)
      by_cases hbk : 0 < c.K ∧ c.K ≤ mn
      · obtain ⟨hk1, hk2⟩ := hbk
        have HE : Hid (tickS c x bath = (T', true)) := by unfold Hid; rw [HTS.out]; unfold brk; rw [← HMN.out]; simp [hk1, hk2]
        go_wp2_with (first
          | (go_at_call 187; refine HCOLD.out.mono ?_; rintro e w3 ⟨rfl, hd⟩; have hh := heap_drewN hd; have k4 := (World.cell?_of_block (a := ⟨b, 4, none⟩) (by rw [hh])).trans HC4.out; have k5 := (World.cell?_of_block (a := ⟨w.heap.size + 1, 55, none⟩) (by rw [hh])).trans HBR.out; have k6 := (World.frozen?_of_block (a := ⟨w.heap.size + 1, 55, none⟩) (by rw [hh])).trans HFR.out; have HR3 := hid (after_brk (hHd hh HGN.out) (hHd hh HRES.out) (after_low hd HLOW.out) hT48); clear hh hd)
          | (refine wpList_load_row rfl 208 _ rfl (w.heap.size + 1) rfl 208 (gridA c (T', true)) (0, 0) _ HR3.out.1 Tryz.underlying208 rfl (infoGx c (T', true) hT48) ?_)
          | (refine wpList_store_row rfl 208 _ _ rfl w.heap.size (gridA c (T', true)) rfl rfl 208 _ HR3.out.2.1 (infoGx c (T', true) hT48) (by rw [gridA_size hT48, HZS.out]) (gridA_one c (T', true)) ?_))
        refine bodyPost_ret (results_cell_row Tryz.results179 _ _ w.heap.size 208 (gridA c (T', true)) (0, 0) _ rfl (setRow_heap _ _ _ _ _ _ HR3.out.2.1) Tryz.underlying208 rfl (infoGx c (T', true) hT48)) rfl ?_
        exact ⟨by rw [HE.out], HR3.out.2.2.trans ⟨rfl, rfl, rfl, by simp, fun k hk => setRow_other _ _ _ _ (by omega)⟩⟩
      · have HE : Hid (tickS c x bath = (T', x.2)) := by
          unfold Hid; rw [HTS.out]; unfold brk; rw [← HMN.out]
          have : (decide (0 < c.K) && decide (c.K ≤ mn)) = false := by rw [Bool.and_eq_false_iff, decide_eq_false_iff_not, decide_eq_false_iff_not]; omega
          rw [this, Bool.or_false]
        have hbk' : ¬ 0 < c.K ∨ (0 < c.K ∧ ¬ c.K ≤ mn) := by omega
        clear hbk
        rcases hbk' with hk1 | ⟨hk1, hk2⟩
        all_goals
          go_wp2_with (first
            | (go_at_call 187; refine HCOLD.out.mono ?_; rintro e w3 ⟨rfl, hd⟩; have hh := heap_drewN hd; have k4 := (World.cell?_of_block (a := ⟨b, 4, none⟩) (by rw [hh])).trans HC4.out; have HR3 := hid (And.intro (hHd hh HGN.out) (And.intro (hHd hh HRES.out) (after_low hd HLOW.out))); clear hh hd)
            | (refine wpList_load_row rfl 208 _ rfl (w.heap.size + 1) rfl 208 (gridA c (T', x.2)) (0, 0) _ HR3.out.1 Tryz.underlying208 rfl (infoGx c (T', x.2) hT48) ?_)
            | (refine wpList_store_row rfl 208 _ _ rfl w.heap.size (gridA c (T', x.2)) rfl rfl 208 _ HR3.out.2.1 (infoGx c (T', x.2) hT48) (by rw [gridA_size hT48, HZS.out]) (gridA_one c (T', x.2)) ?_))
          refine bodyPost_ret (results_cell_row Tryz.results179 _ _ w.heap.size 208 (gridA c (T', x.2)) (0, 0) _ rfl (setRow_heap _ _ _ _ _ _ HR3.out.2.1) Tryz.underlying208 rfl (infoGx c (T', x.2) hT48)) rfl ?_
          exact ⟨by rw [HE.out], HR3.out.2.2.trans ⟨rfl, rfl, rfl, by simp, fun k hk => setRow_other _ _ _ _ (by omega)⟩⟩
end Go.Proofs.YtihbjimnjhfpeaaGreat

/- Walks of gridOf and body: contracts. -/
namespace Go.Proofs.YtihbjimnjhfpeaaGreat
open Go.RowKit

theorem infoI : (Tryz.prog.info? 3).map (·.size) = some 1 := by kernel_rfl
theorem splice_mid {α : Type} (H Z R : List α) (T : List α) (h : T.length ≤ Z.length) : splice (H ++ (Z ++ R)) H.length T = H ++ (T ++ (Z.drop T.length ++ R)) := by
  unfold splice
  rw [List.take_left, List.drop_append, List.drop_eq_nil_of_le (by omega), List.nil_append, show H.length + T.length - H.length = T.length by omega, List.drop_append_of_le_length h]
theorem splice_grid {c : Cn} {T : List Int} {br : Bool} (h : T.length ≤ 48) : splice (gridL c ([], br)) 7 (T.map (.int .i64)) = gridL c (T, br) := by
  have e := splice_mid [Value.int .i64 (c.R : Int), .int .i64 (c.L : Int), .int .i64 c.A, .int .i64 c.B, .int .i64 c.K, .int .i64 c.A2, .int .i64 c.B2] (List.replicate 48 (.int .i64 0)) [.bool br] (T.map (.int .i64)) (by rw [List.length_replicate, List.length_map]; exact h)
  rw [List.drop_replicate, List.length_map] at e
  exact e
theorem new_at {W : World} {o : Obj} {n : Nat} (h : W.heap.size = n) : (W.alloc o).heap[n]? = some o := by subst h; exact heap_alloc_new W o
/-- What gridOf's boxes hold when the can is laid into the grid. -/
theorem gridOf_start {w W5 : World} {A B Z Z2 cs : Array Value} {TA TB : TypeId} (hW : ((((w.alloc (.cells A TA)).alloc (.cells B TB)).alloc (.cells Z 208)).alloc (.cells Z2 208)).setRow (w.heap.size + 1 + 1 + 1) cs = W5) :
    W5.heap[w.heap.size + 1 + 1 + 1]? = some (.cells cs 208 (0, 0)) ∧ W5.heap[w.heap.size + 1 + 1]? = some (.cells Z 208 (0, 0)) ∧ (∀ i, W5.cell? ⟨w.heap.size + 1, i, none⟩ = B[i]?) ∧ Below w.heap.size w W5 := by
  subst hW
  have h2 := box2_start (w := w) (A := A) (B := B) (T := TA) (T' := TB) (fz := (0, 0)) (fz' := (0, 0))
  have hs : ((w.alloc (.cells A TA)).alloc (.cells B TB)).heap.size = w.heap.size + 1 + 1 := by simp
  generalize (w.alloc (.cells A TA)).alloc (.cells B TB) = W2 at h2 hs
  have hb : Below W2.heap.size W2 (((W2.alloc (.cells Z 208)).alloc (.cells Z2 208)).setRow (w.heap.size + 1 + 1 + 1) cs) :=
    (((Below.refl _ W2).alloc (Nat.le_refl _) (.cells Z 208)).alloc (by simp) (.cells Z2 208)).trans ⟨rfl, rfl, rfl, by simp, fun k hk => setRow_other _ _ _ _ (by omega)⟩
  refine ⟨setRow_heap _ _ _ _ _ _ (new_at (by simp [hs])), ?_, fun i => (h2.keep hb).snd i, (h2.keep hb).low⟩
  rw [setRow_other _ _ _ _ (by omega), Below.heap_alloc _ _ _ (by simp [hs])]
  exact new_at hs
/-- A body's temperatures, as they are read. -/
theorem RowI.some {w : World} {v : Value} {l : List Int} (h : RowI w v l) (h0 : 0 < l.length) : ∃ b o cap, v = .slice (some ⟨b, o, none⟩) l.length cap ∧ ∀ k (h : k < l.length), w.cell? ⟨b, o + k, none⟩ = some (.int .i64 l[k]) := by
  rcases h with ⟨a, c, rfl, rfl⟩ | ⟨b, o, cap, rfl, _, hc⟩
  · simp at h0
  · exact ⟨b, o, cap, rfl, hc⟩
theorem src_cells {w : World} {b o : Nat} {l : List Int} (hc : ∀ k (h : k < l.length), w.cell? ⟨b, o + k, none⟩ = some (.int .i64 l[k])) : ∀ j v, (l.map (.int .i64))[j]? = some v → w.cell? ((⟨b, o, none⟩ : Addr).add j) = some v := by
  intro j v h
  have hj : j < l.length := by have := (List.getElem?_eq_some_iff.1 h).1; simpa using this
  have hadd : (⟨b, o, none⟩ : Addr).add j = ⟨b, o + j, none⟩ := by unfold Addr.add; split <;> simp_all
  rw [hadd, hc j hj, ← h]
  simp [hj]
theorem ints_one (l : List Int) : ∀ v ∈ l.map (Value.int .i64), v.oneCell' = true := by
  intro v hv
  simp only [List.mem_map] at hv
  obtain ⟨x, _, rfl⟩ := hv
  rfl

set_option maxRecDepth 20000 in
set_option maxHeartbeats 8000000 in
theorem gridOf_any (c : Cn) (T : List Int) (br : Bool) (v : Value) (w : World) (hl : RowI w v T) (h0 : 0 < T.length) (h48 : T.length ≤ 48) :
    Calls Tryz.prog 166 #[.agg #[.int .i64 (c.R : Int), .int .i64 (c.L : Int), .int .i64 c.A, .int .i64 c.B, .int .i64 c.K, .int .i64 c.A2, .int .i64 c.B2], .agg #[v, .bool br]] w fun e w' => e = .returned (.agg (gridA c (T, br))) ∧ Below w.heap.size w w' := by
  have HL := hid (fun w1 (g : Below w.heap.size w w1) => hl.keep g)
  obtain ⟨ba, oa, cap, rfl, _⟩ := hl.some h0
  clear hl
  obtain ⟨b0, b1, b2', b3, b4, b5, b6, x0, x1, hz, hB⟩ := nine_start (w := w) (c0 := .int .i64 c.R) (c1 := .int .i64 c.L) (c2 := .int .i64 c.A) (c3 := .int .i64 c.B) (c4 := .int .i64 c.K) (c5 := .int .i64 c.A2) (c6 := .int .i64 c.B2) (d0 := .slice (some ⟨ba, oa, none⟩) T.length cap) (d1 := .bool br) (T := 23) (T' := 87) (fz := (0, 0)) (fz' := (0, 0))
  go_enter Tryz.func166, Tryz.ntmps166
  go_wp2_with (refine wpList_store_row rfl 208 _ _ rfl (w.heap.size + 1 + 1 + 1) (gridA c ([], br)) rfl rfl 208 _ (new_at (by simp)) (infoGx c ([], br) (by simp)) (by rw [gridA_size (by simp)]; rfl) (gridA_one _ _) ?_; generalize hW : World.setRow _ _ _ = W5; have HS := hid (gridOf_start hW); clear hW)
  obtain ⟨Z, HS, hZs⟩ : ∃ Z : Array Value, Hid (W5.heap[w.heap.size + 1 + 1 + 1]? = some (.cells (gridA c ([], br)) 208 (0, 0)) ∧ W5.heap[w.heap.size + 1 + 1]? = some (.cells Z 208 (0, 0)) ∧ (∀ i, W5.cell? ⟨w.heap.size + 1, i, none⟩ = (#[Value.slice (some ⟨ba, oa, none⟩) T.length cap, .bool br] : Array Value)[i]?) ∧ Below w.heap.size w W5) ∧ Z.size = 56 := ⟨_, HS, rfl⟩
  have k0 : W5.cell? ⟨w.heap.size + 1, 0, none⟩ = some (.slice (some ⟨ba, oa, none⟩) T.length cap) := HS.out.2.2.1 0
  have HC : Hid (∀ k (h : k < T.length), W5.cell? ⟨ba, oa + k, none⟩ = some (.int .i64 T[k])) := by
    rcases HL.out _ HS.out.2.2.2 with ⟨a, cc, h1, h2⟩ | ⟨b', o', cc, h1, _, hc⟩
    · rw [h2] at h0; simp at h0
    · cases h1; exact hc
  have hmin : (T.map (Value.int .i64)).length = Nat.min T.length 48 := by rw [List.length_map]; exact (Nat.min_eq_left h48).symm
  have HMIN := hid hmin
  have hfit : 7 + (T.map (Value.int .i64)).length ≤ (gridL c ([], br)).length := by rw [gridL_len (by simp), List.length_map]; omega
  have HFIT := hid hfit
  have HZS := hid hZs
  clear hmin hfit hZs b0 b1 b2' b3 b4 b5 b6 x0 x1 hz hB HL
  go_region_law (refine step_copy_splice rfl (.tmp 11) (.tmp 13) 28 28 rfl 3 Tryz.underlying28 infoI (some ⟨w.heap.size + 1 + 1 + 1, 7, none⟩) (some ⟨ba, oa, none⟩) 48 48 T.length cap rfl rfl (w.heap.size + 1 + 1 + 1) 7 (gridL c ([], br)) 208 HS.out.1 (T.map (Value.int .i64)) HMIN.out (fun _ => ⟨rfl, _, rfl, src_cells HC.out⟩) HFIT.out (ints_one T) (w.heap.size + 1 + 1 + 1) W5 (Below.refl _ W5).drew (Nat.le_refl _) ?_; intro w6 HG6 hB6)
  have hg6 := HG6.out
  rw [splice_grid h48] at hg6
  have HR := hid (And.intro (show GridAt w6 (w.heap.size + 1 + 1 + 1) c (T, br) from hg6) (And.intro ((hB6.block (w.heap.size + 1 + 1) (by omega)).trans HS.out.2.1) (HS.out.2.2.2.trans (hB6.mono (by omega)))))
  clear hg6 HG6 hB6 k0 HS
  go_wp2_with (first
    | (refine wpList_load_row rfl 208 _ rfl (w.heap.size + 1 + 1 + 1) rfl 208 (gridA c (T, br)) (0, 0) _ HR.out.1 Tryz.underlying208 rfl (infoGx c (T, br) h48) ?_)
    | (refine wpList_store_row rfl 208 _ _ rfl (w.heap.size + 1 + 1) (gridA c (T, br)) rfl rfl 208 _ HR.out.2.1 (infoGx c (T, br) h48) (by rw [gridA_size h48, HZS.out]) (gridA_one c (T, br)) ?_))
  refine bodyPost_ret (results_cell_row Tryz.results166 _ _ (w.heap.size + 1 + 1) 208 (gridA c (T, br)) (0, 0) _ rfl (setRow_heap _ _ _ _ _ _ HR.out.2.1) Tryz.underlying208 rfl (infoGx c (T, br) h48)) rfl ?_
  exact ⟨rfl, HR.out.2.2.trans ⟨rfl, rfl, rfl, by simp, fun k hk => setRow_other _ _ _ _ (by omega)⟩⟩

/-- A row of ints in memory that is new since w. -/
def RowN (w W : World) (v : Value) (T : List Int) : Prop := ∃ g, v = .slice (some ⟨g, 0, none⟩) T.length T.length ∧ w.heap.size ≤ g ∧ W.heap[g]? = some (.cells (T.map (.int .i64)).toArray 3 (0, 0))
/-- A body comes back: its temperatures in new memory. -/
def BodyP (x : Bd) (w : World) (e : Ending) (w' : World) : Prop := ∃ v, e = .returned (.agg #[v, .bool x.2]) ∧ RowN w w' v x.1 ∧ Below w.heap.size w w'
theorem body_low {w w1 : World} {o : Obj} (hd : ∃ n, w1 = (w.alloc o).drewN n) : Below w.heap.size w w1 := by obtain ⟨n, rfl⟩ := hd; exact bdrewN ((Below.refl _ w).alloc (Nat.le_refl _) _)
theorem body_mid {w w1 w6 : World} {T : TypeId} (hd : ∃ n, w1 = (w.alloc (.cells #[.slice none 0 0, .bool false] T)).drewN n) (hB6 : Below w1.heap.size w1 w6) :
    w6.cell? ⟨w.heap.size, 0, none⟩ = some (.slice none 0 0) ∧ w6.cell? ⟨w.heap.size, 1, none⟩ = some (.bool false) ∧ w6.frozen? ⟨w.heap.size, 0, none⟩ = false ∧ w6.frozen? ⟨w.heap.size, 1, none⟩ = false ∧ w.heap.size < w1.heap.size ∧ Below w.heap.size w w6 := by
  obtain ⟨n, rfl⟩ := hd
  have hz : w.heap.size < ((w.alloc (.cells #[.slice none 0 0, .bool false] T)).drewN n).heap.size := by simp
  have hb := hB6.block w.heap.size hz
  have hn : w6.heap[w.heap.size]? = some (.cells #[.slice none 0 0, .bool false] T (0, 0)) := hb.trans (heap_alloc_new w _)
  exact ⟨cell_of_row _ _ 0 _ _ _ hn, cell_of_row _ _ 1 _ _ _ hn, frozen_of_row _ _ 0 _ _ hn, frozen_of_row _ _ 1 _ _ hn, hz, (bdrewN ((Below.refl _ w).alloc (Nat.le_refl _) _)).trans (hB6.mono (Nat.le_of_lt hz))⟩
theorem infoIf : (Tryz.prog.info? 3).map (fun i => (i.zero, i.size, i.bytes)) = some (some (.int .i64 0), 1, 8) := by kernel_rfl
theorem rowI_of_block {W : World} {g cap : Nat} {l : List Int} {t : TypeId} {fr : Nat × Nat} (h : W.heap[g]? = some (.cells (l.map (.int .i64)).toArray t fr)) (hm : l.length ≤ 1000000) : RowI W (.slice (some ⟨g, 0, none⟩) l.length cap) l := by
  refine .inr ⟨g, 0, cap, rfl, by unfold maxLen; omega, fun k hk => ?_⟩
  rw [Nat.zero_add, cell_of_row W g k _ t fr h]
  simp [hk]
theorem RowN.read {w W : World} {v : Value} {T : List Int} (h : RowN w W v T) (hm : T.length ≤ 1000000) : RowI W v T := by
  obtain ⟨g, rfl, _, hg⟩ := h
  exact rowI_of_block hg hm
theorem made_at (W : World) (n : Nat) (t : TypeId) : (W.alloc (.cells (madeCells #[.int .i64 0] n) t)).heap[W.heap.size]? = some (.cells (List.replicate n (Value.int .i64 0)).toArray t (0, 0)) := by
  rw [heap_alloc_new, ← toList_madeCells_one]
theorem splice_made (T : List Int) (n : Nat) (h : T.length = n) : splice (List.replicate n (Value.int .i64 0)) 0 (T.map (.int .i64)) = T.map (.int .i64) := by
  have e := splice_mid [] (List.replicate n (Value.int .i64 0)) [] (T.map (.int .i64)) (by rw [List.length_map, List.length_replicate, h]; exact Nat.le_refl _)
  rw [List.length_map, h, List.drop_replicate, Nat.sub_self] at e
  simpa using e
set_option maxRecDepth 20000 in
set_option maxHeartbeats 4000000 in
theorem body_any (b : Nat) (c : Cn) (x : Bd) (w : World) (hG : GridAt w b c x) (hc : c.Ok) (hlen : x.1.length = c.P) :
    Calls Tryz.prog 168 #[.pointer (some ⟨b, 0, none⟩)] w (BodyP x w) := by
  obtain ⟨p1, p2⟩ := hc.p
  have h48 : x.1.length ≤ 48 := by omega
  have HG := hid hG; have HOK := hid hc; have HLEN := hid hlen
  have hbl : b < w.heap.size := (Array.getElem?_eq_some_iff.1 hG).1
  have HR0 := hid (box1_start (w := w) (A := #[.slice none 0 0, .bool false]) (T := 87) (fz := (0, 0)))
  have HF0 := hid (fun i => frozen_of_row (w.alloc (.cells #[.slice none 0 0, .bool false] 87)) w.heap.size i _ _ (heap_alloc_new w _))
  have hmk := run_make_row' (P := Tryz.prog) 28 3 (.int .i64 0) 8 Tryz.underlying28 infoIf rfl .i64 .i64 c.P (by omega) (by omega)
  have hmin : (x.1.map (Value.int .i64)).length = Nat.min 48 c.P := by rw [List.length_map, hlen]; exact (Nat.min_eq_right p2).symm
  have HMIN := hid hmin
  have hfit : 0 + (x.1.map (Value.int .i64)).length ≤ (List.replicate c.P (Value.int .i64 0)).length := by rw [List.length_map, List.length_replicate]; omega
  have HFIT := hid hfit
  clear hG hlen hmin hfit
  go_enter Tryz.func168, Tryz.ntmps168
  go_wp2_with (first
    | (go_at_call 180; refine (gplaces_any b c x _ ((HG.out.keep ((Below.refl _ w).alloc (Nat.le_refl _) _)).read h48) HOK.out).mono ?_; rintro e w1 ⟨rfl, hd⟩; have HD := hid hd; have hB1 := body_low hd; clear hd)
    | (refine wpList_copy_splice rfl (.tmp 7) (.tmp 11) 28 28 rfl 3 Tryz.underlying28 infoI (some ⟨w1.heap.size, 0, none⟩) (some ⟨b, 7, none⟩) c.P c.P 48 48 rfl rfl w1.heap.size 0 (List.replicate c.P (Value.int .i64 0)) 3 (made_at w1 c.P 3) (x.1.map (Value.int .i64)) HMIN.out (fun _ => ⟨rfl, _, rfl, src_cells (fun k h => ((HG.out.keep (hB1.trans (((Below.refl _ w1).alloc (Nat.le_refl _) _).mono hB1.size))).read h48).temp k h)⟩) HFIT.out (ints_one x.1) w1.heap.size w1 ((Below.refl _ w1).alloc (Nat.le_refl _) _) (Nat.le_refl _) ?_; intro w6 HG6 hB6; obtain ⟨k0, k1, k2, k3, k4, k5⟩ := body_mid HD.out hB6; have k6 := ((HG.out.keep k5).read h48).brk; have HB6 := hid k5; clear hB6))
  have hg6 := HG6.out
  rw [splice_made x.1 c.P HLEN.out] at hg6
  rw [← HLEN.out]
  refine bodyPost_ret (v := .agg #[.slice (some ⟨w1.heap.size, 0, none⟩) x.1.length x.1.length, .bool x.2]) (by simp [results, Tryz.results168, go_sem, k0, k1]) rfl ⟨_, rfl, ?_, ?_⟩
  · refine ⟨_, rfl, Nat.le_of_lt k4, ?_⟩
    rw [heap_setCell_other _ _ _ _ (by show w1.heap.size ≠ w.heap.size; omega), heap_setCell_other _ _ _ _ (by show w1.heap.size ≠ w.heap.size; omega)]
    exact hg6
  · exact (k5.setCell (p := ⟨w.heap.size, 0, none⟩) (Nat.le_refl _) _).setCell (p := ⟨w.heap.size, 1, none⟩) (Nat.le_refl _) _
end Go.Proofs.YtihbjimnjhfpeaaGreat
