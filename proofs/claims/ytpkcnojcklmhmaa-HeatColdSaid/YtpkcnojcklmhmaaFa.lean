/- Walks of Coldest, Hottest and Centre of both: contracts. -/
import Derived.Test.YtpkcnojcklmhmaaHv
namespace Go.Proofs.Ytpkcnojcklmhmaa
open Go.RowKit

/-- Three numbers come back. -/
def TripP (p t n : Int) (w : World) (e : Ending) (w' : World) : Prop := e = .returned (.tuple #[.int .i64 p, .int .i64 t, .int .i64 n]) ∧ Below w.heap.size w w'
/-- The foremost place of a body, its temperature, and an error. -/
def bestP (lt : Int → Int → Bool) (v : Bool) (T : List Int) : Int := if v then ((bestT lt T T.length).1 : Nat) else 0
def bestV (lt : Int → Int → Bool) (v : Bool) (T : List Int) : Int := if v then (bestT lt T T.length).2 else 0
def bestE (v : Bool) : Int := if v then 0 else 1
theorem below_two {w w' : World} (h : ∃ n, w' = w.drewN n) : Below w.heap.size w w' := by obtain ⟨n, rfl⟩ := h; exact bdrewN (Below.refl _ _)

set_option maxRecDepth 20000 in
set_option maxHeartbeats 2000000 in
theorem found_no (r l a b k a2 b2 : Int) (w : World) (v : Value) (T : List Int) (br : Bool) (f : Value) (hl : RowI w v T) (hv : bothB r l a b k a2 b2 T br = false) :
    Calls Try.prog 64 #[.agg #[.int .i64 r, .int .i64 l, .int .i64 a, .int .i64 b, .int .i64 k, .int .i64 a2, .int .i64 b2], .agg #[v, .bool br], f] w (TripP 0 0 1 w) := by
  have HL := hid (fun w1 (g : Below w.heap.size w w1) => hl.keep g)
  obtain ⟨a0, cap, rfl⟩ := hl.shape
  clear hl
  have BX := hid (box2_start (w := w) (A := #[.int .i64 r, .int .i64 l, .int .i64 a, .int .i64 b, .int .i64 k, .int .i64 a2, .int .i64 b2]) (B := #[.slice a0 T.length cap, .bool br]) (T := 23) (T' := 26) (fz := (0, 0)) (fz' := (0, 0)))
  go_enter Try.func64, Try.ntmps64
  go_wp2_with fail
  refine (vboth_any _ _ _ _ _ _ _ _ _ T _ (HL.out _ BX.out.low)).mono ?_
  rintro e w1 ⟨rfl, hb⟩
  rw [hv]
  have BX := hid (BX.out.keep hb); obtain ⟨b0, b1, b2', b3, b4, b5, b6⟩ := BX.out.can; obtain ⟨x0, x1⟩ := BX.out.body; have hz := BX.out.sz; clear hb
  go_wp2_with fail
  go_ret3
  exact ⟨rfl, BX.out.low⟩
set_option maxRecDepth 100000 in
set_option maxHeartbeats 4000000 in
theorem found_cold (c : Cn) (v : Value) (T : List Int) (br : Bool) (w : World) (hl : RowI w v T) (hcv : c.V) (hbv : bodyV c T br = true) :
    Calls Try.prog 64 #[.agg #[.int .i64 (c.R : Int), .int .i64 (c.L : Int), .int .i64 c.A, .int .i64 c.B, .int .i64 c.K, .int .i64 c.A2, .int .i64 c.B2], .agg #[v, .bool br], .func (.func 54) #[] #[]] w (TripP ((bestT ltB T T.length).1 : Nat) (bestT ltB T T.length).2 0 w) := by
  have HL := hid (fun w1 (g : Below w.heap.size w w1) => hl.keep g)
  obtain ⟨h1, h2, h3⟩ := bodyV_iff.1 hbv
  have hp := hcv.ok.p
  have h0 : 0 < T.length := by omega
  have h48 : T.length ≤ 48 := by omega
  have HW := hid (show Warm c (T, br) from ⟨h1, okL_bd h3⟩)
  have HV := hid hcv
  have HBV := hid (show bothB c.R c.L c.A c.B c.K c.A2 c.B2 T br = true by rw [bothB_cn c hcv]; exact hbv)
  obtain ⟨a0, cap, rfl⟩ := hl.shape
  clear hl hcv hbv h1 h2 h3 hp
  have BX := hid (box2_start (w := w) (A := #[.int .i64 (c.R : Int), .int .i64 (c.L : Int), .int .i64 c.A, .int .i64 c.B, .int .i64 c.K, .int .i64 c.A2, .int .i64 c.B2]) (B := #[.slice a0 T.length cap, .bool br]) (T := 23) (T' := 26) (fz := (0, 0)) (fz' := (0, 0)))
  go_enter Try.func64, Try.ntmps64
  go_wp2_with fail
  refine (vboth_any _ _ _ _ _ _ _ _ _ T _ (HL.out _ BX.out.low)).mono ?_
  rintro e w1 ⟨rfl, hb⟩
  rw [HBV.out]
  have BX := hid (BX.out.keep hb); obtain ⟨b0, b1, b2', b3, b4, b5, b6⟩ := BX.out.can; obtain ⟨x0, x1⟩ := BX.out.body; have hz := BX.out.sz; clear hb
  go_wp2_with fail
  refine (gridOf_any c T br _ _ (HL.out _ BX.out.low) h0 h48).mono ?_
  rintro e w2 ⟨rfl, hb⟩
  have BX := hid (BX.out.keep hb); obtain ⟨b0, b1, b2', b3, b4, b5, b6⟩ := BX.out.can; obtain ⟨x0, x1⟩ := BX.out.body; have hz := BX.out.sz; clear hb
  go_wp2_with (refine wpList_store_row rfl 82 _ _ rfl w2.heap.size (gridA c (T, br)) rfl rfl 82 _ (new_at rfl) (infoGx c (T, br) h48) (by rw [gridA_size h48]; rfl) (gridA_one _ _) ?_; generalize hW : World.setRow _ _ _ = W5; have HS := hid (now_laid hW); clear hW)
  refine (coldest_any w2.heap.size c (T, br) W5 (HS.out.1.read h48) HV.out.ok HW.out).mono ?_
  rintro e w6 ⟨rfl, hd⟩
  have HD := hid (bstep (bstep BX.out.low BX.out.low.size HS.out.2) (Nat.le_trans BX.out.low.size HS.out.2.size) (below_two hd))
  clear hd
  go_wp2_with fail
  go_ret3
  exact ⟨rfl, HD.out⟩
/-- What Coldest and Hottest hand back. -/
def BestP (lt : Int → Int → Bool) (v : Bool) (T : List Int) (w : World) : Ending → World → Prop := TripP (bestP lt v T) (bestV lt v T) (bestE v) w
set_option maxRecDepth 20000 in
set_option maxHeartbeats 1000000 in
theorem hcoldest_any (r l a b k a2 b2 : Int) (w : World) (v : Value) (T : List Int) (br : Bool) (hl : RowI w v T) : Calls Try.prog 27 #[.agg #[.int .i64 r, .int .i64 l, .int .i64 a, .int .i64 b, .int .i64 k, .int .i64 a2, .int .i64 b2], .agg #[v, .bool br]] w (BestP ltB (bothB r l a b k a2 b2 T br) T w) := by
  have HL := hid (fun w1 (g : Below w.heap.size w w1) => hl.keep g)
  obtain ⟨a0, cap, rfl⟩ := hl.shape
  clear hl
  have BX := hid (box2_start (w := w) (A := #[.int .i64 r, .int .i64 l, .int .i64 a, .int .i64 b, .int .i64 k, .int .i64 a2, .int .i64 b2]) (B := #[.slice a0 T.length cap, .bool br]) (T := 23) (T' := 26) (fz := (0, 0)) (fz' := (0, 0)))
  have HF : Hid (∀ w1, RowI w1 (.slice a0 T.length cap) T → Calls Try.prog 64 #[.agg #[.int .i64 r, .int .i64 l, .int .i64 a, .int .i64 b, .int .i64 k, .int .i64 a2, .int .i64 b2], .agg #[.slice a0 T.length cap, .bool br], .func (.func 54) #[] #[]] w1 (BestP ltB (bothB r l a b k a2 b2 T br) T w1)) := fun w1 g => by
    cases hbb : bothB r l a b k a2 b2 T br
    · exact found_no _ _ _ _ _ _ _ _ _ T _ _ g hbb
    · obtain ⟨c, hcv, ⟨rfl, rfl, rfl, rfl, rfl, rfl, rfl⟩, hbv, _⟩ := both_open hbb
      exact found_cold c _ T br w1 g hcv hbv
  unfold BestP at HF ⊢
  generalize bestP ltB (bothB r l a b k a2 b2 T br) T = p1 at HF ⊢
  generalize bestV ltB (bothB r l a b k a2 b2 T br) T = p2 at HF ⊢
  generalize bestE (bothB r l a b k a2 b2 T br) = p3 at HF ⊢
  go_enter Try.func27, Try.ntmps27
  go_wp2_with fail
  refine (HF.out _ (HL.out _ BX.out.low)).mono ?_
  rintro e w1 ⟨rfl, hb⟩
  have BX := hid (BX.out.keep hb); obtain ⟨b0, b1, b2', b3, b4, b5, b6⟩ := BX.out.can; obtain ⟨x0, x1⟩ := BX.out.body; have hz := BX.out.sz; clear hb
  go_wp2_with fail
  go_ret3
  exact ⟨rfl, BX.out.low⟩
end Go.Proofs.Ytpkcnojcklmhmaa
