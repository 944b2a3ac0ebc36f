/- Walks of ValidBody of the reference, of check and asked: contracts. -/
import Derived.Test.YtpkcnojcklmhmaaHb
namespace Go.Proofs.Ytpkcnojcklmhmaa
open Go.RowKit

set_option maxHeartbeats 4000000 in
theorem rvbody_yes (c : Cn) (w : World) (v : Value) (T : List Int) (br : Bool) (hl : RowI w v T) (hv : c.V) :
    Calls Try.prog 62 #[.agg #[.int .i64 (c.R : Int), .int .i64 (c.L : Int), .int .i64 c.A, .int .i64 c.B, .int .i64 c.K, .int .i64 c.A2, .int .i64 c.B2], .agg #[v, .bool br]] w fun e w' => e = .returned (.bool (bodyV c T br)) ∧ Below w.heap.size w w' := by
  obtain ⟨p1, p2⟩ := hv.ok.mul
  have HP := hid c.P_int
  unfold Cn.V at hv
  have HL := hid (fun w1 (g : Below w.heap.size w w1) => hl.keep g)
  obtain ⟨a0, b0', o0, cap, rfl, ha, _, _⟩ := hl.form
  have HA := hid ha
  clear hl ha
  obtain ⟨b0, b1, b2', b3, b4, b5, b6, x0, x1, hz, hB⟩ := nine_start (w := w) (c0 := .int .i64 c.R) (c1 := .int .i64 c.L) (c2 := .int .i64 c.A) (c3 := .int .i64 c.B) (c4 := .int .i64 c.K) (c5 := .int .i64 c.A2) (c6 := .int .i64 c.B2) (d0 := .slice a0 T.length cap) (d1 := .bool br) (T := 23) (T' := 26) (fz := (0, 0)) (fz' := (0, 0))
  by_cases hlen : T.length = c.P
  · have hlen' : ((T.length : Int) == (c.R : Int) * c.L) = true := by rw [← HP.out]; simp; omega
    have hlen2 : ((T.length : Int) != (c.R : Int) * c.L) = false := by rw [← HP.out]; simp; omega
    by_cases hk : br = true ∧ c.K = 0
    · obtain ⟨rfl, hk⟩ := hk
      have hE := hid (bodyV_brk (T := T) hk)
      have hk' : (c.K == 0) = true := by simpa using hk
      clear hk hlen HL HA
      go_enter Try.func62, Try.ntmps62
      go_wp2_with (go_at_call 90; refine (rvcan_any _ _ _ _ _ _ _ _).mono ?_; rintro e w1 ⟨rfl, hb⟩; obtain ⟨b0, b1, b2', b3, b4, b5, b6, x0, x1, hz, hB⟩ := nine_keep hb ⟨b0, b1, b2', b3, b4, b5, b6, x0, x1, hz, hB⟩; clear hb)
      go_ret
      exact ⟨ret_bool hE.out.symm, hB⟩
    · have hE := hid (bodyV_rest (br := br) hlen (by cases br <;> simp_all))
      have hp := hv
      have h0 : 0 < T.length := by have := (show c.V from hv).ok.p; omega
      clear hlen
      have hbr : br = false ∨ (br = true ∧ (c.K == 0) = false) := by
        cases br
        · exact .inl rfl
        · exact .inr ⟨rfl, by simpa using hk⟩
      clear hk
      rcases hbr with rfl | ⟨rfl, hk'⟩
      all_goals
        go_enter Try.func62, Try.ntmps62
        go_wp2_with (go_at_call 90; refine (rvcan_any _ _ _ _ _ _ _ _).mono ?_; rintro e w1 ⟨rfl, hb⟩; obtain ⟨b0, b1, b2', b3, b4, b5, b6, x0, x1, hz, hB⟩ := nine_keep hb ⟨b0, b1, b2', b3, b4, b5, b6, x0, x1, hz, hB⟩; clear hb)
        have HR := hid (HL.out _ hB)
        have HB := hid hB
        clear hB hz b0 b1 b2' b3 b4 b5 b6 HL
        rcases HR.out with ⟨_, _, h1, h2⟩ | ⟨ba, oa, ca, h1, hm, hc⟩
        · exact absurd (by rw [h2]; rfl) (Nat.ne_of_gt h0)
        · obtain ⟨rfl, rfl⟩ : a0 = some ⟨ba, oa, none⟩ ∧ cap = ca := by cases h1; exact ⟨rfl, rfl⟩
          have HC := hid hc
          clear hc h1 HA HR
          unfold maxLen at hm
          go_loop [5] (fun i => ∃ k : Nat, k ≤ T.length ∧ i = .int .i64 (k : Int) ∧ Hid (∀ j (hj : j < T.length), j < k → okT T[j] = true)) (fun i => T.length - (intOf i).toNat)
          case atStart => exact ⟨0, Nat.zero_le _, rfl, fun j _ h => absurd h (Nat.not_lt_zero _)⟩
          case round =>
            obtain ⟨k, hk, rfl, hok⟩ := hrel
            by_cases hlt : k < T.length
            · have ex := HC.out k hlt
              have hlt' : (k : Int) < T.length := by omega
              cases ho : okT T[k]
              · have hE2 := hid (hE.out.trans (okL_bad hlt ho))
                generalize T[k] = x at ex ho
                change (decide (-50000 ≤ x) && decide (x ≤ 200000)) = false at ho
                go_wp2_with (go_at_call 63; refine (warm_any _ _).mono ?_; rintro e w' ⟨rfl, rfl⟩)
                go_ret
                exact ⟨by rw [hE2.out]; rfl, HB.out⟩
              · have hst : Hid (∀ j (hj : j < T.length), j < k + 1 → okT T[j] = true) := fun j hj h => by
                  rcases Nat.lt_or_ge j k with h1 | h1
                  · exact hok.out j hj h1
                  · obtain rfl : j = k := by omega
                    exact ho
                generalize T[k] = x at ex ho
                change (decide (-50000 ≤ x) && decide (x ≤ 200000)) = true at ho
                go_wp2_with (go_at_call 63; refine (warm_any _ _).mono ?_; rintro e w' ⟨rfl, rfl⟩)
                go_round
                case rel => exact ⟨k + 1, by omega, by go_num, hst⟩
                case measure => simp [intOf]; omega
            · obtain rfl : k = T.length := by omega
              have hE2 := hid (hE.out.trans (okL_end hok.out rfl))
              go_wp2
              go_ret
              exact ⟨by rw [hE2.out]; rfl, HB.out⟩
  · have hlen' : ((T.length : Int) == (c.R : Int) * c.L) = false := by rw [← HP.out]; simp; omega
    have hlen2 : ((T.length : Int) != (c.R : Int) * c.L) = true := by rw [← HP.out]; simp; omega
    have hE := hid (bodyV_len (br := br) hlen)
    clear hlen HL HA
    go_enter Try.func62, Try.ntmps62
    go_wp2_with (go_at_call 90; refine (rvcan_any _ _ _ _ _ _ _ _).mono ?_; rintro e w1 ⟨rfl, hb⟩; obtain ⟨b0, b1, b2', b3, b4, b5, b6, x0, x1, hz, hB⟩ := nine_keep hb ⟨b0, b1, b2', b3, b4, b5, b6, x0, x1, hz, hB⟩; clear hb)
    go_ret
    exact ⟨ret_bool hE.out.symm, hB⟩

/-- The first error of a body in baths: b is whether the body is valid. -/
def chkE (b : Bool) (l : List Int) : Int := if b = false then 1 else if okL l then (if 2000 < l.length then 4 else 0) else 7
theorem chkE_no (l : List Int) : chkE false l = 1 := rfl
theorem chkE_bad {l : List Int} (h : okL l = false) : chkE true l = 7 := by unfold chkE; rw [if_neg (by simp), h]; rfl
theorem chkE_long {l : List Int} (h : okL l = true) (g : 2000 < l.length) : chkE true l = 4 := by unfold chkE; rw [if_neg (by simp), h, if_pos rfl, if_pos g]
theorem chkE_ok {l : List Int} (h : okL l = true) (g : ¬ 2000 < l.length) : chkE true l = 0 := by unfold chkE; rw [if_neg (by simp), h, if_pos rfl, if_neg g]
theorem chkE_cases (b : Bool) (l : List Int) : chkE b l ≠ 0 ∨ (chkE b l = 0 ∧ b = true ∧ okL l = true ∧ l.length ≤ 2000) := by
  cases b with
  | false => exact .inl (by rw [chkE_no]; decide)
  | true =>
    cases ho : okL l with
    | false => exact .inl (by rw [chkE_bad ho]; decide)
    | true =>
      by_cases g : 2000 < l.length
      · exact .inl (by rw [chkE_long ho g]; decide)
      · exact .inr ⟨chkE_ok ho g, rfl, rfl, by omega⟩

/-- Whether a can, and a body for it, are valid. -/
def bothB (r l a b k a2 b2 : Int) (T : List Int) (br : Bool) : Bool := canB r l a b k a2 b2 && bodyB true r l k T br
theorem bothB_cn (c : Cn) (h : c.V) (T : List Int) (br : Bool) : bothB c.R c.L c.A c.B c.K c.A2 c.B2 T br = bodyV c T br := by unfold bothB; rw [show canB (c.R : Int) c.L c.A c.B c.K c.A2 c.B2 = true from h]; rfl
theorem vboth_any (r l a b k a2 b2 : Int) (w : World) (v : Value) (T : List Int) (br : Bool) (hl : RowI w v T) :
    Calls Try.prog 66 #[.agg #[.int .i64 r, .int .i64 l, .int .i64 a, .int .i64 b, .int .i64 k, .int .i64 a2, .int .i64 b2], .agg #[v, .bool br]] w fun e w' => e = .returned (.bool (bothB r l a b k a2 b2 T br)) ∧ Below w.heap.size w w' := by
  cases hv : canB r l a b k a2 b2
  · have e0 : bothB r l a b k a2 b2 T br = false := by unfold bothB; rw [hv]; rfl
    rw [e0]
    exact vbody_can r l a b k a2 b2 w v T br hl hv
  · obtain ⟨c, hc, rfl, rfl, rfl, rfl, rfl, rfl, rfl⟩ := canB_cn hv
    rw [bothB_cn c hc]
    exact vbody_yes c w v T br hl hc
theorem rvboth_any (r l a b k a2 b2 : Int) (w : World) (v : Value) (T : List Int) (br : Bool) (hl : RowI w v T) :
    Calls Try.prog 62 #[.agg #[.int .i64 r, .int .i64 l, .int .i64 a, .int .i64 b, .int .i64 k, .int .i64 a2, .int .i64 b2], .agg #[v, .bool br]] w fun e w' => e = .returned (.bool (bothB r l a b k a2 b2 T br)) ∧ Below w.heap.size w w' := by
  cases hv : canB r l a b k a2 b2
  · have e0 : bothB r l a b k a2 b2 T br = false := by unfold bothB; rw [hv]; rfl
    rw [e0]
    exact rvbody_can r l a b k a2 b2 w v T br hl hv
  · obtain ⟨c, hc, rfl, rfl, rfl, rfl, rfl, rfl, rfl⟩ := canB_cn hv
    rw [bothB_cn c hc]
    exact rvbody_yes c w v T br hl hc

set_option maxHeartbeats 4000000 in
theorem check_any (r l a b k a2 b2 : Int) (w : World) (v : Value) (T : List Int) (br : Bool) (v2 : Value) (l2 : List Int) (hl : RowI w v T) (hl2 : RowI w v2 l2) :
    Calls Try.prog 47 #[.agg #[.int .i64 r, .int .i64 l, .int .i64 a, .int .i64 b, .int .i64 k, .int .i64 a2, .int .i64 b2], .agg #[v, .bool br], v2] w fun e w' => e = .returned (.int .i64 (chkE (bothB r l a b k a2 b2 T br) l2)) ∧ Below w.heap.size w w' := by
  have HL := hid (fun w1 (g : Below w.heap.size w w1) => hl.keep g)
  have HL2 := hid (fun w1 (g : Below w.heap.size w w1) => hl2.keep g)
  obtain ⟨a0, cap, rfl⟩ := hl.shape
  obtain ⟨a1, cap1, rfl⟩ := hl2.shape
  clear hl hl2
  obtain ⟨b0, b1, b2', b3, b4, b5, b6, x0, x1, hz, hB⟩ := nine_start (w := w) (c0 := .int .i64 r) (c1 := .int .i64 l) (c2 := .int .i64 a) (c3 := .int .i64 b) (c4 := .int .i64 k) (c5 := .int .i64 a2) (c6 := .int .i64 b2) (d0 := .slice a0 T.length cap) (d1 := .bool br) (T := 23) (T' := 26) (fz := (0, 0)) (fz' := (0, 0))
  cases hb0 : bothB r l a b k a2 b2 T br
  · have hE := hid (chkE_no l2)
    go_enter Try.func47, Try.ntmps47
    go_wp2_with (go_at_call 66; refine (vboth_any _ _ _ _ _ _ _ _ _ T _ (HL.out _ hB)).mono ?_; rintro e w1 ⟨rfl, hb⟩; obtain ⟨b0, b1, b2', b3, b4, b5, b6, x0, x1, hz, hB⟩ := nine_keep hb ⟨b0, b1, b2', b3, b4, b5, b6, x0, x1, hz, hB⟩; clear hb)
    go_ret
    exact ⟨ret_int hE.out.symm, hB⟩
  cases ho : okL l2
  · have hE := hid (chkE_bad ho)
    go_enter Try.func47, Try.ntmps47
    go_wp2_with (first | (go_at_call 66; refine (vboth_any _ _ _ _ _ _ _ _ _ T _ (HL.out _ hB)).mono ?_; rintro e w1 ⟨rfl, hb⟩; obtain ⟨b0, b1, b2', b3, b4, b5, b6, x0, x1, hz, hB⟩ := nine_keep hb ⟨b0, b1, b2', b3, b4, b5, b6, x0, x1, hz, hB⟩; clear hb) | (go_at_call 72; refine (temps_any _ _ l2 (HL2.out _ hB)).mono ?_; rintro e w2 ⟨rfl, rfl⟩))
    go_ret
    exact ⟨ret_int hE.out.symm, hB⟩
  by_cases g : 2000 < l2.length
  · have hE := hid (chkE_long ho g)
    have g' : (2000 : Int) < l2.length := by omega
    go_enter Try.func47, Try.ntmps47
    go_wp2_with (first | (go_at_call 66; refine (vboth_any _ _ _ _ _ _ _ _ _ T _ (HL.out _ hB)).mono ?_; rintro e w1 ⟨rfl, hb⟩; obtain ⟨b0, b1, b2', b3, b4, b5, b6, x0, x1, hz, hB⟩ := nine_keep hb ⟨b0, b1, b2', b3, b4, b5, b6, x0, x1, hz, hB⟩; clear hb) | (go_at_call 72; refine (temps_any _ _ l2 (HL2.out _ hB)).mono ?_; rintro e w2 ⟨rfl, rfl⟩))
    go_ret
    exact ⟨ret_int hE.out.symm, hB⟩
  · have hE := hid (chkE_ok ho g)
    have g' : ¬ (2000 : Int) < l2.length := by omega
    go_enter Try.func47, Try.ntmps47
    go_wp2_with (first | (go_at_call 66; refine (vboth_any _ _ _ _ _ _ _ _ _ T _ (HL.out _ hB)).mono ?_; rintro e w1 ⟨rfl, hb⟩; obtain ⟨b0, b1, b2', b3, b4, b5, b6, x0, x1, hz, hB⟩ := nine_keep hb ⟨b0, b1, b2', b3, b4, b5, b6, x0, x1, hz, hB⟩; clear hb) | (go_at_call 72; refine (temps_any _ _ l2 (HL2.out _ hB)).mono ?_; rintro e w2 ⟨rfl, rfl⟩))
    go_ret
    exact ⟨ret_int hE.out.symm, hB⟩
end Go.Proofs.Ytpkcnojcklmhmaa
