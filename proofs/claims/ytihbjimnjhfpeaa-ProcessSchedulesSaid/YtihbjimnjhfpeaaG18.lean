/- Texts of this seat, one behind the other. -/
import Derived.Test.YtihbjimnjhfpeaaG17
import Derived.Shelf.Bits.Mul64
import Derived.Laws.Externs
/- Walks of the big numbers of package lethal: times, above, power: contracts. -/
namespace Go.Proofs.Ytihbjimnjhfpeaa.Lt
open Go.RowKit Go.Lib

theorem add64 (x y c : Int) (hx : 0 ≤ x) (hy : 0 ≤ y) (hc0 : 0 ≤ c) (hc : c ≤ 1) (w : World) : (callFunc 87 #[.int .u64 x, .int .u64 y, .int .u64 c]).run Try.prog w =
    .ok (.value (.tuple #[.int .u64 ((x + y + c) % 18446744073709551616), .int .u64 ((x + y + c) / 18446744073709551616)])) w := by
  rw [run_callFunc_extern Try.func87 (by kernel_rfl) (by kernel_rfl) (by kernel_rfl) (e := add64Entry) (by kernel_rfl), run_add64 x y c hx hy hc0 hc]
  rfl
theorem add64_0 (x y : Int) (hx : 0 ≤ x) (hy : 0 ≤ y) (w : World) : (callFunc 87 #[.int .u64 x, .int .u64 y, .int .u64 0]).run Try.prog w =
    .ok (.value (.tuple #[.int .u64 ((x + y) % 18446744073709551616), .int .u64 ((x + y) / 18446744073709551616)])) w := by
  simpa using add64 x y 0 hx hy (Int.le_refl 0) (by decide) w

def hiW (x y : Nat) : Nat := x * y / 18446744073709551616
def loW (x y : Nat) : Nat := x * y % 18446744073709551616

set_option maxHeartbeats 1000000 in
theorem mul64 (x y : Nat) (hx : x < 18446744073709551616) (hy : y < 18446744073709551616) (w : World) :
    Calls Try.prog 66 #[.int .u64 x, .int .u64 y] w fun e w' => e = .returned (.tuple #[.int .u64 ((hiW x y : Nat) : Int), .int .u64 ((loW x y : Nat) : Int)]) ∧ w = w' := by
  unfold hiW loW
  obtain ⟨bd, bt, bw, hhi⟩ := Lib.mul64_hi x y hx hy
  have ba := Lib.half_mul_le (a := x / 4294967296) (b := y / 4294967296) (by omega) (by omega)
  have bb := Lib.half_mul_le (a := x / 4294967296) (b := y % 4294967296) (by omega) (by omega)
  have bc := Lib.half_mul_le (a := x % 4294967296) (b := y / 4294967296) (by omega) (by omega)
  have ba' : x / 4294967296 * (y / 4294967296) < 18446744073709551616 := by omega
  have bb' : x / 4294967296 * (y % 4294967296) < 18446744073709551616 := by omega
  have bc' : x % 4294967296 * (y / 4294967296) < 18446744073709551616 := by omega
  have bh1 : x / 4294967296 * (y / 4294967296) + (x / 4294967296 * (y % 4294967296) + x % 4294967296 * (y % 4294967296) / 4294967296) / 4294967296 < 18446744073709551616 := by omega
  have bh : x / 4294967296 * (y / 4294967296) + (x / 4294967296 * (y % 4294967296) + x % 4294967296 * (y % 4294967296) / 4294967296) / 4294967296 + ((x / 4294967296 * (y % 4294967296) + x % 4294967296 * (y % 4294967296) / 4294967296) % 4294967296 + x % 4294967296 * (y / 4294967296)) / 4294967296 < 18446744073709551616 := by omega
  go_enter Try.func66, Try.ntmps66
  go_wp2
  simp only [Mul64.maskN x hx, Mul64.maskN y hy, Mul64.divN, Mul64.mulN, Mul64.addN, Mul64.wrapN _ bd, Mul64.wrapN _ bb', Mul64.wrapN _ bt, Mul64.maskN _ bt, Mul64.wrapN _ bc', Mul64.wrapN _ bw, Mul64.wrapN _ ba', Mul64.wrapN _ bh1, Mul64.wrapN _ bh, Mul64.wrapM (x * y)]
  rw [hhi]
  go_ret2
  exact ⟨rfl, rfl⟩

def wv (l : List Nat) : List Value := l.map fun (x : Nat) => Value.int .u64 (x : Int)
theorem wv_len (l : List Nat) : (wv l).length = l.length := by simp [wv]
theorem wv_get (l : List Nat) (k : Nat) (h : k < l.length) : (wv l)[k]? = some (.int .u64 (l[k] : Nat)) := by simp [wv, h]
theorem wv_append (a b : List Nat) : wv (a ++ b) = wv a ++ wv b := by simp [wv]
theorem wv_set (l : List Nat) (k x : Nat) : (wv l).set k (.int .u64 (x : Int)) = wv (l.set k x) := by simp [wv, List.map_set]
/-- A number in memory of the call's own: the slice value, its words. -/
def NumV (w : World) (base : Nat) (v : Value) (l : List Nat) : Prop := w.ownsRow base 102 1 v l.length (wv l)

theorem times_step (f : Nat) (l : List Nat) (k : Nat) (hk : k < l.length) (x : Nat) (hx : x = (l[k] * f + Pm.carryL f l 0 k) % Pm.W) :
    (Pm.headL f l 0 k ++ l.drop k).set k x = Pm.headL f l 0 (k + 1) ++ l.drop (k + 1) := by
  have hl := Pm.headL_length f l 0 k (by omega)
  rw [List.set_append_right _ _ (by omega), hl, Nat.sub_self, Pm.headL_succ f l 0 k hk, hx]
  rw [List.drop_eq_getElem_cons hk, List.set_cons_zero, List.append_assoc]
  rfl

theorem mul_split (x f c : Nat) : (loW x f + c) % 18446744073709551616 = (x * f + c) % Pm.W ∧ hiW x f + (loW x f + c) / 18446744073709551616 = (x * f + c) / Pm.W := by
  unfold loW hiW Pm.W
  omega

theorem timesLen (f : Nat) (l : List Nat) (k : Nat) (hk : k ≤ l.length) : (Pm.headL f l 0 k ++ l.drop k).length = l.length := by
  have := Pm.headL_length f l 0 k hk
  simp [this]; omega
theorem times_cell {wr : World} {base g cap f k : Nat} {l : List Nat} (hk : k < l.length) (hown : NumV wr base (.slice (some ⟨g, 0, none⟩) l.length cap) (Pm.headL f l 0 k ++ l.drop k)) :
    wr.cell? ⟨g, k, none⟩ = some (.int .u64 (l[k] : Nat)) ∧ wr.frozen? ⟨g, k, none⟩ = false := by
  have hh := Pm.headL_length f l 0 k (by omega)
  unfold NumV at hown
  rw [timesLen f l k (by omega)] at hown
  refine ⟨?_, World.ownsRow.frozenAt hown k⟩
  rw [World.ownsRow.cellAt hown k (by omega), wv_get _ k (by rw [timesLen f l k (by omega)]; exact hk)]
  simp [List.getElem_append_right, hh]
theorem times_rel {wr : World} {base g cap f k : Nat} {l : List Nat} (hk : k < l.length) (hown : NumV wr base (.slice (some ⟨g, 0, none⟩) l.length cap) (Pm.headL f l 0 k ++ l.drop k)) (u : Int)
    (hu : u = ((l[k] * f + Pm.carryL f l 0 k) % Pm.W : Nat)) :
    NumV (wr.setCell ⟨g, k, none⟩ (.int .u64 u)) base (.slice (some ⟨g, 0, none⟩) l.length cap) (Pm.headL f l 0 (k + 1) ++ l.drop (k + 1)) ∧ wr.grownBy (wr.setCell ⟨g, k, none⟩ (.int .u64 u)) (some g) := by
  subst hu
  unfold NumV at hown ⊢
  rw [timesLen f l k (by omega)] at hown
  rw [timesLen f l (k + 1) (by omega)]
  have := World.ownsRow.stored hown k (.int .u64 ((l[k] * f + Pm.carryL f l 0 k) % Pm.W : Nat))
  rw [wv_set, times_step f l k hk _ rfl] at this
  exact this
theorem gtrans {a b c : World} {row : Option Nat} (h : a.grownBy b row) (h' : b.grownBy c row) : a.grownBy c row :=
  ⟨h'.os.trans h.os, h'.tape.trans h.tape, h'.output.trans h.output, Nat.le_trans h.size h'.size, fun k hk hr => (h'.block k (Nat.lt_of_lt_of_le hk h.size) hr).trans (h.block k hk hr)⟩

theorem info_u64 : (Try.prog.info? 102).map (fun i => (i.zero, i.size, i.bytes)) = some (some (.int .u64 0), 1, 8) := by kernel_rfl
theorem times_end0 (f : Nat) (l : List Nat) (h : Pm.carryL f l 0 l.length = 0) : Pm.timesL f l 0 = Pm.headL f l 0 l.length ++ l.drop l.length := by
  rw [Pm.timesL_split f l 0 l.length (Nat.le_refl _), List.drop_length, h]; rfl
theorem times_end1 (f : Nat) (l : List Nat) (h : 0 < Pm.carryL f l 0 l.length) : Pm.timesL f l 0 = (Pm.headL f l 0 l.length ++ l.drop l.length) ++ [Pm.carryL f l 0 l.length] := by
  rw [Pm.timesL_split f l 0 l.length (Nat.le_refl _), List.drop_length]
  unfold Pm.timesL; rw [if_pos h]; simp
theorem cell_one_at {w : World} {c : Value} {T : TypeId} : ∀ j u, [c][j]? = some u → (w.alloc (.cells #[c] T)).cell? ((⟨w.heap.size, 0, none⟩ : Addr).add j) = some u := by
  intro j u hj
  match j, hj with
  | 0, hj => simp at hj; subst hj; simp [Addr.add, cell_alloc_new]
theorem one_cell {k : IntKind} {n : Int} : ∀ u ∈ [Value.int k n], u.oneCell' = true := by intro u hu; simp at hu; subst hu; rfl
/-- What times hands back. -/
def TimesPost (base g : Nat) (l : List Nat) (f : Nat) (w : World) (e : Ending) (w' : World) : Prop := ∃ v', e = .returned v' ∧ NumV w' base v' (Pm.timesL f l 0) ∧ w.grownBy w' (some g)
theorem times_post0 {base g cap f : Nat} {l : List Nat} {w wr : World} (h : Pm.carryL f l 0 l.length = 0) (hown : NumV wr base (.slice (some ⟨g, 0, none⟩) l.length cap) (Pm.headL f l 0 l.length ++ l.drop l.length)) (hg : w.grownBy wr (some g)) :
    TimesPost base g l f w (.returned (.slice (some ⟨g, 0, none⟩) l.length cap)) wr :=
  ⟨_, rfl, by rw [times_end0 f l h]; exact hown, hg⟩
theorem times_post1 {base g f : Nat} {l : List Nat} {w wr w1 : World} {o : Obj} {v' : Value} (h : 0 < Pm.carryL f l 0 l.length)
    (hown' : w1.ownsRow base 102 1 v' (l.length + 1) (wv (Pm.headL f l 0 l.length ++ l.drop l.length) ++ [.int .u64 (Pm.carryL f l 0 l.length : Nat)])) (hg : w.grownBy wr (some g)) (hg' : (wr.alloc o).grownBy w1 (some g)) :
    TimesPost base g l f w (.returned v') w1 := by
  refine ⟨_, rfl, ?_, gtrans (gtrans hg (World.grownBy_alloc wr o _)) hg'⟩
  have hl := timesLen f l l.length (Nat.le_refl _)
  rw [times_end1 f l h]
  unfold NumV
  rw [wv_append, List.length_append, hl]
  exact hown'

set_option maxHeartbeats 1000000 in
theorem times_loop (base g cap : Nat) (l : List Nat) (f : Nat) (w : World) (hf : 0 < f) (hf2 : f < 9000000000000000000) (hl : l ≠ []) (hw : ∀ x ∈ l, x < Pm.W) (hlen : l.length ≤ 1000000) (hbase : base ≤ w.heap.size)
    (hown : NumV w base (.slice (some ⟨g, 0, none⟩) l.length cap) l) :
    Calls Try.prog 79 #[.slice (some ⟨g, 0, none⟩) l.length cap, .int .i64 f] w (TimesPost base g l f w) := by
  obtain ⟨i0, hi, hz0, hz1, hz2⟩ := info_parts info_u64
  go_enter Try.func79, Try.ntmps79
  go_wp2
  go_loopw [5, 14] (fun c i wr => ∃ k : Nat, k ≤ l.length ∧ i = .int .i64 k ∧ c = .int .u64 (Pm.carryL f l 0 k : Nat) ∧ NumV wr base (.slice (some ⟨g, 0, none⟩) l.length cap) (Pm.headL f l 0 k ++ l.drop k) ∧ w.grownBy wr (some g))
    (fun _ i _ => l.length - (intOf i).toNat)
  case atStart => exact ⟨0, Nat.zero_le _, rfl, by cases l <;> rfl, by simpa [Pm.headL] using hown, World.grownBy.refl _ _⟩
  case round =>
    obtain ⟨k, hk, rfl, rfl, hown, hg⟩ := hrel
    by_cases hlt : k < l.length
    · obtain ⟨hcell, hfz⟩ := times_cell hlt hown
      obtain ⟨x, hx⟩ : ∃ x, x = l[k] := ⟨_, rfl⟩
      obtain ⟨c, hc⟩ : ∃ c, c = Pm.carryL f l 0 k := ⟨_, rfl⟩
      have hnc := hid (Pm.carryL_succ f l 0 k hlt)
      rw [← hx] at hcell
      have hx1 : x < 18446744073709551616 := by have := hw l[k] (List.getElem_mem hlt); rw [← hx] at this; exact this
      have hc1 : c < f := by rw [hc]; exact Pm.carryL_lt f l 0 k hf hw
      have HX := hid hx; clear hx
      have HC := hid hc
      rw [← hc]
      clear hc
      have hlo : loW x f < 18446744073709551616 := Nat.mod_lt _ (by decide)
      obtain ⟨hs1, hs2⟩ := mul_split x f c
      have hcy : (x * f + c) / Pm.W < f := Pm.carry_lt hx1 hc1
      rw [← hs2] at hcy
      have HS1 := hid hs1; have HS2 := hid hs2; clear hs1 hs2
      go_wp2_with (first | (go_at_call 66; refine (mul64 x f hx1 (by omega) _).mono ?_; rintro e w' ⟨rfl, rfl⟩) | simp only [add64_0 (loW x f : Nat) c (by omega) (by omega)])
      go_roundw
      case rel =>
        have R := times_rel hlt hown (((loW x f : Nat) + c) % 18446744073709551616) (by rw [← HX.out, ← HC.out, ← HS1.out]; omega)
        refine ⟨k + 1, by omega, by go_num, ?_, R.1, gtrans hg R.2⟩
        rw [hnc.out, ← HX.out, ← HC.out, ← HS2.out]
        go_num
      case measure => simp [intOf]; omega
    · obtain rfl : k = l.length := by omega
      obtain ⟨c, hc⟩ : ∃ c, c = Pm.carryL f l 0 l.length := ⟨_, rfl⟩
      rw [← hc]
      have HC := hid hc; clear hc
      by_cases hc0 : 0 < c
      · have hown2 : wr.ownsRow base 102 1 (.slice (some ⟨g, 0, none⟩) l.length cap) l.length (wv (Pm.headL f l 0 l.length ++ l.drop l.length)) := by
          have := hown; unfold NumV at this; rwa [timesLen f l l.length (Nat.le_refl _)] at this
        have hz := hg.size
        go_wp2_with (at_builtin; refine wpList_append_own _ rfl (.tmp 42) (.tmp 44) 120 rfl base 102 i0 (.int .u64 0) 1 8 Try.underlying120 hi hz0 hz1 hz2 rfl (by decide) _ _ _ rfl (hown2.alloc _) ⟨wr.heap.size, 0, none⟩ 1 1 [.int .u64 (c : Nat)] rfl rfl cell_one_at one_cell (by unfold maxLen; omega) (by omega) (by simp; omega) ?_; intro v' w1 hown' hgrow _)
        go_ret
        exact times_post1 (by rw [← HC.out]; exact hc0) (by rw [← HC.out]; exact hown') hg hgrow
      · obtain rfl : c = 0 := by omega
        go_wp2
        go_ret
        exact times_post0 HC.out.symm hown hg
end Go.Proofs.Ytihbjimnjhfpeaa.Lt

/- Walks of the big numbers of package lethal: times, power: contracts. -/
namespace Go.Proofs.Ytihbjimnjhfpeaa.Lt
open Go.RowKit Go.Lib

/-- What times hands back, whatever the slice. -/
def TimesP (base : Nat) (v : Value) (l : List Nat) (f : Nat) (w : World) (e : Ending) (w' : World) : Prop := ∃ v', e = .returned v' ∧ NumV w' base v' (Pm.timesL f l 0) ∧ w.grownBy w' v.ownBlock

theorem times_any (base : Nat) (v : Value) (l : List Nat) (f : Nat) (w : World) (hf : 0 < f) (hf2 : f < 9000000000000000000) (hl : l ≠ []) (hw : ∀ x ∈ l, x < Pm.W) (hlen : l.length ≤ 1000000) (hbase : base ≤ w.heap.size) (hown : NumV w base v l) :
    Calls Try.prog 79 #[v, .int .i64 f] w (TimesP base v l f w) := by
  have hv : ∃ g cap, v = .slice (some ⟨g, 0, none⟩) l.length cap := by
    rcases hown.2 with ⟨_, h0⟩ | ⟨g, cap, cur, rfl, _⟩
    · exact absurd (List.eq_nil_of_length_eq_zero h0) hl
    · exact ⟨g, cap, rfl⟩
  obtain ⟨g, cap, rfl⟩ := hv
  exact times_loop base g cap l f w hf hf2 hl hw hlen hbase hown

def powL (b : Nat) : Nat → List Nat
  | 0 => [1]
  | k + 1 => Pm.timesL b (powL b k) 0
theorem powL_norm (b : Nat) (hb : 0 < b) (hb2 : b < 9000000000000000000) (k : Nat) : Pm.Norm (powL b k) := by
  induction k with
  | zero => exact Pm.norm_cons (by unfold Pm.W; omega) Pm.norm_nil (fun _ => by decide)
  | succ k ih => exact Pm.norm_timesL b hb (by unfold Pm.W; omega) _ 0 hb ih
theorem powL_val (b k : Nat) : Pm.val (powL b k) = b ^ k := by
  induction k with
  | zero => rfl
  | succ k ih => unfold powL; rw [Pm.val_timesL, ih, Nat.pow_succ]; rfl
theorem powL_len (b k : Nat) : (powL b k).length ≤ k + 1 := by
  induction k with
  | zero => exact Nat.le_refl _
  | succ k ih => exact Nat.le_trans (Pm.length_timesL b _ 0) (by omega)
theorem powL_ne (b k : Nat) : powL b k ≠ [] := by
  cases k with
  | zero => simp [powL]
  | succ k =>
    unfold powL
    cases h : powL b k with
    | nil => exact absurd h (by cases k with | zero => simp [powL] | succ k => exact (powL_ne b (k + 1)))
    | cons x l => simp [Pm.timesL]

/-- What power hands back: a new number. -/
def PowerP (b n : Nat) (w : World) (e : Ending) (w' : World) : Prop := ∃ v, e = .returned v ∧ NumV w' w.heap.size v (powL b n) ∧ Below w.heap.size w w'

theorem power_start {w w0 w1 : World} {o : Obj} {v' : Value} (h0 : w.grownBy w0 none) (h1 : (w0.alloc o).grownBy w1 (some w.heap.size))
    (hown : w1.ownsRow w.heap.size 102 1 v' 1 ([] ++ [.int .u64 1])) (b : Nat) : NumV w1 w.heap.size v' (powL b 0) ∧ Below w.heap.size w w1 :=
  ⟨hown, (((Below.refl _ _).grown h0 (Nat.le_refl _) (fun k h => by cases h)).alloc h0.size _).grown h1 (by have := h0.size; simp; omega) (fun k h => by cases h; exact Nat.le_refl _)⟩
theorem power_step {w wr w1 : World} {v v' : Value} {b k : Nat} (hown : NumV wr w.heap.size v (powL b k)) (hB : Below w.heap.size w wr) (h1 : NumV w1 w.heap.size v' (Pm.timesL b (powL b k) 0)) (hg : wr.grownBy w1 v.ownBlock) :
    NumV w1 w.heap.size v' (powL b (k + 1)) ∧ Below w.heap.size w w1 :=
  ⟨h1, hB.grown hg hB.size (fun j hj => (World.ownsRow.lt hown j hj).1)⟩

set_option maxHeartbeats 1000000 in
theorem power_any (b n : Nat) (w : World) (hb : 0 < b) (hb2 : b < 9000000000000000000) (hn : n ≤ 100000) :
    Calls Try.prog 78 #[.int .i64 b, .int .i64 n] w (PowerP b n w) := by
  obtain ⟨i0, hi, hz0, hz1, hz2⟩ := info_parts info_u64
  go_enter Try.func78, Try.ntmps78
  go_wp2_with (first | (at_make; refine wpList_make_own _ rfl _ _ 120 rfl w.heap.size 102 i0 (.int .u64 0) 1 Try.underlying120 hi hz0 hz1 _ _ _ (n + 1) rfl rfl (by omega) (by rw [hz2]; omega) (by unfold maxLen; omega) (Nat.le_refl _) ?_; intro w0 hown0 hgrow0) | (at_builtin; refine wpList_append_own _ rfl (.tmp 8) (.tmp 9) 120 rfl w.heap.size 102 i0 (.int .u64 0) 1 8 Try.underlying120 hi hz0 hz1 hz2 rfl (by decide) _ _ _ rfl (hown0.alloc _) ⟨w0.heap.size, 0, none⟩ 1 1 [.int .u64 1] rfl rfl cell_one_at one_cell (by unfold maxLen; omega) (by omega) (by have := hgrow0.size; simp; omega) ?_; intro v1 w1 hown1 hgrow1 _))
  obtain ⟨hn1, hB1⟩ := power_start hgrow0 hgrow1 hown1 b
  clear hown1 hgrow1 hown0 hgrow0
  go_loopw [5, 12] (fun v i wr => ∃ k : Nat, k ≤ n ∧ i = .int .i64 k ∧ NumV wr w.heap.size v (powL b k) ∧ Below w.heap.size w wr) (fun _ i _ => n - (intOf i).toNat)
  case atStart => exact ⟨0, Nat.zero_le _, rfl, hn1, hB1⟩
  case round =>
    obtain ⟨k, hk, rfl, hv, hB⟩ := hrel
    clear hn1 hB1
    by_cases hlt : k < n
    · have hlen := powL_len b k
      have hnm := powL_norm b hb hb2 k
      go_wp2_with (go_at_call 79; refine (times_any w.heap.size _ (powL b k) b _ hb hb2 (powL_ne b k) hnm.word (by omega) hB.size hv).mono ?_; rintro e w2 ⟨v2, rfl, hv2, hg2⟩)
      obtain ⟨r1, r2⟩ := power_step hv hB hv2 hg2
      go_roundw
      case rel => exact ⟨k + 1, by omega, by go_num, r1, r2⟩
      case measure => simp [intOf]; omega
    · obtain rfl : k = n := by omega
      go_wp2
      go_ret
      exact ⟨_, rfl, hv, hB⟩
end Go.Proofs.Ytihbjimnjhfpeaa.Lt
