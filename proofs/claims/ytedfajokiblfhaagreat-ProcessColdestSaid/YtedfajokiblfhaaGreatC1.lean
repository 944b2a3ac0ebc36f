/- Texts of this seat, one behind the other. -/
import Derived.Test.YtedfajokiblfhaaGreatA8
import Derived.Test.YtedfajokiblfhaaGreatB6
import Derived.Test.YtedfajokiblfhaaGreatA7
import Derived.Lib.AppendZeros
import Derived.Test.YtedfajokiblfhaaGreatA2
import Derived.Test.YtedfajokiblfhaaGreatB1
/- Plain facts of dishes: a can, and what its places have got. -/
namespace Go.Proofs.YtedfajokiblfhaaGreat
open Go.RowKit

/-- The sums behind a tick that made T. -/
def addD (f : Int → Nat) (S : List Nat) (T : List Int) : List Nat := List.zipWith (fun s t => Lt.cutN s (f t)) S T
theorem addD_len {f : Int → Nat} {S : List Nat} {T : List Int} (h : S.length = T.length) : (addD f S T).length = S.length := by
  simp [addD, h]
theorem addD_get {f : Int → Nat} {S : List Nat} {T : List Int} {i : Nat} (h : i < (addD f S T).length) (h1 : i < S.length) (h2 : i < T.length) : (addD f S T)[i] = Lt.cutN S[i] (f T[i]) := by
  simp [addD]
theorem cutN_le (a b : Nat) : Lt.cutN a b ≤ 1000000000000000000 := by unfold Lt.cutN; omega
/-- A can's body, and the sums of its places. -/
abbrev Dish := Bd × List Nat
def dishT (c : Cn) (f : Int → Nat) (d : Dish) (b : Int) : Dish := (tickS c d.1 b, addD f d.2 (tickS c d.1 b).1)
def dishR (c : Cn) (f : Int → Nat) (d : Dish) (l : List Int) : Dish := l.foldl (dishT c f) d
theorem dishR_nil (c : Cn) (f : Int → Nat) (d : Dish) : dishR c f d [] = d := rfl
theorem dishR_append (c : Cn) (f : Int → Nat) (d : Dish) (l m : List Int) : dishR c f d (l ++ m) = dishR c f (dishR c f d l) m := List.foldl_append
theorem dishR_succ (c : Cn) (f : Int → Nat) (d : Dish) (l : List Int) (k : Nat) (hk : k < l.length) : dishR c f d (l.take (k + 1)) = dishT c f (dishR c f d (l.take k)) l[k] := by
  rw [List.take_add_one, dishR_append]
  simp [hk, dishR]
theorem dishR_body (c : Cn) (f : Int → Nat) (d : Dish) (l : List Int) : (dishR c f d l).1 = runS c d.1 l := by
  induction l generalizing d with
  | nil => rfl
  | cons b l ih => exact ih (dishT c f d b)
/-- The dish has a temperature and a sum for each place. -/
structure Good (c : Cn) (d : Dish) : Prop where
  body : bodyV c d.1.1 d.1.2 = true
  len : d.2.length = c.P
  le : ∀ s ∈ d.2, s ≤ 1000000000000000000
theorem mem_addD {f : Int → Nat} {S : List Nat} {T : List Int} {x : Nat} (h : x ∈ addD f S T) : x ≤ 1000000000000000000 := by
  unfold addD at h
  rw [List.zipWith_eq_zipWith_take_min] at h
  obtain ⟨i, hi, rfl⟩ := List.getElem_of_mem h
  simp only [List.getElem_zipWith]
  exact cutN_le _ _
theorem Good.tick {c : Cn} {f : Int → Nat} {d : Dish} {b : Int} (hc : c.Ok) (h : Good c d) (hb : okT b = true) : Good c (dishT c f d b) := by
  have h1 : bodyV c (tickS c d.1 b).1 (tickS c d.1 b).2 = true := by
    have := body_run (p := [b]) hc h.body (by simp [okL, hb])
    exact this
  refine ⟨h1, ?_, fun s hs => mem_addD hs⟩
  show (addD f d.2 (tickS c d.1 b).1).length = c.P
  rw [addD_len (by rw [h.len, (bodyV_iff.1 h1).1])]
  exact h.len
theorem Good.run {c : Cn} {f : Int → Nat} {d : Dish} {l : List Int} (hc : c.Ok) (h : Good c d) (hl : okL l = true) : Good c (dishR c f d l) := by
  induction l generalizing d with
  | nil => exact h
  | cons b l ih =>
    unfold okL at hl
    rw [List.all_cons, Bool.and_eq_true] at hl
    exact ih (h.tick hc hl.1) hl.2
/-- The dish at the beginning. -/
def dish0 (c : Cn) (t : Int) : Dish := (evB c t, List.replicate c.P 0)
theorem dish0_good {c : Cn} {t : Int} (h : okT t = true) : Good c (dish0 c t) :=
  ⟨evB_valid h, by simp [dish0], fun s hs => by have := List.eq_of_mem_replicate hs; omega⟩
/-- No place leaves the range of the beginning and the baths. -/
theorem tickS_bd {c : Cn} (hc : c.Ok) {x : Bd} {b lo hi : Int} (hlen : x.1.length = c.P) (hx : ∀ t ∈ x.1, lo ≤ t ∧ t ≤ hi) (hb : lo ≤ b ∧ b ≤ hi) : ∀ t ∈ (tickS c x b).1, lo ≤ t ∧ t ≤ hi := by
  obtain ⟨a1, a2, a3⟩ := hc.ra x.2
  exact tickT_bd a1 a2 a3 hlen hx hb
theorem runS_bd {c : Cn} (hc : c.Ok) {lo hi : Int} : ∀ (l : List Int) (x : Bd), x.1.length = c.P → (∀ t ∈ x.1, lo ≤ t ∧ t ≤ hi) → (∀ b ∈ l, lo ≤ b ∧ b ≤ hi) → ∀ t ∈ (runS c x l).1, lo ≤ t ∧ t ≤ hi
  | [], _, _, hx, _ => hx
  | b :: l, x, hlen, hx, hl => runS_bd hc l (tickS c x b) (tickT_len _ _ _ _ _ _) (tickS_bd hc hlen hx (hl b (List.mem_cons_self))) fun d hd => hl d (List.mem_cons_of_mem _ hd)

/-- A list of places that is the same upside down. -/
def Sym {α : Type} (z : α) (R L : Nat) (T : List α) : Prop := ∀ i, i < R * L → T.getD ((L - 1 - i / R) * R + i % R) z = T.getD i z
theorem idx_mir {R L i : Nat} (hR : 0 < R) (hi : i < R * L) : (L - 1 - i / R) * R + i % R < R * L ∧ i / R < L ∧ i % R < R := by
  have h1 : i / R < L := Nat.div_lt_of_lt_mul hi
  have h2 := Nat.mod_lt i hR
  have h3 : L - 1 - i / R < L := by generalize i / R = q at h1 ⊢; omega
  exact ⟨idx_lt h2 h3, h1, h2⟩
theorem qrN {R p q : Nat} (hp : p < R) : (q * R + p) / R = q ∧ (q * R + p) % R = p :=
  ⟨by rw [Nat.add_comm, Nat.add_mul_div_right _ _ (by omega), Nat.div_eq_of_lt hp, Nat.zero_add], by rw [Nat.add_comm, Nat.add_mul_mod_self_right, Nat.mod_eq_of_lt hp]⟩
theorem nearT_sym {R L : Nat} {T : List Int} {b : Int} (hs : Sym 0 R L T) (r l : Int) : nearT R L T b r ((L : Int) - 1 - l) = nearT R L T b r l := by
  by_cases g : 0 ≤ r ∧ r < R ∧ 0 ≤ l ∧ l < L
  · rw [nearT_in g, nearT_in (by omega)]
    obtain ⟨p, q, rfl, rfl, hp, hq, e⟩ := idx_nat g
    have hi := idx_lt hp hq
    have e2 : (L : Int) - 1 - (q : Int) = ((L - 1 - q : Nat) : Int) := by omega
    have hh := hs _ hi
    rw [(qrN hp).1, (qrN hp).2] at hh
    rw [e, e2, ← Int.natCast_mul, ← Int.natCast_add, Int.toNat_natCast, hh]
  · rw [nearT_out g, nearT_out (by omega)]
theorem numSwap (A B : Int) (r : Nat) (x1 x2 x3 x4 x5 : Int) : num A B r x1 x2 x3 x4 x5 = num A B r x1 x2 x4 x3 x5 := by
  unfold num; rw [Int.add_comm x3 x4]
theorem mixT_sym {R L : Nat} {A B : Int} {T : List Int} {b : Int} {r l : Nat} (hs : Sym 0 R L T) (hl : l < L) : mixT R L A B T b r (L - 1 - l) = mixT R L A B T b r l := by
  unfold mixT
  have e0 : ((L - 1 - l : Nat) : Int) = (L : Int) - 1 - (l : Int) := by omega
  have e1 : ((L - 1 - l : Nat) : Int) + 1 = (L : Int) - 1 - ((l : Int) - 1) := by omega
  have e2 : ((L - 1 - l : Nat) : Int) - 1 = (L : Int) - 1 - ((l : Int) + 1) := by omega
  rw [e1, e2, e0, nearT_sym hs, nearT_sym hs, nearT_sym hs, nearT_sym hs, nearT_sym hs, numSwap]
theorem tickT_sym {R L : Nat} {A B : Int} {T : List Int} {b : Int} (hR : 0 < R) (hs : Sym 0 R L T) : Sym 0 R L (tickT R L A B T b) := by
  intro i hi
  obtain ⟨h1, h2, h3⟩ := idx_mir hR hi
  rw [getD_at (by rw [tickT_len]; exact h1), getD_at (by rw [tickT_len]; exact hi), tickT_get, tickT_get, (qrN h3).1, (qrN h3).2]
  exact mixT_sym hs h2
theorem addD_getD {f : Int → Nat} {S : List Nat} {T : List Int} {i : Nat} (h1 : i < S.length) (h2 : i < T.length) : (addD f S T).getD i 0 = Lt.cutN (S.getD i 0) (f (T.getD i 0)) := by
  simp [addD, List.getD, List.getElem?_zipWith, h1, h2]
theorem addD_sym {f : Int → Nat} {R L : Nat} {S : List Nat} {T : List Int} (hR : 0 < R) (h1 : S.length = R * L) (h2 : T.length = R * L) (hs : Sym 0 R L S) (ht : Sym 0 R L T) : Sym 0 R L (addD f S T) := by
  intro i hi
  have h3 := (idx_mir hR hi).1
  rw [addD_getD (by omega) (by omega), addD_getD (by omega) (by omega), hs i hi, ht i hi]
theorem sym_rep {α : Type} (z a : α) {R L : Nat} (hR : 0 < R) : Sym z R L (List.replicate (R * L) a) := by
  intro i hi
  have h3 := (idx_mir hR hi).1
  simp [List.getD, h3, hi]
theorem dishR_sym {c : Cn} {f : Int → Nat} (hc : c.Ok) : ∀ (l : List Int) (d : Dish), d.2.length = c.R * c.L → Sym 0 c.R c.L d.1.1 → Sym 0 c.R c.L d.2 → Sym 0 c.R c.L (dishR c f d l).2
  | [], _, _, _, h => h
  | b :: l, d, hl, ht, hs => by
    have h1 : Sym 0 c.R c.L (tickS c d.1 b).1 := tickT_sym hc.r1 ht
    have h2 : (tickS c d.1 b).1.length = c.R * c.L := tickT_len _ _ _ _ _ _
    exact dishR_sym hc l (dishT c f d b) (by show (addD f d.2 _).length = _; rw [addD_len (by rw [hl, h2])]; exact hl) h1 (addD_sym hc.r1 hl h2 hs h1)
theorem dish0_sym {c : Cn} {f : Int → Nat} (hc : c.Ok) (t : Int) (l : List Int) : Sym 0 c.R c.L (dishR c f (dish0 c t) l).2 :=
  dishR_sym hc l _ (by simp [dish0, Cn.P]) (sym_rep 0 t hc.r1) (sym_rep 0 0 hc.r1)
end Go.Proofs.YtedfajokiblfhaaGreat

/- slices.Concat of rows of ints, slices.Min, Max, Index over one: contracts. -/
namespace Go.Proofs.YtedfajokiblfhaaGreat
open Go.RowKit Go.Shelf Go.Lib

/-- Rows of ints, one behind the other. -/
def flN (ls : Nat → List Int) (k : Nat) : List Int := (List.range k).flatMap ls
theorem flN_succ (ls : Nat → List Int) (k : Nat) : flN ls (k + 1) = flN ls k ++ ls k := by
  unfold flN; rw [List.range_succ, List.flatMap_append]; simp
theorem flN_two (ls : Nat → List Int) : flN ls 2 = ls 0 ++ ls 1 := by rw [flN_succ, flN_succ]; simp [flN]
theorem flN_mono (ls : Nat → List Int) {j k : Nat} (h : j ≤ k) : (flN ls j).length ≤ (flN ls k).length := by
  induction k with
  | zero => obtain rfl : j = 0 := by omega
            exact Nat.le_refl _
  | succ k ih =>
    rcases Nat.lt_or_ge j (k + 1) with h1 | h1
    · have := ih (by omega); rw [flN_succ, List.length_append]; omega
    · obtain rfl : j = k + 1 := by omega
      exact Nat.le_refl _
theorem infoQc : (Tryz.prog.info? 3).map (fun i => (i.zero, i.size, i.bytes)) = some (some (.int .i64 0), 1, 8) := by kernel_rfl
/-- A row of ints that the call made, maybe none. -/
def NewI (w : World) (l : List Int) (e : Ending) (w' : World) : Prop := ∃ v, e = .returned v ∧ w'.ownsRow w.heap.size 3 1 v (ivs l).length (ivs l) ∧ Below w.heap.size w w'
theorem NewI.rowI {w w' : World} {l : List Int} {v : Value} (h : w'.ownsRow w.heap.size 3 1 v (ivs l).length (ivs l)) (hl : l.length ≤ 1000000) : RowI w' v l := own_rowI (by rwa [ivs_len] at h) hl
theorem own_shapeP {w : World} {base e n : Nat} {v : Value} {xs : List Value} (h : w.ownsRow base e 1 v n xs) : ∃ a c, v = .slice a n c := by
  rcases h.2 with ⟨rfl, rfl⟩ | ⟨g, cap, cur, rfl, _⟩
  · exact ⟨none, 0, rfl⟩
  · exact ⟨_, _, rfl⟩
set_option maxRecDepth 20000 in
set_option maxHeartbeats 2000000 in
theorem growN_any (n : Nat) (w : World) (hm : n ≤ 1000000) :
    Calls Tryz.prog 73 #[.slice none 0 0, .int .i64 (n : Int)] w (NewI w []) := by
  rcases Nat.eq_zero_or_pos n with rfl | h0
  · go_enter Tryz.func73, Tryz.ntmps73
    go_wp2
    go_ret
    exact ⟨_, rfl, World.ownsRow_nil _ _ _ _, Below.refl _ _⟩
  obtain ⟨i0, hi, hz0, hz1, hz2⟩ := info_parts infoQc
  have hr := fun W : World => run_append_nil_zeros (P := Tryz.prog) W 28 3 28 3 i0 _ .i64 .i64 Tryz.underlying28 Tryz.underlying3 hi hz0 n h0 (by rw [hz1]; omega) (by omega) (by rw [hz2]; omega)
  have h1 : ¬ (n : Int) < 0 := by omega
  have h2 : (0 : Int) < (n : Int) := by omega
  go_enter Tryz.func73, Tryz.ntmps73
  go_wp2_with (refine wpList_append_run _ rfl _ _ 28 3 rfl _ _ rfl rfl _ _ (hr _) ?_)
  go_ret
  have g1 := grownCap_ge w n 0 3
  have g2 := grownCap_le_maxLen w n 0 3 (by unfold maxLen; omega)
  refine ⟨_, rfl, ⟨rfl, .inr ⟨w.heap.size, _, _, rfl, Nat.le_refl _, (heap_alloc_new w _), Nat.zero_le _, g2, ?_, by simp [ivs]⟩⟩, ((Below.refl _ w).alloc (Nat.le_refl _) _).drew⟩
  simp [size_zeroCells]
  omega
set_option maxRecDepth 20000 in
set_option maxHeartbeats 4000000 in
theorem concatN_any (g cap L : Nat) (vs : Nat → Value) (ls : Nat → List Int) (w : World) (hbig : (flN ls L).length ≤ 100000) (hLb : L ≤ 1000)
    (hrow : ∀ j, j < L → w.cell? ⟨g, j, none⟩ = some (vs j)) (hl : ∀ j, j < L → RowI w (vs j) (ls j)) :
    Calls Tryz.prog 36 #[.slice (some ⟨g, 0, none⟩) L cap] w (NewI w (flN ls L)) := by
  have HROW := hid (fun (w1 : World) (hb : Below w.heap.size w w1) j (hj : j < L) => And.intro (keep_cell hb (hrow j hj)) ((hl j hj).keep hb))
  have HBIG := hid hbig
  clear hrow hl hbig
  go_enter Tryz.func36, Tryz.ntmps36
  go_wp2
  go_loop [3, 11] (fun s t => ∃ k : Nat, k ≤ L ∧ s = .int .i64 (((flN ls k).length : Nat) : Int) ∧ t = .int .i64 (k : Int)) (fun _ t => L - (intOf t).toNat)
  case atStart => exact ⟨0, Nat.zero_le _, by simp [flN], rfl⟩
  case round =>
    obtain ⟨k, hk, rfl, rfl⟩ := hrel
    by_cases hlt : k < L
    · have hlt' : (k : Int) < L := by omega
      obtain ⟨e1, e2⟩ := HROW.out w (Below.refl _ _) k hlt
      obtain ⟨a, c, hv⟩ := e2.shape
      rw [hv] at e1
      have HS := hid (show (flN ls (k + 1)).length = (flN ls k).length + (ls k).length by rw [flN_succ, List.length_append])
      have hle := flN_mono ls (show k + 1 ≤ L from hlt)
      rw [HS.out] at hle
      have hle2 := HBIG.out
      generalize (ls k).length = R at *
      obtain ⟨S, hS⟩ : ∃ S, S = (flN ls k).length := ⟨_, rfl⟩
      rw [← hS] at hle HS
      rw [← hS]
      have hn0 : ¬ ((S : Int) + (R : Int) < 0) := by omega
      have hle3 : S + R ≤ 100000 := by omega
      clear hS hv e2 hle hle2
      go_wp2
      go_round
      case rel => exact ⟨k + 1, hlt, by rw [HS.out]; go_num, by go_num⟩
      case measure => simp [intOf]; omega
    · obtain rfl : k = L := by omega
      clear hlt hk
      obtain ⟨S, hS⟩ : ∃ S, S = (flN ls k).length := ⟨_, rfl⟩
      have HS := hid hS
      have hbS : S ≤ 100000 := by rw [hS]; exact HBIG.out
      rw [← hS]
      clear hS
      go_wp2_with fail
      refine (growN_any S w (by omega)).mono ?_
      rintro e w1 ⟨u, rfl, hu, hb⟩
      have HU := hid hu
      have HB := hid hb
      clear hu hb
      obtain ⟨u0, c0, rfl⟩ := own_shapeP HU.out
      obtain ⟨i0, hi, hz0, hz1, hz2⟩ := info_parts infoQc
      go_wp2_with fail
      go_loopw [6, 27] (fun u t wr => ∃ m : Nat, m ≤ k ∧ t = .int .i64 (m : Int) ∧ Hid (wr.ownsRow w.heap.size 3 1 u (ivs (flN ls m)).length (ivs (flN ls m))) ∧ Hid (Below w.heap.size w wr)) (fun _ t _ => k - (intOf t).toNat)
      case atStart => exact ⟨0, Nat.zero_le _, rfl, HU, HB⟩
      case round =>
        obtain ⟨m, hm, rfl, hO, hB⟩ := hrel
        obtain ⟨ua, uc, rfl⟩ := own_shapeP hO.out
        by_cases hlt : m < k
        · have hlt' : (m : Int) < k := by omega
          obtain ⟨e1, e2⟩ := HROW.out _ hB.out m hlt
          obtain ⟨a, c, hv⟩ := e2.shape
          have HSRC := hid e2.src
          rw [hv] at e1 HSRC
          have HSUC := hid (flN_succ ls m)
          have hle := flN_mono ls (show m + 1 ≤ k from hlt)
          rw [flN_succ, List.length_append] at hle
          have hle2 := HBIG.out
          have HBD := hid (show (ivs (flN ls m)).length + (ls m).length ≤ 1000000 by rw [ivs_len]; omega)
          have HLT := hid hlt
          generalize flN ls m = F at *
          generalize ls m = C at *
          clear hle hle2 hlt hv e2
          go_wp2_with (at_builtin; (refine wpList_app rfl (.tmp 31) (.tmp 32) 28 rfl w.heap.size 3 i0 Tryz.underlying28 hi hz0 hz1 hz2 _ (ivs F) rfl hO.out _ C rfl HSRC.out HBD.out hB.out.size ?_); intro v3 w6 hA1; have HB6 := hid (app_low hB.out hO.out (Nat.le_refl _) hA1); have HO6 := hid (app_next hA1); obtain ⟨a3, c3, rfl⟩ := own_shapeP HO6.out; clear hA1)
          go_roundw
          case rel => exact ⟨m + 1, HLT.out, by go_num, by have h := HO6.out; rw [List.length_append] at h; rw [HSUC.out, ivs_len, List.length_append]; exact hid h, HB6⟩
          case measure => have := HLT.out; simp [intOf]; omega
        · obtain rfl : m = k := by omega
          go_wp2_with fail
          go_ret
          exact ⟨_, rfl, hO.out, hB.out⟩

/-- The least, and the greatest, of the first numbers of a list. -/
def minK (ds : List Int) : Nat → Int
  | 0 => ds.getD 0 0
  | k + 1 => min (minK ds k) (ds.getD (k + 1) 0)
def maxK (ds : List Int) : Nat → Int
  | 0 => ds.getD 0 0
  | k + 1 => max (maxK ds k) (ds.getD (k + 1) 0)
def minA (ds : List Int) : Int := minK ds (ds.length - 1)
def maxA (ds : List Int) : Int := maxK ds (ds.length - 1)
theorem getD_here {ds : List Int} {k : Nat} (h : k < ds.length) : ds.getD k 0 = ds[k] := by simp [List.getD, h]
theorem minK_mem {ds : List Int} : ∀ {k : Nat}, k < ds.length → minK ds k ∈ ds
  | 0, h => by unfold minK; rw [getD_here h]; exact List.getElem_mem h
  | k + 1, h => by
    have h1 := minK_mem (ds := ds) (k := k) (by omega)
    have h2 := List.getElem_mem h
    unfold minK
    rw [getD_here h]
    by_cases g : minK ds k ≤ ds[k + 1]
    · rw [Int.min_eq_left g]; exact h1
    · rw [Int.min_eq_right (by omega)]; exact h2
theorem maxK_mem {ds : List Int} : ∀ {k : Nat}, k < ds.length → maxK ds k ∈ ds
  | 0, h => by unfold maxK; rw [getD_here h]; exact List.getElem_mem h
  | k + 1, h => by
    have h1 := maxK_mem (ds := ds) (k := k) (by omega)
    have h2 := List.getElem_mem h
    unfold maxK
    rw [getD_here h]
    by_cases g : maxK ds k ≤ ds[k + 1]
    · rw [Int.max_eq_right g]; exact h2
    · rw [Int.max_eq_left (by omega)]; exact h1
theorem minK_le {ds : List Int} : ∀ {k : Nat}, k < ds.length → ∀ j ≤ k, ∀ hj : j < ds.length, minK ds k ≤ ds[j]
  | 0, h, j, hj, hl => by
    obtain rfl : j = 0 := by omega
    unfold minK; rw [getD_here h]; exact Int.le_refl _
  | k + 1, h, j, hj, hl => by
    unfold minK
    rw [getD_here h]
    by_cases g : j = k + 1
    · subst g; exact Int.min_le_right ..
    · have := minK_le (ds := ds) (k := k) (by omega) j (by omega) hl
      have := Int.min_le_left (minK ds k) ds[k + 1]
      omega
theorem maxK_ge {ds : List Int} : ∀ {k : Nat}, k < ds.length → ∀ j ≤ k, ∀ hj : j < ds.length, ds[j] ≤ maxK ds k
  | 0, h, j, hj, hl => by
    obtain rfl : j = 0 := by omega
    unfold maxK; rw [getD_here h]; exact Int.le_refl _
  | k + 1, h, j, hj, hl => by
    unfold maxK
    rw [getD_here h]
    by_cases g : j = k + 1
    · subst g; exact Int.le_max_right ..
    · have := maxK_ge (ds := ds) (k := k) (by omega) j (by omega) hl
      have := Int.le_max_left (maxK ds k) ds[k + 1]
      omega
theorem minA_mem {ds : List Int} (h : 0 < ds.length) : minA ds ∈ ds := minK_mem (by omega)
theorem maxA_mem {ds : List Int} (h : 0 < ds.length) : maxA ds ∈ ds := maxK_mem (by omega)
theorem minA_le {ds : List Int} {x : Int} (hx : x ∈ ds) : minA ds ≤ x := by
  obtain ⟨j, hj, rfl⟩ := List.getElem_of_mem hx
  exact minK_le (by omega) j (by omega) hj
theorem maxA_ge {ds : List Int} {x : Int} (hx : x ∈ ds) : x ≤ maxA ds := by
  obtain ⟨j, hj, rfl⟩ := List.getElem_of_mem hx
  exact maxK_ge (by omega) j (by omega) hj
theorem minA_uniq {ds : List Int} {D : Int} (h : D ∈ ds) (g : ∀ x ∈ ds, D ≤ x) : D = minA ds := by
  have h1 := g _ (minA_mem (List.length_pos_of_mem h))
  have h2 := minA_le h
  omega
theorem minK_succ {ds : List Int} {k : Nat} (h : k + 1 < ds.length) : minK ds (k + 1) = min (minK ds k) ds[k + 1] := by
  simp only [minK, getD_here h]
theorem maxK_succ {ds : List Int} {k : Nat} (h : k + 1 < ds.length) : maxK ds (k + 1) = max (maxK ds k) ds[k + 1] := by
  simp only [maxK, getD_here h]
theorem minK_zero {ds : List Int} (h : 0 < ds.length) : minK ds 0 = ds[0] := by simp only [minK, getD_here h]
theorem maxK_zero {ds : List Int} (h : 0 < ds.length) : maxK ds 0 = ds[0] := by simp only [maxK, getD_here h]

set_option maxRecDepth 20000 in
set_option maxHeartbeats 4000000 in
theorem minA_any (v : Value) (ds : List Int) (w : World) (hr : RowI w v ds) (h0 : 0 < ds.length) (hlen : ds.length ≤ 100000) : Calls Tryz.prog 41 #[v] w fun e w' => e = .returned (.int .i64 (minA ds)) ∧ w = w' := by
  obtain ⟨a, b, o, cap, rfl, ha, hc, hbl⟩ := hr.form
  obtain ⟨n, hn⟩ : ∃ n, ds.length = n + 1 := ⟨ds.length - 1, by omega⟩
  have HD := hid (show minA ds = minK ds n by unfold minA; rw [hn]; rfl)
  rcases ha with h1 | rfl
  · rw [h1] at h0; simp at h0
  have c0 := hc 0 h0
  have hz := minK_zero h0
  rw [← hz, Nat.add_zero] at c0
  clear hz
  have HC := hid hc
  have HN := hid hn
  rw [hn]
  have hn2 : n + 1 ≤ 100000 := by omega
  have hcast : (((n + 1 : Nat)) : Int) = (n : Int) + 1 := by omega
  have hlt1 : ¬ (((n + 1 : Nat)) : Int) < 1 := by omega
  clear hn hr hbl hc h0 hlen
  go_enter Tryz.func41, Tryz.ntmps41
  go_wp2_with fail
  go_loop [3, 4] (fun m t => ∃ k : Nat, k ≤ n ∧ m = .int .i64 (minK ds k) ∧ t = .int .i64 ((k : Int) + 1)) (fun _ t => (n : Int) + 1 - intOf t |>.toNat)
  case atStart => exact ⟨0, by omega, rfl, rfl⟩
  case round =>
    obtain ⟨k, hk, rfl, rfl⟩ := hrel
    by_cases hlt : k < n
    · have hlt' : (k : Int) + 1 < (((n + 1 : Nat)) : Int) := by omega
      have hkd : k + 1 < ds.length := by rw [HN.out]; omega
      have ck := HC.out (k + 1) hkd
      have HS := hid (minK_succ hkd)
      generalize ds[k + 1]'hkd = x at *
      have HLT := hid hlt
      clear hlt hkd
      go_wp2_with fail
      go_round
      case rel => exact ⟨k + 1, HLT.out, by rw [HS.out]; exact int_eq (by split <;> omega), by go_num⟩
      case measure => have := HLT.out; simp [intOf]; omega
    · obtain rfl : k = n := by omega
      have hge : ¬ (k : Int) + 1 < (((k + 1 : Nat)) : Int) := by omega
      go_wp2_with fail
      go_ret
      exact ⟨ret_int HD.out.symm, rfl⟩
set_option maxRecDepth 20000 in
set_option maxHeartbeats 4000000 in
theorem maxA_any (v : Value) (ds : List Int) (w : World) (hr : RowI w v ds) (h0 : 0 < ds.length) (hlen : ds.length ≤ 100000) : Calls Tryz.prog 48 #[v] w fun e w' => e = .returned (.int .i64 (maxA ds)) ∧ w = w' := by
  obtain ⟨a, b, o, cap, rfl, ha, hc, hbl⟩ := hr.form
  obtain ⟨n, hn⟩ : ∃ n, ds.length = n + 1 := ⟨ds.length - 1, by omega⟩
  have HD := hid (show maxA ds = maxK ds n by unfold maxA; rw [hn]; rfl)
  rcases ha with h1 | rfl
  · rw [h1] at h0; simp at h0
  have c0 := hc 0 h0
  have hz := maxK_zero h0
  rw [← hz, Nat.add_zero] at c0
  clear hz
  have HC := hid hc
  have HN := hid hn
  rw [hn]
  have hn2 : n + 1 ≤ 100000 := by omega
  have hcast : (((n + 1 : Nat)) : Int) = (n : Int) + 1 := by omega
  have hlt1 : ¬ (((n + 1 : Nat)) : Int) < 1 := by omega
  clear hn hr hbl hc h0 hlen
  go_enter Tryz.func48, Tryz.ntmps48
  go_wp2_with fail
  go_loop [3, 4] (fun m t => ∃ k : Nat, k ≤ n ∧ m = .int .i64 (maxK ds k) ∧ t = .int .i64 ((k : Int) + 1)) (fun _ t => (n : Int) + 1 - intOf t |>.toNat)
  case atStart => exact ⟨0, by omega, rfl, rfl⟩
  case round =>
    obtain ⟨k, hk, rfl, rfl⟩ := hrel
    by_cases hlt : k < n
    · have hlt' : (k : Int) + 1 < (((n + 1 : Nat)) : Int) := by omega
      have hkd : k + 1 < ds.length := by rw [HN.out]; omega
      have ck := HC.out (k + 1) hkd
      have HS := hid (maxK_succ hkd)
      generalize ds[k + 1]'hkd = x at *
      have HLT := hid hlt
      clear hlt hkd
      go_wp2_with fail
      go_round
      case rel => exact ⟨k + 1, HLT.out, by rw [HS.out]; exact int_eq (by split <;> omega), by go_num⟩
      case measure => have := HLT.out; simp [intOf]; omega
    · obtain rfl : k = n := by omega
      have hge : ¬ (k : Int) + 1 < (((k + 1 : Nat)) : Int) := by omega
      go_wp2_with fail
      go_ret
      exact ⟨ret_int HD.out.symm, rfl⟩

/-- Where a list has a number first: the length where it has none. -/
def idxA (ds : List Int) (x : Int) : Nat := ds.findIdx (· == x)
set_option maxRecDepth 20000 in
set_option maxHeartbeats 4000000 in
theorem index_any (v : Value) (ds : List Int) (x : Int) (w : World) (hr : RowI w v ds) (hx : x ∈ ds) (hlen : ds.length ≤ 100000) : Calls Tryz.prog 42 #[v, .int .i64 x] w fun e w' => e = .returned (.int .i64 (idxA ds x : Nat)) ∧ w = w' := by
  obtain ⟨a, b, o, cap, rfl, ha, hc, hbl⟩ := hr.form
  have h0 := List.length_pos_of_mem hx
  rcases ha with h1 | rfl
  · rw [h1] at h0; simp at h0
  have HC := hid hc
  have HX := hid hx
  clear hr hbl hc h0 hx
  go_enter Tryz.func42, Tryz.ntmps42
  go_wp2_with fail
  go_loop [8] (fun t => ∃ k : Nat, k ≤ idxA ds x ∧ t = .int .i64 (k : Int)) (fun t => ds.length - (intOf t).toNat)
  case atStart => exact ⟨0, Nat.zero_le _, rfl⟩
  case round =>
    obtain ⟨k, hk, rfl⟩ := hrel
    have hlt : idxA ds x < ds.length := List.findIdx_lt_length_of_exists ⟨x, HX.out, by simp⟩
    have hkl : k < ds.length := by omega
    have hkl' : (k : Int) < ds.length := by omega
    have ck := HC.out k hkl
    by_cases he : ds[k] = x
    · have HI := hid (show idxA ds x = k by
        refine Nat.le_antisymm ?_ hk
        refine Nat.not_lt.1 fun g => ?_
        have := List.not_of_lt_findIdx g
        simp [he] at this)
      rw [he] at ck
      clear hlt hkl hk he
      go_wp2_with fail
      go_ret
      exact ⟨ret_int (by rw [HI.out]), rfl⟩
    · have HI := hid (show k + 1 ≤ idxA ds x by
        refine Nat.lt_of_le_of_ne hk fun g => he ?_
        have h1 := List.findIdx_getElem (p := fun y => y == x) (xs := ds) (w := hlt)
        simp only [beq_iff_eq] at h1
        have h2 : ds[k] = ds[ds.findIdx (fun y => y == x)]'hlt := by congr 1
        rw [h2]; exact h1)
      have hne : (x == ds[k]) = false := by simpa using (fun h => he h.symm)
      have HKL := hid hkl
      generalize ds[k] = y at *
      clear hlt hkl hk he
      go_wp2_with fail
      go_round
      case rel => exact ⟨k + 1, HI.out, by go_num⟩
      case measure => have := HKL.out; simp [intOf]; omega
end Go.Proofs.YtedfajokiblfhaaGreat

/- Walks of process's small tests: within, temperatures, ticks, valid, check: contracts. -/
namespace Go.Proofs.YtedfajokiblfhaaGreat
open Go.RowKit

set_option maxHeartbeats 400000 in
theorem pwithin_any (a b c : Int) (w : World) :
    Calls Tryz.prog 100 #[.int .i64 a, .int .i64 b, .int .i64 c] w fun e w' => e = .returned (.bool (decide (b ≤ a) && decide (a ≤ c))) ∧ w = w' := by
  by_cases h : b ≤ a
  · have hd : decide (b ≤ a) = true := by simpa using h
    go_enter Tryz.func100, Tryz.ntmps100
    go_wp2
    go_ret
    exact ⟨by simp [h], rfl⟩
  · have hd : decide (b ≤ a) = false := by simpa using h
    go_enter Tryz.func100, Tryz.ntmps100
    go_wp2
    go_ret
    exact ⟨by simp, rfl⟩
set_option maxHeartbeats 2000000 in
theorem ptemps_any (w : World) (v : Value) (l : List Int) (hl : RowI w v l) :
    Calls Tryz.prog 61 #[v] w fun e w' => e = .returned (.bool (okL l)) ∧ w = w' := by
  rcases hl with ⟨a0, c0, rfl, rfl⟩ | ⟨b, o, cap, rfl, hm, hc⟩
  · go_enter Tryz.func61, Tryz.ntmps61
    go_wp2
    refine wp_loop_rounds 1 ?_
    rw [rounds_succ]
    go_wp2
    go_ret
    exact ⟨rfl, rfl⟩
  · have HC := hid hc; clear hc
    unfold maxLen at hm
    go_enter Tryz.func61, Tryz.ntmps61
    go_wp2
    go_loop [7] (fun i => ∃ k : Nat, k ≤ l.length ∧ i = .int .i64 (k : Int) ∧ Hid (∀ j (hj : j < l.length), j < k → okT l[j] = true)) (fun i => l.length - (intOf i).toNat)
    case atStart => exact ⟨0, Nat.zero_le _, rfl, fun j _ h => absurd h (Nat.not_lt_zero _)⟩
    case round =>
      obtain ⟨k, hk, rfl, hok⟩ := hrel
      by_cases hlt : k < l.length
      · have ex := HC.out k hlt
        have hlt' : (k : Int) < l.length := by omega
        cases ho : okT l[k]
        · have hE := hid (okL_bad hlt ho)
          generalize l[k] = x at ex ho
          change (decide (-50000 ≤ x) && decide (x ≤ 200000)) = false at ho
          go_wp2_with (go_at_call 100; refine (pwithin_any _ _ _ _).mono ?_; rintro e w' ⟨rfl, rfl⟩)
          go_ret
          exact ⟨by rw [hE.out]; rfl, rfl⟩
        · have hst : Hid (∀ j (hj : j < l.length), j < k + 1 → okT l[j] = true) := fun j hj h => by
            rcases Nat.lt_or_ge j k with h1 | h1
            · exact hok.out j hj h1
            · obtain rfl : j = k := by omega
              exact ho
          generalize l[k] = x at ex ho
          change (decide (-50000 ≤ x) && decide (x ≤ 200000)) = true at ho
          go_wp2_with (go_at_call 100; refine (pwithin_any _ _ _ _).mono ?_; rintro e w' ⟨rfl, rfl⟩)
          go_round
          case rel => exact ⟨k + 1, by omega, by go_num, hst⟩
          case measure => simp [intOf]; omega
      · obtain rfl : k = l.length := by omega
        have hE := hid (okL_end hok.out rfl)
        go_wp2
        go_ret
        exact ⟨by rw [hE.out]; rfl, rfl⟩

/-- A killer as it came in. -/
structure Kl where
  s : ByteArray
  r : Int
  z : Int
  d : Int
  g : Int
def Kl.vB (q : Kl) : Bool := Lt.validB q.s.data.toList q.r q.z q.d q.g
def KlAt (w : World) (b i : Nat) (q : Kl) : Prop := w.cell? ⟨b, i, none⟩ = some (.string q.s) ∧ w.cell? ⟨b, i + 1, none⟩ = some (.int .i64 q.r) ∧ w.cell? ⟨b, i + 2, none⟩ = some (.int .i64 q.z) ∧ w.cell? ⟨b, i + 3, none⟩ = some (.int .i64 q.d) ∧ w.cell? ⟨b, i + 4, none⟩ = some (.int .i64 q.g)
theorem KlAt.keep {W w2 : World} {b i : Nat} {q : Kl} (h : KlAt W b i q) (hb : Below W.heap.size W w2) : KlAt w2 b i q :=
  ⟨keep_cell hb h.1, keep_cell hb h.2.1, keep_cell hb h.2.2.1, keep_cell hb h.2.2.2.1, keep_cell hb h.2.2.2.2⟩
/-- A row of killers. -/
def RowKl (w : World) (b : Nat) (ks : List Kl) : Prop := ∀ i (h : i < ks.length), KlAt w b (i * 5) ks[i]
theorem RowKl.keep {W w2 : World} {b : Nat} {ks : List Kl} (h : RowKl W b ks) (hb : Below W.heap.size W w2) : RowKl w2 b ks := fun i hi => (h i hi).keep hb
theorem klAt_new (W : World) (q : Kl) (T : TypeId) (fz : Nat × Nat) : KlAt (W.alloc (.cells #[.string q.s, .int .i64 q.r, .int .i64 q.z, .int .i64 q.d, .int .i64 q.g] T fz)) W.heap.size 0 q :=
  ⟨cell_alloc_new _ _ _ _ 0, cell_alloc_new _ _ _ _ 1, cell_alloc_new _ _ _ _ 2, cell_alloc_new _ _ _ _ 3, cell_alloc_new _ _ _ _ 4⟩
theorem klAt_at {W : World} {n : Nat} (q : Kl) (T : TypeId) (fz : Nat × Nat) (h : W.heap.size = n) : RowKl (W.alloc (.cells #[.string q.s, .int .i64 q.r, .int .i64 q.z, .int .i64 q.d, .int .i64 q.g] T fz)) n [q] := by
  subst h
  intro i hi
  obtain rfl : i = 0 := by simp at hi; omega
  exact klAt_new W q T fz
theorem all_take {ks : List Kl} {k : Nat} (h : ∀ j (hj : j < ks.length), j < k → ks[j].vB = true) (hk : k = ks.length) : ks.all Kl.vB = true := by
  subst hk
  refine List.all_eq_true.2 fun x hx => ?_
  obtain ⟨j, hj, rfl⟩ := List.getElem_of_mem hx
  exact h j hj hj
theorem all_bad {ks : List Kl} {k : Nat} (hk : k < ks.length) (h : ks[k].vB = false) : ks.all Kl.vB = false := by
  cases ho : ks.all Kl.vB with
  | false => rfl
  | true => rw [List.all_eq_true.1 ho _ (List.getElem_mem hk)] at h; cases h

set_option maxRecDepth 20000 in
set_option maxHeartbeats 4000000 in
theorem pvalid_any (r l a b k a2 b2 : Int) (w : World) (bk cap : Nat) (ks : List Kl) (hr : RowKl w bk ks) (hs : ∀ q ∈ ks, q.s.size ≤ maxLen) (hn : ks.length ≤ 100) :
    Calls Tryz.prog 60 #[.agg #[.int .i64 r, .int .i64 l, .int .i64 a, .int .i64 b, .int .i64 k, .int .i64 a2, .int .i64 b2], .slice (some ⟨bk, 0, none⟩) ks.length cap] w fun e w' => e = .returned (.bool (ks.all Kl.vB && canB r l a b k a2 b2)) ∧ Below w.heap.size w w' := by
  have HR := hid (fun (w1 : World) (g : Below w.heap.size w w1) => hr.keep g)
  have HS := hid hs
  have HX := hid (box1_start (w := w) (A := #[.int .i64 r, .int .i64 l, .int .i64 a, .int .i64 b, .int .i64 k, .int .i64 a2, .int .i64 b2]) (T := 23) (fz := (0, 0)))
  clear hr hs
  go_enter Tryz.func60, Tryz.ntmps60
  go_wp2_with fail
  go_loopw [9] (fun i wr => ∃ n : Nat, n ≤ ks.length ∧ i = .int .i64 (n : Int) ∧ Hid (∀ j (hj : j < ks.length), j < n → ks[j].vB = true) ∧ Hid (Box1 w wr #[.int .i64 r, .int .i64 l, .int .i64 a, .int .i64 b, .int .i64 k, .int .i64 a2, .int .i64 b2])) (fun i _ => ks.length - (intOf i).toNat)
  case atStart => exact ⟨0, Nat.zero_le _, rfl, fun j _ h => absurd h (Nat.not_lt_zero _), HX⟩
  case round =>
    obtain ⟨n, hk, rfl, hok, hX⟩ := hrel
    by_cases hlt : n < ks.length
    · obtain ⟨e0, e1, e2, e3, e4⟩ := HR.out _ hX.out.low n hlt
      have hlt' : (n : Int) < ks.length := by omega
      have hsz := HS.out _ (List.getElem_mem hlt)
      cases ho : ks[n].vB
      · have hE := hid (all_bad hlt ho)
        have HO := hid ho
        generalize ks[n] = q at *
        have HB := hid hX.out.low
        clear ho hok hX
        go_wp2_with fail
        refine (Lt.lvalid_any q.s q.r q.z q.d q.g _ hsz).mono ?_
        rintro e w3 ⟨rfl, hb⟩
        rw [show Lt.validB q.s.data.toList q.r q.z q.d q.g = false from HO.out]
        have HB3 := hid (bstep HB.out HB.out.size (balloc hb))
        clear hb
        go_wp2_with fail
        go_ret
        exact ⟨ret_bool (by rw [hE.out, Bool.false_and]), HB3.out⟩
      · have HST : Hid (∀ j (hj : j < ks.length), j < n + 1 → ks[j].vB = true) := fun j hj h => by
          rcases Nat.lt_or_ge j n with h1 | h1
          · exact hok.out j hj h1
          · obtain rfl : j = n := by omega
            exact ho
        have HO := hid ho
        have HLT := hid hlt
        generalize ks[n] = q at e0 e1 e2 e3 e4 hsz HO
        clear ho hok
        go_wp2_with fail
        refine (Lt.lvalid_any q.s q.r q.z q.d q.g _ hsz).mono ?_
        rintro e w3 ⟨rfl, hb⟩
        rw [show Lt.validB q.s.data.toList q.r q.z q.d q.g = true from HO.out]
        have HX3 := hid (hX.out.keep (balloc hb))
        clear hb e0 e1 e2 e3 e4
        go_wp2_with fail
        go_roundw
        case rel => exact ⟨n + 1, HLT.out, by go_num, HST, HX3⟩
        case measure => have := HLT.out; simp [intOf]; omega
    · obtain rfl : n = ks.length := by omega
      have hE := hid (all_take hok.out rfl)
      obtain ⟨b0, b1, b2', b3, b4, b5, b6⟩ := hX.out.can
      clear hok
      go_wp2_with fail
      refine (vcan_any _ _ _ _ _ _ _ _).mono ?_
      rintro e w3 ⟨rfl, hb⟩
      have HX3 := hid (hX.out.keep hb)
      clear hb b0 b1 b2' b3 b4 b5 b6
      go_wp2_with fail
      go_ret
      exact ⟨ret_bool (by rw [hE.out, Bool.true_and]), HX3.out.low⟩

theorem one_row {W : World} {n : Nat} (t : Int) (T : TypeId) (h : W.heap.size = n) : RowI (W.alloc (.cells #[.int .i64 t] T)) (.slice (some ⟨n, 0, none⟩) 1 1) [t] := by
  subst h
  refine .inr ⟨W.heap.size, 0, 1, rfl, by simp [maxLen], fun k hk => ?_⟩
  obtain rfl : k = 0 := by simp at hk; omega
  exact cell_alloc_new W _ T (0, 0) 0
/-- The error of a can, a killer, a beginning and baths. -/
def chk4 (vc vk : Bool) (t : Int) (l : List Int) : Int := if (vk && vc) = false then 1 else if (okT t && okL l) = false then 7 else if 2000 < l.length then 4 else 0
theorem chk4_no {vc vk : Bool} {t : Int} {l : List Int} (h : (vk && vc) = false) : chk4 vc vk t l = 1 := by unfold chk4; rw [if_pos h]
theorem chk4_far {vc vk : Bool} {t : Int} {l : List Int} (h : (vk && vc) = true) (g : (okT t && okL l) = false) : chk4 vc vk t l = 7 := by unfold chk4; rw [if_neg (by rw [h]; simp), if_pos g]
theorem chk4_long {vc vk : Bool} {t : Int} {l : List Int} (h : (vk && vc) = true) (g : (okT t && okL l) = true) (n : 2000 < l.length) : chk4 vc vk t l = 4 := by unfold chk4; rw [if_neg (by rw [h]; simp), if_neg (by rw [g]; simp), if_pos n]
theorem chk4_ok {vc vk : Bool} {t : Int} {l : List Int} (h : (vk && vc) = true) (g : (okT t && okL l) = true) (n : ¬ 2000 < l.length) : chk4 vc vk t l = 0 := by unfold chk4; rw [if_neg (by rw [h]; simp), if_neg (by rw [g]; simp), if_neg n]
theorem chk4_zero {vc vk : Bool} {t : Int} {l : List Int} (h : chk4 vc vk t l = 0) : vc = true ∧ vk = true ∧ okT t = true ∧ okL l = true ∧ l.length ≤ 2000 := by
  unfold chk4 at h
  split at h
  · cases h
  · split at h
    · cases h
    · split at h
      · cases h
      · rename_i h1 h2 h3
        rw [Bool.not_eq_false, Bool.and_eq_true] at h1 h2
        exact ⟨h1.2, h1.1, h2.1, h2.2, by omega⟩

set_option maxRecDepth 20000 in
set_option maxHeartbeats 4000000 in
theorem pcheck_any (r l a b k a2 b2 : Int) (w : World) (q : Kl) (t : Int) (v : Value) (p : List Int) (hs : q.s.size ≤ maxLen) (hl : RowI w v p) (hpm : p.length ≤ maxLen) :
    Calls Tryz.prog 34 #[.agg #[.int .i64 r, .int .i64 l, .int .i64 a, .int .i64 b, .int .i64 k, .int .i64 a2, .int .i64 b2], .agg #[.string q.s, .int .i64 q.r, .int .i64 q.z, .int .i64 q.d, .int .i64 q.g], .int .i64 t, v] w fun e w' => e = .returned (.int .i64 (chk4 (canB r l a b k a2 b2) q.vB t p)) ∧ Below w.heap.size w w' := by
  have HX := hid (box2_start (w := w) (A := #[.int .i64 r, .int .i64 l, .int .i64 a, .int .i64 b, .int .i64 k, .int .i64 a2, .int .i64 b2]) (B := #[.string q.s, .int .i64 q.r, .int .i64 q.z, .int .i64 q.d, .int .i64 q.g]) (T := 23) (T' := 25) (fz := (0, 0)) (fz' := (0, 0)))
  have HL := hid (fun w1 (g : Below w.heap.size w w1) => hl.keep g)
  obtain ⟨a0, cap, rfl⟩ := hl.shape
  unfold maxLen at hpm
  have HV : Hid (∀ (W : World) (n : Nat), W.heap.size = n → Calls Tryz.prog 60 #[.agg #[.int .i64 r, .int .i64 l, .int .i64 a, .int .i64 b, .int .i64 k, .int .i64 a2, .int .i64 b2], .slice (some ⟨n, 0, none⟩) 1 1] (W.alloc (.cells #[.string q.s, .int .i64 q.r, .int .i64 q.z, .int .i64 q.d, .int .i64 q.g] 25)) fun e w' => e = .returned (.bool (q.vB && canB r l a b k a2 b2)) ∧ Below (W.alloc (.cells #[.string q.s, .int .i64 q.r, .int .i64 q.z, .int .i64 q.d, .int .i64 q.g] 25)).heap.size (W.alloc (.cells #[.string q.s, .int .i64 q.r, .int .i64 q.z, .int .i64 q.d, .int .i64 q.g] 25)) w') := fun W n hn => by
    have := pvalid_any r l a b k a2 b2 (W.alloc (.cells #[.string q.s, .int .i64 q.r, .int .i64 q.z, .int .i64 q.d, .int .i64 q.g] 25)) n 1 [q] (klAt_at q _ _ hn) (by simpa using hs) (by simp)
    simpa using this
  clear hl hs
  cases h1 : (q.vB && canB r l a b k a2 b2)
  · have HE := hid (chk4_no (t := t) (l := p) h1)
    rw [h1] at HV
    clear h1
    go_enter Tryz.func34, Tryz.ntmps34
    go_wp2_with fail
    refine (HV.out _ _ (by simp)).mono ?_
    rintro e w1 ⟨rfl, hb⟩
    have HX := hid (HX.out.keep (balloc hb))
    clear hb
    go_wp2_with fail
    go_ret
    exact ⟨ret_int HE.out.symm, HX.out.low⟩
  rw [h1] at HV
  cases h2 : okT t
  · have HE := hid (chk4_far (t := t) (l := p) h1 (by rw [h2]; rfl))
    have HO := hid (show okL [t] = false by simp [okL, h2])
    clear h1 h2
    go_enter Tryz.func34, Tryz.ntmps34
    go_wp2_with fail
    refine (HV.out _ _ (by simp)).mono ?_
    rintro e w1 ⟨rfl, hb⟩
    have HX := hid (HX.out.keep (balloc hb))
    clear hb
    go_wp2_with fail
    refine (ptemps_any _ _ [t] (one_row _ _ rfl)).mono ?_
    rintro e w2 ⟨rfl, rfl⟩
    rw [HO.out]
    have HX := hid (HX.out.keep ((Below.refl _ _).alloc (Nat.le_refl _) (.cells #[.int .i64 t] 3)))
    go_wp2_with fail
    go_ret
    exact ⟨ret_int HE.out.symm, HX.out.low⟩
  have HO := hid (show okL [t] = true by simp [okL, h2])
  cases h3 : okL p
  · have HE := hid (chk4_far (t := t) (l := p) h1 (by rw [h3, Bool.and_false]))
    have HO3 := hid h3
    clear h1 h2 h3
    go_enter Tryz.func34, Tryz.ntmps34
    go_wp2_with fail
    refine (HV.out _ _ (by simp)).mono ?_
    rintro e w1 ⟨rfl, hb⟩
    have HX := hid (HX.out.keep (balloc hb))
    clear hb
    go_wp2_with fail
    refine (ptemps_any _ _ [t] (one_row _ _ rfl)).mono ?_
    rintro e w2 ⟨rfl, rfl⟩
    rw [HO.out]
    have HX := hid (HX.out.keep ((Below.refl _ _).alloc (Nat.le_refl _) (.cells #[.int .i64 t] 3)))
    go_wp2_with fail
    refine (ptemps_any _ _ p (HL.out _ HX.out.low)).mono ?_
    rintro e w3 ⟨rfl, rfl⟩
    rw [HO3.out]
    go_wp2_with fail
    go_ret
    exact ⟨ret_int HE.out.symm, HX.out.low⟩
  have h23 : (okT t && okL p) = true := by rw [h2, h3]; rfl
  have HO3 := hid h3
  by_cases h4 : 2000 < p.length
  · have HE := hid (chk4_long (t := t) (l := p) h1 h23 h4)
    have h4' : decide (2000 < (p.length : Int)) = true := by simp; omega
    clear h1 h2 h3 h23
    go_enter Tryz.func34, Tryz.ntmps34
    go_wp2_with fail
    refine (HV.out _ _ (by simp)).mono ?_
    rintro e w1 ⟨rfl, hb⟩
    have HX := hid (HX.out.keep (balloc hb))
    clear hb
    go_wp2_with fail
    refine (ptemps_any _ _ [t] (one_row _ _ rfl)).mono ?_
    rintro e w2 ⟨rfl, rfl⟩
    rw [HO.out]
    have HX := hid (HX.out.keep ((Below.refl _ _).alloc (Nat.le_refl _) (.cells #[.int .i64 t] 3)))
    go_wp2_with fail
    refine (ptemps_any _ _ p (HL.out _ HX.out.low)).mono ?_
    rintro e w3 ⟨rfl, rfl⟩
    rw [HO3.out]
    go_wp2_with fail
    go_ret
    exact ⟨ret_int HE.out.symm, HX.out.low⟩
  · have HE := hid (chk4_ok (t := t) (l := p) h1 h23 h4)
    have h4' : decide (2000 < (p.length : Int)) = false := by simp; omega
    clear h1 h2 h3 h23
    go_enter Tryz.func34, Tryz.ntmps34
    go_wp2_with fail
    refine (HV.out _ _ (by simp)).mono ?_
    rintro e w1 ⟨rfl, hb⟩
    have HX := hid (HX.out.keep (balloc hb))
    clear hb
    go_wp2_with fail
    refine (ptemps_any _ _ [t] (one_row _ _ rfl)).mono ?_
    rintro e w2 ⟨rfl, rfl⟩
    rw [HO.out]
    have HX := hid (HX.out.keep ((Below.refl _ _).alloc (Nat.le_refl _) (.cells #[.int .i64 t] 3)))
    go_wp2_with fail
    refine (ptemps_any _ _ p (HL.out _ HX.out.low)).mono ?_
    rintro e w3 ⟨rfl, rfl⟩
    rw [HO3.out]
    go_wp2_with fail
    go_ret
    exact ⟨ret_int HE.out.symm, HX.out.low⟩
end Go.Proofs.YtedfajokiblfhaaGreat
