/- Texts of this seat, one behind the other. -/
import Derived.Test.YtihbjimnjhfpeaaGreatR14
import Derived.Test.YtihbjimnjhfpeaaGreatR08
import Derived.Test.YtihbjimnjhfpeaaGreatR07
import Derived.Lib.AppendZeros
/- Walks of the reference's Running, SumUp: contracts. -/
namespace Go.Proofs.YtihbjimnjhfpeaaGreat.Lt
open Go.RowKit Go.Lib Go.Maps

/-- The sum of a list, cut at each step. -/
def sumL (f : Int → Nat) (l : List Int) : Nat := l.foldl (fun a t => cutN a (f t)) 0
/-- The first k running sums. -/
def runK (f : Int → Nat) (l : List Int) (k : Nat) : List Nat := (List.range k).map fun i => sumL f (l.take (i + 1))
def dn (r : Int) (Z : Nat) (t : Int) : Nat := Pm.rateD r Z (t / 250)
def up (r : Int) (Z : Nat) (t : Int) : Nat := Pm.rateU r Z (qUp t)
theorem up_le (r : Int) (Z : Nat) (t : Int) (h : (1 : Int) ≤ Z) : up r Z t ≤ 10000000000000001 := by
  have := Pm.rateD_le r Z (qUp t) h
  unfold up; rw [Pm.rateU_eq]; split <;> omega

section
variable {s : ByteArray} {r z d g : Int} {w wr w2 : World} {b gD gU base : Nat}
theorem KeptS.grown {row : Option Nat} (h : KeptS s r z d g w b gD gU wr) (hg : wr.grownBy w2 row) (hr : ∀ j, row = some j → base ≤ j) (hb : b < base) (hD : gD < base) (hU : gU < base) : KeptS s r z d g w b gD gU w2 := by
  obtain ⟨l1, l2, cD, cU, h, hR⟩ := h
  have hbl := lt_of_block h.blk
  refine ⟨l1, l2, cD, cU, ⟨(hg.block b hbl (fun e => by have := hr _ e.symm; omega)).trans h.blk, World.ownsRow.kept h.rowD hg (.inr fun e => by have : base ≤ gD := hr _ e.symm; omega), World.ownsRow.kept h.rowU hg (.inr fun e => by have : base ≤ gU := hr _ e.symm; omega), h.ne, h.low.grown hg h.low.size (fun j hj => by have := hr j hj; have := h.le; omega), h.le⟩, hR⟩
theorem KeptS.low (h : KeptS s r z d g w b gD gU wr) : Below w.heap.size w wr := by
  obtain ⟨_, _, _, _, h, _⟩ := h
  exact h.low
theorem KeptS.append {v : Value} {l : List Nat} {o : Obj} (h : KeptS s r z d g w b gD gU wr) (hv : RowV wr base v l) (hg : (wr.alloc o).grownBy w2 v.ownBlock) (hb : b < base) (hD : gD < base) (hU : gU < base) : KeptS s r z d g w b gD gU w2 :=
  (h.grown (base := base) (World.grownBy_alloc wr o none) (fun k hk => by cases hk) hb hD hU).grown hg (fun k hk => (World.ownsRow.lt hv k hk).1) hb hD hU
end

/-- What Running hands back of good lists. -/
def RunP (f : Int → Nat) (l : List Int) (w : World) (e : Ending) (w' : World) : Prop := ∃ v, e = .returned (.tuple #[v, .int .i64 0]) ∧ RowR w' v (runK f l l.length) ∧ Below w.heap.size w w'


end Go.Proofs.YtihbjimnjhfpeaaGreat.Lt

/- Plain facts of dishes: a can, and what its places have got. -/
namespace Go.Proofs.YtihbjimnjhfpeaaGreat
open Go.RowKit

/-- The sums behind a tick that made T. -/
def addD (f : Int → Nat) (S : List Nat) (T : List Int) : List Nat := List.zipWith (fun s t => Lt.cutN s (f t)) S T
theorem addD_len {f : Int → Nat} {S : List Nat} {T : List Int} (h : S.length = T.length) : (addD f S T).length = S.length := by
  simp [addD, h]
theorem addD_get {f : Int → Nat} {S : List Nat} {T : List Int} {i : Nat} (h : i < (addD f S T).length) (h1 : i < S.length) (h2 : i < T.length) : (addD f S T)[i] = Lt.cutN S[i] (f T[i]) := by
  simp [addD]
theorem cutN_le (a b : Nat) : Lt.cutN a b ≤ 1000000000000000000 := by unfold Lt.cutN; omega
/-- A can's body, and the sums of its places. -/
abbrev Dish := Bd × List Nat
def dishT (c : Cn) (f : Int → Nat) (d : Dish) (b : Int) : Dish := (tickS c d.1 b, addD f d.2 (tickS c d.1 b).1)
def dishR (c : Cn) (f : Int → Nat) (d : Dish) (l : List Int) : Dish := l.foldl (dishT c f) d
theorem dishR_nil (c : Cn) (f : Int → Nat) (d : Dish) : dishR c f d [] = d := rfl
theorem dishR_append (c : Cn) (f : Int → Nat) (d : Dish) (l m : List Int) : dishR c f d (l ++ m) = dishR c f (dishR c f d l) m := List.foldl_append
theorem dishR_succ (c : Cn) (f : Int → Nat) (d : Dish) (l : List Int) (k : Nat) (hk : k < l.length) : dishR c f d (l.take (k + 1)) = dishT c f (dishR c f d (l.take k)) l[k] := by
  rw [List.take_add_one, dishR_append]
  simp [hk, dishR]
theorem dishR_body (c : Cn) (f : Int → Nat) (d : Dish) (l : List Int) : (dishR c f d l).1 = runS c d.1 l := by
  induction l generalizing d with
  | nil => rfl
  | cons b l ih => exact ih (dishT c f d b)
/-- The dish has a temperature and a sum for each place. -/
structure Good (c : Cn) (d : Dish) : Prop where
  body : bodyV c d.1.1 d.1.2 = true
  len : d.2.length = c.P
  le : ∀ s ∈ d.2, s ≤ 1000000000000000000
theorem mem_addD {f : Int → Nat} {S : List Nat} {T : List Int} {x : Nat} (h : x ∈ addD f S T) : x ≤ 1000000000000000000 := by
  unfold addD at h
  rw [List.zipWith_eq_zipWith_take_min] at h
  obtain ⟨i, hi, rfl⟩ := List.getElem_of_mem h
  simp only [List.getElem_zipWith]
  exact cutN_le _ _
theorem Good.tick {c : Cn} {f : Int → Nat} {d : Dish} {b : Int} (hc : c.Ok) (h : Good c d) (hb : okT b = true) : Good c (dishT c f d b) := by
  have h1 : bodyV c (tickS c d.1 b).1 (tickS c d.1 b).2 = true := by
    have := body_run (p := [b]) hc h.body (by simp [okL, hb])
    exact this
  refine ⟨h1, ?_, fun s hs => mem_addD hs⟩
  show (addD f d.2 (tickS c d.1 b).1).length = c.P
  rw [addD_len (by rw [h.len, (bodyV_iff.1 h1).1])]
  exact h.len
theorem Good.run {c : Cn} {f : Int → Nat} {d : Dish} {l : List Int} (hc : c.Ok) (h : Good c d) (hl : okL l = true) : Good c (dishR c f d l) := by
  induction l generalizing d with
  | nil => exact h
  | cons b l ih =>
    unfold okL at hl
    rw [List.all_cons, Bool.and_eq_true] at hl
    exact ih (h.tick hc hl.1) hl.2
/-- The dish at the beginning. -/
def dish0 (c : Cn) (t : Int) : Dish := (evB c t, List.replicate c.P 0)
theorem dish0_good {c : Cn} {t : Int} (h : okT t = true) : Good c (dish0 c t) :=
  ⟨evB_valid h, by simp [dish0], fun s hs => by have := List.eq_of_mem_replicate hs; omega⟩
/-- No place leaves the range of the beginning and the baths. -/
theorem tickS_bd {c : Cn} (hc : c.Ok) {x : Bd} {b lo hi : Int} (hlen : x.1.length = c.P) (hx : ∀ t ∈ x.1, lo ≤ t ∧ t ≤ hi) (hb : lo ≤ b ∧ b ≤ hi) : ∀ t ∈ (tickS c x b).1, lo ≤ t ∧ t ≤ hi := by
  obtain ⟨a1, a2, a3⟩ := hc.ra x.2
  exact tickT_bd a1 a2 a3 hlen hx hb
theorem runS_bd {c : Cn} (hc : c.Ok) {lo hi : Int} : ∀ (l : List Int) (x : Bd), x.1.length = c.P → (∀ t ∈ x.1, lo ≤ t ∧ t ≤ hi) → (∀ b ∈ l, lo ≤ b ∧ b ≤ hi) → ∀ t ∈ (runS c x l).1, lo ≤ t ∧ t ≤ hi
  | [], _, _, hx, _ => hx
  | b :: l, x, hlen, hx, hl => runS_bd hc l (tickS c x b) (tickT_len _ _ _ _ _ _) (tickS_bd hc hlen hx (hl b (List.mem_cons_self))) fun d hd => hl d (List.mem_cons_of_mem _ hd)

/-- A list of places that is the same upside down. -/
def Sym {α : Type} (z : α) (R L : Nat) (T : List α) : Prop := ∀ i, i < R * L → T.getD ((L - 1 - i / R) * R + i % R) z = T.getD i z
end Go.Proofs.YtihbjimnjhfpeaaGreat

/- slices.Concat of rows of ints, slices.Min, Max, Index over one: contracts. -/
namespace Go.Proofs.YtihbjimnjhfpeaaGreat
open Go.RowKit Go.Shelf Go.Lib

/-- Rows of ints, one behind the other. -/
def flN (ls : Nat → List Int) (k : Nat) : List Int := (List.range k).flatMap ls
theorem flN_succ (ls : Nat → List Int) (k : Nat) : flN ls (k + 1) = flN ls k ++ ls k := by
  unfold flN; rw [List.range_succ, List.flatMap_append]; simp
theorem flN_two (ls : Nat → List Int) : flN ls 2 = ls 0 ++ ls 1 := by rw [flN_succ, flN_succ]; simp [flN]
theorem flN_mono (ls : Nat → List Int) {j k : Nat} (h : j ≤ k) : (flN ls j).length ≤ (flN ls k).length := by
  induction k with
  | zero => obtain rfl : j = 0 := by omega
            exact Nat.le_refl _
  | succ k ih =>
    rcases Nat.lt_or_ge j (k + 1) with h1 | h1
    · have := ih (by omega); rw [flN_succ, List.length_append]; omega
    · obtain rfl : j = k + 1 := by omega
      exact Nat.le_refl _
theorem infoQc : (Tryz.prog.info? 3).map (fun i => (i.zero, i.size, i.bytes)) = some (some (.int .i64 0), 1, 8) := by kernel_rfl
/-- A row of ints that the call made, maybe none. -/
def NewI (w : World) (l : List Int) (e : Ending) (w' : World) : Prop := ∃ v, e = .returned v ∧ w'.ownsRow w.heap.size 3 1 v (ivs l).length (ivs l) ∧ Below w.heap.size w w'
theorem NewI.rowI {w w' : World} {l : List Int} {v : Value} (h : w'.ownsRow w.heap.size 3 1 v (ivs l).length (ivs l)) (hl : l.length ≤ 1000000) : RowI w' v l := own_rowI (by rwa [ivs_len] at h) hl
theorem own_shapeP {w : World} {base e n : Nat} {v : Value} {xs : List Value} (h : w.ownsRow base e 1 v n xs) : ∃ a c, v = .slice a n c := by
  rcases h.2 with ⟨rfl, rfl⟩ | ⟨g, cap, cur, rfl, _⟩
  · exact ⟨none, 0, rfl⟩
  · exact ⟨_, _, rfl⟩
set_option maxRecDepth 20000 in
set_option maxHeartbeats 2000000 in
theorem growN_any (n : Nat) (w : World) (hm : n ≤ 1000000) :
    Calls Tryz.prog 114 #[.slice none 0 0, .int .i64 (n : Int)] w (NewI w []) := by
  rcases Nat.eq_zero_or_pos n with rfl | h0
  · go_enter Tryz.func114, Tryz.ntmps114
    go_wp2
    go_ret
    exact ⟨_, rfl, World.ownsRow_nil _ _ _ _, Below.refl _ _⟩
  obtain ⟨i0, hi, hz0, hz1, hz2⟩ := info_parts infoQc
  have hr := fun W : World => run_append_nil_zeros (P := Tryz.prog) W 28 3 28 3 i0 _ .i64 .i64 Tryz.underlying28 Tryz.underlying3 hi hz0 n h0 (by rw [hz1]; omega) (by omega) (by rw [hz2]; omega)
  have h1 : ¬ (n : Int) < 0 := by omega
  have h2 : (0 : Int) < (n : Int) := by omega
  go_enter Tryz.func114, Tryz.ntmps114
  go_wp2_with (refine wpList_append_run _ rfl _ _ 28 3 rfl _ _ rfl rfl _ _ (hr _) ?_)
  go_ret
  have g1 := grownCap_ge w n 0 3
  have g2 := grownCap_le_maxLen w n 0 3 (by unfold maxLen; omega)
  refine ⟨_, rfl, ⟨rfl, .inr ⟨w.heap.size, _, _, rfl, Nat.le_refl _, (heap_alloc_new w _), Nat.zero_le _, g2, ?_, by simp [ivs]⟩⟩, ((Below.refl _ w).alloc (Nat.le_refl _) _).drew⟩
  simp [size_zeroCells]
  omega
set_option maxRecDepth 20000 in
set_option maxHeartbeats 4000000 in
theorem concatN_any (g cap L : Nat) (vs : Nat → Value) (ls : Nat → List Int) (w : World) (hbig : (flN ls L).length ≤ 100000) (hLb : L ≤ 1000)
    (hrow : ∀ j, j < L → w.cell? ⟨g, j, none⟩ = some (vs j)) (hl : ∀ j, j < L → RowI w (vs j) (ls j)) :
    Calls Tryz.prog 72 #[.slice (some ⟨g, 0, none⟩) L cap] w (NewI w (flN ls L)) := by
  have HROW := hid (fun (w1 : World) (hb : Below w.heap.size w w1) j (hj : j < L) => And.intro (keep_cell hb (hrow j hj)) ((hl j hj).keep hb))
  have HBIG := hid hbig
  clear hrow hl hbig
  go_enter Tryz.func72, Tryz.ntmps72
  go_wp2
  go_loop [3, 11] (fun s t => ∃ k : Nat, k ≤ L ∧ s = .int .i64 (((flN ls k).length : Nat) : Int) ∧ t = .int .i64 (k : Int)) (fun _ t => L - (intOf t).toNat)
  case atStart => exact ⟨0, Nat.zero_le _, by simp [flN], rfl⟩
  case round =>
    obtain ⟨k, hk, rfl, rfl⟩ := hrel
    by_cases hlt : k < L
    · have hlt' : (k : Int) < L := by omega
      obtain ⟨e1, e2⟩ := HROW.out w (Below.refl _ _) k hlt
      obtain ⟨a, c, hv⟩ := e2.shape
      rw [hv] at e1
      have HS := hid (show (flN ls (k + 1)).length = (flN ls k).length + (ls k).length by rw [flN_succ, List.length_append])
      have hle := flN_mono ls (show k + 1 ≤ L from hlt)
      rw [HS.out] at hle
      have hle2 := HBIG.out
      generalize (ls k).length = R at *
      obtain ⟨S, hS⟩ : ∃ S, S = (flN ls k).length := ⟨_, rfl⟩
      rw [← hS] at hle HS
      rw [← hS]
      have hn0 : ¬ ((S : Int) + (R : Int) < 0) := by omega
      have hle3 : S + R ≤ 100000 := by omega
      clear hS hv e2 hle hle2
      go_wp2
      go_round
      case rel => exact ⟨k + 1, hlt, by rw [HS.out]; go_num, by go_num⟩
      case measure => simp [intOf]; omega
    · obtain rfl : k = L := by omega
      clear hlt hk
      obtain ⟨S, hS⟩ : ∃ S, S = (flN ls k).length := ⟨_, rfl⟩
      have HS := hid hS
      have hbS : S ≤ 100000 := by rw [hS]; exact HBIG.out
      rw [← hS]
      clear hS
      go_wp2_with fail
      refine (growN_any S w (by omega)).mono ?_
      rintro e w1 ⟨u, rfl, hu, hb⟩
      have HU := hid hu
      have HB := hid hb
      clear hu hb
      obtain ⟨u0, c0, rfl⟩ := own_shapeP HU.out
      obtain ⟨i0, hi, hz0, hz1, hz2⟩ := info_parts infoQc
      go_wp2_with fail
      go_loopw [6, 27] (fun u t wr => ∃ m : Nat, m ≤ k ∧ t = .int .i64 (m : Int) ∧ Hid (wr.ownsRow w.heap.size 3 1 u (ivs (flN ls m)).length (ivs (flN ls m))) ∧ Hid (Below w.heap.size w wr)) (fun _ t _ => k - (intOf t).toNat)
      case atStart => exact ⟨0, Nat.zero_le _, rfl, HU, HB⟩
      case round =>
        obtain ⟨m, hm, rfl, hO, hB⟩ := hrel
        obtain ⟨ua, uc, rfl⟩ := own_shapeP hO.out
        by_cases hlt : m < k
        · have hlt' : (m : Int) < k := by omega
          obtain ⟨e1, e2⟩ := HROW.out _ hB.out m hlt
          obtain ⟨a, c, hv⟩ := e2.shape
          have HSRC := hid e2.src
          rw [hv] at e1 HSRC
          have HSUC := hid (flN_succ ls m)
          have hle := flN_mono ls (show m + 1 ≤ k from hlt)
          rw [flN_succ, List.length_append] at hle
          have hle2 := HBIG.out
          have HBD := hid (show (ivs (flN ls m)).length + (ls m).length ≤ 1000000 by rw [ivs_len]; omega)
          have HLT := hid hlt
          generalize flN ls m = F at *
          generalize ls m = C at *
          clear hle hle2 hlt hv e2
          go_wp2_with (at_builtin; (refine wpList_app rfl (.tmp 31) (.tmp 32) 28 rfl w.heap.size 3 i0 Tryz.underlying28 hi hz0 hz1 hz2 _ (ivs F) rfl hO.out _ C rfl HSRC.out HBD.out hB.out.size ?_); intro v3 w6 hA1; have HB6 := hid (app_low hB.out hO.out (Nat.le_refl _) hA1); have HO6 := hid (app_next hA1); obtain ⟨a3, c3, rfl⟩ := own_shapeP HO6.out; clear hA1)
          go_roundw
          case rel => exact ⟨m + 1, HLT.out, by go_num, by have h := HO6.out; rw [List.length_append] at h; rw [HSUC.out, ivs_len, List.length_append]; exact hid h, HB6⟩
          case measure => have := HLT.out; simp [intOf]; omega
        · obtain rfl : m = k := by omega
          go_wp2_with fail
          go_ret
          exact ⟨_, rfl, hO.out, hB.out⟩

/-- The least, and the greatest, of the first numbers of a list. -/
def minK (ds : List Int) : Nat → Int
  | 0 => ds.getD 0 0
  | k + 1 => min (minK ds k) (ds.getD (k + 1) 0)
def maxK (ds : List Int) : Nat → Int
  | 0 => ds.getD 0 0
  | k + 1 => max (maxK ds k) (ds.getD (k + 1) 0)
def minA (ds : List Int) : Int := minK ds (ds.length - 1)
def maxA (ds : List Int) : Int := maxK ds (ds.length - 1)
theorem getD_here {ds : List Int} {k : Nat} (h : k < ds.length) : ds.getD k 0 = ds[k] := by simp [List.getD, h]
theorem minK_mem {ds : List Int} : ∀ {k : Nat}, k < ds.length → minK ds k ∈ ds
  | 0, h => by unfold minK; rw [getD_here h]; exact List.getElem_mem h
  | k + 1, h => by
    have h1 := minK_mem (ds := ds) (k := k) (by omega)
    have h2 := List.getElem_mem h
    unfold minK
    rw [getD_here h]
    by_cases g : minK ds k ≤ ds[k + 1]
    · rw [Int.min_eq_left g]; exact h1
    · rw [Int.min_eq_right (by omega)]; exact h2
theorem maxK_mem {ds : List Int} : ∀ {k : Nat}, k < ds.length → maxK ds k ∈ ds
  | 0, h => by unfold maxK; rw [getD_here h]; exact List.getElem_mem h
  | k + 1, h => by
    have h1 := maxK_mem (ds := ds) (k := k) (by omega)
    have h2 := List.getElem_mem h
    unfold maxK
    rw [getD_here h]
    by_cases g : maxK ds k ≤ ds[k + 1]
    · rw [Int.max_eq_right g]; exact h2
    · rw [Int.max_eq_left (by omega)]; exact h1
theorem minK_le {ds : List Int} : ∀ {k : Nat}, k < ds.length → ∀ j ≤ k, ∀ hj : j < ds.length, minK ds k ≤ ds[j]
  | 0, h, j, hj, hl => by
    obtain rfl : j = 0 := by omega
    unfold minK; rw [getD_here h]; exact Int.le_refl _
  | k + 1, h, j, hj, hl => by
    unfold minK
    rw [getD_here h]
    by_cases g : j = k + 1
    · subst g; exact Int.min_le_right ..
    · have := minK_le (ds := ds) (k := k) (by omega) j (by omega) hl
      have := Int.min_le_left (minK ds k) ds[k + 1]
      omega
theorem maxK_ge {ds : List Int} : ∀ {k : Nat}, k < ds.length → ∀ j ≤ k, ∀ hj : j < ds.length, ds[j] ≤ maxK ds k
  | 0, h, j, hj, hl => by
    obtain rfl : j = 0 := by omega
    unfold maxK; rw [getD_here h]; exact Int.le_refl _
  | k + 1, h, j, hj, hl => by
    unfold maxK
    rw [getD_here h]
    by_cases g : j = k + 1
    · subst g; exact Int.le_max_right ..
    · have := maxK_ge (ds := ds) (k := k) (by omega) j (by omega) hl
      have := Int.le_max_left (maxK ds k) ds[k + 1]
      omega
theorem minA_mem {ds : List Int} (h : 0 < ds.length) : minA ds ∈ ds := minK_mem (by omega)
theorem maxA_mem {ds : List Int} (h : 0 < ds.length) : maxA ds ∈ ds := maxK_mem (by omega)
theorem minA_le {ds : List Int} {x : Int} (hx : x ∈ ds) : minA ds ≤ x := by
  obtain ⟨j, hj, rfl⟩ := List.getElem_of_mem hx
  exact minK_le (by omega) j (by omega) hj
theorem maxA_ge {ds : List Int} {x : Int} (hx : x ∈ ds) : x ≤ maxA ds := by
  obtain ⟨j, hj, rfl⟩ := List.getElem_of_mem hx
  exact maxK_ge (by omega) j (by omega) hj
theorem minK_succ {ds : List Int} {k : Nat} (h : k + 1 < ds.length) : minK ds (k + 1) = min (minK ds k) ds[k + 1] := by
  simp only [minK, getD_here h]
theorem maxK_succ {ds : List Int} {k : Nat} (h : k + 1 < ds.length) : maxK ds (k + 1) = max (maxK ds k) ds[k + 1] := by
  simp only [maxK, getD_here h]
theorem minK_zero {ds : List Int} (h : 0 < ds.length) : minK ds 0 = ds[0] := by simp only [minK, getD_here h]
theorem maxK_zero {ds : List Int} (h : 0 < ds.length) : maxK ds 0 = ds[0] := by simp only [maxK, getD_here h]

set_option maxRecDepth 20000 in
set_option maxHeartbeats 4000000 in
theorem minA_any (v : Value) (ds : List Int) (w : World) (hr : RowI w v ds) (h0 : 0 < ds.length) (hlen : ds.length ≤ 100000) : Calls Tryz.prog 94 #[v] w fun e w' => e = .returned (.int .i64 (minA ds)) ∧ w = w' := by
  obtain ⟨a, b, o, cap, rfl, ha, hc, hbl⟩ := hr.form
  obtain ⟨n, hn⟩ : ∃ n, ds.length = n + 1 := ⟨ds.length - 1, by omega⟩
  have HD := hid (show minA ds = minK ds n by unfold minA; rw [hn]; rfl)
  rcases ha with h1 | rfl
  · rw [h1] at h0; simp at h0
  have c0 := hc 0 h0
  have hz := minK_zero h0
  rw [← hz, Nat.add_zero] at c0
  clear hz
  have HC := hid hc
  have HN := hid hn
  rw [hn]
  have hn2 : n + 1 ≤ 100000 := by omega
  have hcast : (((n + 1 : Nat)) : Int) = (n : Int) + 1 := by omega
  have hlt1 : ¬ (((n + 1 : Nat)) : Int) < 1 := by omega
  clear hn hr hbl hc h0 hlen
  go_enter Tryz.func94, Tryz.ntmps94
  go_wp2_with fail
  go_loop [3, 4] (fun m t => ∃ k : Nat, k ≤ n ∧ m = .int .i64 (minK ds k) ∧ t = .int .i64 ((k : Int) + 1)) (fun _ t => (n : Int) + 1 - intOf t |>.toNat)
  case atStart => exact ⟨0, by omega, rfl, rfl⟩
  case round =>
    obtain ⟨k, hk, rfl, rfl⟩ := hrel
    by_cases hlt : k < n
    · have hlt' : (k : Int) + 1 < (((n + 1 : Nat)) : Int) := by omega
      have hkd : k + 1 < ds.length := by rw [HN.out]; omega
      have ck := HC.out (k + 1) hkd
      have HS := hid (minK_succ hkd)
      generalize ds[k + 1]'hkd = x at *
      have HLT := hid hlt
      clear hlt hkd
      go_wp2_with fail
      go_round
      case rel => exact ⟨k + 1, HLT.out, by rw [HS.out]; exact int_eq (by split <;> omega), by go_num⟩
      case measure => have := HLT.out; simp [intOf]; omega
    · obtain rfl : k = n := by omega
      have hge : ¬ (k : Int) + 1 < (((k + 1 : Nat)) : Int) := by omega
      go_wp2_with fail
      go_ret
      exact ⟨ret_int HD.out.symm, rfl⟩
set_option maxRecDepth 20000 in
set_option maxHeartbeats 4000000 in
theorem maxA_any (v : Value) (ds : List Int) (w : World) (hr : RowI w v ds) (h0 : 0 < ds.length) (hlen : ds.length ≤ 100000) : Calls Tryz.prog 33 #[v] w fun e w' => e = .returned (.int .i64 (maxA ds)) ∧ w = w' := by
  obtain ⟨a, b, o, cap, rfl, ha, hc, hbl⟩ := hr.form
  obtain ⟨n, hn⟩ : ∃ n, ds.length = n + 1 := ⟨ds.length - 1, by omega⟩
  have HD := hid (show maxA ds = maxK ds n by unfold maxA; rw [hn]; rfl)
  rcases ha with h1 | rfl
  · rw [h1] at h0; simp at h0
  have c0 := hc 0 h0
  have hz := maxK_zero h0
  rw [← hz, Nat.add_zero] at c0
  clear hz
  have HC := hid hc
  have HN := hid hn
  rw [hn]
  have hn2 : n + 1 ≤ 100000 := by omega
  have hcast : (((n + 1 : Nat)) : Int) = (n : Int) + 1 := by omega
  have hlt1 : ¬ (((n + 1 : Nat)) : Int) < 1 := by omega
  clear hn hr hbl hc h0 hlen
  go_enter Tryz.func33, Tryz.ntmps33
  go_wp2_with fail
  go_loop [3, 4] (fun m t => ∃ k : Nat, k ≤ n ∧ m = .int .i64 (maxK ds k) ∧ t = .int .i64 ((k : Int) + 1)) (fun _ t => (n : Int) + 1 - intOf t |>.toNat)
  case atStart => exact ⟨0, by omega, rfl, rfl⟩
  case round =>
    obtain ⟨k, hk, rfl, rfl⟩ := hrel
    by_cases hlt : k < n
    · have hlt' : (k : Int) + 1 < (((n + 1 : Nat)) : Int) := by omega
      have hkd : k + 1 < ds.length := by rw [HN.out]; omega
      have ck := HC.out (k + 1) hkd
      have HS := hid (maxK_succ hkd)
      generalize ds[k + 1]'hkd = x at *
      have HLT := hid hlt
      clear hlt hkd
      go_wp2_with fail
      go_round
      case rel => exact ⟨k + 1, HLT.out, by rw [HS.out]; exact int_eq (by split <;> omega), by go_num⟩
      case measure => have := HLT.out; simp [intOf]; omega
    · obtain rfl : k = n := by omega
      have hge : ¬ (k : Int) + 1 < (((k + 1 : Nat)) : Int) := by omega
      go_wp2_with fail
      go_ret
      exact ⟨ret_int HD.out.symm, rfl⟩

/-- Where a list has a number first: the length where it has none. -/
def idxA (ds : List Int) (x : Int) : Nat := ds.findIdx (· == x)
set_option maxRecDepth 20000 in
set_option maxHeartbeats 4000000 in
theorem index_any (v : Value) (ds : List Int) (x : Int) (w : World) (hr : RowI w v ds) (hx : x ∈ ds) (hlen : ds.length ≤ 100000) : Calls Tryz.prog 95 #[v, .int .i64 x] w fun e w' => e = .returned (.int .i64 (idxA ds x : Nat)) ∧ w = w' := by
  obtain ⟨a, b, o, cap, rfl, ha, hc, hbl⟩ := hr.form
  have h0 := List.length_pos_of_mem hx
  rcases ha with h1 | rfl
  · rw [h1] at h0; simp at h0
  have HC := hid hc
  have HX := hid hx
  clear hr hbl hc h0 hx
  go_enter Tryz.func95, Tryz.ntmps95
  go_wp2_with fail
  go_loop [8] (fun t => ∃ k : Nat, k ≤ idxA ds x ∧ t = .int .i64 (k : Int)) (fun t => ds.length - (intOf t).toNat)
  case atStart => exact ⟨0, Nat.zero_le _, rfl⟩
  case round =>
    obtain ⟨k, hk, rfl⟩ := hrel
    have hlt : idxA ds x < ds.length := List.findIdx_lt_length_of_exists ⟨x, HX.out, by simp⟩
    have hkl : k < ds.length := by omega
    have hkl' : (k : Int) < ds.length := by omega
    have ck := HC.out k hkl
    by_cases he : ds[k] = x
    · have HI := hid (show idxA ds x = k by
        refine Nat.le_antisymm ?_ hk
        refine Nat.not_lt.1 fun g => ?_
        have := List.not_of_lt_findIdx g
        simp [he] at this)
      rw [he] at ck
      clear hlt hkl hk he
      go_wp2_with fail
      go_ret
      exact ⟨ret_int (by rw [HI.out]), rfl⟩
    · have HI := hid (show k + 1 ≤ idxA ds x by
        refine Nat.lt_of_le_of_ne hk fun g => he ?_
        have h1 := List.findIdx_getElem (p := fun y => y == x) (xs := ds) (w := hlt)
        simp only [beq_iff_eq] at h1
        have h2 : ds[k] = ds[ds.findIdx (fun y => y == x)]'hlt := by congr 1
        rw [h2]; exact h1)
      have hne : (x == ds[k]) = false := by simpa using (fun h => he h.symm)
      have HKL := hid hkl
      generalize ds[k] = y at *
      clear hlt hkl hk he
      go_wp2_with fail
      go_round
      case rel => exact ⟨k + 1, HI.out, by go_num⟩
      case measure => have := HKL.out; simp [intOf]; omega
end Go.Proofs.YtihbjimnjhfpeaaGreat
