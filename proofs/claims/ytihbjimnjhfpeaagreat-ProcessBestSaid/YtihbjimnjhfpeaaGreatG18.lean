/- Texts of this seat, one behind the other. -/
import Derived.Test.YtihbjimnjhfpeaaGreatG17
import Derived.Test.YtihbjimnjhfpeaaGreatG10
import Derived.Test.YtihbjimnjhfpeaaGreatG09
import Derived.Test.YtihbjimnjhfpeaaGreatG08
/- Walks of the reference's Running, SumUp: contracts. -/
namespace Go.Proofs.YtihbjimnjhfpeaaGreat.Lt
open Go.RowKit Go.Lib Go.Maps

/-- The sum of a list, cut at each step. -/
def sumL (f : Int → Nat) (l : List Int) : Nat := l.foldl (fun a t => cutN a (f t)) 0
theorem sumL_succ (f : Int → Nat) (l : List Int) (k : Nat) (hk : k < l.length) : sumL f (l.take (k + 1)) = cutN (sumL f (l.take k)) (f l[k]) := by
  unfold sumL
  rw [List.take_add_one, List.foldl_append]
  simp [hk]
theorem sumL_le (f : Int → Nat) (l : List Int) : sumL f l ≤ 1000000000000000000 := by
  unfold sumL
  suffices h : ∀ (l : List Int) (a : Nat), a ≤ 1000000000000000000 → l.foldl (fun a t => cutN a (f t)) a ≤ 1000000000000000000 from h l 0 (Nat.zero_le _)
  intro l
  induction l with
  | nil => intro a h; exact h
  | cons t l ih => intro a _; exact ih _ (Nat.min_le_right _ _)
/-- The first k running sums. -/
def runK (f : Int → Nat) (l : List Int) (k : Nat) : List Nat := (List.range k).map fun i => sumL f (l.take (i + 1))
theorem runK_len (f : Int → Nat) (l : List Int) (k : Nat) : (runK f l k).length = k := by simp [runK]
theorem runK_succ (f : Int → Nat) (l : List Int) (k : Nat) : runK f l (k + 1) = runK f l k ++ [sumL f (l.take (k + 1))] := by simp [runK, List.range_succ]

def dn (r : Int) (Z : Nat) (t : Int) : Nat := Pm.rateD r Z (t / 250)
def up (r : Int) (Z : Nat) (t : Int) : Nat := Pm.rateU r Z (qUp t)
theorem dn_le (r : Int) (Z : Nat) (t : Int) (h : (1 : Int) ≤ Z) : dn r Z t ≤ 10000000000000000 := Pm.rateD_le r Z _ h
theorem up_le (r : Int) (Z : Nat) (t : Int) (h : (1 : Int) ≤ Z) : up r Z t ≤ 10000000000000001 := by
  have := Pm.rateD_le r Z (qUp t) h
  unfold up; rw [Pm.rateU_eq]; split <;> omega

section
variable {s : ByteArray} {r z d g : Int} {w wr w2 : World} {b gD gU base : Nat}
theorem for_kept {vD vU : Value} (h : ForS s r z d g w b (negs 1003) (negs 1003) vD vU wr) : ∃ gD gU, KeptS s r z d g w b gD gU wr ∧ b < wr.heap.size ∧ gD < wr.heap.size ∧ gU < wr.heap.size := by
  have hD := h.rowD
  have hU := h.rowU
  rw [negs_len] at hD hU
  obtain ⟨gD, cD, rfl⟩ := row_succ (k := 1002) hD
  obtain ⟨gU, cU, rfl⟩ := row_succ (k := 1002) hU
  exact ⟨gD, gU, ⟨_, _, cD, cU, h, rowsOk_start r z⟩, lt_of_block h.blk, (World.ownsRow.lt hD gD rfl).2, (World.ownsRow.lt hU gU rfl).2⟩
theorem KeptS.grown {row : Option Nat} (h : KeptS s r z d g w b gD gU wr) (hg : wr.grownBy w2 row) (hr : ∀ j, row = some j → base ≤ j) (hb : b < base) (hD : gD < base) (hU : gU < base) : KeptS s r z d g w b gD gU w2 := by
  obtain ⟨l1, l2, cD, cU, h, hR⟩ := h
  have hbl := lt_of_block h.blk
  refine ⟨l1, l2, cD, cU, ⟨(hg.block b hbl (fun e => by have := hr _ e.symm; omega)).trans h.blk, World.ownsRow.kept h.rowD hg (.inr fun e => by have : base ≤ gD := hr _ e.symm; omega), World.ownsRow.kept h.rowU hg (.inr fun e => by have : base ≤ gU := hr _ e.symm; omega), h.ne, h.low.grown hg h.low.size (fun j hj => by have := hr j hj; have := h.le; omega), h.le⟩, hR⟩
theorem KeptS.low (h : KeptS s r z d g w b gD gU wr) : Below w.heap.size w wr := by
  obtain ⟨_, _, _, _, h, _⟩ := h
  exact h.low
theorem KeptS.append {v : Value} {l : List Nat} {o : Obj} (h : KeptS s r z d g w b gD gU wr) (hv : RowV wr base v l) (hg : (wr.alloc o).grownBy w2 v.ownBlock) (hb : b < base) (hD : gD < base) (hU : gU < base) : KeptS s r z d g w b gD gU w2 :=
  (h.grown (base := base) (World.grownBy_alloc wr o none) (fun k hk => by cases hk) hb hD hU).grown hg (fun k hk => (World.ownsRow.lt hv k hk).1) hb hD hU
theorem RowV.still {v : Value} {l : List Nat} (h : RowV wr base v l) (hs : Still gD gU wr w2) (hD : gD < base) (hU : gU < base) : RowV w2 base v l := by
  refine ⟨h.1, ?_⟩
  rcases h.2 with h1 | ⟨a, cap, cur, hv, hb, hg, rest⟩
  · exact .inl h1
  · exact .inr ⟨a, cap, cur, hv, hb, (hs.block a (lt_of_block hg) (by omega) (by omega)).trans hg, rest⟩
end

/-- What Running hands back of good lists. -/
def RunP (f : Int → Nat) (l : List Int) (w : World) (e : Ending) (w' : World) : Prop := ∃ v, e = .returned (.tuple #[v, .int .i64 0]) ∧ RowR w' v (runK f l l.length) ∧ Below w.heap.size w w'


end Go.Proofs.YtihbjimnjhfpeaaGreat.Lt

/- Plain facts of dishes: a can, and what its places have got. -/
namespace Go.Proofs.YtihbjimnjhfpeaaGreat
open Go.RowKit

/-- The sums behind a tick that made T. -/
def addD (f : Int → Nat) (S : List Nat) (T : List Int) : List Nat := List.zipWith (fun s t => Lt.cutN s (f t)) S T
theorem addD_len {f : Int → Nat} {S : List Nat} {T : List Int} (h : S.length = T.length) : (addD f S T).length = S.length := by
  simp [addD, h]
theorem addD_get {f : Int → Nat} {S : List Nat} {T : List Int} {i : Nat} (h : i < (addD f S T).length) (h1 : i < S.length) (h2 : i < T.length) : (addD f S T)[i] = Lt.cutN S[i] (f T[i]) := by
  simp [addD]
theorem cutN_le (a b : Nat) : Lt.cutN a b ≤ 1000000000000000000 := by unfold Lt.cutN; omega
/-- A can's body, and the sums of its places. -/
abbrev Dish := Bd × List Nat
def dishT (c : Cn) (f : Int → Nat) (d : Dish) (b : Int) : Dish := (tickS c d.1 b, addD f d.2 (tickS c d.1 b).1)
def dishR (c : Cn) (f : Int → Nat) (d : Dish) (l : List Int) : Dish := l.foldl (dishT c f) d
theorem dishR_nil (c : Cn) (f : Int → Nat) (d : Dish) : dishR c f d [] = d := rfl
theorem dishR_append (c : Cn) (f : Int → Nat) (d : Dish) (l m : List Int) : dishR c f d (l ++ m) = dishR c f (dishR c f d l) m := List.foldl_append
theorem dishR_succ (c : Cn) (f : Int → Nat) (d : Dish) (l : List Int) (k : Nat) (hk : k < l.length) : dishR c f d (l.take (k + 1)) = dishT c f (dishR c f d (l.take k)) l[k] := by
  rw [List.take_add_one, dishR_append]
  simp [hk, dishR]
theorem dishR_body (c : Cn) (f : Int → Nat) (d : Dish) (l : List Int) : (dishR c f d l).1 = runS c d.1 l := by
  induction l generalizing d with
  | nil => rfl
  | cons b l ih => exact ih (dishT c f d b)
/-- The dish has a temperature and a sum for each place. -/
structure Good (c : Cn) (d : Dish) : Prop where
  body : bodyV c d.1.1 d.1.2 = true
  len : d.2.length = c.P
  le : ∀ s ∈ d.2, s ≤ 1000000000000000000
theorem mem_addD {f : Int → Nat} {S : List Nat} {T : List Int} {x : Nat} (h : x ∈ addD f S T) : x ≤ 1000000000000000000 := by
  unfold addD at h
  rw [List.zipWith_eq_zipWith_take_min] at h
  obtain ⟨i, hi, rfl⟩ := List.getElem_of_mem h
  simp only [List.getElem_zipWith]
  exact cutN_le _ _
theorem Good.tick {c : Cn} {f : Int → Nat} {d : Dish} {b : Int} (hc : c.Ok) (h : Good c d) (hb : okT b = true) : Good c (dishT c f d b) := by
  have h1 : bodyV c (tickS c d.1 b).1 (tickS c d.1 b).2 = true := by
    have := body_run (p := [b]) hc h.body (by simp [okL, hb])
    exact this
  refine ⟨h1, ?_, fun s hs => mem_addD hs⟩
  show (addD f d.2 (tickS c d.1 b).1).length = c.P
  rw [addD_len (by rw [h.len, (bodyV_iff.1 h1).1])]
  exact h.len
theorem Good.run {c : Cn} {f : Int → Nat} {d : Dish} {l : List Int} (hc : c.Ok) (h : Good c d) (hl : okL l = true) : Good c (dishR c f d l) := by
  induction l generalizing d with
  | nil => exact h
  | cons b l ih =>
    unfold okL at hl
    rw [List.all_cons, Bool.and_eq_true] at hl
    exact ih (h.tick hc hl.1) hl.2
/-- The dish at the beginning. -/
def dish0 (c : Cn) (t : Int) : Dish := (evB c t, List.replicate c.P 0)
theorem dish0_good {c : Cn} {t : Int} (h : okT t = true) : Good c (dish0 c t) :=
  ⟨evB_valid h, by simp [dish0], fun s hs => by have := List.eq_of_mem_replicate hs; omega⟩
/-- No place leaves the range of the beginning and the baths. -/
theorem tickS_bd {c : Cn} (hc : c.Ok) {x : Bd} {b lo hi : Int} (hlen : x.1.length = c.P) (hx : ∀ t ∈ x.1, lo ≤ t ∧ t ≤ hi) (hb : lo ≤ b ∧ b ≤ hi) : ∀ t ∈ (tickS c x b).1, lo ≤ t ∧ t ≤ hi := by
  obtain ⟨a1, a2, a3⟩ := hc.ra x.2
  exact tickT_bd a1 a2 a3 hlen hx hb
theorem runS_bd {c : Cn} (hc : c.Ok) {lo hi : Int} : ∀ (l : List Int) (x : Bd), x.1.length = c.P → (∀ t ∈ x.1, lo ≤ t ∧ t ≤ hi) → (∀ b ∈ l, lo ≤ b ∧ b ≤ hi) → ∀ t ∈ (runS c x l).1, lo ≤ t ∧ t ≤ hi
  | [], _, _, hx, _ => hx
  | b :: l, x, hlen, hx, hl => runS_bd hc l (tickS c x b) (tickT_len _ _ _ _ _ _) (tickS_bd hc hlen hx (hl b (List.mem_cons_self))) fun d hd => hl d (List.mem_cons_of_mem _ hd)

/-- A list of places that is the same upside down. -/
def Sym {α : Type} (z : α) (R L : Nat) (T : List α) : Prop := ∀ i, i < R * L → T.getD ((L - 1 - i / R) * R + i % R) z = T.getD i z
theorem idx_mir {R L i : Nat} (hR : 0 < R) (hi : i < R * L) : (L - 1 - i / R) * R + i % R < R * L ∧ i / R < L ∧ i % R < R := by
  have h1 : i / R < L := Nat.div_lt_of_lt_mul hi
  have h2 := Nat.mod_lt i hR
  have h3 : L - 1 - i / R < L := by generalize i / R = q at h1 ⊢; omega
  exact ⟨idx_lt h2 h3, h1, h2⟩
theorem qrN {R p q : Nat} (hp : p < R) : (q * R + p) / R = q ∧ (q * R + p) % R = p :=
  ⟨by rw [Nat.add_comm, Nat.add_mul_div_right _ _ (by omega), Nat.div_eq_of_lt hp, Nat.zero_add], by rw [Nat.add_comm, Nat.add_mul_mod_self_right, Nat.mod_eq_of_lt hp]⟩
theorem nearT_sym {R L : Nat} {T : List Int} {b : Int} (hs : Sym 0 R L T) (r l : Int) : nearT R L T b r ((L : Int) - 1 - l) = nearT R L T b r l := by
  by_cases g : 0 ≤ r ∧ r < R ∧ 0 ≤ l ∧ l < L
  · rw [nearT_in g, nearT_in (by omega)]
    obtain ⟨p, q, rfl, rfl, hp, hq, e⟩ := idx_nat g
    have hi := idx_lt hp hq
    have e2 : (L : Int) - 1 - (q : Int) = ((L - 1 - q : Nat) : Int) := by omega
    have hh := hs _ hi
    rw [(qrN hp).1, (qrN hp).2] at hh
    rw [e, e2, ← Int.natCast_mul, ← Int.natCast_add, Int.toNat_natCast, hh]
  · rw [nearT_out g, nearT_out (by omega)]
theorem numSwap (A B : Int) (r : Nat) (x1 x2 x3 x4 x5 : Int) : num A B r x1 x2 x3 x4 x5 = num A B r x1 x2 x4 x3 x5 := by
  unfold num; rw [Int.add_comm x3 x4]
theorem mixT_sym {R L : Nat} {A B : Int} {T : List Int} {b : Int} {r l : Nat} (hs : Sym 0 R L T) (hl : l < L) : mixT R L A B T b r (L - 1 - l) = mixT R L A B T b r l := by
  unfold mixT
  have e0 : ((L - 1 - l : Nat) : Int) = (L : Int) - 1 - (l : Int) := by omega
  have e1 : ((L - 1 - l : Nat) : Int) + 1 = (L : Int) - 1 - ((l : Int) - 1) := by omega
  have e2 : ((L - 1 - l : Nat) : Int) - 1 = (L : Int) - 1 - ((l : Int) + 1) := by omega
  rw [e1, e2, e0, nearT_sym hs, nearT_sym hs, nearT_sym hs, nearT_sym hs, nearT_sym hs, numSwap]
theorem tickT_sym {R L : Nat} {A B : Int} {T : List Int} {b : Int} (hR : 0 < R) (hs : Sym 0 R L T) : Sym 0 R L (tickT R L A B T b) := by
  intro i hi
  obtain ⟨h1, h2, h3⟩ := idx_mir hR hi
  rw [getD_at (by rw [tickT_len]; exact h1), getD_at (by rw [tickT_len]; exact hi), tickT_get, tickT_get, (qrN h3).1, (qrN h3).2]
  exact mixT_sym hs h2
theorem addD_getD {f : Int → Nat} {S : List Nat} {T : List Int} {i : Nat} (h1 : i < S.length) (h2 : i < T.length) : (addD f S T).getD i 0 = Lt.cutN (S.getD i 0) (f (T.getD i 0)) := by
  simp [addD, List.getD, List.getElem?_zipWith, h1, h2]
theorem addD_sym {f : Int → Nat} {R L : Nat} {S : List Nat} {T : List Int} (hR : 0 < R) (h1 : S.length = R * L) (h2 : T.length = R * L) (hs : Sym 0 R L S) (ht : Sym 0 R L T) : Sym 0 R L (addD f S T) := by
  intro i hi
  have h3 := (idx_mir hR hi).1
  rw [addD_getD (by omega) (by omega), addD_getD (by omega) (by omega), hs i hi, ht i hi]
theorem sym_rep {α : Type} (z a : α) {R L : Nat} (hR : 0 < R) : Sym z R L (List.replicate (R * L) a) := by
  intro i hi
  have h3 := (idx_mir hR hi).1
  simp [List.getD, h3, hi]
theorem dishR_sym {c : Cn} {f : Int → Nat} (hc : c.Ok) : ∀ (l : List Int) (d : Dish), d.2.length = c.R * c.L → Sym 0 c.R c.L d.1.1 → Sym 0 c.R c.L d.2 → Sym 0 c.R c.L (dishR c f d l).2
  | [], _, _, _, h => h
  | b :: l, d, hl, ht, hs => by
    have h1 : Sym 0 c.R c.L (tickS c d.1 b).1 := tickT_sym hc.r1 ht
    have h2 : (tickS c d.1 b).1.length = c.R * c.L := tickT_len _ _ _ _ _ _
    exact dishR_sym hc l (dishT c f d b) (by show (addD f d.2 _).length = _; rw [addD_len (by rw [hl, h2])]; exact hl) h1 (addD_sym hc.r1 hl h2 hs h1)
theorem dish0_sym {c : Cn} {f : Int → Nat} (hc : c.Ok) (t : Int) (l : List Int) : Sym 0 c.R c.L (dishR c f (dish0 c t) l).2 :=
  dishR_sym hc l _ (by simp [dish0, Cn.P]) (sym_rep 0 t hc.r1) (sym_rep 0 0 hc.r1)
end Go.Proofs.YtihbjimnjhfpeaaGreat

/- Plain facts: a can that is hotter all the time has at least the same sums (no Break). -/
namespace Go.Proofs.YtihbjimnjhfpeaaGreat
open Go.RowKit

def leN (S U : List Nat) : Prop := ∀ i (a : i < S.length) (c : i < U.length), S[i] ≤ U[i]
theorem cutN_mono {a b c d : Nat} (h : a ≤ c) (k : b ≤ d) : Lt.cutN a b ≤ Lt.cutN c d := by unfold Lt.cutN; omega
theorem addD_le {f : Int → Nat} {S S' : List Nat} {T T' : List Int} (hf : ∀ t u : Int, t ≤ u → f t ≤ f u) (h1 : S.length = T.length) (h2 : S'.length = T'.length) (hs : leN S S') (ht : leL T T') (hl : T.length = T'.length) : leN (addD f S T) (addD f S' T') := by
  intro i a c
  rw [addD_len h1] at a
  rw [addD_len h2] at c
  rw [addD_get _ a (by omega), addD_get _ c (by omega)]
  exact cutN_mono (hs i a c) (hf _ _ (ht i (by omega) (by omega)))
/-- Two dishes of a can without a Break, one nowhere hotter and with no more than the other. -/
structure LeD (c : Cn) (d e : Dish) : Prop where
  w1 : Warm c d.1
  w2 : Warm c e.1
  b1 : d.1.2 = false
  b2 : e.1.2 = false
  l1 : d.2.length = c.P
  l2 : e.2.length = c.P
  t : leL d.1.1 e.1.1
  s : leN d.2 e.2
theorem LeD.tick {c : Cn} {f : Int → Nat} {d e : Dish} {b b' : Int} (hc : c.Ok) (hK : c.K = 0) (hf : ∀ t u : Int, t ≤ u → f t ≤ f u) (h : LeD c d e) (hb : okT b = true) (hb' : okT b' = true) (hle : b ≤ b') : LeD c (dishT c f d b) (dishT c f e b') := by
  obtain ⟨w1, w2, b1, b2, l1, l2, ht, hs⟩ := h
  obtain ⟨⟨T, x⟩, S⟩ := d
  obtain ⟨⟨U, y⟩, V⟩ := e
  simp only at b1 b2 l1 l2 ht hs w1 w2
  subst b1; subst b2
  obtain ⟨a1, a2, a3⟩ := hc.ra false
  have hb : -50000 ≤ b ∧ b ≤ 200000 := by simpa [okT] using hb
  have hb' : -50000 ≤ b' ∧ b' ≤ 200000 := by simpa [okT] using hb'
  have hw1 := w1.tick hc hb.1 hb.2
  have hw2 := w2.tick hc hb'.1 hb'.2
  have hts := tickT_le a1 a2 a3 w1.len w2.len ht hle
  unfold dishT
  simp only
  have e1 := hw1.len
  have e2 := hw2.len
  rw [tickS_cold hK] at hw1 hw2 e1 e2 ⊢
  rw [tickS_cold hK]
  simp only at e1 e2
  have hP : c.P = c.R * c.L := rfl
  exact ⟨hw1, hw2, rfl, rfl, by show (addD f S _).length = _; rw [addD_len (by rw [l1, e1, hP])]; exact l1, by show (addD f V _).length = _; rw [addD_len (by rw [l2, e2, hP])]; exact l2, hts, addD_le hf (by rw [l1, e1, hP]) (by rw [l2, e2, hP]) hs hts (by rw [e1, e2])⟩
theorem LeD.run {c : Cn} {f : Int → Nat} (hc : c.Ok) (hK : c.K = 0) (hf : ∀ t u : Int, t ≤ u → f t ≤ f u) : ∀ (l m : List Int) (d e : Dish), l.length = m.length → leL l m → okL l = true → okL m = true → LeD c d e → LeD c (dishR c f d l) (dishR c f e m)
  | [], [], _, _, _, _, _, _, h => h
  | [], _ :: _, _, _, hl, _, _, _, _ => by simp at hl
  | _ :: _, [], _, _, hl, _, _, _, _ => by simp at hl
  | b :: l, b' :: m, d, e, hl, hle, ho, ho', h => by
    unfold okL at ho ho'
    rw [List.all_cons, Bool.and_eq_true] at ho ho'
    exact LeD.run hc hK hf l m (dishT c f d b) (dishT c f e b') (by simpa using hl) (fun i a c => hle (i + 1) (by simpa using a) (by simpa using c)) ho.2 ho'.2 (h.tick hc hK hf ho.1 ho'.1 (hle 0 (by simp) (by simp)))
theorem evB_warm {c : Cn} {t : Int} (h : okT t = true) : Warm c (evB c t) := by
  obtain ⟨h1, _, h3⟩ := bodyV_iff.1 (evB_valid (c := c) h)
  exact ⟨h1, okL_bd h3⟩
theorem evB_cold {c : Cn} (hK : c.K = 0) (t : Int) : (evB c t).2 = false := by simp [evB, hK]
theorem dish0_le {c : Cn} (hK : c.K = 0) {t u : Int} (ht : okT t = true) (hu : okT u = true) (h : t ≤ u) : LeD c (dish0 c t) (dish0 c u) :=
  ⟨evB_warm ht, evB_warm hu, evB_cold hK t, evB_cold hK u, by simp [dish0], by simp [dish0], fun i a d => by simpa [dish0, evB] using h, fun i a d => by simp [dish0]⟩
/-- A tick in a bath that is no colder leaves an even can nowhere colder. -/
theorem dish0_tick {c : Cn} {f : Int → Nat} (hc : c.Ok) (hK : c.K = 0) {t b : Int} (ht : okT t = true) (hb : okT b = true) (h : t ≤ b) : LeD c (dish0 c t) (dishT c f (dish0 c t) b) := by
  have hb' : -50000 ≤ b ∧ b ≤ 200000 := by simpa [okT] using hb
  have hw := (evB_warm (c := c) ht).tick hc hb'.1 hb'.2
  have e1 := hw.len
  have hbd : ∀ x ∈ (tickS c (evB c t) b).1, t ≤ x ∧ x ≤ b := by
    refine tickS_bd hc (by simp [evB]) (fun x hx => ?_) ⟨h, Int.le_refl _⟩
    have := List.eq_of_mem_replicate hx
    omega
  refine ⟨evB_warm ht, hw, evB_cold hK t, ?_, by simp [dish0], ?_, fun i a d => ?_, fun i a d => by simp [dish0]⟩
  · show (tickS c (evB c t) b).2 = false
    have e : evB c t = ((evB c t).1, false) := by rw [← evB_cold hK t]
    rw [e, tickS_cold hK]
  · show (addD f _ _).length = c.P
    rw [addD_len (by show (dish0 c t).2.length = (tickS c (evB c t) b).1.length; rw [e1]; simp [dish0, Cn.P])]
    simp [dish0]
  · have h1 := hbd _ (List.getElem_mem d)
    have h2 : (dish0 c t).1.1[i] = t := by simp [dish0, evB]
    rw [h2]; exact h1.1

/-- The least sum of a dish. -/
def ivN (S : List Nat) : List Int := S.map fun (n : Nat) => (n : Int)
theorem ivN_len (S : List Nat) : (ivN S).length = S.length := by simp [ivN]
def lowD (d : Dish) : Int := minA (ivN d.2)
theorem lowD_le {S U : List Nat} (h0 : 0 < S.length) (hl : S.length = U.length) (h : leN S U) : minA (ivN S) ≤ minA (ivN U) := by
  have h1 := minA_mem (ds := ivN U) (by rw [ivN_len]; omega)
  obtain ⟨i, hi, e⟩ := List.getElem_of_mem h1
  rw [ivN_len] at hi
  rw [← e]
  have h2 := minA_le (ds := ivN S) (x := (ivN S)[i]'(by rw [ivN_len]; omega)) (List.getElem_mem _)
  refine Int.le_trans h2 ?_
  simp only [ivN, List.getElem_map]
  have := h i (by omega) hi
  omega
theorem lowD_nonneg {S : List Nat} (h0 : 0 < S.length) : 0 ≤ minA (ivN S) := by
  have h1 := minA_mem (ds := ivN S) (by rw [ivN_len]; exact h0)
  obtain ⟨n, _, e⟩ := List.mem_map.1 (show minA (ivN S) ∈ S.map fun (n : Nat) => (n : Int) from h1)
  omega
theorem LeD.low {c : Cn} {d e : Dish} (hc : c.Ok) (h : LeD c d e) : lowD d ≤ lowD e :=
  lowD_le (by rw [h.l1]; exact hc.p.1) (by rw [h.l1, h.l2]) h.s
end Go.Proofs.YtihbjimnjhfpeaaGreat

/- Walks of Coldest, Hottest and Centre of both: contracts. -/
namespace Go.Proofs.YtihbjimnjhfpeaaGreat
open Go.RowKit

/-- Three numbers come back. -/
def TripP (p t n : Int) (w : World) (e : Ending) (w' : World) : Prop := e = .returned (.tuple #[.int .i64 p, .int .i64 t, .int .i64 n]) ∧ Below w.heap.size w w'
/-- The foremost place of a body, its temperature, and an error. -/
def bestP (lt : Int → Int → Bool) (v : Bool) (T : List Int) : Int := if v then ((bestT lt T T.length).1 : Nat) else 0
def bestV (lt : Int → Int → Bool) (v : Bool) (T : List Int) : Int := if v then (bestT lt T T.length).2 else 0
def bestE (v : Bool) : Int := if v then 0 else 1
theorem below_two {w w' : World} (h : ∃ n, w' = w.drewN n) : Below w.heap.size w w' := by obtain ⟨n, rfl⟩ := h; exact bdrewN (Below.refl _ _)

/-- What Coldest and Hottest hand back. -/
def BestP (lt : Int → Int → Bool) (v : Bool) (T : List Int) (w : World) : Ending → World → Prop := TripP (bestP lt v T) (bestV lt v T) (bestE v) w
end Go.Proofs.YtihbjimnjhfpeaaGreat

/- Walks of least, Coldest, Hottest and Centre of the reference, and of Centre: contracts. -/
namespace Go.Proofs.YtihbjimnjhfpeaaGreat
open Go.RowKit

theorem Box1.two {w w1 : World} {d0 d1 : Value} (h : Box1 w w1 #[d0, d1]) : w1.cell? ⟨w.heap.size, 0, none⟩ = some d0 ∧ w1.cell? ⟨w.heap.size, 1, none⟩ = some d1 := ⟨h.fst 0, h.fst 1⟩
theorem bestT_of {lt : Int → Int → Bool} {T : List Int} {k j : Nat} (hj : j < T.length) (hk : k ≤ T.length) (h : (bestT lt T k).1 = j) : (bestT lt T k).2 = T[j] := by
  obtain ⟨h1, h2⟩ := bestT_at lt T k hk (by omega)
  subst h
  rw [← h2, getD_at h1]
theorem bestT_step {lt : Int → Int → Bool} {T : List Int} {k j : Nat} (hj : j < T.length) (hk : k < T.length) (h : (bestT lt T k).1 = j) : (bestT lt T (k + 1)).1 = if lt T[k] T[j] then k else j := by
  have h2 := bestT_of hj (by omega) h
  cases hb : lt T[k] T[j]
  · rw [bestT_no (v := T[k]) (getD_at hk) (by rw [h2]; exact hb), h]; rfl
  · rw [bestT_yes (v := T[k]) (getD_at hk) (by rw [h2]; exact hb)]; rfl

set_option maxRecDepth 20000 in
set_option maxHeartbeats 2000000 in
theorem least_any (w : World) (v : Value) (T : List Int) (br : Bool) (hl : RowI w v T) (h0 : 0 < T.length) :
    Calls Tryz.prog 170 #[.agg #[v, .bool br]] w fun e w' => e = .returned (.tuple #[.int .i64 ((bestT ltB T T.length).1 : Nat), .int .i64 (bestT ltB T T.length).2]) ∧ Below w.heap.size w w' := by
  obtain ⟨b, o, cap, rfl, hc⟩ := hl.some h0
  have hm : T.length ≤ maxLen := by rcases hl with ⟨_, _, _, h⟩ | ⟨_, _, _, _, h, _⟩ <;> simp_all [maxLen]
  unfold maxLen at hm
  have HC := hid (fun w1 (g : Below w.heap.size w w1) j h => keep_cell g (hc j h))
  clear hc hl
  have BX := hid (box1_start (w := w) (A := #[.slice (some ⟨b, o, none⟩) T.length cap, .bool br]) (T := 87) (fz := (0, 0)))
  obtain ⟨x0, x1⟩ := BX.out.two
  go_enter Tryz.func170, Tryz.ntmps170
  go_wp2_with fail
  go_loopw [4, 5] (fun p i wr => ∃ k j : Nat, k ≤ T.length ∧ j < T.length ∧ p = .int .i64 (j : Int) ∧ i = .int .i64 (k : Int) ∧ Hid ((bestT ltB T k).1 = j) ∧ Hid (Box1 w wr #[.slice (some ⟨b, o, none⟩) T.length cap, .bool br])) (fun _ i _ => T.length - (intOf i).toNat)
  case atStart => exact ⟨0, 0, Nat.zero_le _, h0, rfl, rfl, rfl, BX⟩
  case round =>
    obtain ⟨k, j, hk, hj, rfl, rfl, HB, BX⟩ := hrel
    clear x0 x1
    obtain ⟨x0, x1⟩ := BX.out.two
    have ey := HC.out _ BX.out.low j hj
    by_cases hlt : k < T.length
    · have ex := HC.out _ BX.out.low k hlt
      have HST := hid (bestT_step hj hlt HB.out)
      by_cases he : T[k] < T[j]
      · have hb : ltB T[k] T[j] = true := by simpa [ltB] using he
        rw [hb] at HST
        generalize T[k] = s at ex he
        generalize T[j] = q at ey he
        clear hb
        go_wp2
        go_quiet (fail)
        go_wp2
        go_roundw
        case rel => exact ⟨k + 1, k, by omega, hlt, rfl, by go_num, HST, hid (BX.out.keep (bdrewN (Below.refl _ _)))⟩
        case measure => simp [intOf]; omega
      · have hb : ltB T[k] T[j] = false := by simpa [ltB] using he
        rw [hb] at HST
        generalize T[k] = s at ex he
        generalize T[j] = q at ey he
        clear hb
        go_wp2
        go_quiet (fail)
        go_wp2
        go_roundw
        case rel => exact ⟨k + 1, j, by omega, hj, rfl, by go_num, HST, hid (BX.out.keep (bdrewN (Below.refl _ _)))⟩
        case measure => simp [intOf]; omega
    · obtain rfl : k = T.length := by omega
      have HV := hid (bestT_of hj (Nat.le_refl _) HB.out)
      generalize T[j] = q at ey HV
      go_wp2
      go_quiet (fail)
      go_wp2
      go_ret2
      exact ⟨by rw [HB.out, HV.out]; rfl, bdrewN BX.out.low⟩
end Go.Proofs.YtihbjimnjhfpeaaGreat
