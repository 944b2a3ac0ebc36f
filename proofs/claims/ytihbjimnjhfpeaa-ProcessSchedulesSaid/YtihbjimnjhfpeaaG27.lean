/- Texts of this seat, one behind the other. -/
import Derived.Test.YtihbjimnjhfpeaaG26
import Derived.Test.YtihbjimnjhfpeaaG16
/- Walks of the reference's Running, SumUp: contracts. -/
namespace Go.Proofs.Ytihbjimnjhfpeaa.Lt
open Go.RowKit Go.Lib Go.Maps

/-- The sum of a list, cut at each step. -/
def sumL (f : Int → Nat) (l : List Int) : Nat := l.foldl (fun a t => cutN a (f t)) 0
theorem sumL_succ (f : Int → Nat) (l : List Int) (k : Nat) (hk : k < l.length) : sumL f (l.take (k + 1)) = cutN (sumL f (l.take k)) (f l[k]) := by
  unfold sumL
  rw [List.take_add_one, List.foldl_append]
  simp [hk]
theorem sumL_le (f : Int → Nat) (l : List Int) : sumL f l ≤ 1000000000000000000 := by
  unfold sumL
  suffices h : ∀ (l : List Int) (a : Nat), a ≤ 1000000000000000000 → l.foldl (fun a t => cutN a (f t)) a ≤ 1000000000000000000 from h l 0 (Nat.zero_le _)
  intro l
  induction l with
  | nil => intro a h; exact h
  | cons t l ih => intro a _; exact ih _ (Nat.min_le_right _ _)
/-- The first k running sums. -/
def runK (f : Int → Nat) (l : List Int) (k : Nat) : List Nat := (List.range k).map fun i => sumL f (l.take (i + 1))
theorem runK_len (f : Int → Nat) (l : List Int) (k : Nat) : (runK f l k).length = k := by simp [runK]
theorem runK_succ (f : Int → Nat) (l : List Int) (k : Nat) : runK f l (k + 1) = runK f l k ++ [sumL f (l.take (k + 1))] := by simp [runK, List.range_succ]

def dn (r : Int) (Z : Nat) (t : Int) : Nat := Pm.rateD r Z (t / 250)
def up (r : Int) (Z : Nat) (t : Int) : Nat := Pm.rateU r Z (qUp t)
theorem dn_le (r : Int) (Z : Nat) (t : Int) (h : (1 : Int) ≤ Z) : dn r Z t ≤ 10000000000000000 := Pm.rateD_le r Z _ h
theorem up_le (r : Int) (Z : Nat) (t : Int) (h : (1 : Int) ≤ Z) : up r Z t ≤ 10000000000000001 := by
  have := Pm.rateD_le r Z (qUp t) h
  unfold up; rw [Pm.rateU_eq]; split <;> omega

section
variable {s : ByteArray} {r z d g : Int} {w wr w2 : World} {b gD gU base : Nat}
theorem RowV.still {v : Value} {l : List Nat} (h : RowV wr base v l) (hs : Still gD gU wr w2) (hD : gD < base) (hU : gU < base) : RowV w2 base v l := by
  refine ⟨h.1, ?_⟩
  rcases h.2 with h1 | ⟨a, cap, cur, hv, hb, hg, rest⟩
  · exact .inl h1
  · exact .inr ⟨a, cap, cur, hv, hb, (hs.block a (lt_of_block hg) (by omega) (by omega)).trans hg, rest⟩
end

/-- What Running hands back of good lists. -/
def RunP (f : Int → Nat) (l : List Int) (w : World) (e : Ending) (w' : World) : Prop := ∃ v, e = .returned (.tuple #[v, .int .i64 0]) ∧ RowR w' v (runK f l l.length) ∧ Below w.heap.size w w'


end Go.Proofs.Ytihbjimnjhfpeaa.Lt

/- Plain facts of dishes: a can, and what its places have got. -/
namespace Go.Proofs.Ytihbjimnjhfpeaa
open Go.RowKit

/-- The sums behind a tick that made T. -/
def addD (f : Int → Nat) (S : List Nat) (T : List Int) : List Nat := List.zipWith (fun s t => Lt.cutN s (f t)) S T
theorem addD_len {f : Int → Nat} {S : List Nat} {T : List Int} (h : S.length = T.length) : (addD f S T).length = S.length := by
  simp [addD, h]
theorem addD_get {f : Int → Nat} {S : List Nat} {T : List Int} {i : Nat} (h : i < (addD f S T).length) (h1 : i < S.length) (h2 : i < T.length) : (addD f S T)[i] = Lt.cutN S[i] (f T[i]) := by
  simp [addD]
theorem cutN_le (a b : Nat) : Lt.cutN a b ≤ 1000000000000000000 := by unfold Lt.cutN; omega
/-- A can's body, and the sums of its places. -/
abbrev Dish := Bd × List Nat
def dishT (c : Cn) (f : Int → Nat) (d : Dish) (b : Int) : Dish := (tickS c d.1 b, addD f d.2 (tickS c d.1 b).1)
def dishR (c : Cn) (f : Int → Nat) (d : Dish) (l : List Int) : Dish := l.foldl (dishT c f) d
theorem dishR_nil (c : Cn) (f : Int → Nat) (d : Dish) : dishR c f d [] = d := rfl
theorem dishR_append (c : Cn) (f : Int → Nat) (d : Dish) (l m : List Int) : dishR c f d (l ++ m) = dishR c f (dishR c f d l) m := List.foldl_append
theorem dishR_succ (c : Cn) (f : Int → Nat) (d : Dish) (l : List Int) (k : Nat) (hk : k < l.length) : dishR c f d (l.take (k + 1)) = dishT c f (dishR c f d (l.take k)) l[k] := by
  rw [List.take_add_one, dishR_append]
  simp [hk, dishR]
theorem dishR_body (c : Cn) (f : Int → Nat) (d : Dish) (l : List Int) : (dishR c f d l).1 = runS c d.1 l := by
  induction l generalizing d with
  | nil => rfl
  | cons b l ih => exact ih (dishT c f d b)
/-- The dish has a temperature and a sum for each place. -/
structure Good (c : Cn) (d : Dish) : Prop where
  body : bodyV c d.1.1 d.1.2 = true
  len : d.2.length = c.P
  le : ∀ s ∈ d.2, s ≤ 1000000000000000000
theorem mem_addD {f : Int → Nat} {S : List Nat} {T : List Int} {x : Nat} (h : x ∈ addD f S T) : x ≤ 1000000000000000000 := by
  unfold addD at h
  rw [List.zipWith_eq_zipWith_take_min] at h
  obtain ⟨i, hi, rfl⟩ := List.getElem_of_mem h
  simp only [List.getElem_zipWith]
  exact cutN_le _ _
theorem Good.tick {c : Cn} {f : Int → Nat} {d : Dish} {b : Int} (hc : c.Ok) (h : Good c d) (hb : okT b = true) : Good c (dishT c f d b) := by
  have h1 : bodyV c (tickS c d.1 b).1 (tickS c d.1 b).2 = true := by
    have := body_run (p := [b]) hc h.body (by simp [okL, hb])
    exact this
  refine ⟨h1, ?_, fun s hs => mem_addD hs⟩
  show (addD f d.2 (tickS c d.1 b).1).length = c.P
  rw [addD_len (by rw [h.len, (bodyV_iff.1 h1).1])]
  exact h.len
theorem Good.run {c : Cn} {f : Int → Nat} {d : Dish} {l : List Int} (hc : c.Ok) (h : Good c d) (hl : okL l = true) : Good c (dishR c f d l) := by
  induction l generalizing d with
  | nil => exact h
  | cons b l ih =>
    unfold okL at hl
    rw [List.all_cons, Bool.and_eq_true] at hl
    exact ih (h.tick hc hl.1) hl.2
/-- The dish at the beginning. -/
def dish0 (c : Cn) (t : Int) : Dish := (evB c t, List.replicate c.P 0)
theorem dish0_good {c : Cn} {t : Int} (h : okT t = true) : Good c (dish0 c t) :=
  ⟨evB_valid h, by simp [dish0], fun s hs => by have := List.eq_of_mem_replicate hs; omega⟩
/-- No place leaves the range of the beginning and the baths. -/
theorem tickS_bd {c : Cn} (hc : c.Ok) {x : Bd} {b lo hi : Int} (hlen : x.1.length = c.P) (hx : ∀ t ∈ x.1, lo ≤ t ∧ t ≤ hi) (hb : lo ≤ b ∧ b ≤ hi) : ∀ t ∈ (tickS c x b).1, lo ≤ t ∧ t ≤ hi := by
  obtain ⟨a1, a2, a3⟩ := hc.ra x.2
  exact tickT_bd a1 a2 a3 hlen hx hb
theorem runS_bd {c : Cn} (hc : c.Ok) {lo hi : Int} : ∀ (l : List Int) (x : Bd), x.1.length = c.P → (∀ t ∈ x.1, lo ≤ t ∧ t ≤ hi) → (∀ b ∈ l, lo ≤ b ∧ b ≤ hi) → ∀ t ∈ (runS c x l).1, lo ≤ t ∧ t ≤ hi
  | [], _, _, hx, _ => hx
  | b :: l, x, hlen, hx, hl => runS_bd hc l (tickS c x b) (tickT_len _ _ _ _ _ _) (tickS_bd hc hlen hx (hl b (List.mem_cons_self))) fun d hd => hl d (List.mem_cons_of_mem _ hd)

/-- A list of places that is the same upside down. -/
def Sym {α : Type} (z : α) (R L : Nat) (T : List α) : Prop := ∀ i, i < R * L → T.getD ((L - 1 - i / R) * R + i % R) z = T.getD i z
theorem idx_mir {R L i : Nat} (hR : 0 < R) (hi : i < R * L) : (L - 1 - i / R) * R + i % R < R * L ∧ i / R < L ∧ i % R < R := by
  have h1 : i / R < L := Nat.div_lt_of_lt_mul hi
  have h2 := Nat.mod_lt i hR
  have h3 : L - 1 - i / R < L := by generalize i / R = q at h1 ⊢; omega
  exact ⟨idx_lt h2 h3, h1, h2⟩
theorem qrN {R p q : Nat} (hp : p < R) : (q * R + p) / R = q ∧ (q * R + p) % R = p :=
  ⟨by rw [Nat.add_comm, Nat.add_mul_div_right _ _ (by omega), Nat.div_eq_of_lt hp, Nat.zero_add], by rw [Nat.add_comm, Nat.add_mul_mod_self_right, Nat.mod_eq_of_lt hp]⟩
theorem nearT_sym {R L : Nat} {T : List Int} {b : Int} (hs : Sym 0 R L T) (r l : Int) : nearT R L T b r ((L : Int) - 1 - l) = nearT R L T b r l := by
  by_cases g : 0 ≤ r ∧ r < R ∧ 0 ≤ l ∧ l < L
  · rw [nearT_in g, nearT_in (by omega)]
    obtain ⟨p, q, rfl, rfl, hp, hq, e⟩ := idx_nat g
    have hi := idx_lt hp hq
    have e2 : (L : Int) - 1 - (q : Int) = ((L - 1 - q : Nat) : Int) := by omega
    have hh := hs _ hi
    rw [(qrN hp).1, (qrN hp).2] at hh
    rw [e, e2, ← Int.natCast_mul, ← Int.natCast_add, Int.toNat_natCast, hh]
  · rw [nearT_out g, nearT_out (by omega)]
theorem numSwap (A B : Int) (r : Nat) (x1 x2 x3 x4 x5 : Int) : num A B r x1 x2 x3 x4 x5 = num A B r x1 x2 x4 x3 x5 := by
  unfold num; rw [Int.add_comm x3 x4]
theorem mixT_sym {R L : Nat} {A B : Int} {T : List Int} {b : Int} {r l : Nat} (hs : Sym 0 R L T) (hl : l < L) : mixT R L A B T b r (L - 1 - l) = mixT R L A B T b r l := by
  unfold mixT
  have e0 : ((L - 1 - l : Nat) : Int) = (L : Int) - 1 - (l : Int) := by omega
  have e1 : ((L - 1 - l : Nat) : Int) + 1 = (L : Int) - 1 - ((l : Int) - 1) := by omega
  have e2 : ((L - 1 - l : Nat) : Int) - 1 = (L : Int) - 1 - ((l : Int) + 1) := by omega
  rw [e1, e2, e0, nearT_sym hs, nearT_sym hs, nearT_sym hs, nearT_sym hs, nearT_sym hs, numSwap]
theorem tickT_sym {R L : Nat} {A B : Int} {T : List Int} {b : Int} (hR : 0 < R) (hs : Sym 0 R L T) : Sym 0 R L (tickT R L A B T b) := by
  intro i hi
  obtain ⟨h1, h2, h3⟩ := idx_mir hR hi
  rw [getD_at (by rw [tickT_len]; exact h1), getD_at (by rw [tickT_len]; exact hi), tickT_get, tickT_get, (qrN h3).1, (qrN h3).2]
  exact mixT_sym hs h2
theorem addD_getD {f : Int → Nat} {S : List Nat} {T : List Int} {i : Nat} (h1 : i < S.length) (h2 : i < T.length) : (addD f S T).getD i 0 = Lt.cutN (S.getD i 0) (f (T.getD i 0)) := by
  simp [addD, List.getD, List.getElem?_zipWith, h1, h2]
theorem addD_sym {f : Int → Nat} {R L : Nat} {S : List Nat} {T : List Int} (hR : 0 < R) (h1 : S.length = R * L) (h2 : T.length = R * L) (hs : Sym 0 R L S) (ht : Sym 0 R L T) : Sym 0 R L (addD f S T) := by
  intro i hi
  have h3 := (idx_mir hR hi).1
  rw [addD_getD (by omega) (by omega), addD_getD (by omega) (by omega), hs i hi, ht i hi]
theorem sym_rep {α : Type} (z a : α) {R L : Nat} (hR : 0 < R) : Sym z R L (List.replicate (R * L) a) := by
  intro i hi
  have h3 := (idx_mir hR hi).1
  simp [List.getD, h3, hi]
theorem dishR_sym {c : Cn} {f : Int → Nat} (hc : c.Ok) : ∀ (l : List Int) (d : Dish), d.2.length = c.R * c.L → Sym 0 c.R c.L d.1.1 → Sym 0 c.R c.L d.2 → Sym 0 c.R c.L (dishR c f d l).2
  | [], _, _, _, h => h
  | b :: l, d, hl, ht, hs => by
    have h1 : Sym 0 c.R c.L (tickS c d.1 b).1 := tickT_sym hc.r1 ht
    have h2 : (tickS c d.1 b).1.length = c.R * c.L := tickT_len _ _ _ _ _ _
    exact dishR_sym hc l (dishT c f d b) (by show (addD f d.2 _).length = _; rw [addD_len (by rw [hl, h2])]; exact hl) h1 (addD_sym hc.r1 hl h2 hs h1)
theorem dish0_sym {c : Cn} {f : Int → Nat} (hc : c.Ok) (t : Int) (l : List Int) : Sym 0 c.R c.L (dishR c f (dish0 c t) l).2 :=
  dishR_sym hc l _ (by simp [dish0, Cn.P]) (sym_rep 0 t hc.r1) (sym_rep 0 0 hc.r1)
end Go.Proofs.Ytihbjimnjhfpeaa
