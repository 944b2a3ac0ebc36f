/- Texts of this seat, one behind the other. -/
import Derived.Test.YtihbjimnjhfpeaaGreatR22
import Derived.Test.YtihbjimnjhfpeaaGreatR31
import Derived.Test.YtihbjimnjhfpeaaGreatR24
import Derived.Test.YtihbjimnjhfpeaaGreatR21
import Derived.Test.YtihbjimnjhfpeaaGreatR01
import Derived.Test.YtihbjimnjhfpeaaGreatR08
import Derived.ChangeMaps5
import Derived.ChangeAt
import Derived.ProofKit
import Derived.OpenShut
import Derived.ChangeOld
import Derived.Lib.SmallJoins
import Derived.Deep.Fields
import Derived.WideKeyPair
import Derived.Test.YtihbjimnjhfpeaaGreatR16
/- Walk of ByColdest; the sums of places as sums of what is told: contracts. -/

/- Spoiled and ByColdest of the code whatever comes in: contracts. -/
namespace Go.Proofs.YtihbjimnjhfpeaaGreat
open Go.RowKit Go.Lib

/-- What may spoil in a can at most. -/
def spoO (r l a b k a2 b2 : Int) (q : Kl) (t : Int) (p : List Int) : Int :=
  if chk4 (canB r l a b k a2 b2) q.vB t p = 0 then maxA (ivN (dishR (cnOf r l a b k a2 b2) (Lt.up q.r q.z.toNat) (dish0 (cnOf r l a b k a2 b2) t) p).2) else 0
theorem spoO_no {r l a b k a2 b2 : Int} {q : Kl} {t : Int} {p : List Int} (h : chk4 (canB r l a b k a2 b2) q.vB t p ≠ 0) : spoO r l a b k a2 b2 q t p = 0 := by unfold spoO; rw [if_neg h]
def IntE (x ce : Int) (w : World) (e : Ending) (w' : World) : Prop := e = .returned (.tuple #[.int .i64 x, .int .i64 ce]) ∧ Below w.heap.size w w'
set_option maxRecDepth 20000 in
set_option maxHeartbeats 4000000 in
theorem spoil_err (r l a b k a2 b2 : Int) (w : World) (q : Kl) (t : Int) (v : Value) (p : List Int) (hs : q.s.size ≤ maxLen) (hl : RowI w v p) (hpm : p.length ≤ maxLen) (hne : chk4 (canB r l a b k a2 b2) q.vB t p ≠ 0) :
    Calls Tryz.prog 137 #[.agg #[.int .i64 r, .int .i64 l, .int .i64 a, .int .i64 b, .int .i64 k, .int .i64 a2, .int .i64 b2], .agg #[.string q.s, .int .i64 q.r, .int .i64 q.z, .int .i64 q.d, .int .i64 q.g], .int .i64 t, v] w (IntE 0 (chk4 (canB r l a b k a2 b2) q.vB t p) w) := by
  have HX := hid (box2_start (w := w) (A := #[.int .i64 r, .int .i64 l, .int .i64 a, .int .i64 b, .int .i64 k, .int .i64 a2, .int .i64 b2]) (B := #[.string q.s, .int .i64 q.r, .int .i64 q.z, .int .i64 q.d, .int .i64 q.g]) (T := 23) (T' := 25) (fz := (0, 0)) (fz' := (0, 0)))
  have HL := hid (fun w1 (g : Below w.heap.size w w1) => hl.keep g)
  obtain ⟨a0, cap, rfl⟩ := hl.shape
  have HC := hid (fun W h => pcheck_any r l a b k a2 b2 W q t (.slice a0 p.length cap) p hs h hpm)
  generalize chk4 (canB r l a b k a2 b2) q.vB t p = ce at *
  have hc1 : (ce != 0) = true := by simpa using hne
  clear hl hs hpm hne
  go_enter Tryz.func137, Tryz.ntmps137
  go_wp2_with fail
  refine (HC.out _ (HL.out _ HX.out.low)).mono ?_
  rintro e w1 ⟨rfl, hb⟩
  have HX := hid (HX.out.keep hb)
  clear hb
  go_wp2_with fail
  go_ret2
  exact ⟨rfl, HX.out.low⟩
set_option maxRecDepth 20000 in
set_option maxHeartbeats 4000000 in
theorem spoil_ok (c : Cn) (s : ByteArray) (r d g t : Int) (Z : Nat) (v : Value) (p : List Int) (w : World) (hs : s.size ≤ maxLen) (hcv : c.V) (hv : Lt.validB s.data.toList r Z d g = true) (ho : okT t = true) (hop : okL p = true) (hlen : p.length ≤ 2000) (hl : RowI w v p) :
    Calls Tryz.prog 137 #[.agg #[.int .i64 (c.R : Int), .int .i64 (c.L : Int), .int .i64 c.A, .int .i64 c.B, .int .i64 c.K, .int .i64 c.A2, .int .i64 c.B2], .agg #[.string s, .int .i64 r, .int .i64 (Z : Int), .int .i64 d, .int .i64 g], .int .i64 t, v] w (IntE (maxA (ivN (dishR c (Lt.up r Z) (dish0 c t) p).2)) 0 w) := by
  have HX := hid (box2_start (w := w) (A := #[.int .i64 (c.R : Int), .int .i64 (c.L : Int), .int .i64 c.A, .int .i64 c.B, .int .i64 c.K, .int .i64 c.A2, .int .i64 c.B2]) (B := #[.string s, .int .i64 r, .int .i64 (Z : Int), .int .i64 d, .int .i64 g]) (T := 23) (T' := 25) (fz := (0, 0)) (fz' := (0, 0)))
  have HL := hid (fun w1 (g : Below w.heap.size w w1) => hl.keep g)
  obtain ⟨a0, cap, rfl⟩ := hl.shape
  have hcan : canB (c.R : Int) c.L c.A c.B c.K c.A2 c.B2 = true := hcv
  have hch : chk4 (canB (c.R : Int) c.L c.A c.B c.K c.A2 c.B2) (Kl.vB ⟨s, r, Z, d, g⟩) t p = 0 := by
    refine chk4_ok ?_ ?_ (by omega)
    · rw [hcan, show Kl.vB ⟨s, r, Z, d, g⟩ = true from hv]; rfl
    · rw [ho, hop]; rfl
  have HC : Hid (∀ W, RowI W (.slice a0 p.length cap) p → Calls Tryz.prog 70 #[.agg #[.int .i64 (c.R : Int), .int .i64 (c.L : Int), .int .i64 c.A, .int .i64 c.B, .int .i64 c.K, .int .i64 c.A2, .int .i64 c.B2], .agg #[.string s, .int .i64 r, .int .i64 (Z : Int), .int .i64 d, .int .i64 g], .int .i64 t, .slice a0 p.length cap] W fun e w' => e = .returned (.int .i64 0) ∧ Below W.heap.size W w') := fun W h => by
    have := pcheck_any c.R c.L c.A c.B c.K c.A2 c.B2 W ⟨s, r, Z, d, g⟩ t (.slice a0 p.length cap) p hs h (by unfold maxLen; omega)
    rwa [hch] at this
  have HM := hid (fun W => meterUp_any c s r d g Z W hs hv)
  have hbt : (-50000 : Int) ≤ t ∧ t ≤ 200000 := by unfold okT at ho; simpa using ho
  have hbl : ∀ b ∈ p, (-50000 : Int) ≤ b ∧ b ≤ 200000 := fun b hb => by
    have := List.all_eq_true.1 hop b hb
    unfold okT at this; simpa using this
  have HRK := hid (fun (W : World) (kb nb mb : Nat) (h : UpI s r Z d g kb nb mb W) => rateOk_up hs hv h)
  have HRN := hid (fun (F : Nat) (lb : Array Value) (mb B0 : Nat) (I : World → Prop) (W : World) (hR : RateOk F lb (Lt.up r Z) (-50000) 200000 mb B0 I) (hI : I W) (h : RowI W (.slice a0 p.length cap) p) => mrun_any c (g * (d * 1000000)) t F lb (Lt.up r Z) (-50000) 200000 mb B0 I (.slice a0 p.length cap) p W hR hcv ho hop hI h (by omega) hbt hbl)
  have hG : Good c (dishR c (Lt.up r Z) (dish0 c t) p) := (dish0_good ho).run hcv.ok hop
  have HSL : Hid (1 ≤ (dishR c (Lt.up r Z) (dish0 c t) p).2.length ∧ (dishR c (Lt.up r Z) (dish0 c t) p).2.length ≤ 1000) := by
    refine hid ?_
    rw [hG.len]
    exact ⟨hcv.ok.p.1, by have := hcv.ok.p.2; omega⟩
  have HMX := hid (fun (W : World) (u : Value) (h : RowI W u (ivN (dishR c (Lt.up r Z) (dish0 c t) p).2)) => maxA_any u _ W h (by rw [ivN_len]; have := HSL.out; omega) (by rw [ivN_len]; have := HSL.out; omega))
  generalize hD : dishR c (Lt.up r Z) (dish0 c t) p = D at *
  clear hD hl hcan hch hlen hop ho hv hcv hs hbt hbl hG HSL
  have hfl := field_dish
  go_enter Tryz.func137, Tryz.ntmps137
  go_wp2_with fail
  refine (HC.out _ (HL.out _ HX.out.low)).mono ?_
  rintro e w1 ⟨rfl, hb⟩
  have HX := hid (HX.out.keep hb)
  clear hb
  have x0 := HX.out.snd 0; have x1 := HX.out.snd 1; have x2 := HX.out.snd 2; have x3 := HX.out.snd 3; have x4 := HX.out.snd 4
  have t0 := HX.out.fst 0; have t1 := HX.out.fst 1; have t2 := HX.out.fst 2; have t3 := HX.out.fst 3; have t4 := HX.out.fst 4; have t5 := HX.out.fst 5; have t6 := HX.out.fst 6
  simp only [List.getElem?_toArray, List.getElem?_cons_zero, List.getElem?_cons_succ] at x0 x1 x2 x3 x4 t0 t1 t2 t3 t4 t5 t6
  go_wp2_with fail
  refine (HM.out _).mono ?_
  rintro e w2 ⟨kb, nb, mb, rfl, hu, hmb, hb⟩
  have HMB := hid (show w.heap.size ≤ mb from Nat.le_trans HX.out.low.size hmb)
  have HX := hid (HX.out.keep hb)
  have HU := hid hu
  clear hb hu hmb x0 x1 x2 x3 x4 t0 t1 t2 t3 t4 t5 t6
  have HRO := hid (HRK.out w2 kb nb mb HU.out)
  clear HRK HM HC
  go_wp2_with fail
  refine (HRN.out _ _ mb w2.heap.size _ w2 HRO.out ⟨HU.out, Nat.le_refl _⟩ (HL.out _ HX.out.low)).mono ?_
  rintro e w9 ⟨ua, ub, uc, ud, rfl, h1, h2, h3, h4⟩
  have HF := hid (And.intro h2 (HX.out.low.grown h4 HX.out.low.size (fun j e => by cases e; exact HMB.out)))
  clear h1 h2 h3 h4 HRN HL HRO
  go_wp2_with fail
  refine (HMX.out _ _ HF.out.1).mono ?_
  rintro e w10 ⟨rfl, rfl⟩
  go_wp2_with fail
  go_ret2
  exact ⟨rfl, HF.out.2⟩
theorem spoil_any (r l a b k a2 b2 : Int) (w : World) (q : Kl) (t : Int) (v : Value) (p : List Int) (hs : q.s.size ≤ maxLen) (hl : RowI w v p) (hpm : p.length ≤ maxLen) :
    Calls Tryz.prog 137 #[.agg #[.int .i64 r, .int .i64 l, .int .i64 a, .int .i64 b, .int .i64 k, .int .i64 a2, .int .i64 b2], .agg #[.string q.s, .int .i64 q.r, .int .i64 q.z, .int .i64 q.d, .int .i64 q.g], .int .i64 t, v] w (IntE (spoO r l a b k a2 b2 q t p) (chk4 (canB r l a b k a2 b2) q.vB t p) w) := by
  by_cases h : chk4 (canB r l a b k a2 b2) q.vB t p = 0
  · obtain ⟨hc, hk, ho, hop, hlen⟩ := chk4_zero h
    obtain ⟨c, hcv, rfl, rfl, rfl, rfl, rfl, rfl, rfl⟩ := canB_cn hc
    obtain ⟨Z, hz, hv⟩ := kl_of hk
    have hso : spoO c.R c.L c.A c.B c.K c.A2 c.B2 q t p = maxA (ivN (dishR c (Lt.up q.r Z) (dish0 c t) p).2) := by
      unfold spoO; rw [if_pos h, cnOf_cn, hz, Int.toNat_natCast]
    rw [hso, h, hz]
    exact spoil_ok c q.s q.r q.d q.g t Z v p w hs hcv hv ho hop hlen hl
  · rw [spoO_no h]
    exact spoil_err r l a b k a2 b2 w q t v p hs hl hpm h
end Go.Proofs.YtihbjimnjhfpeaaGreat

/- Schedules: rows of them that come in; the search through them in plain words. -/
namespace Go.Proofs.YtihbjimnjhfpeaaGreat
open Go.ChangeShapes Go.WideShapes Go.ChangeAt Go.RowKit Go.Joins Go.Deep

/-- A schedule. -/
structure Sch where
  pr : ByteArray
  it : Int
  tm : Int
  tk : Int
  fl : Int
instance : Inhabited Sch := ⟨⟨⟨#[]⟩, 0, 0, 0, 0⟩⟩
def inB (x a b : Int) : Bool := decide (a ≤ x) && decide (x ≤ b)
def Sch.ok (x : Sch) : Bool := Lt.nameB x.pr.data.toList && okT x.it && inB x.tm 0 200000 && inB x.tk 1 2000 && inB x.fl 1 1000000
/-- Whether a schedule allows an initial temperature and a fill. -/
def Sch.fit (x : Sch) (i f : Int) : Bool := decide (x.it ≤ i) && decide (f ≤ x.fl)
def schsB (l : List Sch) : Bool := decide (l.length ≤ 64) && l.all Sch.ok
/-- The search behind k schedules: which was found, and 0 (the name is not known), 1 (none allows it), 2 (found). -/
def lkS (l : List Sch) (p : ByteArray) (i f : Int) : Nat → Nat × Nat
  | 0 => (0, 0)
  | k + 1 => if (l.getD k default).pr = p then
      (if (l.getD k default).fit i f && (lkS l p i f k).2 != 2 || (l.getD k default).fit i f && decide ((l.getD k default).tk < (l.getD (lkS l p i f k).1 default).tk) then (k, 2) else ((lkS l p i f k).1, if (lkS l p i f k).2 = 0 then 1 else (lkS l p i f k).2))
    else lkS l p i f k
/-- Lookup's two answers. -/
def lkE (l : List Sch) (p : ByteArray) (i f : Int) : Int :=
  if schsB l then (if okT i && inB f 0 1000000 then (if (lkS l p i f l.length).2 = 0 then 5 else if (lkS l p i f l.length).2 = 1 then 8 else 0) else 7) else 1
def lkV (l : List Sch) (p : ByteArray) (i f : Int) : Int :=
  if schsB l then (if okT i && inB f 0 1000000 then ((lkS l p i f l.length).1 : Nat) else 0) else 0
/-- The error that goes with how far the search came. -/
def lkC (b : Nat) : Int := if b = 0 then 5 else if b = 1 then 8 else 0
/-- A slice of schedules that is read. -/
def RowE (w : World) (v : Value) (l : List Sch) : Prop :=
  ∃ (a : Option Addr) (b o cap : Nat), v = .slice a l.length cap ∧ (l = [] ∨ a = some ⟨b, o, none⟩) ∧ l.length ≤ maxLen ∧ ∀ k (h : k < l.length),
    w.cell? ⟨b, o + k * 5, none⟩ = some (.string l[k].pr) ∧ w.cell? ⟨b, o + k * 5 + 1, none⟩ = some (.int .i64 l[k].it) ∧ w.cell? ⟨b, o + k * 5 + 2, none⟩ = some (.int .i64 l[k].tm) ∧ w.cell? ⟨b, o + k * 5 + 3, none⟩ = some (.int .i64 l[k].tk) ∧ w.cell? ⟨b, o + k * 5 + 4, none⟩ = some (.int .i64 l[k].fl) ∧ l[k].pr.size ≤ maxLen
theorem RowE.keep {w w2 : World} {v : Value} {l : List Sch} (h : RowE w v l) (hb : Below w.heap.size w w2) : RowE w2 v l := by
  obtain ⟨a, b, o, cap, h1, h2, h3, h4⟩ := h
  refine ⟨a, b, o, cap, h1, h2, h3, fun j hj => ?_⟩
  obtain ⟨c0, c1, c2, c3, c4, c5⟩ := h4 j hj
  exact ⟨keep_cell hb c0, keep_cell hb c1, keep_cell hb c2, keep_cell hb c3, keep_cell hb c4, c5⟩
theorem RowE.nil (w : World) (a : Option Addr) (cap : Nat) : RowE w (.slice a 0 cap) [] := ⟨a, 0, 0, cap, rfl, .inl rfl, Nat.zero_le _, fun j h => absurd h (Nat.not_lt_zero j)⟩
theorem RowE.most {w : World} {v : Value} {l : List Sch} (h : RowE w v l) : l.length ≤ maxLen := by
  obtain ⟨_, _, _, _, _, _, h3, _⟩ := h
  exact h3
theorem RowE.shape {w : World} {v : Value} {l : List Sch} (h : RowE w v l) : ∃ a cap, v = .slice a l.length cap := by
  obtain ⟨a, _, _, cap, h1, _⟩ := h
  exact ⟨a, cap, h1⟩
theorem cellsE : Tryz.prog.cellsOf 38 = 5 := by kernel_rfl
section
variable {H : Type} {enc : TypeId × Value → H} {P : Program} {w : World} {base : Nat} {spare : Nat → Bool} {held : Bool}
end
end Go.Proofs.YtihbjimnjhfpeaaGreat

/- Walks of validSchedule of both: contracts. -/
namespace Go.Proofs.YtihbjimnjhfpeaaGreat
open Go.RowKit Go.Lib

set_option maxRecDepth 20000 in
set_option maxHeartbeats 4000000 in
theorem pvs_any (x : Sch) (w : World) (hs : x.pr.size ≤ maxLen) :
    Calls Tryz.prog 40 #[.agg #[.string x.pr, .int .i64 x.it, .int .i64 x.tm, .int .i64 x.tk, .int .i64 x.fl]] w fun e w' => e = .returned (.bool x.ok) ∧ Below w.heap.size w w' := by
  have BX := hid (box1_start (w := w) (A := #[.string x.pr, .int .i64 x.it, .int .i64 x.tm, .int .i64 x.tk, .int .i64 x.fl]) (T := 38) (fz := (0, 0)))
  have HNM := hid (fun W => Lt.lname_any x.pr W hs)
  have HOK := hid (show x.ok = (Lt.nameB x.pr.data.toList && okT x.it && inB x.tm 0 200000 && inB x.tk 1 2000 && inB x.fl 1 1000000) from rfl)
  have HTM : Hid ((decide (0 ≤ x.tm) && decide (x.tm ≤ 200000)) = inB x.tm 0 200000) := rfl
  have HTK : Hid ((decide (1 ≤ x.tk) && decide (x.tk ≤ 2000)) = inB x.tk 1 2000) := rfl
  have HFL : Hid ((decide (1 ≤ x.fl) && decide (x.fl ≤ 1000000)) = inB x.fl 1 1000000) := rfl
  have HIT : Hid ((decide (-50000 ≤ x.it) && decide (x.it ≤ 200000)) = okT x.it) := rfl
  have HOL := hid (show okL [x.it] = okT x.it by simp [okL])
  generalize Sch.ok x = okk at *
  obtain ⟨pr, it, tm, tk, fl⟩ := x
  dsimp only at *
  generalize Lt.nameB pr.data.toList = b0 at *
  generalize okT it = b1 at *
  generalize inB tm 0 200000 = b2 at *
  generalize inB tk 1 2000 = b3 at *
  generalize inB fl 1 1000000 = b4 at *
  clear hs
  cases b0
  · have HE : Hid (okk = false) := by
      refine hid ?_
      rw [HOK.out]
      simp
    go_enter Tryz.func40, Tryz.ntmps40
    go_wp2_with fail
    refine (HNM.out _).mono ?_
    rintro e w1 ⟨rfl, rfl⟩
    go_wp2_with fail
    go_ret
    exact ⟨ret_bool HE.out.symm, BX.out.low⟩
  cases b1
  · have HE : Hid (okk = false) := by
      refine hid ?_
      rw [HOK.out]
      simp
    go_enter Tryz.func40, Tryz.ntmps40
    go_wp2_with fail
    refine (HNM.out _).mono ?_
    rintro e w1 ⟨rfl, rfl⟩
    go_wp2_with fail
    refine (ptemps_any _ _ [it] (one_row it _ (by simp))).mono ?_
    rintro e w2 ⟨rfl, rfl⟩
    rw [HOL.out]
    have BX := hid (BX.out.keep ((Below.refl _ _).alloc (Nat.le_refl _) (.cells #[.int .i64 it] 3)))
    have c2 := BX.out.fst 2; have c3 := BX.out.fst 3; have c4 := BX.out.fst 4
    simp only [List.getElem?_toArray, List.getElem?_cons_zero, List.getElem?_cons_succ] at c2 c3 c4
    go_wp2_with fail
    go_ret
    exact ⟨ret_bool HE.out.symm, BX.out.low⟩
  cases b2
  · have HE : Hid (okk = false) := by
      refine hid ?_
      rw [HOK.out]
      simp
    go_enter Tryz.func40, Tryz.ntmps40
    go_wp2_with fail
    refine (HNM.out _).mono ?_
    rintro e w1 ⟨rfl, rfl⟩
    go_wp2_with fail
    refine (ptemps_any _ _ [it] (one_row it _ (by simp))).mono ?_
    rintro e w2 ⟨rfl, rfl⟩
    rw [HOL.out]
    have BX := hid (BX.out.keep ((Below.refl _ _).alloc (Nat.le_refl _) (.cells #[.int .i64 it] 3)))
    have c2 := BX.out.fst 2; have c3 := BX.out.fst 3; have c4 := BX.out.fst 4
    simp only [List.getElem?_toArray, List.getElem?_cons_zero, List.getElem?_cons_succ] at c2 c3 c4
    go_wp2_with fail
    refine (pwithin_any _ _ _ _).mono ?_
    rintro e w3 ⟨rfl, rfl⟩
    rw [HTM.out]
    go_wp2_with fail
    go_ret
    exact ⟨ret_bool HE.out.symm, BX.out.low⟩
  cases b3
  · have HE : Hid (okk = false) := by
      refine hid ?_
      rw [HOK.out]
      simp
    go_enter Tryz.func40, Tryz.ntmps40
    go_wp2_with fail
    refine (HNM.out _).mono ?_
    rintro e w1 ⟨rfl, rfl⟩
    go_wp2_with fail
    refine (ptemps_any _ _ [it] (one_row it _ (by simp))).mono ?_
    rintro e w2 ⟨rfl, rfl⟩
    rw [HOL.out]
    have BX := hid (BX.out.keep ((Below.refl _ _).alloc (Nat.le_refl _) (.cells #[.int .i64 it] 3)))
    have c2 := BX.out.fst 2; have c3 := BX.out.fst 3; have c4 := BX.out.fst 4
    simp only [List.getElem?_toArray, List.getElem?_cons_zero, List.getElem?_cons_succ] at c2 c3 c4
    go_wp2_with fail
    refine (pwithin_any _ _ _ _).mono ?_
    rintro e w3 ⟨rfl, rfl⟩
    rw [HTM.out]
    go_wp2_with fail
    refine (pwithin_any _ _ _ _).mono ?_
    rintro e w4 ⟨rfl, rfl⟩
    rw [HTK.out]
    go_wp2_with fail
    go_ret
    exact ⟨ret_bool HE.out.symm, BX.out.low⟩
  cases b4
  · have HE : Hid (okk = false) := by
      refine hid ?_
      rw [HOK.out]
      simp
    go_enter Tryz.func40, Tryz.ntmps40
    go_wp2_with fail
    refine (HNM.out _).mono ?_
    rintro e w1 ⟨rfl, rfl⟩
    go_wp2_with fail
    refine (ptemps_any _ _ [it] (one_row it _ (by simp))).mono ?_
    rintro e w2 ⟨rfl, rfl⟩
    rw [HOL.out]
    have BX := hid (BX.out.keep ((Below.refl _ _).alloc (Nat.le_refl _) (.cells #[.int .i64 it] 3)))
    have c2 := BX.out.fst 2; have c3 := BX.out.fst 3; have c4 := BX.out.fst 4
    simp only [List.getElem?_toArray, List.getElem?_cons_zero, List.getElem?_cons_succ] at c2 c3 c4
    go_wp2_with fail
    refine (pwithin_any _ _ _ _).mono ?_
    rintro e w3 ⟨rfl, rfl⟩
    rw [HTM.out]
    go_wp2_with fail
    refine (pwithin_any _ _ _ _).mono ?_
    rintro e w4 ⟨rfl, rfl⟩
    rw [HTK.out]
    go_wp2_with fail
    refine (pwithin_any _ _ _ _).mono ?_
    rintro e w5 ⟨rfl, rfl⟩
    rw [HFL.out]
    go_wp2_with fail
    go_ret
    exact ⟨ret_bool HE.out.symm, BX.out.low⟩
  have HE : Hid (okk = true) := by
    refine hid ?_
    rw [HOK.out]
    simp
  go_enter Tryz.func40, Tryz.ntmps40
  go_wp2_with fail
  refine (HNM.out _).mono ?_
  rintro e w1 ⟨rfl, rfl⟩
  go_wp2_with fail
  refine (ptemps_any _ _ [it] (one_row it _ (by simp))).mono ?_
  rintro e w2 ⟨rfl, rfl⟩
  rw [HOL.out]
  have BX := hid (BX.out.keep ((Below.refl _ _).alloc (Nat.le_refl _) (.cells #[.int .i64 it] 3)))
  have c2 := BX.out.fst 2; have c3 := BX.out.fst 3; have c4 := BX.out.fst 4
  simp only [List.getElem?_toArray, List.getElem?_cons_zero, List.getElem?_cons_succ] at c2 c3 c4
  go_wp2_with fail
  refine (pwithin_any _ _ _ _).mono ?_
  rintro e w3 ⟨rfl, rfl⟩
  rw [HTM.out]
  go_wp2_with fail
  refine (pwithin_any _ _ _ _).mono ?_
  rintro e w4 ⟨rfl, rfl⟩
  rw [HTK.out]
  go_wp2_with fail
  refine (pwithin_any _ _ _ _).mono ?_
  rintro e w5 ⟨rfl, rfl⟩
  rw [HFL.out]
  go_wp2_with fail
  go_ret
  exact ⟨ret_bool HE.out.symm, BX.out.low⟩
end Go.Proofs.YtihbjimnjhfpeaaGreat
