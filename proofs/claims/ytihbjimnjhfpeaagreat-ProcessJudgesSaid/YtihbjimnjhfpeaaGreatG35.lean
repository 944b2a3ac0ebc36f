/- Texts of this seat, one behind the other. -/
import Derived.Test.YtihbjimnjhfpeaaGreatG01
import Derived.Test.YtihbjimnjhfpeaaGreatG08
import Derived.ChangeMaps5
import Derived.ChangeAt
import Derived.ProofKit
import Derived.OpenShut
import Derived.ChangeOld
import Derived.Lib.SmallJoins
import Derived.Deep.Fields
import Derived.WideKeyPair
import Derived.Test.YtihbjimnjhfpeaaGreatG16
import Derived.Test.YtihbjimnjhfpeaaGreatG09
/- Schedules: rows of them that come in; the search through them in plain words. -/
namespace Go.Proofs.YtihbjimnjhfpeaaGreat
open Go.ChangeShapes Go.WideShapes Go.ChangeAt Go.RowKit Go.Joins Go.Deep

/-- A schedule. -/
structure Sch where
  pr : ByteArray
  it : Int
  tm : Int
  tk : Int
  fl : Int
instance : Inhabited Sch := ⟨⟨⟨#[]⟩, 0, 0, 0, 0⟩⟩
def inB (x a b : Int) : Bool := decide (a ≤ x) && decide (x ≤ b)
def Sch.ok (x : Sch) : Bool := Lt.nameB x.pr.data.toList && okT x.it && inB x.tm 0 200000 && inB x.tk 1 2000 && inB x.fl 1 1000000
/-- Whether a schedule allows an initial temperature and a fill. -/
def Sch.fit (x : Sch) (i f : Int) : Bool := decide (x.it ≤ i) && decide (f ≤ x.fl)
def schsB (l : List Sch) : Bool := decide (l.length ≤ 64) && l.all Sch.ok
/-- The search behind k schedules: which was found, and 0 (the name is not known), 1 (none allows it), 2 (found). -/
def lkS (l : List Sch) (p : ByteArray) (i f : Int) : Nat → Nat × Nat
  | 0 => (0, 0)
  | k + 1 => if (l.getD k default).pr = p then
      (if (l.getD k default).fit i f && (lkS l p i f k).2 != 2 || (l.getD k default).fit i f && decide ((l.getD k default).tk < (l.getD (lkS l p i f k).1 default).tk) then (k, 2) else ((lkS l p i f k).1, if (lkS l p i f k).2 = 0 then 1 else (lkS l p i f k).2))
    else lkS l p i f k
/-- Lookup's two answers. -/
def lkE (l : List Sch) (p : ByteArray) (i f : Int) : Int :=
  if schsB l then (if okT i && inB f 0 1000000 then (if (lkS l p i f l.length).2 = 0 then 5 else if (lkS l p i f l.length).2 = 1 then 8 else 0) else 7) else 1
def lkV (l : List Sch) (p : ByteArray) (i f : Int) : Int :=
  if schsB l then (if okT i && inB f 0 1000000 then ((lkS l p i f l.length).1 : Nat) else 0) else 0
/-- The error that goes with how far the search came. -/
def lkC (b : Nat) : Int := if b = 0 then 5 else if b = 1 then 8 else 0
/-- A slice of schedules that is read. -/
def RowE (w : World) (v : Value) (l : List Sch) : Prop :=
  ∃ (a : Option Addr) (b o cap : Nat), v = .slice a l.length cap ∧ (l = [] ∨ a = some ⟨b, o, none⟩) ∧ l.length ≤ maxLen ∧ ∀ k (h : k < l.length),
    w.cell? ⟨b, o + k * 5, none⟩ = some (.string l[k].pr) ∧ w.cell? ⟨b, o + k * 5 + 1, none⟩ = some (.int .i64 l[k].it) ∧ w.cell? ⟨b, o + k * 5 + 2, none⟩ = some (.int .i64 l[k].tm) ∧ w.cell? ⟨b, o + k * 5 + 3, none⟩ = some (.int .i64 l[k].tk) ∧ w.cell? ⟨b, o + k * 5 + 4, none⟩ = some (.int .i64 l[k].fl) ∧ l[k].pr.size ≤ maxLen
theorem RowE.keep {w w2 : World} {v : Value} {l : List Sch} (h : RowE w v l) (hb : Below w.heap.size w w2) : RowE w2 v l := by
  obtain ⟨a, b, o, cap, h1, h2, h3, h4⟩ := h
  refine ⟨a, b, o, cap, h1, h2, h3, fun j hj => ?_⟩
  obtain ⟨c0, c1, c2, c3, c4, c5⟩ := h4 j hj
  exact ⟨keep_cell hb c0, keep_cell hb c1, keep_cell hb c2, keep_cell hb c3, keep_cell hb c4, c5⟩
theorem RowE.nil (w : World) (a : Option Addr) (cap : Nat) : RowE w (.slice a 0 cap) [] := ⟨a, 0, 0, cap, rfl, .inl rfl, Nat.zero_le _, fun j h => absurd h (Nat.not_lt_zero j)⟩
theorem RowE.most {w : World} {v : Value} {l : List Sch} (h : RowE w v l) : l.length ≤ maxLen := by
  obtain ⟨_, _, _, _, _, _, h3, _⟩ := h
  exact h3
theorem RowE.shape {w : World} {v : Value} {l : List Sch} (h : RowE w v l) : ∃ a cap, v = .slice a l.length cap := by
  obtain ⟨a, _, _, cap, h1, _⟩ := h
  exact ⟨a, cap, h1⟩
theorem cellsE : Tryz.prog.cellsOf 38 = 5 := by kernel_rfl
section
variable {H : Type} {enc : TypeId × Value → H} {P : Program} {w : World} {base : Nat} {spare : Nat → Bool} {held : Bool}
end
end Go.Proofs.YtihbjimnjhfpeaaGreat

/- Walks of validSchedule of both: contracts. -/
namespace Go.Proofs.YtihbjimnjhfpeaaGreat
open Go.RowKit Go.Lib

set_option maxHeartbeats 400000 in
theorem x4within_any (a b c : Int) (w : World) :
    Calls Tryz.prog 48 #[.int .i64 a, .int .i64 b, .int .i64 c] w fun e w' => e = .returned (.bool (decide (b ≤ a) && decide (a ≤ c))) ∧ w = w' := by
  by_cases h : b ≤ a
  · have hd : decide (b ≤ a) = true := by simpa using h
    go_enter Tryz.func48, Tryz.ntmps48
    go_wp2
    go_ret
    exact ⟨by simp [hd], rfl⟩
  · have hd : decide (b ≤ a) = false := by simpa using h
    go_enter Tryz.func48, Tryz.ntmps48
    go_wp2
    go_ret
    exact ⟨by simp, rfl⟩
set_option maxRecDepth 20000 in
set_option maxHeartbeats 4000000 in
theorem pvs_any (x : Sch) (w : World) (hs : x.pr.size ≤ maxLen) :
    Calls Tryz.prog 40 #[.agg #[.string x.pr, .int .i64 x.it, .int .i64 x.tm, .int .i64 x.tk, .int .i64 x.fl]] w fun e w' => e = .returned (.bool x.ok) ∧ Below w.heap.size w w' := by
  have BX := hid (box1_start (w := w) (A := #[.string x.pr, .int .i64 x.it, .int .i64 x.tm, .int .i64 x.tk, .int .i64 x.fl]) (T := 38) (fz := (0, 0)))
  have HNM := hid (fun W => Lt.lname_any x.pr W hs)
  have HOK := hid (show x.ok = (Lt.nameB x.pr.data.toList && okT x.it && inB x.tm 0 200000 && inB x.tk 1 2000 && inB x.fl 1 1000000) from rfl)
  have HTM : Hid ((decide (0 ≤ x.tm) && decide (x.tm ≤ 200000)) = inB x.tm 0 200000) := rfl
  have HTK : Hid ((decide (1 ≤ x.tk) && decide (x.tk ≤ 2000)) = inB x.tk 1 2000) := rfl
  have HFL : Hid ((decide (1 ≤ x.fl) && decide (x.fl ≤ 1000000)) = inB x.fl 1 1000000) := rfl
  have HIT : Hid ((decide (-50000 ≤ x.it) && decide (x.it ≤ 200000)) = okT x.it) := rfl
  have HOL := hid (show okL [x.it] = okT x.it by simp [okL])
  generalize Sch.ok x = okk at *
  obtain ⟨pr, it, tm, tk, fl⟩ := x
  dsimp only at *
  generalize Lt.nameB pr.data.toList = b0 at *
  generalize okT it = b1 at *
  generalize inB tm 0 200000 = b2 at *
  generalize inB tk 1 2000 = b3 at *
  generalize inB fl 1 1000000 = b4 at *
  clear hs
  cases b0
  · have HE : Hid (okk = false) := by
      refine hid ?_
      rw [HOK.out]
      simp
    go_enter Tryz.func40, Tryz.ntmps40
    go_wp2_with fail
    refine (HNM.out _).mono ?_
    rintro e w1 ⟨rfl, rfl⟩
    go_wp2_with fail
    go_ret
    exact ⟨ret_bool HE.out.symm, BX.out.low⟩
  cases b1
  · have HE : Hid (okk = false) := by
      refine hid ?_
      rw [HOK.out]
      simp
    go_enter Tryz.func40, Tryz.ntmps40
    go_wp2_with fail
    refine (HNM.out _).mono ?_
    rintro e w1 ⟨rfl, rfl⟩
    go_wp2_with fail
    refine (ptemps_any _ _ [it] (one_row it _ (by simp))).mono ?_
    rintro e w2 ⟨rfl, rfl⟩
    rw [HOL.out]
    have BX := hid (BX.out.keep ((Below.refl _ _).alloc (Nat.le_refl _) (.cells #[.int .i64 it] 3)))
    have c2 := BX.out.fst 2; have c3 := BX.out.fst 3; have c4 := BX.out.fst 4
    simp only [List.getElem?_toArray, List.getElem?_cons_zero, List.getElem?_cons_succ] at c2 c3 c4
    go_wp2_with fail
    go_ret
    exact ⟨ret_bool HE.out.symm, BX.out.low⟩
  cases b2
  · have HE : Hid (okk = false) := by
      refine hid ?_
      rw [HOK.out]
      simp
    go_enter Tryz.func40, Tryz.ntmps40
    go_wp2_with fail
    refine (HNM.out _).mono ?_
    rintro e w1 ⟨rfl, rfl⟩
    go_wp2_with fail
    refine (ptemps_any _ _ [it] (one_row it _ (by simp))).mono ?_
    rintro e w2 ⟨rfl, rfl⟩
    rw [HOL.out]
    have BX := hid (BX.out.keep ((Below.refl _ _).alloc (Nat.le_refl _) (.cells #[.int .i64 it] 3)))
    have c2 := BX.out.fst 2; have c3 := BX.out.fst 3; have c4 := BX.out.fst 4
    simp only [List.getElem?_toArray, List.getElem?_cons_zero, List.getElem?_cons_succ] at c2 c3 c4
    go_wp2_with fail
    refine (pwithin_any _ _ _ _).mono ?_
    rintro e w3 ⟨rfl, rfl⟩
    rw [HTM.out]
    go_wp2_with fail
    go_ret
    exact ⟨ret_bool HE.out.symm, BX.out.low⟩
  cases b3
  · have HE : Hid (okk = false) := by
      refine hid ?_
      rw [HOK.out]
      simp
    go_enter Tryz.func40, Tryz.ntmps40
    go_wp2_with fail
    refine (HNM.out _).mono ?_
    rintro e w1 ⟨rfl, rfl⟩
    go_wp2_with fail
    refine (ptemps_any _ _ [it] (one_row it _ (by simp))).mono ?_
    rintro e w2 ⟨rfl, rfl⟩
    rw [HOL.out]
    have BX := hid (BX.out.keep ((Below.refl _ _).alloc (Nat.le_refl _) (.cells #[.int .i64 it] 3)))
    have c2 := BX.out.fst 2; have c3 := BX.out.fst 3; have c4 := BX.out.fst 4
    simp only [List.getElem?_toArray, List.getElem?_cons_zero, List.getElem?_cons_succ] at c2 c3 c4
    go_wp2_with fail
    refine (pwithin_any _ _ _ _).mono ?_
    rintro e w3 ⟨rfl, rfl⟩
    rw [HTM.out]
    go_wp2_with fail
    refine (pwithin_any _ _ _ _).mono ?_
    rintro e w4 ⟨rfl, rfl⟩
    rw [HTK.out]
    go_wp2_with fail
    go_ret
    exact ⟨ret_bool HE.out.symm, BX.out.low⟩
  cases b4
  · have HE : Hid (okk = false) := by
      refine hid ?_
      rw [HOK.out]
      simp
    go_enter Tryz.func40, Tryz.ntmps40
    go_wp2_with fail
    refine (HNM.out _).mono ?_
    rintro e w1 ⟨rfl, rfl⟩
    go_wp2_with fail
    refine (ptemps_any _ _ [it] (one_row it _ (by simp))).mono ?_
    rintro e w2 ⟨rfl, rfl⟩
    rw [HOL.out]
    have BX := hid (BX.out.keep ((Below.refl _ _).alloc (Nat.le_refl _) (.cells #[.int .i64 it] 3)))
    have c2 := BX.out.fst 2; have c3 := BX.out.fst 3; have c4 := BX.out.fst 4
    simp only [List.getElem?_toArray, List.getElem?_cons_zero, List.getElem?_cons_succ] at c2 c3 c4
    go_wp2_with fail
    refine (pwithin_any _ _ _ _).mono ?_
    rintro e w3 ⟨rfl, rfl⟩
    rw [HTM.out]
    go_wp2_with fail
    refine (pwithin_any _ _ _ _).mono ?_
    rintro e w4 ⟨rfl, rfl⟩
    rw [HTK.out]
    go_wp2_with fail
    refine (pwithin_any _ _ _ _).mono ?_
    rintro e w5 ⟨rfl, rfl⟩
    rw [HFL.out]
    go_wp2_with fail
    go_ret
    exact ⟨ret_bool HE.out.symm, BX.out.low⟩
  have HE : Hid (okk = true) := by
    refine hid ?_
    rw [HOK.out]
    simp
  go_enter Tryz.func40, Tryz.ntmps40
  go_wp2_with fail
  refine (HNM.out _).mono ?_
  rintro e w1 ⟨rfl, rfl⟩
  go_wp2_with fail
  refine (ptemps_any _ _ [it] (one_row it _ (by simp))).mono ?_
  rintro e w2 ⟨rfl, rfl⟩
  rw [HOL.out]
  have BX := hid (BX.out.keep ((Below.refl _ _).alloc (Nat.le_refl _) (.cells #[.int .i64 it] 3)))
  have c2 := BX.out.fst 2; have c3 := BX.out.fst 3; have c4 := BX.out.fst 4
  simp only [List.getElem?_toArray, List.getElem?_cons_zero, List.getElem?_cons_succ] at c2 c3 c4
  go_wp2_with fail
  refine (pwithin_any _ _ _ _).mono ?_
  rintro e w3 ⟨rfl, rfl⟩
  rw [HTM.out]
  go_wp2_with fail
  refine (pwithin_any _ _ _ _).mono ?_
  rintro e w4 ⟨rfl, rfl⟩
  rw [HTK.out]
  go_wp2_with fail
  refine (pwithin_any _ _ _ _).mono ?_
  rintro e w5 ⟨rfl, rfl⟩
  rw [HFL.out]
  go_wp2_with fail
  go_ret
  exact ⟨ret_bool HE.out.symm, BX.out.low⟩
set_option maxRecDepth 20000 in
set_option maxHeartbeats 4000000 in
theorem xvs_any (x : Sch) (w : World) (hs : x.pr.size ≤ maxLen) :
    Calls Tryz.prog 46 #[.agg #[.string x.pr, .int .i64 x.it, .int .i64 x.tm, .int .i64 x.tk, .int .i64 x.fl]] w fun e w' => e = .returned (.bool x.ok) ∧ Below w.heap.size w w' := by
  have BX := hid (box1_start (w := w) (A := #[.string x.pr, .int .i64 x.it, .int .i64 x.tm, .int .i64 x.tk, .int .i64 x.fl]) (T := 38) (fz := (0, 0)))
  have HNM := hid (fun W => Lt.rname_any x.pr W hs)
  have HOK := hid (show x.ok = (Lt.nameB x.pr.data.toList && okT x.it && inB x.tm 0 200000 && inB x.tk 1 2000 && inB x.fl 1 1000000) from rfl)
  have HTM : Hid ((decide (0 ≤ x.tm) && decide (x.tm ≤ 200000)) = inB x.tm 0 200000) := rfl
  have HTK : Hid ((decide (1 ≤ x.tk) && decide (x.tk ≤ 2000)) = inB x.tk 1 2000) := rfl
  have HFL : Hid ((decide (1 ≤ x.fl) && decide (x.fl ≤ 1000000)) = inB x.fl 1 1000000) := rfl
  have HIT : Hid ((decide (-50000 ≤ x.it) && decide (x.it ≤ 200000)) = okT x.it) := rfl
  have HOL := hid (show okL [x.it] = okT x.it by simp [okL])
  generalize Sch.ok x = okk at *
  obtain ⟨pr, it, tm, tk, fl⟩ := x
  dsimp only at *
  generalize Lt.nameB pr.data.toList = b0 at *
  generalize okT it = b1 at *
  generalize inB tm 0 200000 = b2 at *
  generalize inB tk 1 2000 = b3 at *
  generalize inB fl 1 1000000 = b4 at *
  clear hs
  cases b0
  · have HE : Hid (okk = false) := by
      refine hid ?_
      rw [HOK.out]
      simp
    go_enter Tryz.func46, Tryz.ntmps46
    go_wp2_with fail
    refine (HNM.out _).mono ?_
    rintro e w1 ⟨rfl, rfl⟩
    go_wp2_with fail
    go_ret
    exact ⟨ret_bool HE.out.symm, BX.out.low⟩
  cases b1
  · have HE : Hid (okk = false) := by
      refine hid ?_
      rw [HOK.out]
      simp
    go_enter Tryz.func46, Tryz.ntmps46
    go_wp2_with fail
    refine (HNM.out _).mono ?_
    rintro e w1 ⟨rfl, rfl⟩
    go_wp2_with fail
    refine (warm_any _ _).mono ?_
    rintro e w2 ⟨rfl, rfl⟩
    rw [HIT.out]
    go_wp2_with fail
    go_ret
    exact ⟨ret_bool HE.out.symm, BX.out.low⟩
  cases b2
  · have HE : Hid (okk = false) := by
      refine hid ?_
      rw [HOK.out]
      simp
    go_enter Tryz.func46, Tryz.ntmps46
    go_wp2_with fail
    refine (HNM.out _).mono ?_
    rintro e w1 ⟨rfl, rfl⟩
    go_wp2_with fail
    refine (warm_any _ _).mono ?_
    rintro e w2 ⟨rfl, rfl⟩
    rw [HIT.out]
    go_wp2_with fail
    refine (x4within_any _ _ _ _).mono ?_
    rintro e w3 ⟨rfl, rfl⟩
    rw [HTM.out]
    go_wp2_with fail
    go_ret
    exact ⟨ret_bool HE.out.symm, BX.out.low⟩
  cases b3
  · have HE : Hid (okk = false) := by
      refine hid ?_
      rw [HOK.out]
      simp
    go_enter Tryz.func46, Tryz.ntmps46
    go_wp2_with fail
    refine (HNM.out _).mono ?_
    rintro e w1 ⟨rfl, rfl⟩
    go_wp2_with fail
    refine (warm_any _ _).mono ?_
    rintro e w2 ⟨rfl, rfl⟩
    rw [HIT.out]
    go_wp2_with fail
    refine (x4within_any _ _ _ _).mono ?_
    rintro e w3 ⟨rfl, rfl⟩
    rw [HTM.out]
    go_wp2_with fail
    refine (x4within_any _ _ _ _).mono ?_
    rintro e w4 ⟨rfl, rfl⟩
    rw [HTK.out]
    go_wp2_with fail
    go_ret
    exact ⟨ret_bool HE.out.symm, BX.out.low⟩
  cases b4
  · have HE : Hid (okk = false) := by
      refine hid ?_
      rw [HOK.out]
      simp
    go_enter Tryz.func46, Tryz.ntmps46
    go_wp2_with fail
    refine (HNM.out _).mono ?_
    rintro e w1 ⟨rfl, rfl⟩
    go_wp2_with fail
    refine (warm_any _ _).mono ?_
    rintro e w2 ⟨rfl, rfl⟩
    rw [HIT.out]
    go_wp2_with fail
    refine (x4within_any _ _ _ _).mono ?_
    rintro e w3 ⟨rfl, rfl⟩
    rw [HTM.out]
    go_wp2_with fail
    refine (x4within_any _ _ _ _).mono ?_
    rintro e w4 ⟨rfl, rfl⟩
    rw [HTK.out]
    go_wp2_with fail
    refine (x4within_any _ _ _ _).mono ?_
    rintro e w5 ⟨rfl, rfl⟩
    rw [HFL.out]
    go_wp2_with fail
    go_ret
    exact ⟨ret_bool HE.out.symm, BX.out.low⟩
  have HE : Hid (okk = true) := by
    refine hid ?_
    rw [HOK.out]
    simp
  go_enter Tryz.func46, Tryz.ntmps46
  go_wp2_with fail
  refine (HNM.out _).mono ?_
  rintro e w1 ⟨rfl, rfl⟩
  go_wp2_with fail
  refine (warm_any _ _).mono ?_
  rintro e w2 ⟨rfl, rfl⟩
  rw [HIT.out]
  go_wp2_with fail
  refine (x4within_any _ _ _ _).mono ?_
  rintro e w3 ⟨rfl, rfl⟩
  rw [HTM.out]
  go_wp2_with fail
  refine (x4within_any _ _ _ _).mono ?_
  rintro e w4 ⟨rfl, rfl⟩
  rw [HTK.out]
  go_wp2_with fail
  refine (x4within_any _ _ _ _).mono ?_
  rintro e w5 ⟨rfl, rfl⟩
  rw [HFL.out]
  go_wp2_with fail
  go_ret
  exact ⟨ret_bool HE.out.symm, BX.out.low⟩
end Go.Proofs.YtihbjimnjhfpeaaGreat

/- Walks of ValidSchedules of both: contracts. -/
namespace Go.Proofs.YtihbjimnjhfpeaaGreat
open Go.RowKit Go.Lib

end Go.Proofs.YtihbjimnjhfpeaaGreat

/- Walks of fits and of Lookup's early ends: contracts. -/
namespace Go.Proofs.YtihbjimnjhfpeaaGreat
open Go.RowKit Go.Lib

set_option maxRecDepth 20000 in
set_option maxHeartbeats 2000000 in
theorem fits_any (x : Sch) (i f : Int) (w : World) :
    Calls Tryz.prog 136 #[.agg #[.string x.pr, .int .i64 x.it, .int .i64 x.tm, .int .i64 x.tk, .int .i64 x.fl], .int .i64 i, .int .i64 f] w fun e w' => e = .returned (.bool (x.fit i f)) ∧ Below w.heap.size w w' := by
  have BX := hid (box1_start (w := w) (A := #[.string x.pr, .int .i64 x.it, .int .i64 x.tm, .int .i64 x.tk, .int .i64 x.fl]) (T := 38) (fz := (0, 0)))
  have HF := hid (show x.fit i f = (decide (x.it ≤ i) && decide (f ≤ x.fl)) from rfl)
  obtain ⟨pr, it, tm, tk, fl⟩ := x
  dsimp only at *
  generalize Sch.fit _ i f = ff at *
  cases h1 : decide (it ≤ i)
  · have HE : Hid (ff = false) := by
      refine hid ?_
      rw [HF.out, h1]; rfl
    go_enter Tryz.func136, Tryz.ntmps136
    go_wp2_with fail
    go_ret
    exact ⟨ret_bool HE.out.symm, BX.out.low⟩
  · have HE : Hid (ff = decide (f ≤ fl)) := by
      refine hid ?_
      rw [HF.out, h1]; rfl
    go_enter Tryz.func136, Tryz.ntmps136
    go_wp2_with fail
    go_ret
    exact ⟨ret_bool HE.out.symm, BX.out.low⟩
def LkP (V E : Int) (w : World) (e : Ending) (w' : World) : Prop := e = .returned (.tuple #[.int .i64 V, .int .i64 E]) ∧ Below w.heap.size w w'
end Go.Proofs.YtihbjimnjhfpeaaGreat
