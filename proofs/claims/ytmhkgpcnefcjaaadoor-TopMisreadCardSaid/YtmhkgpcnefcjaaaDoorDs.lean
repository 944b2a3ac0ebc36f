/- Walks of OfYear, ValidDate, DayOf of the code: contracts. -/
import Derived.Test.YtmhkgpcnefcjaaaDoorDp
namespace Go.Proofs.YtmhkgpcnefcjaaaDoor
open Go.RowKit

theorem cwithin_q (a b c : Int) (w : World) : Calls Tryd.prog 56 #[.int .i64 a, .int .i64 b, .int .i64 c] w fun e w' => e = .returned (.bool (inB a b c)) ∧ w' = w :=
  (cwithin_any a b c w).mono fun _ _ ⟨h, g⟩ => ⟨h, g.symm⟩
theorem cwithin_l (a b c : Int) (r : Bool) (w : World) (h : inB a b c = r) : Calls Tryd.prog 56 #[.int .i64 a, .int .i64 b, .int .i64 c] w fun e w' => e = .returned (.bool r) ∧ w' = w := by
  subst h; exact cwithin_q a b c w
theorem before_q (y m : Int) (w : World) (h1 : 1 ≤ m) (h2 : m ≤ 13) : Calls Tryd.prog 61 #[.int .i64 y, .int .i64 m] w fun e w' => e = .returned (.int .i64 (dB y m)) ∧ w' = w :=
  (before_any y m w h1 h2).mono fun _ _ ⟨h, g⟩ => ⟨h, g.symm⟩
theorem start_q (y : Int) (w : World) (h1 : 2000 ≤ y) (h2 : y ≤ 2200) : Calls Tryd.prog 77 #[.int .i64 y] w fun e w' => e = .returned (.int .i64 (soY y)) ∧ w' = w :=
  (start_any y w h1 h2).mono fun _ _ ⟨h, g⟩ => ⟨h, g.symm⟩
theorem dateB_eq (y m d : Int) : dateB y m d = (inB y 2000 2199 && inB m 1 12 && inB d 1 (mlen y m)) := by
  unfold dateB inB; simp
end Go.Proofs.YtmhkgpcnefcjaaaDoor
