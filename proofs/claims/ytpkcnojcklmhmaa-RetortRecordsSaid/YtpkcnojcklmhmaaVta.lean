/- A tick of a step of any kind. -/
import Derived.Test.YtpkcnojcklmhmaaVt1
import Derived.Test.YtpkcnojcklmhmaaVt34
namespace Go.Proofs.Ytpkcnojcklmhmaa
open Go.RowKit

theorem tick_all (s : ByteArray) (h c v p ch : Int) (u : Value) (m : Nat) (P : Nat → St) (z : Value) (n : Nat) (q : Nat → Tri) (t : Int) (st : Nat) (g tc ai : Int) (w : World) (hp : RowP w u m P) (hq : RowT w z n q) (hst : st < m)
    (h1 : 1 ≤ h) (h2 : h ≤ 1000) (c1 : 1 ≤ c) (c2 : c ≤ 1000) (tc1 : -50000 ≤ tc) (tc2 : tc ≤ 200000) (a1 : 0 ≤ aimK q t (P st).s n) (a2 : aimK q t (P st).s n ≤ 200000)
    (k1 : 1 ≤ (P st).k) (k2 : (P st).k ≤ 4) (v1 : 1 ≤ v) (v2 : v ≤ 1000) (p1 : 0 ≤ p) (p2 : p ≤ 50000) (ch1 : -5000 ≤ ch) (ch2 : ch ≤ 5000) (ai1 : 0 ≤ ai) (ai2 : ai ≤ 1000) (g1 : 0 ≤ g) (g2 : g ≤ 100000000) (t1 : 0 ≤ t) (t2 : t ≤ 100000000) :
    Calls Try.prog 95 #[.agg #[.string s, .int .i64 h, .int .i64 c, .int .i64 v, .int .i64 p, .int .i64 ch, u, z], .agg #[.int .i64 t, .int .i64 st, .int .i64 g, .int .i64 tc, .int .i64 ai]] w (TickP (P st).k (P st).s (P st).n v p ch t st g (tc + chN h c (aimK q t (P st).s n - tc)) ai w) := by
  rcases (show (P st).k = 1 ∨ (P st).k = 2 ∨ (P st).k = 3 ∨ (P st).k = 4 by omega) with e | e | e | e
  · have := tick_1 s h c v p ch u m P z n q t st g tc ai w hp hq hst h1 h2 c1 c2 tc1 tc2 a1 a2 e v1 v2 p1 p2 ch1 ch2 ai1 ai2 g1 g2 t1 t2
    rwa [e]
  · have := tick_2 s h c v p ch u m P z n q t st g tc ai w hp hq hst h1 h2 c1 c2 tc1 tc2 a1 a2 e v1 v2 p1 p2 ch1 ch2 ai1 ai2 g1 g2 t1 t2
    rwa [e]
  · have := tick_3 s h c v p ch u m P z n q t st g tc ai w hp hq hst h1 h2 c1 c2 tc1 tc2 a1 a2 e v1 v2 p1 p2 ch1 ch2 ai1 ai2 g1 g2 t1 t2
    rwa [e]
  · have := tick_4 s h c v p ch u m P z n q t st g tc ai w hp hq hst h1 h2 c1 c2 tc1 tc2 a1 a2 e v1 v2 p1 p2 ch1 ch2 ai1 ai2 g1 g2 t1 t2
    rwa [e]
end Go.Proofs.Ytpkcnojcklmhmaa
