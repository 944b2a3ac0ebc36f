/- Walk of kinds: contract. -/
import Derived.Test.YtpkcnojcklmhmaaVa
import Derived.Laws.EntriesVeiled
import Derived.Laws.Tables
namespace Go.Proofs.Ytpkcnojcklmhmaa
open Go.RowKit

/-- What kinds makes: words, bounds, and functions; that of KVent knows the other two at two places. -/
def bothV (h l : Nat) : Value := .func (.func 128) #[] #[.pointer (some ⟨h, 0, none⟩), .pointer (some ⟨l, 0, none⟩)]
def hotV : Value := .func (.func 126) #[] #[]
def longV : Value := .func (.func 127) #[] #[]
def kindA (h l : Nat) : Array Value := #[.string ⟨#[]⟩, .int .i64 0, .int .i64 0, .nilFunc, .string ⟨#[118, 101, 110, 116]⟩, .int .i64 0, .int .i64 2000, bothV h l,
  .string ⟨#[117, 112]⟩, .int .i64 0, .int .i64 0, hotV, .string ⟨#[99, 111, 111, 107]⟩, .int .i64 1, .int .i64 2000, longV, .string ⟨#[99, 111, 111, 108]⟩, .int .i64 1, .int .i64 2000, longV]
theorem infoK (h l : Nat) : (Try.prog.info? 159).map (·.size) = some (kindA h l).size := by
  have : (Try.prog.info? 159).map (·.size) = some 20 := by kernel_rfl
  rw [this]; rfl
theorem kindA_one (h l : Nat) : (kindA h l).all (·.oneCell') = true := by simp [kindA, bothV, hotV, longV, Value.oneCell']
/-- The functions of kinds, and the two places. -/
def KindsP (w : World) (e : Ending) (w' : World) : Prop := ∃ h l : Nat, e = .returned (.agg (kindA h l)) ∧ w'.cell? ⟨h, 0, none⟩ = some hotV ∧ w'.cell? ⟨l, 0, none⟩ = some longV ∧ Below w.heap.size w w'
theorem kinds_start {w W5 : World} {Z cs : Array Value} {T T' : TypeId} (hW : (((w.alloc (.cells Z T)).alloc (.cells #[hotV] T')).alloc (.cells #[longV] T')).setRow w.heap.size cs = W5) :
    W5.cell? ⟨w.heap.size + 1, 0, none⟩ = some hotV ∧ W5.cell? ⟨w.heap.size + 1 + 1, 0, none⟩ = some longV ∧ W5.heap[w.heap.size]? = some (.cells cs T (0, 0)) ∧ Below w.heap.size w W5 := by
  subst hW
  have h1 := box2_start (w := w.alloc (.cells Z T)) (A := #[hotV]) (B := #[longV]) (T := T') (T' := T') (fz := (0, 0)) (fz' := (0, 0))
  have hs : (w.alloc (.cells Z T)).heap.size = w.heap.size + 1 := by simp
  have h0 : (((w.alloc (.cells Z T)).alloc (.cells #[hotV] T')).alloc (.cells #[longV] T')).heap[w.heap.size]? = some (.cells Z T (0, 0)) := by
    rw [Below.heap_alloc _ _ _ (by simp; omega), Below.heap_alloc _ _ _ (by simp), heap_alloc_new]
  generalize ((w.alloc (.cells Z T)).alloc (.cells #[hotV] T')).alloc (.cells #[longV] T') = W2 at h1 h0
  have hl : Below w.heap.size w W2 := balloc h1.low
  have ho : ∀ k i, k ≠ w.heap.size → (W2.setRow w.heap.size cs).cell? ⟨k, i, none⟩ = W2.cell? ⟨k, i, none⟩ := fun k i hk => World.cell?_of_block (a := ⟨k, i, none⟩) (setRow_other _ _ _ _ hk)
  have e1 := h1.fst 0
  have e2 := h1.snd 0
  rw [hs] at e1 e2
  exact ⟨(ho _ _ (by omega)).trans e1, (ho _ _ (by omega)).trans e2, setRow_heap _ _ _ _ _ _ h0, hl.trans ⟨rfl, rfl, rfl, by simp, fun k hk => setRow_other _ _ _ _ (by omega)⟩⟩
theorem three_old {w : World} {Z A B : Array Value} {T T1 T2 : TypeId} : (((w.alloc (.cells Z T)).alloc (.cells A T1)).alloc (.cells B T2)).heap[w.heap.size]? = some (.cells Z T (0, 0)) := by
  rw [Below.heap_alloc _ _ _ (by simp; omega), Below.heap_alloc _ _ _ (by simp), heap_alloc_new]
set_option maxRecDepth 100000 in
set_option maxHeartbeats 4000000 in
theorem kinds_any (w : World) : Calls Try.prog 117 #[] w (KindsP w) := by
  go_enter Try.func117, Try.ntmps117
  go_wp2_with (refine wpList_store_row rfl 159 _ _ rfl w.heap.size (kindA (w.heap.size + 1) (w.heap.size + 1 + 1)) rfl rfl 159 _ three_old (infoK _ _) rfl (kindA_one _ _) ?_; generalize hW : World.setRow _ _ _ = W5; have HS := hid (kinds_start hW); clear hW)
  refine bodyPost_ret (results_cell_row Try.results117 _ _ w.heap.size 159 (kindA (w.heap.size + 1) (w.heap.size + 1 + 1)) (0, 0) _ rfl HS.out.2.2.1 Try.underlying159 rfl (infoK _ _)) rfl ?_
  exact ⟨_, _, rfl, HS.out.1, HS.out.2.1, HS.out.2.2.2⟩
end Go.Proofs.Ytpkcnojcklmhmaa
