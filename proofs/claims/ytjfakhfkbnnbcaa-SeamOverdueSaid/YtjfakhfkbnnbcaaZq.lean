/- A function's end behind several ranges over functions: their marks are taken one by one. -/
import Derived.Test.YtjfakhfkbnnbcaaZo
namespace Go.Proofs.Ytjfakhfkbnnbcaa
open Go.RowKit Go.Shelf

/-- Marks of ranges that are over, none older than B. -/
structure Marks0 (B : Nat) (Ds : List Nat) (W : World) : Prop where
  nd : Ds.Nodup
  at_ : ∀ D ∈ Ds, B ≤ D ∧ W.heap[D]? = some (.deferred (some []))
theorem Marks0.nil (B : Nat) (W : World) : Marks0 B [] W := ⟨List.nodup_nil, fun _ h => absurd h List.not_mem_nil⟩
theorem Marks0.keep {B : Nat} {Ds : List Nat} {W W' : World} (h : Marks0 B Ds W) (hk : ∀ D, B ≤ D → W.heap[D]? = some (.deferred (some [])) → W'.heap[D]? = some (.deferred (some []))) : Marks0 B Ds W' :=
  ⟨h.nd, fun D hD => ⟨(h.at_ D hD).1, hk D (h.at_ D hD).1 (h.at_ D hD).2⟩⟩
theorem Marks0.put {B D : Nat} {Ds : List Nat} {W : World} (h : Marks0 B Ds W) (hD : B ≤ D) (hn : ∀ d ∈ Ds, d < D) (hW : W.heap[D]? = some (.deferred (some []))) : Marks0 B (D :: Ds) W :=
  ⟨List.nodup_cons.2 ⟨fun hm => absurd (hn D hm) (Nat.lt_irrefl D), h.nd⟩, fun d hd => by
    rcases List.mem_cons.1 hd with rfl | hd
    · exact ⟨hD, hW⟩
    · exact h.at_ d hd⟩
def markOf (D : Nat) : Deferred := { target := .collected D, args := #[] }
theorem leaves_marks {F : Fence} {n B : Nat} {P : Program} {fn : Func} {tmps : Array Value} {R : Ending → World → Prop} : ∀ (Ds : List Nat) (W : World), Marks0 B Ds W →
    (∀ W' : World, Below B W W' → (∀ (g : Nat) (cs : Array Value) (T : Nat) (fr : Nat × Nat), W.heap[g]? = some (Obj.cells cs T fr) → W'.heap[g]? = some (Obj.cells cs T fr)) → LeavesIn F n P fn tmps R [] .returning W') →
    LeavesInM F n P fn tmps R (Ds.map markOf) .returning W
  | [], W, _, hK => hK W (Below.refl _ _) (fun _ _ _ _ h => h)
  | D :: Ds, W, hM, hK => by
    obtain ⟨hn, hnd⟩ := List.nodup_cons.1 hM.nd
    obtain ⟨hB, hW⟩ := hM.at_ D List.mem_cons_self
    refine ⟨by simp, .inl ⟨D, _, rfl, run_takeDeferred hW, ?_⟩⟩
    refine leaves_marks Ds _ ⟨hnd, fun d hd => ⟨(hM.at_ d (List.mem_cons_of_mem _ hd)).1, (World.putObj_heap_other (by rintro rfl; exact hn hd)).trans (hM.at_ d (List.mem_cons_of_mem _ hd)).2⟩⟩ fun W' hb hc => hK W' ?_ ?_
    · exact (show Below B W (W.putObj D (.deferred none)) from ⟨rfl, rfl, rfl, by simp, fun k hk => World.putObj_heap_other (by omega)⟩).trans hb
    · intro g cs T fr hg
      refine hc g cs T fr ((World.putObj_heap_other ?_).trans hg)
      rintro rfl
      rw [hW] at hg
      cases hg
end Go.Proofs.Ytjfakhfkbnnbcaa
