/- A function's end behind many ranges over functions; a stack that is popped. No condition. -/
import Derived.Test.YtjfcdkmnccafaaaPbj
import Derived.Sort.LoopGhostIn
namespace Go.Proofs.Ytjfcdkmnccafaaa.Pb
open Go.RowKit Go.Shelf
/-- The records of ranges that have come to their end. -/
def recs (ds : List Nat) : List Deferred := ds.map fun D => { target := .collected D, args := #[] }
theorem recs_cons (D : Nat) (ds : List Nat) : { target := .collected D, args := #[] } :: recs ds = recs (D :: ds) := rfl
/-- Each holds no call. -/
structure Rec (w : World) (B : Nat) (ds : List Nat) : Prop where
  nd : ds.Nodup
  at_ : ∀ D ∈ ds, B ≤ D ∧ w.heap[D]? = some (.deferred (some []))
theorem Rec.nil (w : World) (B : Nat) : Rec w B [] := ⟨List.Pairwise.nil, fun _ h => by cases h⟩
theorem Rec.lt {w : World} {B : Nat} {ds : List Nat} (h : Rec w B ds) {D : Nat} (hD : D ∈ ds) : D < w.heap.size := (Array.getElem?_eq_some_iff.1 (h.at_ D hD).2).1
theorem Rec.keep {w w' : World} {B : Nat} {ds : List Nat} (h : Rec w B ds) (e : ∀ D ∈ ds, w'.heap[D]? = w.heap[D]?) : Rec w' B ds := ⟨h.nd, fun D hD => ⟨(h.at_ D hD).1, (e D hD).trans (h.at_ D hD).2⟩⟩
theorem Rec.more {w : World} {B : Nat} {ds : List Nat} (h : Rec w B ds) {D : Nat} (hD : D ∉ ds) (hB : B ≤ D) (hK : w.heap[D]? = some (.deferred (some []))) : Rec w B (D :: ds) :=
  ⟨List.nodup_cons.2 ⟨hD, h.nd⟩, fun x hx => by
    rcases List.mem_cons.1 hx with rfl | hx
    · exact ⟨hB, hK⟩
    · exact h.at_ x hx⟩
theorem leaves_many {F : Fence} {n : Nat} {P : Program} {fn : Func} {tmps : Array Value} {R : Ending → World → Prop} {B : Nat} : ∀ (ds : List Nat) (w : World), Rec w B ds →
    (∀ w', Fr (fun y => y ∈ ds) w w' → LeavesIn F n P fn tmps R [] .returning w') → LeavesInM F n P fn tmps R (recs ds) .returning w
  | [], w, _, hl => hl w ⟨rfl, rfl, rfl, Nat.le_refl _, fun _ _ _ => rfl⟩
  | D :: ds, w, h, hl => by
    obtain ⟨h1, h2⟩ := List.nodup_cons.1 h.nd
    have hD := (h.at_ D (List.mem_cons_self ..)).2
    refine ⟨by simp, .inl ⟨D, _, rfl, run_takeDeferred hD, ?_⟩⟩
    have e : ∀ y, y ≠ D → (w.putObj D (.deferred none)).heap[y]? = w.heap[y]? := fun y hy => World.putObj_heap_other hy
    refine leaves_many ds _ ⟨h2, fun x hx => ⟨(h.at_ x (List.mem_cons_of_mem _ hx)).1, (e x (fun e => h1 (e ▸ hx))).trans (h.at_ x (List.mem_cons_of_mem _ hx)).2⟩⟩ fun w' hf => hl w' ?_
    refine ⟨hf.os, hf.tape, hf.output, Nat.le_trans (by simp) hf.size, fun y hy hn => ?_⟩
    have hyD : y ≠ D := fun e => hn (by rw [e]; exact List.mem_cons_self ..)
    exact (hf.block y (by simpa using hy) (fun hm => hn (List.mem_cons_of_mem _ hm))).trans (e y hyD)
/-- A row cut behind its k-th. -/
theorem ownsRow_cut {w : World} {base : Nat} {e : TypeId} {size n cap : Nat} {a : Option Addr} {xs : List Value} (h : w.ownsRow base e size (.slice a n cap) n xs) {k : Nat} (hk : k ≤ n) : w.ownsRow base e size (.slice a k cap) k (xs.take (k * size)) := by
  have hle : k * size ≤ n * size := Nat.mul_le_mul_right _ hk
  rcases h.2 with ⟨h', h0⟩ | ⟨g, cap', cur, h', hb, hg, hnc, hcm, hcs, htake⟩
  · subst h0
    obtain rfl : k = 0 := by omega
    refine ⟨by simp, .inl ⟨?_, rfl⟩⟩
    exact h'
  · simp only [Value.slice.injEq, true_and] at h'
    obtain ⟨rfl, rfl⟩ := h'
    refine ⟨by have := h.1; rw [List.length_take]; omega, .inr ⟨g, cap, cur, rfl, hb, hg, Nat.le_trans hk hnc, hcm, hcs, ?_⟩⟩
    rw [← htake, List.take_take, Nat.min_eq_left hle]
end Go.Proofs.Ytjfcdkmnccafaaa.Pb
