/- Plain, for RadixOrders: what a tree says after keys from the front, and from the back, with others that came and went. No program. -/
import Derived.Test.YtnmncjeplfkdpaaPcA
namespace Go.Proofs.Ytnmncjeplfkdpaa.Pb
/-- Each key's number is its length. -/
def kvL (S : List T) : T → Option Int := fun K => if K ∈ S then some (K.length : Int) else none
theorem kv_put {L : T → Option Int} {S S' : List T} (h : ∀ K, L K = kvL S K) {k : T} (hs : ∀ X, X ∈ S' ↔ X = k ∨ X ∈ S) : ∀ K, updL k (k.length : Int) L K = kvL S' K := fun K => by
  unfold updL kvL
  by_cases e : K = k
  · rw [if_pos e, if_pos ((hs K).2 (.inl e)), e]
  · rw [if_neg e, h K]
    unfold kvL
    by_cases hk : K ∈ S
    · rw [if_pos hk, if_pos ((hs K).2 (.inr hk))]
    · rw [if_neg hk, if_neg fun hh => ((hs K).1 hh).elim e hk]
theorem kv_back {L : T → Option Int} {S : List T} (h : ∀ K, L K = kvL S K) {k : T} (n : Int) (hk : k ∈ S) : ∀ K, updL k (k.length : Int) (dropL k (updL k n L)) K = kvL S K := fun K => by
  unfold updL dropL
  by_cases e : K = k
  · rw [if_pos e]
    unfold kvL
    rw [e, if_pos hk]
  · simp only [e, if_false]
    exact h K
theorem kv_gone {L : T → Option Int} {S : List T} (h : ∀ K, L K = kvL S K) {k : T} (n : Int) (hk : k ∉ S) : ∀ K, dropL k (updL k n L) K = kvL S K := fun K => by
  unfold updL dropL
  by_cases e : K = k
  · rw [if_pos e]
    unfold kvL
    rw [e, if_neg hk]
  · simp only [e, if_false]
    exact h K
theorem kv_there {L : T → Option Int} {S : List T} (h : ∀ K, L K = kvL S K) (k : T) : (L k).isSome = decide (k ∈ S) := by
  rw [h k]
  unfold kvL
  by_cases hk : k ∈ S <;> simp [hk]
def dat (l : List ByteArray) : List T := l.map (·.data.toList)
theorem dat_take {l : List ByteArray} {i : Nat} (hi : i < l.length) (X : T) : X ∈ dat (l.take (i + 1)) ↔ X = l[i].data.toList ∨ X ∈ dat (l.take i) := by
  unfold dat
  rw [← List.take_append_getElem hi, List.map_append, List.mem_append]
  simp only [List.map_cons, List.map_nil, List.mem_singleton]
  exact or_comm
theorem dat_drop {l : List ByteArray} {i j : Nat} (hj : j < l.length) (hij : j + 1 = i) (X : T) : X ∈ dat (l.drop j) ↔ X = l[j].data.toList ∨ X ∈ dat (l.drop i) := by
  unfold dat
  rw [List.drop_eq_getElem_cons hj, List.map_cons, List.mem_cons, hij]
theorem RdI.same {t t' : Tr} {m m' : Nat} {D D' : List T} {L L' : T → Option Int} (h : RdI t m D L) (h' : RdI t' m' D' L') (hL : ∀ K, L K = L' K) : (∀ K, K ∈ D ↔ K ∈ D') ∧ D.length = D'.length := by
  have hm : ∀ K, K ∈ D ↔ K ∈ D' := fun K => by rw [← h.dl, ← h'.dl, hL]
  exact ⟨hm, Nat.le_antisymm (nd_leT h.nd fun p hp => (hm p).1 hp) (nd_leT h'.nd fun p hp => (hm p).2 hp)⟩
end Go.Proofs.Ytnmncjeplfkdpaa.Pb
