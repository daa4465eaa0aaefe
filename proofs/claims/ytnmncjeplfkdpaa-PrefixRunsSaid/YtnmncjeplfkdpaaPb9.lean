/- The tree as an object; a leaf more, a fork more, as they lie. Conditions: the tree as it lies. -/
import Derived.Test.YtnmncjeplfkdpaaPb8
namespace Go.Proofs.Ytnmncjeplfkdpaa.Pb
open Go.ChangeShapes Go.WideShapes Go.ChangeAt Go.RowKit
theorem rise_le : ∀ (l : List Nat) (a : Nat), l.Pairwise (· < ·) → (∀ x ∈ l, a ≤ x) → ∀ N, (∀ x ∈ l, x < N) → l.length + a ≤ N ∨ l = []
  | [], _, _, _, _, _ => .inr rfl
  | y :: r, a, hs, ha, N, hN => by
    obtain ⟨h1, h2⟩ := List.pairwise_cons.1 hs
    have hy := ha y (List.mem_cons_self ..)
    have hyN := hN y (List.mem_cons_self ..)
    refine .inl ?_
    rcases rise_le r (y + 1) h2 (fun x hx => h1 x hx) N (fun x hx => hN x (List.mem_cons_of_mem _ hx)) with h | h
    · simp only [List.length_cons]; omega
    · subst h; simp only [List.length_cons, List.length_nil]; omega
theorem Ok.kle {t : Tr} (h : Ok t) {b : Nat} (hb : b ∈ t.B) : (t.ks b).length ≤ 256 := by
  have h1 := rise_le ((t.ks b).map (nb t b)) 0 (h.nbs hb) (fun _ _ => Nat.zero_le _) 256 (fun x hx => by
    obtain ⟨c, hc, rfl⟩ := List.mem_map.1 hx
    obtain ⟨y, hy⟩ := h.kext hb hc
    rw [nb_ext hy]
    exact UInt8.toNat_lt y)
  rw [List.length_map] at h1
  rcases h1 with h1 | h1
  · omega
  · have := congrArg List.length h1
    rw [List.length_map] at this
    rw [this]; exact Nat.zero_le _
/-- A leaf put where find says. -/
theorem Ok.leaf_at {t : Tr} (h : Ok t) {b x k : Nat} {K : T} {y : UInt8} (hb : b ∈ t.B) (hx : x ∉ t.B) (hK : t.tx b ++ [y] <+: K) (hF : Fnd ((t.ks b).map (nb t b)) y.toNat k false) :
    Ok (t.leaf b x K ((t.ks b).take k ++ x :: (t.ks b).drop k)) := by
  have hn : ∀ c ∈ t.ks b, ¬ t.tx b ++ [y] <+: t.tx c := by
    rcases hF.kid h hb with ⟨-, hn⟩ | ⟨e, -⟩
    · exact hn
    · cases e
  have hml : ((t.ks b).map (nb t b)).length = (t.ks b).length := List.length_map ..
  have hkl := hF.le
  rw [hml] at hkl
  have hxk : x ∉ t.ks b := fun e => hx (h.kin b hb x e).1
  refine h.leaf hb hx hK hn (fun c => ?_) ?_
  · rw [List.mem_append, List.mem_cons]
    constructor
    · rintro (hc | hc | hc)
      · exact .inl (List.mem_of_mem_take hc)
      · exact .inr hc
      · exact .inl (List.mem_of_mem_drop hc)
    · rintro (hc | hc)
      · rw [← List.take_append_drop k (t.ks b)] at hc
        rcases List.mem_append.1 hc with hc | hc
        · exact .inl hc
        · exact .inr (.inr hc)
      · exact .inr (.inl hc)
  · have hs := h.srt b hb
    have tx1 : ∀ c ∈ t.ks b, (if c = x then K else t.tx c) = t.tx c := fun c hc => if_neg (fun (e : c = x) => hxk (by rw [← e]; exact hc))
    have e1 : ∀ c z, c ∈ t.ks b → t.tx b ++ [z] <+: (if c = x then K else t.tx c) → t.tx b ++ [z] <+: t.tx c := fun c z hc hz => by rw [tx1 c hc] at hz; exact hz
    have e2 : ∀ z, t.tx b ++ [z] <+: (if x = x then K else t.tx x) → z = y := fun z hz => by rw [if_pos rfl] at hz; exact ext_one hz hK
    rw [← List.take_append_drop k (t.ks b), List.pairwise_append] at hs
    obtain ⟨s1, s2, s3⟩ := hs
    have lo : ∀ c ∈ (t.ks b).take k, ∀ z, t.tx b ++ [z] <+: t.tx c → z < y := fun c hc z hz => by
      obtain ⟨i, hi, rfl⟩ := List.mem_iff_getElem.1 hc
      rw [List.length_take] at hi
      have := hF.lo i (by omega) (by omega)
      rw [List.getElem_map] at this
      rw [List.getElem_take] at hz
      rw [nb_ext hz] at this
      exact UInt8.lt_iff_toNat_lt.2 this
    have hi : ∀ c ∈ (t.ks b).drop k, ∀ z, t.tx b ++ [z] <+: t.tx c → y < z := fun c hc z hz => by
      have hcb := List.mem_of_mem_drop hc
      obtain ⟨i, hi, rfl⟩ := List.mem_iff_getElem.1 hc
      rw [List.length_drop] at hi
      have := hF.hi (k + i) (by omega) (by omega)
      rw [List.getElem_map] at this
      rw [List.getElem_drop] at hz hcb
      rw [nb_ext hz] at this
      rcases Nat.lt_or_eq_of_le this with h2 | h2
      · exact UInt8.lt_iff_toNat_lt.2 h2
      · exact absurd (by rw [UInt8.toNat_inj.1 h2]; exact hz) (hn _ hcb)
    rw [List.pairwise_append, List.pairwise_cons]
    refine ⟨s1.imp_of_mem fun {c d} hc hd hcd x' y' hx' hy' => hcd x' y' (e1 c x' (List.mem_of_mem_take hc) hx') (e1 d y' (List.mem_of_mem_take hd) hy'), ⟨fun d hd x' y' hx' hy' => ?_, s2.imp_of_mem fun {c d} hc hd hcd x' y' hx' hy' => hcd x' y' (e1 c x' (List.mem_of_mem_drop hc) hx') (e1 d y' (List.mem_of_mem_drop hd) hy')⟩, fun c hc d hd x' y' hx' hy' => ?_⟩
    · rw [e2 x' hx']
      exact hi d hd y' (e1 d y' (List.mem_of_mem_drop hd) hy')
    · rcases List.mem_cons.1 hd with rfl | hd
      · rw [e2 y' hy']
        exact lo c hc x' (e1 c x' (List.mem_of_mem_take hc) hx')
      · exact s3 c hc d hd x' y' (e1 c x' (List.mem_of_mem_take hc) hx') (e1 d y' (List.mem_of_mem_drop hd) hy')
/-- A list with another one in one place. -/
theorem map_set {l : List Nat} (hn : l.Nodup) {k f : Nat} (hk : k < l.length) : l.map (fun d => if d = l[k] then f else d) = l.set k f := by
  refine List.ext_getElem (by simp) fun i h1 h2 => ?_
  rw [List.getElem_map, List.getElem_set]
  rw [List.length_map] at h1
  by_cases hik : k = i
  · subst hik; simp
  · rw [if_neg hik, if_neg (fun e => hik ((List.getElem_inj hn).1 e).symm)]
/-- The object: its root, how many keys, how many nodes. -/
structure TObj (w : World) (A : Nat) (t : Tr) (vs : Nat → Value) (m : Nat) : Prop where
  tr : TrAt w t vs
  ok : Ok t
  c0 : w.cell? ⟨A, 0, none⟩ = some (.pointer (some ⟨t.rt, 0, none⟩))
  c1 : w.cell? ⟨A, 1, none⟩ = some (.int .i64 m)
  c2 : w.cell? ⟨A, 2, none⟩ = some (.int .i64 t.B.length)
  fz : ∀ j, w.frozen? ⟨A, j, none⟩ = false
  na : A ∉ t.B
  nr : ∀ b ∈ t.B, (vs b).ownBlock ≠ some A
  ln : ∀ b ∈ t.B, (t.tx b).length ≤ 140737488351232
/-- The blocks of an object. -/
def own (A : Nat) (t : Tr) (vs : Nat → Value) (x : Nat) : Prop := x = A ∨ ownT t vs x
theorem TObj.lt {w : World} {A : Nat} {t : Tr} {vs : Nat → Value} {m : Nat} (h : TObj w A t vs m) {x : Nat} (hx : own A t vs x) : x < w.heap.size := by
  rcases hx with rfl | hx
  · exact World.block_lt_of_cell? w _ h.c0
  · exact h.tr.lt hx
theorem TObj.keep {w w' : World} {A : Nat} {t : Tr} {vs : Nat → Value} {m : Nat} (h : TObj w A t vs m) (e : ∀ x, own A t vs x → w'.heap[x]? = w.heap[x]?) : TObj w' A t vs m := by
  have eA := e A (.inl rfl)
  exact ⟨h.tr.keep fun x hx => e x (.inr hx), h.ok, (World.cell?_of_block (a := ⟨A, 0, none⟩) eA).trans h.c0, (World.cell?_of_block (a := ⟨A, 1, none⟩) eA).trans h.c1, (World.cell?_of_block (a := ⟨A, 2, none⟩) eA).trans h.c2, fun j => (World.frozen?_of_block (a := ⟨A, j, none⟩) eA).trans (h.fz j), h.na, h.nr, h.ln⟩
theorem TObj.below {w w' : World} {A : Nat} {t : Tr} {vs : Nat → Value} {m : Nat} (h : TObj w A t vs m) (hb : Below w.heap.size w w') : TObj w' A t vs m := h.keep fun _ hx => hb.block _ (h.lt hx)
/-- Of w all blocks stand in w' but those that S names. -/
structure Fr (S : Nat → Prop) (w w' : World) : Prop where
  os : w'.os = w.os
  tape : w'.tape = w.tape
  output : w'.output = w.output
  size : w.heap.size ≤ w'.heap.size
  block : ∀ i, i < w.heap.size → ¬ S i → w'.heap[i]? = w.heap[i]?
theorem Fr.of_below {S : Nat → Prop} {w w' : World} (h : Below w.heap.size w w') : Fr S w w' := ⟨h.os, h.tape, h.output, h.size, fun i hi _ => h.block i hi⟩
theorem Fr.below {S : Nat → Prop} {w w' : World} {B : Nat} (h : Fr S w w') (hB : B ≤ w.heap.size) (hS : ∀ i, i < B → ¬ S i) : Below B w w' := ⟨h.os, h.tape, h.output, h.size, fun i hi => h.block i (Nat.lt_of_lt_of_le hi hB) (hS i hi)⟩
theorem Fr.trans2 {S T : Nat → Prop} {a b c : World} (h : Fr S a b) (k : Fr T b c) (hST : ∀ i, i < a.heap.size → T i → S i) : Fr S a c :=
  ⟨k.os.trans h.os, k.tape.trans h.tape, k.output.trans h.output, Nat.le_trans h.size k.size, fun i hi hs => (k.block i (Nat.lt_of_lt_of_le hi h.size) (fun ht => hs (hST i hi ht))).trans (h.block i hi hs)⟩
theorem Fr.setCell {S : Nat → Prop} (w : World) (p : Addr) (hp : S p.block) (v : Value) : Fr S w (w.setCell p v) := by
  have h := Below.setCell (p := p) (Below.refl p.block w) (Nat.le_refl _) v
  exact ⟨h.os, h.tape, h.output, h.size, fun i _ hs => Below.heap_setCell w p v i (fun e => hs (e ▸ hp))⟩
theorem Fr.grown {w w' : World} {row : Option Nat} {S : Nat → Prop} (h : w.grownBy w' row) (hS : ∀ g, row = some g → S g) : Fr S w w' := ⟨h.os, h.tape, h.output, h.size, fun i hi hs => h.block i hi (fun e => hs (hS i e.symm))⟩
theorem addr_ne {b c i j : Nat} (h : b ≠ c ∨ i ≠ j) : (⟨b, i, none⟩ : Addr) ≠ ⟨c, j, none⟩ := by
  intro e
  injection e with e1 e2
  rcases h with h | h
  · exact h e1
  · exact h e2
/-- A node whose row is another one. -/
theorem NdAt.setRow {w : World} {b : Nat} {tx : T} {m : Option Int} {v : Value} (h : NdAt w b tx m v) (v' : Value) : NdAt (w.setCell ⟨b, 3, none⟩ v') b tx m v' :=
  ⟨(World.cell?_setCell_other _ _ _ _ (addr_ne (.inr (by decide)))).trans h.c0, (World.cell?_setCell_other _ _ _ _ (addr_ne (.inr (by decide)))).trans h.c1, (World.cell?_setCell_other _ _ _ _ (addr_ne (.inr (by decide)))).trans h.c2, World.cell?_setCell_same w _ _ h.c3, fun j => by rw [World.frozen?_setCell]; exact h.fz j⟩
end Go.Proofs.Ytnmncjeplfkdpaa.Pb
