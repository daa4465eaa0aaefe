/- Package radix's Tree as a thing (radT): which keys it has, and which number each; New, Put, Len, Nodes, Over, Walk, Above. Conditions: bounds. -/
import Derived.Test.YtnmncjeplfkdpaaSp3
import Derived.Test.YtnmncjeplfkdpaaPbG
import Derived.Test.YtnmncjeplfkdpaaPbD
import Derived.Test.YtnmncjeplfkdpaaPbC
namespace Go.Proofs.Ytnmncjeplfkdpaa.Pb
set_option linter.unusedVariables false
set_option linter.unusedSimpArgs false
open Go.ChangeShapes Go.WideShapes Go.ChangeAt Go.RowKit
open Sp (Th Hp Stays roT rowT cellsT Mvd mvd1)
structure RdI (t : Tr) (m : Nat) (D : List T) (L : T → Option Int) : Prop where
  mn : Mn t none
  lk : ∀ K, look t K = L K
  m : m = D.length
  nd : D.Nodup
  dl : ∀ K, L K ≠ none ↔ K ∈ D
theorem RdI.nodes {t : Tr} {m : Nat} {D : List T} {L : T → Option Int} (h : RdI t m D L) (ho : Ok t) : t.B.length ≤ 2 * D.length + 1 := by
  have h1 := nodes_le ho h.mn
  rw [marked_len ho h.nd fun K => by rw [h.lk]; exact h.dl K] at h1
  exact h1
theorem RdI.some_ {t : Tr} {m : Nat} {D : List T} {L : T → Option Int} (h : RdI t m D L) (ho : Ok t) {K : T} (hK : K ∈ D) : ∃ d ∈ t.B, t.tx d = K ∧ t.nm d ≠ none := by
  have h1 := (h.dl K).2 hK
  rw [← h.lk] at h1
  obtain ⟨n, hn⟩ := Option.ne_none_iff_exists'.1 h1
  obtain ⟨b, hb, hx, hm⟩ := (look_ex ho).1 hn
  exact ⟨b, hb, hx, by rw [hm]; simp⟩
theorem RdI.pos {t : Tr} {m : Nat} {D : List T} {L : T → Option Int} (h : RdI t m D L) (ho : Ok t) : 0 < m ↔ ∃ d ∈ t.B, t.nm d ≠ none := by
  rw [h.m]
  constructor
  · intro hp
    obtain ⟨K, hK⟩ := List.exists_mem_of_length_pos hp
    obtain ⟨d, hd, -, hn⟩ := h.some_ ho hK
    exact ⟨d, hd, hn⟩
  · rintro ⟨d, hd, hn⟩
    refine List.length_pos_of_mem ((h.dl (t.tx d)).1 ?_)
    rw [← h.lk, look_at ho hd]
    exact hn
/-- A Tree. -/
def radT (A : Nat) (D : List T) (L : T → Option Int) : Th :=
  ⟨fun O _ w => ∃ t vs m, (∀ x, O x ↔ own A t vs x) ∧ TObj w A t vs m ∧ RdI t m D L,
   fun {O R w} ⟨t, vs, m, ho, h, _⟩ x hx => h.lt ((ho x).1 hx),
   fun {O R R' w w'} ⟨t, vs, m, ho, h, hi⟩ _ _ _ hb => ⟨t, vs, m, ho, h.keep fun x hx => hb x (.inl ((ho x).2 hx)), hi⟩⟩
section
variable {o w w' wb : World} {l : List Th} {A : Nat} {D : List T} {L : T → Option Int}
theorem rad_at (h : Hp o w (radT A D L :: l)) : ∃ t vs m, TObj w A t vs m ∧ RdI t m D L := h.say fun ⟨t, vs, m, _, h1, h2⟩ _ _ => ⟨t, vs, m, h1, h2⟩
theorem rnew (h : Hp o w l) (hw : Below w.heap.size w wb) :
    Calls Try.prog 22 #[] wb fun e w' => ∃ A, e = .returned (.pointer (some ⟨A, 0, none⟩)) ∧ Hp o w' (radT A [] (fun _ => none) :: l) := by
  refine (new_calls wb).mono ?_
  rintro e w' ⟨A, t, vs, rfl, hobj, hm, hl, -, hb, hO⟩
  refine ⟨A, rfl, (h.bel hw).add hb (ts := [radT A [] (fun _ => none)]) fun {R} hR => ⟨own A t vs, R, ⟨own A t vs, fun _ => False, ⟨t, vs, 0, fun x => Iff.rfl, hobj, hm, hl, rfl, List.nodup_nil, fun K => by simp⟩, fun _ h => h, fun _ _ h => h, fun x => by simp⟩, fun x hx => ⟨hO x hx, fun hr => by have := hR x hr; have := hO x hx; omega⟩, fun _ h => h, fun x hx => ⟨.inl hx, Nat.lt_of_lt_of_le (hR x hx) hb.size⟩⟩⟩
/-- Put at a key. -/
noncomputable def insT (K : T) (D : List T) : List T := @ite _ (K ∈ D) (Classical.propDecidable _) D (K :: D)
def updL (K : T) (n : Int) (L : T → Option Int) : T → Option Int := fun X => if X = K then some n else L X
theorem insT_in {K : T} {D : List T} (h : K ∈ D) : insT K D = D := if_pos h
theorem insT_out {K : T} {D : List T} (h : K ∉ D) : insT K D = K :: D := if_neg h
theorem insT_len (K : T) (D : List T) : (insT K D).length ≤ D.length + 1 := by
  by_cases h : K ∈ D
  · rw [insT_in h]; omega
  · rw [insT_out h]; simp
theorem mem_insT {K X : T} {D : List T} : X ∈ insT K D ↔ X = K ∨ X ∈ D := by
  by_cases h : K ∈ D
  · rw [insT_in h]
    exact ⟨.inr, fun hx => hx.elim (fun e => e ▸ h) id⟩
  · rw [insT_out h, List.mem_cons]
theorem rput (h : Hp o w (radT A D L :: l)) (hw : Below w.heap.size w wb) (key : ByteArray) (n : Int) (hK : key.size ≤ 140737488351232) (hD : D.length ≤ 1000) :
    Calls Try.prog 38 #[.pointer (some ⟨A, 0, none⟩), .string key, .int .i64 n] wb fun e w' => e = .returned (.bool (L key.data.toList).isNone) ∧ Hp o w' (radT A (insT key.data.toList D) (updL key.data.toList n L) :: l) :=
  (Hp.call1 (ts := [radT A (insT key.data.toList D) (updL key.data.toList n L)]) (X := fun e => e = .returned (.bool (L key.data.toList).isNone)) h hw fun {O R} hp hA hR hAR => by
    obtain ⟨t, vs, m, ho, hobj, hi⟩ := hp
    have hB := hi.nodes hobj.ok
    refine (put_calls hobj key n hi.mn hK (by omega) (by rw [hi.m]; omega)).mono ?_
    rintro e w' ⟨rfl, t', vs', ho', hm', hl', hb', hF, hO⟩
    refine ⟨by rw [hi.lk], mvd1 (A' := own A t' vs') ⟨t', vs', _, fun x => Iff.rfl, ho', hm', fun X => ?_, ?_, ?_, fun X => ?_⟩ ⟨hF.os, hF.tape, hF.output, hF.size, fun i hi' hn => hF.block i hi' fun e => hn ((ho i).2 e)⟩ (fun x hx => Nat.lt_of_lt_of_le (hR x hx) hw.size) hAR fun x hx => (hO x hx).imp (fun e => (ho x).2 e) id⟩
    · rw [hl', hi.lk]; rfl
    · rw [hi.m, hi.lk]
      by_cases hk : key.data.toList ∈ D
      · rw [insT_in hk]
        obtain ⟨z, hz⟩ := Option.ne_none_iff_exists'.1 ((hi.dl _).2 hk)
        rw [hz]; rfl
      · rw [insT_out hk]
        have : L key.data.toList = none := by
          cases hz : L key.data.toList with
          | none => rfl
          | some z => exact absurd ((hi.dl _).1 (by rw [hz]; simp)) hk
        rw [this]; rfl
    · by_cases hk : key.data.toList ∈ D
      · rw [insT_in hk]; exact hi.nd
      · rw [insT_out hk]; exact List.nodup_cons.2 ⟨hk, hi.nd⟩
    · unfold updL
      rw [mem_insT]
      by_cases e : X = key.data.toList
      · rw [if_pos e]; simp [e]
      · rw [if_neg e, hi.dl]; simp [e]).mono fun _ _ ⟨a, b, _⟩ => ⟨a, b⟩
theorem rlen (h : Hp o w (radT A D L :: l)) (hw : Below w.heap.size w wb) : Calls Try.prog 26 #[.pointer (some ⟨A, 0, none⟩)] wb fun e w' => e = .returned (.int .i64 D.length) ∧ wb = w' := by
  obtain ⟨t, vs, m, hobj, hi⟩ := rad_at (h.bel hw)
  have := len_calls hobj
  rw [hi.m] at this
  exact this
/-- The texts of the nodes. -/
structure TxI (X : List T) (D : List T) (L : T → Option Int) : Prop where
  nd : X.Nodup
  le : X.length ≤ 2 * D.length + 1
  nil : [] ∈ X
  key : ∀ K ∈ D, K ∈ X
  is : ∀ p ∈ X, p = [] ∨ p ∈ D ∨ ∃ K ∈ D, ∃ M ∈ D, ∃ x y : UInt8, x < y ∧ p ++ [x] <+: K ∧ p ++ [y] <+: M
theorem rnodes (h : Hp o w (radT A D L :: l)) (hw : Below w.heap.size w wb) : ∃ X, TxI X D L ∧ Calls Try.prog 27 #[.pointer (some ⟨A, 0, none⟩)] wb fun e w' => e = .returned (.int .i64 X.length) ∧ wb = w' := by
  obtain ⟨t, vs, m, hobj, hi⟩ := rad_at (h.bel hw)
  refine ⟨t.B.map t.tx, ⟨?_, by rw [List.length_map]; exact hi.nodes hobj.ok, ?_, fun K hK => ?_, fun p hp => ?_⟩, by rw [List.length_map]; exact nodes_calls hobj⟩
  · refine List.pairwise_map.2 (List.Pairwise.imp_of_mem (fun {a b} ha hb hab e => hab (hobj.ok.inj a ha b hb e)) hobj.ok.nd)
  · rw [← hobj.ok.rtx]; exact List.mem_map_of_mem hobj.ok.rin
  · obtain ⟨d, hd, e, -⟩ := hi.some_ hobj.ok hK
    rw [← e]; exact List.mem_map_of_mem hd
  · obtain ⟨b, hb, rfl⟩ := List.mem_map.1 hp
    rcases node_text hobj.ok hi.mn hobj.ln hb with h1 | h1 | ⟨K, M, x, y, h1, h2, h3, h4, h5⟩
    · exact .inl h1
    · rw [hi.lk] at h1
      exact .inr (.inl ((hi.dl _).1 h1))
    · rw [hi.lk] at h2 h3
      exact .inr (.inr ⟨K, (hi.dl _).1 h2, M, (hi.dl _).1 h3, x, y, h1, h4, h5⟩)
/-- The marks of keys, in order. -/
structure MkI (Q : List Pa.Mk) (L : T → Option Int) (P : T → Prop) : Prop where
  up : Q.Pairwise MLt
  mem : ∀ p, p ∈ Q ↔ L p.1.data.toList = some p.2 ∧ P p.1.data.toList
theorem allM_in {t : Tr} {m : Nat} (hi : RdI t m D L) (ho : Ok t) (hM : ∀ b ∈ t.B, (t.tx b).length ≤ 140737488351232) (p : Pa.Mk) : p ∈ allM t ↔ L p.1.data.toList = some p.2 := by
  have := allM_look ho hM (K := p.1.data.toList) (n := p.2)
  rw [bs_data, hi.lk] at this
  exact this
theorem rabove (h : Hp o w (radT A D L :: l)) (hw : Below w.heap.size w wb) (key : ByteArray) (hK : key.size ≤ 140737488351232) (hD : D.length ≤ 1000) :
    Calls Try.prog 29 #[.pointer (some ⟨A, 0, none⟩), .string key] wb fun e w' => ∃ v Q, e = .returned v ∧ MkI Q L (fun K => K <+: key.data.toList) ∧ (∀ n, L key.data.toList = some n → Q.getLast? = some (key, n)) ∧ Hp o w' (rowT 63 2 v Q.length (Pa.cellsM Q) :: radT A D L :: l) := by
  obtain ⟨t, vs, m, hobj, hi⟩ := rad_at (h.bel hw)
  obtain ⟨xs, hxs⟩ := way_ex hobj.ok key.data.toList _ t.rt hobj.ok.rin (Nat.le_refl _)
  have hxl : xs.length ≤ 1000000 := by
    have h1 := (way_rise hobj.ok hxs hobj.ok.rin).2
    have h2 : xs.Nodup := h1.imp fun {a b} hab e => hab.2 (by rw [e])
    have h3 := nd_leT h2 fun x hx => (way_on hobj.ok hxs (root_on hobj.ok _).1 x hx).1
    have h4 := hi.nodes hobj.ok
    omega
  refine (above_calls hobj key hK xs hxs hxl).mono ?_
  rintro e w' ⟨v, rfl, ys, hys, hR⟩
  rw [above_eq hobj.ok hobj.ln hxs hys] at hR
  refine ⟨v, _, rfl, ⟨(allM_sorted hobj.ok hobj.ln).filter _, fun p => ?_⟩, fun n hn => ?_, (h.bel hw).rowAdd hR.bel hR.row (Nat.le_refl _)⟩
  · rw [List.mem_filter, allM_in hi hobj.ok hobj.ln, List.isPrefixOf_iff_prefix]
  · have h1 : (bs key.data.toList, n) ∈ allM t := by
      rw [bs_data]
      exact (allM_in hi hobj.ok hobj.ln _).2 hn
    have h2 := above_last hobj.ok hobj.ln h1
    rw [bs_data] at h2
    exact h2
end
end Go.Proofs.Ytnmncjeplfkdpaa.Pb
