/- Plain: the checking package's list and the tree's marks. No condition. -/
import Derived.Test.YtnmncjeplfkdpaaPcA
import Derived.Test.YtnmncjeplfkdpaaPbu
import Derived.Test.YtnmncjeplfkdpaaPaA
import Derived.Test.YtnmncjeplfkdpaaPeA
namespace Go.Proofs.Ytnmncjeplfkdpaa.Pb
set_option linter.unusedVariables false
open Go.ChangeShapes Go.WideShapes Go.ChangeAt Go.RowKit
open Sp (Th Hp Stays roT rowT cellsT Mvd mvd1)
/-- The list is the tree's. -/
abbrev All (Q : List Pa.Mk) (L : T → Option Int) : Prop := MkI Q L (fun _ => True)
theorem data_ne {a b : ByteArray} : a.data.toList = b.data.toList ↔ a = b := ⟨fun h => by cases a; cases b; congr 1; exact Array.toList_inj.1 h, fun h => h ▸ rfl⟩
theorem All.at {Q : List Pa.Mk} {L : T → Option Int} (h : All Q L) (p : Pa.Mk) : p ∈ Q ↔ L p.1.data.toList = some p.2 := (h.mem p).trans (and_true _).to_iff
theorem all_nil : All [] (fun _ => none) := ⟨List.Pairwise.nil, fun p => by simp⟩
theorem All.none_ {Q : List Pa.Mk} {L : T → Option Int} (h : All Q L) (k : ByteArray) : (∀ m ∈ Q, m.1 ≠ k) ↔ L k.data.toList = none := by
  constructor
  · intro hm
    cases hl : L k.data.toList with
    | none => rfl
    | some z => exact (hm (k, z) ((h.at _).2 hl) rfl).elim
  · intro hl m hm e
    have := (h.at m).1 hm
    rw [e, hl] at this
    cases this
theorem All.put {Q : List Pa.Mk} {L : T → Option Int} (h : All Q L) (k : ByteArray) (n : Int) : All (Pa.putM k n Q) (updL k.data.toList n L) := by
  obtain ⟨h1, h2, -⟩ := putM_spec k n h.up
  refine ⟨h1, fun p => ?_⟩
  rw [h2, h.at]
  unfold updL
  by_cases e : p.1.data.toList = k.data.toList
  · rw [if_pos e]
    have e := data_ne.1 e
    constructor
    · rintro (rfl | ⟨-, hne⟩)
      · exact ⟨rfl, trivial⟩
      · exact absurd e hne
    · rintro ⟨hp, -⟩
      exact .inl (Prod.ext e (Option.some.inj hp).symm)
  · rw [if_neg e]
    constructor
    · rintro (rfl | ⟨hp, -⟩)
      · exact absurd rfl e
      · exact ⟨hp, trivial⟩
    · rintro ⟨hp, -⟩
      exact .inr ⟨hp, fun hh => e (by rw [hh])⟩
theorem All.put_new {Q : List Pa.Mk} {L : T → Option Int} (h : All Q L) (k : ByteArray) (n : Int) : (Pa.putF k n Q).2.2 = (L k.data.toList).isNone := by
  obtain ⟨-, -, h3⟩ := putM_spec k n h.up
  rw [h.none_ k] at h3
  cases hl : L k.data.toList with
  | none => exact h3.2 hl
  | some x =>
    cases hf : (Pa.putF k n Q).2.2 with
    | false => rfl
    | true => rw [h3.1 hf] at hl; cases hl
theorem All.drop {Q : List Pa.Mk} {L : T → Option Int} (h : All Q L) (k : ByteArray) : All (Pa.dropM Q k) (dropL k.data.toList L) := by
  refine ⟨h.up.filter _, fun p => ?_⟩
  unfold Pa.dropM dropL
  rw [List.mem_filter, h.at]
  by_cases e : p.1.data.toList = k.data.toList
  · rw [if_pos e, data_ne.1 e]
    simp
  · rw [if_neg e]
    have : (p.1.toList == k.toList) = false := by
      cases hb : (p.1.toList == k.toList) with
      | false => rfl
      | true => exact absurd (by rw [key_eq.1 hb]) e
    rw [this]
    simp
theorem All.drop_was {Q : List Pa.Mk} {L : T → Option Int} (h : All Q L) (k : ByteArray) : decide ((Pa.dropM Q k).length < Q.length) = (L k.data.toList).isSome := by
  unfold Pa.dropM
  cases hl : L k.data.toList with
  | none =>
    have := (h.none_ k).2 hl
    rw [List.filter_eq_self.2 fun m hm => by
      cases hb : (m.1.toList == k.toList) with
      | false => rfl
      | true => exact absurd (key_eq.1 hb) (this m hm)]
    simp
  | some z =>
    have hm := (h.at (k, z)).2 hl
    have : ((Q.filter fun m => !(m.1.toList == k.toList))).length < Q.length := by
      refine Nat.lt_of_le_of_ne (List.length_filter_le _ _) fun e => ?_
      have := List.length_filter_eq_length_iff.1 e (k, z) hm
      simp at this
    rw [decide_eq_true this]; rfl
theorem All.get {Q : List Pa.Mk} {L : T → Option Int} (h : All Q L) (k : ByteArray) : Pa.getM Q k = L k.data.toList := by
  unfold Pa.getM
  cases hf : Q.find? (fun m => m.1.toList == k.toList) with
  | none =>
    refine ((h.none_ k).1 fun m hm e => ?_).symm
    have := List.find?_eq_none.1 hf m hm
    rw [e] at this
    simp at this
  | some m =>
    have h1 := List.mem_of_find?_eq_some hf
    have h2 := List.find?_some hf
    have h3 := (h.at m).1 h1
    rw [key_eq.1 h2] at h3
    rw [h3]; rfl
theorem All.len {Q : List Pa.Mk} {L : T → Option Int} (h : All Q L) {D : List T} (hn : D.Nodup) (hD : ∀ K, L K ≠ none ↔ K ∈ D) : Q.length = D.length := by
  have hm : ∀ K, K ∈ Q.map (fun p => p.1.data.toList) ↔ K ∈ D := fun K => by
    rw [← hD, List.mem_map]
    constructor
    · rintro ⟨p, hp, rfl⟩
      rw [(h.at p).1 hp]; simp
    · intro hK
      obtain ⟨z, hz⟩ := Option.ne_none_iff_exists'.1 hK
      refine ⟨(⟨K.toArray⟩, z), (h.at _).2 ?_, ?_⟩ <;> simp [hz]
  have h1 : (Q.map fun p => p.1.data.toList).Nodup := List.pairwise_map.2 (h.up.imp fun {a b} (hab : Lt a.1.data.toList b.1.data.toList) (e : a.1.data.toList = b.1.data.toList) => Lt.irr (p := b.1.data.toList) (by rw [e] at hab; exact hab))
  have := Nat.le_antisymm (nd_leT h1 fun K hK => (hm K).1 hK) (nd_leT hn fun K hK => (hm K).2 hK)
  rwa [List.length_map] at this
theorem begM_pre (s p : ByteArray) : Pa.begM s p = true ↔ p.data.toList <+: s.data.toList := by
  unfold Pa.begM
  rw [Bool.and_eq_true, decide_eq_true_iff, key_eq]
  constructor
  · rintro ⟨h1, h2⟩
    rw [← h2, ByteArray.data_extract, Array.toList_extract]
    simp only [Nat.sub_zero, List.drop_zero, List.extract_eq_take_drop]
    exact List.take_prefix _ _
  · intro h
    have hl := h.length_le
    rw [dlen, dlen] at hl
    refine ⟨hl, data_ne.1 ?_⟩
    rw [ByteArray.data_extract, Array.toList_extract]
    simp only [Nat.sub_zero, List.drop_zero, List.extract_eq_take_drop]
    rw [← dlen]
    exact (List.prefix_iff_eq_take.1 h).symm
theorem All.above {Q : List Pa.Mk} {L : T → Option Int} (h : All Q L) (k : ByteArray) : MkI (Q.filter fun m => Pa.begM k m.1) L (fun K => K <+: k.data.toList) :=
  ⟨h.up.filter _, fun p => by rw [List.mem_filter, h.at, begM_pre]⟩
theorem All.walk {Q : List Pa.Mk} {L : T → Option Int} (h : All Q L) (k : ByteArray) : MkI (Q.filter fun m => Pa.begM m.1 k) L (fun K => k.data.toList <+: K) :=
  ⟨h.up.filter _, fun p => by rw [List.mem_filter, h.at, begM_pre]⟩
theorem All.whole {Q Q' : List Pa.Mk} {L : T → Option Int} (h : All Q L) (h' : MkI Q' L (fun K => [] <+: K)) : Q' = Q :=
  MkI.ext (P := fun _ => True) ⟨h'.up, fun p => (h'.mem p).trans ⟨fun x => ⟨x.1, trivial⟩, fun x => ⟨x.1, List.nil_prefix⟩⟩⟩ h fun _ => rfl
theorem All.keys {Q : List Pa.Mk} {L : T → Option Int} (h : All Q L) {D : List T} (hD : ∀ K, L K ≠ none ↔ K ∈ D) (K : T) : (∃ a, a < Q.length ∧ ((Q[a]?.getD (⟨#[]⟩, 0)).1.data.toList = K)) ↔ K ∈ D := by
  rw [← hD]
  constructor
  · rintro ⟨a, ha, e⟩
    rw [List.getElem?_eq_getElem ha, Option.getD_some] at e
    rw [← e, (h.at Q[a]).1 (List.getElem_mem ha)]
    simp
  · intro hK
    obtain ⟨z, hz⟩ := Option.ne_none_iff_exists'.1 hK
    have hm : ((⟨K.toArray⟩, z) : Pa.Mk) ∈ Q := (h.at _).2 (by simp [hz])
    obtain ⟨a, ha, e⟩ := List.mem_iff_getElem.1 hm
    exact ⟨a, ha, by rw [List.getElem?_eq_getElem ha, Option.getD_some, e]⟩
section
variable {o w w' wb : World} {l : List Th} {A : Nat} {D : List T} {L : T → Option Int}
end
end Go.Proofs.Ytnmncjeplfkdpaa.Pb
/- Layer 7's acts as they came in; great; the checking package's Nodes as the tree's. No condition. -/
namespace Go.Proofs.Ytnmncjeplfkdpaa.Pb
set_option linter.unusedVariables false
set_option linter.unusedSimpArgs false
open Go.ChangeShapes Go.WideShapes Go.ChangeAt Go.RowKit
open Sp (Th Hp Stays roT rowT cellsT Mvd mvd1)
/-- An act. -/
structure Ac where
  kd : Int
  k : ByteArray
  n : Int
/-- Acts as they lie. -/
def InA (W : World) (a : Option Addr) (l : List Ac) : Prop := 0 < l.length → ∃ b o, a = some ⟨b, o, none⟩ ∧ b < W.heap.size ∧ ∀ i (h : i < l.length), W.cell? ⟨b, o + i * 3, none⟩ = some (.int .i64 l[i].kd) ∧ W.cell? ⟨b, o + i * 3 + 1, none⟩ = some (.string l[i].k) ∧ W.cell? ⟨b, o + i * 3 + 2, none⟩ = some (.int .i64 l[i].n)
theorem InA.below {B : Nat} {w w' : World} {a : Option Addr} {l : List Ac} (h : InA w a l) (hB : w.heap.size ≤ B) (hb : Below B w w') : InA w' a l := fun hp => by
  obtain ⟨b, o, rfl, hlt, hc⟩ := h hp
  have e : ∀ j, w'.cell? ⟨b, j, none⟩ = w.cell? ⟨b, j, none⟩ := fun j => hb.cell (p := ⟨b, j, none⟩) (Nat.lt_of_lt_of_le hlt hB)
  exact ⟨b, o, rfl, Nat.lt_of_lt_of_le hlt hb.size, fun i hi => by rw [e, e, e]; exact hc i hi⟩
/-- Acts that are looked at. -/
def okA (l : List Ac) : Prop := l.length ≤ 60 ∧ ∀ i (h : i < l.length), l[i].k.size ≤ 100
theorem SX.txe {X : List ByteArray} {Q : List Pa.Mk} {L : T → Option Int} {D : List T} (h : SX X (Sn (kyM Q) Q.length)) (hQ : All Q L) (hD : ∀ K, L K ≠ none ↔ K ∈ D) : TxE (X.map (·.data.toList)) D := by
  have hk : ∀ K, (∃ a, a < Q.length ∧ kyM Q a = K) ↔ K ∈ D := hQ.keys hD
  refine ⟨h.nd, fun p => ?_⟩
  rw [h.mem, sn_texts]
  constructor
  · rintro (e | e | ⟨a, ha, b, hb, x, y, r⟩)
    · exact .inl e
    · exact .inr (.inl ((hk p).1 e))
    · exact .inr (.inr ⟨_, (hk _).1 ⟨a, ha, rfl⟩, _, (hk _).1 ⟨b, hb, rfl⟩, x, y, r⟩)
  · rintro (e | e | ⟨K, hK, M, hM, x, y, r⟩)
    · exact .inl e
    · exact .inr (.inl ((hk p).2 e))
    · obtain ⟨a, ha, rfl⟩ := (hk K).2 hK
      obtain ⟨b, hb, rfl⟩ := (hk M).2 hM
      exact .inr (.inr ⟨a, ha, b, hb, x, y, r⟩)
theorem row_lies {o w : World} {ts : List Th} {a : Option Addr} {c : Nat} {Q : List Pa.Mk} (h : Hp o w (rowT 63 2 (.slice a Q.length c) Q.length (Pa.cellsM Q) :: ts)) : Pa.InM w a Q := fun i hi => by
  obtain ⟨a', c', e, -, -, hg⟩ := h.rowForm
  injection e with e1 _ e3
  subst e1 e3
  obtain ⟨g, rfl⟩ := hg (by omega)
  obtain ⟨m1, m2⟩ := Pa.cellsM_at Q i hi
  have hl := Pa.cellsM_len Q
  exact ⟨g, rfl, (h.rowCell (by omega)).trans m1, (h.rowCell (by omega)).trans m2⟩
theorem All.rad {o w : World} {ts : List Th} {A : Nat} {D : List T} {L : T → Option Int} {Q : List Pa.Mk} (hQ : All Q L) (h : Hp o w (radT A D L :: ts)) : Q.length = D.length ∧ (∀ K, L K ≠ none ↔ K ∈ D) ∧ ∀ i (hi : i < Q.length), Q[i].1.size ≤ 140737488351232 := by
  obtain ⟨t, vs, m, hobj, hi⟩ := rad_at h
  refine ⟨hQ.len hi.nd hi.dl, hi.dl, fun i hiq => ?_⟩
  obtain ⟨d, hd, e, -⟩ := hi.some_ hobj.ok ((hi.dl _).1 (by rw [(hQ.at Q[i]).1 (List.getElem_mem hiq)]; simp))
  have := hobj.ln d hd
  rwa [e, dlen] at this
end Go.Proofs.Ytnmncjeplfkdpaa.Pb
