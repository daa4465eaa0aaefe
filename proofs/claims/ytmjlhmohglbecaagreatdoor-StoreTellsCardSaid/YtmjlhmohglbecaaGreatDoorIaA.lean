/- Plain facts of layer 9, of no program: fields in order, where a name stands among them, what is put and dropped. No condition. -/
import Derived.Lib.Bytealg
import Derived.Sort.Walk0
import Derived.Test.YtmjlhmohglbecaaGreatDoorRows
import Derived.WalkKit
import Derived.ProofKit
import Derived.OpenShut
import Derived.WalkSmall
import Derived.WalkSpells
import Derived.WalkLawsBesides
import Derived.Outline
import Derived.Lib.Hide
import Derived.Deep.RegionWith
import Derived.Deep.LoopGhost
import Derived.OwnWalk
import Derived.IntWalk
import Derived.Laws.AppendOwn
import Derived.Laws.IdiomStrings
import Derived.Lib.Strings
import Derived.Lib.AppendZeros
import Derived.Deep.QuietTactic
namespace Go.Proofs.YtmjlhmohglbecaaGreatDoor.Ia
open Go
/-- A field: its name, its text. -/
abbrev Fd : Type := ByteArray × ByteArray
/-- An item: its kind, its text, its fields. -/
structure It where
  k : Int
  t : ByteArray
  l : List Fd
theorem ba_eq {x y : ByteArray} (h : x.toList = y.toList) : x = y := by
  rw [ByteArray.toList_eq, ByteArray.toList_eq] at h
  obtain ⟨x⟩ := x
  obtain ⟨y⟩ := y
  exact congrArg ByteArray.mk (Array.toList_inj.1 h)
/-- Is a's text below b's? -/
def lt (a b : ByteArray) : Bool := Op.bytesLess a.toList b.toList
theorem lt_iff {a b : ByteArray} : lt a b = true ↔ a.toList < b.toList := by unfold lt; rw [bytesLess_eq]; exact decide_eq_true_iff
theorem lt_irrefl (a : ByteArray) : lt a a = false := by
  cases h : lt a a with
  | false => rfl
  | true => exact absurd (lt_iff.1 h) (List.lt_irrefl _)
theorem lt_trans {a b c : ByteArray} (h : lt a b = true) (k : lt b c = true) : lt a c = true := lt_iff.2 (List.lt_trans (lt_iff.1 h) (lt_iff.1 k))
theorem lt_asymm {a b : ByteArray} (h : lt a b = true) : lt b a = false := by
  cases k : lt b a with
  | false => rfl
  | true => exact absurd (lt_trans h k) (by rw [lt_irrefl]; decide)
theorem lt_total {a b : ByteArray} (h : lt a b = false) (k : lt b a = false) : a = b := by
  refine ba_eq (List.le_antisymm ?_ ?_)
  · exact List.not_lt.1 (fun e => by rw [lt_iff.2 e] at k; cases k)
  · exact List.not_lt.1 (fun e => by rw [lt_iff.2 e] at h; cases h)
theorem lt_ne {a b : ByteArray} (h : lt a b = true) : (a.toList == b.toList) = false := by
  rw [beq_eq_false_iff_ne]
  intro e
  rw [ba_eq e, lt_irrefl] at h
  cases h
theorem cmp_neg {x y : List UInt8} : (Lib.compareBytes x y < 0) ↔ Op.bytesLess x y = true := by
  induction x generalizing y with
  | nil => cases y <;> simp [Lib.compareBytes, Op.bytesLess]
  | cons a x ih =>
    cases y with
    | nil => simp [Lib.compareBytes, Op.bytesLess]
    | cons b y =>
      simp only [Lib.compareBytes, Op.bytesLess]
      by_cases h : a < b
      · simp [h]
      · by_cases h2 : b < a
        · have hne : (a == b) = false := by rw [beq_eq_false_iff_ne]; intro e; subst e; exact absurd h2 (UInt8.lt_irrefl _)
          simp [h, h2, hne]
        · have he : a = b := UInt8.le_antisymm (UInt8.not_lt.1 h2) (UInt8.not_lt.1 h)
          subst he
          simp [h, ih]
theorem cmp_zero {x y : List UInt8} : (Lib.compareBytes x y = 0) ↔ x = y := by
  induction x generalizing y with
  | nil => cases y <;> simp [Lib.compareBytes]
  | cons a x ih =>
    cases y with
    | nil => simp [Lib.compareBytes]
    | cons b y =>
      simp only [Lib.compareBytes]
      by_cases h : a < b
      · have hne : ¬ a = b := by intro e; subst e; exact absurd h (UInt8.lt_irrefl _)
        simp [h, hne]
      · by_cases h2 : b < a
        · have hne : ¬ a = b := by intro e; subst e; exact absurd h2 (UInt8.lt_irrefl _)
          simp [h, h2, hne]
        · have he : a = b := UInt8.le_antisymm (UInt8.not_lt.1 h2) (UInt8.not_lt.1 h)
          subst he
          simp [h, ih]
theorem cmp_rng (x y : List UInt8) : -1 ≤ Lib.compareBytes x y ∧ Lib.compareBytes x y ≤ 1 := by
  induction x generalizing y with
  | nil => cases y <;> simp [Lib.compareBytes]
  | cons a x ih =>
    cases y with
    | nil => simp [Lib.compareBytes]
    | cons b y =>
      simp only [Lib.compareBytes]
      by_cases h : a < b
      · simp [h]
      · by_cases h2 : b < a
        · simp [h, h2]
        · simp [h, h2, ih]
/-- What lies below a name, the name's own field, what lies above it. -/
structure Split (n : ByteArray) (l A M B : List Fd) : Prop where
  e : l = A ++ M ++ B
  a : ∀ f ∈ A, lt f.1 n = true
  m : ∀ f ∈ M, f.1 = n
  ml : M.length ≤ 1
  b : ∀ f ∈ B, lt n f.1 = true
/-- Fields whose names rise. -/
def Up (l : List Fd) : Prop := l.Pairwise fun f g => lt f.1 g.1 = true
theorem split_of (n : ByteArray) : ∀ {l : List Fd}, Up l → ∃ A M B, Split n l A M B
  | [], _ => ⟨[], [], [], rfl, by simp, by simp, by simp, by simp⟩
  | f :: r, h => by
    have h1 := List.pairwise_cons.1 h
    cases hf : lt f.1 n with
    | true =>
      obtain ⟨A, M, B, e, a, m, ml, b⟩ := split_of n h1.2
      refine ⟨f :: A, M, B, by rw [e]; rfl, fun g hg => ?_, m, ml, b⟩
      rcases List.mem_cons.1 hg with rfl | hg
      · exact hf
      · exact a g hg
    | false =>
      cases hg : lt n f.1 with
      | true =>
        refine ⟨[], [], f :: r, rfl, by simp, by simp, by simp, fun g hg2 => ?_⟩
        rcases List.mem_cons.1 hg2 with rfl | hg2
        · exact hg
        · exact lt_trans hg (h1.1 g hg2)
      | false =>
        have e := lt_total hf hg
        refine ⟨[], [f], r, rfl, by simp, by simp [e], by simp, fun g hg2 => ?_⟩
        rw [← e]
        exact h1.1 g hg2
theorem Split.len {n : ByteArray} {l A M B : List Fd} (h : Split n l A M B) : l.length = A.length + M.length + B.length := by rw [h.e]; simp only [List.length_append]
theorem Split.up {n t : ByteArray} {l A M B : List Fd} (h : Split n l A M B) (hl : Up l) : Up (A ++ (n, t) :: B) := by
  have e := h.e
  subst e
  unfold Up at hl ⊢
  rw [List.pairwise_append] at hl ⊢
  obtain ⟨h1, h2, h3⟩ := hl
  rw [List.pairwise_append] at h1
  refine ⟨h1.1, List.pairwise_cons.2 ⟨fun g hg => h.b g hg, h2⟩, fun f hf g hg => ?_⟩
  rcases List.mem_cons.1 hg with rfl | hg
  · exact h.a f hf
  · exact lt_trans (h.a f hf) (h.b g hg)
theorem Split.up0 {n : ByteArray} {l A M B : List Fd} (h : Split n l A M B) (hl : Up l) : Up (A ++ B) := by
  have e := h.e
  subst e
  unfold Up at hl ⊢
  rw [List.pairwise_append] at hl ⊢
  obtain ⟨h1, h2, h3⟩ := hl
  rw [List.pairwise_append] at h1
  exact ⟨h1.1, h2, fun f hf g hg => h3 f (List.mem_append.2 (.inl hf)) g hg⟩
/-- Of a part that is put, the name's own field. -/
theorem Split.put {n t : ByteArray} {l A M B : List Fd} (h : Split n l A M B) : Split n (A ++ [(n, t)] ++ B) A [(n, t)] B := ⟨rfl, h.a, by simp, by simp, h.b⟩
theorem Split.drop {n : ByteArray} {l A M B : List Fd} (h : Split n l A M B) : Split n (A ++ B) A [] B := ⟨by simp, h.a, by simp, by simp, h.b⟩
/-- The text of the name's own field. -/
def txt (M : List Fd) : ByteArray := (M.head?.map (·.2)).getD ⟨#[]⟩
def there (M : List Fd) : Bool := !M.isEmpty
theorem M_cases {n : ByteArray} {l A M B : List Fd} (h : Split n l A M B) : M = [] ∨ ∃ t, M = [(n, t)] := by
  have hm := h.m
  have hl := h.ml
  match M, hm, hl with
  | [], _, _ => exact .inl rfl
  | [f], hm, _ =>
    have e := hm f (List.mem_singleton.2 rfl)
    exact .inr ⟨f.2, by rw [← e]⟩
  | _ :: _ :: _, _, hl => simp at hl
/-- Where a field stands: below the name, at it, or above it. -/
theorem Split.at_a {n : ByteArray} {l A M B : List Fd} (h : Split n l A M B) {i : Nat} (hi : i < l.length) (ha : i < A.length) : lt l[i].1 n = true := by
  have e : l[i] = A[i] := by
    have h1 : l[i]? = A[i]? := by rw [h.e, List.append_assoc, List.getElem?_append_left ha]
    rw [List.getElem?_eq_getElem hi, List.getElem?_eq_getElem ha] at h1
    exact Option.some.inj h1
  rw [e]
  exact h.a _ (List.getElem_mem ha)
theorem Split.at_m {n : ByteArray} {l A M B : List Fd} (h : Split n l A M B) {i : Nat} (hi : i < l.length) (ha : i = A.length) (hm : 0 < M.length) : l[i] = (n, txt M) := by
  subst ha
  rcases M_cases h with rfl | ⟨t, rfl⟩
  · simp at hm
  · have h1 : l[A.length]? = some (n, t) := by rw [h.e]; simp
    rw [List.getElem?_eq_getElem hi] at h1
    exact Option.some.inj h1
theorem Split.at_b {n : ByteArray} {l A M B : List Fd} (h : Split n l A M B) {i : Nat} (hi : i < l.length) (hb : A.length + M.length ≤ i) : lt n l[i].1 = true := by
  have hl := h.len
  have h2 : i - (A.length + M.length) < B.length := by omega
  have e : l[i] = B[i - (A.length + M.length)] := by
    have h1 : l[i]? = B[i - (A.length + M.length)]? := by rw [h.e, List.getElem?_append_right (by simpa using hb), List.length_append]
    rw [List.getElem?_eq_getElem hi, List.getElem?_eq_getElem h2] at h1
    exact Option.some.inj h1
  rw [e]
  exact h.b _ (List.getElem_mem h2)
end Go.Proofs.YtmjlhmohglbecaaGreatDoor.Ia
/- Fields as they lie; rows of fields that grow; parts behind parts (Grow, Concat at fields). No condition but bounds. -/
namespace Go.Proofs.YtmjlhmohglbecaaGreatDoor.Ia
open Go.ChangeShapes Go.WideShapes Go.ChangeAt Go.RowKit
theorem bstep {a b c : World} (h : Below a.heap.size a b) (k : Below b.heap.size b c) : Below a.heap.size a c := h.trans (k.mono h.size)
theorem bbox {w : World} (o : Obj) : Below w.heap.size w (w.alloc o) := (Below.refl _ _).alloc (Nat.le_refl _) o
/-- The fields l lie at a. -/
def InF (w : World) (a : Option Addr) (l : List Fd) : Prop := 0 < l.length → ∃ b o, a = some ⟨b, o, none⟩ ∧ b < w.heap.size ∧ ∀ i (h : i < l.length), w.cell? ⟨b, o + i * 2, none⟩ = some (.string l[i].1) ∧ w.cell? ⟨b, o + i * 2 + 1, none⟩ = some (.string l[i].2)
theorem InF.below {B : Nat} {w w' : World} {a : Option Addr} {l : List Fd} (h : InF w a l) (hB : w.heap.size ≤ B) (hb : Below B w w') : InF w' a l := fun hp => by
  obtain ⟨b, o, rfl, hlt, hc⟩ := h hp
  refine ⟨b, o, rfl, Nat.lt_of_lt_of_le hlt hb.size, fun i hi => ?_⟩
  have e : ∀ j, w'.cell? ⟨b, j, none⟩ = w.cell? ⟨b, j, none⟩ := fun j => hb.cell (p := ⟨b, j, none⟩) (Nat.lt_of_lt_of_le hlt hB)
  rw [e, e]
  exact hc i hi
theorem InF.nil (w : World) (a : Option Addr) : InF w a [] := fun h => absurd h (Nat.lt_irrefl _)
def cellsF (l : List Fd) : List Value := l.flatMap fun m => [.string m.1, .string m.2]
theorem cellsF_len (l : List Fd) : (cellsF l).length = l.length * 2 := by
  induction l with
  | nil => rfl
  | cons m l ih => simp only [cellsF, List.flatMap_cons, List.length_append, List.length_cons, List.length_nil] at ih ⊢; omega
theorem cellsF_app (l r : List Fd) : cellsF (l ++ r) = cellsF l ++ cellsF r := by simp [cellsF]
theorem cellsF_at (l : List Fd) : ∀ i (hi : i < l.length), (cellsF l)[i * 2]? = some (.string l[i].1) ∧ (cellsF l)[i * 2 + 1]? = some (.string l[i].2) := by
  induction l with
  | nil => intro i hi; simp at hi
  | cons m l ih =>
    intro i hi
    cases i with
    | zero => exact ⟨rfl, rfl⟩
    | succ i =>
      have h := ih i (by simpa using hi)
      have e1 : (i + 1) * 2 = i * 2 + 2 := by omega
      have e2 : (i + 1) * 2 + 1 = i * 2 + 1 + 2 := by omega
      rw [e1, show i * 2 + 2 + 1 = i * 2 + 1 + 2 by omega]
      exact h
theorem cellsF_one (l : List Fd) : ∀ u ∈ cellsF l, u.oneCell' = true := by
  intro u hu
  unfold cellsF at hu
  obtain ⟨m, -, hm⟩ := List.mem_flatMap.1 hu
  simp only [List.mem_cons, List.not_mem_nil, or_false] at hm
  rcases hm with rfl | rfl <;> rfl
/-- The cells of fields that lie somewhere, one by one. -/
theorem InF.news {w : World} {a : Option Addr} {l : List Fd} (h : InF w a l) (hp : 0 < l.length) : ∃ ad, a = some ad ∧ ∀ j u, (cellsF l)[j]? = some u → w.cell? (ad.add j) = some u := by
  obtain ⟨b, o, rfl, -, hc⟩ := h hp
  refine ⟨_, rfl, fun j u hj => ?_⟩
  rw [Addr.add_lit]
  have hjl : j < l.length * 2 := by
    have h0 := (List.getElem?_eq_some_iff.1 hj).1
    rwa [cellsF_len] at h0
  have hi : j / 2 < l.length := by omega
  obtain ⟨c0, c1⟩ := hc (j / 2) hi
  obtain ⟨d0, d1⟩ := cellsF_at l (j / 2) hi
  rcases Nat.mod_two_eq_zero_or_one j with e | e
  · have e2 : j / 2 * 2 = j := by omega
    rw [e2] at c0 d0
    rw [c0]
    exact d0.symm.trans hj
  · have e2 : j / 2 * 2 + 1 = j := by omega
    rw [e2] at d1
    have e3 : o + j / 2 * 2 + 1 = o + j := by omega
    rw [e3] at c1
    rw [c1]
    exact d1.symm.trans hj
theorem iFd : (Tryz.prog.info? 69).map (fun i => (i.zero, i.size, i.bytes)) = some (some (.agg #[.string ⟨#[]⟩, .string ⟨#[]⟩]), 2, 32) := by kernel_rfl
/-- The fields l in a row v of the call's own, made behind the world wb; of wb all stands. -/
structure RowF (wb w : World) (v : Value) (l : List Fd) : Prop where
  row : w.ownsRow wb.heap.size 69 2 v l.length (cellsF l)
  bel : Below wb.heap.size wb w
theorem grow_of0 {w w' : World} (hb : Below w.heap.size w w') : w.grownBy w' none := ⟨hb.os, hb.tape, hb.output, hb.size, fun k hk _ => hb.block k hk⟩
theorem RowF.below {wb w w' : World} {v : Value} {l : List Fd} (h : RowF wb w v l) (hb : Below w.heap.size w w') : RowF wb w' v l :=
  ⟨h.row.kept (grow_of0 hb) (by cases hv : v.ownBlock <;> simp), h.bel.trans (hb.mono h.bel.size)⟩
theorem rowF_nil (wb w : World) (hb : Below wb.heap.size wb w) : RowF wb w (.slice none 0 0) [] := ⟨World.ownsRow_nil _ _ _ _, hb⟩
theorem RowF.slice {wb w : World} {v : Value} {l : List Fd} (h : RowF wb w v l) : ∃ a c, v = .slice a l.length c ∧ l.length ≤ c ∧ c ≤ 9223372036854775807 ∧ InF w a l := by
  rcases h.row.2 with ⟨rfl, hn⟩ | ⟨g, cap, cur, rfl, hg, hh, h1, h2, h3, h4⟩
  · exact ⟨none, 0, by rw [hn], by omega, Nat.zero_le _, fun hp => absurd hp (by omega)⟩
  · refine ⟨some ⟨g, 0, none⟩, cap, rfl, h1, by unfold maxLen at h2; omega, fun _ => ⟨g, 0, rfl, (Array.getElem?_eq_some_iff.1 hh).1, fun i hi => ?_⟩⟩
    rw [Nat.zero_add]
    constructor
    · have e1 : (cur.toList.take (l.length * 2))[i * 2]? = cur.toList[i * 2]? := List.getElem?_take_of_lt (by omega)
      rw [h4, (cellsF_at l i hi).1] at e1
      simp only [World.cell?, hh]
      simpa using e1.symm
    · have e1 : (cur.toList.take (l.length * 2))[i * 2 + 1]? = cur.toList[i * 2 + 1]? := List.getElem?_take_of_lt (by omega)
      rw [h4, (cellsF_at l i hi).2] at e1
      simp only [World.cell?, hh]
      simpa using e1.symm
/-- Fields that lie somewhere, appended to a row; nothing, too. -/
theorem fields_push {wb w : World} {v : Value} {l : List Fd} {ops : Array Oper} {rest : List Oper} {o : Oper} {a : Act} {Q : Exit → Act → World → Prop} (hO : RowF wb w v l) (hgd : o.guard = none) (s x : Operand)
    (ho : o.op = .call { callee := .builtin .append, args := #[s, x], argTypes := #[29, 29] }) (hs : a.eval s = v) (r : List Fd) (c : Nat)
    {xa : Option Addr} {n : Nat} (hx : a.eval x = .slice xa n c) (hn : n = r.length) (hI : InF w xa r) (hl : l.length ≤ 1000000000) (hr : r.length ≤ 1000000000)
    (h : ∀ v' w', RowF wb w' v' (l ++ r) → w.grownBy w' v.ownBlock → wpList Tryz.prog ops Q rest (a.put o.dst v') w') : wpList Tryz.prog ops Q (o :: rest) a w := by
  obtain ⟨i0, hi, hz0, hz1, hz2⟩ := info_parts iFd
  subst hn
  by_cases hp : 0 < r.length
  · obtain ⟨ad, rfl, hnews⟩ := hI.news hp
    refine wpList_append_own _ hgd s x 29 ho wb.heap.size 69 i0 (.agg #[.string ⟨#[]⟩, .string ⟨#[]⟩]) 2 32 Tryz.underlying29 hi hz0 hz1 hz2 rfl (by decide) v l.length (cellsF l) hs hO.row ad r.length c (cellsF r) hx (cellsF_len r) hnews (cellsF_one r) (by unfold maxLen; omega) (by omega) hO.bel.size ?_
    intro v' w' hr2 hg _
    refine h v' w' ⟨?_, hO.bel.grown hg hO.bel.size (fun k hk => (hO.row.lt k hk).1)⟩ hg
    rw [List.length_append, cellsF_app]
    exact hr2
  · obtain rfl : r = [] := List.eq_nil_of_length_eq_zero (by omega)
    have ht : Tryz.prog.underlying 29 = some (.slice 69) := Tryz.underlying29
    obtain ⟨sa, sc, rfl, hsc, -, -⟩ := hO.slice
    have hsn : sa = none → sc = 0 := by
      rintro rfl
      rcases hO.row.2 with ⟨e, -⟩ | ⟨g, cap, cur, e, -⟩
      · injection e
      · cases e
    refine wpList_plain hgd fun K hK => ?_
    have hrun : (Builtin.append_ #[29, 29] o.type #[.slice sa l.length sc, .slice xa 0 c]).run Tryz.prog w = .ok (.slice sa l.length sc) w := by
      cases sa with
      | none =>
        obtain rfl : sc = 0 := hsn rfl
        have hl0 : l.length = 0 := by omega
        rw [hl0]
        cases xa <;> simp [Builtin.append_, run_underlying ht, sizeOf, typeInfo, hi, Builtin.lenOf, Builtin.firstCells, loadCells, loadCellsFrom]
      | some sa =>
        cases xa <;> simp [Builtin.append_, run_underlying ht, sizeOf, typeInfo, hi, Builtin.lenOf, Builtin.firstCells, loadCells, loadCellsFrom, hsc, storeCells]
    unfold Oper.wp
    simp [execOp, ho, resolve, invoke, builtin, hs, hx, hrun, Result.andThen]
    refine hK _ _ (h _ w (by rw [List.append_nil]; exact hO) ⟨rfl, rfl, rfl, Nat.le_refl _, fun _ _ _ => rfl⟩)
/-- One field in a new box, appended to a row. -/
theorem field_push {wb w : World} {v : Value} {l : List Fd} {ops : Array Oper} {rest : List Oper} {o : Oper} {a : Act} {Q : Exit → Act → World → Prop} (hO : RowF wb w v l) (hgd : o.guard = none) (s x : Operand)
    (ho : o.op = .call { callee := .builtin .append, args := #[s, x], argTypes := #[29, 29] }) (hs : a.eval s = v) (m : Fd) (arr : Array Value) (Te : TypeId) (c : Nat)
    {b : Nat} (hx : a.eval x = .slice (some ⟨b, 0, none⟩) 1 c) (hb : b = w.heap.size) (harr : arr = #[.string m.1, .string m.2]) (hl : l.length ≤ 1000000000)
    (h : ∀ v' w', RowF wb w' v' (l ++ [m]) → (w.alloc (.cells arr Te)).grownBy w' v.ownBlock → wpList Tryz.prog ops Q rest (a.put o.dst v') w') : wpList Tryz.prog ops Q (o :: rest) a (w.alloc (.cells arr Te)) := by
  subst harr
  subst hb
  refine fields_push (hO.below (bbox _)) hgd s x ho hs [m] c hx rfl (fun _ => ⟨_, 0, rfl, by simp, fun i hi => ?_⟩) hl (by simp) h
  obtain rfl : i = 0 := by simpa using hi
  refine ⟨?_, ?_⟩ <;> rw [World.cell?_alloc_new] <;> rfl
/-- A row that lies in a world, from its cells. -/
theorem InF.of_cells {w : World} {b o : Nat} {l : List Fd} (hb : b < w.heap.size) (h : ∀ i (h : i < l.length), w.cell? ⟨b, o + i * 2, none⟩ = some (.string l[i].1) ∧ w.cell? ⟨b, o + i * 2 + 1, none⟩ = some (.string l[i].2)) : InF w (some ⟨b, o, none⟩) l := fun _ => ⟨b, o, rfl, hb, h⟩
theorem zeros_ok (n c : Nat) (h : n ≤ c) : ((Builtin.zeroCells (Value.agg #[.string ⟨#[]⟩, .string ⟨#[]⟩]).cells n) ++ (Builtin.zeroCells (Value.agg #[.string ⟨#[]⟩, .string ⟨#[]⟩]).cells (c - n))).size = c * 2 := by
  rw [Array.size_append, size_zeroCells, size_zeroCells]
  have : (Value.agg #[.string ⟨#[]⟩, .string ⟨#[]⟩]).cells.size = 2 := rfl
  rw [this]
  omega
set_option maxHeartbeats 4000000 in
set_option maxRecDepth 100000 in
theorem grow_calls (w : World) (n : Nat) (hn : n ≤ 1000000) :
    Calls Tryz.prog 104 #[.slice none 0 0, .int .i64 n] w fun e w' => ∃ v, e = .returned v ∧ RowF w w' v [] := by
  obtain ⟨i0, hi, hz0, hz1, hz2⟩ := info_parts iFd
  go_enter Tryz.func104, Tryz.ntmps104
  by_cases h0 : n = 0
  · subst h0
    go_wp2_with fail
    go_ret
    exact ⟨_, rfl, rowF_nil w w (Below.refl _ _)⟩
  · have hpos : 0 < n := by omega
    have hposc : (0 : Int) < (n : Int) := by omega
    have happ := fun ty => Lib.run_append_nil_zeros (P := Tryz.prog) w 29 3 ty 69 i0 (.agg #[.string ⟨#[]⟩, .string ⟨#[]⟩]) .i64 .i64 Tryz.underlying29 Tryz.underlying3 hi hz0 n hpos (by omega) (by omega) (by rw [hz2]; omega)
    have HC : Hid (n ≤ grownCap w n 0 69 ∧ grownCap w n 0 69 ≤ maxLen) := Lib.hid ⟨grownCap_ge _ _ _ _, grownCap_le_maxLen _ _ _ _ (by unfold maxLen; omega)⟩
    clear hi hz0 hz1 hz2
    generalize grownCap w n 0 69 = c at *
    have hc1 := HC.out.1
    have hc2 : c ≤ 9223372036854775807 := by have := HC.out.2; unfold maxLen at this; omega
    go_wp2_with (at_builtin; refine Lib.wpList_append_run _ rfl _ _ _ _ rfl _ _ rfl rfl _ _ (happ _) ?_)
    go_ret
    refine ⟨_, rfl, ⟨by simp [cellsF], .inr ⟨w.heap.size, c, _, rfl, Nat.le_refl _, heap_alloc_new w.drew _, Nat.zero_le _, HC.out.2, zeros_ok n c hc1, by simp [cellsF]⟩⟩, ?_⟩
    exact (Below.refl _ _).drew.alloc (Nat.le_refl _) _
end Go.Proofs.YtmjlhmohglbecaaGreatDoor.Ia
/- Parts of fields behind parts: slices.Concat at fields; item.hashItem, item.Copy, item.textItem. No condition but bounds. -/
namespace Go.Proofs.YtmjlhmohglbecaaGreatDoor.Ia
open Go.ChangeShapes Go.WideShapes Go.ChangeAt Go.RowKit
/-- A part: where it lies, its capacity, its fields. -/
abbrev Pt : Type := Option Addr × Nat × List Fd
def sumP (p : List Pt) : Nat := (p.map fun q => q.2.2.length).sum
def allP (p : List Pt) : List Fd := p.flatMap fun q => q.2.2
theorem sumP_take {p : List Pt} {j : Nat} (hj : j < p.length) : sumP (p.take (j + 1)) = sumP (p.take j) + p[j].2.2.length := by
  unfold sumP
  rw [← List.take_append_getElem hj, List.map_append, List.sum_append]
  simp
theorem allP_take {p : List Pt} {j : Nat} (hj : j < p.length) : allP (p.take (j + 1)) = allP (p.take j) ++ p[j].2.2 := by
  unfold allP
  rw [← List.take_append_getElem hj, List.flatMap_append]
  simp
theorem allP_len (p : List Pt) : (allP p).length = sumP p := by
  unfold allP sumP
  rw [List.length_flatMap]
theorem sumP_le (p : List Pt) (j : Nat) : sumP (p.take j) ≤ sumP p := by
  have h : sumP p = sumP (p.take j) + sumP (p.drop j) := by
    conv => lhs; rw [← List.take_append_drop j p]
    unfold sumP
    rw [List.map_append, List.sum_append]
  omega
/-- The parts p lie in block B. -/
def InP (w : World) (B : Nat) (p : List Pt) : Prop := B < w.heap.size ∧ ∀ i (h : i < p.length), w.cell? ⟨B, i, none⟩ = some (.slice p[i].1 p[i].2.2.length p[i].2.1) ∧ InF w p[i].1 p[i].2.2
theorem InP.below {w w' : World} {B : Nat} {p : List Pt} (h : InP w B p) (hb : Below w.heap.size w w') : InP w' B p :=
  ⟨Nat.lt_of_lt_of_le h.1 hb.size, fun i hi => ⟨(hb.cell (p := ⟨B, i, none⟩) h.1).trans (h.2 i hi).1, (h.2 i hi).2.below (Nat.le_refl _) hb⟩⟩
set_option maxHeartbeats 4000000 in
set_option maxRecDepth 100000 in
theorem concat_calls (w : World) (B c n : Nat) (p : List Pt) (hn : n = p.length) (hI : InP w B p) (hs : sumP p ≤ 1000000) (hp : p.length ≤ 1000) :
    Calls Tryz.prog 72 #[.slice (some ⟨B, 0, none⟩) n c] w fun e w' => ∃ v, e = .returned v ∧ RowF w w' v (allP p) := by
  subst hn
  have HI := Lib.hid hI
  have HS := Lib.hid hs
  clear hI hs
  go_enter Tryz.func72, Tryz.ntmps72
  go_wp2_with fail
  go_loopg [3, 5, 11] (p.length + 1) (fun g sv _ vi wr => ∃ j : Nat, vi = .int .i64 j ∧ j ≤ p.length ∧ p.length - j ≤ g ∧ sv = .int .i64 (sumP (p.take j) : Nat) ∧ wr = w)
  case atStart => exact ⟨0, rfl, by omega, by omega, rfl, rfl⟩
  case round =>
    obtain ⟨j, rfl, hj, hg, rfl, rfl⟩ := hrel
    by_cases hjl : j < p.length
    case pos =>
      have hjc : (j : Int) < (p.length : Int) := by omega
      obtain ⟨c0, -⟩ := HI.out.2 j hjl
      have HT := Lib.hid (sumP_take hjl)
      have HL := Lib.hid (sumP_le p j)
      have HL2 := Lib.hid (sumP_le p (j + 1))
      have h1 : sumP (p.take j) + p[j].2.2.length ≤ 1000000 := by have := HT.out; have := HL2.out; have := HS.out; omega
      generalize sumP (p.take j) = s0 at *
      generalize p[j] = q at *
      obtain ⟨qa, qc, ql⟩ := q
      have c0 : wr.cell? ⟨B, j, none⟩ = some (.slice qa ql.length qc) := c0
      have h1 : s0 + ql.length ≤ 1000000 := h1
      have HT : Hid (sumP (p.take (j + 1)) = s0 + ql.length) := HT
      go_wp2_with fail
      go_roundg (gk - 1)
      case measure => omega
      case rel => exact ⟨j + 1, by go_num, by omega, by omega, by rw [HT.out]; go_num, rfl⟩
    case neg =>
      have hjc : ¬ ((j : Int) < (p.length : Int)) := by omega
      obtain rfl : j = p.length := by omega
      rw [List.take_length]
      have hs1 := HS.out
      have HAL := Lib.hid (allP_len p)
      generalize sumP p = s0 at *
      go_wp2_with fail
      refine (grow_calls _ s0 (by omega)).mono ?_
      rintro e w2 ⟨v2, rfl, hR2⟩
      have HR2 := Lib.hid hR2
      clear hR2
      go_wp2_with fail
      go_loopg [6, 8, 27] (p.length + 1) (fun g v _ vi w3 => ∃ j : Nat, vi = .int .i64 j ∧ j ≤ p.length ∧ p.length - j ≤ g ∧ Hid (RowF wr w3 v (allP (p.take j))))
      case atStart => exact ⟨0, rfl, by omega, by omega, HR2⟩
      case round =>
        obtain ⟨j, rfl, hj, hg, HR⟩ := hrel
        by_cases hjl : j < p.length
        case pos =>
          have hjc : (j : Int) < (p.length : Int) := by omega
          obtain ⟨c0, hF⟩ := (HI.out.below HR.out.bel).2 j hjl
          have HF := Lib.hid hF
          have HT := Lib.hid (allP_take hjl)
          have HLE : Hid ((allP (p.take j)).length ≤ 1000000 ∧ p[j].2.2.length ≤ 1000000) := Lib.hid (by
            have h1 := allP_len (p.take j)
            have h2 := sumP_le p j
            have h3 := sumP_take hjl
            have h4 := sumP_le p (j + 1)
            have h5 := allP_len p
            have h6 := HAL.out
            omega)
          clear hF
          generalize allP (p.take j) = s0 at *
          generalize p[j] = q at *
          obtain ⟨qa, qc, ql⟩ := q
          have c0 := c0
          have HF : Hid (InF _ qa ql) := HF
          have HT : Hid (allP (p.take (j + 1)) = s0 ++ ql) := HT
          have hle1 := HLE.out.1
          have hle2 : ql.length ≤ 1000000 := HLE.out.2
          go_wp2_with (at_builtin; refine fields_push HR.out rfl _ _ rfl rfl ql qc rfl rfl HF.out (by omega) (by omega) ?_)
          intro v4 w4 hR4 _
          have HR4 := Lib.hid hR4
          rw [← HT.out] at HR4
          clear hR4
          go_wp2_with fail
          go_roundg (gk - 1)
          case measure => omega
          case rel => exact ⟨j + 1, by go_num, by omega, by omega, HR4⟩
        case neg =>
          have hjc : ¬ ((j : Int) < (p.length : Int)) := by omega
          obtain rfl : j = p.length := by omega
          rw [List.take_length] at HR
          go_wp2_with fail
          go_ret
          exact ⟨_, rfl, HR.out⟩
end Go.Proofs.YtmjlhmohglbecaaGreatDoor.Ia
/- item.Copy, hashItem, textItem, textOf, fits: at any item. No condition but bounds. -/
namespace Go.Proofs.YtmjlhmohglbecaaGreatDoor.Ia
open Go.ChangeShapes Go.WideShapes Go.ChangeAt Go.RowKit
/-- An item's three cells in a block of the call's own. -/
structure Cell3 (w : World) (b : Nat) (v0 v1 v2 : Value) : Prop where
  lt : b < w.heap.size
  c0 : w.cell? ⟨b, 0, none⟩ = some v0
  c1 : w.cell? ⟨b, 1, none⟩ = some v1
  c2 : w.cell? ⟨b, 2, none⟩ = some v2
  f : ∀ i, i < 3 → w.frozen? ⟨b, i, none⟩ = false
theorem Cell3.below {W w : World} {b : Nat} {v0 v1 v2 : Value} (h : Cell3 W b v0 v1 v2) (hb : Below W.heap.size W w) : Cell3 w b v0 v1 v2 :=
  ⟨Nat.lt_of_lt_of_le h.lt hb.size, (hb.cell (p := ⟨b, 0, none⟩) h.lt).trans h.c0, (hb.cell (p := ⟨b, 1, none⟩) h.lt).trans h.c1, (hb.cell (p := ⟨b, 2, none⟩) h.lt).trans h.c2, fun i hi => (hb.frozen (p := ⟨b, i, none⟩) h.lt).trans (h.f i hi)⟩
theorem Cell3.alloc {W : World} {b : Nat} {v0 v1 v2 : Value} (h : Cell3 W b v0 v1 v2) (o : Obj) : Cell3 (W.alloc o) b v0 v1 v2 := h.below (bbox o)
theorem Cell3.new (w : World) (v0 v1 v2 : Value) (T : TypeId) : Cell3 (w.alloc (.cells #[v0, v1, v2] T)) w.heap.size v0 v1 v2 := by
  refine ⟨by simp, ?_, ?_, ?_, fun i hi => ?_⟩
  · rw [World.cell?_alloc_new]; rfl
  · rw [World.cell?_alloc_new]; rfl
  · rw [World.cell?_alloc_new]; rfl
  · go_simp
theorem Cell3.new2 (w : World) (b : Nat) (hb : w.heap.size = b) (v0 v1 v2 : Value) (T : TypeId) : Cell3 (w.alloc (.cells #[v0, v1, v2] T)) b v0 v1 v2 := by subst hb; exact Cell3.new w v0 v1 v2 T
/-- An item as a value. -/
def ItV (w : World) (v : Value) (i : It) : Prop := ∃ a c, v = .agg #[.int .i64 i.k, .string i.t, .slice a i.l.length c] ∧ i.l.length ≤ c ∧ c ≤ 9223372036854775807 ∧ InF w a i.l
theorem ItV.below {w w' : World} {v : Value} {i : It} (h : ItV w v i) (hb : Below w.heap.size w w') : ItV w' v i := by
  obtain ⟨a, c, e, h1, h2, h3⟩ := h
  exact ⟨a, c, e, h1, h2, h3.below (Nat.le_refl _) hb⟩
theorem RowF.itv {wb w : World} {v : Value} {l : List Fd} (h : RowF wb w v l) (k : Int) (t : ByteArray) : ItV w (.agg #[.int .i64 k, .string t, v]) ⟨k, t, l⟩ := by
  obtain ⟨a, c, rfl, h1, h2, h3⟩ := h.slice
  exact ⟨a, c, rfl, h1, h2, h3⟩
theorem inP_one {w : World} {a : Option Addr} {c : Nat} {l : List Fd} (hI : InF w a l) (T : TypeId) : InP (w.alloc (.cells #[.slice a l.length c] T)) w.heap.size [(a, c, l)] := by
  refine ⟨by simp, fun i hi => ?_⟩
  obtain rfl : i = 0 := by simpa using hi
  refine ⟨by rw [World.cell?_alloc_new]; rfl, hI.below (Nat.le_refl _) (bbox _)⟩
theorem own_set {w : World} {B sz n b : Nat} {e : TypeId} {v : Value} {xs : List Value} (h : w.ownsRow B e sz v n xs) (hb : b < B) (i : Nat) (u : Value) : (w.setCell ⟨b, i, none⟩ u).ownsRow B e sz v n xs :=
  h.kept (row := some b) ⟨rfl, rfl, rfl, by simp [World.setCell], fun k _ hk => Below.heap_setCell _ _ _ _ (fun e => hk (by rw [e]))⟩ (.inr fun e => by have := (h.lt _ e).1; omega)
theorem own_lower {w : World} {B B' sz n : Nat} {e : TypeId} {v : Value} {xs : List Value} (h : w.ownsRow B e sz v n xs) (hb : B' ≤ B) : w.ownsRow B' e sz v n xs := by
  refine ⟨h.1, ?_⟩
  rcases h.2 with h | ⟨g, cap, cur, h1, h2, h3⟩
  · exact Or.inl h
  · exact Or.inr ⟨g, cap, cur, h1, Nat.le_trans hb h2, h3⟩
theorem RowF.over {wa wb w : World} {v : Value} {l : List Fd} (h : RowF wb w v l) (hb : Below wa.heap.size wa wb) : RowF wa w v l := ⟨own_lower h.row hb.size, hb.trans (h.bel.mono hb.size)⟩
/-- The row lies from block B on; of wa all stands. -/
def RowB (B : Nat) (wa w : World) (v : Value) (l : List Fd) : Prop := w.ownsRow B 69 2 v l.length (cellsF l) ∧ Below wa.heap.size wa w
theorem RowF.toB {wa wb w : World} {v : Value} {l : List Fd} (h : RowF wb w v l) (hb : Below wa.heap.size wa wb) : RowB wb.heap.size wa w v l := ⟨h.row, (h.over hb).bel⟩
theorem RowB.set {B : Nat} {wa w : World} {v : Value} {l : List Fd} (h : RowB B wa w v l) {b : Nat} (h1 : wa.heap.size ≤ b) (h2 : b < B) (i : Nat) (u : Value) : RowB B wa (w.setCell ⟨b, i, none⟩ u) v l :=
  ⟨own_set h.1 h2 i u, h.2.setCell (p := ⟨b, i, none⟩) h1 u⟩
theorem RowB.toF {B : Nat} {wa w : World} {v : Value} {l : List Fd} (h : RowB B wa w v l) (hB : wa.heap.size ≤ B) : RowF wa w v l := ⟨own_lower h.1 hB, h.2⟩
theorem RowF.sets3 {wa wb w : World} {v : Value} {l : List Fd} (h : RowF wb w v l) {b : Nat} (h1 : wa.heap.size ≤ b) (h2 : b < wb.heap.size) (hb : Below wa.heap.size wa wb) (x y z : Value) :
    RowF wa (((w.setCell ⟨b, 0, none⟩ x).setCell ⟨b, 1, none⟩ y).setCell ⟨b, 2, none⟩ z) v l :=
  ((((h.toB hb).set h1 h2 _ _).set h1 h2 _ _).set h1 h2 _ _).toF hb.size
set_option maxHeartbeats 4000000 in
theorem ifits_calls (w : World) (n t : ByteArray) (b : Bool) (hb : decide (n.size ≤ 512 ∧ t.size ≤ 4096) = b) :
    Calls Tryz.prog 105 #[.string n, .string t] w fun e w' => e = .returned (.bool b) ∧ w = w' := by
  by_cases h1 : n.size ≤ 512
  · have h1c : (n.size : Int) ≤ 512 := by omega
    by_cases h2 : t.size ≤ 4096
    · have h2c : (t.size : Int) ≤ 4096 := by omega
      obtain rfl : b = true := by rw [← hb]; exact decide_eq_true ⟨h1, h2⟩
      clear hb
      go_enter Tryz.func105, Tryz.ntmps105
      go_wp2_with fail
      go_ret
      exact ⟨by simp, rfl⟩
    · have h2c : ¬ (t.size : Int) ≤ 4096 := by omega
      obtain rfl : b = false := by rw [← hb]; exact decide_eq_false (fun h => h2 h.2)
      clear hb
      go_enter Tryz.func105, Tryz.ntmps105
      go_wp2_with fail
      go_ret
      exact ⟨by simp, rfl⟩
  · have h1c : ¬ (n.size : Int) ≤ 512 := by omega
    obtain rfl : b = false := by rw [← hb]; exact decide_eq_false (fun h => h1 h.1)
    clear hb
    go_enter Tryz.func105, Tryz.ntmps105
    go_wp2_with fail
    go_ret
    exact ⟨by simp, rfl⟩
set_option maxHeartbeats 4000000 in
set_option maxRecDepth 100000 in
theorem copy_calls (w : World) (k : Int) (t : ByteArray) (a : Option Addr) (c n : Nat) (l : List Fd) (hn : n = l.length) (hI : InF w a l) (hl : l.length ≤ 1000000) :
    Calls Tryz.prog 46 #[.agg #[.int .i64 k, .string t, .slice a n c]] w fun e w' => ∃ v, e = .returned (.agg #[.int .i64 k, .string t, v]) ∧ RowF w w' v l := by
  subst hn
  have HP : Hid (∀ O1 O2 T, InP (((w.alloc O1).alloc O2).alloc (.cells #[.slice a l.length c] T)) (w.heap.size + 2) [(a, c, l)]) := Lib.hid (fun O1 O2 T => by
    have h := inP_one (c := c) (hI.below (Nat.le_refl _) (bstep (bbox O1) (bbox O2))) T
    simpa using h)
  clear hI
  go_enter Tryz.func46, Tryz.ntmps46
  go_wp2_with fail
  refine (concat_calls _ (w.heap.size + 2) 1 1 [(a, c, l)] rfl (HP.out _ _ _) (by simpa [sumP] using hl) (by simp)).mono ?_
  rintro e w2 ⟨v, rfl, hR⟩
  have HC := Lib.hid ((((Cell3.new w _ _ _ _).alloc _).alloc _).below hR.bel)
  have HD := Lib.hid (((Cell3.new2 (w.alloc _) (w.heap.size + 1) (by simp) _ _ _ _).alloc _).below hR.bel)
  have e : allP [(a, c, l)] = l := by simp [allP]
  rw [e] at hR
  obtain ⟨sa, sc, rfl, -, -, -⟩ := hR.slice
  have HR := Lib.hid hR
  have c0 := HC.out.c0
  have c1 := HC.out.c1
  have c2 := HC.out.c2
  have f0 := HC.out.f 0 (by omega)
  have f1 := HC.out.f 1 (by omega)
  have f2 := HC.out.f 2 (by omega)
  have d0 := HD.out.c0
  have d1 := HD.out.c1
  have d2 := HD.out.c2
  have g0 := HD.out.f 0 (by omega)
  have g1 := HD.out.f 1 (by omega)
  have g2 := HD.out.f 2 (by omega)
  clear hR e
  go_wp2_with fail
  exact bodyPost_ret (v := .agg #[.int .i64 k, .string t, .slice sa l.length sc]) (by simp [results, Tryz.results46, go_sem, d0, d1, d2]) rfl
    ⟨_, rfl, (((((HR.out.toB (bstep (bstep (bbox _) (bbox _)) (bbox _))).set (Nat.le_refl _) (by simp; omega) _ _).set (by omega) (by simp) _ _).set (by omega) (by simp) _ _).set (by omega) (by simp) _ _).toF (by simp; omega)⟩
end Go.Proofs.YtmjlhmohglbecaaGreatDoor.Ia
