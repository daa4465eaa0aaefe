/- Plain facts of layer 13, of no program: modes, prefixes in order, words. No condition. -/
import Derived.Test.YtnmncjeplfkdpaaIa1
import Derived.Lib.SlicesCompact
namespace Go.Proofs.Ytnmncjeplfkdpaa.Ma
open Go
open Go.Proofs.Ytnmncjeplfkdpaa.Ia (lt lt_iff lt_irrefl lt_trans lt_asymm lt_total ba_eq)
abbrev BA := ByteArray
/-- A mode. -/
structure Md where
  on : Bool
  bc : Bool
  oi : Bool
  oo : Bool
  nl : Bool
  rd : Int
  ps : List BA
theorem Md.ext' {a b : Md} (h0 : a.on = b.on) (h1 : a.bc = b.bc) (h2 : a.oi = b.oi) (h3 : a.oo = b.oo) (h4 : a.nl = b.nl) (h5 : a.rd = b.rd) (h6 : a.ps = b.ps) : a = b := by
  cases a; cases b; simp_all
def zero : Md := ⟨false, false, false, false, false, 0, []⟩
/-! Texts in order. -/
theorem lt_false_trans {a b c : BA} (h : lt b a = false) (k : lt c b = false) : lt c a = false := by
  cases e : lt c a with
  | false => rfl
  | true =>
    cases f : lt b c with
    | true => rw [lt_trans f e] at h; cases h
    | false =>
      have := lt_total k f
      subst this
      rw [e] at h; cases h
def ins (l : List BA) (s : BA) : List BA := l.takeWhile (fun x => !lt s x) ++ s :: l.dropWhile (fun x => !lt s x)
def srt (l : List BA) : List BA := l.foldl ins []
theorem ins_perm (l : List BA) (s : BA) : (ins l s).Perm (s :: l) := by
  unfold ins
  refine List.perm_middle.trans ?_
  rw [List.takeWhile_append_dropWhile]
theorem srt_perm' : ∀ (l o : List BA), (l.foldl ins o).Perm (o ++ l)
  | [], o => by simp
  | s :: l, o => by
    refine (srt_perm' l (ins o s)).trans ?_
    refine ((ins_perm o s).append_right l).trans ?_
    exact List.perm_middle.symm
theorem srt_perm (l : List BA) : (srt l).Perm l := by simpa [srt] using srt_perm' l []
def Srtd (l : List BA) : Prop := l.Pairwise fun x y => lt y x = false
theorem ins_srtd {l : List BA} (h : Srtd l) (s : BA) : Srtd (ins l s) := by
  induction l with
  | nil => simp [ins, Srtd]
  | cons a l ih =>
    have ha := (List.pairwise_cons.1 h).1
    have hl := (List.pairwise_cons.1 h).2
    unfold ins
    cases e : lt s a with
    | true =>
      rw [List.takeWhile_cons, List.dropWhile_cons]
      simp only [e, Bool.not_true, Bool.false_eq_true, if_false, List.nil_append]
      refine List.pairwise_cons.2 ⟨fun y hy => ?_, h⟩
      rcases List.mem_cons.1 hy with rfl | hy
      · exact lt_asymm e
      · exact lt_false_trans (lt_asymm e) (ha y hy)
    | false =>
      rw [List.takeWhile_cons, List.dropWhile_cons]
      simp only [e, Bool.not_false, if_true, List.cons_append]
      refine List.pairwise_cons.2 ⟨fun y hy => ?_, ih hl⟩
      have := (ins_perm l s).mem_iff.1 hy
      rcases List.mem_cons.1 this with rfl | hy
      · exact e
      · exact ha y hy
theorem srt_srtd' : ∀ (l o : List BA), Srtd o → Srtd (l.foldl ins o)
  | [], _, h => h
  | s :: l, _, h => srt_srtd' l _ (ins_srtd h s)
theorem srt_srtd (l : List BA) : Srtd (srt l) := srt_srtd' l [] List.Pairwise.nil
theorem srt_len (l : List BA) : (srt l).length = l.length := (srt_perm l).length_eq
theorem srt_snoc (l : List BA) (s : BA) : srt (l ++ [s]) = ins (srt l) s := by simp [srt, List.foldl_append]
theorem srtd_eq {a b : List BA} (h : a.Perm b) (ha : Srtd a) (hb : Srtd b) : a = b :=
  h.eq_of_pairwise (le := fun x y => lt y x = false) (fun _ _ _ _ h1 h2 => lt_total h2 h1) ha hb
/-- How many stand ahead of where s goes. -/
def cut (l : List BA) (s : BA) : Nat := (l.takeWhile (fun x => !lt s x)).length
theorem ins_cut (l : List BA) (s : BA) : ins l s = l.take (cut l s) ++ s :: l.drop (cut l s) := by
  have key : ∀ l : List BA, l.takeWhile (fun x => !lt s x) = l.take (cut l s) ∧ l.dropWhile (fun x => !lt s x) = l.drop (cut l s) := by
    intro l
    induction l with
    | nil => simp [cut]
    | cons a l ih =>
      unfold cut at ih ⊢
      rw [List.takeWhile_cons, List.dropWhile_cons]
      cases lt s a
      · simp only [Bool.not_false, if_true, List.length_cons, List.take_succ_cons, List.drop_succ_cons]
        exact ⟨by rw [← ih.1], ih.2⟩
      · simp
  unfold ins
  rw [(key l).1, (key l).2]
theorem cut_le (l : List BA) (s : BA) : cut l s ≤ l.length := by
  unfold cut
  exact (List.takeWhile_sublist _).length_le
theorem cut_lt (l : List BA) (s : BA) (i : Nat) (hi : i < l.length) (h : i < cut l s) : lt s l[i] = false := by
  induction l generalizing i with
  | nil => simp at hi
  | cons a l ih =>
    unfold cut at h ih
    rw [List.takeWhile_cons] at h
    cases e : lt s a with
    | true => simp [e] at h
    | false =>
      simp only [e, Bool.not_false, if_true, List.length_cons] at h
      cases i with
      | zero => simpa using e
      | succ i => simpa using ih i (by simpa using hi) (by omega)
theorem cut_at (l : List BA) (s : BA) (h : cut l s < l.length) : lt s (l[cut l s]) = true := by
  induction l with
  | nil => simp at h
  | cons a l ih =>
    cases e : lt s a with
    | true =>
      have : cut (a :: l) s = 0 := by simp [cut, e]
      simp only [this]
      simpa using e
    | false =>
      have h1 : cut (a :: l) s = cut l s + 1 := by simp [cut, e]
      simp only [h1] at h ⊢
      simpa using ih (by simpa using h)
/-! As bytes. -/
abbrev tl (x : BA) : List UInt8 := x.data.toList
abbrev mk (t : List UInt8) : BA := ⟨t.toArray⟩
theorem mk_tl (x : BA) : mk (tl x) = x := rfl
theorem tl_mk (t : List UInt8) : tl (mk t) = t := rfl
theorem tl_toList (x : BA) : x.toList = tl x := by rw [ByteArray.toList_eq]
theorem tl_inj {x y : BA} (h : tl x = tl y) : x = y := by rw [← mk_tl x, ← mk_tl y, h]
theorem le_lt {x y : List UInt8} : x ≤ y ↔ lt (mk y) (mk x) = false := by
  constructor
  · intro h
    cases e : lt (mk y) (mk x) with
    | false => rfl
    | true =>
      have := lt_iff.1 e
      rw [tl_toList, tl_toList, tl_mk, tl_mk] at this
      exact absurd this (List.not_lt.2 h)
  · intro h
    refine List.not_lt.1 fun k => ?_
    have : lt (mk y) (mk x) = true := lt_iff.2 (by rw [tl_toList, tl_toList, tl_mk, tl_mk]; exact k)
    rw [h] at this; cases this
theorem sort_srt (l : List BA) : ((l.map tl).mergeSort fun x y => decide (x ≤ y)) = (srt l).map tl := by
  have h1 : (((l.map tl).mergeSort fun x y => decide (x ≤ y)).map mk) = srt l := by
    refine srtd_eq ?_ ?_ (srt_srtd l)
    · refine ((List.mergeSort_perm _ _).map mk).trans ?_
      rw [List.map_map]
      have : (mk ∘ tl) = id := funext fun x => mk_tl x
      rw [this, List.map_id]
      exact (srt_perm l).symm
    · have h2 : ((l.map tl).mergeSort fun x y => decide (x ≤ y)).Pairwise fun x y => decide (x ≤ y) = true := by
        refine List.pairwise_mergeSort (le := fun x y => decide (x ≤ y)) ?_ ?_ _
        · intro a b c h k
          exact decide_eq_true (List.le_trans (of_decide_eq_true h) (of_decide_eq_true k))
        · intro a b
          rcases List.le_total a b with h | h
          · simp [h]
          · simp [h]
      unfold Srtd
      rw [List.pairwise_map]
      exact h2.imp fun h => le_lt.1 (of_decide_eq_true h)
  rw [← h1, List.map_map]
  have : (tl ∘ mk) = id := funext fun x => tl_mk x
  rw [this, List.map_id]
/-! Each once. -/
def cmpF (o : List BA) (p : BA) : List BA := if o.getLast? = some p then o else o ++ [p]
def cmp (l : List BA) : List BA := l.foldl cmpF []
theorem cmp_snoc (l : List BA) (p : BA) : cmp (l ++ [p]) = cmpF (cmp l) p := by simp [cmp, List.foldl_append]
theorem cmpF_last (o : List BA) (p : BA) : (cmpF o p).getLast? = some p := by
  unfold cmpF
  split
  · assumption
  · simp
theorem cmp_last (l : List BA) : (cmp l).getLast? = l.getLast? := by
  rcases List.eq_nil_or_concat l with rfl | ⟨l', p, rfl⟩
  · rfl
  · rw [List.concat_eq_append, cmp_snoc, cmpF_last]; simp
theorem cmp_take {l : List BA} {j : Nat} (hj : j < l.length) : cmp (l.take (j + 1)) = cmpF (cmp (l.take j)) l[j] := by
  rw [← List.take_append_getElem hj, cmp_snoc]
theorem cmpF_len (o : List BA) (p : BA) : (cmpF o p).length ≤ o.length + 1 := by
  unfold cmpF
  split <;> simp
theorem cmp_len (l : List BA) : (cmp l).length ≤ l.length := by
  have key : ∀ m, m ≤ l.length → (cmp (l.take m)).length ≤ m := by
    intro m
    induction m with
    | zero => intro _; simp [cmp]
    | succ m ih => intro h; rw [cmp_take (by omega)]; have := cmpF_len (cmp (l.take m)) l[m]; have := ih (by omega); omega
  have := key l.length (Nat.le_refl _)
  rwa [List.take_length] at this
theorem compact_cmp (l : List BA) : Lib.compact (l.map tl) = (cmp l).map tl := by
  have key : ∀ m, m ≤ l.length → Lib.compactUpTo (l.map tl).toArray m = (cmp (l.take m)).map tl := by
    intro m
    induction m with
    | zero => intro _; simp [cmp, Lib.compactUpTo]
    | succ m ih =>
      intro h
      rw [Lib.compactUpTo_succ, ih (by omega), cmp_take (by omega)]
      have e1 : (l.map tl).toArray[m]! = tl l[m] := by
        rw [getElem!_pos _ m (by simp; omega)]
        simp
      rw [e1]
      unfold cmpF
      rw [cmp_last]
      cases m with
      | zero =>
        rw [Lib.keeps_lt_one _ 0 (by omega)]
        simp
      | succ k =>
        have e2 : (l.map tl).toArray[k + 1 - 1]! = tl l[k] := by
          rw [getElem!_pos _ (k + 1 - 1) (by simp; omega)]
          simp
        have e3 : (l.take (k + 1)).getLast? = some l[k] := by
          rw [← List.take_append_getElem (show k < l.length by omega), List.getLast?_append]
          simp
        rw [e3]
        by_cases e : l[k] = l[k + 1]
        · rw [Lib.keeps_neg (by omega) (by rw [e1, e2, e])]
          simp [e]
        · rw [Lib.keeps_pos (by rw [e1, e2]; exact fun h => e (tl_inj h).symm)]
          simp [e]
  have := key l.length (Nat.le_refl _)
  rw [List.take_length] at this
  rw [← this]
  simp [Lib.compact]
theorem cmp_mem (l : List BA) (x : BA) : x ∈ cmp l ↔ x ∈ l := by
  have key : ∀ m, m ≤ l.length → (x ∈ cmp (l.take m) ↔ x ∈ l.take m) := by
    intro m
    induction m with
    | zero => intro _; simp [cmp]
    | succ m ih =>
      intro h
      rw [cmp_take (by omega), ← List.take_append_getElem (show m < l.length by omega), List.mem_append, ← ih (by omega)]
      unfold cmpF
      split
      case isTrue e =>
        have := List.mem_of_getLast? e
        simp only [List.mem_singleton]
        exact ⟨.inl, fun h => h.elim id fun h => h ▸ this⟩
      case isFalse => rw [List.mem_append]
  have := key l.length (Nat.le_refl _)
  rwa [List.take_length] at this
/-- In order, each once. -/
def Strict (l : List BA) : Prop := l.Pairwise fun x y => lt x y = true
theorem cmp_strict {l : List BA} (h : Srtd l) : Strict (cmp l) := by
  have key : ∀ m, m ≤ l.length → Strict (cmp (l.take m)) := by
    intro m
    induction m with
    | zero => intro _; simp [cmp, Strict]
    | succ m ih =>
      intro hm
      rw [cmp_take (by omega)]
      have i1 := ih (by omega)
      unfold cmpF
      split
      · exact i1
      case isFalse hne =>
        refine List.pairwise_append.2 ⟨i1, List.pairwise_singleton .., fun x hx y hy => ?_⟩
        obtain rfl := List.mem_singleton.1 hy
        rcases List.eq_nil_or_concat (cmp (l.take m)) with e | ⟨L, z, e⟩
        rotate_left
        rw [List.concat_eq_append] at e
        rotate_left
        · rw [e] at hx; cases hx
        · rw [e] at hx i1
          have hz : z ∈ cmp (l.take m) := by rw [e]; simp
          rw [cmp_mem] at hz
          obtain ⟨k, hk, rfl⟩ := List.mem_iff_getElem.1 hz
          rw [List.length_take] at hk
          rw [List.getElem_take] at *
          have h1 : lt l[m] l[k] = false := List.pairwise_iff_getElem.1 h k m (by omega) (by omega) (by omega)
          have h2 : l[k] ≠ l[m] := fun h => hne (by rw [e]; simp [h])
          have h3 : lt l[k] l[m] = true := by
            cases f : lt l[k] l[m] with
            | true => rfl
            | false => exact absurd (lt_total f h1) h2
          rcases List.mem_append.1 hx with hx | hx
          · exact lt_trans ((List.pairwise_append.1 i1).2.2 x hx _ (List.mem_singleton.2 rfl)) h3
          · obtain rfl := List.mem_singleton.1 hx
            exact h3
  have := key l.length (Nat.le_refl _)
  rwa [List.take_length] at this
theorem strict_ext : ∀ {a b : List BA}, Strict a → Strict b → (∀ x, x ∈ a ↔ x ∈ b) → a = b
  | [], [], _, _, _ => rfl
  | [], y :: b, _, _, h => absurd ((h y).2 (List.mem_cons_self ..)) (by simp)
  | x :: a, [], _, _, h => absurd ((h x).1 (List.mem_cons_self ..)) (by simp)
  | x :: a, y :: b, ha, hb, h => by
    obtain ⟨a1, a2⟩ := List.pairwise_cons.1 ha
    obtain ⟨b1, b2⟩ := List.pairwise_cons.1 hb
    have e : x = y := by
      rcases List.mem_cons.1 ((h x).1 (List.mem_cons_self ..)) with e | e
      · exact e
      · rcases List.mem_cons.1 ((h y).2 (List.mem_cons_self ..)) with f | f
        · exact f.symm
        · have := lt_trans (a1 y f) (b1 x e)
          rw [lt_irrefl] at this; cases this
    subst e
    congr 1
    refine strict_ext a2 b2 fun z => ?_
    have := h z
    simp only [List.mem_cons] at this
    constructor
    · intro hz
      rcases this.1 (.inr hz) with rfl | k
      · have := a1 z hz; rw [lt_irrefl] at this; cases this
      · exact k
    · intro hz
      rcases this.2 (.inr hz) with rfl | k
      · have := b1 z hz; rw [lt_irrefl] at this; cases this
      · exact k
theorem Strict.srtd {l : List BA} (h : Strict l) : Srtd l := h.imp fun h => lt_asymm h
theorem srt_of {l : List BA} (h : Srtd l) : srt l = l := srtd_eq (srt_perm l) (srt_srtd l) h
theorem srt_rev {l : List BA} (h : Srtd l) : srt l.reverse = l := srtd_eq ((srt_perm _).trans (List.reverse_perm l)) (srt_srtd _) h
theorem cmp_twice {l : List BA} (h : Strict l) : cmp (srt (l ++ l)) = l :=
  strict_ext (cmp_strict (srt_srtd _)) h fun x => by rw [cmp_mem, (srt_perm _).mem_iff]; simp
/-! Prefixes that may be. -/
def Fol (p q : BA) : Prop := lt p q = true ∧ ¬ tl p <+: tl q
def okPs (l : List BA) : Prop := l.length ≤ 32 ∧ ∀ i (hi : i < l.length), l[i].size ≤ 512 ∧ ∀ j (hj : j < l.length), j + 1 = i → Fol l[j] l[i]
theorem pre_between : ∀ (p r q : List UInt8), p <+: q → p ≤ r → r ≤ q → p <+: r
  | [], r, q, _, _, _ => List.nil_prefix
  | a :: p, [], q, _, h, _ => absurd h (by simp)
  | a :: p, b :: r, [], h, _, _ => absurd h (by simp)
  | a :: p, b :: r, c :: q, h0, h1, h2 => by
    obtain ⟨rfl, h⟩ := List.cons_prefix_cons.1 h0
    rw [List.cons_le_cons_iff] at h1 h2
    rcases h1 with h1 | ⟨rfl, h1⟩
    · rcases h2 with h2 | ⟨rfl, h2⟩
      · exact absurd (UInt8.lt_trans h1 h2) (UInt8.lt_irrefl _)
      · exact absurd h1 (UInt8.lt_irrefl _)
    · rcases h2 with h2 | ⟨-, h2⟩
      · exact absurd h2 (UInt8.lt_irrefl _)
      · exact List.cons_prefix_cons.2 ⟨rfl, pre_between p r q h h1 h2⟩
theorem lt_le {x y : BA} (h : lt x y = true) : tl x ≤ tl y := by
  have := lt_iff.1 h
  rw [tl_toList, tl_toList] at this
  exact List.le_of_lt this
theorem fol_trans {p r q : BA} (h : Fol p r) (k : lt r q = true ∨ r = q) : Fol p q := by
  rcases k with k | rfl
  · exact ⟨lt_trans h.1 k, fun e => h.2 (pre_between _ _ _ e (lt_le h.1) (lt_le k))⟩
  · exact h
theorem okPs.strict {l : List BA} (h : okPs l) : Strict l := by
  unfold Strict
  rw [List.pairwise_iff_getElem]
  have key : ∀ d i (hi : i < l.length) (hj : i + (d + 1) < l.length), lt l[i] l[i + (d + 1)] = true := by
    intro d
    induction d with
    | zero => intro i hi hj; exact ((h.2 (i + 1) hj).2 i hi rfl).1
    | succ d ih => intro i hi hj; exact lt_trans (ih i hi (by omega)) ((h.2 (i + (d + 1 + 1)) hj).2 (i + (d + 1)) (by omega) rfl).1
  intro i j hi hj hij
  have h1 := key (j - i - 1) i hi (by omega)
  have e : i + (j - i - 1 + 1) = j := by omega
  simp only [e] at h1
  exact h1
theorem okPs.all {l : List BA} (h : okPs l) {i j : Nat} (hi : i < l.length) (hj : j < i) : Fol (l[j]'(by omega)) l[i] := by
  have h1 := (h.2 (j + 1) (by omega)).2 j (by omega) rfl
  refine fol_trans h1 ?_
  by_cases e : j + 1 = i
  · subst e; exact .inr rfl
  · exact .inl (List.pairwise_iff_getElem.1 h.strict (j + 1) i (by omega) hi (by omega))
/-- Of all pairs, and of neighbours. -/
def okAll (l : List BA) : Prop := l.length ≤ 32 ∧ ∀ i (hi : i < l.length), l[i].size ≤ 512 ∧ ∀ j (hj : j < i), Fol (l[j]'(by omega)) l[i]
theorem okAll_iff (l : List BA) : okAll l ↔ okPs l :=
  ⟨fun h => ⟨h.1, fun i hi => ⟨(h.2 i hi).1, fun j hj e => (h.2 i hi).2 j (by omega)⟩⟩, fun h => ⟨h.1, fun i hi => ⟨(h.2 i hi).1, fun _ hj => h.all hi hj⟩⟩⟩
/-- Can a mode be? -/
def RightM (m : Md) : Prop := if m.on then (0 ≤ m.rd ∧ m.rd ≤ 1000000000) ∧ (if m.bc then (m.oi = false ∧ m.oo = false) ∧ 0 < m.ps.length else ¬ (m.oi = true ∧ m.oo = true) ∧ m.ps.length = 0) ∧ okPs m.ps else m = zero
open Classical in
noncomputable def rightB (m : Md) : Bool := decide (RightM m)
theorem rightB_iff (m : Md) : rightB m = true ↔ RightM m := by classical exact decide_eq_true_iff
noncomputable def switchM (a b : Md) : Md × Int :=
  if (a.on && b.on) then
    if a.bc == b.bc && a.oi == b.oi && a.oo == b.oo then
      if rightB { b with ps := cmp (srt (a.ps ++ b.ps)) } then ({ b with ps := cmp (srt (a.ps ++ b.ps)) }, 0) else (a, 132)
    else (a, 132)
  else (b, 0)
def cachingM (m : Md) (yes : Bool) : Int := if m.on && (yes && m.oi || !yes && m.oo) then 0 else 132
def tracksM (m : Md) (c : Int) : Bool := m.on && !m.bc && (!m.oi || c == 1) && (!m.oo || !(c == 2))
def str (s : List UInt8) : BA := mk s
def wBcast : List UInt8 := [98, 99, 97, 115, 116]
def wOptin : List UInt8 := [111, 112, 116, 105, 110]
def wOptout : List UInt8 := [111, 112, 116, 111, 117, 116]
def wNoloop : List UInt8 := [110, 111, 108, 111, 111, 112]
def wOn : List UInt8 := [111, 110]
def wOff : List UInt8 := [111, 102, 102]
def wRedirect : List UInt8 := [114, 101, 100, 105, 114, 101, 99, 116]
def wPrefix : List UInt8 := [112, 114, 101, 102, 105, 120]
def flagsM (m : Md) : List BA :=
  if m.on then mk wOn :: ((if m.bc then [mk wBcast] else []) ++ (if m.oi then [mk wOptin] else []) ++ (if m.oo then [mk wOptout] else []) ++ (if m.nl then [mk wNoloop] else [])) else [mk wOff]
end Go.Proofs.Ytnmncjeplfkdpaa.Ma
