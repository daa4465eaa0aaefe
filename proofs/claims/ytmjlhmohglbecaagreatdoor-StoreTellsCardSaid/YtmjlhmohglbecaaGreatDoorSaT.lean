/- StoreTells, plain: nothing happens untold. No program, no condition. -/
import Derived.Test.YtmjlhmohglbecaaGreatDoorSaS
import Derived.Test.YtmjlhmohglbecaaGreatDoorSpB
import Derived.Test.YtmjlhmohglbecaaGreatDoorSaE
namespace Go.Proofs.YtmjlhmohglbecaaGreatDoor.Sa
set_option linter.unusedVariables false
set_option linter.unusedSimpArgs false
open Ca (dropK touchK oldK inK)
open Ea (Du UpD dropD putD inD getD dueD insD)
open Sp (setG setG_same setG_ne)
/-- The last kind that was told of each key. -/
def toldG (ev : List (Int × ByteArray)) : ByteArray → Option Int := ev.foldl (fun g e => setG g e.2 (some e.1)) (fun _ => none)
theorem toldG_app (ev : List (Int × ByteArray)) (e : Int × ByteArray) : toldG (ev ++ [e]) = setG (toldG ev) e.2 (some e.1) := by
  unfold toldG; rw [List.foldl_append]; rfl
/-- Was all told to have gone? -/
def allE (ev : List (Int × ByteArray)) : Bool := ev.any fun e => e.1 == 5
theorem allE_app (ev : List (Int × ByteArray)) (e : Int × ByteArray) : allE (ev ++ [e]) = (allE ev || e.1 == 5) := by unfold allE; simp
structure TelK (m0 m : Md) (k : ByteArray) : Prop where
  no : toldG m.ev k = none → (k ∈ m.K ↔ k ∈ m0.K) ∧ (k ∈ m.K → m.f k = m0.f k)
  yes : ∀ e, toldG m.ev k = some e → (e = 1 ∧ k ∈ m.K) ∨ (2 ≤ e ∧ k ∉ m.K)
/-- What has happened since m0 has been told. -/
def Tel (m0 m : Md) : Prop := allE m.ev = true ∨ ∀ k, TelK m0 m k
section
variable {m0 m m' : Md}
theorem Tel.start (h : m.ev = []) : Tel m m := .inr fun k => ⟨fun _ => ⟨Iff.rfl, fun _ => rfl⟩, fun e he => by rw [h] at he; cases he⟩
/-- One key is told, the others stay. -/
theorem Tel.one {k : ByteArray} {e : Int} (h : Tel m0 m) (hev : m'.ev = m.ev ++ [(e, k)]) (hK : ∀ x, x ≠ k → (x ∈ m'.K ↔ x ∈ m.K)) (hf : ∀ x, x ≠ k → m'.f x = m.f x) (hk : (e = 1 ∧ k ∈ m'.K) ∨ (2 ≤ e ∧ k ∉ m'.K)) : Tel m0 m' := by
  unfold Tel
  rw [hev, allE_app]
  rcases h with h | h
  · exact .inl (by rw [h]; rfl)
  · refine .inr fun x => ?_
    by_cases hx : x = k
    · subst hx
      refine ⟨fun hn => ?_, fun e' he => ?_⟩
      · rw [hev, toldG_app, setG_same] at hn; cases hn
      · rw [hev, toldG_app, setG_same] at he
        obtain rfl := Option.some.inj he
        exact hk
    · refine ⟨fun hn => ?_, fun e' he => ?_⟩
      · rw [hev, toldG_app, setG_ne hx] at hn
        rw [hK x hx, hf x hx]
        exact (h x).no hn
      · rw [hev, toldG_app, setG_ne hx] at he
        rw [hK x hx]
        exact (h x).yes e' he
theorem Tel.same (h : Tel m0 m) (hev : m'.ev = m.ev) (hK : ∀ x, x ∈ m'.K ↔ x ∈ m.K) (hf : m'.f = m.f) : Tel m0 m' := by
  unfold Tel
  rw [hev]
  rcases h with h | h
  · exact .inl h
  · exact .inr fun x => ⟨fun hn => by rw [hev] at hn; rw [hK, hf]; exact (h x).no hn, fun e he => by rw [hev] at he; rw [hK]; exact (h x).yes e he⟩
theorem Tel.lose (h : Tel m0 m) (k : ByteArray) {kind : Int} (h2 : 2 ≤ kind) : Tel m0 (loseM k kind m) :=
  h.one (k := k) (e := kind) rfl (fun x hx => by show x ∈ dropK k m.K ↔ _; rw [Ca.mem_dropK]; exact ⟨fun h => h.1, fun h => ⟨h, hx⟩⟩) (fun _ _ => rfl) (.inr ⟨h2, by show k ∉ dropK k m.K; rw [Ca.mem_dropK]; exact fun h => h.2 rfl⟩)
theorem Tel.gone (h : Tel m0 m) (k : ByteArray) {kind : Int} (h2 : 2 ≤ kind) : Tel m0 (goneM k kind m) := by
  unfold goneM
  split
  · exact h.lose k h2
  · exact h
theorem Tel.end_ (h : Tel m0 m) (k : ByteArray) (now : Int) : Tel m0 (endM k now m) := by
  unfold endM
  split
  · exact h.lose k (by decide)
  · exact h
theorem Tel.set (h : Tel m0 m) (k : ByteArray) (i : Ia.It) (keep : Bool) : Tel m0 (setM k i keep m) :=
  h.one (k := k) (e := 1) rfl (fun x hx => by show x ∈ touchK k m.K ↔ _; rw [mem_touchK]; exact ⟨fun h => h.resolve_left hx, .inr⟩) (fun x hx => updF_ne hx) (.inl ⟨rfl, by show k ∈ touchK k m.K; rw [mem_touchK]; exact .inl rfl⟩)
theorem Tel.evict (h : Tel m0 m) : Tel m0 (evM m) := evM_ind (P := Tel m0) (fun a x y r h _ _ => h.lose x (by decide)) h
theorem Tel.sw (h : Tel m0 m) : ∀ (l : List ByteArray), Tel m0 (swM l m) := by
  intro l
  induction l generalizing m with
  | nil => exact h
  | cons k r ih => exact ih (h.gone k (by decide))
theorem Tel.dueEv (h : Tel m0 m) {k : ByteArray} (hk : k ∈ m.K) (hev : m'.ev = m.ev ++ [(1, k)]) (hK : m'.K = m.K) (hf : m'.f = m.f) : Tel m0 m' :=
  h.one (k := k) (e := 1) hev (fun x _ => by rw [hK]) (fun x _ => by rw [hf]) (.inl ⟨rfl, by rw [hK]; exact hk⟩)
theorem Tel.act (h : Tel m0 m) (hok : Ok m) (q : Ac) (now : Int) : Tel m0 (actM q now m) := by
  unfold actM
  repeat' split
  · unfold getM
    split
    · rename_i hk
      exact (h.end_ q.k now).same rfl (fun x => by
        show x ∈ touchK q.k (endM q.k now m).K ↔ _
        rw [mem_touchK]
        exact ⟨fun hx => hx.elim (fun e => by rw [e]; exact Ca.inK_iff.1 hk) id, .inr⟩) rfl
    · exact h.end_ q.k now
  · exact h.end_ _ _
  · unfold putM
    split
    · exact h.end_ _ _
    · split
      · exact h.end_ _ _
      · exact ((h.end_ _ _).set _ _ _).evict
  · exact (h.end_ _ _).gone _ (by decide)
  · unfold expireM
    split
    · exact (h.end_ _ _).gone _ (by decide)
    · split
      · exact (h.end_ q.k now).dueEv (k := q.k) (Ca.inK_iff.1 (by assumption)) rfl rfl rfl
      · exact h.end_ _ _
  · unfold persistM
    split
    · exact (h.end_ q.k now).dueEv (k := q.k) ((hok.end_ q.k now).due_in (by assumption)) rfl rfl rfl
    · exact h.end_ _ _
  · exact h.end_ _ _
  · exact h.sw _
  · exact .inl (by show allE (m.ev ++ [_]) = true; rw [allE_app]; simp)
/-- What the statement asks of a key that is there. -/
theorem Tel.there (h : Tel m0 m) {k : ByteArray} (hk : k ∈ m.K) (ha : allE m.ev = false) : (toldG m.ev k = none ∧ k ∈ m0.K ∧ m.f k = m0.f k) ∨ toldG m.ev k = some 1 := by
  rcases h with h | h
  · rw [ha] at h; cases h
  · cases e : toldG m.ev k with
    | none =>
      have := (h k).no e
      exact .inl ⟨rfl, this.1.1 hk, this.2 hk⟩
    | some z =>
      rcases (h k).yes z e with ⟨rfl, -⟩ | ⟨-, h2⟩
      · exact .inr rfl
      · exact absurd hk h2
/-- .. and of one that was and isn't. -/
theorem Tel.away (h : Tel m0 m) {k : ByteArray} (hk : k ∉ m.K) (h0 : k ∈ m0.K) (ha : allE m.ev = false) : ∃ e, toldG m.ev k = some e ∧ 2 ≤ e := by
  rcases h with h | h
  · rw [ha] at h; cases h
  · cases e : toldG m.ev k with
    | none => exact absurd (((h k).no e).1.2 h0) hk
    | some z =>
      rcases (h k).yes z e with ⟨-, h2⟩ | ⟨h2, -⟩
      · exact absurd h2 hk
      · exact ⟨z, rfl, h2⟩
end
/-- Keys asked for, one behind the other: who has ended goes. -/
def endsK (now : Int) : List ByteArray → Md → Md
  | [], m => m
  | k :: r, m => endsK now r (endM k now m)
theorem endsK_app (now : Int) : ∀ (l r : List ByteArray) (m : Md), endsK now (l ++ r) m = endsK now r (endsK now l m)
  | [], _, _ => rfl
  | k :: l, r, m => endsK_app now l r _
theorem endsK_take {now : Int} {L : List ByteArray} {j : Nat} (hj : j < L.length) (m : Md) : endsK now (L.take (j + 1)) m = endM L[j] now (endsK now (L.take j) m) := by
  rw [← List.take_append_getElem hj, endsK_app]; rfl
theorem endsK_ind {P : Md → Prop} (now : Int) (hP : ∀ k m, P m → P (endM k now m)) : ∀ (l : List ByteArray) {m : Md}, P m → P (endsK now l m)
  | [], _, h => h
  | k :: r, _, h => endsK_ind now hP r (hP k _ h)
theorem end_f (k : ByteArray) (now : Int) (m : Md) : (endM k now m).f = m.f := by unfold endM; split <;> rfl
theorem end_mem {k x : ByteArray} {now : Int} {m : Md} (hx : x ≠ k) : x ∈ (endM k now m).K ↔ x ∈ m.K := by
  unfold endM
  split
  · show x ∈ dropK k m.K ↔ _
    rw [Ca.mem_dropK]; exact ⟨fun h => h.1, fun h => ⟨h, hx⟩⟩
  · exact Iff.rfl
theorem end_sub {k x : ByteArray} {now : Int} {m : Md} (h : x ∈ (endM k now m).K) : x ∈ m.K := by
  unfold endM at h
  split at h
  · exact (Ca.mem_dropK.1 h).1
  · exact h
end Go.Proofs.YtmjlhmohglbecaaGreatDoor.Sa
/- Layer 12: items as the elements of a map. No condition. -/
namespace Go.Proofs.YtmjlhmohglbecaaGreatDoor.Sa
set_option linter.unusedVariables false
set_option linter.unusedSimpArgs false
open Go.ChangeShapes Go.WideShapes Go.ChangeAt Go.RowKit Go.Maps Go.WideMaps
open Sp (Th Hp Stays All Ro roT rowT cellsT exT puT star mapT rngT setG setG_same setG_ne)
/-- An item as a map's element. -/
structure Iv where
  k : Int
  t : ByteArray
  a : Option Addr
  n : Nat
  c : Nat
def encI (x : Iv) : Value := .agg #[.int .i64 x.k, .string x.t, .slice x.a x.n x.c]
def litA : Option Addr → DataW Unit
  | none => .nil
  | some p => .agg [.lit (.int .i64 p.block), .lit (.int .i64 p.off), .lit (.int .i64 (match p.spot with | none => -1 | some n => n))]
def litI (x : Iv) : DataW Unit := .agg [.lit (.int .i64 x.k), .lit (.string x.t.data.toList), litA x.a, .lit (.int .i64 x.n), .lit (.int .i64 x.c)]
theorem encI_inj {x y : Iv} (h : encI x = encI y) : x = y := by
  unfold encI at h
  injection h with h
  have h1 : [Value.int .i64 x.k, .string x.t, .slice x.a x.n x.c] = [Value.int .i64 y.k, .string y.t, .slice y.a y.n y.c] := congrArg Array.toList h
  injection h1 with a1 h2
  injection h2 with a2 h3
  injection h3 with a3 _
  injection a1 with _ e1
  injection a2 with e2
  injection a3 with e3 e4 e5
  cases x; cases y
  simp only at e1 e2 e3 e4 e5
  subst e1 e2 e3 e4 e5
  rfl
theorem litA_inj : ∀ {p q : Option Addr}, litA p = litA q → p = q
  | none, none, _ => rfl
  | none, some q, h => by unfold litA at h; cases h
  | some p, none, h => by unfold litA at h; cases h
  | some p, some q, h => by
    unfold litA at h
    injection h with h
    injection h with a1 h
    injection h with a2 h
    injection h with a3 _
    injection a1 with a1; injection a1 with _ a1
    injection a2 with a2; injection a2 with _ a2
    injection a3 with a3; injection a3 with _ a3
    obtain ⟨b, o, s⟩ := p
    obtain ⟨b', o', s'⟩ := q
    simp only at a1 a2 a3
    obtain rfl : b = b' := by omega
    obtain rfl : o = o' := by omega
    cases s with
    | none => cases s' with
      | none => rfl
      | some n => simp only at a3; omega
    | some m => cases s' with
      | none => simp only at a3; omega
      | some n =>
        simp only at a3
        obtain rfl : m = n := by omega
        rfl
theorem litI_inj {x y : Iv} (h : litI x = litI y) : x = y := by
  unfold litI at h
  injection h with h
  injection h with a1 h
  injection h with a2 h
  injection h with a3 h
  injection h with a4 h
  injection h with a5 _
  injection a1 with a1; injection a1 with _ a1
  injection a2 with a2; injection a2 with a2
  injection a4 with a4; injection a4 with _ a4
  injection a5 with a5; injection a5 with _ a5
  replace a3 := litA_inj a3
  obtain ⟨k, t, a, n, c⟩ := x
  obtain ⟨k', t', a', n', c'⟩ := y
  simp only at a1 a2 a3 a4 a5
  obtain rfl : n = n' := by omega
  obtain rfl : c = c' := by omega
  subst a1 a3
  cases t; cases t'
  simp only at a2
  have := Array.toList_inj.1 a2
  subst this
  rfl
open Classical in
noncomputable def readI (v : Value) : Option (DataW Unit × List MemPlace) := if h : ∃ x, v = encI x then some (litI (Classical.choose h), []) else none
theorem readI_enc (x : Iv) : readI (encI x) = some (litI x, []) := by
  unfold readI
  have h : ∃ y, encI x = encI y := ⟨x, rfl⟩
  rw [dif_pos h, ← encI_inj (Classical.choose_spec h)]
def zeroV : Iv := ⟨0, ⟨#[]⟩, none, 0, 0⟩
theorem zeroIt (w : World) : (zeroValue 31).run Tryz.prog w = .ok (encI zeroV) w := by kernel_rfl
noncomputable def elV : Sp.El Tryz.prog 31 Iv :=
  ⟨readI, encI, litI, fun _ => True, fun x _ => readI_enc x,
   fun v z h => by
     unfold readI at h
     split at h
     · rename_i hx
       have h := Option.some.inj h
       exact ⟨Classical.choose hx, True.intro, Classical.choose_spec hx, by rw [← h]⟩
     · exact (nomatch h),
   fun _ _ h => litI_inj h, zeroV, True.intro, zeroIt⟩
/-- The items that a map says are those that f says, and their fields lie. -/
def MatchI (x : Iv) (i : Ia.It) : Prop := x.k = i.k ∧ x.t = i.t ∧ x.n = i.l.length
def itemsR (g : ByteArray → Option Iv) (f : ByteArray → Ia.It) : Ro :=
  ⟨fun R w => ∀ k x, g k = some x → MatchI x (f k) ∧ (itemR x.a x.c (f k)).P R w, fun h hs hr hR hb k x hx => ⟨(h k x hx).1, (itemR x.a x.c (f k)).keep (h k x hx).2 hs hr hR hb⟩⟩
section
variable {o w w' wb : World} {l : List Th} {g : ByteArray → Option Iv} {f f' : ByteArray → Ia.It}
theorem items_none (h : Hp o w l) (f : ByteArray → Ia.It) : Hp o w (roT (itemsR (fun _ => none) f) :: l) := ro_new h _ fun R k x hx => by cases hx
theorem items_put {k : ByteArray} {a : Option Addr} {c : Nat} (h : Hp o w (roT (itemR a c (f k)) :: roT (itemsR g f) :: l)) : Hp o w (roT (itemsR (setG g k (some ⟨(f k).k, (f k).t, a, (f k).l.length, c⟩)) f) :: l) :=
  ro_two h fun h1 h2 x y hy => by
    by_cases e : x = k
    · subst e
      rw [setG_same] at hy
      obtain rfl := Option.some.inj hy
      exact ⟨⟨rfl, rfl, rfl⟩, h1⟩
    · rw [setG_ne e] at hy
      exact h2 x y hy
theorem items_at (h : Hp o w (roT (itemsR g f) :: l)) {k : ByteArray} {x : Iv} (hx : g k = some x) : MatchI x (f k) ∧ Ia.InF w x.a (f k).l ∧ (f k).l.length ≤ 9223372036854775807 := ⟨h.say fun hp _ _ => (hp.2 k x hx).1, h.say fun hp _ hR => ((hp.2 k x hx).2.2.2).inF hR, h.say fun hp _ hR => Nat.le_trans (hp.2 k x hx).2.1 (hp.2 k x hx).2.2.1⟩
end
end Go.Proofs.YtmjlhmohglbecaaGreatDoor.Sa
/- StoreTells, plain: budgets, bounds. No condition. -/
namespace Go.Proofs.YtmjlhmohglbecaaGreatDoor.Sa
set_option linter.unusedVariables false
set_option linter.unusedSimpArgs false
open Go.ChangeShapes Go.WideShapes Go.ChangeAt Go.RowKit
open Sp (Th Hp Stays All Ro roT rowT cellsT exT puT star mapT rngT setG setG_same setG_ne)
theorem gone_b (k : ByteArray) (kind : Int) (m : Md) : (goneM k kind m).b = m.b := by unfold goneM; split <;> rfl
theorem act_b (q : Ac) (now : Int) (m : Md) : (actM q now m).b = m.b := by
  have e := end_b q.k now m
  unfold actM
  repeat' split
  · exact (show (getM q.k (endM q.k now m)).b = (endM q.k now m).b by unfold getM; split <;> rfl).trans e
  · exact e
  · unfold putM
    split
    · exact e
    · split
      · exact e
      · exact (evM_b _).trans e
  · exact (gone_b _ _ _).trans e
  · unfold expireM
    split
    · exact (gone_b _ _ _).trans e
    · split <;> exact e
  · unfold persistM
    split <;> exact e
  · exact e
  · exact sw_b _ _
  · rfl
/-- What stays as keys are asked for. -/
structure AsI (m1 mc : Md) (j : Nat) : Prop where
  ok : Ok mc
  f : mc.f = m1.f
  b : mc.b = m1.b
  l : mc.K.length ≤ m1.K.length
  v : mc.ev.length ≤ m1.ev.length + j
theorem AsI.start {m1 : Md} (h : Ok m1) : AsI m1 m1 0 := ⟨h, rfl, rfl, Nat.le_refl _, Nat.le_refl _⟩
theorem AsI.step {m1 mc : Md} {j : Nat} (h : AsI m1 mc j) (k : ByteArray) (now : Int) : AsI m1 (endM k now mc) (j + 1) :=
  ⟨h.ok.end_ k now, (end_f k now mc).trans h.f, (end_b k now mc).trans h.b, Nat.le_trans (end_len k now mc) h.l, by have := end_ev k now mc; have := h.v; omega⟩
/-- Which keys the map has. -/
def HasI (g : ByteArray → Option Iv) (L : List ByteArray) (j : Nat) (mc : Md) : Prop := ∀ k, (g k).isSome = true ↔ k ∈ L.take j ∧ k ∈ mc.K
theorem HasI.start (L : List ByteArray) (mc : Md) : HasI (fun _ => none) L 0 mc := fun k => by simp
theorem nodup_up {L : List ByteArray} (h : L.Pairwise fun a b => Op.bytesLess a.toList b.toList = true) : L.Nodup := h.imp fun {a b} hab e => by
  subst e
  have : Ea.ltK a a = true := hab
  rw [Ea.ltK_irrefl] at this
  cases this
theorem take_not {L : List ByteArray} (hn : L.Nodup) {j : Nat} (hj : j < L.length) : L[j] ∉ L.take j := fun h => by
  obtain ⟨i, hi, e⟩ := List.mem_iff_getElem.1 h
  rw [List.length_take] at hi
  rw [List.getElem_take] at e
  exact (List.pairwise_iff_getElem.1 hn) i j (by omega) hj (by omega) e
theorem HasI.yes {g : ByteArray → Option Iv} {L : List ByteArray} {j : Nat} {mc : Md} {now : Int} (h : HasI g L j mc) (hn : L.Nodup) (hj : j < L.length) (hk : L[j] ∈ (endM L[j] now mc).K) (v : Iv) : HasI (setG g L[j] (some v)) L (j + 1) (endM L[j] now mc) := fun k => by
  rw [← List.take_append_getElem hj, List.mem_append, List.mem_singleton]
  by_cases e : k = L[j]
  · rw [e, setG_same]
    exact ⟨fun _ => ⟨.inr rfl, hk⟩, fun _ => rfl⟩
  · rw [setG_ne e, h k, end_mem e]
    exact ⟨fun h => ⟨.inl h.1, h.2⟩, fun h => ⟨h.1.resolve_right e, h.2⟩⟩
theorem HasI.no {g : ByteArray → Option Iv} {L : List ByteArray} {j : Nat} {mc : Md} {now : Int} (h : HasI g L j mc) (hn : L.Nodup) (hj : j < L.length) (hk : L[j] ∉ (endM L[j] now mc).K) : HasI g L (j + 1) (endM L[j] now mc) := fun k => by
  rw [← List.take_append_getElem hj, List.mem_append, List.mem_singleton]
  by_cases e : k = L[j]
  · rw [e, h]
    exact ⟨fun h => absurd h.1 (take_not hn hj), fun h => absurd h.2 hk⟩
  · rw [h k, end_mem e]
    exact ⟨fun h => ⟨.inl h.1, h.2⟩, fun h => ⟨h.1.resolve_right e, h.2⟩⟩
theorem toldG_take {E : List (Int × ByteArray)} {j : Nat} (hj : j < E.length) : toldG (E.take (j + 1)) = setG (toldG (E.take j)) E[j].2 (some E[j].1) := by
  rw [← List.take_append_getElem hj, toldG_app]
theorem allE_take {E : List (Int × ByteArray)} {j : Nat} (hj : j < E.length) : allE (E.take (j + 1)) = (allE (E.take j) || E[j].1 == 5) := by
  rw [← List.take_append_getElem hj, allE_app]
/-- What the statement looks at behind an act: the store before, behind it, and what has been told. -/
structure TeI (m0 m2 : Md) (g g2 : ByteArray → Option Iv) (E : List (Int × ByteArray)) : Prop where
  tel : Tel m0 m2
  ev : m2.ev = E
  w0 : ∀ k, (g k).isSome = true ↔ k ∈ m0.K
  w2 : ∀ k, (g2 k).isSome = true ↔ k ∈ m2.K
theorem TeI.there {m0 m2 : Md} {g g2 : ByteArray → Option Iv} {E : List (Int × ByteArray)} (h : TeI m0 m2 g g2 E) (ha : allE E = false) {k : ByteArray} {x : Iv} (hk : g2 k = some x) : (toldG E k = none ∧ ∃ y, g k = some y ∧ m2.f k = m0.f k) ∨ toldG E k = some 1 := by
  have h1 := h.tel.there ((h.w2 k).1 (by rw [hk]; rfl)) (by rw [h.ev]; exact ha)
  rw [h.ev] at h1
  rcases h1 with ⟨h1, h2, h3⟩ | h1
  · obtain ⟨y, hy⟩ := Option.isSome_iff_exists.1 ((h.w0 k).2 h2)
    exact .inl ⟨h1, y, hy, h3⟩
  · exact .inr h1
theorem TeI.away {m0 m2 : Md} {g g2 : ByteArray → Option Iv} {E : List (Int × ByteArray)} (h : TeI m0 m2 g g2 E) (ha : allE E = false) {k : ByteArray} {x : Iv} (hk : g k = some x) (hn : g2 k = none) : ∃ e, toldG E k = some e ∧ 2 ≤ e := by
  have h1 := h.tel.away (k := k) (fun hm => by
    have := (h.w2 k).2 hm
    rw [hn] at this
    cases this) ((h.w0 k).1 (by rw [hk]; rfl)) (by rw [h.ev]; exact ha)
  rw [h.ev] at h1
  exact h1
theorem TeI.of {m0 m1 m2 : Md} {g g2 : ByteArray → Option Iv} {L : List ByteArray} {now : Int} (ht : Tel m0 m1) (he : m2 = endsK now L m1) (hL : KeysOf L m1.K) (w0 : ∀ k, (g k).isSome = true ↔ k ∈ m0.K) (h2 : HasI g2 L L.length m2) : TeI m0 m2 g g2 m2.ev := by
  refine ⟨by rw [he]; exact endsK_ind (P := Tel m0) now (fun k m h => h.end_ k now) L ht, rfl, w0, fun k => ?_⟩
  rw [h2 k, List.take_length]
  refine ⟨fun h => h.2, fun h => ⟨(hL.mem k).2 ?_, h⟩⟩
  rw [he] at h
  exact (endsK_ind (P := fun m => ∀ x, x ∈ m.K → x ∈ m1.K) now (fun k m h x hx => h x (end_sub hx)) L (fun x hx => hx)) k h
/-- Keys that are told of are short. -/
def EvS (m : Md) : Prop := ∀ e ∈ m.ev, e.2.size ≤ 512
theorem EvS.add {m m' : Md} {e : Int × ByteArray} (h : EvS m) (he : m'.ev = m.ev ++ [e]) (hk : e.2.size ≤ 512) : EvS m' := fun x hx => by
  rw [he] at hx
  rcases List.mem_append.1 hx with hx | hx
  · exact h x hx
  · rw [List.mem_singleton.1 hx]; exact hk
theorem EvS.gone {m : Md} (h : EvS m) (hp : Pre m) (k : ByteArray) (kind : Int) : EvS (goneM k kind m) := by
  unfold goneM
  split
  · rename_i hk
    exact h.add (e := (kind, k)) rfl (hp.kz k (Ca.inK_iff.1 hk))
  · exact h
theorem EvS.end_ {m : Md} (h : EvS m) (hp : Pre m) (k : ByteArray) (now : Int) : EvS (endM k now m) := by
  unfold endM
  split
  · rename_i hk
    unfold endsM at hk
    rw [Bool.and_eq_true] at hk
    exact h.add (e := (3, k)) rfl (hp.kz k (hp.due_in hk.1))
  · exact h
theorem EvS.evict {m : Md} (h : EvS m) (hp : Pre m) : EvS (evM m) :=
  (evM_ind (P := fun a => Pre a ∧ EvS a) (fun a x y r h e _ => ⟨h.1.lose x 4 (by decide) (by decide), h.2.add (m' := loseM x 4 a) (e := (4, x)) rfl (h.1.kz x (by rw [e]; exact List.mem_cons_self ..))⟩) ⟨hp, h⟩).2
theorem EvS.sw : ∀ (l : List ByteArray) {m : Md}, EvS m → Pre m → EvS (swM l m)
  | [], _, h, _ => h
  | k :: r, _, h, hp => EvS.sw r (h.gone hp k 3) (hp.gone k 3 (by decide) (by decide))
theorem EvS.act {m : Md} (h : EvS m) (hok : Ok m) (q : Ac) (now : Int) : EvS (actM q now m) := by
  have h1 := h.end_ hok.toPre q.k now
  have h2 := hok.end_ q.k now
  unfold actM
  repeat' split
  · unfold getM
    split
    · exact h1
    · exact h1
  · exact h1
  · unfold putM
    split
    · exact h1
    · rename_i hn
      split
      · exact h1
      · have hk : q.k.size ≤ 512 := by
          by_cases hh : 512 < q.k.size
          · exact absurd (.inl hh) hn
          · omega
        have hr : Ia.RightP q.i := (rightB_iff q.i).1 (by
          cases e : rightB q.i with
          | true => rfl
          | false => exact absurd (.inr e) hn)
        exact EvS.evict (h1.add (m' := setM q.k q.i q.kp (endM q.k now m)) (e := (1, q.k)) rfl hk) (h2.toPre.set q.k hk q.i hr q.kp)
  · exact h1.gone h2.toPre _ _
  · unfold expireM
    split
    · exact h1.gone h2.toPre _ _
    · split
      · rename_i hk
        exact h1.add (m' := dueM q.k (min q.wh 4611686018427387904) (endM q.k now m)) (e := (1, q.k)) rfl (h2.kz _ (Ca.inK_iff.1 hk))
      · exact h1
  · unfold persistM
    split
    · rename_i hk
      exact h1.add (m' := undueM q.k (endM q.k now m)) (e := (1, q.k)) rfl (h2.kz _ (h2.due_in hk))
    · exact h1
  · exact h1
  · exact EvS.sw _ h hok.toPre
  · exact h.add (m' := flushM m) (e := (5, ⟨#[]⟩)) rfl (by decide)
theorem EvS.ends {now : Int} : ∀ (l : List ByteArray) {m : Md}, EvS m → Ok m → EvS (endsK now l m)
  | [], _, h, _ => h
  | k :: r, _, h, hp => EvS.ends r (h.end_ hp.toPre k now) (hp.end_ k now)
end Go.Proofs.YtmjlhmohglbecaaGreatDoor.Sa
