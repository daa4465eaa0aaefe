/- Package expiry: both heaps as values of container/heap's interface. Conditions: as they lie; bounds. -/
import Derived.Test.YtmjlhmohglbecaaGreatDoorEaT
namespace Go.Proofs.YtmjlhmohglbecaaGreatDoor.Ea
open Go.ChangeShapes Go.WideShapes Go.ChangeAt Go.RowKit
theorem load_dues {w : World} {a : Addr} {v : Value} (h : w.cell? a = some v) : (loadVar 138 a).run Tryz.prog w = .ok v w := by
  simp [loadVar, h, go_sem]
theorem wrap_ok (ts : Array TypeId) (t : TypeId) (a : Addr) (s : String) : Builtin.ssaWrapNilChk_ ts t #[.pointer (some a), strVal "", strVal s] = pure (.pointer (some a)) := rfl
theorem meth_of {w : World} {a : Addr} {v : Value} {name : String} {f : FuncId} (hw : w.cell? a = some v)
    (h : ((Tryz.prog.info? 143).bind fun q => q.methods.find? (·.name == name)).map (fun m => (m.path.toList, m.func)) = some ([], some (f, false))) : (method 347 143 (.pointer (some a)) name).run Tryz.prog w = .ok (f, v) w := by
  cases hq : Tryz.prog.info? 143 with
  | none => rw [hq] at h; cases h
  | some q =>
    rw [hq] at h
    cases hm : q.methods.find? (·.name == name) with
    | none => simp only [Option.bind_some] at h; rw [hm] at h; cases h
    | some m =>
      simp only [Option.bind_some] at h
      rw [hm] at h
      simp only [Option.map_some, Option.some.injEq, Prod.mk.injEq] at h
      obtain ⟨hp, hf⟩ := h
      have hu := Tryz.underlying143
      have hl := load_dues hw
      show (method (346 + 1) _ _ _).run _ _ = _
      unfold method
      simp [typeInfo, hq, hm, hp, hf, follow, receiverAt, run_underlying hu, Place.get, wrap_ok, asAddr]
      split <;> (rw [hl]; rfl)
theorem m_push (v : Value) (w : World) : (method 347 143 v "Push").run Tryz.prog w = .ok (174, v) w := by kernel_rfl
theorem m_pop (v : Value) (w : World) : (method 347 143 v "Pop").run Tryz.prog w = .ok (173, v) w := by kernel_rfl
theorem t_len (v : Value) (w : World) : (method 347 182 v "Len").run Tryz.prog w = .ok (175, v) w := by kernel_rfl
theorem t_less (v : Value) (w : World) : (method 347 182 v "Less").run Tryz.prog w = .ok (176, v) w := by kernel_rfl
theorem t_swap (v : Value) (w : World) : (method 347 182 v "Swap").run Tryz.prog w = .ok (179, v) w := by kernel_rfl
theorem t_push (v : Value) (w : World) : (method 347 182 v "Push").run Tryz.prog w = .ok (178, v) w := by kernel_rfl
theorem t_pop (v : Value) (w : World) : (method 347 182 v "Pop").run Tryz.prog w = .ok (177, v) w := by kernel_rfl
theorem enters {f : FuncId} {fn : Func} {c : Code} (hf : Tryz.prog.funcs[f]? = some fn) (hname : (fn.name == "runtime.NumGoroutine") = false) (hb : fn.body = some c) (args : Array Value) (w : World) : (callFunc f args).run Tryz.prog w = .ok (.enter f args) w := by
  have h1 : fn.name ≠ "runtime.NumGoroutine" := by simpa using hname
  simp [callFunc, hf, h1, hb, mark]
/-- The heap of dues behind T, of w0 all but S stands. -/
def DP (T : Nat) (S : Nat → Prop) (w0 : World) (l : List En) (w : World) : Prop := ∃ v, DAt w T v l ∧ Fr S w0 w ∧ (∀ j, j ≠ 0 → w.cell? ⟨T, j, none⟩ = w0.cell? ⟨T, j, none⟩) ∧ ∀ x, ownD T v l x → S x ∨ w0.heap.size ≤ x
theorem Fr.more {S O : Nat → Prop} {w0 w w' : World} (h : Fr S w0 w) (k : Fr O w w') (ho : ∀ x, O x → S x ∨ w0.heap.size ≤ x) : Fr S w0 w' := h.trans2 k fun i hi hx => by
  rcases ho i hx with h | h
  · exact h
  · omega
theorem ownD_swp {T : Nat} {v : Value} {l : List En} {i j x : Nat} : ownD T v (swp l i j) x ↔ ownD T v l x := by
  unfold ownD ownH
  simp only [swp_perm.mem_iff]
theorem ifaceD (T : Nat) (S : Nat → Prop) (w0 : World) : Iface (DP T S w0) ltN 143 (.pointer (some ⟨T, 0, none⟩)) := by
  refine ⟨fun l w ⟨v, h, hf, hc, ho⟩ => ?_, fun l w i j hi hj ⟨v, h, hf, hc, ho⟩ => ?_, fun l w i j hi hj ⟨v, h, hf, hc, ho⟩ => ?_⟩
  · refine ⟨_, v, meth_of h.c0 (by kernel_rfl), enters Tryz.func170 (by kernel_rfl) rfl _ _, (hlen_calls h.hp).mono ?_⟩
    rintro e w' ⟨rfl, rfl⟩
    exact ⟨rfl, v, h, hf, hc, ho⟩
  · refine ⟨_, v, meth_of h.c0 (by kernel_rfl), enters Tryz.func171 (by kernel_rfl) rfl _ _, (hless_calls h.hp i j hi hj).mono ?_⟩
    rintro e w' ⟨rfl, hb⟩
    exact ⟨rfl, v, h.below hb, hf.trans (Fr.of_below hb), fun j hj => (World.cell?_of_block (a := ⟨T, j, none⟩) (hb.block T h.lt)).trans (hc j hj), ho⟩
  · refine ⟨_, v, meth_of h.c0 (by kernel_rfl), enters Tryz.func172 (by kernel_rfl) rfl _ _, (hswap_calls h.hp i j hi hj).mono ?_⟩
    rintro e w' ⟨rfl, h1, h2⟩
    have hT : w'.heap[T]? = w.heap[T]? := h2.block T h.lt (by
      rintro (e | ⟨x, hx, e⟩)
      · exact h.tv e
      · exact h.tn x hx e.symm)
    exact ⟨rfl, v, ⟨h1, (World.cell?_of_block (a := ⟨T, 0, none⟩) hT).trans h.c0, fun j => (World.frozen?_of_block (a := ⟨T, j, none⟩) hT).trans (h.ft j), h.tv, fun x hx => h.tn x (swp_perm.mem_iff.1 hx)⟩, hf.more h2 fun x hx => ho x (.inr hx), fun j hj => (World.cell?_of_block (a := ⟨T, j, none⟩) hT).trans (hc j hj), fun x hx => ho x (ownD_swp.1 hx)⟩
theorem pushD {T : Nat} {S : Nat → Prop} {w0 w : World} {l : List En} (h : DP T S w0 l w) (e : En) (hl : l.length ≤ 1000000000) (he : LoneE w e) (hS : S e.b) (hT : e.b ≠ T) (hv : ∀ v, DAt w T v l → v.ownBlock ≠ some e.b) (hn : ∀ x ∈ l, x.b ≠ e.b) :
    Inv w 143 (.pointer (some ⟨T, 0, none⟩)) "Push" (fun r => #[r, .iface 135 (ptr e.b)]) fun en w' => en = .returned (.tuple #[]) ∧ DP T S w0 (l ++ [e]) w' := by
  obtain ⟨v, h, hf, hc, ho⟩ := h
  refine ⟨_, _, m_push _ _, enters Tryz.func174 (by kernel_rfl) rfl _ _, (hpush_calls h e hl he hT (hv v h) hn).mono ?_⟩
  rintro en w' ⟨rfl, v', h1, h2, h3, h4⟩
  refine ⟨rfl, v', h1, hf.more h2 fun x hx => ?_, fun j hj => (h4 j hj).trans (hc j hj), fun x hx => ?_⟩
  · rcases hx with hx | rfl
    · exact ho x hx
    · exact .inl hS
  · rcases hx with rfl | hx | ⟨y, hy, rfl⟩
    · exact ho _ (.inl rfl)
    · rcases h3 with e1 | ⟨g, e1, hg⟩
      · exact ho x (.inr (.inl (e1 ▸ hx)))
      · rw [e1] at hx
        have := hf.size
        exact .inr (by have e2 : g = x := Option.some.inj hx; omega)
    · rcases List.mem_append.1 hy with hy | hy
      · exact ho _ (.inr (.inr ⟨y, hy, rfl⟩))
      · have : y = e := by simpa using hy
        subst this; exact .inl hS
/-- What a heap's Pop leaves. -/
def RD (T : Nat) (S : Nat → Prop) (w0 : World) (a : En) (l : List En) (e : Ending) (w' : World) : Prop := e = .returned (.iface 135 (ptr a.b)) ∧ DP T S w0 l w' ∧ LoneE w' a
theorem popD (T : Nat) (S : Nat → Prop) (w0 : World) : PopC (DP T S w0) 143 (.pointer (some ⟨T, 0, none⟩)) (RD T S w0) := fun l a w h0 => by
  obtain ⟨v, h, hf, hc, ho⟩ := h0
  refine ⟨_, _, m_pop _ _, enters Tryz.func173 (by kernel_rfl) rfl _ _, (hpop_calls h).mono ?_⟩
  rintro en w' ⟨rfl, v', h1, h2, h3, h4⟩
  have hm : a ∈ l ++ [a] := by simp
  refine ⟨rfl, ⟨v', h1, hf.more h3 fun x hx => ?_, fun j hj => (h4 j hj).trans (hc j hj), fun x hx => ?_⟩, ?_⟩
  · rcases hx with rfl | hx
    · exact ho _ (.inl rfl)
    · exact ho _ (.inr (.inl hx))
  · rcases hx with rfl | hx | ⟨y, hy, rfl⟩
    · exact ho _ (.inl rfl)
    · exact ho _ (.inr (.inl (h2 ▸ hx)))
    · exact ho _ (.inr (.inr ⟨y, List.mem_append_left _ hy, rfl⟩))
  · have hb : w'.heap[a.b]? = w.heap[a.b]? := h3.block _ (h.hp.blk hm) (by
      rintro (e | e)
      · exact h.tn a hm e
      · exact h.hp.vn a hm e)
    obtain ⟨i, hi, e⟩ := List.mem_iff_getElem.1 hm
    have hd := (h.hp.nd i hi).keep (w' := w') (by rw [e]; exact hb)
    rw [e] at hd
    exact ⟨hd.c0, hd.c1, ⟨_, hd.c2⟩, hd.fz⟩
/-- Turns, of w1 all but S stands. -/
def TQ (w0 : World) (t : Nat) (vh : Value) (l : List En) (S : Nat → Prop) (w1 : World) (ps : List Nat) (w : World) : Prop := ∃ vp, TAt w0 t vh l w vp ps ∧ Fr S w1 w ∧ ∀ x, x = t ∨ vp.ownBlock = some x → S x ∨ w1.heap.size ≤ x
theorem ifaceT (w0 : World) (t : Nat) (vh : Value) (l : List En) (hh : HpAt w0 vh l) (S : Nat → Prop) (w1 : World) : Iface (TQ w0 t vh l S w1) (ltT l) 182 (.pointer (some ⟨t, 0, none⟩)) := by
  refine ⟨fun ps w ⟨vp, h, hf, ho⟩ => ?_, fun ps w i j hi hj ⟨vp, h, hf, ho⟩ => ?_, fun ps w i j hi hj ⟨vp, h, hf, ho⟩ => ?_⟩
  · refine ⟨_, _, t_len _ _, enters Tryz.func175 (by kernel_rfl) rfl _ _, (tlen_calls h).mono ?_⟩
    rintro e w' ⟨rfl, rfl⟩
    exact ⟨rfl, vp, h, hf, ho⟩
  · refine ⟨_, _, t_less _ _, enters Tryz.func176 (by kernel_rfl) rfl _ _, (tless_calls hh h i j hi hj).mono ?_⟩
    rintro e w' ⟨rfl, h1, h2⟩
    exact ⟨rfl, vp, h1, hf.trans (Fr.of_below h2), ho⟩
  · refine ⟨_, _, t_swap _ _, enters Tryz.func179 (by kernel_rfl) rfl _ _, (tswap_calls h i j hi hj).mono ?_⟩
    rintro e w' ⟨rfl, h1, h2⟩
    exact ⟨rfl, vp, h1, hf.more h2 ho, ho⟩
theorem pushT {w0 w1 w : World} {t : Nat} {vh : Value} {l : List En} {S : Nat → Prop} {ps : List Nat} (h : TQ w0 t vh l S w1 ps w) (p : Nat) (hl : ps.length ≤ 1000000000) (hp : p < l.length) :
    Inv w 182 (.pointer (some ⟨t, 0, none⟩)) "Push" (fun r => #[r, .iface 3 (num p)]) fun en w' => en = .returned (.tuple #[]) ∧ TQ w0 t vh l S w1 (ps ++ [p]) w' := by
  obtain ⟨vp, h, hf, ho⟩ := h
  refine ⟨_, _, t_push _ _, enters Tryz.func178 (by kernel_rfl) rfl _ _, (tpush_calls h p hl hp).mono ?_⟩
  rintro en w' ⟨rfl, vp', h1, h2, h3⟩
  refine ⟨rfl, vp', h1, hf.more h2 ho, fun x hx => ?_⟩
  rcases hx with hx | hx
  · exact ho x (.inl hx)
  · rcases h3 with e1 | ⟨g, e1, hg⟩
    · exact ho x (.inr (e1 ▸ hx))
    · rw [e1] at hx
      have := hf.size
      exact .inr (by have e2 : g = x := Option.some.inj hx; omega)
def RT (w0 : World) (t : Nat) (vh : Value) (l : List En) (S : Nat → Prop) (w1 : World) (p : Nat) (ps : List Nat) (e : Ending) (w' : World) : Prop := e = .returned (.iface 3 (num p)) ∧ TQ w0 t vh l S w1 ps w'
theorem popT (w0 : World) (t : Nat) (vh : Value) (l : List En) (S : Nat → Prop) (w1 : World) : PopC (TQ w0 t vh l S w1) 182 (.pointer (some ⟨t, 0, none⟩)) (RT w0 t vh l S w1) := fun ps p w h0 => by
  obtain ⟨vp, h, hf, ho⟩ := h0
  refine ⟨_, _, t_pop _ _, enters Tryz.func177 (by kernel_rfl) rfl _ _, (tpop_calls h).mono ?_⟩
  rintro en w' ⟨rfl, vp', h1, h2, h3⟩
  refine ⟨rfl, vp', h1, hf.more h2 fun x hx => ho x (.inl hx), fun x hx => ?_⟩
  rcases hx with hx | hx
  · exact ho x (.inl hx)
  · exact ho x (.inr (h3 ▸ hx))
end Go.Proofs.YtmjlhmohglbecaaGreatDoor.Ea
