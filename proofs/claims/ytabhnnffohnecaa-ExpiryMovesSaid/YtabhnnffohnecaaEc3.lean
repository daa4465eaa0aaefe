/- Package expiry: the heap's Push, Pop, behind a pointer. Conditions: the heap as it lies; bounds. -/
import Derived.Test.YtabhnnffohnecaaEc2
import Derived.Maps.AppendAt
namespace Go.Proofs.Ytabhnnffohnecaa.Ea
open Go.ChangeShapes Go.WideShapes Go.ChangeAt Go.RowKit
theorem iPtr : (Try.prog.info? 61).map (fun i => (i.zero, i.size, i.bytes)) = some (some (.pointer none), 1, 8) := by kernel_rfl
theorem ptr_push {w : World} {v : Value} {l : List Nat} {ops : Array Oper} {rest : List Oper} {o : Oper} {a : Act} {Q : Exit → Act → World → Prop} (hO : RowP w v l) (hgd : o.guard = none) (s x : Operand)
    (ho : o.op = .call { callee := .builtin .append, args := #[s, x], argTypes := #[56, 56] }) (hs : a.eval s = v) (c : Nat) (Te : TypeId) (hx : a.eval x = .slice (some ⟨w.heap.size, 0, none⟩) 1 1) (hl : l.length ≤ 1000000000)
    (h : ∀ v' w', RowP w' v' (l ++ [c]) → (w.alloc (.cells #[.pointer (some ⟨c, 0, none⟩)] Te)).grownBy w' v.ownBlock → (v'.ownBlock = v.ownBlock ∨ v'.ownBlock = some (w.heap.size + 1)) → wpList Try.prog ops Q rest (a.put o.dst v') w') : wpList Try.prog ops Q (o :: rest) a (w.alloc (.cells #[.pointer (some ⟨c, 0, none⟩)] Te)) := by
  obtain ⟨i0, hi, hz0, hz1, hz2⟩ := info_parts iPtr
  have hO2 := hO.kept (World.grownBy_alloc w (.cells #[.pointer (some ⟨c, 0, none⟩)] Te) none) (by cases v.ownBlock <;> simp)
  refine wpList_append_own_at _ hgd s x 56 ho 0 61 i0 (.pointer none) 1 8 Try.underlying56 hi hz0 hz1 hz2 rfl (by decide) v l.length (l.map ptr) hs hO2 ⟨w.heap.size, 0, none⟩ 1 1 [.pointer (some ⟨c, 0, none⟩)] hx rfl
    (fun j u hj => by rw [Addr.add_lit, Nat.zero_add, World.cell?_alloc_new]; simpa using hj)
    (fun u hu => by
      simp only [List.mem_cons, List.not_mem_nil, or_false] at hu
      subst hu; rfl) (by unfold maxLen; omega) (by omega) (Nat.zero_le _) ?_
  intro v' w' r1 r2 _ r3
  refine h v' w' ?_ r2 (by simpa using r3)
  unfold RowP
  rw [List.map_append, List.length_append]; exact r1
theorem taP (v : Value) (w : World) : (Instr.typeAssert (.iface 61 v) 20 61 false).run Try.prog w = .ok v w := by kernel_rfl
theorem taI (v : Value) (w : World) : (Instr.typeAssert (.iface 3 v) 20 3 false).run Try.prog w = .ok v w := by kernel_rfl
theorem RowP.form {w : World} {v : Value} {l : List Nat} (h : RowP w v l) : ∃ a n c, v = .slice a n c := by
  rcases h.2 with ⟨e, -⟩ | ⟨g, cap, cur, e, -⟩
  · exact ⟨_, _, _, e⟩
  · exact ⟨_, _, _, e⟩
/-- A heap behind a pointer to block T. -/
structure DAt (w : World) (T : Nat) (v : Value) (l : List En) : Prop where
  hp : HpAt w v l
  c0 : w.cell? ⟨T, 0, none⟩ = some v
  ft : ∀ j, w.frozen? ⟨T, j, none⟩ = false
  tv : v.ownBlock ≠ some T
  tn : ∀ e ∈ l, e.b ≠ T
def ownD (T : Nat) (v : Value) (l : List En) (x : Nat) : Prop := x = T ∨ ownH v l x
/-- A due that stands by itself. -/
structure LoneE (w : World) (e : En) : Prop where
  c0 : w.cell? ⟨e.b, 0, none⟩ = some (.int .i64 e.t)
  c1 : w.cell? ⟨e.b, 1, none⟩ = some (.string e.k)
  c2 : ∃ u, w.cell? ⟨e.b, 2, none⟩ = some u
  fz : ∀ j, w.frozen? ⟨e.b, j, none⟩ = false
section
variable {w w' : World} {T : Nat} {v : Value} {l : List En}
theorem DAt.lt (h : DAt w T v l) : T < w.heap.size := World.block_lt_of_cell? w _ h.c0
theorem DAt.own_lt (h : DAt w T v l) {x : Nat} (hx : ownD T v l x) : x < w.heap.size := by
  rcases hx with rfl | hx | ⟨e, he, rfl⟩
  · exact h.lt
  · exact row_lt h.hp.row hx
  · exact h.hp.blk he
theorem DAt.keep (h : DAt w T v l) (hb : ∀ x, ownD T v l x → w'.heap[x]? = w.heap[x]?) : DAt w' T v l := by
  have hT := hb T (.inl rfl)
  exact ⟨h.hp.keep (fun g hg => hb g (.inr (.inl hg))) (fun e he => hb _ (.inr (.inr ⟨e, he, rfl⟩))), (World.cell?_of_block (a := ⟨T, 0, none⟩) hT).trans h.c0, fun j => (World.frozen?_of_block (a := ⟨T, j, none⟩) hT).trans (h.ft j), h.tv, h.tn⟩
theorem DAt.below (h : DAt w T v l) (hb : Below w.heap.size w w') : DAt w' T v l := h.keep fun x hx => hb.block x (h.own_lt hx)
end
set_option maxHeartbeats 4000000 in
set_option maxRecDepth 100000 in
theorem hpush_calls {w : World} {T : Nat} {v : Value} {l : List En} (h : DAt w T v l) (e : En) (hl : l.length ≤ 1000000000) (he : LoneE w e) (hT : e.b ≠ T) (hv : v.ownBlock ≠ some e.b) (hn : ∀ x ∈ l, x.b ≠ e.b) :
    Calls Try.prog 51 #[.pointer (some ⟨T, 0, none⟩), .iface 61 (ptr e.b)] w fun en w' => en = .returned (.tuple #[]) ∧ ∃ v', DAt w' T v' (l ++ [e]) ∧ Fr (fun y => ownD T v l y ∨ y = e.b) w w' ∧ (v'.ownBlock = v.ownBlock ∨ ∃ g, v'.ownBlock = some g ∧ w.heap.size ≤ g) ∧ ∀ j, j ≠ 0 → w'.cell? ⟨T, j, none⟩ = w.cell? ⟨T, j, none⟩ := by
  have hta := taP (ptr e.b)
  have c0 := h.c0
  have c2 := he.c2
  have f2 := he.fz 2
  have ft := h.ft 0
  have HH := Lib.hid h
  have HE := Lib.hid he
  have HN := Lib.hid (And.intro hv hn)
  obtain ⟨a, c, rfl, -, -, -⟩ := h.hp.slice
  obtain ⟨u, c2⟩ := c2
  have hTe : T ≠ e.b := Ne.symm hT
  have HR : Hid (RowP (w.setCell ⟨e.b, 2, none⟩ (.int .i64 l.length)) (.slice a l.length c) (l.map (·.b))) := Lib.hid (row_block h.hp.row fun g hg => by
    have hge : g ≠ e.b := fun e' => hv (by rw [hg, e'])
    exact Below.heap_setCell w _ _ _ hge)
  have HS : Hid ((w.setCell ⟨e.b, 2, none⟩ (.int .i64 l.length)).heap.size = w.heap.size) := Lib.hid (by simp)
  have HF : Hid (Fr (fun y => y = e.b) w (w.setCell ⟨e.b, 2, none⟩ (.int .i64 l.length)) ∧ (w.setCell ⟨e.b, 2, none⟩ (.int .i64 l.length)).cell? ⟨e.b, 2, none⟩ = some (.int .i64 l.length) ∧ (∀ x, x ≠ ⟨e.b, 2, none⟩ → (w.setCell ⟨e.b, 2, none⟩ (.int .i64 l.length)).cell? x = w.cell? x) ∧ ∀ x, (w.setCell ⟨e.b, 2, none⟩ (.int .i64 l.length)).frozen? x = w.frozen? x) := Lib.hid ⟨Fr.setCell (S := fun y => y = e.b) w ⟨e.b, 2, none⟩ rfl _, World.cell?_setCell_same w _ _ c2, fun x hx => World.cell?_setCell_other _ _ _ _ hx.symm, fun x => World.frozen?_setCell _ _ _ _⟩
  have HT := Lib.hid hT
  clear h he hv hn
  unfold ptr at *
  go_enter Try.func51, Try.ntmps51
  go_wp2_with (at_builtin; refine ptr_push HR.out rfl _ _ rfl rfl e.b _ (by rw [HS.out]; rfl) (by rw [List.length_map]; exact hl) ?_)
  intro v' w2 hr2 hg2 hl2
  obtain ⟨a', n', c', hv'⟩ := hr2.form
  subst hv'
  have hsz1 : ∀ o, ((w.setCell ⟨e.b, 2, none⟩ (.int .i64 l.length)).alloc o).heap.size = w.heap.size + 1 := fun o => by simp
  have hb2 : Fr (fun y => (Value.slice a l.length c).ownBlock = some y) (w.setCell ⟨e.b, 2, none⟩ (.int .i64 l.length)) w2 := (Fr.of_below (bbox _)).trans (Fr.grown hg2 fun i hi => hi)
  have hT2 : w2.heap[T]? = (w.setCell ⟨e.b, 2, none⟩ (.int .i64 l.length)).heap[T]? := hb2.block T (by rw [HS.out]; exact HH.out.lt) HH.out.tv
  have t0 : w2.cell? ⟨T, 0, none⟩ = some (.slice a l.length c) := (World.cell?_of_block (a := ⟨T, 0, none⟩) hT2).trans ((HF.out.2.2.1 _ (addr_ne (.inl hTe))).trans c0)
  have tf : w2.frozen? ⟨T, 0, none⟩ = false := (World.frozen?_of_block (a := ⟨T, 0, none⟩) hT2).trans ((HF.out.2.2.2 _).trans ft)
  have H2 := Lib.hid (And.intro hr2 (And.intro hb2 (And.intro hl2 hT2)))
  clear hr2 hg2 hl2 hsz1 hb2 hT2 hT c0 c2 f2 ft hTe
  go_wp2_with fail
  go_end0
  generalize Value.slice a' n' c' = v' at *
  obtain ⟨hr2, hb2, hl2, hT2⟩ := H2.out
  try rw [HS.out] at hl2
  have hh := HH.out
  obtain ⟨hv, hn⟩ := HN.out
  have hvT : v'.ownBlock ≠ some T := by
    rcases hl2 with e1 | e1
    · rw [e1]; exact hh.tv
    · rw [e1]
      have := hh.lt
      exact fun e2 => by have e3 : w.heap.size + 1 = T := Option.some.inj e2; omega
  have hF3 : Fr (fun y => y = T) w2 (w2.setCell ⟨T, 0, none⟩ v') := Fr.setCell (S := fun y => y = T) w2 ⟨T, 0, none⟩ rfl _
  have hfr : Fr (fun y => ownD T (.slice a l.length c) l y ∨ y = e.b) w (w2.setCell ⟨T, 0, none⟩ v') :=
    ((HF.out.1.mono fun i hi => .inr hi).trans (hb2.mono fun i hi => .inl (.inr (.inl hi)))).trans (hF3.mono fun i hi => .inl (.inl hi))
  refine ⟨rfl, v', ⟨⟨?_, fun i hi => ?_, ?_, fun x hx => ?_⟩, ?_, fun j => ?_, hvT, fun x hx => ?_⟩, hfr, ?_, fun j hj => ?_⟩
  · rw [List.map_append]
    exact row_block hr2 fun g hg => hF3.block g (row_lt hr2 hg) (fun e2 => hvT (by rw [hg, e2]))
  · rw [List.length_append] at hi
    by_cases hil : i < l.length
    · have e1 : (l ++ [e])[i] = l[i] := List.getElem_append_left hil
      rw [e1]
      have hm := List.getElem_mem hil
      refine (hh.hp.nd i hil).keep ?_
      have b1 := HF.out.1.block l[i].b (hh.hp.blk hm) (hn _ hm)
      have b2 := hb2.block l[i].b (by rw [HS.out]; exact hh.hp.blk hm) (hh.hp.vn _ hm)
      have b3 := hF3.block l[i].b (Nat.lt_of_lt_of_le (by rw [HS.out]; exact hh.hp.blk hm) hb2.size) (hh.tn _ hm)
      exact b3.trans (b2.trans b1)
    · have e0 : i = l.length := by simp at hi; omega
      subst e0
      have e1 : (l ++ [e])[l.length] = e := by simp
      rw [e1]
      have hle : e.b < w.heap.size := World.block_lt_of_cell? w _ HE.out.c0
      have b2 := hb2.block e.b (by rw [HS.out]; exact hle) hv
      have b3 := hF3.block e.b (Nat.lt_of_lt_of_le (by rw [HS.out]; exact hle) hb2.size) HT.out
      have bb : ∀ j, (w2.setCell ⟨T, 0, none⟩ v').cell? ⟨e.b, j, none⟩ = (w.setCell ⟨e.b, 2, none⟩ (.int .i64 l.length)).cell? ⟨e.b, j, none⟩ := fun j => World.cell?_of_block (a := ⟨e.b, j, none⟩) (b3.trans b2)
      refine ⟨(bb 0).trans ((HF.out.2.2.1 _ (addr_ne (.inr (by decide)))).trans HE.out.c0), (bb 1).trans ((HF.out.2.2.1 _ (addr_ne (.inr (by decide)))).trans HE.out.c1), (bb 2).trans HF.out.2.1, fun j => ?_⟩
      exact (World.frozen?_of_block (a := ⟨e.b, j, none⟩) (b3.trans b2)).trans ((HF.out.2.2.2 _).trans (HE.out.fz j))
  · rw [List.map_append]
    refine List.nodup_append.2 ⟨hh.hp.ne, by simp, fun x hx y hy e2 => ?_⟩
    obtain ⟨z, hz, rfl⟩ := List.mem_map.1 hx
    have hy : y = e.b := by simpa using hy
    exact hn z hz (e2.trans hy)
  · have hxw : x.b < w.heap.size := by
      rcases List.mem_append.1 hx with h1 | h1
      · exact hh.hp.blk h1
      · have : x = e := by simpa using h1
        subst this
        exact World.block_lt_of_cell? w _ HE.out.c0
    rcases hl2 with e1 | e1
    · rw [e1]
      rcases List.mem_append.1 hx with h1 | h1
      · exact hh.hp.vn x h1
      · have : x = e := by simpa using h1
        subst this; exact hv
    · rw [e1]
      exact fun e2 => by have e3 : w.heap.size + 1 = x.b := Option.some.inj e2; omega
  · exact World.cell?_setCell_same _ _ _ t0
  · rw [World.frozen?_setCell]
    exact (World.frozen?_of_block (a := ⟨T, j, none⟩) hT2).trans ((HF.out.2.2.2 _).trans (hh.ft j))
  · rcases List.mem_append.1 hx with h1 | h1
    · exact hh.tn x h1
    · have : x = e := by simpa using h1
      subst this; exact HT.out
  · rcases hl2 with e1 | e1
    · exact .inl e1
    · exact .inr ⟨_, e1, by omega⟩
  · rw [World.cell?_setCell_other _ _ _ _ (addr_ne (.inr (Ne.symm hj)))]
    exact (World.cell?_of_block (a := ⟨T, j, none⟩) hT2).trans (HF.out.2.2.1 _ (addr_ne (.inl (Ne.symm HT.out))))
end Go.Proofs.Ytabhnnffohnecaa.Ea
