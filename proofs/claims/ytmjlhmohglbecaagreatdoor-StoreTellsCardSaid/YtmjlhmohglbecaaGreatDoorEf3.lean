/- Package expiry: first: the first ones that have ended, in order. Conditions: the heap as it lies; bounds. -/
import Derived.Test.YtmjlhmohglbecaaGreatDoorEf2
import Derived.Test.YtmjlhmohglbecaaGreatDoorEr1
namespace Go.Proofs.YtmjlhmohglbecaaGreatDoor.Ea
open Go.ChangeShapes Go.WideShapes Go.ChangeAt Go.RowKit
def ownT (t : Nat) (vp : Value) (y : Nat) : Prop := y = t ∨ vp.ownBlock = some y
theorem TAt.keepF {w0 w w' : World} {t : Nat} {vh vp : Value} {l : List En} {ps : List Nat} {O : Nat → Prop} (h : TAt w0 t vh l w vp ps) (hf : Fr O w w') (h1 : ¬ O t) (h2 : ∀ g, vp.ownBlock = some g → ¬ O g) (h3 : ∀ x, x < w0.heap.size → ¬ O x) : TAt w0 t vh l w' vp ps := by
  have hT := hf.block t h.lt h1
  exact ⟨h.bel.trans (hf.below h.bel.size h3), h.tb, (World.cell?_of_block (a := ⟨t, 0, none⟩) hT).trans h.c0, (World.cell?_of_block (a := ⟨t, 1, none⟩) hT).trans h.c1, fun j => (World.frozen?_of_block (a := ⟨t, j, none⟩) hT).trans (h.ft j), row_block h.row fun g hg => hf.block g (row_lt h.row hg) (h2 g hg), h.pt, h.bd⟩
/-- The row of what has been found, beside turns. -/
structure RI (w0 : World) (t : Nat) (vp : Value) (wr : World) (v : Value) (out : List Du) : Prop where
  row : wr.ownsRow w0.heap.size 145 2 v out.length (cellsD out)
  vt : v.ownBlock ≠ some t
  vv : ∀ g, v.ownBlock = some g → vp.ownBlock ≠ some g
/-- What a call on turns leaves. -/
theorem RI.turns {w0 wr w' : World} {t : Nat} {vh vp v : Value} {l : List En} {ps' : List Nat} {out : List Du} (h : RI w0 t vp wr v out) (hq : TQ w0 t vh l (ownT t vp) wr ps' w') : ∃ vp', TAt w0 t vh l w' vp' ps' ∧ RI w0 t vp' w' v out := by
  obtain ⟨vp', h1, hf, ho⟩ := hq
  have hn : ∀ g, v.ownBlock = some g → ¬ ownT t vp g := fun g hg e => by
    rcases e with e | e
    · exact h.vt (by rw [hg, e])
    · exact h.vv g hg e
  refine ⟨vp', h1, row_block h.row fun g hg => hf.block g (row_lt h.row hg) (hn g hg), h.vt, fun g hg e => ?_⟩
  rcases ho g (.inr e) with e2 | e2
  · exact hn g hg e2
  · have := row_lt h.row hg
    omega
theorem TAt.tq {w0 w : World} {t : Nat} {vh vp : Value} {l : List En} {ps : List Nat} (h : TAt w0 t vh l w vp ps) : TQ w0 t vh l (ownT t vp) w ps w := ⟨vp, h, Fr.refl _ _, fun _ hx => .inl hx⟩
/-- What one more found leaves. -/
theorem RI.more {w0 w w' : World} {t : Nat} {vh vp v v' : Value} {l : List En} {ps : List Nat} {out : List Du} {m : Du} {Te : TypeId} (h : RI w0 t vp w v out) (ht : TAt w0 t vh l w vp ps) (h1 : w'.ownsRow w0.heap.size 145 2 v' (out.length + 1) (cellsD (out ++ [m]))) (h2 : (w.alloc (.cells #[.int .i64 m.1, .string m.2] Te)).grownBy w' v.ownBlock) (h3 : v'.ownBlock = v.ownBlock ∨ v'.ownBlock = some (w.heap.size + 1)) :
    TAt w0 t vh l w' vp ps ∧ RI w0 t vp w' v' (out ++ [m]) := by
  have hf : Fr (fun y => v.ownBlock = some y) w w' := (Fr.of_below (bbox _)).trans (Fr.grown h2 fun _ hi => hi)
  refine ⟨ht.keepF hf h.vt (fun g hg e => h.vv g e hg) fun x hx e => ?_, ?_, ?_, fun g hg e => ?_⟩
  · have := (h.row.lt x e).1
    omega
  · rw [List.length_append]; exact h1
  · rcases h3 with e | e
    · rw [e]; exact h.vt
    · rw [e]
      have := ht.lt
      exact fun e2 => by have e3 : w.heap.size + 1 = t := Option.some.inj e2; omega
  · rcases h3 with e1 | e1
    · exact h.vv g (e1 ▸ hg) e
    · rw [e1] at hg
      have := row_lt ht.row e
      have e3 : w.heap.size + 1 = g := Option.some.inj hg
      omega
/-- What the loop keeps. -/
structure LI (w0 : World) (t : Nat) (vh : Value) (l : List En) (now : Int) (most : Nat) (wr : World) (v vp : Value) (ps tk : List Nat) : Prop where
  ta : TAt w0 t vh l wr vp ps
  hp : Hp (leB (ltT l)) ps ps.length
  fro : Fro l tk ps
  ri : RI w0 t vp wr v (tk.map (ent l))
  nw : ∀ o ∈ tk, (ent l o).1 ≤ now
  ms : tk.length ≤ most
theorem nd_le : ∀ {l r : List Nat}, l.Nodup → (∀ x ∈ l, x ∈ r) → l.length ≤ r.length
  | [], _, _, _ => Nat.zero_le _
  | x :: l, r, hn, hs => by
    obtain ⟨h1, h2⟩ := List.nodup_cons.1 hn
    have hx := hs x (List.mem_cons_self ..)
    have h3 := nd_le (r := r.erase x) h2 (fun y hy => (List.mem_erase_of_ne (fun (e : y = x) => h1 (by rw [← e]; exact hy))).2 (hs y (List.mem_cons_of_mem _ hy)))
    rw [List.length_erase_of_mem hx] at h3
    have := List.length_pos_of_mem hx
    rw [List.length_cons]
    omega
theorem Fro.len {l : List En} {tk fr : List Nat} (h : Fro l tk fr) : tk.length + fr.length ≤ l.length := by
  have h1 := nd_le h.nd (r := List.range l.length) fun p hp => List.mem_range.2 (h.lt p hp)
  rw [List.length_append, List.length_range] at h1
  exact h1
theorem LI.done {w0 : World} {t : Nat} {vh : Value} {l : List En} {now : Int} {most : Nat} {wr : World} {v vp : Value} {ps tk : List Nat} (h : LI w0 t vh l now most wr v vp ps tk) (hb : Below w0.heap.size w0 wr) {S : List Du} (hd : dueD now most S = tk.map (ent l)) : RowD w0 wr v (dueD now most S) := by
  rw [hd]
  exact ⟨h.ri.row, hb⟩
/-- None is left. -/
theorem LI.none {w0 : World} {t : Nat} {vh : Value} {l : List En} {now : Int} {most : Nat} {wr : World} {v vp : Value} {tk : List Nat} (h : LI w0 t vh l now most wr v vp [] tk) (hH : Hp (leB ltN) l l.length) {S : List Du} (hS : UpD S) (hp : List.Perm (l.map En.d) S) : dueD now most S = tk.map (ent l) := by
  obtain ⟨rest, e, hr⟩ := h.fro.out hS hp
  refine due_of e (fun o ho => ?_) (.inr ⟨by rw [List.length_map]; exact h.ms, fun r hr' => ?_⟩)
  · obtain ⟨p, hp', rfl⟩ := List.mem_map.1 ho
    exact h.nw p hp'
  · obtain ⟨q, hq, hn, -⟩ := hr r hr'
    obtain ⟨a, ha, -⟩ := h.fro.anc hH q hq hn
    cases ha
/-- There are as many as were asked for. -/
theorem LI.full {w0 : World} {t : Nat} {vh : Value} {l : List En} {now : Int} {most : Nat} {wr : World} {v vp : Value} {ps tk : List Nat} (h : LI w0 t vh l now most wr v vp ps tk) (hm : ¬ tk.length < most) {S : List Du} (hS : UpD S) (hp : List.Perm (l.map En.d) S) : dueD now most S = tk.map (ent l) := by
  obtain ⟨rest, e, hr⟩ := h.fro.out hS hp
  refine due_of e (fun o ho => ?_) (.inl (by rw [List.length_map]; have := h.ms; omega))
  obtain ⟨p, hp', rfl⟩ := List.mem_map.1 ho
  exact h.nw p hp'
/-- The next one ends later. -/
theorem LI.late {w0 : World} {t : Nat} {vh : Value} {l : List En} {now : Int} {most : Nat} {wr : World} {v vp : Value} {ps tk : List Nat} (h : LI w0 t vh l now most wr v vp ps tk) (hH : Hp (leB ltN) l l.length) (hk : (l.map (·.k)).Nodup) {p : Nat} (hpf : p ∈ ps) (hm : ∀ q ∈ ps, ltE (ent l q) (ent l p) = false) (hl : now < (ent l p).1) {S : List Du} (hS : UpD S) (hp : List.Perm (l.map En.d) S) : dueD now most S = tk.map (ent l) := by
  obtain ⟨rest, e, hr⟩ := h.fro.out hS hp
  refine due_of e (fun o ho => ?_) (.inr ⟨by rw [List.length_map]; exact h.ms, fun r hr' => ?_⟩)
  · obtain ⟨p, hp', rfl⟩ := List.mem_map.1 ho
    exact h.nw p hp'
  · obtain ⟨q, hq, hn, rfl⟩ := hr r hr'
    by_cases e : q = p
    · subst e; exact hl
    · rcases ltE_iff.1 (h.fro.least hH hk hpf hm q hq hn e) with h1 | h1 <;> omega
theorem heap_min {lt : Nat → Nat → Bool} {ps : List Nat} {n : Nat} (h : Hp (leB lt) ps (n + 1)) (o : Ord (leB lt)) (hl : ps.length = n + 1) : ∀ q ∈ ps, lt q (ps[0]'(by omega)) = false := fun q hq => by
  obtain ⟨i, hi, rfl⟩ := List.mem_iff_getElem.1 hq
  exact h.first o (by omega) i (by omega) _ _ (List.getElem?_eq_getElem (by omega)) (List.getElem?_eq_getElem hi)
theorem kids_eq (n p : Nat) : kidsOf n p = (if 2 * p + 1 < n then [2 * p + 1] else []) ++ (if 2 * p + 2 < n then [2 * p + 2] else []) := by
  unfold kidsOf
  rw [List.filter_cons, List.filter_cons]
  by_cases h1 : 2 * p + 1 < n
  · by_cases h2 : 2 * p + 2 < n <;> simp [h1, h2]
  · have h2 : ¬ 2 * p + 2 < n := by omega
    simp [h1, h2]
set_option maxHeartbeats 8000000 in
set_option maxRecDepth 100000 in
theorem first_calls {w0 : World} {vh : Value} {l : List En} (hh : HpAt w0 vh l) (hH : Hp (leB ltN) l l.length) (hk : (l.map (·.k)).Nodup) (hl : l.length ≤ 1000000) {S : List Du} (hS : UpD S) (hp : List.Perm (l.map En.d) S) (now most : Int) (hm1 : -9223372036854775808 ≤ most) (hm2 : most ≤ 9223372036854775807) :
    Calls Tryz.prog 87 #[vh, .int .i64 now, .int .i64 most] w0 fun e w' => ∃ v, e = .returned v ∧ RowD w0 w' v (dueD now most.toNat S) := by
  have HH := Lib.hid hh
  have HP := Lib.hid (And.intro hH (And.intro hk (And.intro hS hp)))
  obtain ⟨a, c, rfl, -, -, -⟩ := hh.slice
  clear hh hH hk hS hp
  have HB : Hid (∀ O, Below w0.heap.size w0 (w0.alloc O)) := Lib.hid fun O => bbox O
  have HT0 : Hid (TAt w0 w0.heap.size (.slice a l.length c) l (w0.alloc (.cells #[.slice a l.length c, .slice none 0 0] 185)) (.slice none 0 0) []) := Lib.hid ⟨bbox _, Nat.le_refl _, World.cell?_alloc_new w0 _ _ 0, World.cell?_alloc_new w0 _ _ 1, fun j => by simp, World.ownsRow_nil _ _ _ _, by simp [Value.ownBlock], fun p hp => by cases hp⟩
  go_enter Tryz.func87, Tryz.ntmps87
  have HFo := Lib.hid (follow_calls (S := ownT w0.heap.size (.slice none 0 0)) HH.out (HT0.out.tq) (fun k h0 hk => absurd hk (by simp)) (by decide) 0)
  rw [show ((0 : Nat) : Int) = 0 from rfl] at HFo
  go_wp2_with fail
  refine HFo.out.mono ?_; rintro en w1 ⟨rfl, ps0, hq0, hpm0, hh0⟩
  have HL0 : Hid (∃ vp ps tk, LI w0 w0.heap.size (.slice a l.length c) l now most.toNat w1 (.slice none 0 0) vp ps tk ∧ tk.length = 0) := Lib.hid (by
    obtain ⟨vp', t1, r1⟩ := RI.turns (vp := .slice none 0 0) (v := .slice none 0 0) (out := []) ⟨World.ownsRow_nil _ _ _ _, by simp [Value.ownBlock], fun g hg => by cases hg⟩ hq0
    exact ⟨vp', ps0, [], ⟨t1, hh0, (Fro.start l).perm hpm0, r1, (fun o ho => by cases ho), Nat.zero_le _⟩, rfl⟩)
  clear hq0 hpm0 hh0 HFo HT0 HB
  go_wp2_with fail
  go_loopg [7] (l.length + 1) (fun g v wr => ∃ vp ps tk, Hid (LI w0 w0.heap.size (.slice a l.length c) l now most.toNat wr v vp ps tk) ∧ l.length - tk.length ≤ g)
  case atStart =>
    obtain ⟨vp, ps, tk, h1, h2⟩ := HL0.out
    exact ⟨vp, ps, tk, Lib.hid h1, by omega⟩
  case round =>
    obtain ⟨vp, ps, tk, HL, hg⟩ := hrel
    clear HL0
    have hfl := HL.out.fro.len
    obtain ⟨pa, pc, hvp, -, -, -⟩ := HL.out.ta.row.form
    have ht1 := HL.out.ta.c1
    obtain ⟨va, vc, hv7, -, -⟩ : ∃ a c, u7 = .slice a tk.length c ∧ True ∧ True := by
      rcases HL.out.ri.row.2 with ⟨e, hn⟩ | ⟨g, cap, cur, e, -⟩
      · refine ⟨none, 0, ?_, trivial, trivial⟩
        rw [List.length_map] at hn
        rw [e, hn]
      · rw [List.length_map] at e
        exact ⟨_, _, e, trivial, trivial⟩
    subst hvp hv7
    by_cases hps : ps = []
    case pos =>
      subst hps
      have HD := Lib.hid (HL.out.done HL.out.ta.bel (HL.out.none HP.out.1 HP.out.2.2.1 HP.out.2.2.2))
      go_wp2_with fail
      go_ret
      exact ⟨_, rfl, HD.out⟩
    case neg =>
      have hpos : 0 < ps.length := List.length_pos_iff.2 hps
      have hposI : (0 : Int) < (ps.length : Int) := by omega
      by_cases hmost : tk.length < most.toNat
      case neg =>
        have hmI : ¬ ((tk.length : Int) < most) := by omega
        have HD := Lib.hid (HL.out.done HL.out.ta.bel (HL.out.full hmost HP.out.2.2.1 HP.out.2.2.2))
        go_wp2_with fail
        go_ret
        exact ⟨_, rfl, HD.out⟩
      case pos =>
        have hmI : (tk.length : Int) < most := by omega
        obtain ⟨n, hn⟩ : ∃ n, ps.length = n + 1 := ⟨ps.length - 1, by omega⟩
        have hHp := HL.out.hp
        rw [hn] at hHp
        have HPop := Lib.hid (pop_calls (val := fun p => .iface 3 (num p)) (ifaceT w0 w0.heap.size (.slice a l.length c) l HH.out (ownT w0.heap.size (.slice pa ps.length pc)) wr) (ordT l) (popT w0 w0.heap.size (.slice a l.length c) l (ownT w0.heap.size (.slice pa ps.length pc)) wr) (fun _ _ _ _ h => h.1) wr ps n hn (by omega) HL.out.ta.tq hHp)
        have HMin : Hid (∀ q ∈ ps, ltE (ent l q) (ent l (ps[0]'hpos)) = false) := Lib.hid (heap_min hHp (ordT l) hn)
        have HMem : Hid (ps[0]'hpos ∈ ps) := Lib.hid (List.getElem_mem hpos)
        have hpl : ps[0]'hpos < l.length := HL.out.ta.bd _ (List.getElem_mem hpos)
        generalize ps[0]'hpos = p at *
        have hta := taI (num p)
        clear hHp
        unfold num at hta HPop
        go_wp2_with fail
        refine HPop.out.mono ?_; rintro en w2 ⟨ps', rfl, ⟨-, hq2⟩, hpm2, hh2⟩
        obtain ⟨vp2, ht2, hr2⟩ := HL.out.ri.turns hq2
        have HT2 := Lib.hid (And.intro ht2 (And.intro hr2 (And.intro hpm2 hh2)))
        have hh' := HH.out.below ht2.bel
        obtain ⟨a', c', ea, -, -, hat⟩ := hh'.slice
        injection ea with ea1 ea2 ea3
        subst ea1 ea3
        obtain ⟨g, hag, d0, -⟩ := hat p hpl
        have n0 := (hh'.nd p hpl).c0
        have n1 := (hh'.nd p hpl).c1
        have hpI : (p : Int) < (l.length : Int) := by omega
        have HEnt : Hid (ent l p = (l[p].t, l[p].k)) := Lib.hid (ent_at hpl)
        unfold ptr at d0
        generalize l[p].b = b at *
        generalize l[p].t = tm at *
        generalize l[p].k = k at *
        clear hq2 ht2 hr2 hpm2 hh2 hh' hat HPop ht1 ea2
        subst hag
        by_cases hnow : now < tm
        case pos =>
          have HD := Lib.hid (HL.out.late HP.out.1 HP.out.2.1 HMem.out HMin.out (by rw [HEnt.out]; exact hnow) HP.out.2.2.1 HP.out.2.2.2)
          go_wp2_with fail
          go_ret
          exact ⟨_, rfl, by rw [HD.out]; exact ⟨HT2.out.2.1.row, HT2.out.1.bel⟩⟩
        case neg =>
          have hb2 : w0.heap.size ≤ w2.heap.size := HT2.out.1.bel.size
          go_wp2_with (at_builtin; refine due_push2 HT2.out.2.1.row hb2 rfl _ _ rfl rfl (tm, k) _ rfl (by rw [List.length_map]; omega) ?_)
          intro v3 w3 hr3 hg3 hl3
          have hmore := RI.more (m := (tm, k)) HT2.out.2.1 HT2.out.1 (by rw [List.length_map]; exact hr3) hg3 hl3
          rw [← HEnt.out] at hmore
          have H3 := Lib.hid hmore
          clear hr3 hg3 hl3 hmore d0 n0 n1
          have HF1 := Lib.hid (follow_calls HH.out H3.out.1.tq (by
            have e := HT2.out.2.2.1.length_eq
            rw [List.length_append] at e
            have e2 : ps'.length = n := by simp at e; omega
            rw [e2]; exact HT2.out.2.2.2) (by
            have e := HT2.out.2.2.1.length_eq
            rw [List.length_append] at e
            simp at e; omega) (2 * p + 1))
          rw [show (((2 * p + 1 : Nat)) : Int) = 2 * (p : Int) + 1 by omega] at HF1
          go_wp2_with fail
          refine HF1.out.mono ?_; rintro en w4 ⟨rfl, ps4, hq4, hpm4, hh4⟩
          obtain ⟨vp4, ht4, hr4⟩ := H3.out.2.turns hq4
          have H4 := Lib.hid (And.intro ht4 (And.intro hr4 (And.intro hpm4 hh4)))
          clear hq4 hpm4 hh4 ht4 hr4 HF1
          have hl4 : ps4.length ≤ ps.length + 1 := by
            have e := HT2.out.2.2.1.length_eq
            have e4 := H4.out.2.2.1.length_eq
            rw [List.length_append] at e e4
            have : (if 2 * p + 1 < l.length then [2 * p + 1] else []).length ≤ 1 := by split <;> simp
            simp at e
            omega
          have HF2 := Lib.hid (follow_calls HH.out H4.out.1.tq H4.out.2.2.2 (by omega) (2 * p + 2))
          rw [show (((2 * p + 2 : Nat)) : Int) = 2 * (p : Int) + 2 by omega] at HF2
          go_wp2_with fail
          refine HF2.out.mono ?_; rintro en w5 ⟨rfl, ps5, hq5, hpm5, hh5⟩
          obtain ⟨vp5, ht5, hr5⟩ := H4.out.2.1.turns hq5
          have HZ : Hid (LI w0 w0.heap.size (.slice (some ⟨g, 0, none⟩) l.length c) l now most.toNat w5 v3 vp5 ps5 (tk ++ [p])) := Lib.hid (by
            refine ⟨ht5, hh5, ?_, ?_, fun o ho => ?_, ?_⟩
            · refine (HL.out.fro.take HP.out.1 HP.out.2.1 HT2.out.2.2.1 HMin.out).perm ?_
              rw [kids_eq, ← List.append_assoc]
              exact hpm5.trans (H4.out.2.2.1.append_right _)
            · rw [List.map_append]; exact hr5
            · rcases List.mem_append.1 ho with h | h
              · exact HL.out.nw o h
              · have : o = p := by simpa using h
                rw [this, HEnt.out]
                show tm ≤ now
                omega
            · rw [List.length_append]
              show _ + 1 ≤ _
              omega)
          clear hq5 hpm5 hh5 ht5 hr5 HF2 H4 H3
          go_wp2_with fail
          go_roundg (gk - 1)
          case measure =>
            have := HL.out.fro.len
            omega
          case rel =>
            refine ⟨_, _, _, HZ, ?_⟩
            rw [List.length_append]
            show _ - (_ + 1) ≤ _
            omega
end Go.Proofs.YtmjlhmohglbecaaGreatDoor.Ea
