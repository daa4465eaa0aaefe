/- way: the nodes of the way to a key, as an iterator. Conditions: the tree as it lies; bounds. -/
import Derived.RangeFuncNested
import Derived.RangeFuncBound
import Derived.RangeFuncCalls
import Derived.RangeFuncLeaves
import Derived.RangeFuncFrom
import Derived.Shelf.Abstract
import Derived.Shelf.RegionOpen
import Derived.WalkKit
import Derived.OwnWalkIn
import Derived.TacticsInMore
import Derived.LoopNIn
import Derived.LoopIn
import Derived.Test.YtnmncjeplfkdpaaPbC
namespace Go.Proofs.Ytnmncjeplfkdpaa.Pb
open Go.RowKit Go.Shelf
attribute [local go_sem] Oper.semAt_some
/-- On the way: its text is a beginning of the key, or no shorter. -/
def On (t : Tr) (K : T) (b : Nat) : Prop := b ∈ t.B ∧ (t.tx b <+: K ∨ K <+: t.tx b)
theorem Nx.on {t : Tr} {K : T} {b c : Nat} (ho : Ok t) (hb : b ∈ t.B) (h : Nx t b K (some c)) : On t K c ∧ (t.tx b).length < (t.tx c).length := by
  rcases h with ⟨e, -⟩ | ⟨hl, d, hd, e, hp⟩
  · cases e
  · injection e with e
    subst e
    exact ⟨⟨(ho.kin b hb c hd).1, hp⟩, ho.klen hb hd⟩
theorem Nx.det {t : Tr} {K : T} {b : Nat} (ho : Ok t) (hb : b ∈ t.B) {o p : Option Nat} (h : Nx t b K o) (k : Nx t b K p) : o = p := by
  have key : ∀ c ∈ t.ks b, (t.tx b).length < K.length → (t.tx c <+: K ∨ K <+: t.tx c) → ∃ x, t.tx b ++ [x] <+: t.tx c ∧ t.tx b ++ [x] <+: K := fun c hc hl hp => by
    obtain ⟨x, hx⟩ := ho.kext hb hc
    refine ⟨x, hx, ?_⟩
    rcases hp with hp | hp
    · exact hx.trans hp
    · rcases pre_cmp hx hp with h1 | h1
      · exact h1
      · have h2 := h1.length_le
        rw [List.length_append] at h2
        have h3 : [x].length = 1 := rfl
        rw [h1.eq_of_length (by rw [List.length_append]; omega)]
        exact List.prefix_refl _
  rcases h with ⟨rfl, h⟩ | ⟨hl, c, hc, rfl, hp⟩ <;> rcases k with ⟨rfl, k⟩ | ⟨hl', d, hd, rfl, hq⟩
  · rfl
  · rcases h with h | h
    · omega
    · exact absurd hq (fun e => (h d hd).elim (fun h1 h2 => e.elim h1 h2))
  · rcases k with k | k
    · omega
    · exact absurd hp (fun e => (k c hc).elim (fun h1 h2 => e.elim h1 h2))
  · obtain ⟨x, h1, h2⟩ := key c hc hl hp
    obtain ⟨y, k1, k2⟩ := key d hd hl hq
    have := ext_one h2 k2
    subst this
    rw [ho.kone hb hc hd h1 k1]
/-- The nodes of the way from one on. -/
inductive Way (t : Tr) (K : T) : Nat → List Nat → Prop
  | last {b : Nat} : Nx t b K none → Way t K b [b]
  | more {b c : Nat} {l : List Nat} : Nx t b K (some c) → Way t K c l → Way t K b (b :: l)
theorem nx_ex (t : Tr) (b : Nat) (K : T) : ∃ o, Nx t b K o := by
  by_cases hl : K.length ≤ (t.tx b).length
  · exact ⟨none, .inl ⟨rfl, .inl hl⟩⟩
  · by_cases hc : ∃ c ∈ t.ks b, t.tx c <+: K ∨ K <+: t.tx c
    · obtain ⟨c, h1, h2⟩ := hc
      exact ⟨some c, .inr ⟨by omega, c, h1, rfl, h2⟩⟩
    · exact ⟨none, .inl ⟨rfl, .inr fun c h1 => ⟨fun h2 => hc ⟨c, h1, .inl h2⟩, fun h2 => hc ⟨c, h1, .inr h2⟩⟩⟩⟩
theorem way_ex {t : Tr} (ho : Ok t) (K : T) : ∀ (n b : Nat), b ∈ t.B → K.length - (t.tx b).length ≤ n → ∃ l, Way t K b l
  | 0, b, hb, hn => ⟨[b], .last (.inl ⟨rfl, .inl (by omega)⟩)⟩
  | n + 1, b, hb, hn => by
    obtain ⟨o, h⟩ := nx_ex t b K
    cases o with
    | none => exact ⟨[b], .last h⟩
    | some c =>
      obtain ⟨h1, h2⟩ := h.on ho hb
      obtain ⟨l, hl⟩ := way_ex ho K n c h1.1 (by omega)
      exact ⟨b :: l, .more h hl⟩
/-- All that begins with the key begins with the node's text. -/
def Inv (t : Tr) (K : T) (b : Nat) : Prop := ∀ d ∈ t.B, K <+: t.tx d → t.tx b <+: t.tx d
theorem Nx.inv {t : Tr} {K : T} {b c : Nat} (ho : Ok t) (hb : b ∈ t.B) (h : Nx t b K (some c)) (hi : Inv t K b) : Inv t K c := fun d hd hp => by
  have hl : (t.tx b).length < K.length := by
    rcases h with ⟨e, -⟩ | ⟨hl, -⟩
    · cases e
    · exact hl
  obtain ⟨c', h1, h2⟩ := ho.kid b hb d hd (hi d hd hp) (fun e => by have := hp.length_le; rw [← e] at this; omega)
  have h3 : Nx t b K (some c') := .inr ⟨hl, c', h1, rfl, pre_cmp h2 hp⟩
  have := h.det ho hb h3
  injection this with this
  rw [this]; exact h2
/-- The last node of the way. -/
structure Lst (t : Tr) (K : T) (b : Nat) : Prop where
  on : On t K b
  inv : Inv t K b
  nx : Nx t b K none
theorem way_last {t : Tr} {K : T} (ho : Ok t) {b : Nat} {xs : List Nat} (h : Way t K b xs) (hon : On t K b) (hi : Inv t K b) : ∃ b', xs.getLast? = some b' ∧ Lst t K b' := by
  induction h with
  | last h => exact ⟨_, rfl, hon, hi, h⟩
  | @more b c l h hl ih =>
    obtain ⟨b', e, k⟩ := ih (h.on ho hon.1).1 (h.inv ho hon.1 hi)
    refine ⟨b', ?_, k⟩
    cases l with
    | nil => cases e
    | cons x l => rw [List.getLast?_cons_cons]; exact e
/-- Too short a text at the last node: nothing begins with the key. -/
theorem Lst.short {t : Tr} {K : T} {b : Nat} (ho : Ok t) (h : Lst t K b) (hl : (t.tx b).length < K.length) {d : Nat} (hd : d ∈ t.B) : ¬ K <+: t.tx d := fun hp => by
  obtain ⟨c', h1, h2⟩ := ho.kid b h.on.1 d hd (h.inv d hd hp) (fun e => by have := hp.length_le; rw [← e] at this; omega)
  have h3 : Nx t b K (some c') := .inr ⟨hl, c', h1, rfl, pre_cmp h2 hp⟩
  have := h.nx.det ho h.on.1 h3
  cases this
/-- Else: what begins with the key is what begins with its text. -/
theorem Lst.long {t : Tr} {K : T} {b : Nat} (h : Lst t K b) (hl : K.length ≤ (t.tx b).length) {d : Nat} (hd : d ∈ t.B) : K <+: t.tx d ↔ t.tx b <+: t.tx d := by
  refine ⟨h.inv d hd, fun hp => ?_⟩
  rcases h.on.2 with h1 | h1
  · rw [← h1.eq_of_length (Nat.le_antisymm h1.length_le hl)]; exact hp
  · exact h1.trans hp
theorem Lst.get {t : Tr} {K : T} {b : Nat} (ho : Ok t) (h : Lst t K b) : look t K = if t.tx b = K then t.nm b else none := by
  by_cases e : t.tx b = K
  · rw [if_pos e, ← e, look_at ho h.on.1]
  · rw [if_neg e, look_no]
    intro d hd he
    have hp : K <+: t.tx d := by rw [he]; exact List.prefix_refl _
    rcases Nat.lt_or_ge (t.tx b).length K.length with hl | hl
    · exact h.short ho hl hd hp
    · have h1 := (h.long hl hd).1 hp
      rw [he] at h1
      exact e (h1.eq_of_length (Nat.le_antisymm h1.length_le hl))
/-- What a round that goes on keeps. -/
def Kps (n₀ Bk : Nat) (W W' : World) : Prop := ∀ y, y < n₀ ∨ y = Bk → W'.heap[y]? = W.heap[y]?
theorem Kps.trans {n₀ Bk : Nat} {A B C : World} (h : Kps n₀ Bk A B) (k : Kps n₀ Bk B C) : Kps n₀ Bk A C := fun y hy => (k y hy).trans (h y hy)
theorem Kps.put {n₀ Bk s : Nat} (h0 : n₀ ≤ s) (h1 : Bk < s) (W : World) (l : Nat) (o o' : Obj) (hl : s ≤ l) (_ : W.heap[l]? = some o) (_ : o.isCells = false) (_ : o.isWalk = false) : Kps n₀ Bk W (W.putObj l o') := fun y hy => World.putObj_heap_other (by omega)
theorem Kps.set {n₀ Bk : Nat} (W : World) (p : Addr) (v : Value) (h0 : n₀ ≤ p.block) (h1 : p.block ≠ Bk) : Kps n₀ Bk W (W.setCell p v) := fun y hy => Below.heap_setCell W p v y (by omega)
/-- A node of the tree. -/
abbrev Nd (t : Tr) : Type := { b : Nat // b ∈ t.B }
def lft (t : Tr) : Value → Nat
  | .pointer (some a) => 140737488351233 - (t.tx a.block).length
  | _ => 0
theorem grow0 {w w' : World} (hb : Below w.heap.size w w') : w.grownBy w' none := ⟨hb.os, hb.tape, hb.output, hb.size, fun k hk _ => hb.block k hk⟩
set_option maxRecDepth 100000 in
set_option maxHeartbeats 4000000 in
theorem way_calls (w : World) (A : Nat) (key : ByteArray) :
    Calls Try.prog 41 #[.pointer (some ⟨A, 0, none⟩), .string key] w fun e w' => e = .returned (.func (.func 54) #[] #[.pointer (some ⟨w.heap.size, 0, none⟩), .pointer (some ⟨w.heap.size + 1, 0, none⟩)]) ∧ w' = (w.alloc (.cells #[.pointer (some ⟨A, 0, none⟩)] 49)).alloc (.cells #[.string key] 9) := by
  go_enter Try.func41, Try.ntmps41
  go_wp2_with fail
  go_ret
  exact ⟨rfl, rfl⟩
set_option maxRecDepth 100000 in
set_option maxHeartbeats 8000000 in
/-- The iterator, for every body that keeps what lay below n₀. -/
theorem way1_in (n : Nat) (hn : 1 ≤ n) (l Bt Bk n₀ A m : Nat) (key : ByteArray) (t : Tr) (vs : Nat → Value) (xs : List Nat) (hxs : Way t key.data.toList t.rt xs) (hK : key.size ≤ 140737488351232) (hOk : Ok t) (hln : ∀ b ∈ t.B, (t.tx b).length ≤ 140737488351232) (hown : ∀ y, own A t vs y → y < n₀) (J Jx : List (Nd t) → World → Prop) (B0 : Nat) (hJa : AbidesFrom B0 J)
    (hY : ∀ pre x W, J pre W → pre.length < xs.length → YieldAt Fence.wide (n - 1) Try.prog l #[.pointer (some ⟨x.1, 0, none⟩)] W fun e W' =>
      (e = .returned (.bool true) ∧ J (pre ++ [x]) W' ∧ Kps n₀ Bk W W') ∨ (e = .returned (.bool false) ∧ Jx (pre ++ [x]) W'))
    (W : World) (hO : TObj W A t vs m) (ct : W.cell? ⟨Bt, 0, none⟩ = some (.pointer (some ⟨A, 0, none⟩))) (ck : W.cell? ⟨Bk, 0, none⟩ = some (.string key)) (h0 : J [] W) :
    CallsIn Fence.wide n Try.prog 54 #[.func (.yield l) #[] #[], .pointer (some ⟨Bt, 0, none⟩), .pointer (some ⟨Bk, 0, none⟩)] W fun e W' => (∃ v, e = .returned v) ∧
      ((∃ ys, ys.map (·.1) = xs ∧ J ys W') ∨ (∃ pre, pre.map (·.1) <+: xs ∧ Jx pre W')) := by
  have a0 := hO.c0
  refine callsIn_of_wp Try.func54 rfl trivial ?_ rfl
  simp only [Try.ntmps54, List.size_toArray, List.length_cons, List.length_nil, Nat.reduceAdd, Nat.reduceSub, Array.replicate_succ, Array.replicate_zero, List.push_toArray, List.append_toArray, List.nil_append, List.cons_append]
  gi_wp2
  gi_loopw [4] (fun p wr => ∃ (pre : List (Nd t)) (rest : List Nat) (o : Option Nat), p = ptrO o ∧ xs = pre.map (·.1) ++ rest ∧ ((o = none ∧ rest = []) ∨ ∃ b, o = some b ∧ Way t key.data.toList b rest ∧ On t key.data.toList b) ∧ Hid (TObj wr A t vs m) ∧ wr.cell? ⟨Bk, 0, none⟩ = some (.string key) ∧ J pre wr)
    (fun p _ => lft t p)
  case atStart =>
    exact ⟨[], xs, some t.rt, rfl, rfl, .inr ⟨t.rt, rfl, hxs, hOk.rin, .inl (by rw [hOk.rtx]; exact List.nil_prefix)⟩, Lib.hid hO, ck, h0⟩
  case round =>
    obtain ⟨pre, rest, o, rfl, hx, hor, HT, ck, hJs⟩ := hrel
    rcases hor with ⟨rfl, rfl⟩ | ⟨b, rfl, hw, hon⟩
    · simp only [ptrO]
      gi_wp2
      refine ⟨fun _ h => (by cases h), ?_⟩
      gi_wp2
      go_end0
      exact ⟨⟨_, rfl⟩, .inl ⟨pre, by simp [hx], hJs⟩⟩
    · simp only [ptrO]
      obtain ⟨rest', hre⟩ : ∃ rest', rest = b :: rest' := by
        cases hw with
        | last _ => exact ⟨[], rfl⟩
        | more _ _ => exact ⟨_, rfl⟩
      subst hre
      obtain ⟨fn, tmps, assign, body, hy, hR⟩ := hY pre ⟨b, hon.1⟩ wr hJs (by rw [hx]; simp)
      gi_wp2
      refine hR.mono ?_
      rintro e W3 (⟨rfl, hJ3, hk3⟩ | ⟨rfl, hJx3⟩)
      · have HT3 := Lib.hid (HT.out.keep (w' := W3) fun y hy => hk3 y (.inl (hown y hy)))
        have ck3 := (World.cell?_of_block (a := ⟨Bk, 0, none⟩) (hk3 Bk (.inr rfl))).trans ck
        have HN := Lib.hid (next_calls HT3.out.tr hOk hon.1 key (hon.2.imp id (fun h => by have := h.length_le; rw [dlen] at this; exact this)) (Nat.le_trans (hOk.kle hon.1) (by decide)) hK hln)
        gi_wp2_with (refine ⟨trivial, ?_⟩; gi_at_call 55; refine (callsIn_wide.2 HN.out).mono ?_; rintro e4 W4 ⟨o, rfl, hNx, hb4⟩)
        have hlb := hln b hon.1
        go_roundw
        case rel =>
          refine ⟨pre ++ [⟨b, hon.1⟩], rest', o, rfl, by simp [hx], ?_, Lib.hid (HT3.out.below hb4), (hb4.cell (p := ⟨Bk, 0, none⟩) (World.block_lt_of_cell? _ _ ck3)).trans ck3, hJa _ _ _ none hJ3 (grow0 hb4) (fun r e => by cases e)⟩
          cases hw with
          | last h => exact .inl ⟨hNx.det hOk hon.1 h, rfl⟩
          | more h hl =>
            have := hNx.det hOk hon.1 h
            subst this
            exact .inr ⟨_, rfl, hl, (h.on hOk hon.1).1⟩
        case measure =>
          cases o with
          | none => show 0 < 140737488351233 - (t.tx b).length; omega
          | some c =>
            have h1 := (hNx.on hOk hon.1).2
            show 140737488351233 - (t.tx c).length < 140737488351233 - (t.tx b).length
            omega
      · gi_wp2
        go_end0
        exact ⟨⟨_, rfl⟩, .inr ⟨pre ++ [⟨b, hon.1⟩], ⟨rest', by simp [hx]⟩, hJx3⟩⟩
/-- What way hands back. -/
theorem way_stops (n : Nat) (hn : 1 ≤ n) (Bt Bk n₀ A m : Nat) (key : ByteArray) (t : Tr) (vs : Nat → Value) (xs : List Nat) (hxs : Way t key.data.toList t.rt xs) (hK : key.size ≤ 140737488351232) (w : World) (hO : TObj w A t vs m) (hown : ∀ y, own A t vs y → y < n₀) (hBt : Bt < w.heap.size) (hBk : Bk < w.heap.size)
    (ct : w.cell? ⟨Bt, 0, none⟩ = some (.pointer (some ⟨A, 0, none⟩))) (ck : w.cell? ⟨Bk, 0, none⟩ = some (.string key)) :
    SeqStopsK Fence.wide n Try.prog 54 #[.pointer (some ⟨Bt, 0, none⟩), .pointer (some ⟨Bk, 0, none⟩)] (fun b : Nd t => #[Value.pointer (some ⟨b.1, 0, none⟩)]) (Kps n₀ Bk) (fun ys => ys.map (·.1) = xs) (fun pre => pre.map (·.1) <+: xs) xs.length w := fun l J Jx W hW hJ _ hY h0 =>
  way1_in n hn l Bt Bk n₀ A m key t vs xs hxs hK hO.ok hO.ln hown J Jx W.heap.size hJ hY W (hO.below hW) ((hW.cell (p := ⟨Bt, 0, none⟩) hBt).trans ct) ((hW.cell (p := ⟨Bk, 0, none⟩) hBk).trans ck) h0
end Go.Proofs.Ytnmncjeplfkdpaa.Pb
/- end, Get: the last node of the way to a key. Conditions: the tree as it lies; bounds. -/
namespace Go.Proofs.Ytnmncjeplfkdpaa.Pb
open Go.RowKit Go.Shelf
attribute [local go_sem] Oper.semAt_some
theorem cell_of_box_l {W : World} {B : Nat} {v : Value} {t : TypeId} (h : W.heap[B]? = some (.cells #[v] t (0, 0))) : W.cell? ⟨B, 0, none⟩ = some v ∧ W.frozen? ⟨B, 0, none⟩ = false := by
  constructor <;> simp [World.cell?, World.frozen?, h]
theorem cell_new_l (W : World) (v : Value) (t : TypeId) : (W.alloc (.cells #[v] t)).cell? ⟨W.heap.size, 0, none⟩ = some v ∧ (W.alloc (.cells #[v] t)).frozen? ⟨W.heap.size, 0, none⟩ = false :=
  cell_of_box_l (World.alloc_heap_new W _)
theorem cell_alloc_l {W : World} {a : Addr} {v : Value} (o : Obj) (h : W.cell? a = some v) : (W.alloc o).cell? a = some v := cell_kept h (World.grownBy_alloc W o none) (fun r e => by cases e)
theorem frozen_alloc_l {W : World} {a : Addr} {v : Value} (o : Obj) (h : W.cell? a = some v) (hf : W.frozen? a = false) : (W.alloc o).frozen? a = false := (frozen_kept h (World.grownBy_alloc W o none) (fun r e => by cases e)).trans hf
theorem ptrO_last {t : Tr} (pre : List (Nd t)) (x : Nd t) : ptrO ((pre ++ [x]).map (·.1)).getLast? = .pointer (some ⟨x.1, 0, none⟩) := by simp [ptrO]
theorem root_on {t : Tr} (ho : Ok t) (K : T) : On t K t.rt ∧ Inv t K t.rt := ⟨⟨ho.rin, .inl (by rw [ho.rtx]; exact List.nil_prefix)⟩, fun d _ _ => by rw [ho.rtx]; exact List.nil_prefix⟩
end Go.Proofs.Ytnmncjeplfkdpaa.Pb
/- New, Len, Nodes, Get; a node's mark. Conditions: the tree as it lies; bounds. -/
namespace Go.Proofs.Ytnmncjeplfkdpaa.Pb
open Go.ChangeShapes Go.WideShapes Go.ChangeAt Go.RowKit
def tNew (r : Nat) : Tr := { B := [r], rt := r, tx := fun _ => [], nm := fun _ => none, ks := fun _ => [] }
theorem tNew_ok (r : Nat) : Ok (tNew r) := by
  refine ⟨by simp [tNew], List.mem_singleton.2 rfl, rfl, fun b hb c hc _ => ?_, fun b _ c hc => ?_, fun b _ => List.Pairwise.nil, fun b _ d _ _ hne => absurd rfl hne⟩
  · rw [List.mem_singleton.1 hb, List.mem_singleton.1 hc]
  · cases hc
theorem tNew_mn (r : Nat) : Mn (tNew r) none := fun _ hb hr _ => absurd (List.mem_singleton.1 hb) hr
theorem tNew_look (r : Nat) (K : T) : look (tNew r) K = none := by
  unfold look
  cases (tNew r).B.find? (fun b => decide ((tNew r).tx b = K)) <;> rfl
theorem tNew_obj (w : World) : TObj ((w.alloc (.cells #[.string ⟨#[]⟩, .bool false, .int .i64 0, .slice none 0 0] 74)).alloc (.cells #[.pointer (some ⟨w.heap.size, 0, none⟩), .int .i64 0, .int .i64 1] 76)) (w.heap.size + 1) (tNew w.heap.size) (fun _ => .slice none 0 0) 0 := by
  have s1 : (w.alloc (.cells #[.string ⟨#[]⟩, .bool false, .int .i64 0, .slice none 0 0] 74)).heap.size = w.heap.size + 1 := by simp
  have c1 := fun j => World.cell?_alloc_new w #[.string ⟨#[]⟩, .bool false, .int .i64 0, .slice none 0 0] 74 j
  have f1 : ∀ j, (w.alloc (.cells #[.string ⟨#[]⟩, .bool false, .int .i64 0, .slice none 0 0] 74)).frozen? ⟨w.heap.size, j, none⟩ = false := fun j => by simp
  generalize w.alloc (.cells #[.string ⟨#[]⟩, .bool false, .int .i64 0, .slice none 0 0] 74) = W1 at *
  have hn : NdAt W1 w.heap.size [] none (.slice none 0 0) := ⟨c1 0, c1 1, c1 2, c1 3, f1⟩
  have B2 := bbox (w := W1) (.cells #[.pointer (some ⟨w.heap.size, 0, none⟩), .int .i64 0, .int .i64 1] 76)
  have c2 := fun j => World.cell?_alloc_new W1 #[.pointer (some ⟨w.heap.size, 0, none⟩), .int .i64 0, .int .i64 1] 76 j
  have f2 : ∀ j, (W1.alloc (.cells #[.pointer (some ⟨w.heap.size, 0, none⟩), .int .i64 0, .int .i64 1] 76)).frozen? ⟨W1.heap.size, j, none⟩ = false := fun j => by simp
  rw [s1] at c2 f2
  refine ⟨⟨fun b hb => ?_, fun b hb => World.ownsRow_nil _ _ _ _, fun b _ c _ g hg _ => (by cases hg), fun b _ g hg => (by cases hg)⟩, tNew_ok _, c2 0, c2 1, c2 2, f2, fun hA => ?_, fun b _ e => (by cases e), fun b _ => Nat.zero_le _⟩
  · rw [List.mem_singleton.1 hb]
    exact hn.keep (B2.block _ (by omega))
  · have := List.mem_singleton.1 hA
    omega
set_option maxHeartbeats 4000000 in
set_option maxRecDepth 100000 in
theorem new_calls (w : World) :
    Calls Try.prog 22 #[] w fun e w' => ∃ A t vs, e = .returned (.pointer (some ⟨A, 0, none⟩)) ∧ TObj w' A t vs 0 ∧ Mn t none ∧ (∀ K, look t K = none) ∧ t.B.length = 1 ∧ Below w.heap.size w w' ∧ ∀ y, own A t vs y → w.heap.size ≤ y := by
  have HT := Lib.hid (tNew_obj w)
  go_enter Try.func22, Try.ntmps22
  go_wp2_with fail
  go_ret
  have hX : Mn (tNew w.heap.size) none ∧ (∀ K, look (tNew w.heap.size) K = none) ∧ (tNew w.heap.size).B.length = 1 := ⟨tNew_mn _, tNew_look _, rfl⟩
  refine ⟨w.heap.size + 1, _, _, rfl, HT.out, hX.1, hX.2.1, hX.2.2, bstep (bbox _) (bbox _), fun y hy => ?_⟩
  rcases hy with rfl | hy | ⟨b, _, hy⟩
  · omega
  · have := List.mem_singleton.1 hy; omega
  · cases hy
set_option maxHeartbeats 4000000 in
theorem len_calls {w : World} {A : Nat} {t : Tr} {vs : Nat → Value} {m : Nat} (h : TObj w A t vs m) :
    Calls Try.prog 26 #[.pointer (some ⟨A, 0, none⟩)] w fun e w' => e = .returned (.int .i64 m) ∧ w = w' := by
  have c1 := h.c1
  clear h
  go_enter Try.func26, Try.ntmps26
  go_wp2_with fail
  go_ret
  exact ⟨rfl, rfl⟩
set_option maxHeartbeats 4000000 in
theorem nodes_calls {w : World} {A : Nat} {t : Tr} {vs : Nat → Value} {m : Nat} (h : TObj w A t vs m) :
    Calls Try.prog 27 #[.pointer (some ⟨A, 0, none⟩)] w fun e w' => e = .returned (.int .i64 t.B.length) ∧ w = w' := by
  have c2 := h.c2
  clear h
  go_enter Try.func27, Try.ntmps27
  go_wp2_with fail
  go_ret
  exact ⟨rfl, rfl⟩
set_option maxHeartbeats 4000000 in
theorem mark_calls {w : World} {b : Nat} {tx : T} {o : Option Int} {v : Value} (h : NdAt w b tx o v) :
    Calls Try.prog 42 #[.pointer (some ⟨b, 0, none⟩)] w fun e w' => e = .returned (.agg #[.string (bs tx), .int .i64 (o.getD 0)]) ∧ Below w.heap.size w w' := by
  have hb := h.lt
  have c0 := h.c0
  have c2 := h.c2
  clear h
  generalize bs tx = P at *
  generalize o.getD 0 = n at *
  have B1 := Lib.hid (bbox (w := w) (.cells #[.string ⟨#[]⟩, .int .i64 0] 63))
  have d0 : (w.alloc (.cells #[.string ⟨#[]⟩, .int .i64 0] 63)).cell? ⟨b, 0, none⟩ = some (.string P) := (B1.out.cell (p := ⟨b, 0, none⟩) hb).trans c0
  have d2 : (w.alloc (.cells #[.string ⟨#[]⟩, .int .i64 0] 63)).cell? ⟨b, 2, none⟩ = some (.int .i64 n) := (B1.out.cell (p := ⟨b, 2, none⟩) hb).trans c2
  clear c0 c2
  go_enter Try.func42, Try.ntmps42
  go_wp2_with fail
  go_region
  go_wp2_with fail
  exact bodyPost_ret (v := .agg #[.string P, .int .i64 n]) (by simp [results, Try.results42, go_sem]) rfl ⟨rfl, ((Below.refl _ w).alloc (Nat.le_refl _) _).drew⟩
end Go.Proofs.Ytnmncjeplfkdpaa.Pb
/- Over: does a key begin with another one? Conditions: the tree as it lies; bounds. -/
namespace Go.Proofs.Ytnmncjeplfkdpaa.Pb
open Go.RowKit Go.Shelf
attribute [local go_sem] Oper.semAt_some
theorem way_on {t : Tr} {K : T} (ho : Ok t) {b : Nat} {xs : List Nat} (h : Way t K b xs) (hon : On t K b) : ∀ x ∈ xs, On t K x := by
  induction h with
  | last h => intro x hx; rw [List.mem_singleton.1 hx]; exact hon
  | @more b c l h hl ih =>
    intro x hx
    rcases List.mem_cons.1 hx with rfl | hx
    · exact hon
    · exact ih (h.on ho hon.1).1 x hx
theorem way_mem {t : Tr} {K : T} (ho : Ok t) {b : Nat} {xs : List Nat} (h : Way t K b xs) (hon : On t K b) {d : Nat} (hd : d ∈ t.B) (hbd : t.tx b <+: t.tx d) (hdK : t.tx d <+: K) : d ∈ xs := by
  induction h with
  | @last b h =>
    by_cases e : t.tx b = t.tx d
    · rw [ho.inj b hon.1 d hd e]; simp
    · obtain ⟨c', h1, h2⟩ := ho.kid b hon.1 d hd hbd e
      have hl := ho.klen hon.1 h1
      have h3 : Nx t b K (some c') := .inr ⟨by have := (h2.trans hdK).length_le; omega, c', h1, rfl, .inl (h2.trans hdK)⟩
      cases h.det ho hon.1 h3
  | @more b c l h hl ih =>
    by_cases e : t.tx b = t.tx d
    · rw [ho.inj b hon.1 d hd e]; simp
    · obtain ⟨c', h1, h2⟩ := ho.kid b hon.1 d hd hbd e
      have hl := ho.klen hon.1 h1
      have h3 : Nx t b K (some c') := .inr ⟨by have := (h2.trans hdK).length_le; omega, c', h1, rfl, .inl (h2.trans hdK)⟩
      have := h.det ho hon.1 h3
      injection this with this
      subst this
      exact List.mem_cons_of_mem _ (ih (h.on ho hon.1).1 h2)
/-- Below each node but the root is a number. -/
theorem marked_below {t : Tr} (ho : Ok t) (hm : Mn t none) (N : Nat) (hN : ∀ b ∈ t.B, (t.tx b).length ≤ N) : ∀ (n b : Nat), b ∈ t.B → b ≠ t.rt → N - (t.tx b).length ≤ n → ∃ d ∈ t.B, t.tx b <+: t.tx d ∧ t.nm d ≠ none := by
  intro n
  induction n with
  | zero =>
    intro b hb hr hn
    rcases hm b hb hr (by simp) with h | h
    · exact ⟨b, hb, List.prefix_refl _, h⟩
    · have hc := List.getElem_mem (l := t.ks b) (n := 0) (by omega)
      have h1 := ho.klen hb hc
      have h2 := hN _ (ho.kin b hb _ hc).1
      omega
  | succ n ih =>
    intro b hb hr hn
    rcases hm b hb hr (by simp) with h | h
    · exact ⟨b, hb, List.prefix_refl _, h⟩
    · have hc := List.getElem_mem (l := t.ks b) (n := 0) (by omega)
      have h1 := ho.klen hb hc
      obtain ⟨h2, h3, -⟩ := ho.kin b hb _ hc
      obtain ⟨d, k1, k2, k3⟩ := ih _ h2 (fun e => ho.root_not hb (by rw [← e]; exact hc)) (by omega)
      exact ⟨d, k1, h3.trans k2, k3⟩
/-- What Over answers where nothing on the way has a number. -/
theorem over_ans {t : Tr} {K : T} (ho : Ok t) (hm : Mn t none) (hN : ∀ b ∈ t.B, (t.tx b).length ≤ 140737488351232) {xs : List Nat} (h : Way t K t.rt xs) {b : Nat} (hL : Lst t K b) (hb : b ∈ xs) (hx : ∀ x ∈ xs, t.nm x = none) :
    (K.length ≤ (t.tx b).length ∧ ∃ d ∈ t.B, t.nm d ≠ none) ↔ ∃ d ∈ t.B, t.nm d ≠ none ∧ (t.tx d <+: K ∨ K <+: t.tx d) := by
  have hron := root_on ho K
  constructor
  · rintro ⟨hl, d, hd, hn⟩
    by_cases hr : b = t.rt
    · subst hr
      refine ⟨d, hd, hn, .inr ?_⟩
      exact (hL.long hl hd).2 (hron.2 d hd (by rw [ho.rtx] at hl; rw [List.eq_nil_of_length_eq_zero (Nat.le_zero.1 hl)]; exact List.nil_prefix))
    · obtain ⟨e, h1, h2, h3⟩ := marked_below ho hm _ hN _ b hL.on.1 hr (Nat.le_refl _)
      exact ⟨e, h1, h3, .inr ((hL.long hl h1).2 h2)⟩
  · rintro ⟨d, hd, hn, hp | hp⟩
    · exact absurd (hx d (way_mem ho h hron.1 hd (by rw [ho.rtx]; exact List.nil_prefix) hp)) hn
    · refine ⟨?_, d, hd, hn⟩
      rcases Nat.lt_or_ge (t.tx b).length K.length with hl | hl
      · exact absurd hp (hL.short ho hl hd)
      · exact hl
open Classical in
/-- Is there a number whose key begins with K, or K with it? -/
noncomputable def overB (t : Tr) (K : T) : Bool := decide (∃ d ∈ t.B, t.nm d ≠ none ∧ (t.tx d <+: K ∨ K <+: t.tx d))
theorem overB_yes {t : Tr} {K : T} (h : ∃ d ∈ t.B, t.nm d ≠ none ∧ (t.tx d <+: K ∨ K <+: t.tx d)) : true = overB t K := by unfold overB; exact (decide_eq_true h).symm
theorem overB_no {t : Tr} {K : T} (h : ¬ ∃ d ∈ t.B, t.nm d ≠ none ∧ (t.tx d <+: K ∨ K <+: t.tx d)) : false = overB t K := by unfold overB; exact (decide_eq_false h).symm
end Go.Proofs.Ytnmncjeplfkdpaa.Pb
