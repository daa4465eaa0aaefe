/- Package store: the chapter's example, plain; ten; the table of a Store (Len, Keys). No condition. -/
import Derived.Test.YtmakmaambjgcnaaGreatDoorSaD
import Derived.Test.YtmakmaambjgcnaaGreatDoorSp4
import Derived.Laws.StructEq
import Derived.Test.YtmakmaambjgcnaaGreatDoorEr1
namespace Go.Proofs.YtmakmaambjgcnaaGreatDoor.Sa
set_option linter.unusedVariables false
set_option linter.unusedSimpArgs false
open Go.ChangeShapes Go.WideShapes Go.ChangeAt Go.RowKit
open Sp (Th Hp Stays All Ro roT rowT cellsT exT puT star)
theorem dv_digs : ∀ (l : List UInt8) (acc u : Nat), Num.dv acc l = some u → ∀ c ∈ l, 48 ≤ c.toNat ∧ c.toNat ≤ 57
  | [], _, _, _, c, h => by cases h
  | d :: r, acc, u, h, c, hc => by
    simp only [Num.dv] at h
    split at h
    · rename_i hd
      rcases List.mem_cons.1 hc with rfl | hc
      · exact hd
      · exact dv_digs r _ u h c hc
    · cases h
theorem itoa_mem (v : Int) (b : UInt8) (h : b ∈ Lib.itoa v) : (48 ≤ b.toNat ∧ b.toNat ≤ 57) ∨ b.toNat = 45 := by
  by_cases hv : 0 ≤ v
  · obtain ⟨u, rfl⟩ := Int.eq_ofNat_of_zero_le hv
    rw [Lib.itoa_nonneg] at h
    exact .inl (dv_digs _ 0 u (Num.dv_decDigits u) b h)
  · obtain ⟨u, hu⟩ : ∃ u : Nat, v = -(u : Int) := ⟨(-v).toNat, by omega⟩
    subst hu
    rw [Lib.itoa_neg u (by omega)] at h
    rcases List.mem_cons.1 h with rfl | h
    · exact .inr rfl
    · exact .inl (dv_digs _ 0 u (Num.dv_decDigits u) b h)
theorem wp_end {l : List UInt8} {b : UInt8} (h : b ∈ l) (hb : ¬ (48 ≤ b.toNat ∧ b.toNat ≤ 57)) (h2 : b.toNat ≠ 45) : Num.wp l = (0, 11) := by
  rcases Num.wp_cases l with ⟨v, -, -, e, -⟩ | ⟨-, e⟩
  · exfalso
    rw [← e] at h
    have h3 := itoa_mem v b h
    omega
  · exact e
/-- A text that holds a letter counts its bytes. -/
theorem textC_let {t : ByteArray} {b : UInt8} (h : b ∈ t.data.toList) (hb : ¬ (48 ≤ b.toNat ∧ b.toNat ≤ 57)) (h2 : b.toNat ≠ 45) : Ia.textC t = t.size := by
  unfold Ia.textC
  rw [wp_end h hb h2]
  rfl
def tenI : Ia.It := ⟨1, ⟨#[97, 98, 99, 100, 101, 102, 103, 104, 105, 106]⟩, []⟩
theorem ten_right : Ia.RightP tenI := .inl ⟨rfl, by decide, rfl⟩
theorem ten_cost (k : ByteArray) : costN k tenI = 58 + k.size := by
  unfold costN
  rw [if_pos (show tenI.k = 1 from rfl), textC_let (b := 97) (by decide) (by decide) (by decide)]
  show 48 + k.size + 10 = _
  omega
theorem end_none {m : Md} (h : m.S = []) (k : ByteArray) (now : Int) : endM k now m = m := by
  unfold endM endsM
  rw [h]
  rfl
/-- Put of a new key, where there is room. -/
theorem put_room {m : Md} (hS : m.S = []) (hK : m.K.Nodup) {k : ByteArray} (hk : k ∉ m.K) (hz : k.size ≤ 512) (i : Ia.It) (now : Int) (hr : (sumB m.f m.K + costN k i : Int) ≤ m.b) : putM k i false now true m = { m with K := m.K ++ [k], f := updF m.f k i, ev := m.ev ++ [(1, k)] } := by
  unfold putM
  rw [if_neg (by rintro (h | h); omega; cases h), end_none hS, if_neg (by omega)]
  have hs : setM k i false m = { m with K := m.K ++ [k], f := updF m.f k i, ev := m.ev ++ [(1, k)] } := by
    unfold setM
    rw [touchK_permNo hk, hS]
    rfl
  rw [hs]
  refine evF_stop (.inl ?_) _
  show ((sumB (updF m.f k i) (m.K ++ [k]) : Nat) : Int) ≤ m.b
  rw [sumB_app, sumB_updNo hk, sumB_cons, updF_same, show sumB (updF m.f k i) [] = 0 from rfl]
  omega
theorem sumB_ten {f : ByteArray → Ia.It} : ∀ {K : List ByteArray}, (∀ k ∈ K, f k = tenI ∧ k.size = 1) → sumB f K = 59 * K.length
  | [], _ => rfl
  | k :: K, h => by
    have h1 := h k (List.mem_cons_self ..)
    rw [sumB_cons, sumB_ten fun x hx => h x (List.mem_cons_of_mem _ hx), h1.1, ten_cost, h1.2, List.length_cons]
    omega
theorem mem2 {P : ByteArray → Prop} {a b : ByteArray} (ha : P a) (hb : P b) : ∀ k ∈ [a, b], P k := fun k hk => by
  rcases List.mem_cons.1 hk with rfl | hk
  · exact ha
  · rw [List.mem_singleton.1 hk]; exact hb
theorem mem3 {P : ByteArray → Prop} {a b c : ByteArray} (ha : P a) (hb : P b) (hc : P c) : ∀ k ∈ [a, b, c], P k := fun k hk => by
  rcases List.mem_cons.1 hk with rfl | hk
  · exact ha
  · exact mem2 hb hc k hk
def kA : ByteArray := ⟨#[97]⟩
def kB : ByteArray := ⟨#[98]⟩
def kC : ByteArray := ⟨#[99]⟩
def al1 : Md := ⟨[kA], updF (newM 120).f kA tenI, [], 120, [(1, kA)]⟩
def al2 : Md := ⟨[kA, kB], updF al1.f kB tenI, [], 120, [(1, kA), (1, kB)]⟩
def al3 : Md := ⟨[kB, kC], updF al2.f kC tenI, [], 120, [(1, kA), (1, kB), (1, kC), (4, kA)]⟩
theorem al_1 : putM kA tenI false 0 true (newM 120) = al1 := by
  rw [put_room rfl List.nodup_nil (by simp [newM]) (by decide)]
  · rfl
  · rw [ten_cost]; decide
theorem nBA : kB ∉ [kA] := fun h => by have := List.mem_singleton.1 h; revert this; decide
theorem nCAB : kC ∉ [kA, kB] := fun h => by
  rcases List.mem_cons.1 h with h | h
  · revert h; decide
  · have := List.mem_singleton.1 h; revert this; decide
theorem al_sum1 : sumB al1.f al1.K = 59 := sumB_ten (K := [kA]) fun k hk => by rw [List.mem_singleton.1 hk]; exact ⟨rfl, rfl⟩
theorem al_2 : putM kB tenI false 0 true al1 = al2 := by
  rw [put_room rfl (by decide) nBA (by decide)]
  · rfl
  · rw [ten_cost, al_sum1]; decide
theorem al_sum2 : sumB al2.f al2.K = 118 := sumB_ten (K := [kA, kB]) (mem2 ⟨rfl, rfl⟩ ⟨rfl, rfl⟩)
theorem al_3 : putM kC tenI false 0 true al2 = al3 := by
  unfold putM
  rw [if_neg (by rintro (h | h); revert h; decide; cases h), end_none rfl, if_neg (by rw [ten_cost]; decide)]
  have hs : setM kC tenI false al2 = ⟨[kA, kB, kC], updF al2.f kC tenI, [], 120, [(1, kA), (1, kB), (1, kC)]⟩ := rfl
  rw [hs]
  have e3 : sumB (updF al2.f kC tenI) [kA, kB, kC] = 177 := sumB_ten (K := [kA, kB, kC]) (mem3 ⟨rfl, rfl⟩ ⟨rfl, rfl⟩ ⟨rfl, rfl⟩)
  rw [evM_step (x := kA) (y := kB) (r := [kC]) (by show [kA, kB, kC].Nodup; decide) rfl (by show (120 : Int) < ((sumB (updF al2.f kC tenI) [kA, kB, kC] : Nat) : Int); rw [e3]; decide)]
  have hl : loseM kA 4 ⟨[kA, kB, kC], updF al2.f kC tenI, [], 120, [(1, kA), (1, kB), (1, kC)]⟩ = al3 := rfl
  rw [hl]
  refine evF_stop (.inl ?_) _
  have e4 : sumB (updF al2.f kC tenI) [kB, kC] = 118 := sumB_ten (K := [kB, kC]) (mem2 ⟨rfl, rfl⟩ ⟨rfl, rfl⟩)
  show ((sumB (updF al2.f kC tenI) [kB, kC] : Nat) : Int) ≤ 120
  rw [e4]; decide
theorem al_sum3 : sumB al3.f al3.K = 118 := sumB_ten (K := [kB, kC]) (mem2 ⟨rfl, rfl⟩ ⟨rfl, rfl⟩)
theorem put_ok (m : Md) (k : ByteArray) (hz : k.size ≤ 512) (i : Ia.It) (hb : (costN k i : Int) ≤ m.b) : putN k i true m = 0 := by
  unfold putN
  rw [if_neg (by rintro (h | h); omega; cases h), if_neg (by omega)]
theorem Ok.al1 : Ok al1 := by rw [← al_1]; exact (Ok.new 120).putM kA tenI false 0 true fun _ => ten_right
theorem Ok.al2 : Ok al2 := by rw [← al_2]; exact Ok.al1.putM kB tenI false 0 true fun _ => ten_right
theorem Ok.al3 : Ok al3 := by rw [← al_3]; exact Ok.al2.putM kC tenI false 0 true fun _ => ten_right
section
variable {o w w' wb : World} {l : List Th} {T : Nat} {m : Md}
set_option maxHeartbeats 4000000 in
theorem ten_calls (w : World) : Calls Tryz.prog 30 #[] w fun e w' => e = .returned (itV none 0 tenI) ∧ Below w.heap.size w w' := by
  go_enter Tryz.func30, Tryz.ntmps30
  go_wp2_with fail
  exact bodyPost_ret (v := itV none 0 tenI) (by simp [results, Tryz.results30, go_sem, itV, tenI]) rfl ⟨rfl, Sp.bbox _⟩
/-- A text's item lies nowhere. -/
theorem item_free (h : Hp o w l) (i : Ia.It) (hi : i.l = []) (a : Option Addr) (c : Nat) (hc : c ≤ 9223372036854775807) : Hp o w (roT (itemR a c i) :: l) :=
  ro_new h _ fun R => ⟨by rw [hi]; exact Nat.zero_le _, hc, fun hp => by rw [hi] at hp; exact absurd hp (by decide)⟩
/-- The table of a Store: how many keys. -/
theorem store_len (h : Hp o w (storeT T m :: l)) : ∃ E, w.cell? ⟨T, 0, none⟩ = some (.pointer (some ⟨E, 0, none⟩)) ∧ ∀ wb, Below w.heap.size w wb →
    Calls Tryz.prog 13 #[.pointer (some ⟨E, 0, none⟩)] wb fun e w' => e = .returned (.int .i64 m.K.length) ∧ ∃ n, w' = wb.drewN n := by
  obtain ⟨E, U, X, rv, P, f, ev, gn, hr, h⟩ := store_open2 h
  refine ⟨E, h.cell 0 rfl, fun wb hb => ?_⟩
  have := tab_len (h.pull 1 rfl) hb
  rw [show P.length = m.K.length from hr.len] at this
  exact this
end
end Go.Proofs.YtmakmaambjgcnaaGreatDoor.Sa
/- StoreSweeps, plain: dues that are put one by one; what Sweep lets go. No program, no condition. -/
namespace Go.Proofs.YtmakmaambjgcnaaGreatDoor.Sa
set_option linter.unusedVariables false
set_option linter.unusedSimpArgs false
open Ea (Du ltE UpD insD dropD putD dueD inD getD)
open Sp (setG setG_same setG_ne)
/-- A store of tens, each of which ends as g says. -/
structure SwI (m : Md) (g : ByteArray → Option Int) (n : Nat) : Prop where
  ok : Ok m
  kg : ∀ k, k ∈ m.K ↔ (g k).isSome = true
  sg : ∀ t k, (t, k) ∈ m.S ↔ g k = some t
  tn : ∀ k ∈ m.K, m.f k = tenI ∧ k.size ≤ 100
  w1 : ∀ d ∈ m.S, 1 ≤ d.1 ∧ d.1 ≤ 1000000
  b : m.b = 100000000
  n : m.K.length = n
theorem end_pos {m : Md} (hp : Pre m) (h : ∀ d ∈ m.S, 1 ≤ d.1) (k : ByteArray) : endM k 0 m = m := by
  unfold endM
  rw [if_neg]
  intro he
  unfold endsM at he
  rw [Bool.and_eq_true] at he
  have h1 := h _ (getD_mem he.1)
  have h2 := of_decide_eq_true he.2
  omega
theorem sumB_le {f : ByteArray → Ia.It} : ∀ {K : List ByteArray}, (∀ k ∈ K, f k = tenI ∧ k.size ≤ 100) → sumB f K ≤ 158 * K.length
  | [], _ => Nat.zero_le _
  | k :: K, h => by
    have h1 := h k (List.mem_cons_self ..)
    have h2 := sumB_le (K := K) fun x hx => h x (List.mem_cons_of_mem _ hx)
    rw [sumB_cons, h1.1, ten_cost, List.length_cons]
    have := h1.2
    omega
theorem SwI.new : SwI (newM 100000000) (fun _ => none) 0 :=
  ⟨Ok.new _, fun k => ⟨fun h => (by cases h), fun h => (by cases h)⟩, fun t k => ⟨fun h => (by cases h), fun h => (by cases h)⟩, fun k h => (by cases h), fun k h => (by cases h), rfl, rfl⟩
theorem SwI.put {m : Md} {g : ByteArray → Option Int} {n : Nat} (h : SwI m g n) (k : ByteArray) (hk : k.size ≤ 100) (hn : n ≤ 30) : putM k tenI false 0 true m = setM k tenI false m ∧ putN k tenI true m = 0 := by
  have hc : ((costN k tenI : Nat) : Int) ≤ m.b := by rw [ten_cost, h.b]; omega
  refine ⟨?_, put_ok m k (by omega) tenI hc⟩
  unfold putM
  rw [if_neg (by rintro (h | h); omega; cases h), end_pos h.ok.toPre (fun d hd => (h.w1 d hd).1), if_neg (by omega)]
  refine evF_stop (.inl ?_) _
  show ((sumB (updF m.f k tenI) (Ca.touchK k m.K) : Nat) : Int) ≤ m.b
  have h1 := sumB_le (f := updF m.f k tenI) (K := Ca.touchK k m.K) fun x hx => by
    rcases mem_touchK.1 hx with e | e
    · subst e; exact ⟨updF_same _ _ _, hk⟩
    · by_cases e2 : x = k
      · subst e2; exact ⟨updF_same _ _ _, hk⟩
      · rw [updF_ne e2]; exact h.tn x e
  have h2 := touch_le k m.K
  rw [h.n] at h2
  rw [h.b]
  omega
theorem SwI.due {m : Md} {g : ByteArray → Option Int} {n : Nat} (h : SwI m g n) (k : ByteArray) (hk : k.size ≤ 100) (t : Int) (ht : 1 ≤ t) (ht2 : t ≤ 1000000) : expireM k t 0 (setM k tenI false m) = dueM k t (setM k tenI false m) := by
  have hp := h.ok.toPre.set k (by omega) tenI ten_right false
  have h1 : ∀ d ∈ (setM k tenI false m).S, 1 ≤ d.1 := fun d hd => (h.w1 d (Ea.mem_dropD.1 (show d ∈ dropD k m.S from hd)).1).1
  unfold expireM
  rw [if_neg (by omega), end_pos hp h1, Int.min_eq_left (by omega), if_pos]
  exact Ca.inK_iff.2 (mem_touchK.2 (.inl rfl))
theorem SwI.step {m : Md} {g : ByteArray → Option Int} {n : Nat} (h : SwI m g n) (k : ByteArray) (hk : k.size ≤ 100) (hn : n ≤ 30) (t : Int) (ht : 1 ≤ t) (ht2 : t ≤ 1000000) : Ok (setM k tenI false m) ∧ SwI (dueM k t (setM k tenI false m)) (setG g k (some t)) (n + if (g k).isSome = true then 0 else 1) := by
  have hok : Ok (setM k tenI false m) := by rw [← (h.put k hk hn).1]; exact h.ok.putM k tenI false 0 true fun _ => ten_right
  have hs : (dueM k t (setM k tenI false m)).S = putD k t (dropD k m.S) := rfl
  have hK : (dueM k t (setM k tenI false m)).K = Ca.touchK k m.K := rfl
  have hf : (dueM k t (setM k tenI false m)).f = updF m.f k tenI := rfl
  have hin : ∀ d, d ∈ putD k t (dropD k m.S) ↔ d = (t, k) ∨ d ∈ m.S ∧ d.2 ≠ k := fun d => by
    unfold putD
    rw [Ea.mem_insD, Ea.mem_dropD, Ea.mem_dropD]
    exact ⟨fun h => h.imp id fun h => h.1, fun h => h.imp id fun h => ⟨h, h.2⟩⟩
  refine ⟨hok, hok.due (mem_touchK.2 (.inl rfl)) (by omega) (by omega), fun x => ?_, fun u x => ?_, fun x hx => ?_, fun d hd => ?_, h.b, ?_⟩
  · rw [hK, mem_touchK]
    unfold setG
    by_cases e : x = k
    · rw [if_pos e]; exact ⟨fun _ => rfl, fun _ => .inl e⟩
    · rw [if_neg e, ← h.kg]; exact ⟨fun h => h.resolve_left e, .inr⟩
  · rw [hs, hin]
    unfold setG
    by_cases e : x = k
    · subst e
      rw [if_pos rfl]
      constructor
      · rintro (h1 | h1)
        · injection h1 with h1 _; rw [h1]
        · exact absurd rfl h1.2
      · intro h1
        exact .inl (by rw [Option.some.inj h1])
    · rw [if_neg e, ← h.sg]
      constructor
      · rintro (h1 | h1)
        · injection h1 with _ h1; exact absurd h1 e
        · exact h1.1
      · exact fun h1 => .inr ⟨h1, e⟩
  · rw [hK] at hx
    rw [hf]
    by_cases e2 : x = k
    · subst e2; exact ⟨updF_same _ _ _, hk⟩
    · rw [updF_ne e2]
      exact h.tn x ((mem_touchK.1 hx).resolve_left e2)
  · rw [hs] at hd
    rcases (hin d).1 hd with e | e
    · rw [e]; exact ⟨ht, ht2⟩
    · exact h.w1 d e.1
  · rw [hK]
    by_cases e : k ∈ m.K
    · rw [touchK_len h.ok.kn e, h.n, if_pos ((h.kg k).1 e)]; rfl
    · rw [touchK_permNo e, List.length_append, h.n, if_neg (fun hh => e ((h.kg k).2 hh))]; rfl
theorem SwI.told {m : Md} {g : ByteArray → Option Int} {n : Nat} (h : SwI m g n) : SwI (toldM m) g n := ⟨h.ok.told, h.kg, h.sg, h.tn, h.w1, h.b, h.n⟩
theorem lose_all : ∀ {D : List ByteArray} {m : Md}, m.K.Nodup → D.Nodup → (∀ k ∈ D, k ∈ m.K) → (swM D m).ev = m.ev ++ D.map (fun k => ((3 : Int), k)) ∧ (swM D m).K.length + D.length = m.K.length
  | [], m, _, _, _ => ⟨by simp [swM], rfl⟩
  | k :: D, m, hK, hD, hm => by
    have hk := hm k (List.mem_cons_self ..)
    have hD2 := List.nodup_cons.1 hD
    have hg : goneM k 3 m = loseM k 3 m := by
      unfold goneM
      rw [Ca.inK_iff.2 hk]; rfl
    have ih := lose_all (D := D) (m := loseM k 3 m) (Ca.dropK_nodup hK) hD2.2 fun x hx => Ca.mem_dropK.2 ⟨hm x (List.mem_cons_of_mem _ hx), fun e => hD2.1 (e ▸ hx)⟩
    have h1 := dropK_lenM hK hk
    unfold swM
    rw [hg]
    refine ⟨?_, ?_⟩
    · rw [ih.1]
      show (m.ev ++ [(3, k)]) ++ _ = _
      simp
    · have h2 := ih.2
      have h3 : (loseM k 3 m).K.length = (Ca.dropK k m.K).length := rfl
      rw [List.length_cons]
      omega
/-- The dues that Sweep lets go. -/
structure SwP (S P : List Du) (now most : Int) : Prop where
  ins : ∀ d ∈ P, d ∈ S ∧ d.1 ≤ now
  up : UpD P
  kn : (P.map (·.2)).Nodup
  rest : ∀ d ∈ S, d ∉ P → ((P.length : Int) < most → now < d.1) ∧ ∀ x ∈ P, x.1 ≤ d.1
  most_ : (P.length : Int) ≤ max most 0
theorem ltE_le {a b : Du} (h : ltE a b = true) : a.1 ≤ b.1 := by
  rcases Ea.ltE_iff.1 h with h | h
  · omega
  · omega
theorem SwP.of {S : List Du} (hu : UpD S) (hn : (S.map (·.2)).Nodup) (now most : Int) : SwP S (dueD now most.toNat S) now most := by
  unfold dueD
  have hF : UpD (S.filter fun d => decide (d.1 ≤ now)) := List.Pairwise.filter _ hu
  have hs : List.Sublist ((S.filter fun d => decide (d.1 ≤ now)).take most.toNat) S := (List.take_sublist ..).trans List.filter_sublist
  refine ⟨fun d hd => ?_, hF.sublist (List.take_sublist ..), hn.sublist (hs.map _), fun d hd hnp => ⟨fun hl => ?_, fun x hx => ?_⟩, ?_⟩
  · have := List.mem_filter.1 (List.mem_of_mem_take hd)
    exact ⟨this.1, by simpa using this.2⟩
  · by_cases hle : d.1 ≤ now
    · have hdf : d ∈ S.filter fun d => decide (d.1 ≤ now) := List.mem_filter.2 ⟨hd, by simpa using hle⟩
      exfalso
      apply hnp
      rw [List.length_take] at hl
      rw [List.take_of_length_le (by omega)]
      exact hdf
    · omega
  · by_cases hle : d.1 ≤ now
    · have hdf : d ∈ S.filter fun d => decide (d.1 ≤ now) := List.mem_filter.2 ⟨hd, by simpa using hle⟩
      generalize S.filter (fun d => decide (d.1 ≤ now)) = F at *
      rw [← List.take_append_drop most.toNat F] at hdf hF
      rcases List.mem_append.1 hdf with h | h
      · exact absurd h hnp
      · exact ltE_le ((List.pairwise_append.1 hF).2.2 x hx d h)
    · have := List.mem_filter.1 (List.mem_of_mem_take hx)
      have h2 : x.1 ≤ now := by simpa using this.2
      omega
  · rw [List.length_take]
    omega
/-- What the map says behind so many events. -/
def gdP (g : ByteArray → Option Int) (P : List Du) (j : Nat) : ByteArray → Option Int := fun k => if inD k (P.take j) = true then none else g k
theorem gdP_zero (g : ByteArray → Option Int) (P : List Du) : gdP g P 0 = g := by
  funext k
  unfold gdP
  rw [List.take_zero, if_neg (by simp [inD])]
theorem inD_app (k : ByteArray) (A B : List Du) : inD k (A ++ B) = (inD k A || inD k B) := by unfold inD; rw [List.any_append]
theorem gdP_succ (g : ByteArray → Option Int) (P : List Du) {j : Nat} (hj : j < P.length) : setG (gdP g P j) P[j].2 none = gdP g P (j + 1) := by
  funext k
  unfold gdP setG
  rw [← List.take_append_getElem hj, inD_app]
  have h1 : inD k [P[j]] = decide (P[j].2 = k) := by simp [inD]
  rw [h1]
  by_cases e : k = P[j].2
  · rw [if_pos e, if_pos]
    rw [decide_eq_true e.symm, Bool.or_true]
  · rw [if_neg e, decide_eq_false (fun h => e h.symm), Bool.or_false]
theorem gdP_at {m : Md} {g : ByteArray → Option Int} {n : Nat} (h : SwI m g n) {P : List Du} {now most : Int} (hP : SwP m.S P now most) {j : Nat} (hj : j < P.length) : gdP g P j P[j].2 = some P[j].1 := by
  unfold gdP
  rw [if_neg]
  · exact (h.sg _ _).1 (hP.ins _ (List.getElem_mem hj)).1
  · intro hm
    obtain ⟨d, hd, e⟩ := List.mem_map.1 (Ea.inD_iff.1 hm)
    obtain ⟨i, hi, e2⟩ := List.mem_iff_getElem.1 hd
    rw [List.length_take] at hi
    have h1 := (List.pairwise_iff_getElem.1 hP.kn) i j (by rw [List.length_map]; omega) (by rw [List.length_map]; omega) (by omega)
    rw [List.getElem_map, List.getElem_map] at h1
    rw [List.getElem_take] at e2
    exact h1 (by rw [e2]; exact e)
/-- The last one that went, as far as the loop has come. -/
def lastP (P : List Du) : Nat → Int
  | 0 => 0
  | j + 1 => ((P[j]?).map (·.1)).getD 0
theorem lastP_succ {P : List Du} {j : Nat} (hj : j < P.length) : lastP P (j + 1) = P[j].1 := by
  show ((P[j]?).map (·.1)).getD 0 = _
  rw [List.getElem?_eq_getElem hj]; rfl
theorem lastP_le {m : Md} {g : ByteArray → Option Int} {n : Nat} (h : SwI m g n) {P : List Du} {now most : Int} (hP : SwP m.S P now most) {j : Nat} (hj : j < P.length) : lastP P j ≤ P[j].1 := by
  cases j with
  | zero =>
    have := (h.w1 _ (hP.ins _ (List.getElem_mem hj)).1).1
    show 0 ≤ _
    omega
  | succ i =>
    rw [lastP_succ (by omega)]
    exact ltE_le (List.pairwise_iff_getElem.1 hP.up i (i + 1) (by omega) hj (by omega))
theorem gdP_rest {m : Md} {g : ByteArray → Option Int} {n : Nat} (h : SwI m g n) {P : List Du} {now most : Int} (hP : SwP m.S P now most) {k : ByteArray} {t : Int} (hk : gdP g P P.length k = some t) : ((P.length : Int) < most → now < t) ∧ (0 < P.length → lastP P P.length ≤ t) := by
  unfold gdP at hk
  rw [List.take_length] at hk
  split at hk
  · cases hk
  · rename_i hn
    have hS := (h.sg t k).2 hk
    have h1 := hP.rest _ hS fun hin => hn (Ea.inD_iff.2 (List.mem_map.2 ⟨_, hin, rfl⟩))
    refine ⟨h1.1, fun hp => ?_⟩
    obtain ⟨j, hj⟩ : ∃ j, P.length = j + 1 := ⟨P.length - 1, by omega⟩
    rw [hj, lastP_succ (by omega)]
    exact h1.2 _ (List.getElem_mem _)
theorem gdP_isSome {m : Md} {g : ByteArray → Option Int} {n : Nat} (h : SwI m g n) {P : List Du} {now most : Int} (hP : SwP m.S P now most) : P.length ≤ n := by
  have h1 := h.ok.toPre.sl
  rw [h.n] at h1
  have h2 : P.length ≤ m.S.length := by
    have := sl_le (L := P.map (·.2)) (K := m.S.map (·.2)) hP.kn h.ok.sn fun x hx => by
      obtain ⟨d, hd, rfl⟩ := List.mem_map.1 hx
      exact List.mem_map_of_mem (hP.ins d hd).1
    rwa [List.length_map, List.length_map] at this
  omega
end Go.Proofs.YtmakmaambjgcnaaGreatDoor.Sa
/- Package store: the statements' alive call. Condition: the library's variables hold what start-up lays. -/
namespace Go.Proofs.YtmakmaambjgcnaaGreatDoor.Sa
set_option linter.unusedVariables false
set_option linter.unusedSimpArgs false
open Go.ChangeShapes Go.WideShapes Go.ChangeAt Go.RowKit
open Sp (Th Hp Stays All Ro roT rowT cellsT exT puT star)
section
variable {o w w' wb : World} {l : List Th} {T : Nat} {m : Md}
/-- Put of ten, told as the model has it. -/
theorem put_ten (h : Hp o w (storeT T m :: l)) (hw : Below w.heap.size w wb) (hok : Ok m) (hc : Ctx o) (k : ByteArray) (hk : k.size ≤ 1000) (now : Int) (hn : m.K.length ≤ 300) (he : m.ev.length ≤ 10000) :
    Calls Tryz.prog 25 #[.pointer (some ⟨T, 0, none⟩), .string k, itV none 0 tenI, .bool false, .int .i64 now] wb fun e w' => e = .returned (.int .i64 (putN k tenI true m)) ∧ Hp o w' (storeT T (putM k tenI false now true m) :: l) :=
  put_calls (item_free (h.bel hw) tenI rfl none 0 (by decide)) (Below.refl _ _) hok hc k hk (by decide) false now true ⟨fun _ => ten_right, fun _ => rfl⟩ hn he
theorem eqE (w : World) (a b : Int) (x y : ByteArray) : (binOp .eql 62 (.agg #[.int .i64 a, .string x]) (.agg #[.int .i64 b, .string y])).run Tryz.prog w = .ok (.bool ((a == b) && (x.toList == y.toList))) w := by
  have hS : Tryz.prog.underlying 62 = some (.struct (Tryz.prog.fieldsOf 62)) := by kernel_rfl
  have hp : Tryz.prog.stoodInHeld 62 = false := by kernel_rfl
  rw [run_eql_struct, show (10000 : Nat) = 9999 + 1 from rfl, run_equalIn_agg w 9999 62 _ _ hS hp]
  have u1 : Tryz.prog.underlying 9 = some .string := by kernel_rfl
  have u2 : Tryz.prog.underlying 3 = some (.int .i64) := by kernel_rfl
  have uM := Tryz.underlying62
  simp only [Program.fieldsOf, uM]
  go_simp
  by_cases h1 : a = b <;> by_cases h2 : x.toList = y.toList <;> simp [h1, h2]
set_option maxHeartbeats 8000000 in
set_option maxRecDepth 100000 in
theorem storeAlive (w : World) (hc : Ctx w) : Calls Tryz.prog 8 #[] w fun e w' => e = .returned (.bool true) ∧ Below w.heap.size w w' := by
  have HN := Lib.hid (new_calls (Hp.nil (Below.refl w.heap.size w)) (Below.refl _ _) 120)
  have HTn := Lib.hid ten_calls
  go_enter Tryz.func8, Tryz.ntmps8
  go_wp2_with fail
  refine HN.out.mono ?_; rintro en w1 ⟨T, rfl, h1⟩
  have H1 := Lib.hid h1
  unfold ptr
  clear h1 HN
  go_wp2_with fail
  refine (HTn.out _).mono ?_; rintro en w2 ⟨rfl, hb⟩
  have HP := Lib.hid (put_ten H1.out hb (Ok.new 120) hc kA (by decide) 0 (by decide) (by decide))
  rw [al_1, put_ok (newM 120) kA (by decide) tenI (by rw [ten_cost]; decide)] at HP
  clear hb H1
  go_wp2_with fail
  refine HP.out.mono ?_; rintro en w3 ⟨rfl, h3⟩
  have H3 := Lib.hid h3
  clear h3 HP
  go_wp2_with fail
  refine (HTn.out _).mono ?_; rintro en w4 ⟨rfl, hb⟩
  have HP := Lib.hid (put_ten H3.out hb Ok.al1 hc kB (by decide) 0 (by decide) (by decide))
  rw [al_2, put_ok al1 kB (by decide) tenI (by rw [ten_cost]; decide)] at HP
  clear hb H3
  go_wp2_with fail
  refine HP.out.mono ?_; rintro en w5 ⟨rfl, h5⟩
  have H5 := Lib.hid h5
  clear h5 HP
  go_wp2_with fail
  refine (HTn.out _).mono ?_; rintro en w6 ⟨rfl, hb⟩
  have HP := Lib.hid (put_ten H5.out hb Ok.al2 hc kC (by decide) 0 (by decide) (by decide))
  rw [al_3, put_ok al2 kC (by decide) tenI (by rw [ten_cost]; decide)] at HP
  clear hb H5 HTn
  go_wp2_with fail
  refine HP.out.mono ?_; rintro en w7 ⟨rfl, h7⟩
  have HE := Lib.hid (events_calls h7 (Below.refl _ _) Ok.al3)
  unfold ptr at HE
  clear h7 HP
  go_wp2_with fail
  refine HE.out.mono ?_; rintro en w8 ⟨v, rfl, h8⟩
  obtain ⟨ea, ec, rfl, -, hec, hea⟩ := h8.rowForm
  obtain ⟨eb, rfl⟩ := hea (by decide)
  have HG := Lib.hid (get_calls (h8.pull 1 rfl) (Below.refl _ _) (Ok.al3.told) hc kA (by decide) 0 (by decide) (by decide))
  rw [end_none (show (toldM al3).S = [] from rfl)] at HG
  unfold ptr at HG
  rw [show Ca.inK kA (toldM al3).K = false from Ca.inK_false.2 (fun h => by
    rcases List.mem_cons.1 h with h | h
    · revert h; decide
    · have := List.mem_singleton.1 h; revert this; decide)] at HG
  have HGG : Hid (getM kA (toldM al3) = toldM al3) := Lib.hid (by
    unfold getM
    rw [show Ca.inK kA (toldM al3).K = false from Ca.inK_false.2 (fun h => by
      rcases List.mem_cons.1 h with h | h
      · revert h; decide
      · have := List.mem_singleton.1 h; revert this; decide), if_neg (by decide)])
  rw [HGG.out] at HG
  clear h8 HE hea
  go_wp2_with fail
  refine HG.out.mono ?_; rintro en w9 ⟨ga, gc, rfl, h9⟩
  have H9 : Hid (Hp w w9 (storeT T (toldM al3) :: evsT (.slice (some ⟨eb, 0, none⟩) 4 ec) al3.ev :: [])) := Lib.hid h9.drop
  clear h9 HG
  rw [show al3.ev.length = 4 from rfl]
  have H10 := Lib.hid fun O => H9.out.bel (Sp.bbox (w := w9) O)
  have he6 := fun O => ((H10.out O).pull 1 rfl).rowCell (j := 6) (by decide)
  have he7 := fun O => ((H10.out O).pull 1 rfl).rowCell (j := 7) (by decide)
  rw [show (cellsE al3.ev)[6]? = some (.int .i64 4) from rfl] at he6
  rw [show (cellsE al3.ev)[7]? = some (.string ⟨#[97]⟩) from rfl] at he7
  obtain ⟨E, c0, hlen⟩ := store_len H9.out
  have c0a := fun O => ((Sp.bbox (w := w9) O).cell (p := ⟨T, 0, none⟩) (World.block_lt_of_cell? w9 _ c0)).trans c0
  have HL := Lib.hid hlen
  have HBy := Lib.hid fun W (hW : Below w9.heap.size w9 W) => bytes_calls H9.out hW
  have hsum : sumB (toldM al3).f (toldM al3).K = 118 := al_sum3
  rw [hsum] at HBy
  unfold ptr at HBy
  have HL : Hid (∀ wb, Below w9.heap.size w9 wb → Calls Tryz.prog 13 #[.pointer (some ⟨E, 0, none⟩)] wb fun e w' => e = .returned (.int .i64 2) ∧ ∃ n, w' = wb.drewN n) := HL
  have HBy : Hid (∀ W, Below w9.heap.size w9 W → Calls Tryz.prog 14 #[.pointer (some ⟨T, 0, none⟩)] W fun e w' => e = .returned (.int .i64 118) ∧ W = w') := HBy
  have heq := eqE
  unfold itV
  have HBel := Lib.hid H9.out.below
  clear hlen hsum c0 H10
  go_wp2_with fail
  refine (HL.out _ (Sp.bbox _)).mono ?_; rintro en w10 ⟨rfl, n, rfl⟩
  go_wp2_with fail
  refine (HBy.out _ ((Sp.bbox _).trans (Ta.drewN_below _ n |>.mono (Sp.bbox _).size))).mono ?_; rintro en w11 ⟨rfl, rfl⟩
  go_wp2_with fail
  go_ret
  exact ⟨rfl, HBel.out.trans (((Sp.bbox (w := w9) _).trans ((Ta.drewN_below _ n).mono (Sp.bbox _).size)).mono HBel.out.size)⟩
end
end Go.Proofs.YtmakmaambjgcnaaGreatDoor.Sa
/- StoreSweeps. Condition: the library's variables hold what start-up lays. -/
namespace Go.Proofs.YtmakmaambjgcnaaGreatDoor.Sa
set_option linter.unusedVariables false
set_option linter.unusedSimpArgs false
open Go.ChangeShapes Go.WideShapes Go.ChangeAt Go.RowKit
open Sp (Th Hp Stays All Ro roT rowT cellsT exT puT star mapT rngT setG)
theorem uI64 : Tryz.prog.underlying 2 = some (.int .i64) := Tryz.underlying2
theorem zI64 (w : World) : (zeroValue 2).run Tryz.prog w = .ok (.int .i64 0) w := by kernel_rfl
noncomputable def elI : Sp.El Tryz.prog 2 Int := Sp.intEl Tryz.prog 2 .i64 uI64 (by decide) zI64
theorem cellsE_at : ∀ (l : List (Int × ByteArray)) (j : Nat) (hj : j < l.length), (cellsE l)[j * 2]? = some (.int .i64 l[j].1) ∧ (cellsE l)[j * 2 + 1]? = some (.string l[j].2)
  | [], j, hj => absurd hj (Nat.not_lt_zero _)
  | e :: l, 0, hj => ⟨rfl, rfl⟩
  | e :: l, j + 1, hj => by
    have h := cellsE_at l j (by simpa using hj)
    have hc : cellsE (e :: l) = .int .i64 e.1 :: .string e.2 :: cellsE l := rfl
    rw [hc, show (j + 1) * 2 = j * 2 + 1 + 1 by omega, List.getElem?_cons_succ, List.getElem?_cons_succ, List.getElem?_cons_succ, List.getElem?_cons_succ]
    exact h
/-- The cells of an event. -/
theorem evs_cell {o w : World} {l : List Th} {g c : Nat} {E : List (Int × ByteArray)} (h : Hp o w (evsT (.slice (some ⟨g, 0, none⟩) E.length c) E :: l)) {j : Nat} (hj : j < E.length) : w.cell? ⟨g, j * 2, none⟩ = some (.int .i64 E[j].1) ∧ w.cell? ⟨g, j * 2 + 1, none⟩ = some (.string E[j].2) := by
  obtain ⟨h1, h2⟩ := cellsE_at E j hj
  exact ⟨(Sp.Hp.rowCell h (by omega)).trans h1, (Sp.Hp.rowCell h (by omega)).trans h2⟩
set_option maxHeartbeats 16000000 in
set_option maxRecDepth 100000 in
theorem storeSweeps (w : World) (hc : Ctx w) (xa : Option Addr) (xc : Nat) (l : List Ea.Du) (hI : Ea.InD w xa l) (hS : ∀ i (h : i < l.length), l[i].2.size ≤ maxLen) (now most : Int) (hm1 : -9223372036854775808 ≤ most) (hm2 : most ≤ 9223372036854775807) :
    Calls Tryz.prog 7 #[.slice xa l.length xc, .int .i64 now, .int .i64 most] w fun e w' => e = .returned (.bool true) ∧ Below w.heap.size w w' := by
  have HA := Lib.hid (storeAlive w hc)
  have HI := Lib.hid hI
  have HSz := Lib.hid hS
  clear hI hS
  go_enter Tryz.func7, Tryz.ntmps7
  go_wp2_with fail
  refine HA.out.mono ?_; rintro en w1 ⟨rfl, hb1⟩
  have HB1 := Lib.hid hb1
  clear HA hb1
  by_cases h30 : 30 < l.length
  · have h30c : (30 : Int) < (l.length : Int) := by omega
    go_wp2_with fail
    go_ret
    exact ⟨rfl, HB1.out⟩
  have h30c : ¬ (30 : Int) < (l.length : Int) := by omega
  by_cases hn0 : now < 0
  · go_wp2_with fail
    go_ret
    exact ⟨rfl, HB1.out⟩
  by_cases hn1 : 1000000 < now
  · go_wp2_with fail
    go_ret
    exact ⟨rfl, HB1.out⟩
  have HN := Lib.hid (new_calls (Hp.nil HB1.out) (Below.refl _ _) 100000000)
  unfold ptr at HN
  have hmm := @run_makeMap Tryz.prog
  go_wp2_with fail
  refine HN.out.mono ?_; rintro en w2 ⟨T, rfl, h2⟩
  have H2 := Lib.hid (h2.mapNew 9 elI)
  clear h2 HN
  go_wp2_with fail
  clear hmm
  generalize w2.alloc (.map #[] 0) = w3 at *
  generalize w2.heap.size = M at *
  go_loopg [10, 35] (l.length + 1) (fun g _ vi wr => ∃ (i n : Nat) (m : Md) (G : ByteArray → Option Int), vi = .int .i64 i ∧ i ≤ l.length ∧ l.length - i ≤ g ∧ n ≤ i ∧ m.ev.length ≤ 2 * i ∧ Hid (SwI m G n) ∧ Hid (Hp w wr [mapT 9 elI M n i G, storeT T m]))
  case atStart => exact ⟨0, 0, newM 100000000, fun _ => none, rfl, by omega, by omega, by omega, by decide, Lib.hid SwI.new, H2⟩
  case round =>
    obtain ⟨i, n, m, G, rfl, hi, hg, hni, hev, HS, HH⟩ := hrel
    clear H2
    by_cases hil : i < l.length
    case pos =>
      have hic : (i : Int) < (l.length : Int) := by omega
      obtain ⟨b, o, rfl, hlt, hcs⟩ := HI.out (by omega)
      obtain ⟨c0, c1⟩ := hcs i hil
      have e : ∀ j, wr.cell? ⟨b, j, none⟩ = w.cell? ⟨b, j, none⟩ := fun j => HH.out.below.cell (p := ⟨b, j, none⟩) hlt
      rw [← e] at c0 c1
      have HKM := Lib.hid (HSz.out i hil)
      clear hcs e hlt
      generalize l[i] = d at *
      obtain ⟨t, k⟩ := d
      simp only at c0 c1 HKM
      have H1 : Hid (Hp w (wr.alloc (.cells #[.int .i64 t, .string k] 77)) [cellsT wr.heap.size [.int .i64 t, .string k], mapT 9 elI M n i G, storeT T m]) := Lib.hid (HH.out.cellsNew [.int .i64 t, .string k] 77)
      clear HH
      go_upto_region 10 with fail
      generalize wr.alloc (.cells #[.int .i64 t, .string k] 77) = W1 at *
      generalize wr.heap.size = B at *
      clear c0 c1
      have b0 := H1.out.cell 0 rfl
      have b1 := H1.out.cell 1 rfl
      by_cases ht1 : t < 1
      · go_wp2_with fail
        go_ret
        exact ⟨rfl, H1.out.below⟩
      by_cases ht2 : 1000000 < t
      · go_wp2_with fail
        go_ret
        exact ⟨rfl, H1.out.below⟩
      by_cases hks : 100 < k.size
      · have hkc : (100 : Int) < (k.size : Int) := by omega
        go_wp2_with fail
        go_ret
        exact ⟨rfl, H1.out.below⟩
      have hkc : ¬ (100 : Int) < (k.size : Int) := by omega
      obtain ⟨F, F1, F2, F3⟩ := Sp.ovr W1
      have g0 := Sp.ovr_cell F1 b0
      have g1 := Sp.ovr_cell F1 b1
      have HF1 := Lib.hid F1
      have HF3 := Lib.hid F3
      have HTn := Lib.hid ten_calls
      clear F1 F3
      go_upto_region 12 with fail
      refine Go.Proofs.YtmakmaambjgcnaaGreatDoor.wp_region_tail F 4 (by kernel_rfl) (by kernel_rfl) F2 ?_
      simp only [List.take_succ_cons, List.take_zero, List.drop_succ_cons, List.drop_zero]
      repeat (go_big_quiet_step ((go_at_call 30; with_reducible exact Sp.q_ovr HF3.out (HTn.out _))))
      refine wpQuiet_nil ?_
      intro x1
      have H2 := Lib.hid (H1.out.bel (HF1.out x1))
      clear b0 b1 F2 HF1 HF3 g0 g1 H1
      generalize F x1 = W2 at *
      have hp := put_ten (H2.out.pull 2 rfl) (Below.refl _ _) HS.out.ok hc k (by omega) 0 (by have := HS.out.n; omega) (by omega)
      rw [(HS.out.put k (by omega) (by omega)).1, (HS.out.put k (by omega) (by omega)).2] at hp
      have HP := Lib.hid hp
      obtain ⟨HO2, HSn⟩ := HS.out.step k (by omega) (by omega) t (by omega) (by omega)
      have HO2 := Lib.hid HO2
      have HSn := Lib.hid HSn
      unfold ptr at HP
      clear hp H2 HTn
      go_wp2_with fail
      refine HP.out.mono ?_; rintro en w4 ⟨rfl, h4⟩
      have H4 : Hid (Hp w w4 [storeT T (setM k tenI false m), cellsT B [.int .i64 t, .string k], mapT 9 elI M n i G]) := Lib.hid h4
      clear h4 HP
      have b0 := (H4.out.pull 1 rfl).cell 0 rfl
      have b1 := (H4.out.pull 1 rfl).cell 1 rfl
      have hx := expire_calls H4.out (Below.refl _ _) HO2.out hc k (by omega) t 0 (by have := touch_le k m.K; show (Ca.touchK k m.K).length ≤ _; have := HS.out.n; omega) (by show (m.ev ++ [(1, k)]).length ≤ _; simp; omega)
      rw [HS.out.due k (by omega) t (by omega) (by omega)] at hx
      have HX := Lib.hid hx
      unfold ptr at HX
      clear hx H4
      go_wp2_with fail
      refine HX.out.mono ?_; rintro en w5 ⟨rfl, h5⟩
      have H5 : Hid (Hp w w5 [mapT 9 elI M n i G, storeT T (dueM k t (setM k tenI false m)), cellsT B [.int .i64 t, .string k]]) := Lib.hid (h5.pull 2 rfl)
      clear h5 HX b0 b1
      have b0 := (H5.out.pull 2 rfl).cell 0 rfl
      have b1 := (H5.out.pull 2 rfl).cell 1 rfl
      obtain ⟨n2, hn2⟩ : ∃ n2, (n + if (G k).isSome = true then 0 else 1) = n2 := ⟨_, rfl⟩
      have hn2b : n2 ≤ i + 1 := by rw [← hn2]; split <;> omega
      rw [hn2] at HSn
      have HN2 := Lib.hid hn2
      clear hn2
      have hwt : (Lit.int .i64 t).wf = true := WalkArith.wf_i64 ⟨by omega, by omega⟩
      have HWT := Lib.hid hwt
      clear hwt
      go_wp2_with (at_mapUpdate; refine Sp.Hp.mapPut H5.out rfl _ _ _ 75 rfl Tryz.underlying9 Tryz.underlying75 rfl k rfl HKM.out t rfl HWT.out (by unfold maxLen; omega) n2 HN2.out ?_)
      intro w6 h6
      have H6 : Hid (Hp w w6 [mapT 9 elI M n2 (i + 1) (setG G k (some t)), storeT T (dueM k t (setM k tenI false m))]) := Lib.hid (Hp.drop (Sp.Hp.pull h6 2 rfl))
      clear h6 H5 b0 b1
      go_wp2_with fail
      go_roundg (gk - 1)
      case measure => omega
      case rel => exact ⟨i + 1, _, _, _, by go_num, by omega, by omega, hn2b, by show ((m.ev ++ [(1, k)]) ++ [(1, k)]).length ≤ _; simp; omega, HSn, H6⟩
    case neg =>
      have hic : ¬ ((i : Int) < (l.length : Int)) := by omega
      have HE := Lib.hid (events_calls (HH.out.pull 1 rfl) (Below.refl _ _) HS.out.ok)
      unfold ptr at HE
      clear HI HSz
      go_wp2_with fail
      refine HE.out.mono ?_; rintro en w4 ⟨v4, rfl, h4⟩
      have H4 : Hid (Hp w w4 [storeT T (toldM m), mapT 9 elI M n i G]) := Lib.hid h4.drop
      have HS0 := Lib.hid HS.out.told
      clear h4 HE HH
      have hsw := sweep_calls H4.out (Below.refl _ _) HS0.out.ok hc now most hm1 hm2 (by have := HS0.out.n; omega) (Nat.zero_le _)
      obtain ⟨P, hP⟩ : ∃ P, Ea.dueD now most.toNat m.S = P := ⟨_, rfl⟩
      have hPs : SwP m.S P now most := by rw [← hP]; exact SwP.of HS.out.ok.up HS.out.ok.sn now most
      have hdk : dueK now most (toldM m) = P.map (·.2) := by rw [← hP]; rfl
      have hall := lose_all (D := P.map (·.2)) (m := toldM m) HS.out.ok.kn hPs.kn (fun k hk => by
        obtain ⟨d, hd, rfl⟩ := List.mem_map.1 hk
        exact HS.out.ok.sk d (hPs.ins d hd).1)
      have hpn := gdP_isSome HS.out hPs
      rw [hdk, List.length_map] at hsw
      have HOs : Hid (Ok (swM (P.map (·.2)) (toldM m))) := Lib.hid (Ok.sw _ HS0.out.ok)
      have HSW := Lib.hid hsw
      have HPs := Lib.hid hPs
      have HEv : Hid ((swM (P.map (·.2)) (toldM m)).ev = P.map fun d => ((3 : Int), d.2)) := Lib.hid (by rw [hall.1]; show [] ++ _ = _; rw [List.nil_append, List.map_map]; rfl)
      have HKl : Hid ((swM (P.map (·.2)) (toldM m)).K.length + P.length = n) := Lib.hid (by have h1 := hall.2; rw [List.length_map] at h1; rw [h1]; exact HS.out.n)
      have hmost := hPs.most_
      have HMo := Lib.hid hmost
      unfold ptr at HSW
      clear hsw H4 hP hdk hall hPs HS0 hmost
      generalize swM (P.map (·.2)) (toldM m) = m2 at *
      go_wp2_with fail
      refine HSW.out.mono ?_; rintro en w5 ⟨rfl, h5⟩
      have HE := Lib.hid (events_calls h5 (Below.refl _ _) HOs.out)
      unfold ptr at HE
      clear h5 HSW
      go_wp2_with fail
      refine HE.out.mono ?_; rintro en w6 ⟨v6, rfl, h6⟩
      rw [HEv.out] at h6
      obtain ⟨ea, ec, rfl, -, hec, hea⟩ := h6.rowForm
      obtain ⟨L, hL⟩ : ∃ L : List (Int × ByteArray), (P.map fun d => ((3 : Int), d.2)) = L := ⟨_, rfl⟩
      rw [hL] at h6 hea ⊢
      have hLl : P.length = L.length := by rw [← hL, List.length_map]
      have HLat : Hid (∀ j (h : j < L.length) (hp : j < P.length), L[j] = (3, P[j].2)) := Lib.hid (by subst hL; intro j h hp; simp)
      have HLl := Lib.hid hLl
      have hcap : L.length ≤ 30 := by omega
      have H6 : Hid (Hp w w6 [mapT 9 elI M n i G, evsT (.slice ea L.length ec) L, storeT T (toldM m2)]) := Lib.hid (h6.pull 2 rfl)
      have HEA := Lib.hid hea
      clear h6 HE hL hea
      rw [hLl] at hpn ⊢
      have hmx : ¬ max most 0 < (L.length : Int) := by have h1 := HMo.out; rw [HLl.out] at h1; omega
      clear hLl
      go_wp2_with fail
      go_loopg [13, 15, 90] (L.length + 1) (fun g vl _ vi wr => ∃ j : Nat, vi = .int .i64 j ∧ j ≤ L.length ∧ L.length - j ≤ g ∧ vl = .int .i64 (lastP P j) ∧ Hid (Hp w wr [mapT 9 elI M (n - j) i (gdP G P j), evsT (.slice ea L.length ec) L, storeT T (toldM m2)]))
      case atStart => exact ⟨0, rfl, by omega, by omega, rfl, by rw [gdP_zero]; exact H6⟩
      case round =>
        obtain ⟨j, rfl, hj, hg2, rfl, HH⟩ := hrel
        clear H6
        by_cases hjl : j < L.length
        case pos =>
          have hjc : (j : Int) < (L.length : Int) := by omega
          have hjP : j < P.length := by rw [HLl.out]; exact hjl
          obtain ⟨gb, rfl⟩ := HEA.out (by omega)
          obtain ⟨e0, e1⟩ := evs_cell (HH.out.pull 1 rfl) hjl
          rw [HLat.out j hjl hjP] at e0 e1
          have HLs := Lib.hid (lastP_le HS.out HPs.out hjP)
          have HLn := Lib.hid (lastP_succ hjP)
          have HGa := Lib.hid (gdP_at HS.out HPs.out hjP)
          have HGs := Lib.hid (gdP_succ G P hjP)
          have hle := (HPs.out.ins _ (List.getElem_mem hjP)).2
          have hd1 := HS.out.w1 _ (HPs.out.ins _ (List.getElem_mem hjP)).1
          have hks := HS.out.tn _ (HS.out.ok.sk _ (HPs.out.ins _ (List.getElem_mem hjP)).1)
          have hks := hks.2
          generalize P[j] = d at *
          obtain ⟨t, k⟩ := d
          simp only at e0 e1 HLs HLn HGa HGs hle hd1 hks
          have hkm : k.size ≤ maxLen := by unfold maxLen; omega
          have H1 : Hid (Hp w (wr.alloc (.cells #[.int .i64 3, .string k] 62)) [cellsT wr.heap.size [.int .i64 3, .string k], mapT 9 elI M (n - j) i (gdP G P j), evsT (.slice (some ⟨gb, 0, none⟩) L.length ec) L, storeT T (toldM m2)]) := Lib.hid (HH.out.cellsNew [.int .i64 3, .string k] 62)
          clear HH
          go_upto_region 25 with fail
          generalize wr.alloc (.cells #[.int .i64 3, .string k] 62) = W1 at *
          generalize wr.heap.size = B at *
          clear e0 e1
          have b0 := H1.out.cell 0 rfl
          have b1 := H1.out.cell 1 rfl
          have hlk : (Instr.lookup 75 (.map (some M)) (.string k) false).run Tryz.prog W1 = .ok (.int .i64 t) W1 := by
            have h1 := Sp.Hp.mapLook (T := 75) (H1.out.pull 1 rfl) Tryz.underlying9 Tryz.underlying75 k hkm
            rw [HGa.out] at h1
            exact h1
          have hls := HLs.out
          obtain ⟨q, hq⟩ : ∃ q, lastP P j = q := ⟨_, rfl⟩
          rw [hq] at hls ⊢
          clear hq HLs
          go_upto_region 28 with fail
          obtain ⟨n2, hn2⟩ : ∃ n2, n - (j + 1) = n2 := ⟨_, rfl⟩
          have HN2 : Hid ((n - j - if (gdP G P j k).isSome = true then 1 else 0) = n2) := Lib.hid (by rw [HGa.out, ← hn2]; show n - j - 1 = _; omega)
          have HN3 := Lib.hid hn2
          clear hn2 hlk
          go_wp2_with (at_delete; refine Sp.Hp.mapDel (H1.out.pull 1 rfl) rfl _ _ 75 _ rfl rfl Tryz.underlying9 Tryz.underlying75 rfl k rfl hkm n2 HN2.out ?_)
          intro w7 h7
          rw [HGs.out] at h7
          have H7 : Hid (Hp w w7 [mapT 9 elI M (n - (j + 1)) i (gdP G P (j + 1)), evsT (.slice (some ⟨gb, 0, none⟩) L.length ec) L, storeT T (toldM m2)]) := Lib.hid (by rw [HN3.out]; exact (Sp.Hp.pull h7 1 rfl).drop)
          clear h7 H1 b0 b1
          go_wp2_with fail
          go_roundg (gk - 1)
          case measure => omega
          case rel => exact ⟨j + 1, by go_num, by omega, by omega, by rw [HLn.out], H7⟩
        case neg =>
          have hjc : ¬ ((j : Int) < (L.length : Int)) := by omega
          obtain rfl : j = L.length := by omega
          have HRs : Hid (∀ k t, gdP G P L.length k = some t → ((L.length : Int) < most → now < t) ∧ (0 < L.length → lastP P L.length ≤ t)) := Lib.hid (by rw [← HLl.out]; intro k t h; exact gdP_rest HS.out HPs.out h)
          have HKn : Hid (m2.K.length = n - L.length) := Lib.hid (by have := HKl.out; have := HLl.out; omega)
          generalize gdP G P L.length = G2 at *
          generalize lastP P L.length = q at *
          have hnb : n - L.length ≤ 30 := by omega
          generalize n - L.length = n3 at *
          clear HEA HLat HPs HS
          go_wp2_with (at_range; refine Sp.Hp.mapRange HH.out rfl _ 75 rfl Tryz.underlying9 Tryz.underlying75 rfl ?_; intro w0 h0 hs0)
          try go_frame
          have H0 : Hid (Hp w w0 [rngT 9 elI M wr.heap.size n3 i G2 n3, evsT (.slice ea L.length ec) L, storeT T (toldM m2)]) := Lib.hid h0
          clear h0 hs0 HH
          generalize wr.heap.size = rr at *
          go_loopg [17] (n3 + 1) (fun g _ wr => ∃ cnt : Nat, cnt ≤ g ∧ Hid (Hp w wr [rngT 9 elI M rr n3 i G2 cnt, evsT (.slice ea L.length ec) L, storeT T (toldM m2)]))
          case atStart => exact ⟨n3, by omega, H0⟩
          case round =>
            obtain ⟨cnt, hcg, HH⟩ := hrel
            clear H0
            have H1 := Lib.hid HH.out.rngEnd
            obtain ⟨E, hE0, hlen⟩ := store_len (H1.out.pull 2 rfl)
            have HL : Hid (∀ wb, Below wr.heap.size wr wb → Calls Tryz.prog 13 #[.pointer (some ⟨E, 0, none⟩)] wb fun e w' => e = .returned (.int .i64 n3) ∧ ∃ n, w' = wb.drewN n) := Lib.hid (by
              intro wb hb
              have h1 := hlen wb hb
              rw [show (toldM m2).K.length = n3 from HKn.out] at h1
              exact h1)
            clear hlen
            go_wp2_with (at_next; refine Sp.Hp.rngNext HH.out rfl _ rfl Tryz.underlying9 rfl ?_ ?_)
            · clear HH
              refine (HL.out _ (Below.refl _ _)).mono ?_; rintro en w8 ⟨rfl, nn, rfl⟩
              have H2 := Lib.hid (H1.out.bel (Ta.drewN_below wr nn))
              clear H1 hE0 HL
              generalize wr.drewN nn = W8 at *
              go_wp2_with (at_len; refine Sp.Hp.mapLenAt H2.out rfl _ 75 rfl Tryz.underlying75 rfl ?_)
              go_ret
              exact ⟨rfl, H2.out.below⟩
            · intro k t w8 cnt8 hgk hks hlt h8 hen
              have hr := HRs.out k t hgk
              replace hen : (Instr.entry (.pointer (some ⟨rr, 0, none⟩))).run Tryz.prog w8 = .ok (.tuple #[.string k, .int .i64 t]) w8 := hen
              have H8 := Lib.hid h8
              rw [show elI.enc t = Value.int .i64 t from rfl]
              clear h8 HH hgk H1 HL hE0
              by_cases hA : (L.length : Int) < most
              · have hA1 := hr.1 hA
                by_cases hB : 0 < L.length
                · have hBc : (0 : Int) < (L.length : Int) := by omega
                  have hB1 := hr.2 hB
                  clear hr
                  go_wp2_with fail
                  go_roundg (gk - 1)
                  case measure => omega
                  case rel => exact ⟨cnt8, by omega, H8⟩
                · have hBc : ¬ (0 : Int) < (L.length : Int) := by omega
                  clear hr
                  go_wp2_with fail
                  go_roundg (gk - 1)
                  case measure => omega
                  case rel => exact ⟨cnt8, by omega, H8⟩
              · by_cases hB : 0 < L.length
                · have hBc : (0 : Int) < (L.length : Int) := by omega
                  have hB1 := hr.2 hB
                  clear hr
                  go_wp2_with fail
                  go_roundg (gk - 1)
                  case measure => omega
                  case rel => exact ⟨cnt8, by omega, H8⟩
                · have hBc : ¬ (0 : Int) < (L.length : Int) := by omega
                  clear hr
                  go_wp2_with fail
                  go_roundg (gk - 1)
                  case measure => omega
                  case rel => exact ⟨cnt8, by omega, H8⟩
end Go.Proofs.YtmakmaambjgcnaaGreatDoor.Sa
/- Acts that came in; the statements' great. No condition. -/
namespace Go.Proofs.YtmakmaambjgcnaaGreatDoor.Sa
set_option linter.unusedVariables false
set_option linter.unusedSimpArgs false
open Go.ChangeShapes Go.WideShapes Go.ChangeAt Go.RowKit
open Sp (Th Hp Stays All Ro roT rowT cellsT exT puT star)
/-- An act; where its item's fields lie. -/
structure Ac where
  kd : Int
  n : Int
  k : ByteArray
  i : Ia.It
  a : Option Addr
  c : Nat
  kp : Bool
  wh : Int
  wt : Nat
def cells9 (q : Ac) : List Value := [.int .i64 q.kd, .int .i64 q.n, .string q.k, .int .i64 q.i.k, .string q.i.t, .slice q.a q.i.l.length q.c, .bool q.kp, .int .i64 q.wh, .int .u16 q.wt]
/-- Acts as they lie. -/
def InA (W : World) (a : Option Addr) (l : List Ac) : Prop := 0 < l.length → ∃ b o, a = some ⟨b, o, none⟩ ∧ b < W.heap.size ∧ ∀ i (h : i < l.length), (∀ j (hj : j < 9), W.cell? ⟨b, o + i * 9 + j, none⟩ = some ((cells9 l[i])[j]'(by show j < 9; exact hj))) ∧ Ia.InF W l[i].a l[i].i.l ∧ l[i].i.l.length ≤ l[i].c ∧ l[i].c ≤ 9223372036854775807
theorem InA.below {B : Nat} {w w' : World} {a : Option Addr} {l : List Ac} (h : InA w a l) (hB : w.heap.size ≤ B) (hb : Below B w w') : InA w' a l := fun hp => by
  obtain ⟨b, o, rfl, hlt, hc⟩ := h hp
  refine ⟨b, o, rfl, Nat.lt_of_lt_of_le hlt hb.size, fun i hi => ⟨fun j hj => ?_, (hc i hi).2.1.below hB hb, (hc i hi).2.2⟩⟩
  have e : w'.cell? ⟨b, o + i * 9 + j, none⟩ = w.cell? ⟨b, o + i * 9 + j, none⟩ := hb.cell (p := ⟨b, o + i * 9 + j, none⟩) (Nat.lt_of_lt_of_le hlt hB)
  rw [e]
  exact (hc i hi).1 j hj
/-- The nine cells of an act, one by one. -/
theorem InA.at_ {w : World} {b o : Nat} {l : List Ac} {i : Nat} (hi : i < l.length) (h : ∀ j (hj : j < 9), w.cell? ⟨b, o + i * 9 + j, none⟩ = some ((cells9 l[i])[j]'(by show j < 9; exact hj))) :
    w.cell? ⟨b, o + i * 9, none⟩ = some (.int .i64 l[i].kd) ∧ w.cell? ⟨b, o + i * 9 + 1, none⟩ = some (.int .i64 l[i].n) ∧ w.cell? ⟨b, o + i * 9 + 2, none⟩ = some (.string l[i].k) ∧ w.cell? ⟨b, o + i * 9 + 3, none⟩ = some (.int .i64 l[i].i.k) ∧ w.cell? ⟨b, o + i * 9 + 4, none⟩ = some (.string l[i].i.t) ∧ w.cell? ⟨b, o + i * 9 + 5, none⟩ = some (.slice l[i].a l[i].i.l.length l[i].c) ∧ w.cell? ⟨b, o + i * 9 + 6, none⟩ = some (.bool l[i].kp) ∧ w.cell? ⟨b, o + i * 9 + 7, none⟩ = some (.int .i64 l[i].wh) ∧ w.cell? ⟨b, o + i * 9 + 8, none⟩ = some (.int .u16 l[i].wt) :=
  ⟨h 0 (by decide), h 1 (by decide), h 2 (by decide), h 3 (by decide), h 4 (by decide), h 5 (by decide), h 6 (by decide), h 7 (by decide), h 8 (by decide)⟩
/-- An act that is looked at. -/
def okA1 (q : Ac) : Prop := q.k.size ≤ 600 ∧ q.i.t.size ≤ 5000 ∧ q.i.l.length ≤ 20 ∧ ∀ j (h : j < q.i.l.length), q.i.l[j].1.size ≤ 600 ∧ q.i.l[j].2.size ≤ 5000
def okA (l : List Ac) : Prop := l.length ≤ 80 ∧ ∀ i (h : i < l.length), okA1 l[i]
set_option maxHeartbeats 8000000 in
set_option maxRecDepth 100000 in
theorem great_calls (w : World) (a : Option Addr) (c n : Nat) (l : List Ac) (hn : n = l.length) (hI : InA w a l) :
    Calls Tryz.prog 9 #[.slice a n c] w fun e w' => (e = .returned (.bool true) ∨ (e = .returned (.bool false) ∧ okA l)) ∧ Below w.heap.size w w' := by
  subst hn
  have HI := Lib.hid hI
  clear hI
  go_enter Tryz.func9, Tryz.ntmps9
  by_cases hl : 80 < l.length
  · have hlc : (80 : Int) < (l.length : Int) := by omega
    go_wp2_with fail
    go_ret
    exact ⟨.inl rfl, Below.refl _ _⟩
  · have hlc : ¬ (80 : Int) < (l.length : Int) := by omega
    go_wp2_with fail
    go_loopg [4, 6, 12, 13, 14, 15, 16, 17, 18, 19, 20, 21, 22, 23, 24, 25, 26, 27, 28, 29, 30, 31, 32, 33, 34, 35, 36, 37, 38, 39, 40, 41, 42, 43, 44, 45, 46, 47, 48, 49, 50, 51, 52, 53] (l.length + 1) (fun g _ _ vi _ _ _ _ _ _ _ _ _ _ _ _ _ _ _ _ _ _ _ _ _ _ _ _ _ _ _ _ _ _ _ _ _ _ _ _ _ _ _ _ _ wr => ∃ i : Nat, vi = .int .i64 i ∧ i ≤ l.length ∧ l.length - i ≤ g ∧ Hid (∀ j (h : j < l.length), j < i → okA1 l[j]) ∧ Hid (Below w.heap.size w wr))
    case atStart => exact ⟨0, rfl, by omega, by omega, Lib.hid (fun _ _ h => absurd h (Nat.not_lt_zero _)), Lib.hid (Below.refl _ _)⟩
    case round =>
      obtain ⟨i, rfl, hi, hg, HK, HB⟩ := hrel
      by_cases hil : i < l.length
      case neg =>
        have hic : ¬ ((i : Int) < (l.length : Int)) := by omega
        go_wp2_with fail
        go_ret
        exact ⟨.inr ⟨rfl, by omega, fun j hj => HK.out j hj (by omega)⟩, HB.out⟩
      case pos =>
        have hic : (i : Int) < (l.length : Int) := by omega
        obtain ⟨b, o, rfl, hlt, hc⟩ := (HI.out.below (Nat.le_refl _) HB.out) (by omega)
        obtain ⟨hc1, hf, hfc, hcc⟩ := hc i hil
        obtain ⟨c0, c1, c2, c3, c4, c5, c6, c7, c8⟩ := InA.at_ hil hc1
        have HB2 := Lib.hid (fun O => Sp.bstep HB.out (Sp.bbox (w := wr) O))
        have HF := Lib.hid (fun O => hf.below (Nat.le_refl _) (Sp.bbox (w := wr) O))
        have HKn : Hid (okA1 l[i] → ∀ j (h : j < l.length), j < i + 1 → okA1 l[j]) := Lib.hid (fun h1 j h hj => by
          by_cases hji : j = i
          · subst hji; exact h1
          · exact HK.out j h (by omega))
        clear hc hc1 hf hlt
        generalize l[i] = q at *
        obtain ⟨kd, nn, k, it, fa, fc, kp, wh, wt⟩ := q
        simp only at c0 c1 c2 c3 c4 c5 c6 c7 c8 HF hfc hcc
        by_cases h1 : 600 < k.size
        · have h1c : (600 : Int) < (k.size : Int) := by omega
          go_wp2_with fail
          go_ret
          exact ⟨.inl rfl, HB2.out _⟩
        have h1c : ¬ (600 : Int) < (k.size : Int) := by omega
        by_cases h2 : 5000 < it.t.size
        · have h2c : (5000 : Int) < (it.t.size : Int) := by omega
          go_wp2_with fail
          go_ret
          exact ⟨.inl rfl, HB2.out _⟩
        have h2c : ¬ (5000 : Int) < (it.t.size : Int) := by omega
        by_cases h3 : 20 < it.l.length
        · have h3c : (20 : Int) < (it.l.length : Int) := by omega
          go_wp2_with fail
          go_ret
          exact ⟨.inl rfl, HB2.out _⟩
        have h3c : ¬ (20 : Int) < (it.l.length : Int) := by omega
        go_wp2_with fail
        obtain ⟨wo, hwo⟩ : ∃ wo : World, wo = wr.alloc (.cells #[.int .i64 kd, .int .i64 nn, .string k, .int .i64 it.k, .string it.t, .slice fa it.l.length fc, .bool kp, .int .i64 wh, .int .u16 wt] 34) := ⟨_, rfl⟩
        have HBo : Hid (Below w.heap.size w wo) := Lib.hid (by rw [hwo]; exact HB2.out _)
        have HFo : Hid (Ia.InF wo fa it.l) := Lib.hid (by rw [hwo]; exact HF.out _)
        rw [← hwo]
        clear hwo c0 c1 c2 c3 c4 c5 c6 c7 c8
        generalize wr.heap.size = bx at *
        obtain ⟨gO, rfl⟩ : ∃ gO : Nat, gO = gk := ⟨_, rfl⟩
        go_loopg [6, 38, 39, 40, 41, 42, 43, 44, 45, 46, 47, 48, 49, 50, 51, 52] (it.l.length + 1) (fun g2 _ vj _ _ _ _ _ _ _ _ _ _ _ _ _ _ wr => ∃ j : Nat, vj = .int .i64 j ∧ j ≤ it.l.length ∧ it.l.length - j ≤ g2 ∧ Hid (∀ x (h : x < it.l.length), x < j → it.l[x].1.size ≤ 600 ∧ it.l[x].2.size ≤ 5000) ∧ Hid (Below wo.heap.size wo wr))
        case atStart => exact ⟨0, rfl, by omega, by omega, Lib.hid (fun _ _ h => absurd h (Nat.not_lt_zero _)), Lib.hid (Below.refl _ _)⟩
        case round =>
          obtain ⟨j, rfl, hj, hg2, HK2, HBr⟩ := hrel
          by_cases hjl : j < it.l.length
          case neg =>
            have hjc : ¬ ((j : Int) < (it.l.length : Int)) := by omega
            have HKd := Lib.hid (HKn.out ⟨by show k.size ≤ 600; omega, by show it.t.size ≤ 5000; omega, by show it.l.length ≤ 20; omega, fun x hx => HK2.out x hx (by have : x < it.l.length := hx; omega)⟩)
            have HBz := Lib.hid (Sp.bstep HBo.out HBr.out)
            clear HKn HK2
            go_wp2_with fail
            go_roundg (gO - 1)
            case measure => omega
            case rel => exact ⟨i + 1, by go_num, by omega, by omega, HKd, HBz⟩
          case pos =>
            have hjc : (j : Int) < (it.l.length : Int) := by omega
            obtain ⟨fb, fo, rfl, hflt, hfcs⟩ := (HFo.out.below (Nat.le_refl _) HBr.out) (by omega)
            obtain ⟨d0, d1⟩ := hfcs j hjl
            have HB3 := Lib.hid (fun O => Sp.bstep HBr.out (Sp.bbox (w := wr) O))
            have HK3 : Hid (it.l[j].1.size ≤ 600 → it.l[j].2.size ≤ 5000 → ∀ x (h : x < it.l.length), x < j + 1 → it.l[x].1.size ≤ 600 ∧ it.l[x].2.size ≤ 5000) := Lib.hid (fun k1 k2 x h hx => by
              by_cases hxj : x = j
              · subst hxj; exact ⟨k1, k2⟩
              · exact HK2.out x h (by omega))
            clear hfcs hflt HK2
            generalize it.l[j] = f at *
            obtain ⟨fx, fy⟩ := f
            have d0 : wr.cell? ⟨fb, fo + j * 2, none⟩ = some (.string fx) := d0
            have d1 : wr.cell? ⟨fb, fo + j * 2 + 1, none⟩ = some (.string fy) := d1
            by_cases h4 : 600 < fx.size
            · have h4c : (600 : Int) < (fx.size : Int) := by omega
              go_wp2_with fail
              go_ret
              exact ⟨.inl rfl, Sp.bstep HBo.out (HB3.out _)⟩
            have h4c : ¬ (600 : Int) < (fx.size : Int) := by omega
            by_cases h5 : 5000 < fy.size
            · have h5c : (5000 : Int) < (fy.size : Int) := by omega
              go_wp2_with fail
              go_ret
              exact ⟨.inl rfl, Sp.bstep HBo.out (HB3.out _)⟩
            have h5c : ¬ (5000 : Int) < (fy.size : Int) := by omega
            have HK4 := Lib.hid (HK3.out (by show fx.size ≤ 600; omega) (by show fy.size ≤ 5000; omega))
            go_wp2_with fail
            go_roundg (gk - 1)
            case measure => omega
            case rel => exact ⟨j + 1, by go_num, by omega, by omega, HK4, Lib.hid (HB3.out _)⟩
end Go.Proofs.YtmakmaambjgcnaaGreatDoor.Sa
