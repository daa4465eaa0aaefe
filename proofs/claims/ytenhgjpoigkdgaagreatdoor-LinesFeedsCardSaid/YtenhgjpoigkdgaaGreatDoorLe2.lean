/- Rows of rows of texts; the checking package's All, at every text. No condition but a bound. -/
import Derived.Test.YtenhgjpoigkdgaaGreatDoorLe1
import Derived.Test.YtenhgjpoigkdgaaGreatDoorLr8
import Derived.Test.YtenhgjpoigkdgaaGreatDoorLq3
import Derived.Maps.AppendAt
namespace Go.Proofs.YtenhgjpoigkdgaaGreatDoor.Ln
open Go.ChangeShapes Go.WideShapes Go.ChangeAt Go.RowKit
open Go.Proofs.YtenhgjpoigkdgaaGreatDoor.Lw
/-- Words that lie somewhere: they, where, how many might. -/
abbrev Piece : Type := List (List UInt8) × Option Addr × Nat
def pieceV (p : Piece) : Value := .slice p.2.1 p.1.length p.2.2
def cellsQ (P : List Piece) : List Value := P.map pieceV
theorem cellsQ_len (P : List Piece) : (cellsQ P).length = P.length := by simp [cellsQ]
theorem cellsQ_app (P R : List Piece) : cellsQ (P ++ R) = cellsQ P ++ cellsQ R := by simp [cellsQ]
def wordsQ (P : List Piece) : List (List (List UInt8)) := P.map (·.1)
theorem wordsQ_app (P R : List Piece) : wordsQ (P ++ R) = wordsQ P ++ wordsQ R := by simp [wordsQ]
def GoodQ (w : World) (P : List Piece) : Prop := ∀ p ∈ P, InS w p.2.1 p.1 ∧ p.1.length ≤ p.2.2 ∧ p.2.2 ≤ 9223372036854775807
theorem GoodQ.below {w w' : World} {P : List Piece} (h : GoodQ w P) (hb : Below w.heap.size w w') : GoodQ w' P := fun p hp => ⟨(h p hp).1.below hb, (h p hp).2⟩
theorem iss : (Tryz.prog.info? 32).map (fun i => (i.zero, i.size, i.bytes)) = some (some (.slice none 0 0), 1, 24) := by kernel_rfl
theorem InS.keep {w w' : World} {a : Option Addr} {l : List (List UInt8)} (h : InS w a l) (hb : ∀ ad, a = some ad → w'.heap[ad.block]? = w.heap[ad.block]?) : InS w' a l := fun i hi => by
  obtain ⟨g, e, hc⟩ := h i hi
  refine ⟨g, e, ?_⟩
  have := hb _ e
  simp only [World.cell?] at hc ⊢
  rw [this]
  exact hc
/-- What a row's slice is, with its block. -/
theorem lie_at {B : Nat} {w : World} {v : Value} {l : List (List UInt8)} (h : Lie B w v l) :
    ∃ a c, v = .slice a l.length c ∧ l.length ≤ c ∧ c ≤ 9223372036854775807 ∧ InS w a l ∧ ∀ ad, a = some ad → B ≤ ad.block ∧ ad.block < w.heap.size := by
  have hf := h.facts
  rcases h.2 with ⟨hv, hn⟩ | ⟨g, cap, cur, hv, hg, hh, -⟩
  · obtain ⟨a, c, e, h1, h2, h3⟩ := hf
    refine ⟨a, c, e, h1, h2, h3, fun ad ea => ?_⟩
    rw [hv, ea] at e
    cases e
  · obtain ⟨a, c, e, h1, h2, h3⟩ := hf
    refine ⟨a, c, e, h1, h2, h3, fun ad ea => ?_⟩
    rw [hv, ea] at e
    injection e with e _ _
    injection e with e
    subst e
    exact ⟨hg, (Array.getElem?_eq_some_iff.1 hh).1⟩
/-- Rows of texts, in a row v that was made behind block B, each in a block of its own behind B. -/
structure GotQ (B : Nat) (w : World) (v : Value) (P : List Piece) : Prop where
  le : B ≤ w.heap.size
  row : w.ownsRow B 32 1 v P.length (cellsQ P)
  good : GoodQ w P
  apart : ∀ p ∈ P, ∀ ad, p.2.1 = some ad → B ≤ ad.block ∧ ad.block < w.heap.size ∧ v.ownBlock ≠ some ad.block
theorem GotQ.below {B : Nat} {w w' : World} {v : Value} {P : List Piece} (h : GotQ B w v P) (hb : Below w.heap.size w w') : GotQ B w' v P :=
  ⟨Nat.le_trans h.le hb.size, h.row.kept (grow_of0 hb) (by cases hv : v.ownBlock <;> simp), h.good.below hb, fun p hp ad e => ⟨(h.apart p hp ad e).1, Nat.lt_of_lt_of_le (h.apart p hp ad e).2.1 hb.size, (h.apart p hp ad e).2.2⟩⟩
theorem GotQ.own_lt {B : Nat} {w : World} {v : Value} {P : List Piece} (h : GotQ B w v P) {k : Nat} (hk : v.ownBlock = some k) : B ≤ k ∧ k < w.heap.size := by
  rcases h.row.2 with ⟨rfl, -⟩ | ⟨g, cap, cur, rfl, hg, hh, -⟩
  · cases hk
  · have hk : some g = some k := hk
    injection hk with hk
    subst hk
    exact ⟨hg, (Array.getElem?_eq_some_iff.1 hh).1⟩
theorem GotQ.slice {B : Nat} {w : World} {v : Value} {P : List Piece} (h : GotQ B w v P) : ∃ a c, v = .slice a P.length c ∧ P.length ≤ c ∧ c ≤ 9223372036854775807 ∧ (∀ ad, a = some ad → v.ownBlock = some ad.block) ∧ ∀ i (hi : i < P.length), ∃ g, a = some ⟨g, 0, none⟩ ∧ w.cell? ⟨g, i, none⟩ = some (pieceV P[i]) := by
  rcases h.row.2 with ⟨rfl, hn⟩ | ⟨g, cap, cur, rfl, hg, hh, h1, h2, h3, h4⟩
  · exact ⟨none, 0, by rw [hn], by omega, Nat.zero_le _, (fun ad e => by cases e), fun i hi => absurd hi (by omega)⟩
  · refine ⟨some ⟨g, 0, none⟩, cap, rfl, h1, by unfold maxLen at h2; omega, fun ad e => by injection e with e; subst e; rfl, fun i hi => ⟨g, rfl, ?_⟩⟩
    have e1 : (cur.toList.take (P.length * 1))[i]? = cur.toList[i]? := List.getElem?_take_of_lt (by omega)
    rw [h4] at e1
    simp only [World.cell?, hh]
    have e2 : (cellsQ P)[i]? = some (pieceV P[i]) := by simp [cellsQ, hi]
    rw [e2] at e1
    simpa using e1.symm
theorem got_push {B : Nat} {w : World} {v : Value} {P : List Piece} {ops : Array Oper} {rest : List Oper} {o : Oper} {a : Act} {Q : Exit → Act → World → Prop} (hO : GotQ B w v P) (hgd : o.guard = none) (s x : Operand)
    (ho : o.op = .call { callee := .builtin .append, args := #[s, x], argTypes := #[25, 25] }) (hs : a.eval s = v) (p : Piece) (arr : Array Value) (Te : TypeId) (c : Nat)
    (hx : a.eval x = .slice (some ⟨w.heap.size, 0, none⟩) 1 c) (harr : arr = #[pieceV p]) (hl : P.length ≤ 1000000000)
    (hp : InS w p.2.1 p.1 ∧ p.1.length ≤ p.2.2 ∧ p.2.2 ≤ 9223372036854775807) (hap : ∀ ad, p.2.1 = some ad → B ≤ ad.block ∧ ad.block < w.heap.size ∧ v.ownBlock ≠ some ad.block)
    (h : ∀ v' w', GotQ B w' v' (P ++ [p]) → w.grownBy w' v.ownBlock → (v'.ownBlock = v.ownBlock ∨ ∃ k, v'.ownBlock = some k ∧ w.heap.size ≤ k) → wpList Tryz.prog ops Q rest (a.put o.dst v') w') : wpList Tryz.prog ops Q (o :: rest) a (w.alloc (.cells arr Te)) := by
  obtain ⟨i0, hi, hz0, hz1, hz2⟩ := info_parts iss
  subst harr
  have hbx := bbox (w := w) (.cells #[pieceV p] Te)
  have hO2 := hO.below hbx
  refine wpList_append_own_at _ hgd s x 25 ho B 32 i0 (.slice none 0 0) 1 24 Tryz.underlying25 hi hz0 hz1 hz2 rfl (by decide) v P.length (cellsQ P) hs hO2.row ⟨w.heap.size, 0, none⟩ 1 c [pieceV p] hx rfl (cell_one_new _ _ _) (fun u hu => by simp at hu; subst hu; rfl) (by unfold maxLen; omega) (by omega) hO2.le ?_
  intro v' w' hr hg _ hat
  have hsz : w.heap.size ≤ w'.heap.size := Nat.le_trans hbx.size hg.size
  have hgw : w.grownBy w' v.ownBlock := ⟨hg.os.trans hbx.os, hg.tape.trans hbx.tape, hg.output.trans hbx.output, hsz, fun k hk hne => (hg.block k (Nat.lt_of_lt_of_le hk hbx.size) hne).trans (hbx.block k hk)⟩
  have hat2 : v'.ownBlock = v.ownBlock ∨ ∃ k, v'.ownBlock = some k ∧ w.heap.size ≤ k := by
    rcases hat with h | h
    · exact .inl h
    · exact .inr ⟨_, h, hbx.size⟩
  have hkeep : ∀ ad : Addr, ad.block < w.heap.size → v.ownBlock ≠ some ad.block → w'.heap[ad.block]? = w.heap[ad.block]? := fun ad h1 h2 => hgw.block _ h1 (fun e => h2 e.symm)
  have hne2 : ∀ ad : Addr, ad.block < w.heap.size → v.ownBlock ≠ some ad.block → v'.ownBlock ≠ some ad.block := fun ad h1 h2 e => by
    rcases hat2 with h | ⟨k, h, h3⟩
    · exact h2 (h.symm.trans e)
    · rw [h] at e
      injection e with e
      omega
  refine h v' w' ⟨Nat.le_trans hO.le hsz, ?_, ?_, ?_⟩ hgw hat2
  · rw [List.length_append, cellsQ_app]
    exact hr
  · intro q hq
    rcases List.mem_append.1 hq with hq | hq
    · exact ⟨(hO.good q hq).1.keep fun ad e => hkeep ad (hO.apart q hq ad e).2.1 (hO.apart q hq ad e).2.2, (hO.good q hq).2⟩
    · rw [List.mem_singleton] at hq
      subst hq
      exact ⟨hp.1.keep fun ad e => hkeep ad (hap ad e).2.1 (hap ad e).2.2, hp.2⟩
  · intro q hq ad e
    rcases List.mem_append.1 hq with hq | hq
    · have h1 := hO.apart q hq ad e
      exact ⟨h1.1, Nat.lt_of_lt_of_le h1.2.1 hsz, hne2 ad h1.2.1 h1.2.2⟩
    · rw [List.mem_singleton] at hq
      subst hq
      have h1 := hap ad e
      exact ⟨h1.1, Nat.lt_of_lt_of_le h1.2.1 hsz, hne2 ad h1.2.1 h1.2.2⟩
/-- What comes of the checking package's All. -/
def AllAns (C : List (List (List UInt8))) (R : List UInt8) (E : Int) (w : World) (e : Ending) (w' : World) : Prop := Below w.heap.size w w' ∧
  ∃ v P, e = .returned (.tuple #[v, .string ⟨R.toArray⟩, .int .i64 E]) ∧ wordsQ P = C ∧ GotQ w.heap.size w' v P
theorem got_made (w : World) (B : Nat) (hB : B ≤ w.heap.size) : GotQ B (w.alloc (.cells #[] 32)) (.slice (some ⟨w.heap.size, 0, none⟩) 0 0) [] :=
  ⟨Nat.le_trans hB (bbox _).size, World.ownsRow_made w #[] 0 hB (Nat.zero_le _) rfl, (fun p hp => by cases hp), (fun p hp => by cases hp)⟩
set_option maxHeartbeats 8000000 in
set_option maxRecDepth 1000000 in
theorem rall_calls (s : ByteArray) (hs : s.size ≤ 1000000) (C : List (List (List UInt8))) (R : List UInt8) (E : Int) (hA : All s.data.toList C R E) (w : World) :
    Calls Tryz.prog 7 #[.string s] w (AllAns C R E w) := by
  have HP := Lib.hid rparse_calls
  have HA := Lib.hid hA
  clear hA
  go_enter Tryz.func7, Tryz.ntmps7
  go_wp2_with fail
  go_loopg [0, 5, 6, 7, 8] s.size (fun g sv ov _ _ _ wr => ∃ (t : ByteArray) (P : List Piece) (c : List (List (List UInt8))), sv = .string t ∧ t.size ≤ g ∧ t.size ≤ s.size ∧ P.length + t.size ≤ s.size ∧ GotQ w.heap.size wr ov P ∧ Hid (Below w.heap.size w wr) ∧ Hid (All t.data.toList c R E) ∧ Hid (wordsQ P ++ c = C))
  case atStart => exact ⟨s, [], C, rfl, Nat.le_refl _, Nat.le_refl _, by simp, got_made w _ (Nat.le_refl _), Lib.hid (bbox _), HA, Lib.hid rfl⟩
  case round =>
    obtain ⟨t, P, c, rfl, htg, hts, hPs, hS, HBx, HAt, HC⟩ := hrel
    obtain ⟨pa, cp, rfl, hcp, hcm, -, -⟩ := hS.slice
    have HS := Lib.hid hS
    clear hS
    have hp := HP.out t (by omega)
    have htl := len_of t
    cases hq : Lw.parseR t.data.toList with
    | bad =>
      obtain ⟨rfl, rfl, rfl⟩ := HAt.out.bad_inv hq
      rw [hq] at hp
      have Hp := Lib.hid hp
      clear hp hq
      go_wp2_with fail
      refine (Hp.out _).mono ?_; rintro en w2 ⟨hb2, hans⟩
      rcases hans with ⟨-, rfl⟩ | ⟨h, -⟩ | ⟨_, _, _, h, -⟩
      rotate_left
      · cases h
      · cases h
      have HS2 := Lib.hid (HS.out.below hb2)
      have HB2 := Lib.hid (bstep HBx.out hb2)
      clear hb2
      go_wp2_with fail
      go_ret3
      exact ⟨HB2.out, _, P, rfl, by have h := HC.out; rwa [List.append_nil] at h, HS2.out⟩
    | short =>
      obtain ⟨rfl, rfl, rfl⟩ := HAt.out.short_inv hq
      rw [hq] at hp
      have Hp := Lib.hid hp
      clear hp hq
      go_wp2_with fail
      refine (Hp.out _).mono ?_; rintro en w2 ⟨hb2, hans⟩
      rcases hans with ⟨h, -⟩ | ⟨-, rfl⟩ | ⟨_, _, _, h, -⟩
      · cases h
      rotate_left
      · cases h
      have HS2 := Lib.hid (HS.out.below hb2)
      have HB2 := Lib.hid (bstep HBx.out hb2)
      clear hb2
      go_wp2_with fail
      go_ret3
      exact ⟨HB2.out, _, P, by rw [text_mk]; rfl, by have h := HC.out; rwa [List.append_nil] at h, HS2.out⟩
    | got ws u =>
      have hg := Lw.parseR_got hq
      rw [htl] at hg
      obtain ⟨T, hT, hTs, HT⟩ := ext_from t u
      have hu0 : ((u : Int) == 0) = false := by rw [beq_eq_false_iff_ne]; omega
      have hun : ((u : Int)).toNat = u := by omega
      rw [hq] at hp
      have Hp := Lib.hid hp
      clear hp
      by_cases hws : 0 < ws.length
      case neg =>
        obtain rfl : ws = [] := List.eq_nil_of_length_eq_zero (by omega)
        have HA2 : Hid (All T.data.toList c R E) := Lib.hid (by rw [HT.out]; exact HAt.out.skip_inv hq)
        clear hq
        go_wp2_with fail
        refine (Hp.out _).mono ?_; rintro en w2 ⟨hb2, hans⟩
        rcases hans with ⟨h, -⟩ | ⟨h, -⟩ | ⟨ws2, u2, v2, h, rfl, hS2⟩
        · cases h
        · cases h
        injection h with h1 h2
        subst h1 h2
        obtain ⟨a2, c2, rfl, -, -⟩ := hS2.slice
        have HS2 := Lib.hid (HS.out.below hb2)
        have HB2 := Lib.hid (bstep HBx.out hb2)
        clear hb2 hS2
        go_wp2_with fail
        go_roundg (gk - 1)
        case measure => omega
        case rel => exact ⟨T, P, c, rfl, by omega, by omega, by omega, HS2.out, HB2, HA2, HC⟩
      case pos =>
        obtain ⟨c', rfl, hA2⟩ := HAt.out.take_inv hq hws
        have HA2 : Hid (All T.data.toList c' R E) := Lib.hid (by rw [HT.out]; exact hA2)
        clear hq hA2
        go_wp2_with fail
        refine (Hp.out _).mono ?_; rintro en w2 ⟨hb2, hans⟩
        rcases hans with ⟨h, -⟩ | ⟨h, -⟩ | ⟨ws2, u2, v2, h, rfl, hS2⟩
        · cases h
        · cases h
        injection h with h1 h2
        subst h1 h2
        obtain ⟨a2, c2, rfl, hd2, hm2, hI2, hA2⟩ := lie_at (Lie.of hS2)
        have HS2 := Lib.hid (HS.out.below hb2)
        have HB2 := Lib.hid (bstep HBx.out hb2)
        have HI2 : Hid (InS w2 a2 ws) := Lib.hid hI2
        have HAp : Hid (∀ ad, a2 = some ad → w.heap.size ≤ ad.block ∧ ad.block < w2.heap.size ∧ (Value.slice pa P.length cp).ownBlock ≠ some ad.block) := Lib.hid (fun ad e => by
          have h1 := hA2 ad e
          exact ⟨Nat.le_trans HBx.out.size h1.1, h1.2, fun e2 => by have := (HS.out.own_lt e2).2; omega⟩)
        clear hb2 hS2 hI2 hA2
        have hws0 : (0 : Int) < (ws.length : Int) := by omega
        go_wp2_with (at_builtin; refine got_push HS2.out rfl _ _ rfl rfl (ws, a2, c2) _ _ _ rfl rfl ?hl ⟨HI2.out, hd2, hm2⟩ HAp.out ?_)
        case hl => omega
        intro v3 w3 hS3 hg3 _
        have HS3 := Lib.hid hS3
        have HB3 := Lib.hid (HB2.out.grown hg3 HB2.out.size (fun k hk => (HS2.out.own_lt hk).1))
        obtain ⟨a3, c3, rfl, -, -, -, -⟩ := hS3.slice
        clear hS3 hg3
        go_wp2_with fail
        go_roundg (gk - 1)
        case measure => omega
        case rel => exact ⟨T, P ++ [(ws, a2, c2)], c', rfl, by omega, by omega, by rw [List.length_append, List.length_singleton]; omega, HS3.out, HB3, HA2, Lib.hid (by rw [← HC.out, wordsQ_app, List.append_assoc]; rfl)⟩
end Go.Proofs.YtenhgjpoigkdgaaGreatDoor.Ln
