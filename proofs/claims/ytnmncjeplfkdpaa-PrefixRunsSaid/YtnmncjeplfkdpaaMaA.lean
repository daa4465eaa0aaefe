/- Plain facts of layer 13, of no program: words in great and small letters, what they say. No condition. -/
import Derived.Test.YtnmncjeplfkdpaaMa1
import Derived.Test.YtnmncjeplfkdpaaNum
import Derived.Lib.MapLaws
import Derived.Lib.TrimAscii
import Derived.Test.YtnmncjeplfkdpaaChecked
import Derived.Test.YtnmncjeplfkdpaaSp3
import Derived.Sort.Row
import Derived.Laws.AppendOwn
import Derived.Laws.AppendOwnNone
namespace Go.Proofs.Ytnmncjeplfkdpaa.Ma
open Go
def lowc (b : UInt8) : UInt8 := if 65 ≤ b.toNat ∧ b.toNat ≤ 90 then UInt8.ofNat (b.toNat + 32) else b
def isW (s : BA) (t : List UInt8) : Bool := (tl s).map lowc == t
def fl (r : Int) : Int := if 65 ≤ r ∧ r ≤ 90 then r + 32 else r
theorem fl_nn (x : Nat) (h : x ≤ 1114111) : 0 ≤ fl x ∧ fl x ≤ 2147483647 := by unfold fl; split <;> omega
theorem byte_big (z : Int) (h0 : 128 ≤ z) (h1 : z ≤ 255) : 128 ≤ (z.toNat.toUInt8).toNat := by
  have e : (z.toNat.toUInt8).toNat = z.toNat % 256 := by simp
  rw [e, Nat.mod_eq_of_lt (by omega)]
  omega
theorem encode_head (r : Int) (h : 128 ≤ r) (h2 : r ≤ 1114111) : ∃ c t, Lib.encodeRune r = c :: t ∧ 128 ≤ c.toNat := by
  unfold Lib.encodeRune
  by_cases h3 : r ≤ 2047
  · rw [Lib.encodeRuneZ_two h h3]; exact ⟨_, _, rfl, byte_big _ (by omega) (by omega)⟩
  · by_cases h4 : (2048 ≤ r ∧ r < 55296) ∨ (57343 < r ∧ r ≤ 65535)
    · rw [Lib.encodeRuneZ_three h4]; exact ⟨_, _, rfl, byte_big _ (by omega) (by omega)⟩
    · by_cases h5 : 65536 ≤ r
      · rw [Lib.encodeRuneZ_four h5 h2]; exact ⟨_, _, rfl, byte_big _ (by omega) (by omega)⟩
      · rw [Lib.encodeRuneZ_bad (by omega)]; exact ⟨_, _, rfl, byte_big _ (by omega) (by omega)⟩
theorem encode_low (b : UInt8) (h : b.toNat < 128) : Lib.encodeRune (fl (b.toNat : Int)) = [lowc b] := by
  unfold Lib.encodeRune fl lowc
  by_cases h1 : 65 ≤ b.toNat ∧ b.toNat ≤ 90
  · rw [if_pos (by omega), if_pos h1, Lib.encodeRuneZ_one (by omega) (by omega)]
    simp only [List.map_cons, List.map_nil]
    congr 1
  · rw [if_neg (by omega), if_neg h1, Lib.encodeRuneZ_one (by omega) (by omega)]
    simp only [List.map_cons, List.map_nil]
    rw [Lib.toByte _ b rfl]
def Small (t : List UInt8) : Prop := ∀ x ∈ t, 97 ≤ x.toNat ∧ x.toNat ≤ 122
theorem mapD_low : ∀ (l t : List UInt8), Small t → (Lib.mapD fl l = t ↔ l.map lowc = t)
  | [], t, _ => by rw [Lib.mapD_nil]; rfl
  | b :: l, t, ht => by
    rw [Lib.mapD_step fl (b :: l) (by simp)]
    by_cases hb : b.toNat < 128
    · rw [Lib.decodeL_ascii b l hb]
      simp only [List.drop_succ_cons, List.drop_zero]
      rw [if_pos (fl_nn b.toNat (by omega)).1, encode_low b hb]
      cases t with
      | nil => simp
      | cons c t =>
        have ih := mapD_low l t fun x hx => ht x (List.mem_cons_of_mem _ hx)
        simp only [List.cons_append, List.nil_append, List.cons.injEq, List.map_cons, ih]
    · have hd : 128 ≤ (Lib.decodeL (b :: l)).1 := by
        rw [Lib.decodeL_N]
        rcases Lib.decodeN_shape (b :: l).length ((b :: l).getD 0 0).toNat ((b :: l).getD 1 0).toNat ((b :: l).getD 2 0).toNat ((b :: l).getD 3 0).toNat with ⟨c, e⟩ | ⟨c1, c2, c3, cv, e⟩ | ⟨c1, c2, c3, c4, cv, cs, e⟩ | ⟨c1, c2, c3, c4, c5, cv, cw, e⟩ | e
        · exact absurd c hb
        all_goals rw [e]; first | exact cv | (dsimp only; omega)
      have hr := Lib.decodeL_rune (b :: l)
      have hf : fl ((Lib.decodeL (b :: l)).1 : Int) = ((Lib.decodeL (b :: l)).1 : Int) := by unfold fl; rw [if_neg (by omega)]
      rw [hf, if_pos (by omega)]
      obtain ⟨c, u, e, hc⟩ := encode_head ((Lib.decodeL (b :: l)).1 : Int) (by omega) (by omega)
      rw [e]
      have hlb : lowc b = b := by unfold lowc; rw [if_neg (by omega)]
      constructor
      · intro h
        subst h
        have := ht c (by simp)
        omega
      · intro h
        subst h
        have := ht b (by simp [hlb])
        omega
theorem isW_iff {s : BA} {t : List UInt8} (ht : Small t) : isW s t = true ↔ Lib.mapD fl (tl s) = t := by
  rw [mapD_low _ _ ht]
  unfold isW
  exact beq_iff_eq
/-- The document's way: as great letters. -/
def upc (b : UInt8) : UInt8 := if 97 ≤ b.toNat ∧ b.toNat ≤ 122 then UInt8.ofNat (b.toNat - 32) else b
theorem up_low (b c : UInt8) (hc : 97 ≤ c.toNat ∧ c.toNat ≤ 122) : lowc b = c ↔ upc b = upc c := by
  have hb := UInt8.toNat_lt b
  have key : ∀ x y : UInt8, x = y ↔ x.toNat = y.toNat := fun x y => UInt8.toNat_inj.symm
  rw [key, key]
  unfold lowc upc
  rw [if_pos hc]
  have e1 : (UInt8.ofNat (c.toNat - 32)).toNat = c.toNat - 32 := by simp; omega
  rw [e1]
  split
  · have e2 : (UInt8.ofNat (b.toNat + 32)).toNat = b.toNat + 32 := by simp; omega
    rw [e2, if_neg (by omega)]
    omega
  · split
    · have e3 : (UInt8.ofNat (b.toNat - 32)).toNat = b.toNat - 32 := by simp; omega
      rw [e3]; omega
    · omega
theorem isW_up {s : BA} {t : List UInt8} (ht : Small t) : isW s t = true ↔ s.size = t.length ∧ ∀ i (hi : i < s.size) (ht : i < t.length), upc s[i] = upc t[i] := by
  unfold isW
  rw [beq_iff_eq]
  have hl : (tl s).length = s.size := Array.length_toList
  constructor
  · intro h
    subst h
    refine ⟨by simp [hl], fun i hi ht2 => ?_⟩
    have e : ((tl s).map lowc)[i] = lowc s[i] := by simp; rfl
    rw [e]
    exact (up_low _ _ (by rw [← e]; exact ht _ (List.getElem_mem _))).1 rfl
  · rintro ⟨h1, h2⟩
    refine List.ext_getElem (by simp [hl, h1]) fun i hi hi2 => ?_
    have e : ((tl s).map lowc)[i] = lowc s[i] := by simp; rfl
    rw [e]
    exact (up_low _ _ (ht _ (List.getElem_mem _))).2 (h2 i _ hi2)
/-- What the words behind the first one say. -/
def run (m : Md) : List BA → Option Md
  | [] => some m
  | [w] => if isW w wBcast then some { m with bc := true } else if isW w wOptin then some { m with oi := true } else if isW w wOptout then some { m with oo := true } else if isW w wNoloop then some { m with nl := true } else none
  | w :: x :: r => if isW w wBcast then run { m with bc := true } (x :: r) else if isW w wOptin then run { m with oi := true } (x :: r) else if isW w wOptout then run { m with oo := true } (x :: r) else if isW w wNoloop then run { m with nl := true } (x :: r) else
    if isW w wRedirect then (if (Num.wp (tl x)).2 = 0 ∧ 0 ≤ (Num.wp (tl x)).1 ∧ (Num.wp (tl x)).1 ≤ 1000000000 then run { m with rd := (Num.wp (tl x)).1 } r else none)
    else if isW w wPrefix then run { m with ps := m.ps ++ [x] } r else none
theorem run_bcast {m : Md} {w : BA} {r : List BA} (h : isW w wBcast = true) : run m (w :: r) = run { m with bc := true } r := by
  cases r <;> simp [run, h]
theorem run_optin {m : Md} {w : BA} {r : List BA} (h0 : isW w wBcast = false) (h : isW w wOptin = true) : run m (w :: r) = run { m with oi := true } r := by
  cases r <;> simp [run, h0, h]
theorem run_optout {m : Md} {w : BA} {r : List BA} (h0 : isW w wBcast = false) (h1 : isW w wOptin = false) (h : isW w wOptout = true) : run m (w :: r) = run { m with oo := true } r := by
  cases r <;> simp [run, h0, h1, h]
theorem run_noloop {m : Md} {w : BA} {r : List BA} (h0 : isW w wBcast = false) (h1 : isW w wOptin = false) (h2 : isW w wOptout = false) (h : isW w wNoloop = true) : run m (w :: r) = run { m with nl := true } r := by
  cases r <;> simp [run, h0, h1, h2, h]
structure None4 (w : BA) : Prop where
  a : isW w wBcast = false
  b : isW w wOptin = false
  c : isW w wOptout = false
  d : isW w wNoloop = false
theorem run_alone {m : Md} {w : BA} (h : None4 w) : run m [w] = none := by simp [run, h.a, h.b, h.c, h.d]
theorem run_redirect {m : Md} {w x : BA} {r : List BA} (h : None4 w) (h1 : isW w wRedirect = true) (h2 : (Num.wp (tl x)).2 = 0 ∧ 0 ≤ (Num.wp (tl x)).1 ∧ (Num.wp (tl x)).1 ≤ 1000000000) : run m (w :: x :: r) = run { m with rd := (Num.wp (tl x)).1 } r := by
  simp [run, h.a, h.b, h.c, h.d, h1, h2]
theorem run_redirect_no {m : Md} {w x : BA} {r : List BA} (h : None4 w) (h1 : isW w wRedirect = true) (h2 : ¬ ((Num.wp (tl x)).2 = 0 ∧ 0 ≤ (Num.wp (tl x)).1 ∧ (Num.wp (tl x)).1 ≤ 1000000000)) : run m (w :: x :: r) = none := by
  simp only [run, h.a, h.b, h.c, h.d, h1, Bool.false_eq_true, if_false, if_true]
  rw [if_neg h2]
theorem run_prefix {m : Md} {w x : BA} {r : List BA} (h : None4 w) (h1 : isW w wRedirect = false) (h2 : isW w wPrefix = true) : run m (w :: x :: r) = run { m with ps := m.ps ++ [x] } r := by
  simp [run, h.a, h.b, h.c, h.d, h1, h2]
theorem run_no {m : Md} {w x : BA} {r : List BA} (h : None4 w) (h1 : isW w wRedirect = false) (h2 : isW w wPrefix = false) : run m (w :: x :: r) = none := by
  simp [run, h.a, h.b, h.c, h.d, h1, h2]
theorem run_on : ∀ (l : List BA) (m m' : Md), run m l = some m' → m'.on = m.on
  | [], m, m', h => by simp [run] at h; rw [h]
  | [w], m, m', h => by
    simp only [run] at h
    repeat' split at h
    all_goals first | (obtain rfl := Option.some.inj h; rfl) | cases h
  | w :: x :: r, m, m', h => by
    simp only [run] at h
    repeat' split at h
    all_goals first | (have k := run_on (x :: r) _ _ h; exact k) | (have k := run_on r _ _ h; exact k) | contradiction
theorem run_any : ∀ (l : List BA) (m n : Md), run m l = none → run n l = none
  | [], m, n, h => by simp [run] at h
  | [w], m, n, h => by
    simp only [run] at h ⊢
    repeat' split at h
    all_goals first | (cases h; done) | simp_all
  | w :: x :: r, m, n, h => by
    simp only [run] at h ⊢
    repeat' split at h
    all_goals simp only [*, Bool.false_eq_true, if_false, if_true]
    all_goals first | exact run_any (x :: r) _ _ h | exact run_any r _ _ h | rfl | skip
/-- The prefixes of ON's mode, in order. -/
def allOf (m : Md) : List BA := if m.bc = true ∧ m.ps.length = 0 then [mk []] else srt m.ps
noncomputable def endM (m : Md) : Md × Int := if rightB { m with ps := allOf m } then ({ m with ps := allOf m }, 0) else (zero, 132)
def onM : Md := { zero with on := true }
noncomputable def parseM : List BA → Md × Int
  | [] => (zero, 131)
  | w :: r => if isW w wOn then (match run onM r with | none => (zero, 131) | some m => endM m)
    else if isW w wOff then (match run zero r with | none => (zero, 131) | some _ => (zero, 0)) else (zero, 131)
end Go.Proofs.Ytnmncjeplfkdpaa.Ma
/- Texts as they lie; rows of texts that grow, sorted, each once; parts behind parts. No condition but bounds. -/
namespace Go.Proofs.Ytnmncjeplfkdpaa.Ma
set_option linter.unusedVariables false
set_option linter.unusedSimpArgs false
open Go.ChangeShapes Go.WideShapes Go.ChangeAt Go.RowKit
open Go.Proofs.Ytnmncjeplfkdpaa.Sp (bstep bbox)
theorem grow_of0 {w w' : World} (hb : Below w.heap.size w w') : w.grownBy w' none := ⟨hb.os, hb.tape, hb.output, hb.size, fun k hk _ => hb.block k hk⟩
theorem bdr (w : World) (n : Nat) : Below w.heap.size w (w.drewN n) := ⟨rfl, rfl, rfl, Nat.le_refl _, fun _ _ => rfl⟩
/-- The texts l lie at a. -/
def InS (w : World) (a : Option Addr) (l : List BA) : Prop := 0 < l.length → ∃ b o, a = some ⟨b, o, none⟩ ∧ b < w.heap.size ∧ ∀ i (h : i < l.length), w.cell? ⟨b, o + i, none⟩ = some (.string l[i])
theorem InS.below {B : Nat} {w w' : World} {a : Option Addr} {l : List BA} (h : InS w a l) (hB : w.heap.size ≤ B) (hb : Below B w w') : InS w' a l := fun hp => by
  obtain ⟨b, o, e, hlt, hc⟩ := h hp
  exact ⟨b, o, e, Nat.lt_of_lt_of_le hlt hb.size, fun i hi => (hb.cell (p := ⟨b, o + i, none⟩) (Nat.lt_of_lt_of_le hlt hB)).trans (hc i hi)⟩
theorem InS.bel {w w' : World} {a : Option Addr} {l : List BA} (h : InS w a l) (hb : Below w.heap.size w w') : InS w' a l := h.below (Nat.le_refl _) hb
theorem InS.nil (w : World) (a : Option Addr) : InS w a [] := fun h => absurd h (Nat.lt_irrefl _)
def cellsS (l : List BA) : List Value := l.map .string
theorem cellsS_len (l : List BA) : (cellsS l).length = l.length * 1 := by simp [cellsS]
theorem iStr : (Try.prog.info? 9).map (fun i => (i.zero, i.size, i.bytes)) = some (some (.string ⟨#[]⟩), 1, 16) := by kernel_rfl
/-- The texts l in a row v of the call's own, made behind the world wb; of wb all stands. -/
structure RowS (wb w : World) (v : Value) (l : List BA) : Prop where
  row : w.ownsRow wb.heap.size 9 1 v l.length (cellsS l)
  bel : Below wb.heap.size wb w
theorem RowS.below {wb w w' : World} {v : Value} {l : List BA} (h : RowS wb w v l) (hb : Below w.heap.size w w') : RowS wb w' v l :=
  ⟨h.row.kept (grow_of0 hb) (by cases hv : v.ownBlock <;> simp), h.bel.trans (hb.mono h.bel.size)⟩
theorem rowS_nil {wb w : World} (hb : Below wb.heap.size wb w) : RowS wb w (.slice none 0 0) [] := ⟨World.ownsRow_nil _ _ _ _, hb⟩
theorem rowS_made (w : World) : RowS w (w.alloc (.cells #[] 9)) (.slice (some ⟨w.heap.size, 0, none⟩) 0 0) [] := ⟨World.ownsRow_made w #[] 0 (Nat.le_refl _) (Nat.zero_le _) rfl, bbox _⟩
theorem RowS.over {wa wb w : World} {v : Value} {l : List BA} (h : RowS wb w v l) (hb : Below wa.heap.size wa wb) : RowS wa w v l := by
  refine ⟨⟨h.row.1, ?_⟩, hb.trans (h.bel.mono hb.size)⟩
  rcases h.row.2 with h | ⟨g, cap, cur, h1, h2, h3⟩
  · exact Or.inl h
  · exact Or.inr ⟨g, cap, cur, h1, Nat.le_trans hb.size h2, h3⟩
theorem RowS.slice {wb w : World} {v : Value} {l : List BA} (h : RowS wb w v l) : ∃ a c, v = .slice a l.length c ∧ l.length ≤ c ∧ c ≤ 9223372036854775807 ∧ (a = none → c = 0) ∧ InS w a l := by
  rcases h.row.2 with ⟨rfl, hn⟩ | ⟨g, cap, cur, rfl, hg, hh, h1, h2, h3, h4⟩
  · exact ⟨none, 0, by rw [hn], by omega, Nat.zero_le _, fun _ => rfl, fun h => by omega⟩
  · refine ⟨some ⟨g, 0, none⟩, cap, rfl, h1, by unfold maxLen at h2; omega, (fun h => by cases h), fun _ => ⟨g, 0, rfl, (Array.getElem?_eq_some_iff.1 hh).1, fun i hi => ?_⟩⟩
    have e1 : (cur.toList.take (l.length * 1))[i]? = cur.toList[i]? := List.getElem?_take_of_lt (by omega)
    rw [h4] at e1
    have e2 : (cellsS l)[i]? = some (.string l[i]) := by simp [cellsS, hi]
    rw [e2] at e1
    simp only [World.cell?, hh, Nat.zero_add]
    simpa using e1.symm
/-- The texts r appended to a row's. -/
theorem str_push {wb w : World} {v : Value} {l : List BA} {ops : Array Oper} {rest : List Oper} {o : Oper} {a : Act} {Q : Exit → Act → World → Prop} (hO : RowS wb w v l) (hgd : o.guard = none) (s x : Operand)
    (ho : o.op = .call { callee := .builtin .append, args := #[s, x], argTypes := #[44, 44] }) (hs : a.eval s = v) (r : List BA) (c : Nat)
    {n : Nat} {ad : Option Addr} (hx : a.eval x = .slice ad n c) (hn : n = r.length) (hI : InS w ad r) (hl : l.length ≤ 1000000000) (hr : r.length ≤ 1000000000) (hnil : ad = none → n = 0 ∧ c = 0)
    (h : ∀ v' w', RowS wb w' v' (l ++ r) → wpList Try.prog ops Q rest (a.put o.dst v') w') : wpList Try.prog ops Q (o :: rest) a w := by
  obtain ⟨i0, hi, hz0, hz1, hz2⟩ := info_parts iStr
  subst hn
  by_cases hp : 0 < r.length
  · obtain ⟨b, p, rfl, hlt, hc⟩ := hI hp
    refine wpList_append_own _ hgd s x 44 ho wb.heap.size 9 i0 (.string ⟨#[]⟩) 1 16 Try.underlying44 hi hz0 hz1 hz2 rfl (by decide) v l.length (cellsS l) hs hO.row ⟨b, p, none⟩ r.length c (cellsS r) hx (cellsS_len r) ?_ ?_ (by unfold maxLen; omega) (by omega) hO.bel.size ?_
    · intro j u hj
      rw [Addr.add_lit]
      have hjr : j < r.length := by
        have h0 := (List.getElem?_eq_some_iff.1 hj).1
        rw [cellsS_len] at h0
        omega
      rw [hc j hjr, ← hj]
      simp [cellsS, hjr]
    · intro u hu
      obtain ⟨y, -, rfl⟩ := List.mem_map.1 hu
      rfl
    · intro v' w' hr2 hg _
      refine h v' w' ⟨?_, hO.bel.grown hg hO.bel.size (fun k hk => (hO.row.lt k hk).1)⟩
      rw [List.length_append, show cellsS (l ++ r) = cellsS l ++ cellsS r from List.map_append]
      exact hr2
  · have hz : r.length = 0 := by omega
    have hr0 : r = [] := List.length_eq_zero_iff.1 hz
    subst hr0
    rw [List.append_nil] at h
    cases ad with
    | some ad =>
      refine wpList_append_own _ hgd s x 44 ho wb.heap.size 9 i0 (.string ⟨#[]⟩) 1 16 Try.underlying44 hi hz0 hz1 hz2 rfl (by decide) v l.length (cellsS l) hs hO.row ad 0 c [] hx rfl (fun j u hj => by simp at hj) (fun u hu => by cases hu) (by unfold maxLen; omega) (by omega) hO.bel.size ?_
      intro v' w' hr2 hg _
      refine h v' w' ⟨?_, hO.bel.grown hg hO.bel.size (fun k hk => (hO.row.lt k hk).1)⟩
      rw [List.append_nil] at hr2
      exact hr2
    | none =>
      obtain ⟨-, rfl⟩ := hnil rfl
      exact wpList_append_own_none hgd s x 44 ho wb.heap.size 9 i0 1 Try.underlying44 hi v l.length (cellsS l) hs hO.row hx (h v w hO)
end Go.Proofs.Ytnmncjeplfkdpaa.Ma
