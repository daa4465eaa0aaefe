/- Package lines' texts and counted. Conditions: what start-up lays ('PCtx'); the variable MaxLen holds some int; bounds. -/
import Derived.Test.YtenhgjpoigkdgaaGreatDoorLz3
namespace Go.Proofs.YtenhgjpoigkdgaaGreatDoor.Ln
open Go.ChangeShapes Go.WideShapes Go.ChangeAt Go.RowKit

theorem Row.rebase {E : TypeId} {wa wb w : World} {v : Value} {l : List Value} (h : Row E wb w v l) (hb : Below wa.heap.size wa wb) : Row E wa w v l := by
  refine ⟨⟨h.row.1, ?_⟩, bstep hb h.bel⟩
  rcases h.row.2 with h2 | ⟨g, cap, cur, h1, h2, h3⟩
  · exact .inl h2
  · exact .inr ⟨g, cap, cur, h1, Nat.le_trans hb.size h2, h3⟩
abbrev Part := List UInt8 × Option Addr × Nat
def partV (p : Part) : Value := .slice p.2.1 p.1.length p.2.2
def cellsP (P : List Part) : List Value := P.map partV
theorem cellsP_len (P : List Part) : (cellsP P).length = P.length := by simp [cellsP]
def words (P : List Part) : List (List UInt8) := P.map (·.1)
def Good (w : World) (P : List Part) : Prop := ∀ p ∈ P, InB w p.2.1 p.2.2 p.1
theorem Good.below {w w' : World} {P : List Part} (h : Good w P) (hb : Below w.heap.size w w') : Good w' P := fun p hp => (h p hp).below hb
set_option maxHeartbeats 4000000 in
set_option maxRecDepth 1000000 in
theorem texts_calls (P : List Part) (hn : P.length ≤ 1000) (v : Value) (wb w : World) (hR : Row 22 wb w v (cellsP P)) (hG : Good w P) :
    Calls Tryz.prog 41 #[v] w fun e w' => ∃ v', e = .returned v' ∧ Strs w w' v' (words P) := by
  obtain ⟨a, c, rfl, h1, h2, h3, h4⟩ := hR.facts
  rw [cellsP_len] at h1 h3 ⊢
  have HC : Hid (∀ i (hi : i < P.length), ∃ g, a = some ⟨g, 0, none⟩ ∧ w.cell? ⟨g, 0 + i, none⟩ = some (partV P[i]) ∧ g < w.heap.size) := Lib.hid fun i hi => by
    obtain ⟨g, e, -, hg⟩ := h3 (by omega)
    refine ⟨g, e, ?_, hg⟩
    rw [h4 g 0 e i (by rw [cellsP_len]; exact hi)]
    simp [cellsP]
  have HG := Lib.hid hG
  clear h3 h4 hG hR
  go_enter Tryz.func41, Tryz.ntmps41
  go_wp2_with fail
  go_loopw [3, 5, 8] (fun lv _ vi wr => ∃ k : Nat, vi = .int .i64 k ∧ k ≤ P.length ∧ Strs w wr lv ((words P).take k)) (fun _ _ vi _ => P.length - (intOf vi).toNat)
  case atStart => exact ⟨0, rfl, by omega, Row.nil w⟩
  case round =>
    obtain ⟨k, rfl, hk, hS⟩ := hrel
    have HS := Lib.hid hS
    clear hS
    by_cases hlt : k < P.length
    · obtain ⟨g, rfl, hcell, hg⟩ := HC.out k hlt
      rw [Nat.zero_add] at hcell
      have hI := (HG.out P[k] (List.getElem_mem hlt)).below HS.out.bel
      have htk : (words P).take (k + 1) = (words P).take k ++ [P[k].1] := by
        have hl : k < (words P).length := by simp [words]; exact hlt
        rw [List.take_succ_eq_append_getElem hl]
        simp [words]
      have hlen : ((words P).take k).length ≤ 1000 := by rw [List.length_take]; simp [words]; omega
      have HTK := Lib.hid htk
      have hcw := (HS.out.bel.cell (p := ⟨g, k, none⟩) hg).trans hcell
      have hkc : k < c := by omega
      generalize P[k] = p at *
      obtain ⟨t, a2, c2⟩ := p
      have hcw2 : wr.cell? ⟨g, k, none⟩ = some (.slice a2 t.length c2) := hcw
      have hcv : (convert 22 9 (.slice a2 t.length c2)).run Tryz.prog wr = .ok (.string ⟨t.toArray⟩) wr := hI.conv
      clear hcw hcell htk hI
      go_wp2_with (at_builtin; refine strs_push HS.out rfl _ _ rfl rfl t _ _ _ rfl rfl ?hl1 ?_)
      case hl1 => omega
      intro v2 w2 hS2
      have HS2 := Lib.hid hS2
      clear hS2 hcw2 hcv
      go_wp2_with fail
      go_roundw
      case rel => exact ⟨k + 1, by go_num, by omega, by rw [HTK.out]; exact HS2.out⟩
      case measure => simp [intOf]; omega
    · obtain rfl : k = P.length := by omega
      go_wp2_with fail
      go_ret
      refine ⟨_, rfl, ?_⟩
      have h := HS.out
      rw [List.take_of_length_le (by simp [words])] at h
      exact h
/-- What comes of a command whose words have their lengths, or of any bytes. -/
def ParseAns (o : Lw.R (List (List UInt8))) (w : World) (e : Ending) (w' : World) : Prop := Below w.heap.size w w' ∧
  ((o = .bad ∧ e = .returned (.tuple #[.slice none 0 0, .int .i64 0, .int .i64 61])) ∨ (o = .short ∧ e = .returned (.tuple #[.slice none 0 0, .int .i64 0, .int .i64 0])) ∨
    ∃ ws u v, o = .got ws u ∧ e = .returned (.tuple #[v, .int .i64 (u : Nat), .int .i64 0]) ∧ Strs w w' v ws)
theorem part_push {wb w : World} {v : Value} {P : List Part} {ops : Array Oper} {rest : List Oper} {o : Oper} {a : Act} {Q : Exit → Act → World → Prop} (hO : Row 22 wb w v (cellsP P)) (hgd : o.guard = none) (s x : Operand)
    (ho : o.op = .call { callee := .builtin .append, args := #[s, x], argTypes := #[75, 75] }) (hs : a.eval s = v) (p : Part) (arr : Array Value) (Te : TypeId) (c : Nat)
    (hx : a.eval x = .slice (some ⟨w.heap.size, 0, none⟩) 1 c) (harr : arr = #[partV p]) (hl : P.length ≤ 1000000000)
    (h : ∀ v' w', Row 22 wb w' v' (cellsP (P ++ [p])) → wpList Tryz.prog ops Q rest (a.put o.dst v') w') : wpList Tryz.prog ops Q (o :: rest) a (w.alloc (.cells arr Te)) :=
  row_push Tryz.underlying75 ibs rfl (by decide) hO hgd s x ho hs (cellsP [p]) arr Te 1 c hx rfl harr (fun u hu => by simp [cellsP] at hu; subst hu; rfl) (by rw [cellsP_len]; simp [cellsP]; omega) fun v' w' hr => h v' w' (by rw [show cellsP (P ++ [p]) = cellsP P ++ cellsP [p] by simp [cellsP]]; exact hr)
/-- Parts that lie in blocks below B. -/
def Deep (B : Nat) (w : World) (P : List Part) : Prop := ∀ p ∈ P, InB w p.2.1 p.2.2 p.1 ∧ AddrB B p.2.1
theorem Deep.keep {B : Nat} {w w' : World} {P : List Part} (h : Deep B w P) (hb : ∀ i, i < B → w'.heap[i]? = w.heap[i]?) : Deep B w' P := fun p hp => ⟨(h p hp).1.keep (h p hp).2 hb, (h p hp).2⟩
theorem Deep.good {B : Nat} {w : World} {P : List Part} (h : Deep B w P) : Good w P := fun p hp => (h p hp).1
theorem loopR_short {n at' : Nat} {acc : List (List UInt8)} {l : List UInt8} (h : Lw.sizedR (l.drop at') = .short) : Lw.loopR (n + 1) at' acc l = .short := by rw [Lw.loopR_succ, h]
theorem loopR_bad {n at' : Nat} {acc : List (List UInt8)} {l : List UInt8} (h : Lw.sizedR (l.drop at') = .bad) : Lw.loopR (n + 1) at' acc l = .bad := by rw [Lw.loopR_succ, h]
theorem loopR_go {n at' u : Nat} {acc : List (List UInt8)} {l t : List UInt8} (h : Lw.sizedR (l.drop at') = .got t u) : Lw.loopR (n + 1) at' acc l = Lw.loopR n (at' + u) (acc ++ [t]) l := by rw [Lw.loopR_succ, h]
set_option maxHeartbeats 8000000 in
set_option maxRecDepth 1000000 in
theorem counted_calls (l : List UInt8) (h0 : l ≠ []) (hm : l.length ≤ 1000000) (a : Option Addr) (c : Nat) (w : World) (hc : PCtx w) (hmx : MaxOk w) (hB : InB w a c l) :
    Calls Tryz.prog 25 #[.slice a l.length c] w (ParseAns (Lw.countedR l) w) := by
  obtain ⟨c0, r, rfl⟩ : ∃ c0 r, l = c0 :: r := by cases l with | nil => exact absurd rfl h0 | cons c0 r => exact ⟨c0, r, rfl⟩
  clear h0
  obtain ⟨a2, hB2, hfrom0⟩ := hB.drop 1 (by simp)
  have hfrom : ∀ wx, (Instr.slice 22 (.slice a (c0 :: r).length c) (some (.int .i64 1)) none none).run Tryz.prog wx = .ok (.slice a2 ((c0 :: r).length - 1) (c - 1)) wx := hfrom0
  have hB2 : InB w a2 (c - 1) r := hB2
  have hln : (c0 :: r).length = r.length + 1 := rfl
  have hmr : r.length ≤ 1000000 := by omega
  have hnum := fun w2 (h2 : Below w.heap.size w w2) => number_calls r hmr a2 (c - 1) w2 (hc.below h2) (hmx.below h2) (hB2.below h2) (-1) 64
  rw [hln, show r.length + 1 - 1 = r.length by omega] at hfrom
  have hcr : Lw.countedR (c0 :: r) = match Lw.numR (-1) 64 r with
    | .bad => .bad
    | .short => .short
    | .got n u => Lw.loopR n.toNat (1 + u) [] (c0 :: r) := rfl
  rw [hcr]
  clear hfrom0 hcr
  cases hn : Lw.numR (-1) 64 r with
  | bad =>
    rw [hn] at hnum
    have HN : Hid (∀ w2, Below w.heap.size w w2 → Calls _ _ _ w2 fun e w' => e = .returned (.tuple #[.int .i64 0, .int .i64 0, .int .i64 61]) ∧ Below w2.heap.size w2 w') := Lib.hid hnum
    rw [hln]
    clear hnum hn hB hB2 hc hmx hln
    go_enter Tryz.func25, Tryz.ntmps25
    go_wp2_with fail
    (with_reducible refine (HN.out _ (Below.refl _ _)).mono ?_); rintro en w2 ⟨rfl, hb2⟩
    have Hb2 := Lib.hid hb2
    clear hb2
    go_wp2_with fail
    go_ret3
    exact ⟨Hb2.out, .inl ⟨rfl, rfl⟩⟩
  | short =>
    rw [hn] at hnum
    have HN : Hid (∀ w2, Below w.heap.size w w2 → Calls _ _ _ w2 fun e w' => e = .returned (.tuple #[.int .i64 0, .int .i64 0, .int .i64 0]) ∧ Below w2.heap.size w2 w') := Lib.hid hnum
    rw [hln]
    clear hnum hn hB hB2 hc hmx hln
    go_enter Tryz.func25, Tryz.ntmps25
    go_wp2_with fail
    (with_reducible refine (HN.out _ (Below.refl _ _)).mono ?_); rintro en w2 ⟨rfl, hb2⟩
    have Hb2 := Lib.hid hb2
    clear hb2
    go_wp2_with fail
    go_ret3
    exact ⟨Hb2.out, .inr (.inl ⟨rfl, rfl⟩)⟩
  | got n u =>
    rw [hn] at hnum
    obtain ⟨g1, g2, g3, g4, g5⟩ := Lw.numR_got hn
    have HN : Hid (∀ w2, Below w.heap.size w w2 → Calls _ _ _ w2 fun e w' => e = .returned (.tuple #[.int .i64 n, .int .i64 u, .int .i64 0]) ∧ Below w2.heap.size w2 w') := Lib.hid hnum
    have hu0 : ((u : Int) == 0) = false := by rw [beq_eq_false_iff_ne]; omega
    have HAd := Lib.hid (hB.addr (by rw [hln]; omega))
    have HB := Lib.hid hB
    have HC := Lib.hid hc
    have HM := Lib.hid hmx
    show Calls _ _ _ _ (ParseAns (Lw.loopR n.toNat (1 + u) [] (c0 :: r)) w)
    generalize ho : Lw.loopR n.toNat (1 + u) [] (c0 :: r) = o
    have HO := Lib.hid ho
    generalize hL : (c0 :: r) = L at *
    have HLn := Lib.hid hln
    rw [hln]
    clear hnum hn hB hB2 hc hmx ho hL hln
    go_enter Tryz.func25, Tryz.ntmps25
    go_wp2_with fail
    (with_reducible refine (HN.out _ (Below.refl _ _)).mono ?_); rintro en w2 ⟨rfl, hb2⟩
    have Hb2 := Lib.hid hb2
    clear hb2
    go_wp2_with fail
    go_loopw [8, 9, 10, 11, 12, 26] (fun av pv _ _ _ vi wr => ∃ (k at' : Nat) (P : List Part), vi = .int .i64 k ∧ k ≤ n.toNat ∧ P.length = k ∧ av = .int .i64 at' ∧ at' ≤ r.length + 1 ∧ Row 22 w wr pv (cellsP P) ∧ Hid (Deep w.heap.size wr P ∧ Lw.loopR (n.toNat - k) at' (words P) L = o)) (fun _ _ _ _ _ vi _ => n.toNat - (intOf vi).toNat)
    case atStart => exact ⟨0, 1 + u, [], rfl, by omega, rfl, by rw [show ((1 + u : Nat) : Int) = 1 + (u : Int) by omega], by omega, Row.start Hb2.out, Lib.hid ⟨(fun p hp => by cases hp), HO.out⟩⟩
    case round =>
      obtain ⟨k, at', P, rfl, hk, hP, rfl, hat, hR, hQ⟩ := hrel
      have HR := Lib.hid hR
      have HP := Lib.hid hP
      clear hR hP
      by_cases hlt : k < n.toNat
      · have hkn : (k : Int) < n := by omega
        have HBw := HB.out.below HR.out.bel
        obtain ⟨a5, hA5, hB5, hto⟩ := HBw.dropA at' (by rw [HLn.out]; exact hat)
        have HA5 := Lib.hid (hA5 w.heap.size HAd.out)
        clear hA5
        rw [HLn.out] at hto
        have hdl : (L.drop at').length = r.length + 1 - at' := by rw [List.length_drop, HLn.out]
        have HS := sized_calls (L.drop at') (by rw [hdl, ← HLn.out]; omega) a5 (c - at') wr (HC.out.below HR.out.bel) (HM.out.below HR.out.bel) hB5
        rw [hdl] at HS
        have HSz := Lib.hid HS
        clear HS HBw hB5 hdl
        go_wp2_with fail
        (with_reducible refine HSz.out.mono ?_); rintro en w3 ⟨hb3, hans⟩
        have Hb3 := Lib.hid hb3
        clear hb3 HSz
        have hks : n.toNat - k = (n.toNat - (k + 1)) + 1 := by omega
        have HKS := Lib.hid hks
        clear hks
        rcases hans with ⟨hs, rfl⟩ | ⟨hs, rfl⟩ | ⟨t, u3, a6, c6, hs, rfl, hI, hA6⟩
        · have HS2 := Lib.hid hs
          clear hs
          go_wp2_with fail
          go_ret3
          refine ⟨bstep HR.out.bel Hb3.out, .inl ⟨?_, rfl⟩⟩
          have h := hQ.out.2
          rw [HKS.out, loopR_bad HS2.out] at h
          exact h.symm
        · have HS2 := Lib.hid hs
          clear hs
          go_wp2_with fail
          go_ret3
          refine ⟨bstep HR.out.bel Hb3.out, .inr (.inl ⟨?_, rfl⟩)⟩
          have h := hQ.out.2
          rw [HKS.out, loopR_short HS2.out] at h
          exact h.symm
        · have hg := Lw.sizedR_got hs
          rw [List.length_drop, HLn.out] at hg
          have hu3 : ((u3 : Int) == 0) = false := by rw [beq_eq_false_iff_ne]; omega
          have HS2 := Lib.hid hs
          have HI : Hid (InB w3 a6 c6 t ∧ AddrB w.heap.size a6) := Lib.hid ⟨hI, hA6 _ HA5.out⟩
          have hu3b : (u3 : Int) ≤ 1000002 := by omega
          have hatb : (at' : Int) ≤ 1000002 := by omega
          clear hs hI hA6
          go_wp2_with (at_builtin; refine part_push (HR.out.below Hb3.out) rfl _ _ rfl rfl (t, a6, c6) _ _ _ rfl rfl ?hl1 ?_)
          case hl1 => rw [HP.out]; omega
          intro v4 w4 hR4
          have HR4 := Lib.hid hR4
          clear hR4
          have HGd : Hid (Deep w.heap.size w4 (P ++ [(t, a6, c6)])) := Lib.hid (by
            have hz := HR.out.bel.size
            have hb : ∀ i, i < w.heap.size → w4.heap[i]? = w3.heap[i]? := fun i hi => (HR4.out.bel.block i hi).trans ((bstep HR.out.bel Hb3.out).block i hi).symm
            have hd : Deep w.heap.size w3 (P ++ [(t, a6, c6)]) := fun p hp => by
              rcases List.mem_append.1 hp with hp | hp
              · exact ⟨(hQ.out.1 p hp).1.below Hb3.out, (hQ.out.1 p hp).2⟩
              · rw [List.mem_singleton] at hp
                subst hp
                exact HI.out
            exact hd.keep hb)
          have Hg := Lib.hid hg
          clear hg
          go_wp2_with fail
          go_roundw
          case rel =>
            refine ⟨k + 1, at' + u3, P ++ [(t, a6, c6)], by go_num, by omega, by rw [List.length_append, HP.out]; rfl, by rw [show ((at' + u3 : Nat) : Int) = (at' : Int) + (u3 : Int) by omega], by have := Hg.out; omega, HR4.out, Lib.hid ⟨HGd.out, ?_⟩⟩
            have h := hQ.out.2
            rw [HKS.out, loopR_go HS2.out] at h
            rw [show words (P ++ [(t, a6, c6)]) = words P ++ [t] by simp [words]]
            exact h
          case measure => simp [intOf]; omega
      · obtain rfl : k = n.toNat := by omega
        have hnk : ¬ ((n.toNat : Int) < n) := by omega
        have HT := Lib.hid (texts_calls P (by rw [HP.out]; omega) _ w wr HR.out hQ.out.1.good)
        go_wp2_with fail
        (with_reducible refine HT.out.mono ?_); rintro en w3 ⟨v3, rfl, hS⟩
        have HS := Lib.hid hS
        clear hS
        go_wp2_with fail
        go_ret3
        have h := hQ.out.2
        rw [Nat.sub_self] at h
        have h : Lw.R.got (words P) at' = o := h
        have hS2 := HS.out.rebase HR.out.bel
        exact ⟨hS2.bel, .inr (.inr ⟨words P, at', v3, h.symm, rfl, hS2⟩)⟩
end Go.Proofs.YtenhgjpoigkdgaaGreatDoor.Ln
