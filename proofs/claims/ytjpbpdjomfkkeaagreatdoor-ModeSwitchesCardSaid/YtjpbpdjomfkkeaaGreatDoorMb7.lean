/- Package mode: Flags. No condition. -/
import Derived.Test.YtjpbpdjomfkkeaaGreatDoorMc2
namespace Go.Proofs.YtjpbpdjomfkkeaaGreatDoor.Ma
set_option linter.unusedVariables false
set_option linter.unusedSimpArgs false
open Go.ChangeShapes Go.WideShapes Go.ChangeAt Go.RowKit
open Go.Proofs.YtjpbpdjomfkkeaaGreatDoor.Sp (bstep bbox Hp Th cellsT rowT)
/-- The four words, and whether each holds. -/
def four (m : Md) : List (BA × Bool) := [(mk wBcast, m.bc), (mk wOptin, m.oi), (mk wOptout, m.oo), (mk wNoloop, m.nl)]
def holds (l : List (BA × Bool)) : List BA := (l.filter fun q => q.2).map fun q => q.1
theorem holds_take {l : List (BA × Bool)} {j : Nat} (hj : j < l.length) : holds (l.take (j + 1)) = holds (l.take j) ++ (if l[j].2 then [l[j].1] else []) := by
  unfold holds
  rw [← List.take_append_getElem hj, List.filter_append, List.map_append]
  congr 1
  cases h : l[j].2 <;> simp [h]
theorem holds_len (l : List (BA × Bool)) : (holds l).length ≤ l.length := by
  unfold holds
  rw [List.length_map]
  exact List.length_filter_le _ _
theorem flags_four (m : Md) : flagsM m = if m.on then mk wOn :: holds (four m) else [mk wOff] := by
  unfold flagsM four holds
  cases m.on <;> cases m.bc <;> cases m.oi <;> cases m.oo <;> cases m.nl <;> rfl
theorem rowS_one (w : World) (s : BA) : RowS w (w.alloc (.cells #[.string s] 9)) (.slice (some ⟨w.heap.size, 0, none⟩) 1 1) [s] :=
  ⟨⟨rfl, .inr ⟨w.heap.size, 1, #[.string s], rfl, Nat.le_refl _, heap_alloc_new w _, Nat.le_refl _, by unfold maxLen; omega, rfl, rfl⟩⟩, bbox _⟩
theorem rowS_one2 (w : World) (b : Nat) (hb : w.heap.size = b) (s : BA) : RowS w (w.alloc (.cells #[.string s] 9)) (.slice (some ⟨b, 0, none⟩) 1 1) [s] := by subst hb; exact rowS_one w s
theorem rowS_of' {o w : World} {l : List Th} {v : Value} {ps : List BA} (h : Hp o w (rowST v ps :: l)) : RowS o w v ps :=
  ⟨Sp.row_base h.row _ (fun g hg => h.say fun k hO _ => (hO g ((k.1 g).2 hg)).1), h.below⟩
/-- One text appended to a row, beside other things. -/
theorem pushH {o w wb : World} {rs : List Th} {v : Value} {L : List BA} {ops : Array Oper} {rest : List Oper} {op : Oper} {a : Act} {Q : Exit → Act → World → Prop} (h : Hp o w (rowST v L :: rs)) (hw : Below w.heap.size w wb) (hgd : op.guard = none) (s x : Operand)
    (ho : op.op = .call { callee := .builtin .append, args := #[s, x], argTypes := #[22, 22] }) (hs : a.eval s = v) (y : BA) (c : Nat) {b : Nat} (hx : a.eval x = .slice (some ⟨b, 0, none⟩) 1 c) (hc : wb.cell? ⟨b, 0, none⟩ = some (.string y)) (hl : L.length ≤ 1000000)
    (K : ∀ v' w', Hp o w' (rowST v' (L ++ [y]) :: rs) → wpList Tryz.prog ops Q rest (a.put op.dst v') w') : wpList Tryz.prog ops Q (op :: rest) a wb := by
  obtain ⟨i0, hi, hz0, hz1, hz2⟩ := info_parts iStr
  refine Hp.rowPush h hw hgd s x 22 ho i0 (.string ⟨#[]⟩) 16 Tryz.underlying22 hi hz0 hz1 hz2 rfl (by decide) hs ⟨b, 0, none⟩ 1 c [.string y] hx rfl
    (fun j u hj => by
      match j, hj with
      | 0, hj => obtain rfl := Option.some.inj hj; rw [Addr.add_lit]; exact hc)
    (fun u hu => by
      simp only [List.mem_cons, List.not_mem_nil, or_false] at hu
      rcases hu with rfl; rfl) (by unfold maxLen; omega) (by omega) fun v' w' hH _ => K v' w' ?_
  unfold rowST
  rw [List.length_append, show cellsS (L ++ [y]) = cellsS L ++ [.string y] from List.map_append]
  exact hH
theorem rowS_H {o w : World} {v : Value} {l : List BA} (h : RowS o w v l) : Hp o w [rowST v l] := Hp.rowAdd (Hp.nil (Below.refl o.heap.size o)) h.bel h.row (Nat.le_refl _)
set_option maxHeartbeats 8000000 in
set_option maxRecDepth 100000 in
theorem flags_calls (w : World) (m : Md) (a : Option Addr) (c : Nat) :
    Calls Tryz.prog 16 #[mV m a c] w fun e w' => ∃ v, e = .returned v ∧ RowS w w' v (flagsM m) := by
  rw [flags_four]
  have h4 : Hid ((four m).length = 4) := Lib.hid rfl
  have HF : Hid (four m = [(mk wBcast, m.bc), (mk wOptin, m.oi), (mk wOptout, m.oo), (mk wNoloop, m.nl)]) := Lib.hid rfl
  generalize four m = F at *
  obtain ⟨on, bc, oi, oo, nl, rd, ps⟩ := m
  unfold mV
  simp only at HF ⊢
  cases on with
  | false =>
    go_enter Tryz.func16, Tryz.ntmps16
    go_wp2_with fail
    go_ret
    exact ⟨_, rfl, (rowS_one2 (w.alloc _) _ (by simp) (mk wOff)).over (bbox _)⟩
  | true =>
    go_enter Tryz.func16, Tryz.ntmps16
    have hR1 : RowS w ((w.alloc (.cells #[.bool true, .bool bc, .bool oi, .bool oo, .bool nl, .int .i64 rd, .slice a ps.length c] 24)).alloc (.cells #[.string ⟨#[111, 110]⟩] 9)) (.slice (some ⟨w.heap.size + 1, 0, none⟩) 1 1) [mk wOn] := (rowS_one2 (w.alloc _) _ (by simp) (mk wOn)).over (bbox _)
    have e1 : ((w.alloc (.cells #[.bool true, .bool bc, .bool oi, .bool oo, .bool nl, .int .i64 rd, .slice a ps.length c] 24)).alloc (.cells #[.string ⟨#[111, 110]⟩] 9)).heap.size = w.heap.size + 1 + 1 := by simp
    have h2 := (rowS_H hR1).cellsNew [.string ⟨#[98, 99, 97, 115, 116]⟩, .bool bc, .string ⟨#[111, 112, 116, 105, 110]⟩, .bool oi, .string ⟨#[111, 112, 116, 111, 117, 116]⟩, .bool oo, .string ⟨#[110, 111, 108, 111, 111, 112]⟩, .bool nl] 43
    rw [e1] at h2
    have H2 : Hid (Hp w (((w.alloc (.cells #[.bool true, .bool bc, .bool oi, .bool oo, .bool nl, .int .i64 rd, .slice a ps.length c] 24)).alloc (.cells #[.string ⟨#[111, 110]⟩] 9)).alloc (.cells #[.string ⟨#[98, 99, 97, 115, 116]⟩, .bool bc, .string ⟨#[111, 112, 116, 105, 110]⟩, .bool oi, .string ⟨#[111, 112, 116, 111, 117, 116]⟩, .bool oo, .string ⟨#[110, 111, 108, 111, 111, 112]⟩, .bool nl] 43)) [rowST (.slice (some ⟨w.heap.size + 1, 0, none⟩) 1 1) (mk wOn :: holds (F.take 0)), cellsT (w.heap.size + 1 + 1) [.string ⟨#[98, 99, 97, 115, 116]⟩, .bool bc, .string ⟨#[111, 112, 116, 105, 110]⟩, .bool oi, .string ⟨#[111, 112, 116, 111, 117, 116]⟩, .bool oo, .string ⟨#[110, 111, 108, 111, 111, 112]⟩, .bool nl]]) := Lib.hid (h2.pull 1 rfl)
    have HG : Hid (∀ G W l', Hp w W (cellsT G [.string ⟨#[98, 99, 97, 115, 116]⟩, .bool bc, .string ⟨#[111, 112, 116, 105, 110]⟩, .bool oi, .string ⟨#[111, 112, 116, 111, 117, 116]⟩, .bool oo, .string ⟨#[110, 111, 108, 111, 111, 112]⟩, .bool nl] :: l') → ∀ j (hj : j < F.length), W.cell? ⟨G, j * 2, none⟩ = some (.string F[j].1) ∧ W.cell? ⟨G, j * 2 + 1, none⟩ = some (.bool F[j].2)) := Lib.hid (by
      have e := HF.out
      subst e
      intro G W l' h j hj
      match j, hj with
      | 0, _ => exact ⟨h.cell 0 rfl, h.cell 1 rfl⟩
      | 1, _ => exact ⟨h.cell 2 rfl, h.cell 3 rfl⟩
      | 2, _ => exact ⟨h.cell 4 rfl, h.cell 5 rfl⟩
      | 3, _ => exact ⟨h.cell 6 rfl, h.cell 7 rfl⟩)
    clear hR1 e1 h2
    go_upto_region 5 with fail
    generalize (((w.alloc (.cells #[.bool true, .bool bc, .bool oi, .bool oo, .bool nl, .int .i64 rd, .slice a ps.length c] 24)).alloc (.cells #[.string ⟨#[111, 110]⟩] 9)).alloc (.cells #[.string ⟨#[98, 99, 97, 115, 116]⟩, .bool bc, .string ⟨#[111, 112, 116, 105, 110]⟩, .bool oi, .string ⟨#[111, 112, 116, 111, 117, 116]⟩, .bool oo, .string ⟨#[110, 111, 108, 111, 111, 112]⟩, .bool nl] 43)) = w4 at *
    generalize w.heap.size + 1 + 1 = G at *
    generalize (Value.slice (some ⟨w.heap.size + 1, 0, none⟩) 1 1) = v0 at *
    clear HF
    go_loopg [3, 5, 25] 5 (fun g s3 _ s25 wr => ∃ j : Nat, s25 = .int .i64 j ∧ j ≤ 4 ∧ 4 - j ≤ g ∧ Hid (Hp w wr [rowST s3 (mk wOn :: holds (F.take j)), cellsT G [.string ⟨#[98, 99, 97, 115, 116]⟩, .bool bc, .string ⟨#[111, 112, 116, 105, 110]⟩, .bool oi, .string ⟨#[111, 112, 116, 111, 117, 116]⟩, .bool oo, .string ⟨#[110, 111, 108, 111, 111, 112]⟩, .bool nl]]))
    case atStart => exact ⟨0, rfl, by omega, by omega, H2⟩
    case round =>
      obtain ⟨j, rfl, hj, hg, HR⟩ := hrel
      by_cases hjl : j < 4
      case pos =>
        have hjc : (j : Int) < 4 := by omega
        have hjF : j < F.length := by rw [h4.out]; exact hjl
        obtain ⟨c0, c1⟩ := HG.out _ _ _ (HR.out.pull 1 rfl) j hjF
        have HT := Lib.hid (holds_take hjF)
        have HLe : Hid ((mk wOn :: holds (F.take j)).length ≤ 1000000) := Lib.hid (by have := holds_len (F.take j); have := List.length_take_le j F; have := h4.out; simp; omega)
        generalize F[j] = q at *
        obtain ⟨y, hb⟩ := q
        have HT : Hid (holds (F.take (j + 1)) = holds (F.take j) ++ (if hb then [y] else [])) := HT
        have c0 : wr.cell? ⟨G, j * 2, none⟩ = some (.string y) := c0
        have c1 : wr.cell? ⟨G, j * 2 + 1, none⟩ = some (.bool hb) := c1
        cases hb with
        | false =>
          have HZ : Hid (∀ O, Hp w (wr.alloc O) [rowST u3 (mk wOn :: holds (F.take (j + 1))), cellsT G [.string ⟨#[98, 99, 97, 115, 116]⟩, .bool bc, .string ⟨#[111, 112, 116, 105, 110]⟩, .bool oi, .string ⟨#[111, 112, 116, 111, 117, 116]⟩, .bool oo, .string ⟨#[110, 111, 108, 111, 111, 112]⟩, .bool nl]]) := Lib.hid (fun O => by rw [HT.out]; simpa using HR.out.bel (bbox O))
          go_wp2_with fail
          go_roundg (gk - 1)
          case measure => omega
          case rel => exact ⟨j + 1, by go_num, by omega, by omega, Lib.hid (HZ.out _)⟩
        | true =>
          have HZ : Hid (holds (F.take j) ++ [y] = holds (F.take (j + 1))) := Lib.hid (by rw [HT.out]; rfl)
          go_wp2_with (at_builtin; refine pushH HR.out (bstep (bbox _) (bbox _)) rfl _ _ rfl rfl y _ rfl ?_ HLe.out ?_)
          intro v5 w5 hR5
          have HR5 := Lib.hid hR5
          rw [HZ.out] at HR5
          clear hR5
          go_wp2_with fail
          go_roundg (gk - 1)
          case measure => omega
          case rel => exact ⟨j + 1, by go_num, by omega, by omega, HR5⟩
      case neg =>
        have hjc : ¬ (j : Int) < 4 := by omega
        obtain rfl : j = F.length := by have := h4.out; omega
        rw [List.take_length] at HR
        go_wp2_with fail
        go_ret
        exact ⟨_, rfl, rowS_of' HR.out⟩
end Go.Proofs.YtjpbpdjomfkkeaaGreatDoor.Ma
