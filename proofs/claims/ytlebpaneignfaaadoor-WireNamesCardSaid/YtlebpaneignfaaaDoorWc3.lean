/- The call wireAlive of layer 4: true. No condition but the tables. -/
import Derived.Test.YtlebpaneignfaaaDoorWc1
namespace Go.Proofs.YtlebpaneignfaaaDoor
open Go.ChangeShapes Go.WideShapes Go.ChangeAt Go.RowKit

/-- string(b), of an own row of bytes. -/
theorem buf_conv {wb w : World} {v : Value} {l : List UInt8} (h : Buf wb w v l) (hl : l ≠ []) : (convert 27 9 v).run Tryd.prog w = .ok (.string ⟨l.toArray⟩) w := by
  obtain ⟨hx, hr⟩ := h.row
  rcases hr with ⟨-, hn⟩ | ⟨g, cap, cur, rfl, -, hg, -, -, hsz, htk⟩
  · exact absurd (List.eq_nil_of_length_eq_zero hn) hl
  · refine run_convert_bytes_back w _ _ 5 ⟨g, 0, none⟩ cap l Tryd.underlying27 Tryd.underlying5 Tryd.underlying9 fun j hj => ?_
    have hc : cur.toList[j]? = some (.int .u8 (l[j].toNat : Int)) := by
      have h1 : (cur.toList.take (l.length * 1))[j]? = cur.toList[j]? := List.getElem?_take_of_lt (by omega)
      rw [← h1, htk]
      simp [Lib.byteCells, hj]
    rw [Addr.add_lit, Nat.zero_add]
    simp only [World.cell?, hg]
    simpa using hc
set_option maxHeartbeats 4000000 in
set_option maxRecDepth 100000 in
theorem walive_calls (w : World) (hc : WCtx w) : Calls Tryd.prog 4 #[] w fun e w' => e = .returned (.bool true) ∧ Below w.heap.size w w' := by
  have HC := Lib.hid hc
  have hcmd := fun w2 (h2 : Below w.heap.size w w2) b (hb : b < w2.heap.size) (hx : w2.cell? ⟨b, 0, none⟩ = some (.string ⟨#[97]⟩)) =>
    command_calls w2 (hc.below h2) (some ⟨b, 0, none⟩) 1 1 (fun _ => ⟨#[97]⟩) (by omega) (by omega) (by omega) (fun _ _ => by decide) (fun _ => ⟨b, 0, rfl, hb⟩) (fun i hi b2 o2 e => by
      obtain rfl : i = 0 := by omega
      injection e with e; injection e with e1 e2; subst e1; subst e2; exact hx)
  have Hcmd := Lib.hid hcmd
  clear hcmd hc
  go_enter Tryd.func4, Tryd.ntmps4
  go_wp2_with fail
  generalize hW : w.alloc _ = W at *
  have hb : Below w.heap.size w W := by subst hW; exact (Below.refl _ _).alloc (Nat.le_refl _) _
  have hx : W.cell? ⟨w.heap.size, 0, none⟩ = some (.string ⟨#[97]⟩) := by subst hW; go_simp
  have hz : w.heap.size < W.heap.size := by subst hW; simp
  refine (Hcmd.out W hb w.heap.size hz hx).mono ?_; rintro en w3 ⟨v3, rfl, hO3⟩
  have HO3 := Lib.hid hO3
  have Hb := Lib.hid hb
  clear hO3 hb hx hz hW Hcmd
  go_wp2_with fail
  rw [buf_conv HO3.out (by unfold commandB; simp)]
  have hB : (⟨(commandB (fun _ => ⟨#[97]⟩) 1).toArray⟩ : ByteArray) = ⟨#[42, 49, 13, 10, 36, 49, 13, 10, 97, 13, 10]⟩ := by
    have e1 : Lib.itoa ((1 : Nat) : Int) = [49] := by first | kernel_rfl | decide +kernel
    have e2 : (⟨#[97]⟩ : ByteArray).size = 1 := rfl
    have e3 : catTo (fun _ : Nat => bulkB ⟨#[97]⟩) 1 = bulkB ⟨#[97]⟩ := rfl
    unfold commandB
    rw [e3]
    unfold bulkB
    rw [e2, e1]
    rfl
  rw [hB]
  clear hB
  go_wp2_with fail
  go_ret
  exact ⟨rfl, bstep Hb.out HO3.out.bel⟩
theorem step_conv {P : Program} {ops : Array Oper} {o : Oper} {a : Act} {w : World} {K : Act → World → Prop} {Q : Exit → Act → World → Prop} {E : Prop} (hg : o.guard = none) (t1 t2 : TypeId) (x : Operand)
    (hop : o.op = Op.convert t1 t2 x) (v u : Value) (hx : a.eval x = v) (hrun : (convert t1 t2 v).run P w = .ok u w) (hK : K (a.put o.dst u) w) :
    if Region.wanted o (yielded ops a.tmps) = true then Oper.wp P o a w K Q else E := by
  have hw : Region.wanted o (yielded ops a.tmps) = true := by simp [Region.wanted, hg]
  rw [if_pos hw]
  unfold Oper.wp
  simp [execOp, hop, hx, hrun, Result.andThen]
  exact hK
end Go.Proofs.YtlebpaneignfaaaDoor
