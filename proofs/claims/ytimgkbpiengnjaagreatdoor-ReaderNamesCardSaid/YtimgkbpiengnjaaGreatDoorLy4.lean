/- bytes.IndexAny of CR LF at EVERY slice of bytes: the walk. Conditions: what start-up lays ('PCtx'); the variable MaxLen holds some int; the length's bound. -/
import Derived.Test.YtimgkbpiengnjaaGreatDoorLy3
namespace Go.Proofs.YtimgkbpiengnjaaGreatDoor.Ln
open Go.ChangeShapes Go.WideShapes Go.ChangeAt Go.RowKit

set_option maxHeartbeats 4000000 in
set_option maxRecDepth 1000000 in
theorem bany_empty (a : Option Addr) (c : Nat) (w : World) : Calls Tryz.prog 21 #[.slice a 0 c, .string ⟨#[13, 10]⟩] w fun e w' => e = .returned (.int .i64 (-1)) ∧ Below w.heap.size w w' := by
  have HS := Lib.hid (should_calls 0)
  go_enter Tryz.func21, Tryz.ntmps21
  go_wp2_with fail
  refine (HS.out _).mono ?_; rintro en w1 ⟨rfl, rfl⟩
  go_wp2_with fail
  refine wp_loop_rounds 1 ?_
  rw [rounds_succ]
  go_wp2_with fail
  go_ret
  exact ⟨rfl, Below.refl _ _⟩
set_option maxHeartbeats 4000000 in
set_option maxRecDepth 1000000 in
theorem bany_one (x : UInt8) (b o c : Nat) (w : World) (hx : w.cell? ⟨b, o, none⟩ = some (.int .u8 (x.toNat : Int))) : Calls Tryz.prog 21 #[.slice (some ⟨b, o, none⟩) 1 c, .string ⟨#[13, 10]⟩] w fun e w' => e = .returned (.int .i64 (idxC [x])) ∧ Below w.heap.size w w' := by
  have x0 : (x.toNat : Int) < 256 := by have := x.toNat_lt; omega
  by_cases h128 : x.toNat < 128
  · obtain ⟨k1, k2, k3⟩ := byte_small x h128
    have hlt : (x.toNat : Int) < 128 := by omega
    have hix : (ByteArray.mk #[13, 10]).data.toList = [13, 10] := rfl
    have hxe : ((x.toNat : Int)).toNat.toUInt8 = x := by simp
    have Hres : Hid (idxC [x] = if 0 ≤ Lib.indexByte [13, 10] x then 0 else -1) := Lib.hid (by
      by_cases hq : 0 ≤ Lib.indexByte [13, 10] x
      · rw [if_pos hq]; exact idxC_yes (l := [x]) (i := 0) (by simp) (by simpa using k1.1 hq) (fun j _ hj => by omega)
      · rw [if_neg hq]; exact idxC_no fun j hj => by
          have : j = 0 := by simp at hj; omega
          subst this
          have := fun h => hq (k1.2 h)
          simpa using this)
    generalize hQ : Lib.indexByte [13, 10] x = q at *
    have hrun := fun wx => ibs_run ⟨#[13, 10]⟩ (x.toNat : Int) wx
    rw [hix, hxe, hQ] at hrun
    clear hix hxe k1
    have HQ := Lib.hid hQ
    clear hQ
    by_cases hq : 0 ≤ q
    · rw [Hres.out, if_pos hq]
      clear Hres
      go_enter Tryz.func21, Tryz.ntmps21
      go_wp2_with fail
      go_ret
      exact ⟨rfl, Below.refl _ _⟩
    · rw [Hres.out, if_neg hq]
      clear Hres
      go_enter Tryz.func21, Tryz.ntmps21
      go_wp2_with fail
      go_ret
      exact ⟨rfl, Below.refl _ _⟩
  · have hge : (128 : Int) ≤ (x.toNat : Int) := by omega
    rw [idxC_no (l := [x]) fun j hj => by
      have : j = 0 := by simp at hj; omega
      subst this
      exact crlf_high (show 128 ≤ x.toNat by omega)]
    have n0 := fun ty => run_next_ascii (P := Tryz.prog) w ⟨#[13, 10]⟩ 0 ty (by decide) (by decide)
    have n1 := fun ty => run_next_ascii (P := Tryz.prog) w ⟨#[13, 10]⟩ 1 ty (by decide) (by decide)
    have n2 := fun ty => run_next_end (P := Tryz.prog) w ⟨#[13, 10]⟩ 2 ty (by decide)
    go_enter Tryz.func21, Tryz.ntmps21
    go_wp2_with fail
    refine wp_loop_rounds 3 ?_
    rw [rounds_succ]
    go_wp2_with fail
    rw [rounds_succ]
    go_wp2_with fail
    rw [rounds_succ]
    go_wp2_with fail
    go_ret
    exact ⟨rfl, below_iter _ _ _⟩
set_option maxHeartbeats 8000000 in
set_option maxRecDepth 1000000 in
theorem bany_long (l : List UInt8) (h8 : 8 < l.length) (hm : l.length ≤ 1000000) (b o c : Nat) (w : World) (hcell : ∀ i (hi : i < l.length), w.cell? ⟨b, o + i, none⟩ = some (.int .u8 (l[i].toNat : Int))) :
    Calls Tryz.prog 21 #[.slice (some ⟨b, o, none⟩) l.length c, .string ⟨#[13, 10]⟩] w fun e w' => e = .returned (.int .i64 (idxC l)) ∧ Below w.heap.size w w' := by
  have hb : b < w.heap.size := World.block_lt_of_cell? w _ (hcell 0 (by omega))
  have hn1 : ((l.length : Int) == 1) = false := by rw [beq_eq_false_iff_ne]; omega
  have h8z : decide ((8 : Int) < (l.length : Int)) = true := decide_eq_true (by omega)
  have HS : Hid (∀ w, Calls Tryz.prog 31 #[.int .i64 l.length] w fun e w' => e = .returned (.bool true) ∧ w = w') := Lib.hid fun w => by
    have h := should_calls (l.length : Int) w
    rw [h8z] at h
    exact h
  have HM := Lib.hid (makeSet_calls w)
  have hz : ∀ w, (zeroValue 70).run Tryz.prog w = .ok (.agg (Array.replicate 256 (.bool false))) w := fun w => by kernel_rfl
  have hinfo : (Tryz.prog.info? 70).map (·.size) = some 256 := by kernel_rfl
  have hsc : (storeCells ⟨w.heap.size + 1, 0, none⟩ (Lib.setCells [13, 10]).toList 0).run Tryz.prog ((w.alloc (.cells (Lib.setCells [13, 10]) 70)).alloc (.cells (Array.replicate 256 (.bool false)) 70)) = .ok () ((w.alloc (.cells (Lib.setCells [13, 10]) 70)).alloc (.cells (Lib.setCells [13, 10]) 70)) := by
    have := run_storeCells_new (P := Tryz.prog) (w.alloc (.cells (Lib.setCells [13, 10]) 70)) 70 (Array.replicate 256 (.bool false)) (Lib.setCells [13, 10]) (by rw [Lib.setCells_size]; exact hinfo) (by rw [Lib.setCells_size, Array.size_replicate]) (Lib.setCells_one _)
    simpa using this
  have hcellAt : ∀ x : UInt8, ((w.alloc (.cells (Lib.setCells [13, 10]) 70)).alloc (.cells (Lib.setCells [13, 10]) 70)).cell? ⟨w.heap.size + 1, x.toNat, none⟩ = some (.bool (Lw.crlf x)) := fun x => by
    rw [World.cell?_alloc_at _ _ _ _ (by simp), Lib.setCells_at]
    congr 2
    unfold Lw.crlf
    cases h1 : x == 13 <;> cases h2 : x == 10 <;> simp [List.contains, List.elem, h1, h2]
  have hold : ∀ i (hi : i < l.length), ((w.alloc (.cells (Lib.setCells [13, 10]) 70)).alloc (.cells (Lib.setCells [13, 10]) 70)).cell? ⟨b, o + i, none⟩ = some (.int .u8 (l[i].toNat : Int)) := fun i hi =>
    ((bstep (bbox (w := w) _) (bbox _)).cell (p := ⟨b, o + i, none⟩) hb).trans (hcell i hi)
  have HCA := Lib.hid hcellAt
  have HO := Lib.hid hold
  have HB : Hid (Below w.heap.size w ((w.alloc (.cells (Lib.setCells [13, 10]) 70)).alloc (.cells (Lib.setCells [13, 10]) 70))) := Lib.hid (bstep (bbox _) (bbox _))
  have HSC := Lib.hid hsc
  clear hcellAt hold hsc hcell h8z hinfo
  go_enter Tryz.func21, Tryz.ntmps21
  go_wp2_with fail
  refine (HS.out _).mono ?_; rintro en w1 ⟨rfl, rfl⟩
  go_wp2_with fail
  refine HM.out.mono ?_; rintro en w1 ⟨rfl, rfl⟩
  go_wp2_with fail
  simp only [HSC.out, Result.andThen]
  rw [Oper.upon_skip]
  generalize (w.alloc (.cells (Lib.setCells [13, 10]) 70)).alloc (.cells (Lib.setCells [13, 10]) 70) = W at *
  go_wp2_with fail
  go_loop [9, 10, 62] (fun _ _ vi => ∃ k : Nat, vi = .int .i64 k ∧ k ≤ l.length ∧ Hid (∀ j (hj : j < l.length), j < k → Lw.crlf l[j] = false)) (fun _ _ vi => l.length - (intOf vi).toNat)
  case atStart => exact ⟨0, rfl, by omega, Lib.hid fun j _ h => by omega⟩
  case round =>
    obtain ⟨k, rfl, hk, hno⟩ := hrel
    by_cases hlt : k < l.length
    · have hc := HO.out k hlt
      have HC := Lib.hid (setHas_calls (w.heap.size + 1) l[k] (Lw.crlf l[k]) W (HCA.out l[k]))
      have HX : Hid (∀ x, l[k] = x → idxC l = if Lw.crlf x = true then (k : Int) else idxC l) := Lib.hid fun x e => by
        by_cases h : Lw.crlf x = true
        · rw [if_pos h]; exact idxC_yes hlt (by rw [e]; exact h) hno.out
        · rw [if_neg h]
      have HN : Hid (∀ x, l[k] = x → Lw.crlf x = false → ∀ j (hj : j < l.length), j < k + 1 → Lw.crlf l[j] = false) := Lib.hid fun x e h j hj hjk => by
        by_cases e2 : j = k
        · subst e2; rw [e]; exact h
        · exact hno.out j hj (by omega)
      generalize hx : l[k] = x at *
      have HXX := Lib.hid hx
      clear hx
      generalize hq : Lw.crlf x = q at *
      have HQ := Lib.hid hq
      clear hq
      cases q with
      | true =>
        go_wp2_with fail
        refine HC.out.mono ?_; rintro en w1 ⟨rfl, rfl⟩
        go_wp2_with fail
        go_ret
        have h := HX.out x rfl
        rw [HQ.out, if_pos rfl] at h
        exact ⟨by rw [h]; rfl, HB.out⟩
      | false =>
        go_wp2_with fail
        refine HC.out.mono ?_; rintro en w1 ⟨rfl, rfl⟩
        go_wp2_with fail
        go_round
        case rel => exact ⟨k + 1, by go_num, by omega, Lib.hid (HN.out x rfl HQ.out)⟩
        case measure => simp [intOf]; omega
    · obtain rfl : k = l.length := by omega
      go_wp2_with fail
      go_ret
      exact ⟨by rw [idxC_no fun j hj => hno.out j hj hj]; rfl, HB.out⟩
end Go.Proofs.YtimgkbpiengnjaaGreatDoor.Ln
