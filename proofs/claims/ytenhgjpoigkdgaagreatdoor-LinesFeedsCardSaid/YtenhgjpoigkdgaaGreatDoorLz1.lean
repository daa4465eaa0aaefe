/- Package lines' begins and tooLong. No condition but bounds. -/
import Derived.Test.YtenhgjpoigkdgaaGreatDoorLy5
namespace Go.Proofs.YtenhgjpoigkdgaaGreatDoor.Ln
open Go.ChangeShapes Go.WideShapes Go.ChangeAt Go.RowKit

def begE (l F : List UInt8) : Int := if l.take (min l.length F.length) = F.take (min l.length F.length) then 0 else 61
def begB (l F : List UInt8) : Bool := decide (F.length ≤ l.length ∧ l.take (min l.length F.length) = F.take (min l.length F.length))
set_option maxHeartbeats 4000000 in
set_option maxRecDepth 1000000 in
theorem begins_calls (l : List UInt8) (a : Option Addr) (c : Nat) (w : World) (hB : InB w a c l) (f : ByteArray) :
    Calls Tryz.prog 57 #[.slice a l.length c, .string f] w fun e w' => e = .returned (.tuple #[.bool (begB l f.data.toList), .int .i64 (begE l f.data.toList)]) ∧ Below w.heap.size w w' := by
  have hfl := len_of f
  obtain ⟨n, hn⟩ : ∃ n : Nat, min l.length f.size = n := ⟨_, rfl⟩
  have hmin : (min (l.length : Int) (f.size : Int)) = (n : Int) := by omega
  have hnl : n ≤ l.length := by omega
  have hnf : n ≤ f.size := by omega
  have hto := hB.to n hnl
  have hlt : (l.take n).length = n := by rw [List.length_take]; omega
  have hcv : ∀ k, (convert 22 9 (.slice a n c)).run Tryz.prog (w.drewN k) = .ok (.string ⟨(l.take n).toArray⟩) (w.drewN k) := fun k => by
    have h := ((hB.take n).below (below_drewN w k)).conv
    rw [hlt] at h
    exact h
  obtain ⟨X, hX, hXl⟩ : ∃ X : ByteArray, (⟨(l.take n).toArray⟩ : ByteArray) = X ∧ X.toList = l.take n := ⟨_, rfl, by rw [Lib.toList_data]⟩
  obtain ⟨Y, hY, hYl⟩ : ∃ Y : ByteArray, f.extract 0 n = Y ∧ Y.toList = f.data.toList.take n := ⟨_, rfl, by rw [Lib.toList_data, Lib.extract_data]; simp⟩
  rw [hX] at hcv
  have HY := Lib.hid hY
  have hE : begE l f.data.toList = if X.toList = Y.toList then 0 else 61 := by
    unfold begE
    rw [hXl, hYl, hfl, hn]
  have hBB : begB l f.data.toList = decide (n = f.size ∧ X.toList = Y.toList) := by
    unfold begB
    rw [hXl, hYl, hfl, hn]
    congr 1
    rw [eq_iff_iff]
    constructor
    · exact fun h => ⟨by omega, h.2⟩
    · exact fun h => ⟨by omega, h.2⟩
  rw [hE, hBB]
  clear hE hBB hXl hYl hX hfl hlt hB
  have Hmin := Lib.hid hmin
  have Hn := Lib.hid hn
  clear hn
  by_cases heq : X.toList = Y.toList
  · rw [if_pos heq]
    have hbe : (X.toList == Y.toList) = true := beq_iff_eq.2 heq
    have HQ := Lib.hid heq
    clear heq
    go_enter Tryz.func57, Tryz.ntmps57
    go_wp2_with fail
    go_quiet (fail)
    have Hb := Lib.hid (below_drewN w nq)
    go_wp2_with fail
    go_ret2
    refine ⟨?_, Hb.out⟩
    have hb : ((n : Int) == (f.size : Int)) = decide (n = f.size ∧ X.toList = Y.toList) := by
      rw [Bool.eq_iff_iff]
      simp only [beq_iff_eq, decide_eq_true_eq]
      exact ⟨fun h => ⟨by omega, HQ.out⟩, fun h => by omega⟩
    rw [← hb]
    rfl
  · rw [if_neg heq, decide_eq_false (fun h => heq h.2)]
    have hbe : (X.toList == Y.toList) = false := beq_eq_false_iff_ne.2 heq
    clear heq
    go_enter Tryz.func57, Tryz.ntmps57
    go_wp2_with fail
    go_quiet (fail)
    have Hb := Lib.hid (below_drewN w nq)
    go_wp2_with fail
    go_ret2
    exact ⟨rfl, Hb.out⟩
theorem tooLong_calls (n c : Nat) (a : Option Addr) (w : World) : Calls Tryz.prog 43 #[.slice a n c] w fun e w' => e = .returned (.int .i64 (if n = 4200 then 61 else 0)) ∧ w = w' := by
  by_cases h : n = 4200
  · rw [if_pos h]
    have hb : ((n : Int) == 4200) = true := by rw [h]; rfl
    clear h
    go_enter Tryz.func43, Tryz.ntmps43
    go_wp2
    go_ret
    exact ⟨rfl, rfl⟩
  · rw [if_neg h]
    have hb : ((n : Int) == 4200) = false := by rw [beq_eq_false_iff_ne]; omega
    clear h
    go_enter Tryz.func43, Tryz.ntmps43
    go_wp2
    go_ret
    exact ⟨rfl, rfl⟩
end Go.Proofs.YtenhgjpoigkdgaaGreatDoor.Ln
