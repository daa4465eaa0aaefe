/- Plain facts of layer 13: what the words of the chapter's example and of ModeNames say. No condition. -/
import Derived.Test.YtjpbpdjomfkkeaaGreatDoorMa2
namespace Go.Proofs.YtjpbpdjomfkkeaaGreatDoor.Ma
open Go
theorem parseM_on' {w : BA} {r : List BA} {m : Md} (h : isW w wOn = true) (h1 : run onM r = some m) : parseM (w :: r) = endM m := by
  unfold parseM
  simp only [h, if_true, h1]
theorem parseM_none {w : BA} {r : List BA} (h : isW w wOn = true) (h1 : run onM r = none) : parseM (w :: r) = (zero, 131) := by
  unfold parseM
  simp only [h, if_true, h1]
theorem endM_yes {m n : Md} (e : { m with ps := allOf m } = n) (h : RightM n) : endM m = (n, 0) := by
  unfold endM
  rw [e, if_pos ((rightB_iff _).2 h)]
theorem endM_no {m : Md} (h : ¬ RightM { m with ps := allOf m }) : endM m = (zero, 132) := by
  unfold endM
  rw [if_neg fun k => h ((rightB_iff _).1 k)]
theorem wp7 : Num.wp (tl (mk [55])) = (7, 0) := by
  rw [← Num.refParse_wp]; rfl
theorem run_a1 : run onM [mk [111, 112, 116, 105, 110], mk [111, 112, 116, 111, 117, 116]] = some ⟨true, false, true, true, false, 0, []⟩ := by rfl
theorem run_a2 : run onM [mk [98, 99, 97, 115, 116], mk [80, 114, 101, 102, 105, 120], mk [98], mk [80, 82, 69, 70, 73, 88], mk [97], mk [114, 101, 100, 105, 114, 101, 99, 116], mk [55]] = some ⟨true, true, false, false, false, 7, [mk [98], mk [97]]⟩ := by
  rw [run_bcast rfl, run_prefix ⟨rfl, rfl, rfl, rfl⟩ rfl rfl, run_prefix ⟨rfl, rfl, rfl, rfl⟩ rfl rfl, run_redirect ⟨rfl, rfl, rfl, rfl⟩ rfl (by rw [wp7]; decide), wp7]
  rfl
theorem okPs_two {a b : BA} (h : Fol a b) (ha : a.size ≤ 512) (hb : b.size ≤ 512) : okPs [a, b] := by
  refine ⟨by simp, fun i hi => ?_⟩
  match i, hi with
  | 0, _ => exact ⟨ha, fun j _ e => by omega⟩
  | 1, _ => exact ⟨hb, fun j hj e => by
    obtain rfl : j = 0 := by omega
    exact h⟩
theorem lt_tl (a b : BA) : Ia.lt a b = Op.bytesLess (tl a) (tl b) := by unfold Ia.lt; rw [tl_toList, tl_toList]
theorem fol_ab : Fol (mk [97]) (mk [98]) := by
  refine ⟨by rw [lt_tl]; rfl, ?_⟩
  show ¬ ([97] : List UInt8) <+: [98]
  decide
theorem srt_ba : srt [mk [98], mk [97]] = [mk [97], mk [98]] :=
  srtd_eq ((srt_perm _).trans (List.Perm.swap ..)) (srt_srtd _) (List.pairwise_cons.2 ⟨fun y hy => by obtain rfl := List.mem_singleton.1 hy; exact Ia.lt_asymm fol_ab.1, List.pairwise_singleton ..⟩)
def mAB : Md := ⟨true, true, false, false, false, 7, [mk [97], mk [98]]⟩
theorem right_ab : RightM mAB := by
  unfold RightM mAB
  simp only [if_true]
  exact ⟨by decide, by decide, okPs_two fol_ab (by decide) (by decide)⟩
theorem p_alive1 : parseM [mk [111, 110], mk [111, 112, 116, 105, 110], mk [111, 112, 116, 111, 117, 116]] = (zero, 132) := by
  rw [parseM_on' rfl run_a1]
  refine endM_no fun h => ?_
  unfold RightM at h
  simp only [if_true] at h
  have h2 := h.2.1
  simp at h2
theorem p_alive2 : parseM [mk [79, 78], mk [98, 99, 97, 115, 116], mk [80, 114, 101, 102, 105, 120], mk [98], mk [80, 82, 69, 70, 73, 88], mk [97], mk [114, 101, 100, 105, 114, 101, 99, 116], mk [55]] = (mAB, 0) := by
  rw [parseM_on' rfl run_a2]
  refine endM_yes ?_ right_ab
  show (⟨true, true, false, false, false, 7, srt [mk [98], mk [97]]⟩ : Md) = _
  rw [srt_ba]; rfl
theorem p_n0 : parseM [] = (zero, 131) := rfl
theorem p_n1 : parseM [mk [111, 110], mk [112, 114, 101, 102, 105, 120]] = (zero, 131) := parseM_none rfl (run_alone ⟨rfl, rfl, rfl, rfl⟩)
theorem p_n2 : parseM [mk [111, 110], mk [112, 114, 101, 102, 105, 120], mk [97]] = (zero, 132) := by
  rw [parseM_on' rfl (run_prefix ⟨rfl, rfl, rfl, rfl⟩ rfl rfl)]
  refine endM_no fun h => ?_
  unfold RightM at h
  have h2 := h.2.1.2
  exact absurd h2 (by decide)
def mE : Md := ⟨true, true, false, false, false, 0, [mk []]⟩
theorem p_n3 : parseM [mk [111, 110], mk [98, 99, 97, 115, 116]] = (mE, 0) := by
  rw [parseM_on' rfl (run_bcast rfl)]
  refine endM_yes rfl ?_
  unfold RightM mE
  simp only [if_true]
  refine ⟨by decide, by decide, by simp, fun i hi => ?_⟩
  match i, hi with
  | 0, _ => exact ⟨by show (0 : Nat) ≤ 512; omega, fun j _ e => by omega⟩
theorem p_n4 : parseM [mk [111, 110], mk [98, 99, 97, 115, 116], mk [112, 114, 101, 102, 105, 120], mk [97], mk [112, 114, 101, 102, 105, 120], mk [97, 98]] = (zero, 132) := by
  have e : run onM [mk [98, 99, 97, 115, 116], mk [112, 114, 101, 102, 105, 120], mk [97], mk [112, 114, 101, 102, 105, 120], mk [97, 98]] = some ⟨true, true, false, false, false, 0, [mk [97], mk [97, 98]]⟩ := by
    rw [run_bcast rfl, run_prefix ⟨rfl, rfl, rfl, rfl⟩ rfl rfl, run_prefix ⟨rfl, rfl, rfl, rfl⟩ rfl rfl]
    rfl
  rw [parseM_on' rfl e]
  refine endM_no fun h => ?_
  unfold RightM at h
  have e2 : srt [mk [97], mk [97, 98]] = [mk [97], mk [97, 98]] := srt_of (List.pairwise_cons.2 ⟨fun y hy => by
    obtain rfl := List.mem_singleton.1 hy
    rw [lt_tl]; rfl, List.pairwise_singleton ..⟩)
  have h3 : okPs (srt [mk [97], mk [97, 98]]) := h.2.2
  rw [e2] at h3
  have h2 := (h3.2 1 (by simp)).2 0 (by simp) rfl
  exact h2.2 ⟨[98], rfl⟩
end Go.Proofs.YtjpbpdjomfkkeaaGreatDoor.Ma
