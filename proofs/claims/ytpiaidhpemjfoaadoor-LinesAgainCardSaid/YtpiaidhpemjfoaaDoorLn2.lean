/- The walk of the law LinesAgain: true. Conditions: as XLn1's. -/
import Derived.Test.YtpiaidhpemjfoaaDoorLo2
import Derived.Test.YtpiaidhpemjfoaaDoorLq4
namespace Go.Proofs.YtpiaidhpemjfoaaDoor.Lw
theorem check_again {out ws : List (List UInt8)} (h : check out = some ws) : check ws = some ws := by
  have e : out = ws := by
    unfold check at h
    split at h
    · injection h
    · cases h
  rw [e] at h; exact h
theorem wrun_check (st : St) (l : List UInt8) (ws : List (List UInt8)) (h : wrun st l = some ws) : check ws = some ws := by
  fun_induction wrun st l <;> first | exact check_again h | (rename_i ih; exact ih h) | (cases h) | simp_all
def tot (l : List (List UInt8)) : Nat := (l.map List.length).sum
theorem tot_app (l r : List (List UInt8)) : tot (l ++ r) = tot l + tot r := by simp [tot]
theorem tot_one (w : List UInt8) : tot [w] = w.length := by simp [tot]
def stTot : St → Nat
  | .gap out => tot out
  | .bare w out => tot out + w.length
  | .marked _ w out => tot out + w.length
  | .after out => tot out
theorem check_eq {out ws : List (List UInt8)} (h : check out = some ws) : ws = out := by
  unfold check at h
  split at h
  · injection h with h; exact h.symm
  · cases h
theorem wrun_tot (st : St) (l : List UInt8) (ws : List (List UInt8)) (h : wrun st l = some ws) : tot ws ≤ stTot st + l.length := by
  fun_induction wrun st l
  all_goals first
    | (have e := check_eq h; subst e; simp only [stTot, tot_app, tot_one, List.length_cons, List.length_nil]; omega)
    | (cases h; done)
    | (rename_i d r _ _ _ ih; have h1 := ih h; have h2 := esc_le d r; simp only [stTot, List.length_append, List.length_cons, List.length_nil] at h1 ⊢; omega)
    | (rename_i ih; have h1 := ih h; simp only [stTot, tot_app, tot_one, List.length_append, List.length_cons, List.length_nil] at h1 ⊢; omega)
theorem quote_len2 (l : List (List UInt8)) : ∀ i, (quoteFrom i l).length ≤ 3 * l.length + 4 * tot l := by
  induction l with
  | nil => intro i; simp [quoteFrom]
  | cons x l ih =>
    intro i
    have h1 := ih (i + 1)
    have h3 := qword_len x
    have h4 : (wordQ i x).length ≤ 4 * x.length + 2 := by unfold wordQ; split <;> omega
    have h5 : (if i = 0 then ([] : List UInt8) else [32]).length ≤ 1 := by split <;> simp
    have h6 : tot (x :: l) = x.length + tot l := by simp [tot]
    rw [quoteFrom, List.length_append, List.length_append, List.length_cons, h6]
    omega
theorem check_fits {ws : List (List UInt8)} (h : check ws = some ws) : ws.length ≤ 64 ∧ ∀ t ∈ ws, t.length ≤ 4096 := by
  unfold check at h
  split at h
  · rename_i h2
    simp only [Bool.and_eq_true, decide_eq_true_eq, List.all_eq_true] at h2
    refine ⟨h2.1, fun t ht => ?_⟩
    have := h2.2 t ht
    unfold fine at this
    exact of_decide_eq_true this
  · cases h
theorem again_run (ws : List (List UInt8)) (h : check ws = some ws) : wrun (.gap []) ([32, 9] ++ quoteFrom 0 ws ++ [32]) = some ws := by
  have h1 := quote_run ws [32] (by decide) 0 []
  rw [List.nil_append, h] at h1
  rw [← h1, List.append_assoc]
  show wrun (.gap []) (32 :: 9 :: (quoteFrom 0 ws ++ [32])) = _
  rw [wrun_trim, wrun_trim [] (quoteFrom 0 ws ++ [32])]
  rfl
end Go.Proofs.YtpiaidhpemjfoaaDoor.Lw
namespace Go.Proofs.YtpiaidhpemjfoaaDoor.Ln
open Go.ChangeShapes Go.WideShapes Go.ChangeAt Go.RowKit
set_option maxHeartbeats 8000000 in
set_option maxRecDepth 1000000 in
theorem linesAgain (x : ByteArray) (w : World) (hc : PCtx w) (hmx : MaxOk w) : Calls Tryd.prog 5 #[.string x] w fun e w' => e = .returned (.bool true) ∧ Below w.heap.size w w' := by
  have HA := Lib.hid (alive_calls w hc hmx)
  have HW := Lib.hid (fun (s : ByteArray) (hs : s.size ≤ 1000000) (w1 : World) (h : Below w.heap.size w w1) => words_calls s hs w1 (hc.below h).toLCtx)
  clear hc hmx
  go_enter Tryd.func5, Tryd.ntmps5
  go_wp2_with fail
  refine HA.out.mono ?_; rintro en w1 ⟨rfl, hb1⟩
  have Hb1 := Lib.hid hb1
  clear hb1
  by_cases hx : (3000 : Int) < (x.size : Int)
  case pos =>
    go_wp2_with fail
    go_ret
    exact ⟨rfl, Hb1.out⟩
  go_wp2_with fail
  refine (HW.out x (by omega) w1 Hb1.out).mono ?_; rintro en w2 ⟨hb2, hans⟩
  have Hb2 := Lib.hid (bstep Hb1.out hb2)
  clear hb2
  rcases hans with ⟨-, rfl⟩ | ⟨ws, v, hrun, rfl, hS⟩
  · go_wp2_with fail
    go_ret
    exact ⟨rfl, Hb2.out⟩
  have hck := Lw.wrun_check _ _ _ hrun
  have hfit := Lw.check_fits hck
  have htot := Lw.wrun_tot _ _ _ hrun
  rw [len_of] at htot
  have htot : Lw.tot ws ≤ 3000 := by simp only [Lw.stTot, Lw.tot, List.map_nil, List.sum_nil] at htot ⊢; omega
  have HK := Lib.hid hck
  obtain ⟨a, c, rfl, hc1, hc2, hcells⟩ := (Lie.of hS).facts
  have HI : Hid (InS w2 a ws) := Lib.hid hcells
  have HL := Lib.hid hfit.2
  have hl := hfit.1
  clear hrun hck hfit hS hcells
  go_wp2_with fail
  go_loopw [6, 30] (fun _ vi wr => ∃ k : Nat, vi = .int .i64 k ∧ k ≤ ws.length ∧ wr = w2) (fun _ vi _ => ws.length - (intOf vi).toNat)
  case atStart => exact ⟨0, rfl, by omega, rfl⟩
  case round =>
    obtain ⟨k, rfl, hk, rfl⟩ := hrel
    by_cases hlt : k < ws.length
    · obtain ⟨g, rfl, hcell⟩ := HI.out k hlt
      have hlen := HL.out ws[k] (List.getElem_mem _)
      have hsz := size_of ws[k]
      generalize (⟨ws[k].toArray⟩ : ByteArray) = S at *
      generalize ws[k] = t at *
      have hs2 : ¬ (4096 : Int) < (S.size : Int) := by omega
      go_wp2_with fail
      go_roundw
      case rel => exact ⟨k + 1, by go_num, by omega, by first | rfl | trivial⟩
      case measure => simp [intOf]; omega
    · obtain rfl : k = ws.length := by omega
      have HQ := Lib.hid (quote_calls wr a c ws hl HL.out HI.out hc1 hc2)
      have HN := Lib.hid (Lw.again_run ws HK.out)
      have hqs := size_of (Lw.quoteFrom 0 ws)
      have hqd := bytes_of (Lw.quoteFrom 0 ws)
      have hql := Lw.quote_len2 ws 0
      generalize (⟨(Lw.quoteFrom 0 ws).toArray⟩ : ByteArray) = S at *
      have HD := Lib.hid hqd
      clear hqd
      go_wp2_with fail
      refine HQ.out.mono ?_; rintro en w3 ⟨rfl, hb3⟩
      have Hb3 := Lib.hid (bstep Hb2.out hb3)
      have HI3 := Lib.hid (HI.out.below hb3)
      clear hb3
      go_wp2_with fail
      have hz : (({ data := #[32, 9] } : ByteArray) ++ S ++ { data := #[32] }).data.toList = [32, 9] ++ Lw.quoteFrom 0 ws ++ [32] := by
        rw [ByteArray.data_append, ByteArray.data_append, Array.toList_append, Array.toList_append, HD.out]
      have hzs : (({ data := #[32, 9] } : ByteArray) ++ S ++ { data := #[32] }).size ≤ 1000000 := by
        rw [← len_of, hz, List.length_append, List.length_append, List.length_cons, List.length_cons, List.length_cons, List.length_nil]
        omega
      have h := HW.out _ hzs w3 Hb3.out
      rw [hz, HN.out] at h
      refine h.mono ?_
      rintro en w4 ⟨hb4, hans⟩
      have Hb4 := Lib.hid (bstep Hb3.out hb4)
      have HI4 := Lib.hid (HI3.out.below hb4)
      clear hb4 h hz hzs
      rcases hans with ⟨h, -⟩ | ⟨ws2, v2, h, rfl, hS2⟩
      · cases h
      injection h with h
      subst h
      obtain ⟨a2, c2, rfl, hd1, hd2, hcells2⟩ := (Lie.of hS2).facts
      have HM := Lib.hid (same_calls w4 a a2 c c2 ws hl HI4.out hcells2 hc1 hc2)
      clear hS2 hcells2
      go_wp2_with fail
      refine HM.out.mono ?_; rintro en w5 ⟨rfl, hb5⟩
      have Hb5 := Lib.hid (bstep Hb4.out hb5)
      clear hb5
      go_wp2_with fail
      go_ret
      exact ⟨rfl, Hb5.out⟩
end Go.Proofs.YtpiaidhpemjfoaaDoor.Ln
