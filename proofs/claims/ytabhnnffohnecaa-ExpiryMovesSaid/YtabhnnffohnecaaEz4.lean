/- ExpiryMoves. No condition. -/
import Derived.Test.YtabhnnffohnecaaEz1
namespace Go.Proofs.Ytabhnnffohnecaa.Ea
open Go.ChangeShapes Go.WideShapes Go.ChangeAt Go.RowKit Go.Maps Go.WideMaps
theorem cell_bel4 {w w' : World} {x i : Nat} {v : Value} (hb : Below w.heap.size w w') (hc : w.cell? ⟨x, i, none⟩ = some v) : w'.cell? ⟨x, i, none⟩ = some v := (hb.cell (p := ⟨x, i, none⟩) (World.block_lt_of_cell? _ _ hc)).trans hc
theorem EC.keys {o w : World} {T : Nat} {S : List Du} {a : Option Addr} {G : List Du} {Z : Nat → Prop} (h : EC o T w S a G Z) : (S.map (·.2)).Nodup := by
  obtain ⟨M, v, l, D, h1, h2, -⟩ := h
  exact keysS h1.kn h2
theorem mem_putD {k : ByteArray} {t : Int} {S : List Du} {x : Du} : x ∈ putD k t S ↔ x = (t, k) ∨ x ∈ S ∧ x.2 ≠ k := by
  unfold putD
  rw [mem_insD, mem_dropD]
theorem drop_put {k : ByteArray} {t : Int} {S : List Du} (hS : UpD S) : dropD k (putT k t S) = dropD k S := by
  unfold putT
  split
  · rfl
  · refine up_eq hS.put.drop hS.drop fun x => ?_
    rw [mem_dropD, mem_dropD, mem_putD]
    constructor
    · rintro ⟨h | h, hk⟩
      · rw [h] at hk; exact absurd rfl hk
      · exact h
    · rintro ⟨h, hk⟩
      exact ⟨.inr ⟨h, hk⟩, hk⟩
theorem drop_drop (k : ByteArray) (S : List Du) : dropD k (dropD k S) = dropD k S := drop_none fun _ hd => (mem_dropD.1 hd).2
/-- How many dues are a key's. -/
def cntD (k : ByteArray) (S : List Du) : Nat := (S.filter fun d => decide (d.2 = k)).length
theorem cnt_one {k : ByteArray} : ∀ {S : List Du}, (S.map (·.2)).Nodup → k ∈ S.map (·.2) → cntD k S = 1
  | [], _, h => absurd h (by simp)
  | x :: r, hn, h => by
    obtain ⟨h1, h2⟩ := List.nodup_cons.1 hn
    unfold cntD
    by_cases e : x.2 = k
    · rw [List.filter_cons_of_pos (by simpa using e)]
      have : r.filter (fun d => decide (d.2 = k)) = [] := List.filter_eq_nil_iff.2 fun d hd hk => h1 (by
        have hk : d.2 = k := by simpa using hk
        show x.2 ∈ _
        rw [e, ← hk]; exact List.mem_map_of_mem (f := fun x : Du => x.2) hd)
      rw [this]; rfl
    · rw [List.filter_cons_of_neg (by simpa using e)]
      refine cnt_one h2 ?_
      rcases List.mem_cons.1 h with h | h
      · exact absurd h.symm e
      · exact h
theorem cnt_take {k : ByteArray} {S : List Du} {j : Nat} (hj : j < S.length) : cntD k (S.take (j + 1)) = cntD k (S.take j) + if S[j].2 = k then 1 else 0 := by
  unfold cntD
  rw [← List.take_append_getElem hj, List.filter_append, List.length_append]
  congr 1
  by_cases e : S[j].2 = k <;> simp [e]
def putAll (l : List Du) : List Du := l.foldl (fun S d => putT d.2 d.1 S) []
theorem putAll_take {l : List Du} {j : Nat} (hj : j < l.length) : putAll (l.take (j + 1)) = putT l[j].2 l[j].1 (putAll (l.take j)) := by
  unfold putAll
  rw [← List.take_append_getElem hj, List.foldl_append]; rfl
theorem putAll_le (l : List Du) : (putAll l).length ≤ l.length := by
  have : ∀ (l S : List Du), (l.foldl (fun S d => putT d.2 d.1 S) S).length ≤ S.length + l.length := by
    intro l
    induction l with
    | nil => intro S; simp
    | cons x r ih =>
      intro S
      have h1 := ih (putT x.2 x.1 S)
      have h2 := putT_le x.2 x.1 S
      simp only [List.foldl_cons, List.length_cons]
      omega
  have h := this l []
  unfold putAll
  simpa using h
set_option maxHeartbeats 16000000 in
set_option maxRecDepth 100000 in
theorem expiryMoves (xa : Option Addr) (xc : Nat) (l : List Du) (w : World) (hI : InD w xa l) (hS : ∀ i (h : i < l.length), l[i].2.size ≤ maxLen) (key : ByteArray) (hk : key.size ≤ maxLen) (t0 t1 : Int) :
    Calls Try.prog 6 #[.slice xa l.length xc, .string key, .agg #[.int .i64 t0, .int .i64 t1]] w fun e w' => e = .returned (.bool true) ∧ Below w.heap.size w w' := by
  have HSZ := Lib.hid hS
  have HK := Lib.hid hk
  have HI1 := Lib.hid (hI.below (Nat.le_refl _) (bbox (.cells #[.int .i64 t0, .int .i64 t1] 51)))
  have HB1 := Lib.hid (bbox (w := w) (.cells #[.int .i64 t0, .int .i64 t1] 51))
  have HC0 : Hid ((w.alloc (.cells #[.int .i64 t0, .int .i64 t1] 51)).cell? ⟨w.heap.size, 0, none⟩ = some (.int .i64 t0) ∧ (w.alloc (.cells #[.int .i64 t0, .int .i64 t1] 51)).cell? ⟨w.heap.size, 1, none⟩ = some (.int .i64 t1)) := Lib.hid ⟨by rw [World.cell?_alloc_new]; rfl, by rw [World.cell?_alloc_new]; rfl⟩
  clear hI hS hk
  have HA := Lib.hid (expiryAlive (w.alloc (.cells #[.int .i64 t0, .int .i64 t1] 51)))
  go_enter Try.func6, Try.ntmps6
  go_wp2_with fail
  refine HA.out.mono ?_; rintro en w2 ⟨rfl, hb2⟩
  have HB2 := Lib.hid (bstep HB1.out hb2)
  have HI2 := Lib.hid (HI1.out.below (Nat.le_refl _) hb2)
  have hA0 := cell_bel4 hb2 HC0.out.1
  have hA1 := cell_bel4 hb2 HC0.out.2
  have HC := Lib.hid (And.intro hA0 hA1)
  clear hb2 HA HI1 HB1 HC0 hA0 hA1
  generalize w.heap.size = A at HC ⊢
  by_cases hl : 60 < l.length
  · have hlc : (60 : Int) < (l.length : Int) := by omega
    go_wp2_with fail
    go_ret
    exact ⟨rfl, HB2.out⟩
  have hlc : ¬ (60 : Int) < (l.length : Int) := by omega
  have HN := Lib.hid (ec_new w2 w2 (Below.refl _ _))
  go_wp2_with fail
  refine HN.out.mono ?_; rintro en w3 ⟨T, rfl, h3⟩
  have H3 := Lib.hid h3
  clear h3 HN
  go_wp2_with fail
  go_loopg [25] (l.length + 1) (fun g vi wr => ∃ j : Nat, vi = .int .i64 j ∧ j ≤ l.length ∧ l.length - j ≤ g ∧ Hid (EC w2 T wr (putAll (l.take j)) none [] (fun _ => False)))
  case atStart => exact ⟨0, rfl, Nat.zero_le _, by omega, H3⟩
  case round =>
    obtain ⟨j, rfl, hj, hg, HR1⟩ := hrel
    clear H3
    by_cases hjl : j < l.length
    case pos =>
      have hjc : (j : Int) < (l.length : Int) := by omega
      obtain ⟨b, o, rfl, hbl, hat⟩ := HI2.out (by omega)
      obtain ⟨e0, e1⟩ := hat j hjl
      have e : ∀ j, wr.cell? ⟨b, j, none⟩ = w2.cell? ⟨b, j, none⟩ := fun j => HR1.out.below.cell (p := ⟨b, j, none⟩) hbl
      rw [← e] at e0 e1
      have HSj := Lib.hid (HSZ.out j hjl)
      have HZ := Lib.hid (putAll_take hjl)
      have HLe : Hid ((putAll (l.take j)).length ≤ 60) := Lib.hid (by have := putAll_le (l.take j); have := List.length_take_le j l; omega)
      clear hat e
      generalize l[j].1 = z at *
      generalize l[j].2 = q at *
      have HX := Lib.hid ((HR1.out.bel (bbox (.cells #[.int .i64 z, .string q] 26))).put q HSj.out z (Nat.le_trans HLe.out (by decide)))
      go_wp2_with fail
      refine HX.out.mono ?_; rintro en w5 ⟨rfl, h5, -⟩
      have H5 := Lib.hid h5
      clear h5 HX e0 e1
      go_wp2_with fail
      go_roundg (gk - 1)
      case measure => omega
      case rel => exact ⟨j + 1, by go_num, by omega, by omega, by rw [HZ.out]; exact H5⟩
    case neg =>
      have hjc : ¬ ((j : Int) < (l.length : Int)) := by omega
      obtain rfl : j = l.length := by omega
      rw [List.take_length] at HR1
      have HLe : Hid ((putAll l).length ≤ 60) := Lib.hid (by have := putAll_le l; omega)
      generalize putAll l = S1 at *
      have HX := Lib.hid (HR1.out.drop key HK.out (Nat.le_trans HLe.out (by decide)))
      go_wp2_with fail
      refine HX.out.mono ?_; rintro en w5 ⟨rfl, h5, -⟩
      have HL2 : Hid ((dropD key S1).length ≤ 60) := Lib.hid (Nat.le_trans (dropD_le _ _) HLe.out)
      have HDD := Lib.hid (drop_drop key S1)
      generalize dropD key S1 = S2 at *
      have HAl := Lib.hid (h5.all (Nat.le_trans HL2.out (by decide)))
      have H5 := Lib.hid h5
      clear h5 HX HR1
      go_wp2_with fail
      refine HAl.out.mono ?_; rintro en w6 ⟨v6, rfl, hR6⟩
      obtain ⟨ra, rc, rfl, -, -, hI6⟩ := hR6.slice
      have h6 := H5.out.swap hR6.bel hI6 (fun g i hg e => hR6.at_ge hg e)
      have HUp := Lib.hid h6.up
      have y0 := cell_bel4 (h6.below) HC.out.1
      have HP1 := Lib.hid (h6.put key HK.out t0 (Nat.le_trans HL2.out (by decide)))
      have HB6 := Lib.hid h6.below
      clear h6 hR6 hI6 H5 HAl
      cases hb0 : badT t0 with
      | true =>
        rw [show errT t0 = 111 by unfold errT; rw [if_pos hb0]] at HP1
        go_wp2_with fail
        refine HP1.out.mono ?_; rintro en w7 ⟨rfl, h7, -⟩
        have HB7 := Lib.hid (HB2.out.trans (h7.below.mono HB2.out.size))
        clear h7 HP1
        go_wp2_with fail
        go_ret
        exact ⟨rfl, HB7.out⟩
      | false =>
        rw [show errT t0 = 0 by unfold errT; rw [if_neg (by rw [hb0]; decide)]] at HP1
        have HL3 : Hid ((putT key t0 S2).length ≤ 61) := Lib.hid (by have := putT_le key t0 S2; have := HL2.out; omega)
        have HD3 := Lib.hid (drop_put (k := key) (t := t0) HUp.out)
        generalize putT key t0 S2 = S3 at *
        go_wp2_with fail
        refine HP1.out.mono ?_; rintro en w7 ⟨rfl, h7, -⟩
        have y1 := cell_bel4 (h7.below) HC.out.2
        have HUp3 := Lib.hid h7.up
        have HP2 := Lib.hid (h7.put key HK.out t1 (Nat.le_trans HL3.out (by decide)))
        clear h7 HP1 y0
        cases hb1 : badT t1 with
        | true =>
          rw [show errT t1 = 111 by unfold errT; rw [if_pos hb1]] at HP2
          go_wp2_with fail
          refine HP2.out.mono ?_; rintro en w8 ⟨rfl, h8, -⟩
          have HB8 := Lib.hid (HB2.out.trans (h8.below.mono HB2.out.size))
          clear h8 HP2
          go_wp2_with fail
          go_ret
          exact ⟨rfl, HB8.out⟩
        | false =>
          rw [show errT t1 = 0 by unfold errT; rw [if_neg (by rw [hb1]; decide)]] at HP2
          have HL4 : Hid ((putT key t1 S3).length ≤ 62) := Lib.hid (by have := putT_le key t1 S3; have := HL3.out; omega)
          have HD4 := Lib.hid (drop_put (k := key) (t := t1) HUp3.out)
          have HM4 : Hid ((t1, key) ∈ putT key t1 S3) := Lib.hid (by unfold putT; rw [if_neg (by rw [hb1]; decide)]; exact mem_putD.2 (.inl rfl))
          generalize putT key t1 S3 = S4 at *
          go_wp2_with fail
          refine HP2.out.mono ?_; rintro en w8 ⟨rfl, h8, -⟩
          have HGt := Lib.hid (h8.get key HK.out)
          have hkey := h8.keys
          rw [getD_one hkey HM4.out, inD_iff.2 (List.mem_map.2 ⟨_, HM4.out, rfl⟩)] at HGt
          have HCnt := Lib.hid (cnt_one hkey (List.mem_map.2 ⟨_, HM4.out, rfl⟩))
          have HAl := Lib.hid (h8.all (Nat.le_trans HL4.out (by decide)))
          have H8 := Lib.hid h8
          clear h8 HP2 hkey y1
          go_wp2_with fail
          refine HGt.out.mono ?_; rintro en w9 ⟨rfl, rfl⟩
          go_wp2_with fail
          refine HAl.out.mono ?_; rintro en w10 ⟨v10, rfl, hR10⟩
          obtain ⟨qa, qc, rfl, -, -, hI10⟩ := hR10.slice
          have H10 := Lib.hid (H8.out.bel hR10.bel)
          have HI10 := Lib.hid hI10
          have hl4 := HL4.out
          clear hR10 hI10 HAl HGt H8
          go_wp2_with fail
          go_loopg [13, 64] (S4.length + 1) (fun g vm vi wr => ∃ j : Nat, vi = .int .i64 j ∧ vm = .int .i64 (cntD key (S4.take j)) ∧ j ≤ S4.length ∧ S4.length - j ≤ g ∧ Hid (Below w10.heap.size w10 wr))
          case atStart => exact ⟨0, rfl, rfl, Nat.zero_le _, by omega, Lib.hid (Below.refl _ _)⟩
          case round =>
            obtain ⟨j, rfl, rfl, hj, hg2, HBr⟩ := hrel
            by_cases hjl : j < S4.length
            case pos =>
              have hjc : (j : Int) < (S4.length : Int) := by omega
              obtain ⟨b, o, rfl, -, hat⟩ := HI10.out.below (Nat.le_refl _) HBr.out (by omega)
              obtain ⟨e0, e1⟩ := hat j hjl
              have HCt := Lib.hid (cnt_take (k := key) hjl)
              have hcl : cntD key (S4.take j) ≤ 62 := Nat.le_trans (List.length_filter_le _ _) (by rw [List.length_take]; omega)
              clear hat
              generalize S4[j].1 = z at *
              generalize S4[j].2 = q at *
              have HB9 := Lib.hid (bstep HBr.out (bbox (w := wr) (.cells #[.int .i64 z, .string q] 26)))
              generalize hcn : cntD key (S4.take (j + 1)) = C1 at *
              have HC1 := Lib.hid hcn
              generalize cntD key (S4.take j) = C0 at *
              clear hcn
              by_cases hq : q = key
              case pos =>
                have hqe := beq_eq hq
                have HZ : Hid ((C1 : Int) = (C0 : Int) + 1) := Lib.hid (by rw [HCt.out, if_pos hq]; rfl)
                clear hq HCt
                go_wp2_with fail
                go_roundg (gk - 1)
                case measure => omega
                case rel => exact ⟨j + 1, by go_num, by rw [HC1.out, HZ.out], by omega, by omega, HB9⟩
              case neg =>
                have hqe := beq_ne hq
                have HZ : Hid (C1 = C0) := Lib.hid (by rw [HCt.out, if_neg hq]; rfl)
                clear hq HCt
                go_wp2_with fail
                go_roundg (gk - 1)
                case measure => omega
                case rel => exact ⟨j + 1, by go_num, by rw [HC1.out, HZ.out], by omega, by omega, HB9⟩
            case neg =>
              have hjc : ¬ ((j : Int) < (S4.length : Int)) := by omega
              obtain rfl : j = S4.length := by omega
              rw [List.take_length, HCnt.out]
              have h11 := H10.out.bel HBr.out
              have HD1 := Lib.hid (h11.due (Nat.le_trans HL4.out (by decide)) t0 1000 (by decide) (by decide))
              have HDl : Hid (((dueD t0 (1000 : Int).toNat S4).map (·.2)).length ≤ 1000000) := Lib.hid (by
                rw [List.length_map]
                exact Nat.le_trans (Nat.le_trans (List.length_take_le' _ _) (List.length_filter_le _ _)) (Nat.le_trans HL4.out (by decide)))
              have y0 := cell_bel4 (h11.below) HC.out.1
              have H11 := Lib.hid h11
              have HE5 : Hid (dropD key S4 = S2) := Lib.hid (by rw [HD4.out, HD3.out, HDD.out])
              clear h11 HBr H10 HI10
              go_wp2_with fail
              refine HD1.out.mono ?_; rintro en w12 ⟨v12, rfl, hR12⟩
              have h12 := H11.out.bel hR12.bel
              have HD2 := Lib.hid (h12.due (Nat.le_trans HL4.out (by decide)) t0 1000 (by decide) (by decide))
              have y0 := cell_bel4 (h12.below) HC.out.1
              obtain ⟨a12, c12, rfl, -, -, hI12, -⟩ := hR12.slice
              have H12 := Lib.hid h12
              have HI12 := Lib.hid hI12
              clear h12 hR12 hI12 HD1 H11
              generalize (dueD t0 (1000 : Int).toNat S4).map (·.2) = Q at *
              go_wp2_with fail
              refine HD2.out.mono ?_; rintro en w13 ⟨v13, rfl, hR13⟩
              have h13 := H12.out.bel hR13.bel
              obtain ⟨a13, c13, rfl, -, -, hI13, -⟩ := hR13.slice
              have HSm := Lib.hid (same_calls w13 a12 a13 c12 c13 Q HDl.out (HI12.out.below hR13.bel) hI13)
              have H13 := Lib.hid h13
              clear h13 hR13 hI13 HD2 H12 HI12
              go_wp2_with fail
              refine HSm.out.mono ?_; rintro en w14 ⟨rfl, hb14⟩
              have h14 := H13.out.bel hb14
              have y1 := cell_bel4 (h14.below) HC.out.2
              have HDr := Lib.hid (h14.drop key HK.out (Nat.le_trans HL4.out (by decide)))
              rw [HE5.out] at HDr
              clear h14 hb14 HSm H13 y0
              go_wp2_with fail
              refine HDr.out.mono ?_; rintro en w15 ⟨rfl, h15, -⟩
              have HAl := Lib.hid (h15.all (Nat.le_trans HL2.out (by decide)))
              have H15 := Lib.hid h15
              clear h15 HDr y1
              go_wp2_with fail
              refine HAl.out.mono ?_; rintro en w16 ⟨v16, rfl, hR16⟩
              have h16 := H15.out.bel hR16.bel
              obtain ⟨a16, c16, rfl, -, -, hI16⟩ := hR16.slice
              have HSm := Lib.hid (sameD_calls w16 a16 ra c16 rc S2 (Nat.le_trans HL2.out (by decide)) hI16 h16.list)
              have HB16 := Lib.hid (HB2.out.trans (h16.below.mono HB2.out.size))
              clear h16 hR16 hI16 HAl H15
              go_wp2_with fail
              refine HSm.out.mono ?_; rintro en w17 ⟨rfl, hb17⟩
              have HB17 := Lib.hid (bstep HB16.out hb17)
              clear hb17 HSm
              go_wp2_with fail
              go_ret
              exact ⟨rfl, HB17.out⟩
end Go.Proofs.Ytabhnnffohnecaa.Ea
