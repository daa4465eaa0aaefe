/- PrefixOrders. No condition but that each key lies within the reach. -/
import Derived.Test.YtnmncjeplfkdpaaQu1
namespace Go.Proofs.Ytnmncjeplfkdpaa.Qa
set_option linter.unusedVariables false
set_option linter.unusedSimpArgs false
open Go.ChangeShapes Go.WideShapes Go.ChangeAt Go.RowKit
open Ka
open Sp (Th Hp Stays All Ro roT cellsT rowT exT puT star)
open Pb (TxE dat)
/-- The pairs of the acts that f picks. -/
def Of (L : List Ac) (f : Nat → Prop) (P : Pl) : Prop := ∀ p, p ∈ P ↔ ∃ j, f j ∧ ∃ h : j < L.length, (L[j].k, L[j].n) = p
theorem Of.nil {L : List Ac} {f : Nat → Prop} (hf : ∀ j, ¬ f j) : Of L f [] := fun p => ⟨fun h => (nomatch h), fun ⟨j, h, _⟩ => absurd h (hf j)⟩
theorem Of.add {L : List Ac} {f g : Nat → Prop} {P : Pl} (h : Of L f P) {i : Nat} (hi : i < L.length) (hg : ∀ j, g j ↔ f j ∨ j = i) : Of L g (addP L[i].k L[i].n P) := fun p => by
  rw [mem_addP, h]
  constructor
  · rintro (⟨j, hj, hl, e⟩ | e)
    · exact ⟨j, (hg j).2 (.inl hj), hl, e⟩
    · exact ⟨i, (hg i).2 (.inr rfl), hi, e.symm⟩
  · rintro ⟨j, hj, hl, e⟩
    rcases (hg j).1 hj with hj | rfl
    · exact .inl ⟨j, hj, hl, e⟩
    · exact .inr e.symm
theorem Of.same {L : List Ac} {f g : Nat → Prop} {P Q : Pl} (h : Of L f P) (k : Of L g Q) (hfg : ∀ j, j < L.length → (f j ↔ g j)) (p : ByteArray × Int) : p ∈ P ↔ p ∈ Q := by
  rw [h, k]
  exact ⟨fun ⟨j, hj, hl, e⟩ => ⟨j, (hfg j hl).1 hj, hl, e⟩, fun ⟨j, hj, hl, e⟩ => ⟨j, (hfg j hl).2 hj, hl, e⟩⟩
theorem mat_ext {P Q : Pl} (h : ∀ p, p ∈ P ↔ p ∈ Q) (key : ByteArray) : matP key Q = matP key P := up_ext (mat_up _ _) (mat_up _ _) fun n => by
  rw [mat_mem, mat_mem]
  exact ⟨fun ⟨k, h1, h2⟩ => ⟨k, (h _).2 h1, h2⟩, fun ⟨k, h1, h2⟩ => ⟨k, (h _).1 h1, h2⟩⟩
theorem mat_sub {P : Pl} {key more : ByteArray} {n : Int} (h : n ∈ matP key P) : n ∈ matP (key ++ more) P := by
  obtain ⟨k, h1, h2⟩ := (mat_mem _ _ _).1 h
  refine (mat_mem _ _ _).2 ⟨k, h1, ?_⟩
  rw [ByteArray.data_append, Array.toList_append]
  exact h2.trans (List.prefix_append _ _)
theorem pref_keys {o w : World} {l : List Th} {T N : Nat} {P : Pl} (h : Hp o w (prefT T P N :: l)) : ∃ K : List ByteArray, K.Nodup ∧ ∀ k, k ∈ K ↔ ∃ n, (k, n) ∈ P := by
  obtain ⟨A, M, Mo, S, F, hR, -, -⟩ := pref_open h
  exact ⟨keysL S, hR.ok.nd, mem_keys_fst hR⟩
set_option maxHeartbeats 64000000 in
set_option maxRecDepth 100000 in
theorem prefixOrders (xa : Option Addr) (xc : Nat) (L : List Ac) (key more : ByteArray) (w : World) (hI : InA w xa L) (hS : ∀ i (h : i < L.length), okAc L[i]) (hZ : ∀ i (h : i < L.length), L[i].k.size ≤ 140737488351232) :
    Calls Try.prog 5 #[.slice xa L.length xc, .string key, .string more] w fun e w' => e = .returned (.bool true) ∧ Below w.heap.size w w' := by
  have HI := Lib.hid hI
  have HSZ := Lib.hid hS
  have HZ := Lib.hid hZ
  clear hI hS hZ
  have HA := Lib.hid (prefixAlive w)
  go_enter Try.func5, Try.ntmps5
  go_wp2_with fail
  refine HA.out.mono ?_; rintro en w2 ⟨rfl, hb2⟩
  have HB2 := Lib.hid hb2
  clear hb2 HA
  by_cases hl : 40 < L.length
  · have hlc : (40 : Int) < (L.length : Int) := by omega
    go_wp2_with fail
    go_ret
    exact ⟨rfl, HB2.out⟩
  have hlc : ¬ (40 : Int) < (L.length : Int) := by omega
  by_cases hs : 100 < key.size
  · have hsc : (100 : Int) < (key.size : Int) := by omega
    go_wp2_with fail
    go_ret
    exact ⟨rfl, HB2.out⟩
  have hsc : ¬ (100 : Int) < (key.size : Int) := by omega
  by_cases hs2 : 100 < more.size
  · have hsd : (100 : Int) < (more.size : Int) := by omega
    go_wp2_with fail
    go_ret
    exact ⟨rfl, HB2.out⟩
  have hsd : ¬ (100 : Int) < (more.size : Int) := by omega
  have hks : key.size ≤ 100 := by omega
  have hms : more.size ≤ 100 := by omega
  have HN := Lib.hid (pnew_calls (Hp.nil HB2.out) (Below.refl _ _))
  unfold ptr at HN
  go_wp2_with fail
  refine HN.out.mono ?_; rintro en w3 ⟨T, rfl, h3⟩
  have HM := Lib.hid (pnew_calls h3 (Below.refl _ _))
  unfold ptr at HM
  clear h3 HN
  go_wp2_with fail
  refine HM.out.mono ?_; rintro en w4 ⟨U, rfl, h4⟩
  have H4 : Hid (Hp w w4 [prefT T [] 0, prefT U [] 0]) := Lib.hid h4.swap
  clear h4 HM
  go_wp2_with fail
  go_loopg [37] (L.length + 1) (fun g vi wr => ∃ (i : Nat) (P Q : Pl), vi = .int .i64 i ∧ i ≤ L.length ∧ L.length - i ≤ g ∧ Hid (P.length ≤ i ∧ Q.length ≤ i) ∧ Hid (Of L (fun j => j < i) P) ∧ Hid (Of L (fun j => L.length - i ≤ j) Q) ∧ Hid (Hp w wr [prefT T P i, prefT U Q i]))
  case atStart => exact ⟨0, [], [], rfl, by omega, by omega, Lib.hid ⟨Nat.le_refl _, Nat.le_refl _⟩, Lib.hid (Of.nil fun j h => absurd h (Nat.not_lt_zero _)), Lib.hid (fun p => ⟨fun h => (nomatch h), fun ⟨j, h1, h2, _⟩ => absurd h2 (by omega)⟩), H4⟩
  case round =>
    obtain ⟨i, P, Q, rfl, hi, hg, HPl, HOp, HOq, HH⟩ := hrel
    clear H4
    by_cases hil : i < L.length
    case pos =>
      have hic : (i : Int) < (L.length : Int) := by omega
      obtain ⟨n1, hn1⟩ : ∃ n1, L.length = n1 + 1 := ⟨L.length - 1, by omega⟩
      obtain ⟨j1, hj1⟩ : ∃ j1, j1 + i = n1 := ⟨n1 - i, by omega⟩
      have hjl : j1 < L.length := by omega
      have hw1 : IntKind.i64.wrap ((L.length : Int) - 1) = (n1 : Int) := by rw [IntKind.wrap_i64]; omega
      have hw2 : IntKind.i64.wrap ((n1 : Int) - (i : Int)) = (j1 : Int) := by rw [IntKind.wrap_i64]; omega
      have hjc : (j1 : Int) < (L.length : Int) := by omega
      obtain ⟨b, o, rfl, hlt, hcs⟩ := HI.out (by omega)
      obtain ⟨c0, c1, c2⟩ := hcs i hil
      obtain ⟨d0, d1, d2⟩ := hcs j1 hjl
      have e : ∀ j, wr.cell? ⟨b, j, none⟩ = w.cell? ⟨b, j, none⟩ := fun j => HH.out.below.cell (p := ⟨b, j, none⟩) hlt
      obtain ⟨-, hn⟩ := HSZ.out i hil
      obtain ⟨-, hm⟩ := HSZ.out j1 hjl
      have HN1 := Lib.hid hn
      have HM1 := Lib.hid hm
      have HZ1 := Lib.hid (HZ.out j1 hjl)
      have HOp2 : Hid (Of L (fun j => j < i + 1) (addP L[i].k L[i].n P)) := Lib.hid (HOp.out.add hil fun j => by omega)
      have HOq2 : Hid (Of L (fun j => L.length - (i + 1) ≤ j) (addP L[j1].k L[j1].n Q)) := Lib.hid (HOq.out.add hjl fun j => by omega)
      have HCw : Hid (∀ W, Below w.heap.size w W → ∀ j, W.cell? ⟨b, j, none⟩ = w.cell? ⟨b, j, none⟩) := Lib.hid (fun W hW j => hW.cell (p := ⟨b, j, none⟩) hlt)
      have hcc0 := c1
      have hcc1 := c2
      rw [← e] at c0 c1 c2 d0 d1 d2
      have HCi : Hid (w.cell? ⟨b, o + i * 3 + 1, none⟩ = some (.int .i64 L[i].n) ∧ w.cell? ⟨b, o + i * 3 + 2, none⟩ = some (.string L[i].k)) := Lib.hid ⟨hcc0, hcc1⟩
      clear hcs hlt e hn hm HOp HOq hcc0 hcc1 hn1 hj1
      generalize L[i] = q at *
      obtain ⟨kd, n, k⟩ := q
      generalize L[j1] = q2 at *
      obtain ⟨kd2, n2, k2⟩ := q2
      simp only at c0 c1 c2 d0 d1 d2 HN1 HM1 HZ1 HOp2 HOq2 HCi
      have HX : Hid (Hp w (wr.alloc (.cells #[.int .i64 kd2, .int .i64 n2, .string k2] 28)) [cellsT wr.heap.size [.int .i64 kd2, .int .i64 n2, .string k2], prefT T P i, prefT U Q i]) := Lib.hid (HH.out.cellsNew [.int .i64 kd2, .int .i64 n2, .string k2] 28)
      go_upto_region 10 with fail
      generalize wr.alloc (.cells #[.int .i64 kd2, .int .i64 n2, .string k2] 28) = W0 at *
      generalize wr.heap.size = BX at *
      clear c0 c1 c2 d0 d1 d2 HH hw1 hw2
      have x1 : W0.cell? ⟨b, o + i * 3 + 1, none⟩ = some (.int .i64 n) := (HCw.out _ HX.out.below _).trans HCi.out.1
      have x2 : W0.cell? ⟨b, o + i * 3 + 2, none⟩ = some (.string k) := (HCw.out _ HX.out.below _).trans HCi.out.2
      by_cases hk : 100 < k.size
      · have hkc : (100 : Int) < (k.size : Int) := by omega
        go_wp2_with fail
        go_ret
        exact ⟨rfl, HX.out.below⟩
      have hkc : ¬ (100 : Int) < (k.size : Int) := by omega
      have hk1 : k.size ≤ 100 := by omega
      go_wp2_with fail
      have HD : Hid (Hp w W0.drew [cellsT BX [.int .i64 kd2, .int .i64 n2, .string k2], prefT T P i, prefT U Q i]) := Lib.hid (HX.out.bel (Below.refl _ _).drew)
      have S1 : Hid (W0.drew.cell? ⟨b, o + i * 3 + 1, none⟩ = some (.int .i64 n) ∧ W0.drew.cell? ⟨b, o + i * 3 + 2, none⟩ = some (.string k)) := Lib.hid ⟨(HCw.out _ HD.out.below _).trans HCi.out.1, (HCw.out _ HD.out.below _).trans HCi.out.2⟩
      have HCa := Lib.hid (padd_calls (HD.out.pull 1 rfl) (Below.refl _ _) (k := k) (by omega) (by have := HPl.out.1; omega) (by omega) n HN1.out)
      have HPl2 : Hid ((addP k n P).length ≤ i + 1 ∧ (addP k2 n2 Q).length ≤ i + 1) := Lib.hid ⟨by have := addP_len k n P; have := HPl.out.1; omega, by have := addP_len k2 n2 Q; have := HPl.out.2; omega⟩
      have HCb : Hid (∀ W ll, Hp w W (prefT U Q i :: ll) → Calls Try.prog 9 #[.pointer (some ⟨U, 0, none⟩), .string k2, .int .i64 n2] W fun e w' => e = .returned (.bool (!decide ((k2, n2) ∈ Q))) ∧ Hp w w' (prefT U (addP k2 n2 Q) (i + 1) :: ll)) := Lib.hid (fun W ll hh => padd_calls hh (Below.refl _ _) HZ1.out (by have := HPl.out.2; omega) (by omega) n2 HM1.out)
      generalize addP k n P = P2 at *
      generalize addP k2 n2 Q = Q2 at *
      generalize (!decide ((k, n) ∈ P)) = ba at *
      generalize (!decide ((k2, n2) ∈ Q)) = bb at *
      unfold ptr at HCa
      clear HX x1 x2 HPl HN1 HM1 HZ1
      go_region_held3 (fun W : World => W.cell? ⟨b, o + i * 3 + 1, none⟩ = some (.int .i64 n) ∧ W.cell? ⟨b, o + i * 3 + 2, none⟩ = some (.string k))
        (first | exact S1.out | exact S2.out)
        (first
          | (go_at_call 9; (with_reducible refine HCa.out.mono ?_); rintro en5 w5 ⟨rfl, h5⟩; have S2 : Hid (w5.cell? ⟨b, o + i * 3 + 1, none⟩ = some (.int .i64 n) ∧ w5.cell? ⟨b, o + i * 3 + 2, none⟩ = some (.string k)) := Lib.hid ⟨(HCw.out _ h5.below _).trans HCi.out.1, (HCw.out _ h5.below _).trans HCi.out.2⟩; have H5 := Lib.hid h5; clear h5))
      all_goals (
        have H5 : Hid (Hp w w5 [prefT T P2 (i + 1), cellsT BX [.int .i64 kd2, .int .i64 n2, .string k2], prefT U Q i]) := H5
        clear S1 S2 HCa HD
        have y1 := (H5.out.pull 1 rfl).cell 1 rfl
        have y2 := (H5.out.pull 1 rfl).cell 2 rfl
        have HC5 := Lib.hid (HCb.out _ _ (H5.out.pull 2 rfl))
        go_wp2_with fail
        refine HC5.out.mono ?_; rintro en w6 ⟨rfl, h6⟩
        have H6 : Hid (Hp w w6 [prefT T P2 (i + 1), prefT U Q2 (i + 1)]) := Lib.hid (hp_take h6 [1, 0] 2 rfl)
        clear h6 HC5 HCb H5 y1 y2
        go_wp2_with fail
        go_roundg (gk - 1)
        case measure => omega
        case rel => exact ⟨i + 1, P2, Q2, by go_num, by omega, by omega, HPl2, HOp2, HOq2, H6⟩)
    case neg =>
      have hic : ¬ ((i : Int) < (L.length : Int)) := by omega
      obtain rfl : i = L.length := by omega
      have hsame : ∀ p, p ∈ P ↔ p ∈ Q := HOp.out.same HOq.out fun j hj => by omega
      have hPl := HPl.out
      have hP40 : P.length ≤ 40 := by omega
      have hQ40 : Q.length ≤ 40 := by omega
      have hkm : (key ++ more).size ≤ 140737488351232 := by rw [ByteArray.size_append]; omega
      have hcs : key.size + more.size ≤ 9223372036854775807 := by omega
      have hcs2 : ¬ 9223372036854775807 < key.size + more.size := by omega
      have HDl : Hid ((matP key P).length ≤ 40 ∧ (matP (key ++ more) P).length ≤ 40) := Lib.hid ⟨by have := mat_len key P; omega, by have := mat_len (key ++ more) P; omega⟩
      have HSub : Hid (∀ n, n ∈ matP key P → n ∈ matP (key ++ more) P) := Lib.hid (fun n hn => mat_sub hn)
      have HM1 := Lib.hid (pmatch_calls HH.out (Below.refl _ _) (by omega) key (by omega))
      have HM2 : Hid (∀ W ll, Hp w W (prefT T P L.length :: ll) → Calls Try.prog 17 #[.pointer (some ⟨T, 0, none⟩), .string (key ++ more)] W fun e w' => ∃ v, e = .returned v ∧ Hp w w' (rowI v (matP (key ++ more) P) :: prefT T P L.length :: ll)) := Lib.hid (fun W ll hh => pmatch_calls hh (Below.refl _ _) (by omega) (key ++ more) hkm)
      have HM3 : Hid (∀ W ll, Hp w W (prefT U Q L.length :: ll) → Calls Try.prog 17 #[.pointer (some ⟨U, 0, none⟩), .string key] W fun e w' => ∃ v, e = .returned v ∧ Hp w w' (rowI v (matP key P) :: prefT U Q L.length :: ll)) := Lib.hid (fun W ll hh => by
        have := pmatch_calls hh (Below.refl _ _) (by omega) key (by omega)
        rw [mat_ext hsame] at this
        exact this)
      have HM4 : Hid (∀ W ll, Hp w W (prefT U Q L.length :: ll) → Calls Try.prog 17 #[.pointer (some ⟨U, 0, none⟩), .string (key ++ more)] W fun e w' => ∃ v, e = .returned v ∧ Hp w w' (rowI v (matP (key ++ more) P) :: prefT U Q L.length :: ll)) := Lib.hid (fun W ll hh => by
        have := pmatch_calls hh (Below.refl _ _) (by omega) (key ++ more) hkm
        rw [mat_ext hsame] at this
        exact this)
      obtain ⟨K, hK1, hK2⟩ := pref_keys HH.out
      have HL1 : Hid (∀ W ll, Hp w W (prefT T P L.length :: ll) → Calls Try.prog 13 #[.pointer (some ⟨T, 0, none⟩)] W fun e w' => e = .returned (.int .i64 K.length) ∧ W = w') := Lib.hid (fun W ll hh => plen_calls hh (Below.refl _ _) hK1 hK2)
      have HL2 : Hid (∀ W ll, Hp w W (prefT U Q L.length :: ll) → Calls Try.prog 13 #[.pointer (some ⟨U, 0, none⟩)] W fun e w' => e = .returned (.int .i64 K.length) ∧ W = w') := Lib.hid (fun W ll hh => plen_calls hh (Below.refl _ _) hK1 fun k => by rw [hK2]; exact ⟨fun ⟨n, hn⟩ => ⟨n, (hsame _).1 hn⟩, fun ⟨n, hn⟩ => ⟨n, (hsame _).2 hn⟩⟩)
      have HNo : Hid (∀ W ll, Hp w W (prefT T P L.length :: prefT U Q L.length :: ll) → ∃ m : Nat, (Calls Try.prog 14 #[.pointer (some ⟨T, 0, none⟩)] W fun e w' => e = .returned (.int .i64 m) ∧ W = w') ∧ (Calls Try.prog 14 #[.pointer (some ⟨U, 0, none⟩)] W fun e w' => e = .returned (.int .i64 m) ∧ W = w')) := Lib.hid (fun W ll hh => by
        obtain ⟨X, hX, h1⟩ := pnodes_calls hh (Below.refl _ _)
        obtain ⟨Y, hY, h2⟩ := pnodes_calls (hh.pull 1 rfl) (Below.refl _ _)
        have hlen := hX.len hY (dat_mem fun k => by
          rw [List.mem_map, List.mem_map]
          exact ⟨fun ⟨p, hp, e⟩ => ⟨p, (hsame p).1 hp, e⟩, fun ⟨p, hp, e⟩ => ⟨p, (hsame p).2 hp, e⟩⟩)
        rw [← hlen] at h2
        exact ⟨X.length, h1, h2⟩)
      clear hK1 hK2 hsame HOp HOq HPl hPl hkm hil hic hi hg
      generalize matP key P = D1 at *
      generalize matP (key ++ more) P = D2 at *
      unfold ptr at HM1
      go_wp2_with fail
      refine HM1.out.mono ?_; rintro en w5 ⟨v5, rfl, h5⟩
      obtain ⟨a5, c5, rfl, -, -⟩ := rowI_slice h5
      have HM2 := Lib.hid (HM2.out _ _ (h5.pull 1 rfl))
      clear h5 HM1 HH
      go_wp2_with fail
      refine HM2.out.mono ?_; rintro en w6 ⟨v6, rfl, h6⟩
      obtain ⟨a6, c6, rfl, -, -⟩ := rowI_slice h6
      have H6 : Hid (Hp w w6 [rowI (.slice a6 D2.length c6) D2, prefT T P L.length, rowI (.slice a5 D1.length c5) D1, prefT U Q L.length]) := Lib.hid h6
      have HI6 := Lib.hid (rowI_atI h6)
      have HI5 := Lib.hid (rowI_atI (H6.out.pull 2 rfl))
      clear h6 HM2
      have hd1 := HDl.out.1
      have hd2 := HDl.out.2
      go_wp2_with fail
      go_loopg [84] (D1.length + 1) (fun g vi wr => ∃ (j : Nat), vi = .int .i64 j ∧ j ≤ D1.length ∧ D1.length - j ≤ g ∧ wr = w6)
      case atStart => exact ⟨0, rfl, by omega, by omega, rfl⟩
      case round =>
        obtain ⟨j, rfl, hj, hg, rfl⟩ := hrel
        obtain ⟨gO, hgO⟩ : ∃ g, gk = g := ⟨_, rfl⟩
        by_cases hjl : j < D1.length
        case pos =>
          have hjc : (j : Int) < (D1.length : Int) := by omega
          obtain ⟨g5, rfl, hc5⟩ := HI5.out (by omega)
          have e0 := hc5 j hjl
          have HIn : Hid (D1.getD j 0 ∈ D2) := Lib.hid (HSub.out _ (by
            have e2 : D1.getD j 0 = D1[j] := by simp [List.getD, hjl]
            rw [e2]; exact List.getElem_mem hjl))
          clear hc5
          generalize D1.getD j 0 = n at *
          go_wp2_with fail
          go_loopg [15, 90] (D2.length + 1) (fun g v15 vi wz => ∃ (m : Nat) (tb : Bool), vi = .int .i64 m ∧ m ≤ D2.length ∧ D2.length - m ≤ g ∧ v15 = .bool tb ∧ Hid (tb = decide (n ∈ D2.take m)) ∧ wz = wr)
          case atStart => exact ⟨0, false, rfl, by omega, by omega, rfl, Lib.hid (by simp), rfl⟩
          case round =>
            obtain ⟨m, tb, rfl, hm, hg2, rfl, HTb, rfl⟩ := hrel
            by_cases hml : m < D2.length
            case pos =>
              have hmc : (m : Int) < (D2.length : Int) := by omega
              obtain ⟨g6, rfl, hc6⟩ := HI6.out (by omega)
              have f0 := hc6 m hml
              have HT := Lib.hid (take_dec (n := n) hml)
              rw [← HTb.out] at HT
              clear hc6
              generalize D2.getD m 0 = x at *
              obtain ⟨xb, hxb⟩ : ∃ xb, (x == n) = xb := ⟨_, rfl⟩
              rw [hxb] at HT
              cases tb
              case true =>
                go_wp2_with fail
                go_roundg (gk - 1)
                case measure => omega
                case rel => exact ⟨m + 1, true, by go_num, by omega, by omega, rfl, Lib.hid (by rw [HT.out]; rfl), rfl⟩
              case false =>
                go_wp2_with fail
                go_roundg (gk - 1)
                case measure => omega
                case rel => exact ⟨m + 1, xb, by go_num, by omega, by omega, rfl, Lib.hid (by rw [HT.out]; rfl), rfl⟩
            case neg =>
              have hmc : ¬ (m : Int) < (D2.length : Int) := by omega
              obtain rfl : m = D2.length := by omega
              rw [List.take_length] at HTb
              obtain rfl : tb = true := by rw [HTb.out]; exact decide_eq_true HIn.out
              clear HTb HIn
              go_wp2_with fail
              go_roundg (gO - 1)
              case measure => omega
              case rel => exact ⟨j + 1, by go_num, by omega, by omega, rfl⟩
        case neg =>
          have hjc : ¬ (j : Int) < (D1.length : Int) := by omega
          have HC3 := Lib.hid (HM3.out _ _ (H6.out.pull 3 rfl))
          clear HSub
          go_wp2_with fail
          refine HC3.out.mono ?_; rintro en w7 ⟨v7, rfl, h7⟩
          obtain ⟨a7, c7, rfl, -, -⟩ := rowI_slice h7
          have h7 : Hp w w7 [rowI (.slice a7 D1.length c7) D1, prefT U Q L.length, rowI (.slice a6 D2.length c6) D2, prefT T P L.length, rowI (.slice a5 D1.length c5) D1] := h7
          have HS1 := Lib.hid (sameI_calls w7 a5 a7 c5 c7 D1 (by omega) (rowI_atI (h7.pull 4 rfl)) (rowI_atI h7))
          have H7 := Lib.hid h7
          clear h7 HC3 H6 HI5 HI6
          go_wp2_with fail
          refine HS1.out.mono ?_; rintro en w8 ⟨rfl, hb8⟩
          have h8 := H7.out.bel hb8
          have HC4 := Lib.hid (HM4.out _ _ (h8.pull 1 rfl))
          clear h8 hb8 H7 HS1
          go_wp2_with fail
          refine HC4.out.mono ?_; rintro en w9 ⟨v9, rfl, h9⟩
          obtain ⟨a9, c9, rfl, -, -⟩ := rowI_slice h9
          have h9 : Hp w w9 [rowI (.slice a9 D2.length c9) D2, prefT U Q L.length, rowI (.slice a7 D1.length c7) D1, rowI (.slice a6 D2.length c6) D2, prefT T P L.length, rowI (.slice a5 D1.length c5) D1] := h9
          have HS2 := Lib.hid (sameI_calls w9 a6 a9 c6 c9 D2 (by omega) (rowI_atI (h9.pull 3 rfl)) (rowI_atI h9))
          have H9 := Lib.hid h9
          clear h9 HC4
          go_wp2_with fail
          refine HS2.out.mono ?_; rintro en w10 ⟨rfl, hb10⟩
          have h10 := H9.out.bel hb10
          have h10 : Hp w w10 [rowI (.slice a9 D2.length c9) D2, prefT U Q L.length, rowI (.slice a7 D1.length c7) D1, rowI (.slice a6 D2.length c6) D2, prefT T P L.length, rowI (.slice a5 D1.length c5) D1] := h10
          have HLa := Lib.hid (HL1.out _ _ (h10.pull 4 rfl))
          have HLb := Lib.hid (HL2.out _ _ (h10.pull 1 rfl))
          obtain ⟨m, hNa, hNb⟩ := HNo.out _ _ (h10.sel [4, 1] rfl)
          have HNa := Lib.hid hNa
          have HNb := Lib.hid hNb
          have HB := Lib.hid h10.below
          clear h10 hb10 H9 HS2 hNa hNb HL1 HL2 HNo HM3 HM4
          go_wp2_with fail
          refine HLa.out.mono ?_; rintro en w11 ⟨rfl, rfl⟩
          go_wp2_with fail
          refine HLb.out.mono ?_; rintro en w11 ⟨rfl, rfl⟩
          go_wp2_with fail
          refine HNa.out.mono ?_; rintro en w11 ⟨rfl, rfl⟩
          go_wp2_with fail
          refine HNb.out.mono ?_; rintro en w11 ⟨rfl, rfl⟩
          go_wp2_with fail
          go_ret
          exact ⟨rfl, HB.out⟩
end Go.Proofs.Ytnmncjeplfkdpaa.Qa
