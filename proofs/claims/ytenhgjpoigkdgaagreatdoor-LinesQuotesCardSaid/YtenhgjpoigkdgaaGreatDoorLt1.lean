/- The checking package's Quote, at any texts. No condition but bounds. -/
import Derived.Test.YtenhgjpoigkdgaaGreatDoorLr6
import Derived.Test.YtenhgjpoigkdgaaGreatDoorLq3
import Derived.Test.YtenhgjpoigkdgaaGreatDoorLc1
import Derived.Deep.Quiet
import Derived.Deep.DeepCutAuto
namespace Go.Proofs.YtenhgjpoigkdgaaGreatDoor.Ln
open Go.ChangeShapes Go.WideShapes Go.ChangeAt Go.RowKit
open Go.Proofs.YtenhgjpoigkdgaaGreatDoor.Lw
/-- A region that draws its order, walked once over a class of worlds that F names. -/
theorem wp_region_class {P : Program} {id : Nat} {Q : Exit → Act → World → Prop} {a : Act} {w : World} {l : List Oper} {T : Type} (F : T → World) (hm : P.follows .mixedOrders = true) (hB : Region.lexB .any l.toArray = true)
    (h0 : ∃ x, w.drew = F x) (h : wpQuiet P l.toArray (fun w' => ∃ x, w' = F x) (fun a' => ∀ w', (∃ x, w' = F x) → Q .normal a' w') l a) : (Code.region id l.toArray true).wp P Q a w :=
  wp_region_quiet (C := fun w' => ∃ x, w' = F x) hm hB h0 (by simpa using h)
def Over (w : World) : Type := { x : World // Below w.heap.size w x }
instance (w : World) : Nonempty (Over w) := ⟨⟨w, Below.refl _ _⟩⟩
theorem over (w : World) : ∃ F : Over w → World, (∀ x, Below w.heap.size w (F x)) ∧ (∃ x, w.drew = F x) ∧ (∀ x w', Below (F x).heap.size (F x) w' → ∃ y, w' = F y) ∧ (∀ x, F x = x.1) :=
  ⟨fun x => x.1, fun x => x.2, ⟨⟨w.drew, (Below.refl _ _).drew⟩, rfl⟩, fun x w' h => ⟨⟨w', x.2.trans (h.mono x.2.size)⟩, rfl⟩, fun _ => rfl⟩
theorem quiet_over {P : Program} {f : FuncId} {args : Array Value} {w : World} {F : Over w → World} (hF : ∀ x w', Below (F x).heap.size (F x) w' → ∃ y, w' = F y) {x : Over w} {v : Value}
    (h : Calls P f args (F x) fun e w' => e = .returned v ∧ Below (F x).heap.size (F x) w') : Calls P f args (F x) fun e w' => e = .returned v ∧ ∃ y, w' = F y :=
  h.mono fun _ _ ⟨he, hb⟩ => ⟨he, hF _ _ hb⟩
def hexC : ByteArray := ⟨#[48, 49, 50, 51, 52, 53, 54, 55, 56, 57, 97, 98, 99, 100, 101, 102]⟩
theorem hex_hi : ∀ n : Fin 16, (hexC.extract n.1 (n.1 + 1)).data.toList = [digC n.1] := by decide +kernel
theorem hex_at (n : Nat) (h : n < 16) : ∃ X : ByteArray, hexC.extract n (n + 1) = X ∧ X.size = 1 ∧ Hid (X.data.toList = [digC n]) := by
  have e := hex_hi ⟨n, h⟩
  exact ⟨_, rfl, by rw [← len_of, e]; rfl, Lib.hid e⟩
theorem flat_snoc (t : List UInt8) (k : Nat) (h : k < t.length) : (t.take (k + 1)).flatMap qByte = (t.take k).flatMap qByte ++ qByte t[k] := by
  rw [← List.take_append_getElem h, List.flatMap_append]
  simp
theorem all_snoc (p : UInt8 → Bool) (t : List UInt8) (k : Nat) (h : k < t.length) : (t.take (k + 1)).all p = ((t.take k).all p && p t[k]) := by
  rw [← List.take_append_getElem h, List.all_append]
  simp
theorem plainC_no {x : UInt8} (h : x.toNat ≤ 32 ∨ 127 ≤ x.toNat ∨ x = 34 ∨ x = 39 ∨ x = 92) : plainC x = false := by
  unfold plainC
  rcases h with h | h | rfl | rfl | rfl
  · rw [decide_eq_false (by omega)]; rfl
  · rw [decide_eq_false (by omega)]; rfl
  · rfl
  · rfl
  · rfl
theorem plainC_yes {x : UInt8} (h1 : 33 ≤ x.toNat) (h2 : x.toNat ≤ 126) (h3 : x ≠ 34) (h4 : x ≠ 39) (h5 : x ≠ 92) : plainC x = true := by
  unfold plainC
  rw [decide_eq_true (And.intro h1 h2)]
  simp [h3, h4, h5]
theorem qb_two {x : UInt8} (h : x = 34 ∨ x = 92) : qByte x = [92] ++ [x] := by unfold qByte; rw [if_pos h]; rfl
theorem qb_hex {x : UInt8} (h : x.toNat < 32 ∨ 126 < x.toNat) (h1 : x ≠ 34) (h2 : x ≠ 92) : qByte x = [92] ++ [120] ++ [digC (x.toNat / 16)] ++ [digC (x.toNat % 16)] := by
  unfold qByte; rw [if_neg (by simp [h1, h2]), if_pos h]; rfl
theorem qb_one {x : UInt8} (h : ¬ (x.toNat < 32 ∨ 126 < x.toNat)) (h1 : x ≠ 34) (h2 : x ≠ 92) : qByte x = [x] := by
  unfold qByte; rw [if_neg (by simp [h1, h2]), if_neg h]
theorem isPl_of {t : List UInt8} {j : Nat} {p0 p : Bool} (h0 : (!t.isEmpty && (decide (0 < j) || !(t.head? == some 42))) = p0) (h : (p0 && t.all plainC) = p) : isPl j t = p := by
  rw [← h, ← h0]
  unfold isPl
  cases t.isEmpty <;> cases t.all plainC <;> simp
set_option maxHeartbeats 16000000 in
set_option maxRecDepth 1000000 in
theorem rquote_calls (w : World) (a : Option Addr) (c : Nat) (ws : List (List UInt8)) (hn : ws.length ≤ 64) (hw : ∀ t ∈ ws, t.length ≤ 4096) (hnc : ws.length ≤ c) (hcm : c ≤ 9223372036854775807) (hI : InSo w a ws) :
    Calls Tryz.prog 15 #[.slice a ws.length c] w fun e w' => e = .returned (.string ⟨(quoteFrom 0 ws).toArray⟩) ∧ Below w.heap.size w w' := by
  have HE := Lib.hid (fun (w : World) (c : UInt8) (n : Int) (h : n = (c.toNat : Int)) => (by
    rw [h]
    refine (rone_calls w c).mono ?_
    rintro en w' ⟨rfl, hb⟩
    exact ⟨_, rfl, Lib.hid rfl, rfl, hb⟩ : Calls Tryz.prog 24 #[.int .u8 n] w fun e w' => ∃ T : ByteArray, e = .returned (.string T) ∧ Hid (T.data.toList = [c]) ∧ T.size = 1 ∧ Below w.heap.size w w'))
  have HW := Lib.hid hw
  have HI := Lib.hid hI
  clear hw hI
  go_enter Tryz.func15, Tryz.ntmps15
  go_wp2_with fail
  go_loopg [3, 4, 5, 6, 7, 8, 9, 12] 64 (fun g ov _ _ _ _ _ _ iv wr => ∃ (j : Nat) (O : ByteArray), iv = .int .i64 j ∧ j ≤ ws.length ∧ ws.length - j ≤ g ∧ ov = .string O ∧ O.size ≤ j * 16400 ∧ Hid (O.data.toList = quoteFrom 0 (ws.take j)) ∧ Hid (Below w.heap.size w wr))
  case atStart => exact ⟨0, ⟨#[]⟩, rfl, by omega, by omega, rfl, by decide, Lib.hid rfl, Lib.hid (Below.refl _ _)⟩
  case round =>
    obtain ⟨j, O, rfl, hj, hg, rfl, hO, HO, HB⟩ := hrel
    obtain ⟨go, hgo⟩ : ∃ go, go = gk := ⟨_, rfl⟩
    by_cases hjl : j < ws.length
    case neg =>
      obtain rfl : j = ws.length := by omega
      have HZ : Hid (O = ⟨(quoteFrom 0 ws).toArray⟩) := Lib.hid (text_ext (by rw [bytes_of, HO.out, List.take_length]))
      go_wp2_with fail
      go_ret
      exact ⟨by rw [HZ.out]; rfl, HB.out⟩
    case pos =>
      obtain ⟨g0, o0, rfl, hcells⟩ := HI.out (by omega)
      have hcell : wr.cell? ⟨g0, o0 + j, none⟩ = some (.string ⟨ws[j].toArray⟩) := (HB.out.cell (p := ⟨g0, o0 + j, none⟩) (World.block_lt_of_cell? w _ (hcells j hjl))).trans (hcells j hjl)
      have hjc : j < c := by omega
      have htl := HW.out ws[j] (List.getElem_mem _)
      have HQ : Hid (quoteFrom 0 (ws.take (j + 1)) = quoteFrom 0 (ws.take j) ++ ((if j = 0 then [] else [32]) ++ wordQ j ws[j])) := Lib.hid (by
        rw [← List.take_append_getElem hjl, quote_snoc]
        have hl : (ws.take j).length = j := by rw [List.length_take]; omega
        rw [Nat.zero_add, hl])
      obtain ⟨S, hS, hSs, HSd⟩ : ∃ S : ByteArray, (⟨ws[j].toArray⟩ : ByteArray) = S ∧ S.size = ws[j].length ∧ Hid (S.data.toList = ws[j]) := ⟨_, rfl, size_of _, Lib.hid (bytes_of _)⟩
      rw [hS] at hcell
      clear hcells hS
      generalize ws[j] = t at *
      obtain ⟨O1, hO1, HO1⟩ : ∃ O1 : ByteArray, (if j = 0 then O else O ++ ⟨#[32]⟩) = O1 ∧ Hid (O1.data.toList = quoteFrom 0 (ws.take j) ++ (if j = 0 then [] else [32])) := by
        refine ⟨_, rfl, Lib.hid ?_⟩
        split
        · rw [HO.out, List.append_nil]
        · rw [ByteArray.data_append, Array.toList_append, HO.out]
      have hO1s : O1.size ≤ j * 16400 + 1 := by
        rw [← hO1]
        split
        · omega
        · rw [ByteArray.size_append]; exact Nat.add_le_add_right hO 1
      obtain ⟨p0, HP0⟩ : ∃ p0 : Bool, Hid ((!t.isEmpty && (decide (0 < j) || !(t.head? == some 42))) = p0) := ⟨_, Lib.hid rfl⟩
      have HB2 := HB
      go_upto_if 18 with fail
      go_cut [3] (fun ov wc => ov = .string O1 ∧ wr = wc)
      case first =>
        by_cases hj0 : j = 0
        · have HX : Hid (O = O1) := Lib.hid (by rw [← hO1, if_pos hj0])
          have hj0i : ¬ (0 : Int) < (j : Int) := by omega
          clear hj0 hO1
          go_wp2_with fail
          go_meet
          case rel => exact ⟨congrArg Value.string HX.out, rfl⟩
        · have HX : Hid (O ++ ⟨#[32]⟩ = O1) := Lib.hid (by rw [← hO1, if_neg hj0])
          have hj0i : (0 : Int) < (j : Int) := by omega
          clear hj0 hO1
          go_wp2_with fail
          go_meet
          case rel => exact ⟨congrArg Value.string HX.out, rfl⟩
      case rest =>
        obtain ⟨rfl, rfl⟩ := hcut
        go_upto_region 7 with fail
        go_cut [6] (fun pv wq => pv = .bool p0 ∧ wr = wq)
        case first =>
          have htt : t = [] ∨ ∃ d r, t = d :: r := by cases t with | nil => exact .inl rfl | cons d r => exact .inr ⟨d, r, rfl⟩
          rcases htt with ht | ⟨d, r, ht⟩
          · have hne : (!S.toList.isEmpty) = false := by rw [Lib.toList_data, HSd.out, ht]; rfl
            have HV : Hid (false = p0) := Lib.hid (by rw [← HP0.out, ht]; rfl)
            go_wp2_with fail
            go_meet
            case rel => exact ⟨congrArg Value.bool HV.out, rfl⟩
          · have hne : (!S.toList.isEmpty) = true := by rw [Lib.toList_data, HSd.out, ht]; rfl
            obtain ⟨hS0, hSd0⟩ := head_of (s := S) (c := d) (r := r) (by rw [HSd.out, ht])
            by_cases hj0 : j = 0
            · have hj0b : ((j : Int) == 0) = true := by rw [hj0]; rfl
              cases e42 : ((S[0].toNat : Int) == 42)
              · have hd : d ≠ 42 := by rw [← hSd0]; exact byte_not (n := 42) (by omega) e42
                have HV : Hid (true = p0) := Lib.hid (by rw [← HP0.out, ht, hj0]; simp [hd])
                clear hd hSd0
                go_wp2_with fail
                go_meet
                case rel => exact ⟨congrArg Value.bool HV.out, rfl⟩
              · have hd : d = 42 := by rw [← hSd0]; exact byte_is (n := 42) (by omega) e42
                have HV : Hid (false = p0) := Lib.hid (by rw [← HP0.out, ht, hj0, hd]; rfl)
                clear hd hSd0
                go_wp2_with fail
                go_meet
                case rel => exact ⟨congrArg Value.bool HV.out, rfl⟩
            · have hj0b : ((j : Int) == 0) = false := by rw [beq_eq_false_iff_ne]; omega
              have HV : Hid (true = p0) := Lib.hid (by rw [← HP0.out, ht]; simp; omega)
              clear hSd0
              go_wp2_with fail
              go_meet
              case rel => exact ⟨congrArg Value.bool HV.out, rfl⟩
        case rest =>
          obtain ⟨rfl, rfl⟩ := hcut
          go_wp2_with fail
          go_loopg [6, 7, 8, 9] S.size (fun g2 pv bv kv _ wx => ∃ (k : Nat) (p : Bool) (Y : ByteArray), kv = .int .i64 k ∧ k ≤ S.size ∧ S.size - k ≤ g2 ∧ pv = .bool p ∧ bv = .string Y ∧ Y.size ≤ 4 * k ∧ Hid ((p0 && (t.take k).all plainC) = p) ∧ Hid (Y.data.toList = (t.take k).flatMap qByte) ∧ Hid (Below w.heap.size w wx))
          case atStart => exact ⟨0, p0, ⟨#[]⟩, rfl, by omega, by omega, rfl, rfl, by decide, Lib.hid (by simp), Lib.hid rfl, HB⟩
          case round =>
            obtain ⟨k, p, Y, rfl, hk, hg2, rfl, rfl, hY, HP, HY, HBx⟩ := hrel
            by_cases hks : k < S.size
            case neg =>
              obtain rfl : k = S.size := by omega
              have HPl : Hid (isPl j t = p) := Lib.hid (isPl_of HP0.out (by have h := HP.out; rw [hSs, List.take_length] at h; exact h))
              have HYl : Hid (Y.data.toList = t.flatMap qByte) := Lib.hid (by have h := HY.out; rw [hSs, List.take_length] at h; exact h)
              clear HP HY
              cases p with
              | true =>
                have HZ : Hid ((O1 ++ S).data.toList = quoteFrom 0 (ws.take (j + 1))) := Lib.hid (by
                  rw [ByteArray.data_append, Array.toList_append, HO1.out, HSd.out, HQ.out, show wordQ j t = t by unfold wordQ; rw [if_pos HPl.out], List.append_assoc])
                have hzs : (O1 ++ S).size = O1.size + S.size := ByteArray.size_append
                go_wp2_with fail
                go_roundg (go - 1)
                case measure => omega
                case rel => exact ⟨j + 1, O1 ++ S, by go_num, by omega, by omega, rfl, by omega, HZ, HBx⟩
              | false =>
                have HZ : Hid ((O1 ++ (⟨#[34]⟩ ++ Y ++ ⟨#[34]⟩)).data.toList = quoteFrom 0 (ws.take (j + 1))) := Lib.hid (by
                  rw [ByteArray.data_append, Array.toList_append, ByteArray.data_append, Array.toList_append, ByteArray.data_append, Array.toList_append, HO1.out, HYl.out, HQ.out, show wordQ j t = qWord t by unfold wordQ; rw [if_neg (by rw [HPl.out]; decide)], List.append_assoc]
                  rfl)
                have hzs : (O1 ++ (⟨#[34]⟩ ++ Y ++ ⟨#[34]⟩)).size = O1.size + (1 + Y.size + 1) := by rw [ByteArray.size_append, ByteArray.size_append, ByteArray.size_append]; rfl
                have hzs2 : ((⟨#[34]⟩ : ByteArray) ++ Y).size = 1 + Y.size := by rw [ByteArray.size_append]; rfl
                have hzs3 : ((⟨#[34]⟩ : ByteArray) ++ Y ++ ⟨#[34]⟩).size = 1 + Y.size + 1 := by rw [ByteArray.size_append, ByteArray.size_append]; rfl
                go_wp2_with fail
                go_roundg (go - 1)
                case measure => omega
                case rel => exact ⟨j + 1, O1 ++ (⟨#[34]⟩ ++ Y ++ ⟨#[34]⟩), by go_num, by omega, by omega, rfl, by omega, HZ, HBx⟩
            case pos =>
              have hkt : k < t.length := by omega
              have hkey : t[k] = S[k] := by
                have h : S.data.toList[k]? = some S[k] := List.getElem?_eq_getElem (l := S.data.toList) (i := k) (by rw [len_of]; exact hks)
                rw [HSd.out, List.getElem?_eq_getElem hkt] at h
                exact Option.some.inj h
              have HP2 : Hid ((p0 && (t.take (k + 1)).all plainC) = (p && plainC S[k])) := Lib.hid (by rw [all_snoc _ _ _ hkt, ← Bool.and_assoc, HP.out, hkey])
              have HY2 : Hid ((t.take (k + 1)).flatMap qByte = Y.data.toList ++ qByte S[k]) := Lib.hid (by rw [flat_snoc _ _ hkt, HY.out, hkey])
              clear hkey HP HY
              obtain ⟨x, hx⟩ : ∃ x, S[k] = x := ⟨_, rfl⟩
              rw [hx] at HP2 HY2
              obtain ⟨q, HQ2⟩ : ∃ q, Hid ((p && plainC x) = q) := ⟨_, Lib.hid rfl⟩
              have hx256 : (x.toNat : Int) < 256 := by have := UInt8.toNat_lt x; omega
              go_upto_region 13 with fail
              go_cut [6] (fun pv wq => pv = .bool q ∧ wr = wq)
              case first =>
                cases p
                case false =>
                  have HV : Hid (false = q) := Lib.hid (by rw [← HQ2.out]; rfl)
                  go_wp2_with fail
                  go_meet
                  case rel => exact ⟨congrArg Value.bool HV.out, rfl⟩
                case true =>
                  by_cases h32 : (32 : Int) < (x.toNat : Int)
                  case neg =>
                    have HV : Hid (false = q) := Lib.hid (by rw [← HQ2.out, plainC_no (.inl (by omega))]; rfl)
                    go_wp2_with fail
                    go_meet
                    case rel => exact ⟨congrArg Value.bool HV.out, rfl⟩
                  case pos =>
                    by_cases h127 : (x.toNat : Int) < 127
                    case neg =>
                      have HV : Hid (false = q) := Lib.hid (by rw [← HQ2.out, plainC_no (.inr (.inl (by omega)))]; rfl)
                      go_wp2_with fail
                      go_meet
                      case rel => exact ⟨congrArg Value.bool HV.out, rfl⟩
                    case pos =>
                      cases e34 : ((x.toNat : Int) == 34)
                      case true =>
                        have ne34 : ((x.toNat : Int) != 34) = false := by show (!((x.toNat : Int) == 34)) = _; rw [e34]; rfl
                        have HV : Hid (false = q) := Lib.hid (by rw [← HQ2.out, plainC_no (.inr (.inr (.inl (byte_is (n := 34) (by omega) e34))))]; rfl)
                        go_wp2_with fail
                        go_meet
                        case rel => exact ⟨congrArg Value.bool HV.out, rfl⟩
                      case false =>
                        have ne34 : ((x.toNat : Int) != 34) = true := by show (!((x.toNat : Int) == 34)) = _; rw [e34]; rfl
                        cases e39 : ((x.toNat : Int) == 39)
                        case true =>
                          have ne39 : ((x.toNat : Int) != 39) = false := by show (!((x.toNat : Int) == 39)) = _; rw [e39]; rfl
                          have HV : Hid (false = q) := Lib.hid (by rw [← HQ2.out, plainC_no (.inr (.inr (.inr (.inl (byte_is (n := 39) (by omega) e39)))))]; rfl)
                          go_wp2_with fail
                          go_meet
                          case rel => exact ⟨congrArg Value.bool HV.out, rfl⟩
                        case false =>
                          have ne39 : ((x.toNat : Int) != 39) = true := by show (!((x.toNat : Int) == 39)) = _; rw [e39]; rfl
                          cases e92 : ((x.toNat : Int) == 92)
                          case true =>
                            have ne92 : ((x.toNat : Int) != 92) = false := by show (!((x.toNat : Int) == 92)) = _; rw [e92]; rfl
                            have HV : Hid (false = q) := Lib.hid (by rw [← HQ2.out, plainC_no (.inr (.inr (.inr (.inr (byte_is (n := 92) (by omega) e92)))))]; rfl)
                            go_wp2_with fail
                            go_meet
                            case rel => exact ⟨congrArg Value.bool HV.out, rfl⟩
                          case false =>
                            have ne92 : ((x.toNat : Int) != 92) = true := by show (!((x.toNat : Int) == 92)) = _; rw [e92]; rfl
                            have HV : Hid (true = q) := Lib.hid (by rw [← HQ2.out, plainC_yes (by omega) (by omega) (byte_not (n := 34) (by omega) e34) (byte_not (n := 39) (by omega) e39) (byte_not (n := 92) (by omega) e92)]; rfl)
                            go_wp2_with fail
                            go_meet
                            case rel => exact ⟨congrArg Value.bool HV.out, rfl⟩
              case rest =>
                obtain ⟨rfl, rfl⟩ := hcut
                cases e34 : ((x.toNat : Int) == 34)
                case true =>
                  have HQB := Lib.hid (qb_two (x := x) (.inl (byte_is (n := 34) (by omega) e34)))
                  have hxn : (x.toNat : Int) = 34 := eq_of_beq e34
                  go_wp2_with fail
                  refine (HE.out _ 92 _ ?hh1).mono ?_
                  case hh1 => first | (with_reducible rfl) | (exact (eq_of_beq e34).symm) | (exact (eq_of_beq e92).symm) | rfl
                  rintro en w1 ⟨T1, rfl, HT1, hT1, hb1⟩
                  have HB1 := Lib.hid (bstep HBx.out hb1)
                  clear hb1
                  have hs1 := size_one (W := Y) hT1
                  go_wp2_with fail
                  refine (HE.out _ x _ ?hh2).mono ?_
                  case hh2 => first | (with_reducible rfl) | (exact (eq_of_beq e34).symm) | (exact (eq_of_beq e92).symm) | rfl
                  rintro en w2 ⟨T2, rfl, HT2, hT2, hb2⟩
                  have HB2 := Lib.hid (bstep HB1.out hb2)
                  clear hb2
                  have hs2 := size_one (W := Y ++ T1) hT2
                  go_wp2_with fail
                  go_roundg (gk - 1)
                  case measure => omega
                  case rel => exact ⟨k + 1, q, Y ++ T1 ++ T2, by go_num, by omega, by omega, rfl, rfl, by omega, Lib.hid (by rw [HP2.out]; exact HQ2.out), Lib.hid (by rw [HY2.out, HQB.out]; rw [app_one HT2.out, app_one HT1.out, List.append_assoc]), HB2⟩
                case false =>
                  cases e92 : ((x.toNat : Int) == 92)
                  case true =>
                    have HQB := Lib.hid (qb_two (x := x) (.inr (byte_is (n := 92) (by omega) e92)))
                    have hxn : (x.toNat : Int) = 92 := eq_of_beq e92
                    go_wp2_with fail
                    refine (HE.out _ 92 _ ?hh1).mono ?_
                    case hh1 => first | (with_reducible rfl) | (exact (eq_of_beq e34).symm) | (exact (eq_of_beq e92).symm) | rfl
                    rintro en w1 ⟨T1, rfl, HT1, hT1, hb1⟩
                    have HB1 := Lib.hid (bstep HBx.out hb1)
                    clear hb1
                    have hs1 := size_one (W := Y) hT1
                    go_wp2_with fail
                    refine (HE.out _ x _ ?hh2).mono ?_
                    case hh2 => first | (with_reducible rfl) | (exact (eq_of_beq e34).symm) | (exact (eq_of_beq e92).symm) | rfl
                    rintro en w2 ⟨T2, rfl, HT2, hT2, hb2⟩
                    have HB2 := Lib.hid (bstep HB1.out hb2)
                    clear hb2
                    have hs2 := size_one (W := Y ++ T1) hT2
                    go_wp2_with fail
                    go_roundg (gk - 1)
                    case measure => omega
                    case rel => exact ⟨k + 1, q, Y ++ T1 ++ T2, by go_num, by omega, by omega, rfl, rfl, by omega, Lib.hid (by rw [HP2.out]; exact HQ2.out), Lib.hid (by rw [HY2.out, HQB.out]; rw [app_one HT2.out, app_one HT1.out, List.append_assoc]), HB2⟩
                  case false =>
                    have hn34 := byte_not (n := 34) (by omega) e34
                    have hn92 := byte_not (n := 92) (by omega) e92
                    by_cases hlo : (x.toNat : Int) < 32 ∨ (126 : Int) < (x.toNat : Int)
                    case neg =>
                      have HQB := Lib.hid (qb_one (x := x) (by omega) hn34 hn92)
                      have hlo1 : ¬ (x.toNat : Int) < 32 := by omega
                      have hlo2 : ¬ (126 : Int) < (x.toNat : Int) := by omega
                      clear hn34 hn92 hlo
                      go_wp2_with fail
                      refine (HE.out _ x _ ?hh3).mono ?_
                      case hh3 => first | (with_reducible rfl) | (exact (eq_of_beq e34).symm) | (exact (eq_of_beq e92).symm) | rfl
                      rintro en w3 ⟨T3, rfl, HT3, hT3, hb3⟩
                      have HB3 := Lib.hid (bstep HBx.out hb3)
                      clear hb3
                      have hs1 := size_one (W := Y) hT3
                      go_wp2_with fail
                      go_roundg (gk - 1)
                      case measure => omega
                      case rel => exact ⟨k + 1, q, Y ++ T3, by go_num, by omega, by omega, rfl, rfl, by omega, Lib.hid (by rw [HP2.out]; exact HQ2.out), Lib.hid (by rw [HY2.out, HQB.out]; rw [app_one HT3.out]), HB3⟩
                    case pos =>
                      have HQB := Lib.hid (qb_hex (x := x) (by omega) hn34 hn92)
                      clear hn34 hn92
                      rcases hlo with hlo | hlo
                      all_goals
                        obtain ⟨hh, hhl⟩ : ∃ hh, x.toNat / 16 = hh := ⟨_, rfl⟩
                        obtain ⟨hl, hll⟩ : ∃ hl, x.toNat % 16 = hl := ⟨_, rfl⟩
                        obtain ⟨X1, hX1, hX1s, HX1⟩ := hex_at hh (by omega)
                        obtain ⟨X2, hX2, hX2s, HX2⟩ := hex_at hl (by omega)
                        rw [hhl, hll] at HQB
                        obtain ⟨T9, hT9, hT9s, HT9⟩ : ∃ T : ByteArray, (⟨#[92]⟩ : ByteArray) = T ∧ T.size = 1 ∧ Hid (T.data.toList = [92]) := ⟨_, rfl, rfl, Lib.hid rfl⟩
                        have hq9 : ∀ w, Calls Tryz.prog 24 #[.int .u8 92] w fun e w' => e = .returned (.string T9) ∧ Below w.heap.size w w' := fun w => by rw [← hT9]; exact rone_calls w 92
                        have HQ9 := Lib.hid hq9
                        clear hq9 hT9
                        have hq1 : (x.toNat : Int) / 16 = (hh : Int) := by omega
                        have hq2 : (x.toNat : Int) % 16 = (hl : Int) := by omega
                        have dq : IntKind.u8.wrap ((x.toNat : Int).tdiv 16) = (hh : Int) := by rw [IntWalk.u8_quo _ _ (by omega), hq1]
                        have dr : IntKind.u8.wrap ((x.toNat : Int).tmod 16) = (hl : Int) := by rw [Int.tmod_eq_emod_of_nonneg (by omega), hq2, IntKind.wrap_u8]; omega
                        have dr2 : (x.toNat : Int).tmod 16 = (hl : Int) := by rw [Int.tmod_eq_emod_of_nonneg (by omega), hq2]
                        have da : IntKind.u8.wrap ((hh : Int) + 1) = (hh : Int) + 1 := by rw [IntKind.wrap_u8]; omega
                        have db : IntKind.u8.wrap ((hl : Int) + 1) = (hl : Int) + 1 := by rw [IntKind.wrap_u8]; omega
                        have s1 : ∀ wx, (Instr.slice 9 (.string ⟨#[48, 49, 50, 51, 52, 53, 54, 55, 56, 57, 97, 98, 99, 100, 101, 102]⟩) (some (.int .u8 (hh : Int))) (some (.int .u8 ((hh : Int) + 1))) none).run Tryz.prog wx = .ok (.string X1) wx := fun wx => by
                          rw [run_slice_string wx _ _ _ _ _ _ Tryz.underlying9 (by omega) (by omega) (by show (hh : Int) + 1 ≤ 16; omega), ← hX1]
                          rfl
                        have s2 : ∀ wx, (Instr.slice 9 (.string ⟨#[48, 49, 50, 51, 52, 53, 54, 55, 56, 57, 97, 98, 99, 100, 101, 102]⟩) (some (.int .u8 (hl : Int))) (some (.int .u8 ((hl : Int) + 1))) none).run Tryz.prog wx = .ok (.string X2) wx := fun wx => by
                          rw [run_slice_string wx _ _ _ _ _ _ Tryz.underlying9 (by omega) (by omega) (by show (hl : Int) + 1 ≤ 16; omega), ← hX2]
                          rfl
                        have z1 : (T9 ++ ⟨#[120]⟩).size = 2 := by rw [ByteArray.size_append, hT9s]; rfl
                        have z2 : (T9 ++ ⟨#[120]⟩ ++ X1).size = 3 := by rw [ByteArray.size_append, z1, hX1s]
                        have z3 : (T9 ++ ⟨#[120]⟩ ++ X1 ++ X2).size = 4 := by rw [ByteArray.size_append, z2, hX2s]
                        have z4 : (Y ++ (T9 ++ ⟨#[120]⟩ ++ X1 ++ X2)).size = Y.size + 4 := by rw [ByteArray.size_append, z3]
                        have HD : Hid ((Y ++ (T9 ++ ⟨#[120]⟩ ++ X1 ++ X2)).data.toList = (t.take (k + 1)).flatMap qByte) := Lib.hid (by
                          rw [HY2.out, HQB.out, ByteArray.data_append, Array.toList_append, ByteArray.data_append, Array.toList_append, ByteArray.data_append, Array.toList_append, ByteArray.data_append, Array.toList_append, HX1.out, HX2.out, HT9.out])
                        obtain ⟨F, F1, F2, F3, -⟩ := over wr
                        have HF1 := Lib.hid F1
                        have HF3 := Lib.hid F3
                        clear F1 F3 hX1 hX2
                        go_upto_region 17 with fail
                        refine wp_region_class F (by kernel_rfl) (by kernel_rfl) F2 ?_
                        try dsimp only [List.append]
                        repeat (go_big_quiet_step ((go_at_call 24; with_reducible exact quiet_over HF3.out (HQ9.out _))))
                        refine wpQuiet_nil ?_
                        intro _ hw'
                        obtain ⟨u1, hw2⟩ := hw'
                        subst hw2
                        go_wp2_with fail
                        go_roundg (gk - 1)
                        case measure => omega
                        case rel => exact ⟨k + 1, q, Y ++ (T9 ++ ⟨#[120]⟩ ++ X1 ++ X2), by go_num, by omega, by omega, rfl, rfl, by omega, Lib.hid (by rw [HP2.out]; exact HQ2.out), HD, Lib.hid (bstep HBx.out (HF1.out u1))⟩
end Go.Proofs.YtenhgjpoigkdgaaGreatDoor.Ln
