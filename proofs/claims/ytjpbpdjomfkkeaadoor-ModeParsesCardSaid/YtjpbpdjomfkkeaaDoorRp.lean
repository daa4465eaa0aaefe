/- The contract of the document's Parse (layer 1). -/
import Derived.Test.YtjpbpdjomfkkeaaDoorWalks
import Derived.IntWalk
import Derived.Deep.DeepCutAuto
namespace Go.Proofs.YtjpbpdjomfkkeaaDoor
open Go.ChangeShapes Go.WideShapes Go.ChangeAt Go.RowKit

/-- Does the text begin with a minus? -/
def minus (s : ByteArray) : Bool := decide (s.data.toList.head? = some 45)
/-- What stands behind it. -/
def digits (s : ByteArray) : ByteArray := if minus s then s.extract 1 s.size else s

theorem minus_none {s : ByteArray} (h : ¬ 0 < s.size) : minus s = false := by
  have : s.data.toList = [] := by
    have e : s.data.toList.length = s.size := Array.length_toList
    exact List.length_eq_zero_iff.1 (by omega)
  unfold minus; rw [this]; rfl
theorem minus_at {s : ByteArray} (h : 0 < s.size) : minus s = ((s[0].toNat : Int) == 45) := by
  have e : s.data.toList.head? = some s[0] := by
    cases s with | mk d => 
    cases d with | mk l =>
    cases l with
    | nil => simp [ByteArray.size] at h
    | cons c r => rfl
  unfold minus; rw [e, Bool.eq_iff_iff]
  simp only [decide_eq_true_eq, Option.some.injEq, beq_iff_eq]
  constructor
  · intro h; rw [h]; rfl
  · intro h; apply UInt8.toNat_inj.1; show _ = 45; omega

/-- What the document's Parse refuses at once. -/
def badB (d : ByteArray) (b : Bool) : Bool := decide (d.data.toList.length = 0 ∨ 19 < d.data.toList.length ∨ (d.data.toList.head? = some 48 ∧ (1 < d.data.toList.length ∨ b = true)))
theorem len_eq (d : ByteArray) : d.data.toList.length = d.size := Array.length_toList
theorem badB_0 {d : ByteArray} (b : Bool) (h : d.size = 0) : badB d b = true := decide_eq_true (by rw [len_eq]; exact .inl h)
theorem badB_19 {d : ByteArray} (b : Bool) (h : 19 < d.size) : badB d b = true := decide_eq_true (by rw [len_eq]; exact .inr (.inl h))
theorem head_at {d : ByteArray} (h : 0 < d.size) : d.data.toList.head? = some d[0] := by
  cases d with | mk a =>
  cases a with | mk l =>
  cases l with
  | nil => simp [ByteArray.size] at h
  | cons c r => rfl
theorem head_48 {d : ByteArray} (h : 0 < d.size) : (d.data.toList.head? = some 48) ↔ ((d[0].toNat : Int) == 48) = true := by
  rw [head_at h]
  simp only [Option.some.injEq, beq_iff_eq]
  constructor
  · intro h; rw [h]; rfl
  · intro h; apply UInt8.toNat_inj.1; show _ = 48; omega
theorem badB_48 {d : ByteArray} {b : Bool} (hp : 0 < d.size) (h : ((d[0].toNat : Int) == 48) = true) (h1 : 1 < d.size ∨ b = true) : badB d b = true :=
  decide_eq_true (by rw [len_eq]; exact .inr (.inr ⟨(head_48 hp).2 h, h1⟩))
theorem badB_no {d : ByteArray} {b : Bool} (hp : 0 < d.size) (h19 : ¬ 19 < d.size) (h : ((d[0].toNat : Int) == 48) = true → ¬ (1 < d.size ∨ b = true)) : badB d b = false :=
  decide_eq_false (by rw [len_eq]; rintro (a | a | ⟨a, c⟩); omega; omega; exact h ((head_48 hp).1 a) c)
theorem refBody_bad {d : ByteArray} {b : Bool} (h : badB d b = true) : Num.refBody b d.data.toList = (0, 11) := by
  unfold Num.refBody; rw [if_pos (of_decide_eq_true h)]
def finish (b : Bool) : Option Int → Int × Int
  | none => (0, 11)
  | some n => if b then (n, 0) else if n = -9223372036854775808 then (0, 11) else (-n, 0)
theorem refBody_go {d : ByteArray} {b : Bool} (h : badB d b = false) : Num.refBody b d.data.toList = finish b (Num.rl 0 d.data.toList) := by
  unfold Num.refBody; rw [if_neg (of_decide_eq_false h)]; rfl

theorem drop_at {d : ByteArray} {k : Nat} (h : k < d.size) : d.data.toList.drop k = d[k] :: d.data.toList.drop (k + 1) := by
  rw [List.drop_eq_getElem_cons (by rw [len_eq]; exact h)]; rfl
theorem drop_end {d : ByteArray} : d.data.toList.drop d.size = [] := by
  rw [List.drop_eq_nil_iff, len_eq]; exact Nat.le_refl _
theorem rl_bad1 {n : Int} {c : UInt8} {r : List UInt8} (h : (c.toNat : Int) < 48 ∨ 57 < (c.toNat : Int)) : Num.rl n (c :: r) = none := by
  unfold Num.rl; rw [if_pos (by omega)]
theorem rl_bad2 {n : Int} {c : UInt8} {r : List UInt8} (h : n < -922337203685477580 ∨ n = -922337203685477580 ∧ 56 < (c.toNat : Int)) : Num.rl n (c :: r) = none := by
  unfold Num.rl; split
  · rfl
  · rw [if_pos (by omega)]
theorem rl_go {n : Int} {c : UInt8} {r : List UInt8} (h : 48 ≤ (c.toNat : Int) ∧ (c.toNat : Int) ≤ 57) (h2 : -922337203685477580 ≤ n) (h3 : n = -922337203685477580 → (c.toNat : Int) ≤ 56) : Num.rl n (c :: r) = Num.rl (10 * n - ((c.toNat : Int) - 48)) r := by
  conv => lhs; unfold Num.rl
  rw [if_neg (by omega), if_neg (by omega)]

set_option maxRecDepth 100000 in
set_option maxHeartbeats 1000000 in
theorem refParse_false (s : ByteArray) (hs : s.size ≤ 1000000) (hm : minus s = false) (w : World) (x y : Int) (hxy : Num.refBody false (digits s).data.toList = (x, y)) :
    Calls Tryd.prog 25 #[.string s] w fun e w' => e = .returned (.tuple #[.int .i64 x, .int .i64 y]) ∧ w = w' := by
  obtain ⟨d, hdd⟩ : ∃ d, digits s = d := ⟨_, rfl⟩
  have hsz : d.size ≤ 1000000 := by
    rw [← hdd]; unfold digits; split
    all_goals first | exact hs | (simp; omega)
  have hd : s = d := by rw [← hdd]; unfold digits; rw [hm]; rfl
  rw [hdd] at hxy
  have HX2 := Lib.hid hxy
  have HD := Lib.hid hd
  have HM := Lib.hid hm
  clear hxy hdd hd hm
  go_enter Tryd.func25, Tryd.ntmps25
  go_upto_region 2 with fail
  go_cut [5] (fun ng w' => ng = .bool false ∧ w = w')
  case first =>
    by_cases h : 0 < s.size
    · have hb := (minus_at h).symm.trans HM.out
      go_wp2
      go_meet
      case rel => exact ⟨rfl, rfl⟩
    · go_wp2
      go_meet
      case rel => exact ⟨rfl, rfl⟩
  case rest =>
    obtain ⟨rfl, rfl⟩ := hcut
    go_upto_region 5 with fail
    rw [HD.out]
    go_cut [41] (fun t w' => ∃ c, t = .bool c ∧ Hid (badB d false = c) ∧ w = w')
    case first =>
      by_cases h0 : d.size = 0
      · have HB := Lib.hid (badB_0 false h0)
        have hb0 : ((d.size : Int) == 0) = true := by simp [h0]
        go_wp2
        go_meet
        case rel => exact ⟨_, rfl, HB.out, rfl⟩
      · have hb0 : ((d.size : Int) == 0) = false := by simpa using h0
        by_cases h19 : 19 < d.size
        · have HB := Lib.hid (badB_19 false h19)
          go_wp2
          go_meet
          case rel => exact ⟨_, rfl, HB.out, rfl⟩
        · have hp1 : 0 < d.size := by omega
          cases h48 : ((d[0].toNat : Int) == 48)
          · have HB := Lib.hid (badB_no (b := false) hp1 h19 (fun e => by rw [h48] at e; cases e))
            go_wp2
            go_meet
            case rel => exact ⟨_, rfl, by rw [HB.out]; show _ = _; first | rfl | (symm; simp; done) | (symm; simp; omega), rfl⟩
          · by_cases h1 : 1 < d.size
            · have HB := Lib.hid (badB_48 (b := false) hp1 h48 (.inl h1))
              go_wp2
              go_meet
              case rel => exact ⟨_, rfl, by rw [HB.out]; show _ = _; first | rfl | (symm; simp; done) | (symm; simp; omega), rfl⟩
            · have HB := Lib.hid (badB_no (b := false) hp1 h19 (fun _ e => by rcases e with e | e; exact h1 e; cases e))
              go_wp2
              go_meet
              case rel => exact ⟨_, rfl, by rw [HB.out]; show _ = _; first | rfl | (symm; simp; done) | (symm; simp; omega), rfl⟩
    case rest =>
      obtain ⟨c, rfl, HB, rfl⟩ := hcut
      clear HD HM
      cases c
      · have hgo := (refBody_go HB.out).symm.trans HX2.out
        have HG := Lib.hid hgo; clear hgo HB HX2
        go_wp2
        go_loop [6, 7] (fun n i => ∃ (m : Int) (k : Nat), n = .int .i64 m ∧ i = .int .i64 k ∧ k ≤ d.size ∧ -9223372036854775808 ≤ m ∧ m ≤ 0 ∧ Hid (Num.rl 0 d.data.toList = Num.rl m (d.data.toList.drop k))) (fun _ i => d.size - (intOf i).toNat)
        case atStart => exact ⟨0, 0, rfl, rfl, by omega, by omega, by omega, rfl⟩
        case round =>
          obtain ⟨m, k, rfl, rfl, hk, m0, m1, HR⟩ := hrel
          by_cases hlt : k < d.size
          · have hdr := drop_at hlt
            obtain ⟨c, hdk⟩ : ∃ c, d[k] = c := ⟨_, rfl⟩
            rw [hdk] at hdr
            have c0 : 0 ≤ (c.toNat : Int) := by omega
            have c1 : (c.toNat : Int) < 256 := by have := UInt8.toNat_lt c; omega
            have HDR := Lib.hid hdr; clear hdr
            by_cases hb1 : (c.toNat : Int) < 48
            · have e2 := HG.out
              rw [HR.out, HDR.out, rl_bad1 (.inl hb1)] at e2
              unfold finish at e2
              injection e2 with e1 e2
              subst e1; subst e2
              clear HG HR HDR
              go_wp2
              go_ret2
              exact ⟨rfl, rfl⟩
            · by_cases hb2 : 57 < (c.toNat : Int)
              · have e2 := HG.out
                rw [HR.out, HDR.out, rl_bad1 (.inr hb2)] at e2
                unfold finish at e2
                injection e2 with e1 e2
                subst e1; subst e2
                clear HG HR HDR
                go_wp2
                go_ret2
                exact ⟨rfl, rfl⟩
              · by_cases hn : m < -922337203685477580
                · have e2 := HG.out
                  rw [HR.out, HDR.out, rl_bad2 (.inl hn)] at e2
                  unfold finish at e2
                  injection e2 with e1 e2
                  subst e1; subst e2
                  clear HG HR HDR
                  go_wp2
                  go_ret2
                  exact ⟨rfl, rfl⟩
                · by_cases he : m = -922337203685477580
                  · subst he
                    by_cases h8 : 56 < (c.toNat : Int)
                    · have e2 := HG.out
                      rw [HR.out, HDR.out, rl_bad2 (.inr ⟨rfl, h8⟩)] at e2
                      unfold finish at e2
                      injection e2 with e1 e2
                      subst e1; subst e2
                      clear HG HR HDR
                      go_wp2
                      go_ret2
                      exact ⟨rfl, rfl⟩
                    · have hstep := HR.out
                      rw [HDR.out, rl_go ⟨by omega, by omega⟩ (by omega) (fun _ => by omega)] at hstep
                      have HS := Lib.hid hstep; clear hstep HG HR HDR
                      go_wp2
                      go_round
                      case rel => exact ⟨_, k + 1, rfl, by go_num, by omega, by omega, by omega, by rw [HS.out]; rfl⟩
                      case measure => simp [intOf]; omega
                  · have hbe : (m == -922337203685477580) = false := by simpa using he
                    have hstep := HR.out
                    rw [HDR.out, rl_go ⟨by omega, by omega⟩ (by omega) (fun e => absurd e he)] at hstep
                    have HS := Lib.hid hstep; clear hstep HG HR HDR
                    go_wp2
                    go_round
                    case rel => exact ⟨_, k + 1, rfl, by go_num, by omega, by omega, by omega, HS.out⟩
                    case measure => simp [intOf]; omega
          · obtain rfl : k = d.size := by omega
            have e2 := HG.out
            rw [HR.out, drop_end] at e2
            unfold Num.rl finish at e2
            simp only [Bool.false_eq_true, if_false] at e2
            clear HG HR
            by_cases hl : m = -9223372036854775808
            · subst hl
              rw [if_pos rfl] at e2
              injection e2 with e1 e2
              subst e1; subst e2
              go_wp2
              go_ret2
              exact ⟨rfl, rfl⟩
            · rw [if_neg hl] at e2
              injection e2 with e1 e2
              subst e1; subst e2
              have hbl : (m == -9223372036854775808) = false := by simpa using hl
              have hm0 : -9223372036854775808 < m := by omega
              go_wp2
              go_ret2
              exact ⟨rfl, rfl⟩
      · have e := (refBody_bad HB.out).symm.trans HX2.out
        injection e with e1 e2
        subst e1; subst e2
        go_wp2
        go_ret2
        exact ⟨rfl, rfl⟩

set_option maxRecDepth 100000 in
set_option maxHeartbeats 1000000 in
theorem refParse_true (s : ByteArray) (hs : s.size ≤ 1000000) (hm : minus s = true) (w : World) (x y : Int) (hxy : Num.refBody true (digits s).data.toList = (x, y)) :
    Calls Tryd.prog 25 #[.string s] w fun e w' => e = .returned (.tuple #[.int .i64 x, .int .i64 y]) ∧ w = w' := by
  obtain ⟨d, hdd⟩ : ∃ d, digits s = d := ⟨_, rfl⟩
  have hsz : d.size ≤ 1000000 := by
    rw [← hdd]; unfold digits; split
    all_goals first | exact hs | (simp; omega)
  have hp : 0 < s.size := by
    by_cases h : 0 < s.size
    · exact h
    · rw [minus_none h] at hm; cases hm
  have hd : s.extract 1 s.size = d := by rw [← hdd]; unfold digits; rw [hm]; rfl
  rw [hdd] at hxy
  have HX2 := Lib.hid hxy
  have HD := Lib.hid hd
  have HM := Lib.hid hm
  clear hxy hdd hd hm
  go_enter Tryd.func25, Tryd.ntmps25
  go_upto_region 2 with fail
  go_cut [5] (fun ng w' => ng = .bool true ∧ w = w')
  case first =>
    have hb := (minus_at hp).symm.trans HM.out
    go_wp2
    go_meet
    case rel => exact ⟨rfl, rfl⟩
  case rest =>
    obtain ⟨rfl, rfl⟩ := hcut
    go_upto_region 5 with fail
    rw [HD.out]
    go_cut [41] (fun t w' => ∃ c, t = .bool c ∧ Hid (badB d true = c) ∧ w = w')
    case first =>
      by_cases h0 : d.size = 0
      · have HB := Lib.hid (badB_0 true h0)
        have hb0 : ((d.size : Int) == 0) = true := by simp [h0]
        go_wp2
        go_meet
        case rel => exact ⟨_, rfl, HB.out, rfl⟩
      · have hb0 : ((d.size : Int) == 0) = false := by simpa using h0
        by_cases h19 : 19 < d.size
        · have HB := Lib.hid (badB_19 true h19)
          go_wp2
          go_meet
          case rel => exact ⟨_, rfl, HB.out, rfl⟩
        · have hp1 : 0 < d.size := by omega
          cases h48 : ((d[0].toNat : Int) == 48)
          · have HB := Lib.hid (badB_no (b := true) hp1 h19 (fun e => by rw [h48] at e; cases e))
            go_wp2
            go_meet
            case rel => exact ⟨_, rfl, by rw [HB.out]; show _ = _; first | rfl | (symm; simp; done) | (symm; simp; omega), rfl⟩
          · have HB := Lib.hid (badB_48 (b := true) hp1 h48 (.inr rfl))
            by_cases h1 : 1 < d.size
            all_goals
              go_wp2
              go_meet
              case rel => exact ⟨_, rfl, by rw [HB.out]; show _ = _; first | rfl | (symm; simp; done) | (symm; simp; omega), rfl⟩
    case rest =>
      obtain ⟨c, rfl, HB, rfl⟩ := hcut
      clear HD HM
      cases c
      · have hgo := (refBody_go HB.out).symm.trans HX2.out
        have HG := Lib.hid hgo; clear hgo HB HX2
        go_wp2
        go_loop [6, 7] (fun n i => ∃ (m : Int) (k : Nat), n = .int .i64 m ∧ i = .int .i64 k ∧ k ≤ d.size ∧ -9223372036854775808 ≤ m ∧ m ≤ 0 ∧ Hid (Num.rl 0 d.data.toList = Num.rl m (d.data.toList.drop k))) (fun _ i => d.size - (intOf i).toNat)
        case atStart => exact ⟨0, 0, rfl, rfl, by omega, by omega, by omega, rfl⟩
        case round =>
          obtain ⟨m, k, rfl, rfl, hk, m0, m1, HR⟩ := hrel
          by_cases hlt : k < d.size
          · have hdr := drop_at hlt
            obtain ⟨c, hdk⟩ : ∃ c, d[k] = c := ⟨_, rfl⟩
            rw [hdk] at hdr
            have c0 : 0 ≤ (c.toNat : Int) := by omega
            have c1 : (c.toNat : Int) < 256 := by have := UInt8.toNat_lt c; omega
            have HDR := Lib.hid hdr; clear hdr
            by_cases hb1 : (c.toNat : Int) < 48
            · have e2 := HG.out
              rw [HR.out, HDR.out, rl_bad1 (.inl hb1)] at e2
              unfold finish at e2
              injection e2 with e1 e2
              subst e1; subst e2
              clear HG HR HDR
              go_wp2
              go_ret2
              exact ⟨rfl, rfl⟩
            · by_cases hb2 : 57 < (c.toNat : Int)
              · have e2 := HG.out
                rw [HR.out, HDR.out, rl_bad1 (.inr hb2)] at e2
                unfold finish at e2
                injection e2 with e1 e2
                subst e1; subst e2
                clear HG HR HDR
                go_wp2
                go_ret2
                exact ⟨rfl, rfl⟩
              · by_cases hn : m < -922337203685477580
                · have e2 := HG.out
                  rw [HR.out, HDR.out, rl_bad2 (.inl hn)] at e2
                  unfold finish at e2
                  injection e2 with e1 e2
                  subst e1; subst e2
                  clear HG HR HDR
                  go_wp2
                  go_ret2
                  exact ⟨rfl, rfl⟩
                · by_cases he : m = -922337203685477580
                  · subst he
                    by_cases h8 : 56 < (c.toNat : Int)
                    · have e2 := HG.out
                      rw [HR.out, HDR.out, rl_bad2 (.inr ⟨rfl, h8⟩)] at e2
                      unfold finish at e2
                      injection e2 with e1 e2
                      subst e1; subst e2
                      clear HG HR HDR
                      go_wp2
                      go_ret2
                      exact ⟨rfl, rfl⟩
                    · have hstep := HR.out
                      rw [HDR.out, rl_go ⟨by omega, by omega⟩ (by omega) (fun _ => by omega)] at hstep
                      have HS := Lib.hid hstep; clear hstep HG HR HDR
                      go_wp2
                      go_round
                      case rel => exact ⟨_, k + 1, rfl, by go_num, by omega, by omega, by omega, by rw [HS.out]; rfl⟩
                      case measure => simp [intOf]; omega
                  · have hbe : (m == -922337203685477580) = false := by simpa using he
                    have hstep := HR.out
                    rw [HDR.out, rl_go ⟨by omega, by omega⟩ (by omega) (fun e => absurd e he)] at hstep
                    have HS := Lib.hid hstep; clear hstep HG HR HDR
                    go_wp2
                    go_round
                    case rel => exact ⟨_, k + 1, rfl, by go_num, by omega, by omega, by omega, HS.out⟩
                    case measure => simp [intOf]; omega
          · obtain rfl : k = d.size := by omega
            have e2 := HG.out
            rw [HR.out, drop_end] at e2
            unfold Num.rl finish at e2
            simp only [if_true] at e2
            clear HG HR
            injection e2 with e1 e2
            subst e1; subst e2
            go_wp2
            go_ret2
            exact ⟨rfl, rfl⟩
      · have e := (refBody_bad HB.out).symm.trans HX2.out
        injection e with e1 e2
        subst e1; subst e2
        go_wp2
        go_ret2
        exact ⟨rfl, rfl⟩

theorem refParse_split (s : ByteArray) : Num.refParse s.data.toList = Num.refBody (minus s) (digits s).data.toList := by
  unfold digits minus
  cases s with | mk a =>
  cases a with | mk l =>
  cases l with
  | nil => rfl
  | cons c r =>
    by_cases h : c = 45
    · subst h
      have e : ((⟨⟨45 :: r⟩⟩ : ByteArray).extract 1 (⟨⟨45 :: r⟩⟩ : ByteArray).size).data.toList = r := by
        rw [Lib.extract_data]; simp [ByteArray.size]
      rw [show decide ((⟨⟨45 :: r⟩⟩ : ByteArray).data.toList.head? = some 45) = true from rfl, if_pos rfl, e]
      rfl
    · simp [Num.refParse, h]

/-- The document's Parse answers as its plain function does. -/
theorem refParse_calls (s : ByteArray) (hs : s.size ≤ 1000000) (w : World) (x y : Int) (hxy : Num.wp s.data.toList = (x, y)) :
    Calls Tryd.prog 25 #[.string s] w fun e w' => e = .returned (.tuple #[.int .i64 x, .int .i64 y]) ∧ w = w' := by
  rw [← Num.refParse_wp, refParse_split] at hxy
  cases hm : minus s
  · rw [hm] at hxy; exact refParse_false s hs hm w x y hxy
  · rw [hm] at hxy; exact refParse_true s hs hm w x y hxy
end Go.Proofs.YtjpbpdjomfkkeaaDoor
