/- Package table's search for a key among places. Conditions: bounds; an empty place is there. -/
import Derived.Test.YtpbblijnfigapaaTa2
namespace Go.Proofs.Ytpbblijnfigapaa.Ta
open Go.ChangeShapes Go.WideShapes Go.ChangeAt Go.RowKit
def pAt (l : List Pl) (p : Nat) : Pl := l.getD p ⟨0, ⟨#[]⟩, 0⟩
theorem pAt_lt {l : List Pl} {p : Nat} (h : p < l.length) : pAt l p = l[p] := by simp [pAt, List.getD_eq_getElem?_getD, List.getElem?_eq_getElem h]
def pos (n h t : Nat) : Nat := (h + t) % n
theorem pos_lt {n : Nat} (hn : 0 < n) (h t : Nat) : pos n h t < n := Nat.mod_lt _ hn
theorem pos_succ (n h t : Nat) : (pos n h t + 1) % n = pos n h (t + 1) := by unfold pos; rw [Nat.mod_add_mod, Nat.add_assoc]
theorem pos_onto {n : Nat} (h : Nat) {z : Nat} (hz : z < n) : ∃ t, t < n ∧ pos n h t = z := by
  have e := Nat.div_add_mod h n
  have hr := Nat.mod_lt h (Nat.lt_of_le_of_lt (Nat.zero_le _) hz)
  generalize h / n = q at *
  generalize h % n = r at *
  by_cases hrz : r ≤ z
  · refine ⟨z - r, by omega, ?_⟩
    unfold pos
    rw [← e, show n * q + r + (z - r) = z + n * q by omega, Nat.add_mul_mod_self_left, Nat.mod_eq_of_lt hz]
  · refine ⟨z + n - r, by omega, ?_⟩
    unfold pos
    rw [← e, show n * q + r + (z + n - r) = z + n + n * q by omega, Nat.add_mul_mod_self_left, Nat.add_mod_right, Nat.mod_eq_of_lt hz]
theorem find_range {f : Nat → Bool} {n t : Nat} (ht : t < n) (hf : f t = true) (hl : ∀ s, s < t → f s = false) : (List.range n).find? f = some t := by
  rw [List.find?_range_eq_some]
  exact ⟨hf, List.mem_range.2 ht, fun s hs => by rw [hl s hs]; rfl⟩
/-- Does the search for k end here? -/
def stp (l : List Pl) (k : ByteArray) (p : Nat) : Bool := ((pAt l p).i == 0) || ((pAt l p).i == 1 && ((pAt l p).k.toList == k.toList))
def findT (l : List Pl) (k : ByteArray) (h : Nat) : Option Nat := (List.range l.length).find? fun t => stp l k (pos l.length h t)
def findP (l : List Pl) (k : ByteArray) (h : Nat) : Option Nat := match findT l k h with
  | some t => if (pAt l (pos l.length h t)).i == 0 then none else some (pos l.length h t)
  | none => none
theorem findP_of {l : List Pl} {k : ByteArray} {h t : Nat} (ht : t < l.length) (hs : stp l k (pos l.length h t) = true) (hl : ∀ s, s < t → stp l k (pos l.length h s) = false) :
    findP l k h = if (pAt l (pos l.length h t)).i == 0 then none else some (pos l.length h t) := by
  unfold findP
  rw [show findT l k h = some t from find_range ht hs hl]
set_option maxHeartbeats 4000000 in
set_option maxRecDepth 100000 in
theorem pfind_calls (w : World) (T o G : Nat) (l : List Pl) (e d : Int) (hP : PAt w T o G l e d) (k : ByteArray) (h : Nat) (hh : h < 18446744073709551616) (hlen : l.length ≤ 1000000) (hz : 0 < l.length → ∃ z, z < l.length ∧ (pAt l z).i = 0) :
    Calls Try.prog 30 #[.pointer (some ⟨T, o, none⟩), .string k, .int .u64 (h : Nat)] w fun e w' => e = .returned (.tuple #[.int .i64 ((findP l k h).getD 0 : Nat), .bool (findP l k h).isSome]) ∧ w = w' := by
  obtain ⟨a, h0, ha⟩ := hP.c0
  have HP := Lib.hid hP
  have HR := Lib.hid (room_calls w T o a l.length h0)
  clear hP
  by_cases hl0 : 0 < l.length
  case neg =>
    have hl00 : l.length = 0 := by omega
    have HZ : Hid (findP l k h = none) := Lib.hid (by unfold findP findT; rw [hl00]; rfl)
    have hn0 : ((l.length : Int) == 0) = true := by rw [hl00]; rfl
    go_enter Try.func30, Try.ntmps30
    go_wp2_with fail
    refine HR.out.mono ?_; rintro en w2 ⟨rfl, rfl⟩
    go_wp2_with fail
    go_ret2
    exact ⟨by rw [HZ.out]; rfl, rfl⟩
  case pos =>
    have hn0 : ((l.length : Int) == 0) = false := beq_eq_false_iff_ne.2 (by omega)
    obtain rfl := ha hl0
    have HF := Lib.hid (first_calls w T o _ l.length h0 hl0 hlen h hh)
    have HB := Lib.hid (fun i (hi : i < l.length) => behind_calls w T o _ l.length h0 hl0 hlen i hi)
    have HE : Hid (∃ t, t < l.length ∧ stp l k (pos l.length h t) = true) := Lib.hid (by
      obtain ⟨z, hz1, hz2⟩ := hz hl0
      obtain ⟨t, ht, rfl⟩ := pos_onto h hz1
      exact ⟨t, ht, by unfold stp; rw [hz2]; rfl⟩)
    clear ha hz
    go_enter Try.func30, Try.ntmps30
    go_wp2_with fail
    refine HR.out.mono ?_; rintro en w2 ⟨rfl, rfl⟩
    go_wp2_with fail
    refine HF.out.mono ?_; rintro en w2 ⟨rfl, rfl⟩
    go_wp2_with fail
    go_loopg [6, 7, 8] (l.length + 1) (fun g _ _ vi wr => ∃ t : Nat, vi = .int .i64 (pos l.length h t : Nat) ∧ t ≤ l.length ∧ l.length - t ≤ g ∧ Hid (∀ s, s < t → stp l k (pos l.length h s) = false) ∧ w = wr)
    case atStart => exact ⟨0, rfl, by omega, by omega, Lib.hid (fun s hs => absurd hs (by omega)), rfl⟩
    case round =>
      obtain ⟨t, rfl, ht, hg, HN, rfl⟩ := hrel
      have htl : t < l.length := by
        obtain ⟨t2, h1, h2⟩ := HE.out
        by_cases hc : t2 < t
        · rw [HN.out t2 hc] at h2; cases h2
        · omega
      have hpl := pos_lt hl0 h t
      have HS : Hid (stp l k (pos l.length h t) = false → ∀ s, s < t + 1 → stp l k (pos l.length h s) = false) := Lib.hid (fun he s hs => by
        by_cases hst : s < t
        · exact HN.out s hst
        · obtain rfl : s = t := by omega
          exact he)
      have HK := Lib.hid (fun hs => findP_of htl hs HN.out)
      have HBt := Lib.hid (HB.out _ hpl)
      rw [pos_succ] at HBt
      obtain ⟨hc0, hc1, -⟩ := HP.out.pl _ hpl
      have HQ := Lib.hid (pAt_lt hpl)
      generalize hpp : pos l.length h t = p at *
      have HST : Hid (stp l k p = ((l[p].i == 0) || (l[p].i == 1 && (l[p].k.toList == k.toList)))) := Lib.hid (by unfold stp; rw [HQ.out])
      rw [HQ.out] at HK
      generalize l[p] = q at *
      obtain ⟨qi, qk, qn⟩ := q
      have hc0 : w.cell? ⟨G, p * 3, none⟩ = some (.int .i64 qi) := hc0
      have hc1 : w.cell? ⟨G, p * 3 + 1, none⟩ = some (.string qk) := hc1
      have hpc : (p : Int) < (l.length : Int) := by omega
      cases hq0 : (qi == (0 : Int))
      case true =>
        have hq0n : (qi != (0 : Int)) = false := by show (!(qi == 0)) = _; rw [hq0]; rfl
        have HZ : Hid (findP l k h = none) := Lib.hid (by rw [HK.out (by rw [HST.out]; show ((qi == 0) || _) = true; rw [hq0]; rfl)]; show (if (qi == 0) = true then none else some p) = none; rw [hq0]; rfl)
        go_wp2_with fail
        go_ret2
        exact ⟨by rw [HZ.out]; rfl, rfl⟩
      case false =>
        have hq0n : (qi != (0 : Int)) = true := by show (!(qi == 0)) = _; rw [hq0]; rfl
        cases hq1 : (qi == (1 : Int))
        case false =>
          have HZ := Lib.hid (HS.out (by rw [HST.out]; show ((qi == 0) || ((qi == 1) && _)) = false; rw [hq0, hq1]; rfl))
          go_wp2_with fail
          refine HBt.out.mono ?_; rintro en w2 ⟨rfl, rfl⟩
          go_wp2_with fail
          go_roundg (gk - 1)
          case measure => omega
          case rel => exact ⟨t + 1, rfl, by omega, by omega, HZ, rfl⟩
        case true =>
          cases hq2 : (qk.toList == k.toList)
          case false =>
            have HZ := Lib.hid (HS.out (by rw [HST.out]; show ((qi == 0) || ((qi == 1) && (qk.toList == k.toList))) = false; rw [hq0, hq1, hq2]; rfl))
            go_wp2_with fail
            refine HBt.out.mono ?_; rintro en w2 ⟨rfl, rfl⟩
            go_wp2_with fail
            go_roundg (gk - 1)
            case measure => omega
            case rel => exact ⟨t + 1, rfl, by omega, by omega, HZ, rfl⟩
          case true =>
            have HZ : Hid (findP l k h = some p) := Lib.hid (by rw [HK.out (by rw [HST.out]; show ((qi == 0) || ((qi == 1) && (qk.toList == k.toList))) = true; rw [hq0, hq1, hq2]; rfl)]; show (if (qi == 0) = true then none else some p) = some p; rw [hq0]; rfl)
            go_wp2_with fail
            go_ret2
            exact ⟨by rw [HZ.out]; rfl, rfl⟩
end Go.Proofs.Ytpbblijnfigapaa.Ta
