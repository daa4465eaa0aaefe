/- Package table's Hash, at any key. No condition but a bound. -/
import Derived.Test.YtmjlhmohglbecaaGreatDoorRows
import Derived.WalkKit
import Derived.ProofKit
import Derived.OpenShut
import Derived.WalkSmall
import Derived.WalkSpells
import Derived.WalkLawsBesides
import Derived.Outline
import Derived.Lib.Hide
import Derived.Deep.RegionWith
import Derived.Deep.LoopGhost
import Derived.OwnWalk
import Derived.IntWalk
import Derived.Laws.AppendOwn
import Derived.Laws.IdiomStrings
import Derived.Laws.BitsAllLaws
import Derived.Lib.Strings
import Derived.Deep.QuietTactic
namespace Go.Proofs.YtmjlhmohglbecaaGreatDoor.Ta
open Go.ChangeShapes Go.WideShapes Go.ChangeAt Go.RowKit
theorem bstep {a b c : World} (h : Below a.heap.size a b) (k : Below b.heap.size b c) : Below a.heap.size a c := h.trans (k.mono h.size)
theorem bbox {w : World} (o : Obj) : Below w.heap.size w (w.alloc o) := (Below.refl _ _).alloc (Nat.le_refl _) o
/-- A key's hash, byte by byte. -/
def hstep (h c : Nat) : Nat := (h ^^^ c) * 1099511628211 % 18446744073709551616
def hini : Nat := 14695981039346656037
def fold8 (f : Nat → Nat → Nat) (z : Nat) : List UInt8 → Nat
  | [] => z
  | c :: r => fold8 f (f z c.toNat) r
theorem fold8_app (f : Nat → Nat → Nat) (c : UInt8) : ∀ (l : List UInt8) (z : Nat), fold8 f z (l ++ [c]) = f (fold8 f z l) c.toNat
  | [], _ => rfl
  | d :: r, z => fold8_app f c r (f z d.toNat)
def hsh (l : List UInt8) : Nat := fold8 hstep hini l
theorem hsh_app (l : List UInt8) (c : UInt8) : hsh (l ++ [c]) = hstep (hsh l) c.toNat := fold8_app hstep c l hini
theorem hstep_lt (h c : Nat) : hstep h c < 18446744073709551616 := by
  unfold hstep; omega
theorem hsh_lt (l : List UInt8) : hsh l < 18446744073709551616 := by
  rcases List.eq_nil_or_concat l with rfl | ⟨l, c, rfl⟩
  · show (14695981039346656037 : Nat) < 18446744073709551616; omega
  · rw [List.concat_eq_append, hsh_app]; exact hstep_lt _ _
theorem bits_hash (h c : Nat) (hh : h < 18446744073709551616) (hc : c < 256) : IntKind.u64.wrap (bits .xor .u64 (h : Int) (c : Int) * 1099511628211) = (hstep h c : Nat) := by
  rw [u64_xor_nat h c hh (Nat.lt_trans hc (by omega)), IntKind.wrap_u64]
  unfold hstep
  generalize h ^^^ c = x
  omega
theorem hash_wrap (c : Nat) (hc : c < 256) : IntKind.u64.wrap (c : Int) = c := by
  rw [IntKind.wrap_u64]; omega
abbrev hk (k : ByteArray) : Nat := hsh k.data.toList
set_option maxHeartbeats 4000000 in
set_option maxRecDepth 100000 in
theorem hash_calls (w : World) (s : ByteArray) (hl : s.size ≤ 140737488351232) :
    Calls Tryz.prog 71 #[.string s] w fun e w' => e = .returned (.int .u64 (hk s : Nat)) ∧ w = w' := by
  obtain ⟨f, hf⟩ : ∃ f : Nat → Nat, f = fun j => hsh (s.data.toList.take j) := ⟨_, rfl⟩
  have F0 : Hid (f 0 = 14695981039346656037) := Lib.hid (by rw [hf]; rfl)
  have FS : Hid (f s.size = hk s) := Lib.hid (by rw [hf]; show hsh (List.take s.data.toList.length s.data.toList) = _; rw [List.take_length])
  have F1 : Hid (∀ j (h : j < s.size), f (j + 1) = hstep (f j) (s[j]'h).toNat) := Lib.hid (fun j h => by
    have h' : j < s.data.toList.length := h
    rw [hf]
    show hsh (List.take (j + 1) s.data.toList) = _
    rw [← List.take_append_getElem h', hsh_app]
    simp only [Array.getElem_toList, ByteArray.getElem_eq_getElem_data])
  have FL : Hid (∀ j, f j < 18446744073709551616) := Lib.hid (fun j => by rw [hf]; exact hsh_lt _)
  clear hf
  go_enter Tryz.func71, Tryz.ntmps71
  go_wp2_with fail
  go_loopg [3, 4, 7] (s.size + 1) (fun g vh _ vi wr => ∃ j : Nat, vi = .int .i64 j ∧ j ≤ s.size ∧ s.size - j ≤ g ∧ vh = .int .u64 (f j : Nat) ∧ w = wr)
  case atStart => exact ⟨0, rfl, by omega, by omega, by rw [F0.out]; rfl, rfl⟩
  case round =>
    obtain ⟨j, rfl, hj, hg, rfl, rfl⟩ := hrel
    by_cases hjl : j < s.size
    case neg =>
      have hjs : j = s.size := by omega
      have hjc : ¬ ((j : Int) < (s.size : Int)) := by omega
      go_wp2_with fail
      go_ret
      exact ⟨by rw [← FS.out]; rfl, rfl⟩
    case pos =>
      have hjc : (j : Int) < (s.size : Int) := by omega
      have HT := Lib.hid (F1.out j hjl)
      have HL := Lib.hid (FL.out j)
      generalize f j = q at *
      generalize hcb : (s[j]'hjl).toNat = cb at *
      have hcb2 : Hid (cb < 256) := Lib.hid (by rw [← hcb]; exact UInt8.toNat_lt _)
      go_wp2_with fail
      go_roundg (gk - 1)
      case measure => omega
      case rel => exact ⟨j + 1, by go_num, by omega, by omega, by rw [hash_wrap cb hcb2.out, bits_hash q cb HL.out hcb2.out, HT.out], rfl⟩
end Go.Proofs.YtmjlhmohglbecaaGreatDoor.Ta
/- Package table's places as they lie; room, first, behind, moving, crowded, New's parts. No condition but bounds. -/
namespace Go.Proofs.YtmjlhmohglbecaaGreatDoor.Ta
open Go.ChangeShapes Go.WideShapes Go.ChangeAt Go.RowKit
/-- A place: what it is, its key, its number. -/
structure Pl where
  i : Int
  k : ByteArray
  n : Int
/-- Places l, e entries, d graves: the object at o in block T, the list in block G. -/
structure PAt (w : World) (T o G : Nat) (l : List Pl) (e d : Int) : Prop where
  c0 : ∃ a, w.cell? ⟨T, o, none⟩ = some (.slice a l.length l.length) ∧ (0 < l.length → a = some ⟨G, 0, none⟩)
  c1 : w.cell? ⟨T, o + 1, none⟩ = some (.int .i64 e)
  c2 : w.cell? ⟨T, o + 2, none⟩ = some (.int .i64 d)
  ft : ∀ i, w.frozen? ⟨T, i, none⟩ = false
  pl : ∀ j (hj : j < l.length), w.cell? ⟨G, j * 3, none⟩ = some (.int .i64 l[j].i) ∧ w.cell? ⟨G, j * 3 + 1, none⟩ = some (.string l[j].k) ∧ w.cell? ⟨G, j * 3 + 2, none⟩ = some (.int .i64 l[j].n)
  fg : 0 < l.length → ∀ i, w.frozen? ⟨G, i, none⟩ = false
  ne : 0 < l.length → G ≠ T
set_option maxHeartbeats 1000000 in
theorem room_calls (w : World) (T o : Nat) (a : Option Addr) (n : Nat) (h0 : w.cell? ⟨T, o, none⟩ = some (.slice a n n)) :
    Calls Tryz.prog 102 #[.pointer (some ⟨T, o, none⟩)] w fun e w' => e = .returned (.int .i64 (n : Nat)) ∧ w = w' := by
  go_enter Tryz.func102, Tryz.ntmps102
  go_wp2
  go_ret
  exact ⟨rfl, rfl⟩
set_option maxHeartbeats 1000000 in
theorem first_calls (w : World) (T o : Nat) (a : Option Addr) (n : Nat) (h0 : w.cell? ⟨T, o, none⟩ = some (.slice a n n)) (hn : 0 < n) (hn2 : n ≤ 1000000) (h : Nat) (hh : h < 18446744073709551616) :
    Calls Tryz.prog 119 #[.pointer (some ⟨T, o, none⟩), .int .u64 (h : Nat)] w fun e w' => e = .returned (.int .i64 (h % n : Nat)) ∧ w = w' := by
  have H0 := Lib.hid (room_calls w T o a n h0)
  go_enter Tryz.func119, Tryz.ntmps119
  go_wp2_with fail
  refine H0.out.mono ?_; rintro en w2 ⟨rfl, rfl⟩
  go_wp2_with fail
  go_ret
  exact ⟨by have e : wrap64 ((h : Int) % (n : Int)) = ((h % n : Nat) : Int) := (by have := Nat.mod_lt h hn; rw [← Int.natCast_emod]; exact Go.IntWalk.wrap64_in _ (by omega)); show Ending.returned (.int .i64 (wrap64 ((h : Int) % (n : Int)))) = _; rw [e], rfl⟩
set_option maxHeartbeats 1000000 in
theorem behind_calls (w : World) (T o : Nat) (a : Option Addr) (n : Nat) (h0 : w.cell? ⟨T, o, none⟩ = some (.slice a n n)) (hn : 0 < n) (hn2 : n ≤ 1000000) (i : Nat) (hi : i < n) :
    Calls Tryz.prog 120 #[.pointer (some ⟨T, o, none⟩), .int .i64 (i : Nat)] w fun e w' => e = .returned (.int .i64 ((i + 1) % n : Nat)) ∧ w = w' := by
  have H0 := Lib.hid (room_calls w T o a n h0)
  go_enter Tryz.func120, Tryz.ntmps120
  go_wp2_with fail
  refine H0.out.mono ?_; rintro en w2 ⟨rfl, rfl⟩
  go_wp2_with fail
  go_ret
  exact ⟨by show Ending.returned (.int .i64 (((i : Int) + 1) % (n : Int))) = _; rw [Int.natCast_emod]; rfl, rfl⟩
theorem iPl : (Tryz.prog.info? 93).map (fun i => (i.zero, i.size, i.bytes)) = some (some (.agg #[.int .i64 0, .string ⟨#[]⟩, .int .i64 0]), 3, 32) := by kernel_rfl
theorem iPs : (Tryz.prog.info? 83).map (·.size) = some 3 := by kernel_rfl
def zerosP (n : Nat) : Array Value := madeCells (Value.agg #[.int .i64 0, .string ⟨#[]⟩, .int .i64 0]).cells (n * 3)
theorem zerosP_size (n : Nat) : (zerosP n).size = n * 3 := size_madeCells _ _
set_option maxHeartbeats 1000000 in
theorem ofRoom_calls (w : World) (n : Nat) (hn : n ≤ 1000000) :
    Calls Tryz.prog 80 #[.int .i64 (n : Nat)] w fun e w' => e = .returned (.agg #[.slice (some ⟨w.heap.size + 1, 0, none⟩) n n, .int .i64 0, .int .i64 0]) ∧ Below w.heap.size w w' ∧ w'.heap.size = w.heap.size + 2 ∧ w'.heap[w.heap.size + 1]? = some (.cells (zerosP n) 93) := by
  obtain ⟨i0, hi, hz0, hz1, hz2⟩ := info_parts iPl
  have hmk : ∀ w : World, Sem.run Tryz.prog (Instr.makeSlice 81 (.int .i64 (n : Int)) (.int .i64 (n : Int))) w = .ok (.slice (some ⟨w.heap.size, 0, none⟩) n n) (w.alloc (.cells (zerosP n) 93)) := fun w => by
    have := run_make w 81 93 i0 _ Tryz.underlying81 hi hz0 .i64 .i64 n n (by omega) (Int.le_refl _) (by rw [hz2]; omega) (by omega)
    rw [hz1, Int.toNat_natCast] at this
    exact this
  clear hi hz0 hz1 hz2
  go_enter Tryz.func80, Tryz.ntmps80
  go_wp2_with fail
  refine bodyPost_ret (results_cell_row rfl _ _ w.heap.size 83 #[.slice (some ⟨w.heap.size + 1, 0, none⟩) n n, .int .i64 0, .int .i64 0] (0, 0) _ rfl ?hg Tryz.underlying83 rfl iPs) rfl ⟨rfl, ?_, ?_, ?_⟩
  case hg => rw [heap_alloc_old _ _ (r := w.heap.size) (by simp), heap_alloc_new]
  · exact bstep (bbox _) (bbox _)
  · simp
  · have h := heap_alloc_new (w.alloc (.cells #[.slice (some ⟨w.heap.size + 1, 0, none⟩) n n, .int .i64 0, .int .i64 0] 83)) (.cells (zerosP n) 93)
    simpa using h
set_option maxHeartbeats 1000000 in
theorem new_calls (w : World) :
    Calls Tryz.prog 54 #[] w fun e w' => ∃ W2, Below w.heap.size w W2 ∧ W2.heap.size = w.heap.size + 2 ∧ W2.heap[w.heap.size + 1]? = some (.cells (zerosP 8) 93) ∧ e = .returned (.pointer (some ⟨w.heap.size + 2, 0, none⟩)) ∧ w' = W2.alloc (.cells #[.slice (some ⟨w.heap.size + 1, 0, none⟩) 8 8, .int .i64 0, .int .i64 0, .slice none 0 0, .int .i64 0, .int .i64 0, .int .i64 0] 85) := by
  have H0 := Lib.hid (ofRoom_calls w 8 (by omega))
  go_enter Tryz.func54, Tryz.ntmps54
  go_wp2_with fail
  refine H0.out.mono ?_; rintro en w2 ⟨rfl, h1, h2, h3⟩
  have H1 := Lib.hid h1
  have H3 := Lib.hid h3
  clear h1 h3
  go_wp2_with fail
  go_ret
  exact ⟨w2, H1.out, h2, H3.out, rfl, rfl⟩
set_option maxHeartbeats 1000000 in
theorem moving_calls (w : World) (T : Nat) (a : Option Addr) (n : Nat) (h0 : w.cell? ⟨T, 3, none⟩ = some (.slice a n n)) :
    Calls Tryz.prog 99 #[.pointer (some ⟨T, 0, none⟩)] w fun e w' => e = .returned (.bool (decide (0 < n))) ∧ w = w' := by
  have H0 := Lib.hid (room_calls w T 3 a n h0)
  go_enter Tryz.func99, Tryz.ntmps99
  go_wp2_with fail
  refine H0.out.mono ?_; rintro en w2 ⟨rfl, rfl⟩
  go_wp2_with fail
  go_ret
  exact ⟨rfl, rfl⟩
set_option maxHeartbeats 1000000 in
theorem crowded_calls (w : World) (T o : Nat) (a : Option Addr) (n : Nat) (x y : Int) (h0 : w.cell? ⟨T, o, none⟩ = some (.slice a n n)) (h1 : w.cell? ⟨T, o + 1, none⟩ = some (.int .i64 x)) (h2 : w.cell? ⟨T, o + 2, none⟩ = some (.int .i64 y)) (hx : 0 ≤ x ∧ x ≤ 1000000) (hy : 0 ≤ y ∧ y ≤ 1000000) (hn : n ≤ 1000000) :
    Calls Tryz.prog 107 #[.pointer (some ⟨T, o, none⟩)] w fun e w' => e = .returned (.bool (decide ((n : Int) / 2 ≤ x + y))) ∧ ∃ k, w' = w.drewN k := by
  have H0 := Lib.hid (fun k => room_calls (w.drewN k) T o a n h0)
  go_enter Tryz.func107, Tryz.ntmps107
  go_wp2_with fail
  go_quiet ((go_at_call 102; exact Calls.quiet_of_same ((H0.out _).mono fun _ _ ⟨a, b⟩ => ⟨a, b.symm⟩)))
  go_wp2_with fail
  go_ret
  refine ⟨?_, _, rfl⟩
  have e1 : IntKind.i64.wrap ((n : Int) / 2) = (n : Int) / 2 := IntWalk.i64_in _ (by omega)
  have e2 : IntKind.i64.wrap (x + y) = x + y := IntWalk.i64_in _ (by omega)
  rw [e1, e2]
  rfl
end Go.Proofs.YtmjlhmohglbecaaGreatDoor.Ta
/- Package table's search for a key among places. Conditions: bounds; an empty place is there. -/
namespace Go.Proofs.YtmjlhmohglbecaaGreatDoor.Ta
open Go.ChangeShapes Go.WideShapes Go.ChangeAt Go.RowKit
def pAt (l : List Pl) (p : Nat) : Pl := l.getD p ⟨0, ⟨#[]⟩, 0⟩
theorem pAt_lt {l : List Pl} {p : Nat} (h : p < l.length) : pAt l p = l[p] := by simp [pAt, List.getD_eq_getElem?_getD, List.getElem?_eq_getElem h]
def pos (n h t : Nat) : Nat := (h + t) % n
theorem pos_lt {n : Nat} (hn : 0 < n) (h t : Nat) : pos n h t < n := Nat.mod_lt _ hn
theorem pos_succ (n h t : Nat) : (pos n h t + 1) % n = pos n h (t + 1) := by unfold pos; rw [Nat.mod_add_mod, Nat.add_assoc]
theorem pos_onto {n : Nat} (h : Nat) {z : Nat} (hz : z < n) : ∃ t, t < n ∧ pos n h t = z := by
  have e := Nat.div_add_mod h n
  have hr := Nat.mod_lt h (Nat.lt_of_le_of_lt (Nat.zero_le _) hz)
  generalize h / n = q at *
  generalize h % n = r at *
  by_cases hrz : r ≤ z
  · refine ⟨z - r, by omega, ?_⟩
    unfold pos
    rw [← e, show n * q + r + (z - r) = z + n * q by omega, Nat.add_mul_mod_self_left, Nat.mod_eq_of_lt hz]
  · refine ⟨z + n - r, by omega, ?_⟩
    unfold pos
    rw [← e, show n * q + r + (z + n - r) = z + n + n * q by omega, Nat.add_mul_mod_self_left, Nat.add_mod_right, Nat.mod_eq_of_lt hz]
theorem find_range {f : Nat → Bool} {n t : Nat} (ht : t < n) (hf : f t = true) (hl : ∀ s, s < t → f s = false) : (List.range n).find? f = some t := by
  rw [List.find?_range_eq_some]
  exact ⟨hf, List.mem_range.2 ht, fun s hs => by rw [hl s hs]; rfl⟩
/-- Does the search for k end here? -/
def stp (l : List Pl) (k : ByteArray) (p : Nat) : Bool := ((pAt l p).i == 0) || ((pAt l p).i == 1 && ((pAt l p).k.toList == k.toList))
def findT (l : List Pl) (k : ByteArray) (h : Nat) : Option Nat := (List.range l.length).find? fun t => stp l k (pos l.length h t)
def findP (l : List Pl) (k : ByteArray) (h : Nat) : Option Nat := match findT l k h with
  | some t => if (pAt l (pos l.length h t)).i == 0 then none else some (pos l.length h t)
  | none => none
theorem findP_of {l : List Pl} {k : ByteArray} {h t : Nat} (ht : t < l.length) (hs : stp l k (pos l.length h t) = true) (hl : ∀ s, s < t → stp l k (pos l.length h s) = false) :
    findP l k h = if (pAt l (pos l.length h t)).i == 0 then none else some (pos l.length h t) := by
  unfold findP
  rw [show findT l k h = some t from find_range ht hs hl]
set_option maxHeartbeats 4000000 in
set_option maxRecDepth 100000 in
theorem pfind_calls (w : World) (T o G : Nat) (l : List Pl) (e d : Int) (hP : PAt w T o G l e d) (k : ByteArray) (h : Nat) (hh : h < 18446744073709551616) (hlen : l.length ≤ 1000000) (hz : 0 < l.length → ∃ z, z < l.length ∧ (pAt l z).i = 0) :
    Calls Tryz.prog 103 #[.pointer (some ⟨T, o, none⟩), .string k, .int .u64 (h : Nat)] w fun e w' => e = .returned (.tuple #[.int .i64 ((findP l k h).getD 0 : Nat), .bool (findP l k h).isSome]) ∧ w = w' := by
  obtain ⟨a, h0, ha⟩ := hP.c0
  have HP := Lib.hid hP
  have HR := Lib.hid (room_calls w T o a l.length h0)
  clear hP
  by_cases hl0 : 0 < l.length
  case neg =>
    have hl00 : l.length = 0 := by omega
    have HZ : Hid (findP l k h = none) := Lib.hid (by unfold findP findT; rw [hl00]; rfl)
    have hn0 : ((l.length : Int) == 0) = true := by rw [hl00]; rfl
    go_enter Tryz.func103, Tryz.ntmps103
    go_wp2_with fail
    refine HR.out.mono ?_; rintro en w2 ⟨rfl, rfl⟩
    go_wp2_with fail
    go_ret2
    exact ⟨by rw [HZ.out]; rfl, rfl⟩
  case pos =>
    have hn0 : ((l.length : Int) == 0) = false := beq_eq_false_iff_ne.2 (by omega)
    obtain rfl := ha hl0
    have HF := Lib.hid (first_calls w T o _ l.length h0 hl0 hlen h hh)
    have HB := Lib.hid (fun i (hi : i < l.length) => behind_calls w T o _ l.length h0 hl0 hlen i hi)
    have HE : Hid (∃ t, t < l.length ∧ stp l k (pos l.length h t) = true) := Lib.hid (by
      obtain ⟨z, hz1, hz2⟩ := hz hl0
      obtain ⟨t, ht, rfl⟩ := pos_onto h hz1
      exact ⟨t, ht, by unfold stp; rw [hz2]; rfl⟩)
    clear ha hz
    go_enter Tryz.func103, Tryz.ntmps103
    go_wp2_with fail
    refine HR.out.mono ?_; rintro en w2 ⟨rfl, rfl⟩
    go_wp2_with fail
    refine HF.out.mono ?_; rintro en w2 ⟨rfl, rfl⟩
    go_wp2_with fail
    go_loopg [6, 7, 8] (l.length + 1) (fun g _ _ vi wr => ∃ t : Nat, vi = .int .i64 (pos l.length h t : Nat) ∧ t ≤ l.length ∧ l.length - t ≤ g ∧ Hid (∀ s, s < t → stp l k (pos l.length h s) = false) ∧ w = wr)
    case atStart => exact ⟨0, rfl, by omega, by omega, Lib.hid (fun s hs => absurd hs (by omega)), rfl⟩
    case round =>
      obtain ⟨t, rfl, ht, hg, HN, rfl⟩ := hrel
      have htl : t < l.length := by
        obtain ⟨t2, h1, h2⟩ := HE.out
        by_cases hc : t2 < t
        · rw [HN.out t2 hc] at h2; cases h2
        · omega
      have hpl := pos_lt hl0 h t
      have HS : Hid (stp l k (pos l.length h t) = false → ∀ s, s < t + 1 → stp l k (pos l.length h s) = false) := Lib.hid (fun he s hs => by
        by_cases hst : s < t
        · exact HN.out s hst
        · obtain rfl : s = t := by omega
          exact he)
      have HK := Lib.hid (fun hs => findP_of htl hs HN.out)
      have HBt := Lib.hid (HB.out _ hpl)
      rw [pos_succ] at HBt
      obtain ⟨hc0, hc1, -⟩ := HP.out.pl _ hpl
      have HQ := Lib.hid (pAt_lt hpl)
      generalize hpp : pos l.length h t = p at *
      have HST : Hid (stp l k p = ((l[p].i == 0) || (l[p].i == 1 && (l[p].k.toList == k.toList)))) := Lib.hid (by unfold stp; rw [HQ.out])
      rw [HQ.out] at HK
      generalize l[p] = q at *
      obtain ⟨qi, qk, qn⟩ := q
      have hc0 : w.cell? ⟨G, p * 3, none⟩ = some (.int .i64 qi) := hc0
      have hc1 : w.cell? ⟨G, p * 3 + 1, none⟩ = some (.string qk) := hc1
      have hpc : (p : Int) < (l.length : Int) := by omega
      cases hq0 : (qi == (0 : Int))
      case true =>
        have hq0n : (qi != (0 : Int)) = false := by show (!(qi == 0)) = _; rw [hq0]; rfl
        have HZ : Hid (findP l k h = none) := Lib.hid (by rw [HK.out (by rw [HST.out]; show ((qi == 0) || _) = true; rw [hq0]; rfl)]; show (if (qi == 0) = true then none else some p) = none; rw [hq0]; rfl)
        go_wp2_with fail
        go_ret2
        exact ⟨by rw [HZ.out]; rfl, rfl⟩
      case false =>
        have hq0n : (qi != (0 : Int)) = true := by show (!(qi == 0)) = _; rw [hq0]; rfl
        cases hq1 : (qi == (1 : Int))
        case false =>
          have HZ := Lib.hid (HS.out (by rw [HST.out]; show ((qi == 0) || ((qi == 1) && _)) = false; rw [hq0, hq1]; rfl))
          go_wp2_with fail
          refine HBt.out.mono ?_; rintro en w2 ⟨rfl, rfl⟩
          go_wp2_with fail
          go_roundg (gk - 1)
          case measure => omega
          case rel => exact ⟨t + 1, rfl, by omega, by omega, HZ, rfl⟩
        case true =>
          cases hq2 : (qk.toList == k.toList)
          case false =>
            have HZ := Lib.hid (HS.out (by rw [HST.out]; show ((qi == 0) || ((qi == 1) && (qk.toList == k.toList))) = false; rw [hq0, hq1, hq2]; rfl))
            go_wp2_with fail
            refine HBt.out.mono ?_; rintro en w2 ⟨rfl, rfl⟩
            go_wp2_with fail
            go_roundg (gk - 1)
            case measure => omega
            case rel => exact ⟨t + 1, rfl, by omega, by omega, HZ, rfl⟩
          case true =>
            have HZ : Hid (findP l k h = some p) := Lib.hid (by rw [HK.out (by rw [HST.out]; show ((qi == 0) || ((qi == 1) && (qk.toList == k.toList))) = true; rw [hq0, hq1, hq2]; rfl)]; show (if (qi == 0) = true then none else some p) = some p; rw [hq0]; rfl)
            go_wp2_with fail
            go_ret2
            exact ⟨by rw [HZ.out]; rfl, rfl⟩
end Go.Proofs.YtmjlhmohglbecaaGreatDoor.Ta
/- Package table's places: an entry comes (add), an entry goes (bury). Conditions: bounds; an empty place is there. -/
namespace Go.Proofs.YtmjlhmohglbecaaGreatDoor.Ta
open Go.ChangeShapes Go.WideShapes Go.ChangeAt Go.RowKit
theorem addr_ne {b c i j : Nat} (h : b ≠ c ∨ i ≠ j) : (⟨b, i, none⟩ : Addr) ≠ ⟨c, j, none⟩ := by
  intro e
  injection e with e1 e2
  rcases h with h | h
  · exact h e1
  · exact h e2
/-- Of w all blocks stand in w' but those that S names. -/
structure Fr (S : Nat → Prop) (w w' : World) : Prop where
  os : w'.os = w.os
  tape : w'.tape = w.tape
  output : w'.output = w.output
  size : w.heap.size ≤ w'.heap.size
  block : ∀ i, i < w.heap.size → ¬ S i → w'.heap[i]? = w.heap[i]?
theorem Fr.below {S : Nat → Prop} {B : Nat} {w w' : World} (h : Fr S w w') (hB : B ≤ w.heap.size) (hS : ∀ i, i < B → ¬ S i) : Below B w w' := ⟨h.os, h.tape, h.output, h.size, fun i hi => h.block i (Nat.lt_of_lt_of_le hi hB) (hS i hi)⟩
theorem Fr.of_below {S : Nat → Prop} {w w' : World} (h : Below w.heap.size w w') : Fr S w w' := ⟨h.os, h.tape, h.output, h.size, fun i hi _ => h.block i hi⟩
theorem Fr.trans {S : Nat → Prop} {a b c : World} (h : Fr S a b) (k : Fr S b c) : Fr S a c :=
  ⟨k.os.trans h.os, k.tape.trans h.tape, k.output.trans h.output, Nat.le_trans h.size k.size, fun i hi hs => (k.block i (Nat.lt_of_lt_of_le hi h.size) hs).trans (h.block i hi hs)⟩
theorem Fr.mono {S T : Nat → Prop} {a b : World} (h : Fr S a b) (hST : ∀ i, S i → T i) : Fr T a b := ⟨h.os, h.tape, h.output, h.size, fun i hi hs => h.block i hi fun hx => hs (hST i hx)⟩
theorem Fr.setCell {S : Nat → Prop} (w : World) (p : Addr) (hp : S p.block) (v : Value) : Fr S w (w.setCell p v) := by
  have h := Below.setCell (p := p) (Below.refl p.block w) (Nat.le_refl _) v
  refine ⟨h.os, h.tape, h.output, h.size, fun i hi hs => ?_⟩
  have hne : i ≠ p.block := fun e => hs (e ▸ hp)
  exact Below.heap_setCell w p v i hne
/-- Only the places at o of block T, with the list G, are other ones in w'; new blocks may be there. -/
structure Ch (T o G : Nat) (w w' : World) : Prop where
  fr : Fr (fun i => i = T ∨ i = G) w w'
  ot : ∀ i, (i < o ∨ o + 3 ≤ i) → w'.cell? ⟨T, i, none⟩ = w.cell? ⟨T, i, none⟩
  fz : ∀ a : Addr, a.block < w.heap.size → w'.frozen? a = w.frozen? a
theorem Ch.trans {T o G : Nat} {a b c : World} (h : Ch T o G a b) (k : Ch T o G b c) : Ch T o G a c :=
  ⟨h.fr.trans k.fr, fun i hi => (k.ot i hi).trans (h.ot i hi), fun x hx => (k.fz x (Nat.lt_of_lt_of_le hx h.fr.size)).trans (h.fz x hx)⟩
theorem Ch.of_below {T o G : Nat} {w w' : World} (hT : T < w.heap.size) (h : Below w.heap.size w w') : Ch T o G w w' :=
  ⟨Fr.of_below h, fun _ _ => h.cell hT, fun _ hx => h.frozen hx⟩
theorem PAt.lt {w : World} {T o G : Nat} {l : List Pl} {e d : Int} (h : PAt w T o G l e d) : T < w.heap.size := World.block_lt_of_cell? w _ h.c1
theorem PAt.ltG {w : World} {T o G : Nat} {l : List Pl} {e d : Int} (h : PAt w T o G l e d) (hl : 0 < l.length) : G < w.heap.size := World.block_lt_of_cell? w _ (h.pl 0 hl).1
/-- What touches neither the object nor its list. -/
theorem PAt.keep {w w' : World} {T o G : Nat} {l : List Pl} {e d : Int} (h : PAt w T o G l e d) (hc : ∀ i, i < 3 → w'.cell? ⟨T, o + i, none⟩ = w.cell? ⟨T, o + i, none⟩) (hf : ∀ i, w'.frozen? ⟨T, i, none⟩ = w.frozen? ⟨T, i, none⟩) (hg : 0 < l.length → w'.heap[G]? = w.heap[G]?) : PAt w' T o G l e d := by
  obtain ⟨a, h0, ha⟩ := h.c0
  refine ⟨⟨a, (hc 0 (by omega)).trans h0, ha⟩, (hc 1 (by omega)).trans h.c1, (hc 2 (by omega)).trans h.c2, fun i => (hf i).trans (h.ft i), fun j hj => ?_, fun hl i => ?_, h.ne⟩
  · have hg := hg (by omega)
    have := h.pl j hj
    simp only [World.cell?, hg] at this ⊢
    exact this
  · have := h.fg hl i
    simp only [World.frozen?, hg hl] at this ⊢
    exact this
theorem PAt.below {w w' : World} {T o G : Nat} {l : List Pl} {e d : Int} (h : PAt w T o G l e d) (hb : Below w.heap.size w w') : PAt w' T o G l e d :=
  h.keep (fun _ _ => hb.cell h.lt) (fun _ => hb.frozen h.lt) (fun hl => hb.block G (h.ltG hl))
/-- The other places of the same block. -/
theorem PAt.ch {w w' : World} {T o G o2 G2 : Nat} {l : List Pl} {e d : Int} (h : PAt w T o G l e d) (k : Ch T o2 G2 w w') (ho : o + 3 ≤ o2 ∨ o2 + 3 ≤ o) (hG : 0 < l.length → G ≠ G2) : PAt w' T o G l e d :=
  h.keep (fun i hi => k.ot (o + i) (by omega)) (fun i => k.fz _ h.lt) (fun hl => k.fr.block G (h.ltG hl) (by rintro (e | e); exact h.ne hl e; exact hG hl e))
theorem PAt.set_e {w : World} {T o G : Nat} {l : List Pl} {e d : Int} (h : PAt w T o G l e d) (e' : Int) : PAt (w.setCell ⟨T, o + 1, none⟩ (.int .i64 e')) T o G l e' d ∧ Ch T o G w (w.setCell ⟨T, o + 1, none⟩ (.int .i64 e')) := by
  obtain ⟨a, h0, ha⟩ := h.c0
  have ot : ∀ i, i ≠ o + 1 → (w.setCell ⟨T, o + 1, none⟩ (.int .i64 e')).cell? ⟨T, i, none⟩ = w.cell? ⟨T, i, none⟩ := fun i hi => World.cell?_setCell_other _ _ _ _ (addr_ne (.inr (fun e => hi e.symm)))
  refine ⟨⟨⟨a, (ot o (by omega)).trans h0, ha⟩, World.cell?_setCell_same w _ _ h.c1, (ot (o + 2) (by omega)).trans h.c2, fun i => by rw [World.frozen?_setCell]; exact h.ft i, fun j hj => ?_, fun hl i => by rw [World.frozen?_setCell]; exact h.fg hl i, h.ne⟩, Fr.setCell _ _ (.inl rfl) _, fun i hi => ot i (by omega), fun a _ => World.frozen?_setCell ..⟩
  have hn := h.ne (by omega)
  have og : ∀ i, (w.setCell ⟨T, o + 1, none⟩ (.int .i64 e')).cell? ⟨G, i, none⟩ = w.cell? ⟨G, i, none⟩ := fun i => World.cell?_setCell_other _ _ _ _ (addr_ne (.inl (fun e => hn e.symm)))
  rw [og, og, og]
  exact h.pl j hj
theorem PAt.set_d {w : World} {T o G : Nat} {l : List Pl} {e d : Int} (h : PAt w T o G l e d) (d' : Int) : PAt (w.setCell ⟨T, o + 2, none⟩ (.int .i64 d')) T o G l e d' ∧ Ch T o G w (w.setCell ⟨T, o + 2, none⟩ (.int .i64 d')) := by
  obtain ⟨a, h0, ha⟩ := h.c0
  have ot : ∀ i, i ≠ o + 2 → (w.setCell ⟨T, o + 2, none⟩ (.int .i64 d')).cell? ⟨T, i, none⟩ = w.cell? ⟨T, i, none⟩ := fun i hi => World.cell?_setCell_other _ _ _ _ (addr_ne (.inr (fun e => hi e.symm)))
  refine ⟨⟨⟨a, (ot o (by omega)).trans h0, ha⟩, (ot (o + 1) (by omega)).trans h.c1, World.cell?_setCell_same w _ _ h.c2, fun i => by rw [World.frozen?_setCell]; exact h.ft i, fun j hj => ?_, fun hl i => by rw [World.frozen?_setCell]; exact h.fg hl i, h.ne⟩, Fr.setCell _ _ (.inl rfl) _, fun i hi => ot i (by omega), fun a _ => World.frozen?_setCell ..⟩
  have hn := h.ne (by omega)
  have og : ∀ i, (w.setCell ⟨T, o + 2, none⟩ (.int .i64 d')).cell? ⟨G, i, none⟩ = w.cell? ⟨G, i, none⟩ := fun i => World.cell?_setCell_other _ _ _ _ (addr_ne (.inl (fun e => hn e.symm)))
  rw [og, og, og]
  exact h.pl j hj
def setPl (w : World) (G p : Nat) (q : Pl) : World := ((w.setCell ⟨G, p * 3, none⟩ (.int .i64 q.i)).setCell ⟨G, p * 3 + 1, none⟩ (.string q.k)).setCell ⟨G, p * 3 + 2, none⟩ (.int .i64 q.n)
theorem setPl_other {w : World} {G p : Nat} {q : Pl} {b i : Nat} (h : b ≠ G ∨ i < p * 3 ∨ p * 3 + 3 ≤ i) : (setPl w G p q).cell? ⟨b, i, none⟩ = w.cell? ⟨b, i, none⟩ := by
  unfold setPl
  rw [World.cell?_setCell_other _ _ _ _ (addr_ne (by omega)), World.cell?_setCell_other _ _ _ _ (addr_ne (by omega)), World.cell?_setCell_other _ _ _ _ (addr_ne (by omega))]
theorem PAt.set_pl {w : World} {T o G : Nat} {l : List Pl} {e d : Int} (h : PAt w T o G l e d) (p : Nat) (hp : p < l.length) (q : Pl) : PAt (setPl w G p q) T o G (l.set p q) e d ∧ Ch T o G w (setPl w G p q) := by
  obtain ⟨a, h0, ha⟩ := h.c0
  have hn := h.ne (by omega)
  have ot : ∀ i, (setPl w G p q).cell? ⟨T, i, none⟩ = w.cell? ⟨T, i, none⟩ := fun i => setPl_other (.inl (fun e => hn e.symm))
  have fz : ∀ a, (setPl w G p q).frozen? a = w.frozen? a := fun a => by unfold setPl; rw [World.frozen?_setCell, World.frozen?_setCell, World.frozen?_setCell]
  refine ⟨⟨⟨a, by rw [ot, List.length_set]; exact h0, by rw [List.length_set]; exact ha⟩, (ot _).trans h.c1, (ot _).trans h.c2, fun i => (fz _).trans (h.ft i), fun j hj => ?_, fun hl i => (fz _).trans (h.fg (by omega) i), fun _ => hn⟩, ?_, fun i _ => ot i, fun a _ => fz a⟩
  · by_cases hjp : j = p
    · subst hjp
      obtain ⟨k0, k1, k2⟩ := h.pl j hp
      rw [List.getElem_set_self]
      unfold setPl
      have a1 : (⟨G, j * 3 + 1, none⟩ : Addr) ≠ ⟨G, j * 3, none⟩ := addr_ne (.inr (by omega))
      have a2 : (⟨G, j * 3 + 2, none⟩ : Addr) ≠ ⟨G, j * 3, none⟩ := addr_ne (.inr (by omega))
      have a3 : (⟨G, j * 3 + 2, none⟩ : Addr) ≠ ⟨G, j * 3 + 1, none⟩ := addr_ne (.inr (by omega))
      refine ⟨?_, ?_, ?_⟩
      · rw [World.cell?_setCell_other _ _ _ _ a2, World.cell?_setCell_other _ _ _ _ a1]
        exact World.cell?_setCell_same w _ _ k0
      · rw [World.cell?_setCell_other _ _ _ _ a3]
        exact World.cell?_setCell_same _ _ _ ((World.cell?_setCell_other _ _ _ _ a1.symm).trans k1)
      · exact World.cell?_setCell_same _ _ _ ((World.cell?_setCell_other _ _ _ _ a3.symm).trans ((World.cell?_setCell_other _ _ _ _ a2.symm).trans k2))
    · rw [List.getElem_set_ne (fun e => hjp e.symm), setPl_other (by omega), setPl_other (by omega), setPl_other (by omega)]
      exact h.pl j (by rw [List.length_set] at hj; exact hj)
  · unfold setPl
    exact ((Fr.setCell _ ⟨G, p * 3, none⟩ (.inr rfl) _).trans (Fr.setCell _ ⟨G, p * 3 + 1, none⟩ (.inr rfl) _)).trans (Fr.setCell _ ⟨G, p * 3 + 2, none⟩ (.inr rfl) _)
def addT (l : List Pl) (h : Nat) : Nat := ((List.range l.length).find? fun t => !((pAt l (pos l.length h t)).i == 1)).getD 0
def addI (l : List Pl) (h : Nat) : Nat := pos l.length h (addT l h)
theorem addI_of {l : List Pl} {h t : Nat} (ht : t < l.length) (hs : ((pAt l (pos l.length h t)).i == 1) = false) (hl : ∀ s, s < t → ((pAt l (pos l.length h s)).i == 1) = true) : addI l h = pos l.length h t := by
  unfold addI addT
  rw [show (List.range l.length).find? (fun t => !((pAt l (pos l.length h t)).i == 1)) = some t from find_range ht (by rw [hs]; rfl) (fun s h2 => by rw [hl s h2]; rfl)]
  rfl
def graveI (l : List Pl) (p : Nat) : Bool := (pAt l p).i == 2
def addD (l : List Pl) (p : Nat) (d : Int) : Int := if graveI l p then d - 1 else d
theorem add_done0 {w : World} {T o G : Nat} {l : List Pl} {e d : Int} (h : PAt w T o G l e d) (p : Nat) (hp : p < l.length) (k : ByteArray) (n : Int) (hg : graveI l p = false) :
    PAt ((setPl w G p ⟨1, k, n⟩).setCell ⟨T, o + 1, none⟩ (.int .i64 (e + 1))) T o G (l.set p ⟨1, k, n⟩) (e + 1) (addD l p d) ∧ Ch T o G w ((setPl w G p ⟨1, k, n⟩).setCell ⟨T, o + 1, none⟩ (.int .i64 (e + 1))) := by
  have h1 := h.set_pl p hp ⟨1, k, n⟩
  have h2 := h1.1.set_e (e + 1)
  unfold addD
  rw [hg]
  exact ⟨h2.1, h1.2.trans h2.2⟩
theorem add_done1 {w : World} {T o G : Nat} {l : List Pl} {e d : Int} (h : PAt w T o G l e d) (p : Nat) (hp : p < l.length) (k : ByteArray) (n : Int) (hg : graveI l p = true) :
    PAt ((setPl (w.setCell ⟨T, o + 2, none⟩ (.int .i64 (d - 1))) G p ⟨1, k, n⟩).setCell ⟨T, o + 1, none⟩ (.int .i64 (e + 1))) T o G (l.set p ⟨1, k, n⟩) (e + 1) (addD l p d) ∧ Ch T o G w ((setPl (w.setCell ⟨T, o + 2, none⟩ (.int .i64 (d - 1))) G p ⟨1, k, n⟩).setCell ⟨T, o + 1, none⟩ (.int .i64 (e + 1))) := by
  have h0 := h.set_d (d - 1)
  have h1 := h0.1.set_pl p hp ⟨1, k, n⟩
  have h2 := h1.1.set_e (e + 1)
  unfold addD
  rw [hg]
  exact ⟨h2.1, (h0.2.trans h1.2).trans h2.2⟩
set_option maxHeartbeats 4000000 in
set_option maxRecDepth 100000 in
theorem add_calls (w : World) (T o G : Nat) (l : List Pl) (e d : Int) (hP : PAt w T o G l e d) (k : ByteArray) (h : Nat) (hh : h < 18446744073709551616) (n : Int) (hlen : l.length ≤ 1000000) (hl0 : 0 < l.length) (hz : ∃ z, z < l.length ∧ (pAt l z).i = 0) (he : 0 ≤ e ∧ e ≤ 1000000) (hd : 0 ≤ d ∧ d ≤ 1000000) :
    Calls Tryz.prog 101 #[.pointer (some ⟨T, o, none⟩), .string k, .int .u64 (h : Nat), .int .i64 n] w fun en w' => en = .returned (.tuple #[]) ∧ PAt w' T o G (l.set (addI l h) ⟨1, k, n⟩) (e + 1) (addD l (addI l h) d) ∧ Ch T o G w w' := by
  obtain ⟨a, h0, ha⟩ := hP.c0
  have HP := Lib.hid hP
  have h1 := hP.c1
  have h2 := hP.c2
  have hft := hP.ft
  have hfg := hP.fg hl0
  have hne := hP.ne hl0
  obtain rfl := ha hl0
  have HF := Lib.hid (first_calls w T o _ l.length h0 hl0 hlen h hh)
  have HB := Lib.hid (fun i (hi : i < l.length) => behind_calls w T o _ l.length h0 hl0 hlen i hi)
  have HE : Hid (∃ t, t < l.length ∧ ((pAt l (pos l.length h t)).i == 1) = false) := Lib.hid (by
    obtain ⟨z, hz1, hz2⟩ := hz
    obtain ⟨t, ht, rfl⟩ := pos_onto h hz1
    exact ⟨t, ht, by rw [hz2]; rfl⟩)
  have K1 : ∀ (W : World) v, (W.setCell ⟨T, o + 2, none⟩ v).cell? ⟨T, o, none⟩ = W.cell? ⟨T, o, none⟩ := fun W v => World.cell?_setCell_other _ _ _ _ (addr_ne (.inr (by omega)))
  have K2 : ∀ (W : World) v, (W.setCell ⟨T, o + 2, none⟩ v).cell? ⟨T, o + 1, none⟩ = W.cell? ⟨T, o + 1, none⟩ := fun W v => World.cell?_setCell_other _ _ _ _ (addr_ne (.inr (by omega)))
  have K3 : ∀ (W : World) v i, (W.setCell ⟨T, o + 2, none⟩ v).cell? ⟨G, i, none⟩ = W.cell? ⟨G, i, none⟩ := fun W v i => World.cell?_setCell_other _ _ _ _ (addr_ne (.inl (fun e => hne e.symm)))
  have K4 : ∀ (W : World) v i j, (W.setCell ⟨G, i, none⟩ v).cell? ⟨T, j, none⟩ = W.cell? ⟨T, j, none⟩ := fun W v i j => World.cell?_setCell_other _ _ _ _ (addr_ne (.inl hne))
  clear ha hz hP
  go_enter Tryz.func101, Tryz.ntmps101
  go_wp2_with fail
  refine HF.out.mono ?_; rintro en w2 ⟨rfl, rfl⟩
  go_wp2_with fail
  go_loopg [8] (l.length + 1) (fun g vi wr => ∃ t : Nat, vi = .int .i64 (pos l.length h t : Nat) ∧ t ≤ l.length ∧ l.length - t ≤ g ∧ Hid (∀ s, s < t → ((pAt l (pos l.length h s)).i == 1) = true) ∧ w = wr)
  case atStart => exact ⟨0, rfl, by omega, by omega, Lib.hid (fun s hs => absurd hs (by omega)), rfl⟩
  case round =>
    obtain ⟨t, rfl, ht, hg, HN, rfl⟩ := hrel
    have htl : t < l.length := by
      obtain ⟨t2, h1, h2⟩ := HE.out
      by_cases hc : t2 < t
      · rw [HN.out t2 hc] at h2; cases h2
      · omega
    have hpl := pos_lt hl0 h t
    have HS : Hid (((pAt l (pos l.length h t)).i == 1) = true → ∀ s, s < t + 1 → ((pAt l (pos l.length h s)).i == 1) = true) := Lib.hid (fun he s hs => by
      by_cases hst : s < t
      · exact HN.out s hst
      · obtain rfl : s = t := by omega
        exact he)
    have HK := Lib.hid (fun hs => addI_of htl hs HN.out)
    have HBt := Lib.hid (HB.out _ hpl)
    rw [pos_succ] at HBt
    obtain ⟨hc0, hc1, hc2⟩ := HP.out.pl _ hpl
    have HQ := Lib.hid (pAt_lt hpl)
    generalize hpp : pos l.length h t = p at *
    rw [HQ.out] at HS HK
    have hi0 : l[p].i = l[p].i := rfl
    generalize hqi : l[p].i = qi at *
    generalize l[p].k = qk at *
    generalize l[p].n = qn at *
    have hpc : (p : Int) < (l.length : Int) := by omega
    cases hq1 : (qi == (1 : Int))
    case true =>
      have HZ := Lib.hid (HS.out hq1)
      go_wp2_with fail
      refine HBt.out.mono ?_; rintro en w2 ⟨rfl, rfl⟩
      go_wp2_with fail
      go_roundg (gk - 1)
      case measure => omega
      case rel => exact ⟨t + 1, rfl, by omega, by omega, HZ, rfl⟩
    case false =>
      have HI := Lib.hid (HK.out hq1)
      cases hq2 : (qi == (2 : Int))
      case false =>
        have HZ := Lib.hid (add_done0 HP.out p hpl k n (by unfold graveI; rw [HQ.out, hqi]; exact hq2))
        go_wp2_with fail
        go_end0
        exact ⟨rfl, by rw [HI.out]; exact HZ.out.1, HZ.out.2⟩
      case true =>
        have HZ := Lib.hid (add_done1 HP.out p hpl k n (by unfold graveI; rw [HQ.out, hqi]; exact hq2))
        go_wp2_with fail
        go_end0
        exact ⟨rfl, by rw [HI.out]; exact HZ.out.1, HZ.out.2⟩
def gravePl : Pl := ⟨2, ⟨#[]⟩, 0⟩
theorem bury_done {w : World} {T o G : Nat} {l : List Pl} {e d : Int} (h : PAt w T o G l e d) (p : Nat) (hp : p < l.length) (A : Obj) :
    PAt (((((setPl w G p gravePl).setCell ⟨T, o + 1, none⟩ (.int .i64 (e - 1))).setCell ⟨T, o + 2, none⟩ (.int .i64 (d + 1))).alloc A).alloc A) T o G (l.set p gravePl) (e - 1) (d + 1) ∧ Ch T o G w (((((setPl w G p gravePl).setCell ⟨T, o + 1, none⟩ (.int .i64 (e - 1))).setCell ⟨T, o + 2, none⟩ (.int .i64 (d + 1))).alloc A).alloc A) := by
  have h1 := h.set_pl p hp gravePl
  have h2 := h1.1.set_e (e - 1)
  have h3 := h2.1.set_d (d + 1)
  have hb := bstep (bbox (w := ((setPl w G p gravePl).setCell ⟨T, o + 1, none⟩ (.int .i64 (e - 1))).setCell ⟨T, o + 2, none⟩ (.int .i64 (d + 1))) A) (bbox A)
  exact ⟨h3.1.below hb, ((h1.2.trans h2.2).trans h3.2).trans (Ch.of_below h3.1.lt hb)⟩
theorem iPl2 : (Tryz.prog.info? 93).map (·.size) = some 3 := by kernel_rfl
set_option maxHeartbeats 4000000 in
set_option maxRecDepth 100000 in
theorem bury_calls (w : World) (T o G : Nat) (l : List Pl) (e d : Int) (hP : PAt w T o G l e d) (p : Nat) (hp : p < l.length) (hlen : l.length ≤ 1000000) (he : 0 ≤ e ∧ e ≤ 1000000) (hd : 0 ≤ d ∧ d ≤ 1000000) :
    Calls Tryz.prog 100 #[.pointer (some ⟨T, o, none⟩), .int .i64 (p : Nat)] w fun en w' => en = .returned (.agg #[.int .i64 (pAt l p).i, .string (pAt l p).k, .int .i64 (pAt l p).n]) ∧ PAt w' T o G (l.set p gravePl) (e - 1) (d + 1) ∧ Ch T o G w w' := by
  obtain ⟨a, h0, ha⟩ := hP.c0
  have HP := Lib.hid hP
  have h1 := hP.c1
  have h2 := hP.c2
  have hft := hP.ft
  have hl0 : 0 < l.length := by omega
  have hfg := hP.fg hl0
  have hne := hP.ne hl0
  have hTl := hP.lt
  have hGl := hP.ltG hl0
  obtain rfl := ha hl0
  have hpc : (p : Int) < (l.length : Int) := by omega
  obtain ⟨hc0, hc1, hc2⟩ := hP.pl _ hp
  have HQ := Lib.hid (pAt_lt hp)
  generalize hqi : l[p].i = qi at *
  generalize hqk : l[p].k = qk at *
  generalize hqn : l[p].n = qn at *
  have K2 : ∀ (W : World) v, (W.setCell ⟨T, o + 1, none⟩ v).cell? ⟨T, o + 2, none⟩ = W.cell? ⟨T, o + 2, none⟩ := fun W v => World.cell?_setCell_other _ _ _ _ (addr_ne (.inr (by omega)))
  have K4 : ∀ (W : World) v i j, (W.setCell ⟨G, i, none⟩ v).cell? ⟨T, j, none⟩ = W.cell? ⟨T, j, none⟩ := fun W v i j => World.cell?_setCell_other _ _ _ _ (addr_ne (.inl hne))
  have HZ := Lib.hid (bury_done hP p hp (.cells #[.int .i64 qi, .string qk, .int .i64 qn] 93))
  clear ha hP
  go_enter Tryz.func100, Tryz.ntmps100
  go_wp2_with fail
  have hws : (((((w.setCell ⟨G, p * 3, none⟩ (.int .i64 2)).setCell ⟨G, p * 3 + 1, none⟩ (.string ⟨#[]⟩)).setCell ⟨G, p * 3 + 2, none⟩ (.int .i64 0)).setCell ⟨T, o + 1, none⟩ (.int .i64 (e - 1))).setCell ⟨T, o + 2, none⟩ (.int .i64 (d + 1))).heap.size = w.heap.size := by simp only [World.size_setCell]
  unfold setPl gravePl at HZ
  generalize (((((w.setCell ⟨G, p * 3, none⟩ (.int .i64 2)).setCell ⟨G, p * 3 + 1, none⟩ (.string ⟨#[]⟩)).setCell ⟨G, p * 3 + 2, none⟩ (.int .i64 0)).setCell ⟨T, o + 1, none⟩ (.int .i64 (e - 1))).setCell ⟨T, o + 2, none⟩ (.int .i64 (d + 1))) = W at *
  refine bodyPost_ret (results_cell_row rfl _ _ w.heap.size 93 #[.int .i64 qi, .string qk, .int .i64 qn] (0, 0) _ rfl ?hg Tryz.underlying93 rfl iPl2) rfl ⟨?_, HZ.out⟩
  case hg => rw [← hws, heap_alloc_old _ _ (r := W.heap.size) (by simp), heap_alloc_new]
  rw [HQ.out, hqi, hqk, hqn]
end Go.Proofs.YtmjlhmohglbecaaGreatDoor.Ta
