/- Package table's Hash, at any key. No condition but a bound. -/
import Derived.Test.YtpbblijnfigapaaRows
import Derived.WalkKit
import Derived.ProofKit
import Derived.OpenShut
import Derived.WalkSmall
import Derived.WalkSpells
import Derived.WalkLawsBesides
import Derived.Outline
import Derived.Lib.Hide
import Derived.Deep.RegionWith
import Derived.Deep.LoopGhost
import Derived.OwnWalk
import Derived.IntWalk
import Derived.Laws.AppendOwn
import Derived.Laws.IdiomStrings
import Derived.Laws.BitsAllLaws
import Derived.Lib.Strings
namespace Go.Proofs.Ytpbblijnfigapaa.Ta
open Go.ChangeShapes Go.WideShapes Go.ChangeAt Go.RowKit
theorem bstep {a b c : World} (h : Below a.heap.size a b) (k : Below b.heap.size b c) : Below a.heap.size a c := h.trans (k.mono h.size)
theorem bbox {w : World} (o : Obj) : Below w.heap.size w (w.alloc o) := (Below.refl _ _).alloc (Nat.le_refl _) o
/-- A key's hash, byte by byte. -/
def hstep (h c : Nat) : Nat := (h ^^^ c) * 1099511628211 % 18446744073709551616
def hini : Nat := 14695981039346656037
def fold8 (f : Nat → Nat → Nat) (z : Nat) : List UInt8 → Nat
  | [] => z
  | c :: r => fold8 f (f z c.toNat) r
theorem fold8_app (f : Nat → Nat → Nat) (c : UInt8) : ∀ (l : List UInt8) (z : Nat), fold8 f z (l ++ [c]) = f (fold8 f z l) c.toNat
  | [], _ => rfl
  | d :: r, z => fold8_app f c r (f z d.toNat)
def hsh (l : List UInt8) : Nat := fold8 hstep hini l
theorem hsh_app (l : List UInt8) (c : UInt8) : hsh (l ++ [c]) = hstep (hsh l) c.toNat := fold8_app hstep c l hini
theorem hstep_lt (h c : Nat) : hstep h c < 18446744073709551616 := by
  unfold hstep; omega
theorem hsh_lt (l : List UInt8) : hsh l < 18446744073709551616 := by
  rcases List.eq_nil_or_concat l with rfl | ⟨l, c, rfl⟩
  · show (14695981039346656037 : Nat) < 18446744073709551616; omega
  · rw [List.concat_eq_append, hsh_app]; exact hstep_lt _ _
theorem bits_hash (h c : Nat) (hh : h < 18446744073709551616) (hc : c < 256) : IntKind.u64.wrap (bits .xor .u64 (h : Int) (c : Int) * 1099511628211) = (hstep h c : Nat) := by
  rw [u64_xor_nat h c hh (Nat.lt_trans hc (by omega)), IntKind.wrap_u64]
  unfold hstep
  generalize h ^^^ c = x
  omega
theorem hash_wrap (c : Nat) (hc : c < 256) : IntKind.u64.wrap (c : Int) = c := by
  rw [IntKind.wrap_u64]; omega
abbrev hk (k : ByteArray) : Nat := hsh k.data.toList
set_option maxHeartbeats 4000000 in
set_option maxRecDepth 100000 in
theorem hash_calls (w : World) (s : ByteArray) (hl : s.size ≤ 140737488351232) :
    Calls Try.prog 17 #[.string s] w fun e w' => e = .returned (.int .u64 (hk s : Nat)) ∧ w = w' := by
  obtain ⟨f, hf⟩ : ∃ f : Nat → Nat, f = fun j => hsh (s.data.toList.take j) := ⟨_, rfl⟩
  have F0 : Hid (f 0 = 14695981039346656037) := Lib.hid (by rw [hf]; rfl)
  have FS : Hid (f s.size = hk s) := Lib.hid (by rw [hf]; show hsh (List.take s.data.toList.length s.data.toList) = _; rw [List.take_length])
  have F1 : Hid (∀ j (h : j < s.size), f (j + 1) = hstep (f j) (s[j]'h).toNat) := Lib.hid (fun j h => by
    have h' : j < s.data.toList.length := h
    rw [hf]
    show hsh (List.take (j + 1) s.data.toList) = _
    rw [← List.take_append_getElem h', hsh_app]
    simp only [Array.getElem_toList, ByteArray.getElem_eq_getElem_data])
  have FL : Hid (∀ j, f j < 18446744073709551616) := Lib.hid (fun j => by rw [hf]; exact hsh_lt _)
  clear hf
  go_enter Try.func17, Try.ntmps17
  go_wp2_with fail
  go_loopg [3, 4, 7] (s.size + 1) (fun g vh _ vi wr => ∃ j : Nat, vi = .int .i64 j ∧ j ≤ s.size ∧ s.size - j ≤ g ∧ vh = .int .u64 (f j : Nat) ∧ w = wr)
  case atStart => exact ⟨0, rfl, by omega, by omega, by rw [F0.out]; rfl, rfl⟩
  case round =>
    obtain ⟨j, rfl, hj, hg, rfl, rfl⟩ := hrel
    by_cases hjl : j < s.size
    case neg =>
      have hjs : j = s.size := by omega
      have hjc : ¬ ((j : Int) < (s.size : Int)) := by omega
      go_wp2_with fail
      go_ret
      exact ⟨by rw [← FS.out]; rfl, rfl⟩
    case pos =>
      have hjc : (j : Int) < (s.size : Int) := by omega
      have HT := Lib.hid (F1.out j hjl)
      have HL := Lib.hid (FL.out j)
      generalize f j = q at *
      generalize hcb : (s[j]'hjl).toNat = cb at *
      have hcb2 : Hid (cb < 256) := Lib.hid (by rw [← hcb]; exact UInt8.toNat_lt _)
      go_wp2_with fail
      go_roundg (gk - 1)
      case measure => omega
      case rel => exact ⟨j + 1, by go_num, by omega, by omega, by rw [hash_wrap cb hcb2.out, bits_hash q cb HL.out hcb2.out, HT.out], rfl⟩
end Go.Proofs.Ytpbblijnfigapaa.Ta
