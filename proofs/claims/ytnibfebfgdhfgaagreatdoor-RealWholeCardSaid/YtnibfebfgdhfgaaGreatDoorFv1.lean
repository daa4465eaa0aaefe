/- Package real's Parse where the library's reader makes memory of its own. Conditions: the tables hold what start-up lays. -/
import Derived.Test.YtnibfebfgdhfgaaGreatDoorFwy
import Derived.Test.YtnibfebfgdhfgaaGreatDoorFwz
namespace Go.Proofs.YtnibfebfgdhfgaaGreatDoor
open Go.ChangeShapes Go.WideShapes Go.ChangeAt Go.RowKit Go.Sort

theorem iparseB (s : ByteArray) (n : Nat) (hn : n = s.size) (b : Nat) (er : Value) (w : World)
    (h : Calls Tryz.prog 46 #[.string s] w fun e w' => e = .returned (.tuple #[.float .f64 b, .int .i64 n, er]) ∧ Below w.heap.size w w') :
    Calls Tryz.prog 21 #[.string s, .int .i64 64] w fun e w' => e = .returned (.tuple #[.float .f64 b, er]) ∧ Below w.heap.size w w' := by
  have H := Lib.hid h
  have hk : ((n : Int) != (s.size : Int)) = false := by rw [bne_eq_false_iff_eq]; omega
  clear h hn
  have hp : Calls Tryz.prog 25 #[.string s, .int .i64 64] w fun e w' => e = .returned (.tuple #[.float .f64 b, .int .i64 n, er]) ∧ Below w.heap.size w w' := by
    go_enter Tryz.func25, Tryz.ntmps25
    go_wp2_with fail
    refine H.out.mono ?_; rintro en w' ⟨rfl, hb⟩
    go_wp2_with fail
    go_ret3
    exact ⟨rfl, hb⟩
  have HP := Lib.hid hp
  clear hp
  go_enter Tryz.func21, Tryz.ntmps21
  go_wp2_with fail
  refine HP.out.mono ?_; rintro en w' ⟨rfl, hb⟩
  go_wp2_with fail
  go_ret2
  exact ⟨rfl, hb⟩
theorem parseFloat_okB (s : ByteArray) (n : Nat) (hn : n = s.size) (b : Nat) (w : World)
    (h : Calls Tryz.prog 46 #[.string s] w fun e w' => e = .returned (.tuple #[.float .f64 b, .int .i64 n, .nilIface]) ∧ Below w.heap.size w w') :
    Calls Tryz.prog 16 #[.string s, .int .i64 64] w fun e w' => e = .returned (.tuple #[.float .f64 b, .nilIface]) ∧ Below w.heap.size w w' := by
  have HP := Lib.hid (iparseB s n hn b .nilIface w h)
  clear h hn
  go_enter Tryz.func16, Tryz.ntmps16
  go_wp2_with fail
  refine HP.out.mono ?_; rintro en w' ⟨rfl, hb⟩
  go_wp2_with fail
  go_ret2
  exact ⟨rfl, hb⟩
set_option maxRecDepth 100000 in
/-- real.Parse at a text that is decimal, and no number's own word. -/
theorem realParse_okB (s : ByteArray) (e1 : (s.toList == [105, 110, 102]) = false) (e2 : (s.toList == [45, 105, 110, 102]) = false) (e3 : (s.toList == [110, 97, 110]) = false) (hs : s.size ≤ 64) (n : Nat) (hn : n = s.size) (b : Nat) (w : World) (hc : RCtx w)
    (hd : ∀ W, Calls Tryz.prog 15 #[.string s] W fun e w' => e = .returned (.bool true) ∧ ∃ n, w' = W.drewN n)
    (h : ∀ W, RCtx W → Calls Tryz.prog 46 #[.string s] W fun e w' => e = .returned (.tuple #[.float .f64 b, .int .i64 n, .nilIface]) ∧ Below W.heap.size W w') :
    Calls Tryz.prog 9 #[.string s] w fun e w' => e = .returned (.tuple #[.float .f64 b, .int .i64 0]) ∧ Below w.heap.size w w' := by
  have HD := Lib.hid hd
  have HP := Lib.hid (fun W hW => parseFloat_okB s n hn b W (h W hW))
  have Hc := Lib.hid hc
  clear hd h hn hc
  go_enter Tryz.func9, Tryz.ntmps9
  go_wp2_with fail
  refine (HD.out _).mono ?_; rintro en w' ⟨rfl, n1, rfl⟩
  go_wp2_with fail
  refine (HP.out _ (Hc.out.below (below_drewN _ _))).mono ?_; rintro en w' ⟨rfl, hb⟩
  go_wp2_with fail
  go_ret2
  exact ⟨rfl, bstep (below_drewN w n1) hb⟩
theorem same_below {P : Program} {f : FuncId} {args : Array Value} {w : World} {v : Value} (h : Calls P f args w fun e w' => e = .returned v ∧ w = w') : Calls P f args w fun e w' => e = .returned v ∧ Below w.heap.size w w' :=
  h.mono fun _ _ ⟨a, b⟩ => ⟨a, by subst b; exact Below.refl _ _⟩
end Go.Proofs.YtnibfebfgdhfgaaGreatDoor
