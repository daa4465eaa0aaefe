/- Package expiry: follow. Conditions: turns as they lie; bounds. -/
import Derived.Test.YtmjlhmohglbecaaGreatDoorEd1
import Derived.Test.YtmjlhmohglbecaaGreatDoorEf1
namespace Go.Proofs.YtmjlhmohglbecaaGreatDoor.Ea
open Go.ChangeShapes Go.WideShapes Go.ChangeAt Go.RowKit
set_option maxHeartbeats 4000000 in
set_option maxRecDepth 100000 in
theorem follow_calls {w0 w1 w : World} {t : Nat} {vh : Value} {l : List En} {S : Nat → Prop} {ps : List Nat} (hh : HpAt w0 vh l) (h : TQ w0 t vh l S w1 ps w) (hH : Hp (leB (ltT l)) ps ps.length) (hl : ps.length < 1000000000) (p : Nat) :
    Calls Tryz.prog 111 #[.pointer (some ⟨t, 0, none⟩), .int .i64 p] w fun e w' => e = .returned (.tuple #[]) ∧ ∃ ps', TQ w0 t vh l S w1 ps' w' ∧ List.Perm ps' (ps ++ if p < l.length then [p] else []) ∧ Hp (leB (ltT l)) ps' ps'.length := by
  have HH := Lib.hid hh
  have HT := Lib.hid h
  obtain ⟨vp, hT, -, -⟩ := h
  have c0 := hT.c0
  have HL := Lib.hid hH
  obtain ⟨a, c, rfl, -, -, -⟩ := hh.slice
  clear hT hH hh
  by_cases hp : p < l.length
  case pos =>
    have hpc : (p : Int) < (l.length : Int) := by omega
    have HP := Lib.hid (push_calls (ifaceT w0 t (.slice a l.length c) l HH.out S w1) (ordT l) w ps p (.iface 3 (num p)) hl (pushT HT.out p (by omega) hp) HL.out)
    unfold num at HP
    go_enter Tryz.func111, Tryz.ntmps111
    go_wp2_with fail
    refine HP.out.mono ?_; rintro en w2 ⟨rfl, ps', h1, h2, h3⟩
    have HZ := Lib.hid (And.intro h1 (And.intro h2 h3))
    clear h1 h2 h3 HP
    go_wp2_with fail
    go_end0
    obtain ⟨h1, h2, h3⟩ := HZ.out
    refine ⟨rfl, ps', h1, h2, ?_⟩
    have := h2.length_eq
    rw [List.length_append] at this
    rw [this]; exact h3
  case neg =>
    have hpc : ¬ (p : Int) < (l.length : Int) := by omega
    go_enter Tryz.func111, Tryz.ntmps111
    go_wp2_with fail
    go_end0
    exact ⟨rfl, ps, HT.out, List.Perm.refl _, HL.out⟩
end Go.Proofs.YtmjlhmohglbecaaGreatDoor.Ea
