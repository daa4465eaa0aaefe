/- Package table: two tables side by side; the checking package's Same of two rows with the same texts. No condition. -/
import Derived.Test.YtpbblijnfigapaaTap
import Derived.Test.YtpbblijnfigapaaTak
import Derived.Deep.QuietTactic
import Derived.BigQuiet
import Derived.Deep.RegionHeld3
namespace Go.Proofs.Ytpbblijnfigapaa.Ta
open Go.ChangeShapes Go.WideShapes Go.ChangeAt Go.RowKit
/-- The tables s at T and u at U, apart from each other and from the blocks X, at block b0 or above; what lay below in the world o stands. -/
def TT (b0 : Nat) (o : World) (X : Nat → Prop) (T U : Nat) (w : World) (s u : St) : Prop :=
  b0 ≤ o.heap.size ∧ 0 < s.now.length ∧ 0 < u.now.length ∧ (∀ x, X x → x < w.heap.size) ∧ (∃ A B C D, TAt w T A B s ∧ TAt w U C D u ∧ (∀ j, own T A B s j → b0 ≤ j ∧ ¬ own U C D u j ∧ ¬ X j) ∧ (∀ j, own U C D u j → b0 ≤ j ∧ ¬ X j)) ∧ Fr (fun j => b0 ≤ j) o w
theorem TT.swap {b0 : Nat} {o : World} {X : Nat → Prop} {T U : Nat} {w : World} {s u : St} (h : TT b0 o X T U w s u) : TT b0 o X U T w u s := by
  obtain ⟨a, b, c, d, ⟨A, B, C, D, e, f, g, k⟩, l⟩ := h
  exact ⟨a, c, b, d, ⟨C, D, A, B, f, e, fun j hj => ⟨(k j hj).1, fun e => (g j e).2.1 hj, (k j hj).2⟩, fun j hj => ⟨(g j hj).1, (g j hj).2.2⟩⟩, l⟩
theorem TT.bel {b0 : Nat} {o : World} {X : Nat → Prop} {T U : Nat} {w w' : World} {s u : St} (h : TT b0 o X T U w s u) (hw : Below w.heap.size w w') : TT b0 o X T U w' s u := by
  obtain ⟨a, b, c, d, ⟨A, B, C, D, e, f, g, k⟩, l⟩ := h
  exact ⟨a, b, c, fun x hx => Nat.lt_of_lt_of_le (d x hx) hw.size, ⟨A, B, C, D, e.below hw, f.below hw, g, k⟩, l.trans (Fr.of_below hw)⟩
theorem TT.box {b0 : Nat} {o : World} {X : Nat → Prop} {T U : Nat} {w : World} {s u : St} (h : TT b0 o X T U w s u) (O : Obj) : TT b0 o (fun x => x = w.heap.size) T U (w.alloc O) s u := by
  obtain ⟨a, b, c, d, ⟨A, B, C, D, e, f, g, k⟩, l⟩ := h.bel (bbox O)
  obtain ⟨-, -, -, -, ⟨A', B', C', D', e', f', g', k'⟩, -⟩ := h
  refine ⟨a, b, c, fun x hx => by subst hx; simp, ⟨A', B', C', D', e'.below (bbox O), f'.below (bbox O), fun j hj => ⟨(g' j hj).1, (g' j hj).2.1, fun e0 => ?_⟩, fun j hj => ⟨(k' j hj).1, fun e0 => ?_⟩⟩, l⟩
  · have := e'.lts b hj; omega
  · have := f'.lts c hj; omega
theorem TT.free {b0 : Nat} {o : World} {X : Nat → Prop} {T U : Nat} {w : World} {s u : St} (h : TT b0 o X T U w s u) : TT b0 o (fun _ => False) T U w s u := by
  obtain ⟨a, b, c, -, ⟨A, B, C, D, e, f, g, k⟩, l⟩ := h
  exact ⟨a, b, c, fun _ hx => hx.elim, ⟨A, B, C, D, e, f, fun j hj => ⟨(g j hj).1, (g j hj).2.1, id⟩, fun j hj => ⟨(k j hj).1, id⟩⟩, l⟩
theorem TT.moved {b0 : Nat} {o : World} {X : Nat → Prop} {T U A B C D : Nat} {w w' : World} {s s' u : St} (a : b0 ≤ o.heap.size) (c : 0 < u.now.length) (d : ∀ x, X x → x < w.heap.size) (f : TAt w U C D u) (g : ∀ j, own T A B s j → b0 ≤ j ∧ ¬ own U C D u j ∧ ¬ X j) (k : ∀ j, own U C D u j → b0 ≤ j ∧ ¬ X j) (l : Fr (fun j => b0 ≤ j) o w) (b' : 0 < s'.now.length) (m : Moved T A B s w s' w') :
    TT b0 o X T U w' s' u ∧ ∀ x, X x → w'.heap[x]? = w.heap[x]? := by
  obtain ⟨H1, H2, m1, m2, m3⟩ := m
  refine ⟨⟨a, b', c, fun x hx => Nat.lt_of_lt_of_le (d x hx) m2.size, ⟨H1, H2, C, D, m1, f.fr c m2 (fun e => (g _ e).2.1 (.inl rfl)) (fun e => (g _ e).2.1 (.inr (.inl rfl))) (fun hn e => (g _ e).2.1 (.inr (.inr ⟨hn, rfl⟩))), fun j hj => ?_, k⟩, l.trans (m2.mono fun j hj => (g j hj).1)⟩, fun x hx => m2.block x (d x hx) (fun e => (g x e).2.2 hx)⟩
  rcases m3 j hj with e | e
  · exact g j e
  · have := l.size
    exact ⟨by omega, fun e2 => by have := f.lts c e2; omega, fun e2 => by have := d j e2; omega⟩
theorem TT.put {b0 : Nat} {o : World} {X : Nat → Prop} {T U : Nat} {w : World} {s u : St} (h : TT b0 o X T U w s u) (hO : OkS 0 s) (hl : lenS s ≤ 511) (k : ByteArray) (hk1 : k.size ≤ 1000) (v : Int) :
    Calls Try.prog 11 #[.pointer (some ⟨T, 0, none⟩), .string k, .int .i64 v] w fun en w' => ∃ r, en = .returned r ∧ r = .bool (fnd (step s) k (hk k)).isNone ∧ TT b0 o X T U w' (putS (step s) k v) u ∧ ∀ x, X x → w'.heap[x]? = w.heap[x]? := by
  obtain ⟨a, -, c, d, ⟨A, B, C, D, e, f, g, kk⟩, l⟩ := h
  have hp := (putS_ok (step_ok hO) (by rw [step_len hO]; exact hl) k hk1 v).1.p1.facts
  exact (put_calls w T A B s e hO hl k hk1 v).mono fun _ _ ⟨x, y⟩ => ⟨_, x, rfl, TT.moved a c d f g kk l (by omega) y⟩
theorem TT.clear {b0 : Nat} {o : World} {X : Nat → Prop} {T U : Nat} {w : World} {s u : St} (h : TT b0 o X T U w s u) :
    Calls Try.prog 18 #[.pointer (some ⟨T, 0, none⟩)] w fun en w' => en = .returned (.tuple #[]) ∧ TT b0 o X T U w' newS u := by
  obtain ⟨a, -, c, d, ⟨A, B, C, D, e, f, g, kk⟩, l⟩ := h
  exact (clear_calls w T A B s e).mono fun _ _ ⟨x, y⟩ => ⟨x, (TT.moved a c d f g kk l (by decide) y).1⟩
theorem TT.len {b0 : Nat} {o : World} {X : Nat → Prop} {T U : Nat} {w : World} {s u : St} (h : TT b0 o X T U w s u) {c : Int} (hO : Ok c s) :
    Calls Try.prog 12 #[.pointer (some ⟨T, 0, none⟩)] w fun e w' => e = .returned (.int .i64 (lenS s)) ∧ Below w.heap.size w w' := by
  obtain ⟨-, -, -, -, ⟨A, B, -, -, e, -, -, -⟩, -⟩ := h
  refine (len_calls w T A B s e hO).mono ?_
  rintro _ w' ⟨rfl, m, rfl⟩
  exact ⟨rfl, drewN_below w m⟩
theorem TT.room {b0 : Nat} {o : World} {X : Nat → Prop} {T U : Nat} {w : World} {s u : St} (h : TT b0 o X T U w s u) :
    Calls Try.prog 15 #[.pointer (some ⟨T, 0, none⟩)] w fun e w' => e = .returned (.tuple #[.int .i64 (s.now.length : Nat), .int .i64 (s.nxt.length : Nat)]) ∧ Below w.heap.size w w' := by
  obtain ⟨-, -, -, -, ⟨A, B, -, -, e, -, -, -⟩, -⟩ := h
  refine (room2_calls w T A B s e).mono ?_
  rintro _ w' ⟨rfl, m, rfl⟩
  exact ⟨rfl, drewN_below w m⟩
theorem TT.keys {b0 : Nat} {o : World} {X : Nat → Prop} {T U : Nat} {w : World} {s u : St} (h : TT b0 o X T U w s u) {c : Int} (hO : Ok c s) :
    Calls Try.prog 14 #[.pointer (some ⟨T, 0, none⟩)] w fun e w' => ∃ g k, e = .returned (.slice (some ⟨g, 0, none⟩) (keysS s).length k) ∧ InSt w' g (keysS s) ∧ Below w.heap.size w w' := by
  obtain ⟨-, -, -, -, ⟨A, B, -, -, e, -, -, -⟩, -⟩ := h
  refine (keys_calls w T A B s e hO).mono ?_
  rintro _ w' ⟨g, k, he, -, hI, hB⟩
  exact ⟨g, k, he, hI, hB⟩
theorem TT.below {b0 : Nat} {o : World} {X : Nat → Prop} {T U : Nat} {w : World} {s u : St} (h : TT b0 o X T U w s u) : Below b0 o w := h.2.2.2.2.2.below h.1 (fun i hi => by omega)
theorem TT.new {w w1 w2 : World} (h1 : TAt w1 (w.heap.size + 2) (w.heap.size + 1) (w.heap.size + 1) newS) (b1 : Below w.heap.size w w1) (h2 : TAt w2 (w1.heap.size + 2) (w1.heap.size + 1) (w1.heap.size + 1) newS) (b2 : Below w1.heap.size w1 w2) :
    TT w.heap.size w (fun _ => False) (w.heap.size + 2) (w1.heap.size + 2) w2 newS newS := by
  have l1 := h1.a.lt
  have e0 := b1.size
  have hw : ∀ j, own (w.heap.size + 2) (w.heap.size + 1) (w.heap.size + 1) newS j → w.heap.size ≤ j ∧ j < w1.heap.size := fun j hj => by
    rcases hj with e | e | ⟨e, -⟩
    · omega
    · omega
    · exact absurd e (Nat.lt_irrefl _)
  have hw2 : ∀ j, own (w1.heap.size + 2) (w1.heap.size + 1) (w1.heap.size + 1) newS j → w1.heap.size ≤ j := fun j hj => by
    rcases hj with e | e | ⟨e, -⟩
    · omega
    · omega
    · exact absurd e (Nat.lt_irrefl _)
  exact ⟨Nat.le_refl _, by decide, by decide, fun _ hx => hx.elim, ⟨_, _, _, _, h1.below b2, h2, fun j hj => ⟨(hw j hj).1, fun e => by have := hw2 j e; have := hw j hj; omega, id⟩, fun j hj => ⟨by have := hw2 j hj; omega, id⟩⟩, (Fr.of_below b1).trans (Fr.of_below b2)⟩
set_option maxHeartbeats 8000000 in
set_option maxRecDepth 1000000 in
theorem same_calls (w : World) (a a' : Nat) (c c' : Nat) (l : List (List UInt8)) (hl : l.length ≤ 100000) (hin : InSt w a l) (hin' : InSt w a' l) :
    Calls Try.prog 19 #[.slice (some ⟨a, 0, none⟩) l.length c, .slice (some ⟨a', 0, none⟩) l.length c'] w fun e w' => e = .returned (.bool true) ∧ Below w.heap.size w w' := by
  have HI := Lib.hid hin
  have HI' := Lib.hid hin'
  clear hin hin'
  go_enter Try.func19, Try.ntmps19
  go_wp2_with fail
  go_loopw [5, 13] (fun _ vi wr => ∃ k : Nat, vi = .int .i64 k ∧ k ≤ l.length ∧ Below w.heap.size w wr) (fun _ vi _ => l.length - (intOf vi).toNat)
  case atStart => exact ⟨0, rfl, by omega, Below.refl _ _⟩
  case round =>
    obtain ⟨k, rfl, hk, hB⟩ := hrel
    have HB := Lib.hid hB
    clear hB
    by_cases hlt : k < l.length
    · have hcell := (HI.out.below HB.out).2 k hlt
      have hcell' := (HI'.out.below HB.out).2 k hlt
      generalize (⟨l[k].toArray⟩ : ByteArray) = S at *
      go_wp2_with fail
      go_quiet (fail)
      go_wp2_with fail
      go_roundw
      case rel => exact ⟨k + 1, by go_num, by omega, HB.out.trans ⟨rfl, rfl, rfl, Nat.le_refl _, fun _ _ => rfl⟩⟩
      case measure => simp [intOf]; omega
    · obtain rfl : k = l.length := by omega
      go_wp2_with fail
      go_ret
      exact ⟨rfl, HB.out⟩
theorem enters_put : ∀ args w, (callFunc 11 args).run Try.prog w = .ok (.enter 11 args) w := enters_of_fn Try.func11 (by kernel_rfl) rfl
end Go.Proofs.Ytpbblijnfigapaa.Ta
