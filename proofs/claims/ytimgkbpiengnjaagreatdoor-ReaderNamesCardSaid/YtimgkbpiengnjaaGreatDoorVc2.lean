/- A region that draws its order and whose callees make memory, walked once: the library's theorem over a class of worlds, at the class 'what lay there stands'. -/
import Derived.Test.YtimgkbpiengnjaaGreatDoorVc1
import Derived.Deep.Quiet
namespace Go.Proofs.YtimgkbpiengnjaaGreatDoor
open Go.ChangeShapes Go.WideShapes Go.ChangeAt Go.RowKit

/-- The class: the worlds that F names. -/
theorem wp_region_class {P : Program} {id : Nat} {Q : Exit → Act → World → Prop} {a : Act} {w : World} {l : List Oper} {T : Type} (F : T → World) (hm : P.follows .mixedOrders = true) (hB : Region.lexB .any l.toArray = true)
    (h0 : ∃ x, w.drew = F x) (h : wpQuiet P l.toArray (fun w' => ∃ x, w' = F x) (fun a' => ∀ w', (∃ x, w' = F x) → Q .normal a' w') l a) : (Code.region id l.toArray true).wp P Q a w :=
  wp_region_quiet (C := fun w' => ∃ x, w' = F x) hm hB h0 (by simpa using h)
/-- All worlds in which what lay in w stands. -/
def Over (w : World) : Type := { x : World // Below w.heap.size w x }
instance (w : World) : Nonempty (Over w) := ⟨⟨w, Below.refl _ _⟩⟩
theorem over (w : World) : ∃ F : Over w → World, (∀ x, Below w.heap.size w (F x)) ∧ (∃ x, w.drew = F x) ∧ (∀ x w', Below (F x).heap.size (F x) w' → ∃ y, w' = F y) ∧ (∀ x, F x = x.1) :=
  ⟨fun x => x.1, fun x => x.2, ⟨⟨w.drew, (Below.refl _ _).drew⟩, rfl⟩, fun x w' h => ⟨⟨w', x.2.trans (h.mono x.2.size)⟩, rfl⟩, fun _ => rfl⟩
/-- A call of the class whose contract lets new blocks be made. -/
theorem quiet_over {P : Program} {f : FuncId} {args : Array Value} {w : World} {F : Over w → World} (hF : ∀ x w', Below (F x).heap.size (F x) w' → ∃ y, w' = F y) {x : Over w} {v : Value}
    (h : Calls P f args (F x) fun e w' => e = .returned v ∧ Below (F x).heap.size (F x) w') : Calls P f args (F x) fun e w' => e = .returned v ∧ ∃ y, w' = F y :=
  h.mono fun _ _ ⟨he, hb⟩ => ⟨he, hF _ _ hb⟩
/-- .. whose contract says that the world is as it was. -/
theorem quiet_same {P : Program} {f : FuncId} {args : Array Value} {w : World} {F : Over w → World} {x : Over w} {v : Value}
    (h : Calls P f args (F x) fun e w' => e = .returned v ∧ F x = w') : Calls P f args (F x) fun e w' => e = .returned v ∧ ∃ y, w' = F y :=
  h.mono fun _ _ ⟨he, hb⟩ => ⟨he, x, hb.symm⟩

def bigB : List UInt8 → Bool
  | 45 :: l => !l.isEmpty && l.all fun b => decide (48 ≤ b.toNat ∧ b.toNat ≤ 57)
  | l => !l.isEmpty && l.all fun b => decide (48 ≤ b.toNat ∧ b.toNat ≤ 57)
def textB (k : Int) (t : List UInt8) : Bool :=
  decide (t.length ≤ 4096) && (if k = 1 ∨ k = 2 then !(t.any fun b => b == 13 || b == 10) else if k = 4 ∨ k = 10 then true else if k = 9 then bigB t
    else if k = 11 then decide (4 ≤ t.length) && t.getD 3 0 == 58 else if 3 ≤ k ∧ k ≤ 14 then t.isEmpty else false)
/-- What the walk asks of textFits at a kind and a text. -/
def Fits (k : Int) (t : ByteArray) : Prop := ∀ w : World, Calls Tryz.prog 42 #[.int .i64 k, .string t] w fun e w' => e = .returned (.bool (textB k t.data.toList)) ∧ Below w.heap.size w w'
def Val.fits : Val → Prop
  | .no => False
  | .mk k t _ _ _ _ _ n K => Fits k t ∧ ∀ i, i < n → (K i).fits
def Val.kind : Val → Int
  | .no => 0
  | .mk k _ _ _ _ _ _ _ _ => k
def good : Val → Nat → Bool
  | .no, _ => false
  | .mk k t z r f _ _ n K, d => ownB k z r f && textB k t.data.toList && listB k n && !(lists k && d == 0) && allTo (fun i => (K i).kind != 14 && good (K i) (d - 1)) n

def Righted (v : Val) (d left L : Nat) (w : World) (e : Ending) (w' : World) : Prop :=
  ∃ x : Int, e = .returned (.bool (good v d && decide (v.count ≤ left))) ∧ Below L w w' ∧ w'.cell? ⟨L, 0, none⟩ = some (.int .i64 x) ∧ w'.frozen? ⟨L, 0, none⟩ = false ∧ L < w'.heap.size ∧ (good v d = true → v.count ≤ left → x = ((left - v.count : Nat) : Int))

/-- The test at the head of isRight: how it ends where left is at least one. -/
def headB (k : Int) (t : ByteArray) (z : Int) (r : Nat) (f : Bool) (n : Nat) : Bool := ownB k z r f && textB k t.data.toList && listB k n
set_option maxHeartbeats 4000000 in
set_option maxRecDepth 100000 in
theorem isRight_head (k : Int) (t : ByteArray) (z : Int) (r : Nat) (f : Bool) (a : Option Addr) (c n : Nat) (K : Nat → Val) (w : World) (b o L left d : Nat) (hbL : b < L) (ha : At w b o (.mk k t z r f a c n K)) (hr : r < 18446744073709551616) (hn : n ≤ 9223372036854775807) (hT : Fits k t)
    (hL : w.cell? ⟨L, 0, none⟩ = some (.int .i64 left)) (hfr : w.frozen? ⟨L, 0, none⟩ = false) (hLs : L < w.heap.size) (hl1 : left ≤ 4611686018427387904) (hl0 : 0 < left)
    (hh : headB k t z r f n = false) :
    Calls Tryz.prog 28 #[.pointer (some ⟨b, o, none⟩), .int .i64 d, .pointer (some ⟨L, 0, none⟩)] w (Righted (.mk k t z r f a c n K) d left L w) := by
  have hlw : IntKind.i64.wrap ((left : Int) - 1) = (left : Int) - 1 := IntWalk.i64_in _ (by omega)
  have hW0 : Below L w (w.setCell ⟨L, 0, none⟩ (.int .i64 ((left : Int) - 1))) := Below.setCell (p := ⟨L, 0, none⟩) (Below.refl L w) (Nat.le_refl _) _
  have hLc : (w.setCell ⟨L, 0, none⟩ (.int .i64 ((left : Int) - 1))).cell? ⟨L, 0, none⟩ = some (.int .i64 ((left : Int) - 1)) := World.cell?_setCell_same w _ _ hL
  have hLf : (w.setCell ⟨L, 0, none⟩ (.int .i64 ((left : Int) - 1))).frozen? ⟨L, 0, none⟩ = false := by rw [World.frozen?_setCell]; exact hfr
  have hLz : L < (w.setCell ⟨L, 0, none⟩ (.int .i64 ((left : Int) - 1))).heap.size := by simpa using hLs
  have hfin : ∀ w2 x, Below (w.setCell ⟨L, 0, none⟩ (.int .i64 ((left : Int) - 1))).heap.size (w.setCell ⟨L, 0, none⟩ (.int .i64 ((left : Int) - 1))) w2 → x = false →
      Righted (.mk k t z r f a c n K) d left L w (.returned (.bool x)) w2 := by
    intro w2 x hb hx
    subst hx
    have hg : good (.mk k t z r f a c n K) d = false := by
      show (ownB k z r f && textB k t.data.toList && listB k n && _ && _) = false
      unfold headB at hh
      rw [hh]; rfl
    refine ⟨_, by rw [hg]; rfl, hW0.trans (hb.mono (Nat.le_of_lt hLz)), (hb.cell (p := ⟨L, 0, none⟩) hLz).trans hLc, (hb.frozen (p := ⟨L, 0, none⟩) hLz).trans hLf, Nat.lt_of_lt_of_le hLz hb.size, fun h => ?_⟩
    rw [hg] at h
    cases h
  have hcls : b < (w.setCell ⟨L, 0, none⟩ (.int .i64 ((left : Int) - 1))).heap.size := Nat.lt_trans hbL hLz
  have ha1 := ha.below hW0 hbL
  obtain ⟨x0, -, -, -, -, -⟩ := ha
  have hneg : decide ((left : Int) - 1 < 0) = false := decide_eq_false (by omega)
  have Hfin := Lib.hid hfin
  have Hcls := Lib.hid hcls
  have Ha1 := Lib.hid ha1
  have HLc := Lib.hid hLc
  have HT := Lib.hid hT
  have Hlt := Lib.hid hLz
  unfold headB at hh
  clear hfin hcls ha1 hW0 hT hLf hLz
  cases ho : ownB k z r f
  · clear hlw hLc hh
    go_enter Tryz.func28, Tryz.ntmps28
    go_wp2_with fail
    generalize hW1 : w.setCell _ _ = W1 at *
    obtain ⟨F, F1, F2, F3, -⟩ := over W1
    have hFL : ∀ x, (F x).cell? ⟨L, 0, none⟩ = some (.int .i64 ((left : Int) - 1)) := fun x => ((F1 x).cell (p := ⟨L, 0, none⟩) Hlt.out).trans HLc.out
    have HO : Hid (∀ x, Calls _ _ _ _ _) := Lib.hid fun x => hasOwn_calls k t z r f a c n K (F x) b o (Ha1.out.below (F1 x) Hcls.out) hr
    rw [ho] at HO
    have HF1 := Lib.hid F1
    have HF3 := Lib.hid F3
    clear F1 F3 ho
    refine wp_region_class F (by kernel_rfl) (by kernel_rfl) F2 ?_
    repeat (go_big_quiet_step ((go_at_call 41; exact quiet_same (HO.out _))))
    refine wpQuiet_nil ?_
    intro _ hw'
    obtain ⟨x1, hw2⟩ := hw'
    subst hw2
    go_wp2_with fail
    go_ret
    exact Hfin.out _ _ (HF1.out x1) rfl
  cases ht : textB k t.data.toList
  · clear hlw hLc hh
    go_enter Tryz.func28, Tryz.ntmps28
    go_wp2_with fail
    generalize hW1 : w.setCell _ _ = W1 at *
    obtain ⟨F, F1, F2, F3, -⟩ := over W1
    have hFL : ∀ x, (F x).cell? ⟨L, 0, none⟩ = some (.int .i64 ((left : Int) - 1)) := fun x => ((F1 x).cell (p := ⟨L, 0, none⟩) Hlt.out).trans HLc.out
    have HO : Hid (∀ x, Calls _ _ _ _ _) := Lib.hid fun x => hasOwn_calls k t z r f a c n K (F x) b o (Ha1.out.below (F1 x) Hcls.out) hr
    rw [ho] at HO
    have hF0 : ∀ x, (F x).cell? ⟨b, o, none⟩ = some (.int .i64 k) := fun x => (Ha1.out.below (F1 x) Hcls.out).1
    have hF1 : ∀ x, (F x).cell? ⟨b, o + 1, none⟩ = some (.string t) := fun x => (Ha1.out.below (F1 x) Hcls.out).2.1
    have HT2 : Hid (∀ x, Calls _ _ _ (F x) _) := Lib.hid fun x => HT.out (F x)
    rw [ht] at HT2
    have HF1 := Lib.hid F1
    have HF3 := Lib.hid F3
    clear F1 F3 ho ht
    refine wp_region_class F (by kernel_rfl) (by kernel_rfl) F2 ?_
    repeat (go_big_quiet_step (first | (go_at_call 41; exact quiet_same (HO.out _)) | (go_at_call 42; exact quiet_over HF3.out (HT2.out _))))
    refine wpQuiet_nil ?_
    intro _ hw'
    obtain ⟨x1, hw2⟩ := hw'
    subst hw2
    go_wp2_with fail
    go_ret
    exact Hfin.out _ _ (HF1.out x1) rfl
  have hl : listB k n = false := by rw [ho, ht] at hh; exact hh
  clear hlw hLc hh
  go_enter Tryz.func28, Tryz.ntmps28
  go_wp2_with fail
  generalize hW1 : w.setCell _ _ = W1 at *
  obtain ⟨F, F1, F2, F3, -⟩ := over W1
  have hFL : ∀ x, (F x).cell? ⟨L, 0, none⟩ = some (.int .i64 ((left : Int) - 1)) := fun x => ((F1 x).cell (p := ⟨L, 0, none⟩) Hlt.out).trans HLc.out
  have HO : Hid (∀ x, Calls _ _ _ _ _) := Lib.hid fun x => hasOwn_calls k t z r f a c n K (F x) b o (Ha1.out.below (F1 x) Hcls.out) hr
  rw [ho] at HO
  have hF0 : ∀ x, (F x).cell? ⟨b, o, none⟩ = some (.int .i64 k) := fun x => (Ha1.out.below (F1 x) Hcls.out).1
  have hF1 : ∀ x, (F x).cell? ⟨b, o + 1, none⟩ = some (.string t) := fun x => (Ha1.out.below (F1 x) Hcls.out).2.1
  have hF5 : ∀ x, (F x).cell? ⟨b, o + 5, none⟩ = some (.slice a n c) := fun x => (Ha1.out.below (F1 x) Hcls.out).2.2.2.2.2
  have HT2 : Hid (∀ x, Calls _ _ _ (F x) _) := Lib.hid fun x => HT.out (F x)
  rw [ht] at HT2
  have HL2 : Hid (∀ x, Calls _ _ _ (F x) _) := Lib.hid fun x => listFits_calls k n hn (F x)
  rw [hl] at HL2
  have HF1 := Lib.hid F1
  have HF3 := Lib.hid F3
  clear F1 F3 ho ht hl
  refine wp_region_class F (by kernel_rfl) (by kernel_rfl) F2 ?_
  repeat (go_big_quiet_step (first | (go_at_call 41; exact quiet_same (HO.out _)) | (go_at_call 42; exact quiet_over HF3.out (HT2.out _)) | (go_at_call 43; exact quiet_same (HL2.out _))))
  refine wpQuiet_nil ?_
  intro _ hw'
  obtain ⟨x1, hw2⟩ := hw'
  subst hw2
  go_wp2_with fail
  go_ret
  exact Hfin.out _ _ (HF1.out x1) rfl
end Go.Proofs.YtimgkbpiengnjaaGreatDoor
