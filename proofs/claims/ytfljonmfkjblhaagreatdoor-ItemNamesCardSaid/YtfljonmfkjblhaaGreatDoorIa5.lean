/- item.find: where a hash has a field, or would have it. Conditions: the fields' names rise. -/
import Derived.Test.YtfljonmfkjblhaaGreatDoorIa4
import Derived.Laws.Externs
import Derived.Laws.Shifts
namespace Go.Proofs.YtfljonmfkjblhaaGreatDoor.Ia
open Go.ChangeShapes Go.WideShapes Go.ChangeAt Go.RowKit
@[go_sem] theorem call_cmp (a b : ByteArray) (w : World) : (callFunc 44 #[.string a, .string b]).run Tryz.prog w = .ok (.value (.int .i64 (Lib.compareBytes a.data.toList b.data.toList))) w := by
  rw [run_callFunc_extern Tryz.func44 (by kernel_rfl) (by kernel_rfl) (by kernel_rfl) (e := Extern.BytealgCompare.compare) (by kernel_rfl), Lib.run_compareString]
  rfl
theorem cmps_calls (w : World) (a b : ByteArray) :
    Calls Tryz.prog 35 #[.string a, .string b] w fun e w' => e = .returned (.int .i64 (Lib.compareBytes a.data.toList b.data.toList)) ∧ w = w' := by
  go_enter Tryz.func35, Tryz.ntmps35
  go_wp2_with fail
  go_ret
  exact ⟨rfl, rfl⟩
theorem compare_calls (w : World) (a b : ByteArray) :
    Calls Tryz.prog 23 #[.string a, .string b] w fun e w' => e = .returned (.int .i64 (Lib.compareBytes a.data.toList b.data.toList)) ∧ w = w' := by
  go_enter Tryz.func23, Tryz.ntmps23
  go_wp2_with fail
  refine (cmps_calls _ a b).mono ?_
  rintro e w2 ⟨rfl, rfl⟩
  go_wp2_with fail
  go_ret
  exact ⟨rfl, rfl⟩
theorem cmpF_calls (w : World) (x t n : ByteArray) :
    Calls Tryz.prog 22 #[.agg #[.string x, .string t], .string n] w fun e w' => e = .returned (.int .i64 (Lib.compareBytes x.data.toList n.data.toList)) ∧ ∃ o, w' = w.alloc o := by
  go_enter Tryz.func22, Tryz.ntmps22
  go_wp2_with fail
  refine (compare_calls _ x n).mono ?_
  rintro e w2 ⟨rfl, rfl⟩
  go_wp2_with fail
  go_ret
  exact ⟨rfl, _, rfl⟩
theorem lt_data (a b : ByteArray) : Op.bytesLess a.data.toList b.data.toList = lt a b := by unfold lt; rw [ByteArray.toList_eq, ByteArray.toList_eq]
/-- What the comparison of a field's name says of where the field stands. -/
theorem Split.cmp {n : ByteArray} {l A M B : List Fd} (h : Split n l A M B) {i : Nat} (hi : i < l.length) :
    (i < A.length → Lib.compareBytes l[i].1.data.toList n.data.toList < 0) ∧ (A.length ≤ i → ¬ Lib.compareBytes l[i].1.data.toList n.data.toList < 0) ∧ (A.length ≤ i → i < A.length + M.length → Lib.compareBytes l[i].1.data.toList n.data.toList = 0) ∧ (A.length + M.length ≤ i → ¬ Lib.compareBytes l[i].1.data.toList n.data.toList = 0) := by
  have hml := h.ml
  refine ⟨fun ha => ?_, fun ha hc => ?_, fun ha hb => ?_, fun hb hc => ?_⟩
  · rw [cmp_neg, lt_data]; exact h.at_a hi ha
  · rw [cmp_neg, lt_data] at hc
    by_cases hm : i < A.length + M.length
    · have e := h.at_m hi (by omega) (by omega)
      rw [e, lt_irrefl] at hc
      cases hc
    · have := lt_asymm (h.at_b hi (by omega))
      rw [this] at hc
      cases hc
  · have e := h.at_m hi (by omega) (by omega)
    rw [e, cmp_zero]
  · rw [cmp_zero] at hc
    have h1 := h.at_b hi hb
    have h2 : l[i].1 = n := ba_eq (by rw [ByteArray.toList_eq, ByteArray.toList_eq]; exact hc)
    rw [h2, lt_irrefl] at h1
    cases h1
set_option maxHeartbeats 4000000 in
set_option maxRecDepth 100000 in
theorem bsearch_calls (w : World) (a : Option Addr) (c len : Nat) (n : ByteArray) (l A M B : List Fd) (hs : Split n l A M B) (hlen : len = l.length) (hl : l.length ≤ 1000000) (hI : InF w a l) :
    Calls Tryz.prog 21 #[.slice a len c, .string n, .func (.func 22) #[] #[]] w fun e w' => e = .returned (.tuple #[.int .i64 A.length, .bool (there M)]) ∧ Below w.heap.size w w' := by
  subst hlen
  have HI := Lib.hid hI
  have HL := Lib.hid hs.len
  have HC := Lib.hid (fun i (hi : i < l.length) => hs.cmp hi)
  have HR := Lib.hid (fun i (hi : i < l.length) => cmp_rng l[i].1.data.toList n.data.toList)
  have HM : Hid ((0 < M.length → there M = true) ∧ (¬ 0 < M.length → there M = false)) := Lib.hid (by cases M <;> simp [there])
  have hml := hs.ml
  clear hI hs
  go_enter Tryz.func21, Tryz.ntmps21
  go_wp2_with fail
  have hAl : A.length ≤ l.length := by have := HL.out; omega
  go_loopg [9, 10, 11] (l.length + 1) (fun g iv jv _ wr => ∃ i j : Nat, iv = .int .i64 i ∧ jv = .int .i64 j ∧ i ≤ j ∧ j ≤ l.length ∧ i ≤ A.length ∧ A.length ≤ j ∧ j - i ≤ g ∧ Hid (Below w.heap.size w wr))
  case atStart => exact ⟨0, l.length, rfl, rfl, by omega, by omega, by omega, by omega, by omega, Lib.hid (Below.refl _ _)⟩
  case round =>
    obtain ⟨i, j, rfl, rfl, hij, hj, hi, hA, hg, HB⟩ := hrel
    by_cases hlt : i < j
    · have hc : (i : Int) < (j : Int) := by omega
      obtain ⟨m, hm⟩ : ∃ m : Nat, m = (i + j) / 2 := ⟨_, rfl⟩
      have hml2 : m < l.length := by omega
      have hmi : ((i : Int) + (j : Int)) / 2 = (m : Int) := by omega
      have hmc : (m : Int) < (l.length : Int) := by omega
      obtain ⟨b, o, rfl, hlt2, hcs⟩ := HI.out (by omega)
      obtain ⟨c0, c1⟩ := hcs m hml2
      have e : ∀ j, wr.cell? ⟨b, j, none⟩ = w.cell? ⟨b, j, none⟩ := fun j => HB.out.cell (p := ⟨b, j, none⟩) hlt2
      rw [← e] at c0 c1
      obtain ⟨k1, k2, -, -⟩ := HC.out m hml2
      have hrg := HR.out m hml2
      clear hcs e hlt2 hm
      generalize l[m] = q at *
      obtain ⟨x, y⟩ := q
      have c0 : wr.cell? ⟨b, o + m * 2, none⟩ = some (.string x) := c0
      have c1 : wr.cell? ⟨b, o + m * 2 + 1, none⟩ = some (.string y) := c1
      have k1 : m < A.length → Lib.compareBytes x.data.toList n.data.toList < 0 := k1
      have k2 : A.length ≤ m → 0 ≤ Lib.compareBytes x.data.toList n.data.toList := k2
      have HCm := Lib.hid (cmpF_calls wr x y n)
      generalize Lib.compareBytes x.data.toList n.data.toList = z at *
      have hB2 := Lib.hid (fun O => bstep HB.out (bbox (w := wr) O))
      by_cases hmA : m < A.length
      · have hz := k1 hmA
        clear k1 k2
        go_wp2_with fail
        refine HCm.out.mono ?_
        rintro e w2 ⟨rfl, O, rfl⟩
        go_wp2_with fail
        go_roundg (gk - 1)
        case measure => omega
        case rel => exact ⟨m + 1, j, by go_num, rfl, by omega, by omega, by omega, by omega, by omega, Lib.hid (hB2.out _)⟩
      · have hz := k2 (by omega)
        clear k1 k2
        go_wp2_with fail
        refine HCm.out.mono ?_
        rintro e w2 ⟨rfl, O, rfl⟩
        go_wp2_with fail
        go_roundg (gk - 1)
        case measure => omega
        case rel => exact ⟨i, m, rfl, by go_num, by omega, by omega, by omega, by omega, by omega, Lib.hid (hB2.out _)⟩
    · have hc : ¬ (i : Int) < (j : Int) := by omega
      obtain rfl : i = j := by omega
      obtain rfl : i = A.length := by omega
      by_cases hAl2 : A.length < l.length
      · have hAc : (A.length : Int) < (l.length : Int) := by omega
        obtain ⟨b, o, rfl, hlt2, hcs⟩ := HI.out (by omega)
        obtain ⟨c0, c1⟩ := hcs A.length hAl2
        have e : ∀ j, wr.cell? ⟨b, j, none⟩ = w.cell? ⟨b, j, none⟩ := fun j => HB.out.cell (p := ⟨b, j, none⟩) hlt2
        rw [← e] at c0 c1
        obtain ⟨-, -, k3, k4⟩ := HC.out A.length hAl2
        have hrg := HR.out A.length hAl2
        clear hcs e hlt2
        generalize l[A.length] = q at *
        obtain ⟨x, y⟩ := q
        have c0 : wr.cell? ⟨b, o + A.length * 2, none⟩ = some (.string x) := c0
        have c1 : wr.cell? ⟨b, o + A.length * 2 + 1, none⟩ = some (.string y) := c1
        have k3 : A.length ≤ A.length → A.length < A.length + M.length → Lib.compareBytes x.data.toList n.data.toList = 0 := k3
        have k4 : A.length + M.length ≤ A.length → ¬ Lib.compareBytes x.data.toList n.data.toList = 0 := k4
        have HCm := Lib.hid (cmpF_calls wr x y n)
        generalize Lib.compareBytes x.data.toList n.data.toList = z at *
        have hB2 := Lib.hid (fun O => bstep HB.out (bbox (w := wr) O))
        by_cases hm : 0 < M.length
        · have hz := k3 (Nat.le_refl _) (by omega)
          subst hz
          have HZ : Hid (there M = true) := Lib.hid (HM.out.1 hm)
          clear k3 k4
          go_wp2_with fail
          refine HCm.out.mono ?_
          rintro e w2 ⟨rfl, O, rfl⟩
          go_wp2_with fail
          go_ret2
          exact ⟨by rw [HZ.out]; rfl, hB2.out _⟩
        · have hz := k4 (by omega)
          have hzb : (z == 0) = false := by rw [beq_eq_false_iff_ne]; exact hz
          have HZ : Hid (there M = false) := Lib.hid (HM.out.2 hm)
          clear k3 k4
          go_wp2_with fail
          refine HCm.out.mono ?_
          rintro e w2 ⟨rfl, O, rfl⟩
          go_wp2_with fail
          go_ret2
          exact ⟨by rw [HZ.out]; rfl, hB2.out _⟩
      · have hAc : ¬ (A.length : Int) < (l.length : Int) := by omega
        have HZ : Hid (there M = false) := Lib.hid (HM.out.2 (by have := HL.out; omega))
        go_wp2_with fail
        go_ret2
        exact ⟨by rw [HZ.out]; rfl, HB.out⟩
set_option maxHeartbeats 4000000 in
set_option maxRecDepth 100000 in
theorem find_calls (w : World) (k : Int) (t : ByteArray) (a : Option Addr) (c len : Nat) (n : ByteArray) (l A M B : List Fd) (hs : Split n l A M B) (hlen : len = l.length) (hl : l.length ≤ 1000000) (hI : InF w a l) (hk : k = 0 ∨ k = 2) :
    Calls Tryz.prog 10 #[.agg #[.int .i64 k, .string t, .slice a len c], .string n] w fun e w' => e = .returned (.tuple #[.int .i64 A.length, .bool (there M), .int .i64 0]) ∧ Below w.heap.size w w' := by
  subst hlen
  have HF := Lib.hid (fun O => bsearch_calls (w.alloc O) a c _ n l A M B hs rfl hl (hI.below (Nat.le_refl _) (bbox O)))
  clear hI hs
  rcases hk with rfl | rfl
  · go_enter Tryz.func10, Tryz.ntmps10
    go_wp2_with fail
    refine (HF.out _).mono ?_
    rintro e w2 ⟨rfl, hb⟩
    have HB := Lib.hid hb
    clear hb
    go_wp2_with fail
    go_ret3
    exact ⟨rfl, bstep (bbox _) HB.out⟩
  · go_enter Tryz.func10, Tryz.ntmps10
    go_wp2_with fail
    refine (HF.out _).mono ?_
    rintro e w2 ⟨rfl, hb⟩
    have HB := Lib.hid hb
    clear hb
    go_wp2_with fail
    go_ret3
    exact ⟨rfl, bstep (bbox _) HB.out⟩
theorem find_kind (w : World) (k : Int) (t : ByteArray) (v : Value) (n : ByteArray) (hk : k ≠ 0 ∧ k ≠ 2) :
    Calls Tryz.prog 10 #[.agg #[.int .i64 k, .string t, v], .string n] w fun e w' => e = .returned (.tuple #[.int .i64 0, .bool false, .int .i64 91]) ∧ Below w.heap.size w w' := by
  have h1 : (k != 0) = true := by rw [bne_iff_ne]; exact hk.1
  have h2 : (k != 2) = true := by rw [bne_iff_ne]; exact hk.2
  clear hk
  go_enter Tryz.func10, Tryz.ntmps10
  go_wp2_with fail
  go_ret3
  exact ⟨rfl, bbox _⟩
end Go.Proofs.YtfljonmfkjblhaaGreatDoor.Ia
