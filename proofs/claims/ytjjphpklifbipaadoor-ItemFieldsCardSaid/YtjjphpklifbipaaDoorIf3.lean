/- ItemFields. No condition. -/
import Derived.Test.YtjjphpklifbipaaDoorIf2
import Derived.Test.YtjjphpklifbipaaDoorIc8
namespace Go.Proofs.YtjjphpklifbipaaDoor.Ia
open Go.ChangeShapes Go.WideShapes Go.ChangeAt Go.RowKit Go.Maps Go.WideMaps
theorem FM.start {o : World} (T : TypeId) {w : World} (hb : Below o.heap.size o w) : FM o (((w.alloc (.cells #[.int .i64 0, .string ⟨#[]⟩, .slice none 0 0] T)).alloc (.cells #[.int .i64 0, .string ⟨#[]⟩, .slice none 0 0] T)).alloc (.map #[] 0)) w.heap.size (w.heap.size + 1) (w.heap.size + 2) ⟨0, ⟨#[]⟩, []⟩ ⟨0, ⟨#[]⟩, []⟩ none none 0 0 (.map []) 0 := by
  have X1 := Bx.new (W := w) (i := ⟨0, ⟨#[]⟩, []⟩) (InF.nil _ none) (Nat.le_refl 0) (by omega) T
  have X2 := Bx.new (W := w.alloc (.cells #[.int .i64 0, .string ⟨#[]⟩, .slice none 0 0] T)) (i := ⟨0, ⟨#[]⟩, []⟩) (InF.nil _ none) (Nat.le_refl 0) (by omega) T
  have hz1 : (w.alloc (.cells #[.int .i64 0, .string ⟨#[]⟩, .slice none 0 0] T)).heap.size = w.heap.size + 1 := by simp
  rw [hz1] at X2
  have M := World.ownsMap_made ((w.alloc (.cells #[.int .i64 0, .string ⟨#[]⟩, .slice none 0 0] T)).alloc (.cells #[.int .i64 0, .string ⟨#[]⟩, .slice none 0 0] T)) Tryd.prog 9 (plainElem (H := Unit) Tryd.prog 9)
  have hz2 : ((w.alloc (.cells #[.int .i64 0, .string ⟨#[]⟩, .slice none 0 0] T)).alloc (.cells #[.int .i64 0, .string ⟨#[]⟩, .slice none 0 0] T)).heap.size = w.heap.size + 2 := by simp
  rw [hz2] at M
  have := hb.size
  exact ⟨((hb.trans ((bbox _).mono hb.size)).trans ((bbox _).mono (by rw [hz1]; omega))).trans ((bbox _).mono (by rw [hz2]; omega)), by omega, by omega, by omega, (X1.alloc _).alloc _, X2.alloc _, M, by omega⟩
theorem iter_cell {w : World} {P : Program} {k : TypeId} {R : Value → Option (DataW Unit × List MemPlace)} {b r n : Nat} {D : DataW Unit} {left : Lit → Bool} {cnt : Nat} (h : w.ranges P k R b r n D left cnt) {x j : Nat} {v : Value} (hc : w.cell? ⟨x, j, none⟩ = some v) : x ≠ r := by
  rintro rfl
  obtain ⟨es, clock, since, seen, c0, -, -, -, -, hr, -⟩ := h
  simp [World.cell?, hr] at hc
theorem FM.step {o w w' : World} {NA NB M r : Nat} {ia ib : It} {aa ab : Option Addr} {ca cb : Nat} {D : DataW Unit} {n : Nat} {left left' : Lit → Bool} {cnt cnt' : Nat} (h : FM o w NA NB M ia ib aa ab ca cb D n) (hr : o.heap.size ≤ r) (hrg : w.ranges Tryd.prog 9 (plainElem Tryd.prog 9) M r n D left cnt) (hrg1 : w'.ranges Tryd.prog 9 (plainElem Tryd.prog 9) M r n D left' cnt') (hg : w.grownBy w' (some r)) : FM o w' NA NB M ia ib aa ab ca cb D n :=
  ⟨h.bel.grown hg h.bel.size (fun k e => by injection e with e; subst e; exact hr), h.na, h.nb, h.ne, h.xa.turn hg (fun _ _ _ hc => iter_cell hrg hc), h.xb.turn hg (fun _ _ _ hc => iter_cell hrg hc), hrg1.owns, h.hm⟩
theorem FM.ranged {o w w' : World} {NA NB M : Nat} {ia ib : It} {aa ab : Option Addr} {ca cb : Nat} {D : DataW Unit} {n : Nat} (h : FM o w NA NB M ia ib aa ab ca cb D n) (hg : w.grownBy w' none) : FM o w' NA NB M ia ib aa ab ca cb D n :=
  h.below ⟨hg.os, hg.tape, hg.output, hg.size, fun k hk => hg.block k hk (by simp)⟩
set_option maxHeartbeats 16000000 in
set_option maxRecDepth 100000 in
theorem itemFields (w : World) (hc : Ctx w) (a : Option Addr) (c : Nat) (l : List Fd) (hI : InF w a l) :
    Calls Tryd.prog 6 #[.slice a l.length c] w fun e w' => e = .returned (.bool true) ∧ Below w.heap.size w w' := by
  have HI := Lib.hid (fun W (h : Below w.heap.size w W) => hI.below (Nat.le_refl _) h)
  have HA := Lib.hid (alive_calls w hc)
  clear hc hI
  go_enter Tryd.func6, Tryd.ntmps6
  go_wp2_with fail
  refine HA.out.mono ?_
  rintro e w1 ⟨rfl, hb⟩
  have B := Lib.hid hb
  clear hb HA
  by_cases h30 : 30 < l.length
  · have h30c : (30 : Int) < (l.length : Int) := by omega
    go_wp2_with fail
    go_ret
    exact ⟨rfl, B.out⟩
  have h30c : ¬ (30 : Int) < (l.length : Int) := by omega
  have hmm := @run_makeMap Tryd.prog
  have HM0 := Lib.hid (fun T => FM.start (o := w) T B.out)
  go_wp2_with fail
  clear hmm
  have HM := Lib.hid (HM0.out 24)
  clear HM0
  generalize ((w1.alloc (.cells #[.int .i64 0, .string ⟨#[]⟩, .slice none 0 0] 24)).alloc (.cells #[.int .i64 0, .string ⟨#[]⟩, .slice none 0 0] 24)).alloc (.map #[] 0) = w2 at *
  have hNB : w1.heap.size + 1 = w1.heap.size + 1 := rfl
  generalize w1.heap.size + 2 = M at *
  generalize w1.heap.size + 1 = NB at *
  generalize w1.heap.size = NA at *
  go_loopg [7, 24] (l.length + 1) (fun g _ vi wr => ∃ (i : Nat) (r : List Fd) (k : Int) (aa : Option Addr) (ca : Nat) (D : DataW Unit), vi = .int .i64 i ∧ i ≤ l.length ∧ l.length - i ≤ g ∧ ((k = 0 ∧ i = 0) ∨ (k = 2 ∧ 0 < i)) ∧ Hid (FI l i r) ∧ Hid (∀ j (h : j < l.length), j < i → l[j].1.size ≤ 500) ∧ Hid (KI r D) ∧ Hid (FM w wr NA NB M ⟨k, ⟨#[]⟩, r⟩ ⟨0, ⟨#[]⟩, []⟩ aa none ca 0 D i))
  case atStart => exact ⟨0, [], 0, none, 0, .map [], rfl, by omega, by omega, .inl ⟨rfl, rfl⟩, Lib.hid (FI.nil l), Lib.hid (fun _ _ h => absurd h (Nat.not_lt_zero _)), Lib.hid KI.new, HM⟩
  case round =>
    obtain ⟨i, r, k, aa, ca, D, rfl, hi, hg, hk, HR, HS, HK, HT⟩ := hrel
    clear HM
    by_cases hil : i < l.length
    case neg =>
      have hic : ¬ ((i : Int) < (l.length : Int)) := by omega
      obtain rfl : i = l.length := by omega
      clear hi hic hil hg
      have HR : Hid (FI l l.length r) := HR
      have hw1 : IntKind.i64.wrap ((l.length : Int) - 1) = (l.length : Int) - 1 := by rw [IntKind.wrap_i64]; omega
      go_wp2_with fail
      go_loopg [8] (l.length + 1) (fun g vi wr => ∃ (v : Int) (m : Nat) (rb : List Fd) (kb : Int) (ab : Option Addr) (cb : Nat), vi = .int .i64 v ∧ v + 1 = (m : Int) ∧ m ≤ l.length ∧ m ≤ g ∧ ((kb = 0 ∧ m = l.length) ∨ (kb = 2 ∧ m < l.length)) ∧ Hid (BI l r m rb) ∧ Hid (FM w wr NA NB M ⟨k, ⟨#[]⟩, r⟩ ⟨kb, ⟨#[]⟩, rb⟩ aa ab ca cb D l.length))
      case atStart => exact ⟨_, l.length, [], 0, none, 0, rfl, by omega, by omega, by omega, .inl ⟨rfl, rfl⟩, Lib.hid (BI.nil l r), HT⟩
      case round =>
        obtain ⟨v, m, rb, kb, ab, cb, rfl, hv, hm, hg, hkb, HB, HT1⟩ := hrel
        clear HT
        cases m with
        | zero =>
          obtain rfl : v = -1 := by omega
          obtain rfl := BI.same HR.out HB.out
          obtain rfl : kb = k := by omega
          have hrl := HR.out.len
          have HSm := Lib.hid (fun W (h : Below wr.heap.size wr W) => same_calls W kb kb ⟨#[]⟩ ⟨#[]⟩ aa ab ca cb _ _ rb rb rfl rfl (by omega) (by omega) (HT1.out.below h).xa.inF (HT1.out.below h).xb.inF true ⟨fun _ => ⟨rfl, rfl, rfl⟩, fun _ => rfl⟩)
          have a0 := HT1.out.xa.cells.c0
          have a1 := HT1.out.xa.cells.c1
          have a2 := HT1.out.xa.cells.c2
          have b0 := HT1.out.xb.cells.c0
          have b1 := HT1.out.xb.cells.c1
          have b2 := HT1.out.xb.cells.c2
          clear hg hm hv HB
          go_wp2_with fail
          refine (HSm.out _ (Below.refl _ _)).mono ?_
          rintro e w3 ⟨rfl, hb⟩
          have HT := Lib.hid (HT1.out.below hb)
          clear hb HSm HT1 a0 a1 a2 b0 b1 b2
          have a0 := HT.out.xa.cells.c0
          have a1 := HT.out.xa.cells.c1
          have a2 := HT.out.xa.cells.c2
          have hsz := HK.out.sz
          have hln := fun ty => HT.out.mp.len (t := 52) Tryd.underlying52 ty
          simp only [hsz] at hln
          clear hsz
          by_cases hl0 : l.length = 0
          · have hl0c : ¬ (0 : Int) < (l.length : Int) := by omega
            clear hl0
            have hR0 : w.heap.size ≤ w3.heap.size := HT.out.bel.size
            go_wp2_with (at_range; refine wpList_range_own _ rfl _ 52 rfl 9 9 keyed Tryd.underlying52 _ M l.length D rfl HT.out.mp ?_; intro w0 hrg0 hg0 hs0)
            try go_frame
            have HT0 := Lib.hid (HT.out.ranged hg0)
            have HG0 := Lib.hid hrg0
            clear hrg0 hg0 hs0 HT a0 a1 a2 hln
            generalize w3.heap.size = rr at *
            go_loopw [9, 10, 11, 12, 13] (fun _ _ _ _ _ wr => ∃ (left : Lit → Bool) (cnt : Nat), Hid (wr.ranges Tryd.prog 9 (plainElem Tryd.prog 9) M rr l.length D left cnt) ∧ Hid (∀ kl, left kl = true → Maps.has D kl = true) ∧ Hid (FM w wr NA NB M ⟨kb, ⟨#[]⟩, rb⟩ ⟨kb, ⟨#[]⟩, rb⟩ aa ab ca cb D l.length)) (fun _ _ _ _ _ wr => wr.rangeLeft M rr)
            case atStart => exact ⟨_, _, HG0, Lib.hid (fun _ h => h), HT0⟩
            case round =>
              obtain ⟨left, cnt, HG, HL, HT⟩ := hrel
              go_wp2_with (at_next; refine next_ss rfl _ rfl rfl HG.out ?_ ?_)
              · go_wp2_with fail
                go_ret
                exact ⟨rfl, HT.out.bel⟩
              · intro x y w5 cnt5 hlx hat hrg5 hlt5 hg5 hs5 hen
                have hsome : (lk rb x).isSome = true := by rw [← HK.out.hs]; exact HL.out _ hlx
                obtain ⟨t, ht⟩ := Option.isSome_iff_exists.1 hsome
                have hty : t = y := by
                  have h1 := HK.out.av x
                  rw [hat, ht] at h1
                  simp only [DataW.lit.injEq, Lit.string.injEq, Option.getD_some] at h1
                  cases t; cases y
                  simpa using h1.symm
                subst hty
                have hkb2 : kb = 2 := by
                  have hp : 0 < rb.length := List.length_pos_of_mem (lk_mem ht)
                  rcases hkb with h | h
                  · omega
                  · exact h.1
                have HT5 := Lib.hid (HT.out.step hR0 HG.out hrg5 hg5)
                have HLn : Hid (∀ kl, (left kl && !kl.sameKey (klit x)) = true → Maps.has D kl = true) := Lib.hid (fun kl h => HL.out kl (by rw [Bool.and_eq_true] at h; exact h.1))
                have HGt := Lib.hid (fun W (h : Below w5.heap.size w5 W) => get_lk W aa ca x t rb HR.out.up (by omega) (HT5.out.below h).xa.inF ht)
                have a0 := HT5.out.xa.cells.c0
                have a1 := HT5.out.xa.cells.c1
                have a2 := HT5.out.xa.cells.c2
                have HG5 := Lib.hid hrg5
                have hme := HG.out.left_eq
                clear hat hrg5 hg5 hs5 hsome ht hlx HT HG HL hkb
                subst hkb2
                go_wp2_with fail
                refine (HGt.out _ (Below.refl _ _)).mono ?_
                rintro e w6 ⟨rfl, hb⟩
                have HT6 := Lib.hid (HT5.out.below hb)
                have HG6 := Lib.hid (HG5.out.kept (grow_of0 hb) (by simp) (by simp))
                clear hb HT5 HG5 a0 a1 a2 hen HGt
                go_wp2_with fail
                go_roundw
                case rel => exact ⟨_, cnt5, HG6, HLn, HT6⟩
                case measure => rw [HG6.out.left_eq, hme]; exact hlt5
          · have hl0c : (0 : Int) < (l.length : Int) := by omega
            have hkb3 : kb = 2 := by omega
            subst hkb3
            have HAR : Hid (AllR rb) := Lib.hid (AllR.of_up (HR.out.pos (by omega)) (by omega) HR.out.up (fun f hf => by have := HR.out.sz f hf; omega))
            have HRt := Lib.hid (fun W (h : Below w3.heap.size w3 W) => right_calls W 2 ⟨#[]⟩ aa ca _ rb rfl (HT.out.below h).xa.inF true ⟨fun _ => .inr ⟨rfl, empty_iff.2 rfl, HAR.out⟩, fun _ => rfl⟩)
            go_wp2_with fail
            refine (HRt.out _ (Below.refl _ _)).mono ?_
            rintro e w4 ⟨rfl, hb⟩
            have HT := Lib.hid (HT.out.below hb)
            clear hb HRt HAR
            have hR0 : w.heap.size ≤ w4.heap.size := HT.out.bel.size
            go_wp2_with (at_range; refine wpList_range_own _ rfl _ 52 rfl 9 9 keyed Tryd.underlying52 _ M l.length D rfl HT.out.mp ?_; intro w0 hrg0 hg0 hs0)
            try go_frame
            have HT0 := Lib.hid (HT.out.ranged hg0)
            have HG0 := Lib.hid hrg0
            clear hrg0 hg0 hs0 HT a0 a1 a2 hln
            generalize w4.heap.size = rr at *
            go_loopw [9, 10, 11, 12, 13] (fun _ _ _ _ _ wr => ∃ (left : Lit → Bool) (cnt : Nat), Hid (wr.ranges Tryd.prog 9 (plainElem Tryd.prog 9) M rr l.length D left cnt) ∧ Hid (∀ kl, left kl = true → Maps.has D kl = true) ∧ Hid (FM w wr NA NB M ⟨2, ⟨#[]⟩, rb⟩ ⟨2, ⟨#[]⟩, rb⟩ aa ab ca cb D l.length)) (fun _ _ _ _ _ wr => wr.rangeLeft M rr)
            case atStart => exact ⟨_, _, HG0, Lib.hid (fun _ h => h), HT0⟩
            case round =>
              obtain ⟨left, cnt, HG, HL, HT⟩ := hrel
              go_wp2_with (at_next; refine next_ss rfl _ rfl rfl HG.out ?_ ?_)
              · go_wp2_with fail
                go_ret
                exact ⟨rfl, HT.out.bel⟩
              · intro x y w5 cnt5 hlx hat hrg5 hlt5 hg5 hs5 hen
                have hsome : (lk rb x).isSome = true := by rw [← HK.out.hs]; exact HL.out _ hlx
                obtain ⟨t, ht⟩ := Option.isSome_iff_exists.1 hsome
                have hty : t = y := by
                  have h1 := HK.out.av x
                  rw [hat, ht] at h1
                  simp only [DataW.lit.injEq, Lit.string.injEq, Option.getD_some] at h1
                  cases t; cases y
                  simpa using h1.symm
                subst hty
                have hkb2 : (2 : Int) = 2 := by
                  rfl
                have HT5 := Lib.hid (HT.out.step hR0 HG.out hrg5 hg5)
                have HLn : Hid (∀ kl, (left kl && !kl.sameKey (klit x)) = true → Maps.has D kl = true) := Lib.hid (fun kl h => HL.out kl (by rw [Bool.and_eq_true] at h; exact h.1))
                have HGt := Lib.hid (fun W (h : Below w5.heap.size w5 W) => get_lk W aa ca x t rb HR.out.up (by omega) (HT5.out.below h).xa.inF ht)
                have a0 := HT5.out.xa.cells.c0
                have a1 := HT5.out.xa.cells.c1
                have a2 := HT5.out.xa.cells.c2
                have HG5 := Lib.hid hrg5
                have hme := HG.out.left_eq
                clear hat hrg5 hg5 hs5 hsome ht hlx HT HG HL hkb
                go_wp2_with fail
                refine (HGt.out _ (Below.refl _ _)).mono ?_
                rintro e w6 ⟨rfl, hb⟩
                have HT6 := Lib.hid (HT5.out.below hb)
                have HG6 := Lib.hid (HG5.out.kept (grow_of0 hb) (by simp) (by simp))
                clear hb HT5 HG5 a0 a1 a2 hen HGt
                go_wp2_with fail
                go_roundw
                case rel => exact ⟨_, cnt5, HG6, HLn, HT6⟩
                case measure => rw [HG6.out.left_eq, hme]; exact hlt5
        | succ p =>
          obtain rfl : v = (p : Int) := by omega
          have hpl : p < l.length := by omega
          have hpc : (p : Int) < (l.length : Int) := by omega
          have hp0 : (0 : Int) ≤ (p : Int) := by omega
          obtain ⟨b, o, rfl, hlt, hc⟩ := HI.out _ HT1.out.bel (by omega)
          obtain ⟨c0, c1⟩ := hc p hpl
          obtain ⟨t, ht⟩ := HR.out.some hpl
          have HBn := Lib.hid (BI.step HR.out HB.out hpl (HS.out p hpl hpl) ht)
          have hxs := HS.out p hpl hpl
          have hts : t.size ≤ 4000 := (HR.out.sz _ (lk_mem ht)).2
          have hlk := fun W (h : Below wr.heap.size wr W) => look_run (HT1.out.below h) HK.out l[p].1 (by omega)
          rw [ht] at hlk
          have hl0 := hlk wr.drew ((Below.refl _ _).drew)
          have hw2 : IntKind.i64.wrap ((p : Int) - 1) = (p : Int) - 1 := by rw [IntKind.wrap_i64]; omega
          have hbl := HB.out.len
          have HP := Lib.hid (fun W (h : Below wr.heap.size wr W) => put_ins W kb ab cb l[p].1 t rb HB.out.up HT1.out.xb.cap HT1.out.xb.cap2 (by omega) (HT1.out.below h).xb.inF (by rcases hkb with h | h; exact .inl h.1; exact .inr h.1) (by omega) (by omega))
          clear hc hlt ht
          generalize ins l[p].1 t rb = rb2 at *
          generalize l[p] = q at *
          obtain ⟨x, y⟩ := q
          have c0 : wr.cell? ⟨b, o + p * 2, none⟩ = some (.string x) := c0
          have HP : Hid (∀ W (h : Below wr.heap.size wr W), Calls Tryd.prog 22 #[.agg #[.int .i64 kb, .string ⟨#[]⟩, .slice ab rb.length cb], .string x, .string t] W fun e w' => ∃ v b, e = .returned (.tuple #[v, .bool b, .int .i64 0]) ∧ ItV w' v ⟨2, ⟨#[]⟩, rb2⟩ ∧ Below W.heap.size W w') := HP
          have a0 := HT1.out.xb.cells.c0
          have a1 := HT1.out.xb.cells.c1
          have a2 := HT1.out.xb.cells.c2
          have HP2 := Lib.hid (HP.out wr.drew ((Below.refl _ _).drew))
          have HTd : Hid (FM w wr.drew NA NB M _ _ _ _ _ _ _ _) := Lib.hid (HT1.out.below ((Below.refl _ _).drew))
          clear hlk HP hts hbl HB
          go_wp2_with fail
          go_region_with (go_at_call 22; refine HP2.out.mono ?_; rintro e w3 ⟨v, d, rfl, hv, hb⟩; have HT3 := Lib.hid (HTd.out.below hb); obtain ⟨a9, c9, rfl, h1, h2, h3⟩ := hv; have HT4 := Lib.hid (HT3.out.setB (j := ⟨2, ⟨#[]⟩, rb2⟩) h3 h1 h2); have x0 := HT3.out.xb.cells.c0; have x1 := HT3.out.xb.cells.c1; have x2 := HT3.out.xb.cells.c2; have y0 := HT3.out.xb.cells.f 0 (by omega); have y1 := HT3.out.xb.cells.f 1 (by omega); have y2 := HT3.out.xb.cells.f 2 (by omega); clear h1 h2 h3 hb)
          all_goals
            go_wp2_with fail
            go_roundg (gk - 1)
            case measure => omega
            case rel => exact ⟨(p : Int) - 1, p, rb2, 2, a9, c9, by go_num, by omega, by omega, by omega, .inr ⟨rfl, by omega⟩, HBn, HT4⟩
    case pos =>
      have hic : (i : Int) < (l.length : Int) := by omega
      obtain ⟨b, o, rfl, hlt, hc⟩ := HI.out _ HT.out.bel (by omega)
      obtain ⟨c0, c1⟩ := hc i hil
      have HRn := Lib.hid (fun h1 h2 => HR.out.step hil h1 h2)
      have HSn : Hid (l[i].1.size ≤ 500 → ∀ j (h : j < l.length), j < i + 1 → l[j].1.size ≤ 500) := Lib.hid (fun k1 j h hj => by
        by_cases hji : j = i
        · subst hji; exact k1
        · exact HS.out j h (by omega))
      clear hc hlt
      generalize l[i] = q at *
      obtain ⟨x, y⟩ := q
      have c0 : wr.cell? ⟨b, o + i * 2, none⟩ = some (.string x) := c0
      have c1 : wr.cell? ⟨b, o + i * 2 + 1, none⟩ = some (.string y) := c1
      have HB2 := Lib.hid (fun O => HT.out.below (bbox (w := wr) O))
      by_cases hx : 500 < x.size
      · have hxc : (500 : Int) < (x.size : Int) := by omega
        go_wp2_with fail
        go_ret
        exact ⟨rfl, (HB2.out _).bel⟩
      have hxc : ¬ (500 : Int) < (x.size : Int) := by omega
      by_cases hy : 4000 < y.size
      · have hyc : (4000 : Int) < (y.size : Int) := by omega
        go_wp2_with fail
        go_ret
        exact ⟨rfl, (HB2.out _).bel⟩
      have hyc : ¬ (4000 : Int) < (y.size : Int) := by omega
      have HRn : Hid (FI l (i + 1) (ins x y r)) := Lib.hid (HRn.out (by show x.size ≤ 500; omega) (by show y.size ≤ 4000; omega))
      have hNA : NA < wr.heap.size := HT.out.xa.cells.lt
      have HSn := Lib.hid (HSn.out (by show x.size ≤ 500; omega))
      have HKn := Lib.hid (HK.out.put HR.out.up x y)
      have hrl := HR.out.len
      have HP := Lib.hid (fun W (h : Below wr.heap.size wr W) => put_ins W k aa ca x y r HR.out.up HT.out.xa.cap HT.out.xa.cap2 (by omega) (HT.out.below h).xa.inF (by rcases hk with h | h; exact .inl h.1; exact .inr h.1) (by omega) (by omega))
      have a0 := fun O => (HB2.out O).xa.cells.c0
      have a1 := fun O => (HB2.out O).xa.cells.c1
      have a2 := fun O => (HB2.out O).xa.cells.c2
      clear HR HS HK hk hrl
      go_wp2_with fail
      refine (HP.out _ (bbox _)).mono ?_
      rintro e w3 ⟨v, d, rfl, hv, hb⟩
      have HV := Lib.hid hv
      have HT := Lib.hid ((HB2.out _).below hb)
      have f0 := (hb.cell (p := ⟨wr.heap.size, 0, none⟩) (by simp)).trans (by rw [World.cell?_alloc_new]; rfl : _ = some (Value.string x))
      have f1 := (hb.cell (p := ⟨wr.heap.size, 1, none⟩) (by simp)).trans (by rw [World.cell?_alloc_new]; rfl : _ = some (Value.string y))
      clear hb hv HB2 HP a0 a1 a2 c0 c1
      obtain ⟨a2, c2, rfl, h1, h2, h3⟩ := HV.out
      have HT4 := Lib.hid (HT.out.setA (j := ⟨2, ⟨#[]⟩, ins x y r⟩) h3 h1 h2)
      have b0 := HT.out.xa.cells.c0
      have b1 := HT.out.xa.cells.c1
      have b2 := HT.out.xa.cells.c2
      have b3 := HT.out.xa.cells.f 0 (by omega)
      have b4 := HT.out.xa.cells.f 1 (by omega)
      have b5 := HT.out.xa.cells.f 2 (by omega)
      have g0 := (top3 w3 NA wr.heap.size 0 (.int .i64 2) (.string ⟨#[]⟩) (.slice a2 (ins x y r).length c2) (.inr (by omega))).trans f0
      have g1 := (top3 w3 NA wr.heap.size 1 (.int .i64 2) (.string ⟨#[]⟩) (.slice a2 (ins x y r).length c2) (.inr (by omega))).trans f1
      clear f0 f1 h1 h2 h3 HV
      generalize ins x y r = r2 at *
      generalize wr.heap.size = NF at *
      go_wp2_with (at_mapUpdate; refine now_put HT4.out (by omega) rfl _ _ _ rfl rfl x rfl (by omega) y rfl (by omega) ?_)
      intro w5 hT5 hg5
      have HT5 := Lib.hid hT5
      clear hT5 hg5 g0 g1 b0 b1 b2 b3 b4 b5 HT4 HT
      go_wp2_with fail
      go_roundg (gk - 1)
      case measure => omega
      case rel => exact ⟨i + 1, r2, 2, a2, c2, _, by go_num, by omega, by omega, .inr ⟨rfl, by omega⟩, HRn, HSn, HKn, HT5⟩
end Go.Proofs.YtjjphpklifbipaaDoor.Ia
