/- The walk of the law LinesFeeds: true. Conditions: what start-up lays ('PCtx'); the variable MaxLen holds some int; how the slices lie. -/
import Derived.Test.YtenhgjpoigkdgaaGreatDoorLe4
import Derived.Test.YtenhgjpoigkdgaaGreatDoorLo2
import Derived.Test.YtenhgjpoigkdgaaGreatDoorLq4
import Derived.Deep.DeepCutAuto
import Derived.Deep.Quiet
namespace Go.Proofs.YtenhgjpoigkdgaaGreatDoor.Ln
open Go.ChangeShapes Go.WideShapes Go.ChangeAt Go.RowKit
open Go.Proofs.YtenhgjpoigkdgaaGreatDoor.Lw
/-- The numbers zs lie at a. -/
structure InI (w : World) (a : Option Addr) (c : Nat) (zs : List Int) : Prop where
  cap : zs.length ≤ c
  max : c ≤ 9223372036854775807
  bd : ∀ n ∈ zs, -9223372036854775808 ≤ n ∧ n ≤ 9223372036854775807
  cell : 0 < zs.length → ∃ g o, a = some ⟨g, o, none⟩ ∧ ∀ i (hi : i < zs.length), w.cell? ⟨g, o + i, none⟩ = some (.int .i64 zs[i])
theorem InI.below {w w' : World} {a : Option Addr} {c : Nat} {zs : List Int} (h : InI w a c zs) (hb : Below w.heap.size w w') : InI w' a c zs := by
  refine ⟨h.cap, h.max, h.bd, fun hl => ?_⟩
  obtain ⟨g, o, e, hc⟩ := h.cell hl
  refine ⟨g, o, e, fun i hi => ?_⟩
  have h0 := hc i hi
  exact (hb.cell (p := ⟨g, o + i, none⟩) (World.block_lt_of_cell? w _ h0)).trans h0
/-- Where the object stands behind bytes that leave r and the error e. -/
def Stands (L B G : Nat) (w : World) (r : List UInt8) (e : Int) : Prop := (e = 0 ∧ Wt L B G w r) ∨ (e = 61 ∧ Failed L w)
/-- No row of those got lies in block G. -/
def Clear (G : Nat) (v : Value) (P : List Piece) : Prop := v.ownBlock ≠ some G ∧ ∀ p ∈ P, ∀ ad, p.2.1 = some ad → ad.block ≠ G
/-- A region that draws its order, walked once over a class of worlds that F names. -/
theorem wp_region_classF {P : Program} {id : Nat} {Q : Exit → Act → World → Prop} {a : Act} {w : World} {l : List Oper} {T : Type} (F : T → World) (hm : P.follows .mixedOrders = true) (hB : Region.lexB .any l.toArray = true)
    (h0 : ∃ x, w.drew = F x) (h : wpQuiet P l.toArray (fun w' => ∃ x, w' = F x) (fun a' => ∀ w', (∃ x, w' = F x) → Q .normal a' w') l a) : (Code.region id l.toArray true).wp P Q a w :=
  wp_region_quiet (C := fun w' => ∃ x, w' = F x) hm hB h0 (by simpa using h)
def OverF (w : World) : Type := { x : World // Below w.heap.size w x }
instance (w : World) : Nonempty (OverF w) := ⟨⟨w, Below.refl _ _⟩⟩
theorem overF (w : World) : ∃ F : OverF w → World, (∀ x, Below w.heap.size w (F x)) ∧ (∃ x, w.drew = F x) ∧ (∀ x w', Below (F x).heap.size (F x) w' → ∃ y, w' = F y) ∧ (∀ x, F x = x.1) :=
  ⟨fun x => x.1, fun x => x.2, ⟨⟨w.drew, (Below.refl _ _).drew⟩, rfl⟩, fun x w' h => ⟨⟨w', x.2.trans (h.mono x.2.size)⟩, rfl⟩, fun _ => rfl⟩
theorem quiet_overF {P : Program} {f : FuncId} {args : Array Value} {w : World} {F : OverF w → World} (hF : ∀ x w', Below (F x).heap.size (F x) w' → ∃ y, w' = F y) {x : OverF w} {v : Value}
    (h : Calls P f args (F x) fun e w' => e = .returned v ∧ Below (F x).heap.size (F x) w') : Calls P f args (F x) fun e w' => e = .returned v ∧ ∃ y, w' = F y :=
  h.mono fun _ _ ⟨he, hb⟩ => ⟨he, hF _ _ hb⟩
theorem own_new2 (w : World) : Own w.heap.size (w.heap.size + 1) (w.alloc (.cells #[.slice none 0 0, .bool false] 50)) [] :=
  ⟨Nat.lt_succ_self _, by simp, ⟨_, by go_simp, World.ownsRow_nil _ _ _ _⟩, by go_simp, by go_simp, by go_simp⟩
theorem GotQ.fr {B : Nat} {w w' : World} {v : Value} {P : List Piece} {S : Nat → Prop} (h : GotQ B w v P) (hf : Fr S w w') (hv : ∀ k, v.ownBlock = some k → ¬ S k) (hp : ∀ p ∈ P, ∀ ad, p.2.1 = some ad → ¬ S ad.block) : GotQ B w' v P := by
  refine ⟨Nat.le_trans h.le hf.size, ?_, fun p hpp => ⟨(h.good p hpp).1.keep fun ad e => hf.block _ (h.apart p hpp ad e).2.1 (hp p hpp ad e), (h.good p hpp).2⟩, fun p hpp ad e => ⟨(h.apart p hpp ad e).1, Nat.lt_of_lt_of_le (h.apart p hpp ad e).2.1 hf.size, (h.apart p hpp ad e).2.2⟩⟩
  refine ⟨h.row.1, ?_⟩
  rcases h.row.2 with hn | ⟨g, cap, cur, hv2, hg, hh, hr⟩
  · exact .inl hn
  · refine .inr ⟨g, cap, cur, hv2, hg, ?_, hr⟩
    have hgl : g < w.heap.size := (Array.getElem?_eq_some_iff.1 hh).1
    rw [hf.block g hgl (hv g (by rw [hv2]; rfl))]
    exact hh
theorem Clear.next {G G' : Nat} {B : Nat} {w w' : World} {v : Value} {P : List Piece} (h : Clear G v P) (hQ : GotQ B w v P) (hG : G' = G ∨ (w.heap.size ≤ G' ∧ G' < w'.heap.size)) : Clear G' v P := by
  rcases hG with rfl | ⟨h1, -⟩
  · exact h
  · refine ⟨fun e => ?_, fun p hp ad e e2 => ?_⟩
    · have := (hQ.own_lt e).2; omega
    · have := (hQ.apart p hp ad e).2.1; omega
set_option maxHeartbeats 16000000 in
set_option maxRecDepth 1000000 in
theorem linesFeeds (w : World) (hc : PCtx w) (hmx : MaxOk w) (a : Option Addr) (c : Nat) (b : List UInt8) (hB : InB w a c b) (a2 : Option Addr) (c2 : Nat) (zs : List Int) (hZ : InI w a2 c2 zs) :
    Calls Tryz.prog 3 #[.slice a b.length c, .slice a2 zs.length c2] w fun e w' => e = .returned (.bool true) ∧ Below w.heap.size w w' := by
  have HA := Lib.hid (alive_calls w hc hmx)
  have HV := Lib.hid (fun (w1 : World) (h : Below w.heap.size w w1) => (hB.below h).conv)
  have HB := Lib.hid hB
  have HZ := Lib.hid hZ
  have HC := Lib.hid (fun (w1 : World) (h : Below w.heap.size w w1) => And.intro (hc.below h) (hmx.below h))
  have hcap := hB.cap
  have hcm := hB.max
  have hcap2 := hZ.cap
  have hcm2 := hZ.max
  clear hc hmx hB hZ
  go_enter Tryz.func3, Tryz.ntmps3
  go_wp2_with fail
  refine HA.out.mono ?_; rintro en w1 ⟨rfl, hb1⟩
  have Hb1 := Lib.hid hb1
  clear hb1
  by_cases h4000 : (4000 : Int) < (b.length : Int)
  case pos =>
    go_wp2_with fail
    go_ret
    exact ⟨rfl, Hb1.out⟩
  by_cases h50 : (50 : Int) < (zs.length : Int)
  case pos =>
    go_wp2_with fail
    go_ret
    exact ⟨rfl, Hb1.out⟩
  obtain ⟨S, hS, hSs, hSd⟩ : ∃ S : ByteArray, (⟨b.toArray⟩ : ByteArray) = S ∧ S.size = b.length ∧ S.data.toList = b := ⟨_, rfl, size_of b, bytes_of b⟩
  obtain ⟨C, R, E, hAll⟩ := Lw.all_ex b.length b (Nat.le_refl _)
  have HR := Lib.hid (fun w => rall_calls S (by omega) C R E (by rw [hSd]; exact hAll) w)
  have hcv := HV.out w1 Hb1.out
  rw [hS] at hcv
  have HAll := Lib.hid hAll
  clear hS hSd hAll HA
  go_wp2_with fail
  refine (HR.out _).mono ?_; rintro en w2 ⟨hb2, v5, P0, rfl, hw0, hG0⟩
  have Hb2 := Lib.hid (bstep Hb1.out hb2)
  obtain ⟨a5, c5, rfl, hd5, hm5, -, hcell5⟩ := hG0.slice
  have HG0 := Lib.hid hG0.good
  have HC0 := Lib.hid hcell5
  have hRs := size_of R
  generalize (⟨R.toArray⟩ : ByteArray) = RS at *
  clear hb2 hG0 hcell5 hcv HR
  go_wp2_with fail
  refine (new_calls _).mono ?_; rintro en w3 ⟨rfl, hw3⟩
  have hO3 := own_new2 w2
  have hn3 : (w2.alloc (.cells #[.slice none 0 0, .bool false] 50)).cell? ⟨w2.heap.size, 0, none⟩ = some (.slice none 0 0) := by go_simp
  rw [← hw3] at hO3 hn3
  have Hb3 : Hid (Below w2.heap.size w2 w3) := Lib.hid (by rw [hw3]; exact bbox _)
  have HW3 := Lib.hid (hO3.wt (G := w2.heap.size) hn3)
  have hL : w.heap.size ≤ w2.heap.size := Hb2.out.size
  have hL3 : w3.heap.size = w2.heap.size + 1 := by rw [hw3]; simp
  have HbL := Lib.hid (fun (w' : World) (h : Below w2.heap.size w2 w') => Hb2.out.trans (h.mono hL))
  have HbG := Lib.hid (fun (w' : World) (h : Below w2.heap.size w2 w') => HG0.out.below h)
  have HbC : Hid (∀ w', Below w2.heap.size w2 w' → ∀ i (hi : i < P0.length), ∃ g, a5 = some ⟨g, 0, none⟩ ∧ w'.cell? ⟨g, i, none⟩ = some (pieceV P0[i])) := Lib.hid (fun w' h i hi => by
    obtain ⟨g, e, hx⟩ := HC0.out i hi
    exact ⟨g, e, (h.cell (p := ⟨g, i, none⟩) (World.block_lt_of_cell? w2 _ hx)).trans hx⟩)
  have HB3 : Hid (Below w2.heap.size w2 w3) := Hb3
  clear hw3 hO3 hn3 HC0 HG0
  have HM3 := Lib.hid (got_made w3 (w2.heap.size + 1) (by omega))
  have HBm : Hid (Below w2.heap.size w2 (w3.alloc (.cells #[] 32))) := Lib.hid (HB3.out.trans ((bbox _).mono (by omega)))
  have HWm : Hid (Wt w2.heap.size (w2.heap.size + 1) w2.heap.size (w3.alloc (.cells #[] 32)) []) := Lib.hid (HW3.out.below (bbox _))
  have hclr : Clear w2.heap.size (.slice (some ⟨w3.heap.size, 0, none⟩) 0 0) [] := ⟨fun e => by
    have e : some w3.heap.size = some w2.heap.size := e
    injection e with e
    omega, fun p hp => by cases hp⟩
  have HClr := Lib.hid hclr
  clear hclr HW3 HB3 Hb3
  generalize w2.heap.size = L at *
  rw [hL3] at HM3 HClr
  go_wp2_with fail
  go_loopg [9, 10, 11, 12, 13, 14, 15, 16] 60 (fun g gv ev av iv _ _ _ _ wr => ∃ (i at' : Nat) (P : List Piece) (r : List UInt8) (e : Int) (G : Nat), iv = .int .i64 i ∧ av = .int .i64 at' ∧ ev = .int .i64 e ∧ i ≤ zs.length + 1 ∧ zs.length + 1 - i ≤ g ∧ at' ≤ b.length ∧ (i = zs.length + 1 → at' = b.length) ∧
    GotQ (L + 1) wr gv P ∧ Hid (Clear G gv P) ∧ (L ≤ G ∧ G < wr.heap.size) ∧ Hid (Below L w2 wr) ∧ Hid (All (b.take at') (wordsQ P) r e) ∧ Stands L (L + 1) G wr r e)
  case atStart => exact ⟨0, 0, [], [], 0, L, rfl, rfl, rfl, by omega, by omega, by omega, fun h => absurd h (by omega), HM3.out, HClr, ⟨Nat.le_refl _, by have := HM3.out.le; omega⟩, HBm, Lib.hid (by rw [List.take_zero]; exact .short parseR_nil), .inl ⟨rfl, HWm.out⟩⟩
  case round =>
    obtain ⟨i, at', P, r, e, G, rfl, rfl, rfl, hi, hgk, hat, hend, hQ, HClr, hGl, HBr, HAr, hst⟩ := hrel
    obtain ⟨go, hgo⟩ : ∃ go, go = gk := ⟨_, rfl⟩
    have hPl := HAr.out.left_le
    rw [List.length_take] at hPl
    have hPn : (wordsQ P).length = P.length := by simp [wordsQ]
    obtain ⟨pa, cp, rfl, hcp, hcpm, -, -⟩ := hQ.slice
    have HQ := Lib.hid hQ
    clear hQ HM3 HBm HWm
    by_cases hil : i ≤ zs.length
    case neg =>
      have hat2 := hend (by omega)
      subst hat2
      have hAr := HAr.out
      rw [List.take_length] at hAr
      obtain ⟨hCq, hRr, rfl⟩ := HAll.out.uniq hAr
      have hww : wordsQ P0 = wordsQ P := hw0.trans hCq
      have hPP : P.length = P0.length := by
        have h := congrArg List.length hww
        simp only [wordsQ, List.length_map] at h
        exact h.symm
      have HWW : Hid (∀ j (h1 : j < P.length) (h0 : j < P0.length), P0[j].1 = P[j].1) := Lib.hid (fun j h1 h0 => by
        have h := congrArg (·[j]?) hww
        simp only [wordsQ, List.getElem?_map, List.getElem?_eq_getElem h0, List.getElem?_eq_getElem h1, Option.map_some, Option.some.injEq] at h
        exact h)
      have HSm := Lib.hid hAr.small
      have herr := hAr.err
      have hne : ((P.length : Int) != (P0.length : Int)) = false := by rw [hPP]; simp
      have HPP := Lib.hid hPP
      obtain ⟨al, cl, hl0⟩ : ∃ al cl, wr.cell? ⟨L, 0, none⟩ = some (.slice al RS.size cl) := by
        rcases hst with ⟨-, hW⟩ | ⟨he, hFd⟩
        · obtain ⟨al, cl, h0, -⟩ := hW.row
          exact ⟨al, cl, by rw [hRs, hRr]; exact h0⟩
        · have hr0 : r = [] := by
            rcases herr with ⟨h, -⟩ | ⟨-, h⟩
            · omega
            · exact h
          exact ⟨none, 0, by rw [hRs, hRr, hr0]; exact hFd.c0⟩
      have HLf := Lib.hid (left_calls L al RS.size cl wr hl0)
      obtain ⟨pa2, cp2, epv, -, -, -, hcells⟩ := HQ.out.slice
      injection epv with epv _ _
      subst epv
      have HCe := Lib.hid hcells
      have HLs : Hid (L ≤ wr.heap.size) := Lib.hid (by have := HQ.out.le; omega)
      have HFact : Hid (∀ j (_ : j < P.length) (_ : j < P0.length), ∃ g g5 ws xa xc ya yc, pa = some ⟨g, 0, none⟩ ∧ a5 = some ⟨g5, 0, none⟩ ∧ ws.length ≤ 64 ∧ ws.length ≤ xc ∧ xc ≤ 9223372036854775807 ∧
          ∀ u, Below wr.heap.size wr u → u.cell? ⟨g, j, none⟩ = some (.slice xa ws.length xc) ∧ u.cell? ⟨g5, j, none⟩ = some (.slice ya ws.length yc) ∧ InS u xa ws ∧ InS u ya ws) := Lib.hid (fun j h1 h0 => by
        obtain ⟨g, e1, hcx⟩ := hcells j h1
        obtain ⟨g5, e5, hc5⟩ := HbC.out wr HBr.out j h0
        have hgood := HQ.out.good _ (List.getElem_mem h1)
        have hgood0 := HbG.out wr HBr.out _ (List.getElem_mem h0)
        have hweq := HWW.out j h1 h0
        have hsm := HSm.out P[j].1 (List.mem_map.2 ⟨P[j], List.getElem_mem h1, rfl⟩)
        generalize P[j] = p at *
        generalize P0[j] = p0 at *
        obtain ⟨ws1, xa, xc⟩ := p
        obtain ⟨ws0, ya, yc⟩ := p0
        have hweq : ws0 = ws1 := hweq
        subst hweq
        exact ⟨g, g5, ws0, xa, xc, ya, yc, e1, e5, hsm.2, hgood.2.1, hgood.2.2, fun u hu => ⟨(hu.cell (p := ⟨g, j, none⟩) (World.block_lt_of_cell? wr _ hcx)).trans hcx, (hu.cell (p := ⟨g5, j, none⟩) (World.block_lt_of_cell? wr _ hc5)).trans hc5, hgood.1.below hu, hgood0.1.below hu⟩⟩)
      clear hst herr hAr hCq hRr hww hPP hl0 hcells hw0 HCe HWW HSm
      go_wp2_with fail
      refine HLf.out.mono ?_; rintro en w6 ⟨rfl, rfl⟩
      go_wp2_with fail
      go_loopw [17, 97] (fun _ vi wx => ∃ j : Nat, vi = .int .i64 j ∧ j ≤ P.length ∧ Hid (Below wr.heap.size wr wx)) (fun _ vi _ => P.length - (intOf vi).toNat)
      case atStart => exact ⟨0, rfl, by omega, Lib.hid (Below.refl _ _)⟩
      case round =>
        obtain ⟨j, rfl, hj, HBx⟩ := hrel
        by_cases hjl : j < P.length
        case neg =>
          have HZb := Lib.hid (HbL.out _ (HBr.out.trans (HBx.out.mono HLs.out)))
          go_wp2_with fail
          go_ret
          exact ⟨rfl, HZb.out⟩
        case pos =>
          have hj0 : j < P0.length := by have := HPP.out; omega
          obtain ⟨g, g5, ws, xa, xc, ya, yc, rfl, rfl, hl64, hlx, hxm, hfact⟩ := HFact.out j hjl hj0
          obtain ⟨F, F1, F2, F3, -⟩ := overF wr
          have hall := fun u => hfact (F u) (HBx.out.trans ((F1 u).mono HBx.out.size))
          have cx : ∀ u, (F u).cell? ⟨g, j, none⟩ = some (.slice xa ws.length xc) := fun u => (hall u).1
          have cy : ∀ u, (F u).cell? ⟨g5, j, none⟩ = some (.slice ya ws.length yc) := fun u => (hall u).2.1
          have HSame := Lib.hid (fun u => same_calls (F u) xa ya xc yc ws hl64 (hall u).2.2.1 (hall u).2.2.2 hlx hxm)
          have HF1 := Lib.hid F1
          have HF3 := Lib.hid F3
          clear F1 F3 hall hfact
          go_wp2_with fail
          refine wp_region_classF F (by kernel_rfl) (by kernel_rfl) F2 ?_
          try dsimp only [List.append]
          repeat (go_big_quiet_step ((go_at_call 12; with_reducible exact quiet_overF HF3.out (HSame.out _))))
          refine wpQuiet_nil ?_
          intro _ hw'
          obtain ⟨u1, hw2⟩ := hw'
          subst hw2
          have HB9 := Lib.hid (HBx.out.trans ((HF1.out u1).mono HBx.out.size))
          go_wp2_with fail
          go_roundw
          case rel => exact ⟨j + 1, by go_num, by omega, HB9⟩
          case measure => simp [intOf]; omega
    case pos =>
      have hgo2 : zs.length + 1 - (i + 1) ≤ go - 1 := by omega
      have hgo3 : go - 1 < go := by omega
      have hi2 : i + 1 ≤ zs.length + 1 := by omega
      go_upto_if 48 with fail
      go_cut [13] (fun tv wq => ∃ t : Nat, tv = .int .i64 t ∧ at' ≤ t ∧ t ≤ b.length ∧ (i = zs.length → t = b.length) ∧ wr = wq)
      case first =>
        by_cases hlt : i < zs.length
        · obtain ⟨g2, o2, rfl, hz⟩ := (HZ.out.below (HbL.out wr HBr.out)).cell (by omega)
          have hzi := hz i hlt
          have hbd := HZ.out.bd zs[i] (List.getElem_mem _)
          clear hz
          generalize zs[i] = z at *
          go_wp2_with fail
          go_meet
          case rel => exact ⟨(max (at' : Int) (min z (b.length : Int))).toNat, congrArg (Value.int .i64) (by omega), by omega, by omega, fun h => absurd h (by omega), rfl⟩
        · go_wp2_with fail
          go_meet
          case rel => exact ⟨b.length, rfl, by omega, by omega, fun _ => rfl, rfl⟩
      case rest =>
        obtain ⟨t, rfl, ht1, ht2, ht3, rfl⟩ := hcut
        obtain ⟨m, hm⟩ : ∃ m, t = at' + m := ⟨t - at', by omega⟩
        obtain ⟨a3, -, hB3, hl3, hrun3⟩ := (HB.out.below (HbL.out wr HBr.out)).mid at' m (by omega)
        have hrun : ∀ wx, (Instr.slice 22 (.slice a b.length c) (some (.int .i64 (at' : Int))) (some (.int .i64 (t : Int))) none).run Tryz.prog wx = .ok (.slice a3 m (c - at')) wx := by
          rw [show (t : Int) = (at' : Int) + m by omega]
          exact hrun3
        have htk : b.take t = b.take at' ++ (b.drop at').take m := by rw [hm, List.take_add]
        have htl : (b.take t).length ≤ 4000 := by rw [List.length_take]; omega
        generalize (b.drop at').take m = q at *
        have Htk := Lib.hid htk
        have HB3 := Lib.hid hB3
        have hmb : m ≤ 4000 := by omega
        clear hB3 htk hrun3 hm
        go_upto_region 16 with fail
        go_cut [11] (fun av wq => av = .int .i64 at' ∧ ∃ (C2 : List (List (List UInt8))) (r2 : List UInt8) (e2 : Int) (G' : Nat), Hid (All (b.take t) (wordsQ P ++ C2) r2 e2) ∧ GotQ (L + 1) wq (.slice pa P.length cp) P ∧ Hid (Clear G' (.slice pa P.length cp) P) ∧ (L ≤ G' ∧ G' < wq.heap.size) ∧ Hid (Below L w2 wq) ∧
          ((∃ y, Hid (Wt L (L + 1) G' wq y) ∧ Hid (All y C2 r2 e2) ∧ y.length ≤ 8000) ∨ (Hid (Failed L wq) ∧ C2 = [] ∧ e2 = 61)))
        case first =>
          rcases hst with ⟨rfl, hW⟩ | ⟨rfl, hFd⟩
          · obtain ⟨C2, r2, e2, hA2⟩ := Lw.all_ex (r ++ q).length (r ++ q) (Nat.le_refl _)
            have HT : Hid (All (b.take t) (wordsQ P ++ C2) r2 e2) := Lib.hid (by rw [Htk.out]; exact HAr.out.more q rfl hA2)
            have HA2 := Lib.hid hA2
            have hf := feed_wt L (L + 1) G wr r hW a3 (c - at') q HB3.out (by omega)
            rw [hl3] at hf
            have HF := Lib.hid hf
            clear hf hW hA2
            go_wp2_with fail
            refine HF.out.mono ?_; rintro en w5 ⟨rfl, G', hW5, hF5, hG5⟩
            have hcl := HClr.out
            have HQ5 := Lib.hid (HQ.out.fr hF5 (fun k hk hs => by
              rcases hs with hs | hs
              · have := (HQ.out.own_lt hk).1; omega
              · exact hcl.1 (by rw [hk, hs])) (fun p hp ad e hs => by
              rcases hs with hs | hs
              · have := (HQ.out.apart p hp ad e).1; omega
              · exact hcl.2 p hp ad e hs))
            have HC5 := Lib.hid (hcl.next HQ.out hG5)
            have hG5l : L ≤ G' ∧ G' < w5.heap.size := by
              have h1 := hF5.size
              have h2 := HQ.out.le
              rcases hG5 with h | h
              · omega
              · omega
            have HB5 := Lib.hid (HBr.out.trans (hF5.below (B := L) (by have := HQ.out.le; omega) (fun i hi hs => by
              rcases hs with hs | hs
              · omega
              · omega)))
            have HW5 := Lib.hid hW5
            clear hF5 hG5 hW5 hcl
            go_wp2_with fail
            go_meet
            case rel => exact ⟨rfl, C2, r2, e2, G', HT, HQ5.out, HC5, hG5l, HB5, .inl ⟨r ++ q, HW5, HA2, by rw [List.length_append]; omega⟩⟩
          · have HT : Hid (All (b.take t) (wordsQ P ++ []) r 61) := Lib.hid (by rw [Htk.out, List.append_nil]; exact HAr.out.more_bad q rfl)
            have HFd := Lib.hid hFd
            clear hFd
            go_wp2_with fail
            refine (feed_failed L wr HFd.out _).mono ?_; rintro en w5 ⟨rfl, rfl⟩
            go_wp2_with fail
            go_meet
            case rel => exact ⟨rfl, [], r, 61, G, HT, HQ.out, HClr, hGl, HBr, .inr ⟨HFd, rfl, rfl⟩⟩
        case rest =>
          obtain ⟨rfl, C2, r2, e2, G', HT, hQ5, HCl5, hG5l, HB5, hst5⟩ := hcut
          have HQ5 := Lib.hid hQ5
          have hC2 : P.length + C2.length ≤ 4000 := by
            have h := HT.out.left_le
            rw [List.length_append, hPn] at h
            omega
          clear hQ5 hst
          go_wp2_with fail
          go_loopg [9, 10, 14, 15, 16] 5000 (fun g2 gv ev _ _ _ wx => ∃ (P' : List Piece) (c' : List (List (List UInt8))) (e0 : Int), ev = .int .i64 e0 ∧ Hid (wordsQ P' ++ c' = wordsQ P ++ C2) ∧ c'.length + 1 ≤ g2 ∧ P'.length + c'.length ≤ 4000 ∧ GotQ (L + 1) wx gv P' ∧ Hid (Clear G' gv P') ∧ G' < wx.heap.size ∧ Hid (Below L w2 wx) ∧
            ((∃ y, Hid (Wt L (L + 1) G' wx y) ∧ Hid (All y c' r2 e2) ∧ y.length ≤ 8000) ∨ (Hid (Failed L wx) ∧ c' = [] ∧ e2 = 61)))
          case atStart => exact ⟨P, C2, e, rfl, Lib.hid rfl, by omega, hC2, HQ5.out, HCl5, hG5l.2, HB5, hst5⟩
          case round =>
            obtain ⟨P', c', e0, rfl, HPc, hcg, hPb, hQx, HClx, hGx, HBx, hstx⟩ := hrel
            obtain ⟨pa', cp', rfl, hcp', hcpm', -, -⟩ := hQx.slice
            have HQx := Lib.hid hQx
            clear hQx
            rcases hstx with ⟨y, HWy, HAy, hyl⟩ | ⟨HFd, rfl, rfl⟩
            · have HN := Lib.hid (next_wt L (L + 1) G' wr y HWy.out (by omega) (fun w' h => HC.out w' (HbL.out w' (HBx.out.trans h))) c' r2 e2 HAy.out)
              go_wp2_with fail
              refine HN.out.mono ?_; rintro en w6 ⟨hF6, hres⟩
              have HB6 := Lib.hid (HBx.out.trans (hF6.below (B := L) (by have := HQx.out.le; omega) (fun i hi hs => by omega)))
              have HQ6 := Lib.hid (HQx.out.fr hF6 (fun k hk hs => by have := (HQx.out.own_lt hk).1; omega) (fun p hp ad e hs => by have := (HQx.out.apart p hp ad e).1; omega))
              have hsz6 := hF6.size
              rcases hres with ⟨rfl, rfl, rfl, hW6⟩ | ⟨rfl, rfl, rfl, hFd6⟩ | ⟨ws, c'', y', a', cq, rfl, rfl, hd6, hm6, hI6, hap6, hW6, hA6, hy6⟩
              · have HW6 := Lib.hid hW6
                have HZ6 : Hid (All (b.take t) (wordsQ P') r2 0) := Lib.hid (by have h := HT.out; rw [← HPc.out, List.append_nil] at h; exact h)
                clear hW6 hF6 HN
                go_wp2_with fail
                go_roundg (go - 1)
                case measure => rw [← hgo]; exact hgo3
                case rel => exact ⟨i + 1, t, P', r2, 0, G', by go_num, rfl, rfl, hi2, hgo2, ht2, fun h => ht3 (Nat.succ.inj h), HQ6.out, HClx, ⟨hG5l.1, by omega⟩, HB6, HZ6, .inl ⟨rfl, HW6.out⟩⟩
              · have HFd6 := Lib.hid hFd6
                have HZ6 : Hid (All (b.take t) (wordsQ P') r2 61) := Lib.hid (by have h := HT.out; rw [← HPc.out, List.append_nil] at h; exact h)
                clear hFd6 hF6 HN
                go_wp2_with fail
                go_roundg (go - 1)
                case measure => rw [← hgo]; exact hgo3
                case rel => exact ⟨i + 1, t, P', r2, 61, G', by go_num, rfl, rfl, hi2, hgo2, ht2, fun h => ht3 (Nat.succ.inj h), HQ6.out, HClx, ⟨hG5l.1, by omega⟩, HB6, HZ6, .inr ⟨rfl, HFd6.out⟩⟩
              · have HI6 : Hid (InS w6 a' ws) := Lib.hid hI6
                have HW6 := Lib.hid hW6
                have HA6 := Lib.hid hA6
                have HAp : Hid (∀ ad, a' = some ad → L + 1 ≤ ad.block ∧ ad.block < w6.heap.size ∧ (Value.slice pa' P'.length cp').ownBlock ≠ some ad.block) := Lib.hid (fun ad e => by
                  have h1 := hap6 ad e
                  have h2 := HQx.out.le
                  exact ⟨by omega, h1.2, fun e2 => by have := (HQx.out.own_lt e2).2; omega⟩)
                have HapG : Hid (∀ ad, a' = some ad → ad.block ≠ G') := Lib.hid (fun ad e => by have h1 := hap6 ad e; omega)
                rw [List.length_cons] at hcg hPb
                clear hI6 hW6 hA6 hap6 hF6 HN
                go_wp2_with (at_builtin; refine got_push HQ6.out rfl _ _ rfl rfl (ws, a', cq) _ _ _ rfl rfl ?hl ⟨HI6.out, hd6, hm6⟩ HAp.out ?_)
                case hl => omega
                intro v7 w7 hQ7 hg7 hat7
                have hF7 : Fr (fun i => (Value.slice pa' P'.length cp').ownBlock = some i) w6 w7 := Fr.of_grown hg7 (fun k hk => hk)
                have HW7 := Lib.hid (HW6.out.fr hF7 (fun hs => by have := (HQ6.out.own_lt hs).1; omega) (fun hs => HClx.out.1 hs))
                have HB7 := Lib.hid (HB6.out.trans (hF7.below (B := L) (by have := HQ6.out.le; omega) (fun i hi hs => by have := (HQ6.out.own_lt hs).1; omega)))
                have HCl7 : Hid (Clear G' v7 (P' ++ [(ws, a', cq)])) := Lib.hid ⟨fun e => by
                  rcases hat7 with h | ⟨k, h, hk⟩
                  · exact HClx.out.1 (h.symm.trans e)
                  · rw [h] at e
                    injection e with e
                    omega, fun p hp ad e => by
                  rcases List.mem_append.1 hp with hp | hp
                  · exact HClx.out.2 p hp ad e
                  · rw [List.mem_singleton] at hp
                    subst hp
                    exact HapG.out ad e⟩
                have hsz7 := hF7.size
                obtain ⟨pa7, cp7, rfl, -, -, -, -⟩ := hQ7.slice
                have HQ7 := Lib.hid hQ7
                clear hQ7 hg7 hat7 hF7
                go_wp2_with fail
                go_roundg (gk - 1)
                case measure => omega
                case rel => exact ⟨P' ++ [(ws, a', cq)], c'', 0, rfl, Lib.hid (by rw [wordsQ_app, List.append_assoc]; exact HPc.out), by omega, by rw [List.length_append, List.length_singleton]; omega, HQ7.out, HCl7, by omega, HB7, .inl ⟨y', HW7, HA6, by omega⟩⟩
            · have HZ6 : Hid (All (b.take t) (wordsQ P') r2 61) := Lib.hid (by have h := HT.out; rw [← HPc.out, List.append_nil] at h; exact h)
              go_wp2_with fail
              refine (next_failed L _ HFd.out).mono ?_; rintro en w6 ⟨rfl, rfl⟩
              go_wp2_with fail
              go_roundg (go - 1)
              case measure => rw [← hgo]; exact hgo3
              case rel => exact ⟨i + 1, t, P', r2, 61, G', by go_num, rfl, rfl, hi2, hgo2, ht2, fun h => ht3 (Nat.succ.inj h), HQx.out, HClx, ⟨hG5l.1, hGx⟩, HBx, HZ6, .inr ⟨rfl, HFd.out⟩⟩
end Go.Proofs.YtenhgjpoigkdgaaGreatDoor.Ln
